import PyProof.Rows.All
import Wide.All
import OpenK.AllK
import Wide.FinOn
import Lean
import PyProof.EqAt
import PyProof.EqKinds
import PyProof.TupleCall
import PyProof.DictWalks
import KE.KEqDict
import KE.KIntText
import PyProof.CallStr
import PyProof.DictTruth
import KE.KTupSum
import KE.KListMore
import PyProof.Rows.MinMaxN
import PyProof.MinMaxWalk
import PyProof.Rows.CallKwBuiltin
import PyProof.Rows.StrCase
import PyProof.StrLawsReplace
import PySem.Challenge.RW_oneofall_k15_lines_that_tell_no_row
set_option Elab.async false
set_option linter.all false
set_option maxRecDepth 100000
-- CHANGE: your row's module here, as the last of these rows
/-! THE HAND LAYER, for ints, bools, texts, own classes, LISTS and tuples (index, slices, in, append, pop ..), calls, loops. Paste it whole ahead of your own text; what your proof does not reach may be deleted. -/
namespace L2
open PySem PySem.Spec PyProof.Rows
/-- a key: an int or a str -/
abbrev Key := Sum Int Str
def keyIs : Key → Value → Bool
  | .inl k, v => Value.isInt k v
  | .inr x, v => Value.isStrOf x v
def keyH (w : World) : Key → Int
  | .inl k => hashInt k
  | .inr x => hashStr w x
theorem keyIs_shape : ∀ {k : Key} {v : Value}, keyIs k v = true → (∃ i t, k = Sum.inl i ∧ v = Value.int i t) ∨ (∃ x t, k = Sum.inr x ∧ v = Value.str x t)
  | .inl i, v, h => by
    obtain ⟨t, e⟩ := Value.isInt_shape (k := i) (v := v) h
    exact .inl ⟨i, t, rfl, e⟩
  | .inr x, v, h => by
    obtain ⟨t, e⟩ := Value.isStrOf_shape (x := x) (v := v) h
    exact .inr ⟨x, t, rfl, e⟩
theorem keyIs_int (i : Int) (t : Tok) : keyIs (.inl i) (.int i t) = true := by simp [keyIs, Value.isInt]
theorem keyIs_str (x : Str) (t : Tok) : keyIs (.inr x) (.str x t) = true := by simp [keyIs, Value.isStrOf]
theorem key_ll (a b : Int) : decide ((Sum.inl a : Key) = Sum.inl b) = (a == b) := by
  by_cases e : a = b
  · subst e; simp
  · have h : ¬ (Sum.inl a : Key) = Sum.inl b := fun q => e (Sum.inl.inj q)
    rw [decide_eq_false h]
    exact (beq_eq_false_iff_ne.mpr e).symm
theorem key_rr (a b : Str) : decide ((Sum.inr a : Key) = Sum.inr b) = decide (a = b) := by
  by_cases e : a = b
  · subst e; simp
  · have h : ¬ (Sum.inr a : Key) = Sum.inr b := fun q => e (Sum.inr.inj q)
    rw [decide_eq_false h, decide_eq_false e]
theorem key_lr (a : Int) (b : Str) : decide ((Sum.inl a : Key) = Sum.inr b) = false := decide_eq_false (fun q => nomatch q)
theorem key_rl (a : Str) (b : Int) : decide ((Sum.inr a : Key) = Sum.inl b) = false := decide_eq_false (fun q => nomatch q)
def mixKind (prog : Program) (w : World) : PySem.KeyKind prog w Key where
  is := keyIs
  hash := keyH w
  inj := fun v a b ha hb => by
    rcases keyIs_shape ha with ⟨i, t, rfl, rfl⟩ | ⟨x, t, rfl, rfl⟩
    · rcases keyIs_shape hb with ⟨j, u, rfl, e⟩ | ⟨y, u, rfl, e⟩
      · injection e with e1 _; rw [e1]
      · exact nomatch e
    · rcases keyIs_shape hb with ⟨j, u, rfl, e⟩ | ⟨y, u, rfl, e⟩
      · exact nomatch e
      · injection e with e1 _; rw [e1]
  byValue := fun k v h => by
    rcases keyIs_shape h with ⟨i, t, rfl, rfl⟩ | ⟨x, t, rfl, rfl⟩ <;> rfl
  pyHash := fun hv h => by
    rcases keyIs_shape hv with ⟨i, t, rfl, rfl⟩ | ⟨x, t, rfl, rfl⟩
    · exact wpAny_pyHash_int h
    · exact wpAny_pyHash_str h
  eqBool := fun hu hv h => by
    rcases keyIs_shape hu with ⟨i, t, rfl, rfl⟩ | ⟨x, t, rfl, rfl⟩
    · rcases keyIs_shape hv with ⟨j, u, rfl, rfl⟩ | ⟨y, u, rfl, rfl⟩
      · rw [key_ll] at h; exact wpAny_eqBool_int h
      · rw [key_lr] at h; exact SeqAt.EqAt.int_str i t y u _ _ _ _ h
    · rcases keyIs_shape hv with ⟨j, u, rfl, rfl⟩ | ⟨y, u, rfl, rfl⟩
      · rw [key_rl] at h; exact SeqAt.EqAt.str_int x t j u _ _ _ _ h
      · rw [key_rr] at h; exact wpAny_eqBool_str h
  «strs» := fun k x t v h => by
    rcases keyIs_shape h with ⟨i, u, rfl, e⟩ | ⟨y, u, rfl, e⟩
    · exact nomatch e
    · injection e with e1 _
      subst e1
      cases v <;> rfl
theorem mixKind_int (prog : Program) (w : World) (i : Int) (t : Tok) : (mixKind prog w).is (.inl i) (.int i t) = true := keyIs_int i t
theorem mixKind_str (prog : Program) (w : World) (x : Str) (t : Tok) : (mixKind prog w).is (.inr x) (.str x t) = true := keyIs_str x t
end L2
namespace L2
open PySem PySem.Spec PyProof.Rows
/-- a value, without the heap -/
inductive V where
  | non | bl (b : Bool) | int (i : Int) | str (x : Str) | byt (b : Array UInt8) | flt (b : UInt64) | ref (a : Addr) | ty (n : String)
  deriving DecidableEq
def RelV : V → Value → Prop
  | .non, u => u = Value.none
  | .bl b, u => u = Value.bool b
  | .int i, u => ∃ t, u = Value.int i t
  | .str x, u => ∃ t, u = Value.str x t
  | .byt b, u => ∃ t, u = Value.bytes b t
  | .flt b, u => ∃ t, u = Value.float b t
  | .ref a, u => u = Value.ref a
  | .ty n, u => u = Value.type n
abbrev Vals : List V → List Value → Prop := Paired RelV
theorem Vals.length {xs : List V} {us : List Value} (r : Vals xs us) : xs.length = us.length := Paired.length r
theorem Vals.get : ∀ {xs : List V} {us : List Value} {i : Nat} {x : V}, Vals xs us → xs[i]? = some x → ∃ u, us[i]? = some u ∧ RelV x u
  | _, _, _, _, .nil, e => by simp at e
  | _, _, 0, _, .cons r _, e => by simp at e; subst e; exact ⟨_, rfl, r⟩
  | _, _, i + 1, x, .cons _ t, e => by
    obtain ⟨u, h1, h2⟩ := Vals.get (i := i) (x := x) t (by simpa using e)
    exact ⟨u, by simpa using h1, h2⟩
theorem Vals.set {x : V} {u : Value} (r : RelV x u) : ∀ {xs : List V} {us : List Value} (i : Nat), Vals xs us → Vals (xs.set i x) (us.set i u)
  | _, _, _, .nil => .nil
  | _, _, 0, .cons _ t => .cons r t
  | _, _, i + 1, .cons q t => .cons q (Vals.set r i t)
theorem Vals.append : ∀ {xs ys : List V} {us ws : List Value}, Vals xs us → Vals ys ws → Vals (xs ++ ys) (us ++ ws)
  | _, _, _, _, .nil, s => s
  | _, _, _, _, .cons r t, s => .cons r (Vals.append t s)
theorem Vals.take : ∀ {xs : List V} {us : List Value} (n : Nat), Vals xs us → Vals (xs.take n) (us.take n)
  | _, _, 0, _ => .nil
  | _, _, _ + 1, .nil => .nil
  | _, _, n + 1, .cons r t => .cons r (Vals.take n t)
theorem Vals.drop : ∀ {xs : List V} {us : List Value} (n : Nat), Vals xs us → Vals (xs.drop n) (us.drop n)
  | _, _, 0, r => r
  | _, _, _ + 1, .nil => .nil
  | _, _, n + 1, .cons _ t => Vals.drop n t
def RelO : Option V → Option Value → Prop
  | some v, some u => RelV v u
  | none, none => True
  | _, _ => False
def KV {κ : Type} : List (κ × V) → List (κ × Value) → Prop := Paired fun (p : κ × V) (q : κ × Value) => p.1 = q.1 ∧ RelV p.2 q.2
/-- a key of a dict (00_mix): an int or a text -/
def kV : Key → V
  | .inl i => .int i
  | .inr x => .str x
/-- what stands at a tracked address -/
inductive HO where
  /-- a list -/
  | lst (xs : List V)
  /-- a tuple (never changes) -/
  | tup (xs : List V)
  /-- a dict whose keys are ints and texts; one whose keys are tuples of ints and texts (the empty one is both) -/
  | dK (kvs : List (Key × V)) | dT (kvs : List (List Key × V))
  /-- a set of ints: its members, its size -/
  | set (S : Int → Bool) (n : Nat)
  /-- an instance of the class at C, its dict at dx, its attributes -/
  | ins (C dx : Addr) (fs : List (Str × V))
  /-- the dict of the instance at x -/
  | own (x : Addr)
  /-- the dict of an exception -/
  | xd (fs : List (Str × V))
  /-- a bound method, f of x -/
  | met (f x : Addr)
  /-- a range object lo, lo + 1, .. below hi -/
  | rng (lo hi : Int)
  /-- a thing that is known to the object (the script; a dict while a loop walks it): read, never written while it is so -/
  | frz (o : Obj) (u : HO)
  /-- a code object's table -/
  | tbl (ps : Array Value)
  /-- any other thing, by what is true of its one object (a def of one's own: SetO a S n := HO.ext fun h => ..) -/
  | ext (φ : Heap → Prop)
abbrev Hp := Addr → Option HO
def upd (H : Hp) (a : Addr) (o : HO) : Hp := fun b => if b = a then some o else H b
theorem upd_same {H : Hp} {a : Addr} {o : HO} : upd H a o a = some o := by unfold upd; rw [if_pos rfl]
theorem upd_ne {H : Hp} {a b : Addr} {o : HO} (h : b ≠ a) : upd H a o b = H b := by unfold upd; rw [if_neg h]
/-- two objects of different content stand apart -/
theorem ne_of {H : Hp} {a b : Addr} {o u : HO} (h : H a = some o) (h' : H b = some u) (d : o ≠ u) : a ≠ b := by
  intro e; subst e; rw [h] at h'; exact d (Option.some.inj h')
theorem ne_of_none {H : Hp} {a b : Addr} {o : HO} (h : H a = some o) (h' : H b = none) : a ≠ b := by
  intro e; subst e; rw [h] at h'; cases h'
section
variable (P : Program) (w : World)
def ObjOk (H : Hp) (h : Heap) (a : Addr) : HO → Prop
  | .lst xs => xs.length ≤ sizeLine ∧ ∃ (its : List Value) (n : Nat), Vals xs its ∧ h.get? a = some { cls := .type "list", data := .seq its.toArray n }
  | .tup xs => xs.length ≤ sizeLine ∧ ∃ its : List Value, Vals xs its ∧ IsTup h a its.toArray
  | .dK kvs => kvs.length ≤ sizeLine ∧ (a == sysModules) = false ∧ ∃ vs, KV kvs vs ∧ h.DictOf (mixKind P w) a vs
  | .dT kvs => kvs.length ≤ sizeLine ∧ (a == sysModules) = false ∧ ∃ xs : List (List Key × Addr × Value),
      Paired (fun (p : List Key × V) (q : List Key × Addr × Value) => p.1 = q.1 ∧ H q.2.1 = some (.tup (p.1.map kV)) ∧ RelV p.2 q.2.2) kvs xs ∧
      ∃ o es ep, h.get? a = some o ∧ o.ExactDict ∧ o.data = .dict es ep ∧ es.toList = xs.map (entryOfKey (tupleKind (mixKind P w))) ∧ (xs.map (·.1)).Nodup
  | .set S n => h.SetOf (intKind P w) a S n
  | .ins C dx fs => H dx = some (.own a) ∧ fs.length ≤ 1000 ∧ dx ≠ a ∧ h.get? a = some (PySem.W.instObj C dx) ∧
      ∃ mA, h.Ns1 dx mA ∧ (∀ f, RelO (fs.lookup f) (mA f)) ∧ PySem.Within mA (fs.map (·.1))
  | .own _ => ∃ o, h.get? a = some o
  | .xd fs => ∃ mA, h.Ns1 a mA ∧ ∀ f, RelO (fs.lookup f) (mA f)
  | .rng lo hi => ∃ t u v, h.get? a = some { cls := .type "range", data := .fields #[.int lo t, .int hi u, .int 1 v] }
  | .frz o u => h.get? a = some o ∧ ObjOk H h a u
  | .tbl ps => h.get? a = some { cls := .none, data := .fields ps }
  | .met f x => h.get? a = some (PySem.W.methodObj (.ref f) (.ref x))
  | .ext φ => φ h ∧ (∃ o, h.get? a = some o) ∧ ∀ h1 h2 : Heap, φ h1 → (∀ o, h1.get? a = some o → h2.get? a = some o) → φ h2
/-- the abstract heap is held -/
def HOk (H : Hp) (h : Heap) : Prop := ∀ a o, H a = some o → ObjOk P w H h a o
end
section
variable {P : Program} {w : World} {H H' : Hp} {h h' : Heap} {a : Addr} {o : HO}
theorem ObjOk.lt (x : ObjOk P w H h a o) : a < h.objs.size := by
  cases o with
  | lst xs => obtain ⟨_, _, _, _, e⟩ := x; exact Heap.lt_size e
  | tup xs => obtain ⟨_, _, _, p⟩ := x; exact p.lt
  | dK kvs => obtain ⟨_, _, _, _, o, _, _, e, _⟩ := x; exact Heap.lt_size e
  | dT kvs => obtain ⟨_, _, _, _, o, _, _, e, _⟩ := x; exact Heap.lt_size e
  | set S n => obtain ⟨o, _, _, _, e, _⟩ := x; exact Heap.lt_size e
  | ins C dx fs => obtain ⟨_, _, _, e, _⟩ := x; exact Heap.lt_size e
  | own y => obtain ⟨_, e⟩ := x; exact Heap.lt_size e
  | xd fs => obtain ⟨_, ⟨_, _, _, e, _⟩, _⟩ := x; exact Heap.lt_size e
  | rng lo hi => obtain ⟨_, _, _, e⟩ := x; exact Heap.lt_size e
  | frz ob u => obtain ⟨e, _⟩ := x; exact Heap.lt_size e
  | tbl ps => exact Heap.lt_size (show h.get? a = some _ from x)
  | met f y => exact Heap.lt_size (show h.get? a = some _ from x)
  | ext φ => obtain ⟨_, ⟨_, e⟩, _⟩ := x; exact Heap.lt_size e
theorem Paired.mapP {α β : Type} {F G : α → β → Prop} : ∀ {l₁ : List α} {l₂ : List β}, Paired F l₁ l₂ → (∀ a b, F a b → G a b) → Paired G l₁ l₂
  | _, _, .nil, _ => .nil
  | _, _, .cons r t, f => .cons (f _ _ r) (Paired.mapP t f)
/-- what an object's description leans on: its own object, its own dict, the tuples -/
theorem ObjOk.stay (x : ObjOk P w H h a o) (k : ∀ b u, (b = a ∨ H b = some (.own a)) → h.get? b = some u → h'.get? b = some u)
    (ho : ∀ b, H b = some (.own a) → H' b = some (.own a)) (ht : ∀ b xs, H b = some (.tup xs) → H' b = some (.tup xs)) : ObjOk P w H' h' a o := by
  induction o with
  | lst xs => obtain ⟨z, its, n, r, e⟩ := x; exact ⟨z, its, n, r, k _ _ (.inl rfl) e⟩
  | tup xs => obtain ⟨z, its, r, ob, e, c⟩ := x; exact ⟨z, its, r, ob, k _ _ (.inl rfl) e, c⟩
  | dK kvs => obtain ⟨z, y, vs, r, ob, es, ep, e, c⟩ := x; exact ⟨z, y, vs, r, ob, es, ep, k _ _ (.inl rfl) e, c⟩
  | dT kvs =>
    obtain ⟨z, y, xs, r, ob, es, ep, e, c⟩ := x
    exact ⟨z, y, xs, Paired.mapP r fun p q z => ⟨z.1, ht _ _ z.2.1, z.2.2⟩, ob, es, ep, k _ _ (.inl rfl) e, c⟩
  | set S n => obtain ⟨ob, es, ep, t, e, c⟩ := x; exact ⟨ob, es, ep, t, k _ _ (.inl rfl) e, c⟩
  | ins C dx fs =>
    obtain ⟨d, z, ne, e, mA, ⟨od, es, ep, e2, c⟩, r⟩ := x
    exact ⟨ho _ d, z, ne, k _ _ (.inl rfl) e, mA, ⟨od, es, ep, k _ _ (.inr d) e2, c⟩, r⟩
  | own y => obtain ⟨ob, e⟩ := x; exact ⟨ob, k _ _ (.inl rfl) e⟩
  | xd fs => obtain ⟨mA, ⟨od, es, ep, e, c⟩, r⟩ := x; exact ⟨mA, ⟨od, es, ep, k _ _ (.inl rfl) e, c⟩, r⟩
  | rng lo hi => obtain ⟨t, u, v, e⟩ := x; exact ⟨t, u, v, k _ _ (.inl rfl) e⟩
  | frz ob u ih => obtain ⟨e, q⟩ := x; exact ⟨k _ _ (.inl rfl) e, ih q⟩
  | tbl ps =>
    have e : h.get? a = some { cls := .none, data := .fields ps } := x
    show h'.get? a = some { cls := .none, data := .fields ps }
    exact k a _ (.inl rfl) e
  | met f y =>
    have e : h.get? a = some (PySem.W.methodObj (.ref f) (.ref y)) := x
    show h'.get? a = some (PySem.W.methodObj (.ref f) (.ref y))
    exact k a _ (.inl rfl) e
  | ext φ => obtain ⟨p, ⟨o, e⟩, st⟩ := x; exact ⟨st _ _ p fun o q => k _ _ (.inl rfl) q, ⟨o, k _ _ (.inl rfl) e⟩, st⟩
theorem HOk.lt (x : HOk P w H h) (e : H a = some o) : a < h.objs.size := (x a o e).lt
theorem HOk.fresh (x : HOk P w H h) (e : h.objs.size ≤ a) : H a = none := by
  cases q : H a with
  | none => rfl
  | some u => exact absurd (Nat.lt_of_lt_of_le (x.lt q) e) (Nat.lt_irrefl _)
/-- every object of the heap is kept -/
theorem HOk.kept (x : HOk P w H h) (k : ∀ b u, h.get? b = some u → h'.get? b = some u) : HOk P w H h' := fun a o e =>
  (x a o e).stay (fun b u _ q => k b u q) (fun _ q => q) fun _ _ q => q
/-- a new object is laid and tracked -/
theorem HOk.laid (x : HOk P w H h) (k : ∀ b u, h.get? b = some u → h'.get? b = some u) (hp : h.objs.size ≤ a) (new : ObjOk P w (upd H a o) h' a o) : HOk P w (upd H a o) h' := fun b u e => by
  have hn := x.fresh hp
  by_cases hb : b = a
  · subst hb; rw [upd_same] at e; cases e; exact new
  · rw [upd_ne hb] at e
    exact (x b u e).stay (fun c v _ q => k c v q) (fun c q => by rw [upd_ne (ne_of_none q hn)]; exact q) fun c xs q => by rw [upd_ne (ne_of_none q hn)]; exact q
end
/-- what may be read as u: it is u, or a known u -/
def Rd (H : Hp) (a : Addr) (u : HO) : Prop := H a = some u ∨ ∃ o, H a = some (.frz o u)
theorem Rd.ok {P : Program} {w : World} {H : Hp} {h : Heap} {a : Addr} {u : HO} (r : Rd H a u) (x : HOk P w H h) : ObjOk P w H h a u := by
  rcases r with r | ⟨o, r⟩
  · exact x a u r
  · obtain ⟨_, q⟩ := x a _ r
    exact q
/-- what may be written -/
def Mut : Option HO → Prop
  | some (.lst _) => True
  | some (.dK _) => True
  | some (.dT _) => True
  | some (.set _ _) => True
  | some (.ins _ _ _) => True
  | some (.ext _) => True
  | _ => False
section
variable {P : Program} {w : World} {H : Hp} {h h' : Heap} {x e : Addr} {o' : HO}
/-- the object at e is changed: x itself, or the dict of the instance x -/
theorem HOk.write (ok : HOk P w H h) (mu : Mut (H x)) (he : e = x ∨ H e = some (.own x)) (k : ∀ b u, b ≠ e → h.get? b = some u → h'.get? b = some u) (heo : ∃ u, h'.get? e = some u)
    (new : ObjOk P w (upd H x o') h' x o') : HOk P w (upd H x o') h' := fun b u q => by
  have nown : ∀ c y, H c = some (.own y) → c ≠ x := fun c y r z => by subst z; rw [r] at mu; exact mu
  have ntup : ∀ c xs, H c = some (.tup xs) → c ≠ x := fun c xs r z => by subst z; rw [r] at mu; exact mu
  by_cases hb : b = x
  · subst hb; rw [upd_same] at q; cases q; exact new
  · rw [upd_ne hb] at q
    by_cases hbe : b = e
    · have q' : H b = some (.own x) := by
        rcases he with z | z
        · exact absurd (hbe.trans z) hb
        · rw [hbe]; exact z
      rw [q] at q'; cases q'
      obtain ⟨v, hv⟩ := heo
      exact ⟨v, by rw [hbe]; exact hv⟩
    · refine (ok b u q).stay (fun c v hc r => k c v ?_ r) (fun c r => by rw [upd_ne (nown c b r)]; exact r) fun c xs r => by rw [upd_ne (ntup c xs r)]; exact r
      rcases hc with rfl | hc
      · exact hbe
      · rintro rfl
        rcases he with z | z
        · exact nown c b hc z
        · rw [hc] at z; cases z; exact hb rfl
end
/-! ### kept unless tracked; of the frames at fs (the callers') the slots may change (an exception that passes writes there); of the records at ex (iterators) nothing is said -/
structure Un (fs ex : List Addr) (H H' : Hp) (h h' : Heap) : Prop where
  keep : ∀ b o, h.get? b = some o → H b = none → b ∉ fs → b ∉ ex → h'.get? b = some o
  slot : ∀ b o, h.get? b = some o → H b = none → b ∈ fs → b ∉ ex → ∃ sl, h'.get? b = some { o with slots := sl }
  free : ∀ b o, h.get? b = some o → H b = none → b ∉ ex → H' b = none
  there : ∀ b o, h.get? b = some o → b ∉ ex → ∃ o', h'.get? b = some o'
  tups : ∀ b xs, H b = some (.tup xs) → H' b = some (.tup xs)
  frzs : ∀ b o u, H b = some (.frz o u) → H' b = some (.frz o u)
  tbls : ∀ b ps, H b = some (.tbl ps) → ∃ more, H' b = some (.tbl (ps ++ more))
section
variable {fs fs' ex ex' : List Addr} {H H1 H2 : Hp} {h h1 h2 h' : Heap} {a x e : Addr} {o : HO}
theorem Un.any (u : Un fs ex H H1 h h1) {b : Addr} {ob : Obj} (q : h.get? b = some ob) (n : H b = none) (hx : b ∉ ex) : ∃ sl, h1.get? b = some { ob with slots := sl } := by
  by_cases hb : b ∈ fs
  · exact u.slot b ob q n hb hx
  · exact ⟨ob.slots, u.keep b ob q n hb hx⟩
theorem Un.kept (k : ∀ b u, h.get? b = some u → h'.get? b = some u) : Un fs ex H H h h' :=
  ⟨fun b ob q _ _ _ => k b ob q, fun b ob q _ _ _ => ⟨ob.slots, k b ob q⟩, fun _ _ _ n _ => n, fun b ob q _ => ⟨ob, k b ob q⟩, fun _ _ q => q, fun _ _ _ q => q, fun _ ps q => ⟨#[], by rw [q]; simp⟩⟩
theorem Un.refl : Un fs ex H H h h := Un.kept fun _ _ q => q
theorem Un.laid (k : ∀ b u, h.get? b = some u → h'.get? b = some u) (hp : h.objs.size ≤ a) (hn : H a = none) : Un fs ex H (upd H a o) h h' where
  keep := fun b u q _ _ _ => k b u q
  slot := fun b u q _ _ _ => ⟨u.slots, k b u q⟩
  free := fun b u q n _ => by rw [upd_ne (Nat.ne_of_lt (Nat.lt_of_lt_of_le (Heap.lt_size q) hp))]; exact n
  there := fun b u q _ => ⟨u, k b u q⟩
  tups := fun b xs q => by rw [upd_ne (ne_of_none q hn)]; exact q
  frzs := fun b u xs q => by rw [upd_ne (ne_of_none q hn)]; exact q
  tbls := fun b ps q => ⟨#[], by rw [upd_ne (ne_of_none q hn), q]; simp⟩
theorem Un.write (mu : Mut (H x)) (he : e = x ∨ H e = some (.own x)) (k : ∀ b u, b ≠ e → h.get? b = some u → h'.get? b = some u) (heo : ∃ u, h'.get? e = some u) : Un fs ex H (upd H x o) h h' := by
  have hx : ∀ b, H b = none → b ≠ x := fun b n z => by subst z; rw [n] at mu; exact mu
  have hb : ∀ b, H b = none → b ≠ e := fun b n z => by
    subst z
    rcases he with r | r
    · exact hx b n r
    · rw [n] at r; cases r
  have hm : ∀ b u, H b = some u → ¬ Mut (some u) → b ≠ x := fun b u q nm z => by subst z; rw [q] at mu; exact nm mu
  refine ⟨fun b u q n _ _ => k b u (hb b n) q, fun b u q n _ _ => ⟨u.slots, k b u (hb b n) q⟩, fun b u q n _ => by rw [upd_ne (hx b n)]; exact n, fun b u q _ => ?_,
    fun b xs q => by rw [upd_ne (hm b _ q fun z => z)]; exact q, fun b u xs q => by rw [upd_ne (hm b _ q fun z => z)]; exact q, fun b ps q => ⟨#[], by rw [upd_ne (hm b _ q fun z => z), q]; simp⟩⟩
  by_cases hbe : b = e
  · subst hbe; exact heo
  · exact ⟨u, k b u hbe q⟩
end
/-! ### the heap without what is tracked -/
def trk (h : Heap) (H : Hp) : List Addr := (List.range h.objs.size).filter fun a => (H a).isSome
def hidT (h : Heap) (H : Hp) : Heap := PySem.W.hideAll h (trk h H)
theorem hidT_size (h : Heap) (H : Hp) : (hidT h H).objs.size = h.objs.size := PySem.W.hideAll_size _ _
theorem hidT_get {h : Heap} {H : Hp} {b : Addr} {o : Obj} (e : h.get? b = some o) (n : H b = none) : (hidT h H).get? b = some o :=
  PySem.W.hideAll_get _ e fun hm => by
    have q : (H b).isSome = true := (List.mem_filter.mp hm).2
    rw [n] at q; simp at q
theorem of_hidT {h : Heap} {H : Hp} {b : Addr} {o : Obj} (e : (hidT h H).get? b = some o) : h.get? b = some o ∧ H b = none := by
  have e' : h.get? b = some o := PySem.W.of_hideAll (trk h H) e
  refine ⟨e', ?_⟩
  cases q : H b with
  | none => rfl
  | some x =>
    have hm : b ∈ trk h H := List.mem_filter.mpr ⟨List.mem_range.mpr (Heap.lt_size e'), by simp [q]⟩
    have z : (hidT h H).get? b = none := PySem.W.hideAll_none (trk h H) hm
    rw [z] at e; cases e
/-! ### OpenK's ledger, filled with every new object but one -/
def allNews (g h : Heap) (L : Addr) : List (Addr × Obj) := (List.range h.objs.size).filterMap fun a => if a = L ∨ (g.get? a).isSome = true then none else (h.get? a).map fun o => (a, o)
def rest (g h : Heap) (L d : Addr) : List (Addr × Obj) := (allNews g h L).filter fun p => decide (p.1 ≠ d)
end L2
namespace L2
open PySem PySem.Spec PyProof.Rows
/-- the module's facts, over the base: the heap at the law's entry without what is tracked there -/
structure Mod (K : PySem.W.Frag) (mg : Str → Option Value) (base : Heap) : Prop where
  kin : K.In base
  glob : base.Ns mainGlobals mg
  blt : ∃ mb, base.Ns builtinsNs mb ∧ ∀ x : Str, x ≠ "__name__" → mb x = bootBuiltins x
  nolimit : base.NoLimit
/-- the context: a def's body (or a comprehension's block) running. base: fixed through the whole law; s₀, H₀: the entry; outer: the frames whose slots others may change (a def's callers); stack: all frames that run;
   ex: iterators that were made ahead of the entry and are walked here (a comprehension's); fn: the names whose cells were made at the entry (a def: all; a comprehension's block: its own); calm: not within an except suite; pn: pins that every state bears; xe: what is wanted of an exception that leaves the code -/
structure Cx where
  prog : Program
  w : World
  K : PySem.W.Frag
  mg : Str → Option Value
  base : Heap
  A : Around
  N : List Str
  s₀ : Shared
  H₀ : Hp
  env : Env
  outer : List Env
  stack : List Env
  ex : List Addr
  fn : Str → Bool
  calm : Bool
  pn : List (Addr × Obj)
  xe : Value → Shared → Prop
/-- the callers' frames -/
def frs (l : List Env) : List Addr := l.filterMap (·.frame)
abbrev Cx.fs (X : Cx) : List Addr := frs X.outer
def Vis (sc : Scope) (x : Str) : Prop := sc.names.lookup x = some .local ∨ sc.names.lookup x = some .cell ∨ sc.names.lookup x = some .free
def Loc (sc : Scope) (x : Str) : Prop := sc.names.lookup x = some .local ∨ sc.names.lookup x = some .cell
def Look (env : Env) (h : Heap) (m : Str → Option Value) (x : Str) (u : Value) : Prop :=
  (env.kindOf x = some .local ∧ m x = some u) ∨ ((env.kindOf x = some .cell ∨ env.kindOf x = some .free) ∧ ∃ c, env.cells.lookup x = some c ∧ h.IsCell c (some u))
structure Cx.Ok (X : Cx) : Prop where
  mod : Mod X.K X.mg X.base
  kind : X.env.scope.kind = .function
  glob : X.env.globals = mainGlobals
  blt : X.env.builtins = builtinsNs
  above : X.s₀.heap.objs.size ≤ X.env.locals
  inj : ∀ x y c, X.env.cells.lookup x = some c → X.env.cells.lookup y = some c → x = y
  has : ∀ x, (X.env.kindOf x = some .cell ∨ X.env.kindOf x = some .free) → ∃ c, X.env.cells.lookup x = some c
  cab : ∀ x c, X.fn x = true → X.env.cells.lookup x = some c → X.s₀.heap.objs.size ≤ c
  hd : X.calm = true → X.A.handled = none
  frames : X.A.frames = some X.stack
  stk : X.stack = X.outer ∨ (X.stack = X.env :: X.outer ∧ X.env.frame = some X.env.locals)
  exf : ∀ b ∈ X.ex, b ≠ X.env.locals ∧ ∀ x c, X.env.cells.lookup x = some c → c ≠ b
  bs : ∀ b o, X.base.get? b = some o → X.s₀.heap.get? b = some o ∧ X.H₀ b = none
  bsz : X.base.objs.size ≤ X.s₀.heap.objs.size
  noex : ∀ b o, X.base.get? b = some o → b ∉ X.ex
  exfs : ∀ b ∈ X.ex, b ∉ X.fs
  funs : X.s₀.heap.FunFrames X.base X.outer
  frf : ∀ b ∈ X.fs, X.H₀ b = none
structure Inv (X : Cx) (pins : List (Addr × Obj)) (σ : List (Option V)) (H : Hp) (s : Shared) : Prop where
  ok : X.Ok
  os : s.os = X.s₀.os
  bare : AllBare s.gens
  base : Un X.fs X.ex X.H₀ H X.s₀.heap s.heap
  loc : ∃ m, s.heap.Ns X.env.locals m ∧ ∀ (i : Nat) (x : Str) (v : V), X.N[i]? = some x → σ[i]? = some (some v) → Vis X.env.scope x → ∃ u, RelV v u ∧ Look X.env s.heap m x u
  cell : ∀ x c, X.env.cells.lookup x = some c → ∃ v, s.heap.IsCell c v
  free : H X.env.locals = none
  freeC : ∀ x c, X.env.cells.lookup x = some c → H c = none
  pin : ∀ p ∈ X.pn ++ pins, s.heap.get? p.1 = some p.2 ∧ H p.1 = none ∧ p.1 ≠ X.env.locals ∧ p.1 ∉ X.fs ∧ ∀ v, p.2.data ≠ .cell v
  hok : HOk X.prog X.w H s.heap
  len : σ.length = X.N.length
section
variable {X : Cx} {pins : List (Addr × Obj)} {σ : List (Option V)} {H H' : Hp} {s : Shared} {h' : Heap}
theorem Cx.Ok.nofr (ok : X.Ok) {b : Addr} {o : Obj} (e : X.base.get? b = some o) : b ∉ X.fs := fun hb => by
  have := (ok.funs.mem hb).1
  rw [e] at this; cases this
theorem Inv.bs (I : Inv X pins σ H s) : ∀ b o, X.base.get? b = some o → s.heap.get? b = some o ∧ H b = none := fun b o e =>
  ⟨I.base.keep b o (I.ok.bs b o e).1 (I.ok.bs b o e).2 (I.ok.nofr e) (I.ok.noex b o e), I.base.free b o (I.ok.bs b o e).1 (I.ok.bs b o e).2 (I.ok.noex b o e)⟩
theorem Inv.bk (I : Inv X pins σ H s) : ∀ b o, X.base.get? b = some o → s.heap.get? b = some o := fun b o e => (I.bs b o e).1
theorem Inv.mod (I : Inv X pins σ H s) : Mod X.K X.mg X.base := I.ok.mod
theorem Inv.kIn (I : Inv X pins σ H s) : X.K.In s.heap := I.ok.mod.kin.keeps I.bk
/-- the frame over the base: for OpenK's rules (K.In X.base is I.mod.kin) -/
theorem Inv.fr (I : Inv X pins σ H s) : ∃ m, Fr X.base X.env.locals s.heap m :=
  let ⟨m, hn, _⟩ := I.loc
  ⟨m, hn, I.bk, Nat.le_trans I.ok.bsz I.ok.above⟩
theorem Inv.lt (I : Inv X pins σ H s) : X.env.locals < s.heap.objs.size := let ⟨_, hn, _⟩ := I.loc; hn.lt
theorem Inv.sz (I : Inv X pins σ H s) : X.s₀.heap.objs.size ≤ s.heap.objs.size := Nat.le_trans I.ok.above (Nat.le_of_lt I.lt)
theorem Inv.nofs (I : Inv X pins σ H s) {a : Addr} (h : s.heap.objs.size ≤ a) : a ∉ X.fs := fun hb => by
  obtain ⟨_, o, ho, _⟩ := I.ok.funs.mem hb
  exact absurd (Nat.lt_of_lt_of_le (Heap.lt_size ho) (Nat.le_trans I.sz h)) (Nat.lt_irrefl _)
theorem Inv.cne (I : Inv X pins σ H s) : ∀ x c, X.env.cells.lookup x = some c → c ≠ X.env.locals := fun x c e z => by
  obtain ⟨v, o, ho, hd⟩ := I.cell x c e
  obtain ⟨m, ⟨o', es, ep, ho', hd', _⟩, _⟩ := I.loc
  rw [z, ho'] at ho; cases ho; rw [hd'] at hd; cases hd
theorem Inv.funs (I : Inv X pins σ H s) : s.heap.FunFrames X.base X.outer := by
  have all : ∀ (l : List Env), (∀ b ∈ frs l, b ∈ X.fs) → X.s₀.heap.FunFrames X.base l → s.heap.FunFrames X.base l := by
    intro l
    induction l with
    | nil => intro _ _; trivial
    | cons env r ih =>
      intro hs hl
      obtain ⟨hk, ⟨L, o, hf, hn, ho, hd⟩, hr⟩ := hl
      have hL : L ∈ X.fs := hs L (by unfold frs; rw [List.filterMap_cons, hf]; exact List.mem_cons_self)
      obtain ⟨sl, e⟩ := I.base.slot L o ho (I.ok.frf L hL) hL fun z => I.ok.exfs L z hL
      exact ⟨hk, ⟨L, _, hf, hn, e, hd⟩, ih (fun b hb => hs b (by unfold frs; rw [List.filterMap_cons, hf]; exact List.mem_cons_of_mem _ hb)) hr⟩
  exact all X.outer (fun _ hb => hb) I.ok.funs
/-- the frames that run, for a call -/
theorem Inv.stack (I : Inv X pins σ H s) : s.heap.FunFrames X.base X.stack := by
  rcases I.ok.stk with e | ⟨e, hf⟩
  · rw [e]; exact I.funs
  · rw [e]
    obtain ⟨m, hn, _⟩ := I.loc
    refine .cons (by rw [I.ok.kind]; decide) hf hn ?_ I.funs
    exact Heap.get?_none_of_le (Nat.le_trans I.ok.bsz I.ok.above)
theorem Inv.stkSub (I : Inv X pins σ H s) : ∀ b ∈ frs X.stack, b ∈ X.env.locals :: X.fs := fun b hb => by
  rcases I.ok.stk with e | ⟨e, hf⟩
  · rw [e] at hb; exact List.mem_cons_of_mem _ hb
  · rw [e] at hb
    unfold frs at hb
    rw [List.filterMap_cons, hf] at hb
    exact hb
theorem Inv.stkFree (I : Inv X pins σ H s) : ∀ b ∈ frs X.stack, H b = none := fun b hb => by
  rcases List.mem_cons.mp (I.stkSub b hb) with e | hb
  · rw [e]; exact I.free
  · obtain ⟨_, o, ho, _⟩ := I.ok.funs.mem hb
    exact I.base.free b o ho (I.ok.frf b hb) fun z => I.ok.exfs b z hb
/-- THE STEP: the untracked objects but the frame and the records at ch are kept (the callers' frames up to slots), the frame's map is kept, the new abstract heap is held -/
theorem Inv.step {g' : Array GenState} {t' : Nat} {d' : Drawn} {ch : List Addr} (I : Inv X pins σ H s)
    (hch : ∀ b ∈ ch, (b ∈ X.ex ∨ X.s₀.heap.objs.size ≤ b) ∧ b ≠ X.env.locals ∧ (∀ x c, X.env.cells.lookup x = some c → c ≠ b) ∧ ∀ p ∈ X.pn ++ pins, p.1 ≠ b)
    (keep : ∀ b o, b ≠ X.env.locals → b ∉ X.fs → b ∉ ch → s.heap.get? b = some o → H b = none → h'.get? b = some o)
    (slot : ∀ b o, b ≠ X.env.locals → b ∈ X.fs → b ∉ ch → s.heap.get? b = some o → H b = none → ∃ sl, h'.get? b = some { o with slots := sl }) (free : ∀ b o, b ∉ ch → s.heap.get? b = some o → H b = none → H' b = none)
    (there : ∀ b o, b ∉ ch → s.heap.get? b = some o → ∃ o', h'.get? b = some o')
    (tups : ∀ b xs, H b = some (.tup xs) → H' b = some (.tup xs)) (frzs : ∀ b o u, H b = some (.frz o u) → H' b = some (.frz o u)) (tbls : ∀ b ps, H b = some (.tbl ps) → ∃ more, H' b = some (.tbl (ps ++ more)))
    (ns : ∀ m, s.heap.Ns X.env.locals m → h'.Ns X.env.locals m) (hok : HOk X.prog X.w H' h') (hg : AllBare g') :
    Inv X pins σ H' { s with heap := h', gens := g', drawn := d', toks := t' } := by
  have neL : ∀ b o, X.s₀.heap.get? b = some o → b ≠ X.env.locals := fun b o e => Nat.ne_of_lt (Nat.lt_of_lt_of_le (Heap.lt_size e) I.ok.above)
  have neC : ∀ b o, X.s₀.heap.get? b = some o → b ∉ X.ex → b ∉ ch := fun b o e hx hb => by
    rcases (hch b hb).1 with z | z
    · exact hx z
    · exact absurd (Nat.lt_of_lt_of_le (Heap.lt_size e) z) (Nat.lt_irrefl _)
  have cellK : ∀ x c, X.env.cells.lookup x = some c → ∀ v, s.heap.IsCell c v → h'.IsCell c v := fun x c e v ⟨o, ho, hd⟩ => by
    have nch : c ∉ ch := fun z => (hch c z).2.2.1 x c e rfl
    by_cases hc : c ∈ X.fs
    · obtain ⟨sl, q⟩ := slot c o (I.cne x c e) hc nch ho (I.freeC x c e)
      exact ⟨_, q, hd⟩
    · exact ⟨o, keep c o (I.cne x c e) hc nch ho (I.freeC x c e), hd⟩
  refine ⟨I.ok, I.os, hg, ⟨fun b o e n hb hx => ?_, fun b o e n hb hx => ?_, fun b o e n hx => ?_, fun b o e hx => ?_, fun b xs e => tups b xs (I.base.tups b xs e), fun b o xs e => frzs b o xs (I.base.frzs b o xs e), fun b ps e => ?_⟩, ?_, fun x c e => ?_, ?_, fun x c e => ?_, fun p hp => ?_, hok, I.len⟩
  · exact keep b o (neL b o e) hb (neC b o e hx) (I.base.keep b o e n hb hx) (I.base.free b o e n hx)
  · obtain ⟨sl, e1⟩ := I.base.slot b o e n hb hx
    obtain ⟨sl', e2⟩ := slot b _ (neL b o e) hb (neC b o e hx) e1 (I.base.free b o e n hx)
    exact ⟨sl', e2⟩
  · obtain ⟨o', e1⟩ := I.base.there b o e hx
    exact free b o' (neC b o e hx) e1 (I.base.free b o e n hx)
  · obtain ⟨o', e1⟩ := I.base.there b o e hx
    exact there b o' (neC b o e hx) e1
  · obtain ⟨m1, e1⟩ := I.base.tbls b ps e
    obtain ⟨m2, e2⟩ := tbls b _ e1
    exact ⟨m1 ++ m2, by rw [e2, Array.append_assoc]⟩
  · obtain ⟨m, hn, hl⟩ := I.loc
    refine ⟨m, ns m hn, fun i x v e1 e2 e3 => ?_⟩
    obtain ⟨u, r, l⟩ := hl i x v e1 e2 e3
    refine ⟨u, r, ?_⟩
    rcases l with l | ⟨k, c, e, z⟩
    · exact .inl l
    · exact .inr ⟨k, c, e, cellK x c e _ z⟩
  · obtain ⟨v, z⟩ := I.cell x c e
    exact ⟨v, cellK x c e v z⟩
  · obtain ⟨m, ⟨o, _, _, ho, _⟩, _⟩ := I.loc
    exact free _ o (fun z => (hch _ z).2.1 rfl) ho I.free
  · obtain ⟨v, o, ho, hd⟩ := I.cell x c e
    exact free c o (fun z => (hch c z).2.2.1 x c e rfl) ho (I.freeC x c e)
  · obtain ⟨e, n, ne, nf, d⟩ := I.pin p hp
    have nch : p.1 ∉ ch := fun z => (hch p.1 z).2.2.2 p hp rfl
    exact ⟨keep p.1 p.2 ne nf nch e n, free p.1 p.2 nch e n, ne, nf, d⟩
/-- .. where the frame's own object is kept too -/
theorem Inv.un {t' : Nat} (I : Inv X pins σ H s) (u : Un X.fs [] H H' s.heap h') (hok : HOk X.prog X.w H' h') : Inv X pins σ H' { s with heap := h', toks := t' } := by
  obtain ⟨m, ⟨o, es, ep, ho, r⟩, _⟩ := id I.loc
  obtain ⟨sl, hL⟩ := u.any ho I.free (by simp)
  exact I.step (g' := s.gens) (d' := s.drawn) (ch := []) (fun _ z => nomatch z) (fun b o _ hb _ e n => u.keep b o e n hb (by simp)) (fun b o _ hb _ e n => u.slot b o e n hb (by simp)) (fun b o _ e n => u.free b o e n (by simp)) (fun b o _ e => u.there b o e (by simp)) u.tups u.frzs u.tbls (fun m' hm => by
    obtain ⟨o', es', ep', ho', r'⟩ := hm
    rw [ho] at ho'; cases ho'
    exact ⟨_, es', ep', hL, r'⟩) hok I.bare
/-- behind a call (or a comprehension's block): the slots of this frame may have changed too, the records at ch may have turned -/
theorem Inv.call {g' : Array GenState} {t' : Nat} {d' : Drawn} {ch : List Addr} (I : Inv X pins σ H s) (u : Un (frs X.stack) ch H H' s.heap h') (hok : HOk X.prog X.w H' h') (hg : AllBare g')
    (hch : ∀ b ∈ ch, (b ∈ X.ex ∨ X.s₀.heap.objs.size ≤ b) ∧ b ≠ X.env.locals ∧ (∀ x c, X.env.cells.lookup x = some c → c ≠ b) ∧ ∀ p ∈ X.pn ++ pins, p.1 ≠ b) :
    Inv X pins σ H' { s with heap := h', gens := g', drawn := d', toks := t' } := by
  obtain ⟨m, ⟨o, es, ep, ho, r⟩, _⟩ := id I.loc
  obtain ⟨sl, hL⟩ := u.any ho I.free fun z => (hch _ z).2.1 rfl
  exact I.step (ch := ch) hch (fun b o hL hb hc e n => u.keep b o e n (fun z => (List.mem_cons.mp (I.stkSub b z)).elim hL hb) hc) (fun b o _ _ hc e n => u.any e n hc) (fun b o hc e n => u.free b o e n hc) (fun b o hc e => u.there b o e hc) u.tups u.frzs u.tbls (fun m' hm => by
    obtain ⟨o', es', ep', ho', r'⟩ := hm
    rw [ho] at ho'; cases ho'
    exact ⟨_, es', ep', hL, r'⟩) hok hg
/-- an untracked record of ours (an iterator) has turned -/
theorem Inv.turned {t' : Nat} {it : Addr} (I : Inv X pins σ H s) (k : ∀ b o, b ≠ it → s.heap.get? b = some o → h'.get? b = some o) (hn : H it = none) (hL : it ≠ X.env.locals)
    (h1 : it ∈ X.ex ∨ X.s₀.heap.objs.size ≤ it) (h2 : ∀ x c, X.env.cells.lookup x = some c → c ≠ it) (h3 : ∀ p ∈ X.pn ++ pins, p.1 ≠ it) : Inv X pins σ H { s with heap := h', toks := t' } := by
  have nit : ∀ b u, H b = some u → b ≠ it := fun b u e z => by rw [z, hn] at e; cases e
  refine I.step (g' := s.gens) (d' := s.drawn) (ch := [it]) (fun b hb => ?_) (fun b o _ _ hc e _ => k b o (fun z => hc (by simp [z])) e) (fun b o _ _ hc e _ => ⟨o.slots, k b o (fun z => hc (by simp [z])) e⟩) (fun _ _ _ _ n => n)
    (fun b o hc e => ⟨o, k b o (fun z => hc (by simp [z])) e⟩) (fun _ _ e => e) (fun _ _ _ e => e) (fun b ps e => ⟨#[], by rw [e]; simp⟩) (fun m hm => ?_) (fun b u e => ?_) I.bare
  · have e : b = it := by simpa using hb
    subst e
    exact ⟨h1, hL, h2, h3⟩
  · obtain ⟨o, es, ep, ho, r⟩ := hm
    exact ⟨o, es, ep, k _ o (Ne.symm hL) ho, r⟩
  · refine (I.hok b u e).stay (fun c v hc q => k c v ?_ q) (fun _ q => q) fun _ _ q => q
    rcases hc with z | z
    · rw [z]; exact nit b u e
    · exact nit c _ z
theorem Inv.tok (I : Inv X pins σ H s) (t : Nat) : Inv X pins σ H { s with toks := t } := I.un (h' := s.heap) (t' := t) Un.refl I.hok
/-- all objects kept -/
theorem Inv.kept {t' : Nat} (I : Inv X pins σ H s) (k : ∀ b u, s.heap.get? b = some u → h'.get? b = some u) : Inv X pins σ H { s with heap := h', toks := t' } := I.un (Un.kept k) (I.hok.kept k)
/-- a new object laid and tracked -/
theorem Inv.laid {a : Addr} {o : HO} {t' : Nat} (I : Inv X pins σ H s) (k : ∀ b u, s.heap.get? b = some u → h'.get? b = some u) (hp : s.heap.objs.size ≤ a) (new : ObjOk X.prog X.w (upd H a o) h' a o) :
    Inv X pins σ (upd H a o) { s with heap := h', toks := t' } := I.un (Un.laid k hp (I.hok.fresh hp)) (I.hok.laid k hp new)
/-- an object written -/
theorem Inv.write {x e : Addr} {o : HO} {t' : Nat} (I : Inv X pins σ H s) (mu : Mut (H x)) (he : e = x ∨ H e = some (.own x)) (k : ∀ b u, b ≠ e → s.heap.get? b = some u → h'.get? b = some u) (heo : ∃ u, h'.get? e = some u)
    (new : ObjOk X.prog X.w (upd H x o) h' x o) : Inv X pins σ (upd H x o) { s with heap := h', toks := t' } := I.un (Un.write mu he k heo) (I.hok.write mu he k heo new)
theorem Inv.pins_of {pins' : List (Addr × Obj)} (I : Inv X pins σ H s) (h : ∀ p ∈ pins', s.heap.get? p.1 = some p.2 ∧ H p.1 = none ∧ p.1 ≠ X.env.locals ∧ p.1 ∉ X.fs ∧ ∀ v, p.2.data ≠ .cell v) : Inv X pins' σ H s :=
  ⟨I.ok, I.os, I.bare, I.base, I.loc, I.cell, I.free, I.freeC, fun p hp => (List.mem_append.mp hp).elim (fun z => I.pin p (List.mem_append_left _ z)) (h p), I.hok, I.len⟩
theorem nodup_ix {N : List Str} (hN : N.Nodup) {i j : Nat} {x : Str} (a : N[i]? = some x) (b : N[j]? = some x) : i = j := by
  obtain ⟨h1, e1⟩ := List.getElem?_eq_some_iff.mp a
  obtain ⟨h2, e2⟩ := List.getElem?_eq_some_iff.mp b
  exact (List.getElem_inj hN).mp (e1.trans e2.symm)
/-- a name is stored; what changed -/
theorem store_ok2 {M : Model} {A : Around} {E : Value → Shared → Prop} {i : Nat} {x : Str} {v : V} {u : Value} {Q : Unit → Shared → Prop} (I : Inv X pins σ H s) (hN : X.N.Nodup) (hi : X.N[i]? = some x) (hx : Loc X.env.scope x) (r : RelV v u)
    (h : ∀ s', Inv X pins (σ.set i (some v)) H s' → (∃ a, Heap.SameBut a s.heap s'.heap ∧ (a = X.env.locals ∨ X.env.cells.lookup x = some a)) → Q () s') (hf : X.fn x = true ∨ X.env.scope.names.lookup x = some .local := by first | exact .inl rfl | exact .inr rfl | assumption) : wpAny M A (storeName X.env x u) Q E s := by
  obtain ⟨m, hn, hl⟩ := id I.loc
  have hcls : (X.env.scope.kind == .class || (X.env.scope.kind == .module && X.env.locals != X.env.globals)) = false := by rw [I.ok.kind]; rfl
  have hiσ : i < σ.length := by rw [I.len]; exact (List.getElem?_eq_some_iff.mp hi).1
  have cne := I.cne
  have tracked : ∀ {a : Addr} {h' : Heap}, (∃ o, s.heap.get? a = some o ∧ H a = none) → Heap.SameBut a s.heap h' → HOk X.prog X.w H h' := fun {a h'} ha hs b ob e => by
    obtain ⟨_, _, hfree⟩ := ha
    refine (I.hok b ob e).stay (fun c w' hc q => (hs.2 c ?_).trans q) (fun _ q => q) fun _ _ q => q
    rintro rfl
    rcases hc with rfl | hc
    · rw [hfree] at e; cases e
    · rw [hfree] at hc; cases hc
  rcases hx with hk | hk
  · refine wpAny_storeName_local hk hn (fun h' hn' hs => ?_) hcls
    obtain ⟨oL, _, _, hoL, _⟩ := id hn
    refine h _ ⟨I.ok, I.os, I.bare, ⟨fun b o e n hb hx => ?_, fun b o e n hb hx => ?_, I.base.free, fun b o e hx => ?_, I.base.tups, I.base.frzs, I.base.tbls⟩, ⟨_, hn', fun j y v' e1 e2 e3 => ?_⟩, fun y c e => ?_, I.free, I.freeC, fun p hp => ?_, tracked ⟨oL, hoL, I.free⟩ hs, by simpa using I.len⟩ ⟨_, hs, .inl rfl⟩
    · exact (hs.2 b (Nat.ne_of_lt (Nat.lt_of_lt_of_le (Heap.lt_size e) I.ok.above))).trans (I.base.keep b o e n hb hx)
    · obtain ⟨sl, e1⟩ := I.base.slot b o e n hb hx
      exact ⟨sl, (hs.2 b (Nat.ne_of_lt (Nat.lt_of_lt_of_le (Heap.lt_size e) I.ok.above))).trans e1⟩
    · obtain ⟨o', e1⟩ := I.base.there b o e hx
      exact ⟨o', (hs.2 b (Nat.ne_of_lt (Nat.lt_of_lt_of_le (Heap.lt_size e) I.ok.above))).trans e1⟩
    · by_cases hj : j = i
      · subst hj
        rw [hi] at e1; cases e1
        rw [List.getElem?_set_self hiσ] at e2
        cases e2
        exact ⟨u, r, .inl ⟨hk, by simp⟩⟩
      · rw [List.getElem?_set_ne (Ne.symm hj)] at e2
        obtain ⟨u', r', q⟩ := hl j y v' e1 e2 e3
        refine ⟨u', r', ?_⟩
        rcases q with ⟨k, e⟩ | ⟨k, c, e, z⟩
        · refine .inl ⟨k, ?_⟩
          have : y ≠ x := fun e => hj (nodup_ix hN e1 (e ▸ hi))
          simp [this, e]
        · exact .inr ⟨k, c, e, z.sameBut hs (cne y c e)⟩
    · obtain ⟨w', z⟩ := I.cell y c e
      exact ⟨w', z.sameBut hs (cne y c e)⟩
    · obtain ⟨e, n, ne, nf, d⟩ := I.pin p hp
      exact ⟨(hs.2 p.1 ne).trans e, n, ne, nf, d⟩
  · have hfn : X.fn x = true := by
      rcases hf with z | z
      · exact z
      · rw [z] at hk; cases hk
    obtain ⟨c, hc⟩ := I.ok.has x (.inl hk)
    obtain ⟨w', z⟩ := I.cell x c hc
    refine wpAny_storeName_cell I.ok.kind hk hc z (fun h' hc' hs => ?_)
    obtain ⟨oc, hoc, hocd⟩ := id z
    refine h { s with heap := h' } ⟨I.ok, I.os, I.bare, ⟨fun b o e n hb hx => ?_, fun b o e n hb hx => ?_, I.base.free, fun b o e hx => ?_, I.base.tups, I.base.frzs, I.base.tbls⟩, ⟨m, hn.sameBut hs (Ne.symm (cne x c hc)), fun j y v' e1 e2 e3 => ?_⟩, fun y c' e => ?_, I.free, I.freeC, fun p hp => ?_, tracked ⟨oc, hoc, I.freeC x c hc⟩ hs, by simpa using I.len⟩ ⟨c, hs, .inr hc⟩
    · exact (hs.2 b (Nat.ne_of_lt (Nat.lt_of_lt_of_le (Heap.lt_size e) (I.ok.cab x c hfn hc)))).trans (I.base.keep b o e n hb hx)
    · obtain ⟨sl, e1⟩ := I.base.slot b o e n hb hx
      exact ⟨sl, (hs.2 b (Nat.ne_of_lt (Nat.lt_of_lt_of_le (Heap.lt_size e) (I.ok.cab x c hfn hc)))).trans e1⟩
    · obtain ⟨o', e1⟩ := I.base.there b o e hx
      exact ⟨o', (hs.2 b (Nat.ne_of_lt (Nat.lt_of_lt_of_le (Heap.lt_size e) (I.ok.cab x c hfn hc)))).trans e1⟩
    · by_cases hj : j = i
      · subst hj
        rw [hi] at e1; cases e1
        rw [List.getElem?_set_self hiσ] at e2
        cases e2
        exact ⟨u, r, .inr ⟨.inl hk, c, hc, hc'⟩⟩
      · rw [List.getElem?_set_ne (Ne.symm hj)] at e2
        obtain ⟨u', r', q⟩ := hl j y v' e1 e2 e3
        refine ⟨u', r', ?_⟩
        rcases q with q | ⟨k, c', e, z'⟩
        · exact .inl q
        · refine .inr ⟨k, c', e, z'.sameBut hs ?_⟩
          rintro rfl
          exact hj (nodup_ix hN e1 (I.ok.inj _ _ _ e hc ▸ hi))
    · by_cases hcc : c' = c
      · subst hcc; exact ⟨_, hc'⟩
      · obtain ⟨w2, z2⟩ := I.cell y c' e
        exact ⟨w2, z2.sameBut hs hcc⟩
    · obtain ⟨e, n, ne, nf, d⟩ := I.pin p hp
      refine ⟨(hs.2 p.1 ?_).trans e, n, ne, nf, d⟩
      intro q
      rw [q, hoc] at e
      have q' : oc = p.2 := Option.some.inj e
      exact d w' (by rw [← q']; exact hocd)
theorem store_ok {M : Model} {A : Around} {E : Value → Shared → Prop} {i : Nat} {x : Str} {v : V} {u : Value} {Q : Unit → Shared → Prop} (I : Inv X pins σ H s) (hN : X.N.Nodup) (hi : X.N[i]? = some x) (hx : Loc X.env.scope x) (r : RelV v u)
    (h : ∀ s', Inv X pins (σ.set i (some v)) H s' → Q () s') (hf : X.fn x = true ∨ X.env.scope.names.lookup x = some .local := by first | exact .inl rfl | exact .inr rfl | assumption) : wpAny M A (storeName X.env x u) Q E s :=
  store_ok2 I hN hi hx r (fun s' I' _ => h s' I') hf
/-- behind a call or a block, the state as it is -/
theorem Inv.call' {s' : Shared} {ch : List Addr} (I : Inv X pins σ H s) (ho : s'.os = s.os) (u : Un (frs X.stack) ch H H' s.heap s'.heap) (hok : HOk X.prog X.w H' s'.heap) (hg : AllBare s'.gens)
    (hch : ∀ b ∈ ch, (b ∈ X.ex ∨ X.s₀.heap.objs.size ≤ b) ∧ b ≠ X.env.locals ∧ (∀ x c, X.env.cells.lookup x = some c → c ≠ b) ∧ ∀ p ∈ X.pn ++ pins, p.1 ≠ b) : Inv X pins σ H' s' := by
  obtain ⟨h', g', d', t', o'⟩ := s'
  have e : o' = s.os := ho
  subst e
  exact I.call (g' := g') (t' := t') (d' := d') u hok hg hch
end
/-! ### the judgements -/
/-- an exception: its class, its own dict's address (where it has one), the abstract heap behind it -/
abbrev XK := Value → Option Addr → Hp → Prop
abbrev St := List (Option V)
abbrev VK := V → Hp → Prop
/-- an expression's reading; a test's; an argument list's -/
abbrev TE := St → Hp → VK → Prop
abbrev TT := St → Hp → (Bool → Hp → Prop) → Prop
abbrev TA := St → Hp → (List V → Hp → Prop) → Prop
/-- what is wanted behind a statement -/
structure Ends where
  nx : St → Hp → Prop
  rt : VK
  bk : St → Hp → Prop := fun _ _ => False
  ct : St → Hp → Prop := fun _ _ => False
abbrev TS := Ends → St → Hp → Prop
def EP (X : Cx) (pins : List (Addr × Obj)) (σ : St) (Q : VK) (u : Value) (s' : Shared) : Prop := ∃ v H', Inv X pins σ H' s' ∧ RelV v u ∧ Q v H'
def TP (X : Cx) (pins : List (Addr × Obj)) (σ : St) (Q : Bool → Hp → Prop) (b : Bool) (s' : Shared) : Prop := ∃ H', Inv X pins σ H' s' ∧ Q b H'
def AP (X : Cx) (pins : List (Addr × Obj)) (σ : St) (Q : List V → Hp → Prop) (us : List Value) (s' : Shared) : Prop := ∃ vs H', Inv X pins σ H' s' ∧ Vals vs us ∧ Q vs H'
def SP (X : Cx) (pins : List (Addr × Obj)) (D : Ends) (f : Flow) (s' : Shared) : Prop :=
  match f with
  | .next => ∃ σ' H', Inv X pins σ' H' s' ∧ D.nx σ' H'
  | .brk => ∃ σ' H', Inv X pins σ' H' s' ∧ D.bk σ' H'
  | .cont => ∃ σ' H', Inv X pins σ' H' s' ∧ D.ct σ' H'
  | .ret u => ∃ v σ' H', Inv X pins σ' H' s' ∧ RelV v u ∧ D.rt v H'
def PE (X : Cx) (e : Expr) (t : TE) : Prop :=
  ∀ (pins : List (Addr × Obj)) (s : Shared) (σ : St) (H : Hp) (Q : VK), Inv X pins σ H s → t σ H Q → wpAny (model X.prog X.w) X.A (eval e X.env) (EP X pins σ Q) X.xe s
def PT (X : Cx) (e : Expr) (t : TT) : Prop :=
  ∀ (pins : List (Addr × Obj)) (s : Shared) (σ : St) (H : Hp) (Q : Bool → Hp → Prop), Inv X pins σ H s → t σ H Q → wpAny (model X.prog X.w) X.A (isTrue e X.env (eval e X.env)) (TP X pins σ Q) X.xe s
/-- a test whatever its 'whole' is (and, or) -/
def PW (X : Cx) (e : Expr) (t : TT) : Prop :=
  ∀ (whole : Sem Value) (pins : List (Addr × Obj)) (s : Shared) (σ : St) (H : Hp) (Q : Bool → Hp → Prop), Inv X pins σ H s → t σ H Q → wpAny (model X.prog X.w) X.A (isTrue e X.env whole) (TP X pins σ Q) X.xe s
theorem PW.pt {X : Cx} {e : Expr} {t : TT} (h : PW X e t) : PT X e t := h _
/-- an argument list (no star), from the left -/
def PA (X : Cx) (es : List Expr) (t : TA) : Prop :=
  ∀ (pos : Pos) (pins : List (Addr × Obj)) (s : Shared) (σ : St) (H : Hp) (Q : List V → Hp → Prop), Inv X pins σ H s → t σ H Q → wpAny (model X.prog X.w) X.A (spliced (backTo pos (starEach es X.env))) (AP X pins σ Q) X.xe s
def PS (X : Cx) (st : Stmt) (t : TS) : Prop :=
  ∀ (pins : List (Addr × Obj)) (s : Shared) (σ : St) (H : Hp) (D : Ends), Inv X pins σ H s → t D σ H → wpAny (model X.prog X.w) X.A (exec st X.env) (SP X pins D) X.xe s
def PSs (X : Cx) (st : List Stmt) (t : TS) : Prop :=
  ∀ (pins : List (Addr × Obj)) (s : Shared) (σ : St) (H : Hp) (D : Ends), Inv X pins σ H s → t D σ H → wpAny (model X.prog X.w) X.A (execs st X.env) (SP X pins D) X.xe s
/-- weaken the end -/
theorem thn {α : Type} {t : Sem α} {Q Q' : α → Shared → Prop} {M : Model} {A : Around} {E : Value → Shared → Prop} {s : Shared} (h : wpAny M A t Q E s) (hQ : ∀ a s, Q a s → Q' a s) : wpAny M A t Q' E s := wpAny_mono h hQ fun _ _ x => x
end L2
namespace L2
open PySem PySem.Spec PyProof.Rows
section
variable {X : Cx}
/-! ### names and constants -/
def tVar (i : Nat) : TE := fun σ H Q => ∃ v, σ[i]? = some (some v) ∧ Q v H
def tC (v : V) : TE := fun _ H Q => Q v H
theorem pe_var {i : Nat} {x : Str} {pos : Pos} (hN : X.N[i]? = some x) (hv : Vis X.env.scope x) (hd : (x == ("__debug__" : Str)) = false := by decide) (hcd : (x == ("__classdict__" : Str)) = false := by decide) : PE X (.Name x pos) (tVar i) := by
  intro pins s σ H Q I h
  obtain ⟨v, e, h⟩ := h
  obtain ⟨m, hn, hl⟩ := I.loc
  obtain ⟨u, r, l⟩ := hl i x v hN e hv
  have fin : EP X pins σ Q u s := ⟨v, H, I, r, h⟩
  rcases l with ⟨hk, hm⟩ | ⟨hk, c, hc, hcell⟩
  · exact wpAny_Name (wpAny_loadName_local I.ok.kind hk hn hm fin) hd
  · rcases hk with hk | hk
    · exact wpAny_Name (wpAny_loadName_cell I.ok.kind hk hc hcell fin) hd
    · exact wpAny_Name (wpAny_loadName_free I.ok.kind hk hc hcell fin hcd) hd
theorem pe_int {i j pos} : PE X (.Constant (.int i) j pos) (tC (.int i)) := fun _ _ _ H _ I h => wpAny_Constant_int ⟨.int i, H, I.tok _, ⟨_, rfl⟩, h⟩
theorem pe_bl {b j pos} : PE X (.Constant (.bool b) j pos) (tC (.bl b)) := fun _ _ _ H _ I h => Constant_bool ⟨.bl b, H, I, rfl, h⟩
theorem pe_non {j pos} : PE X (.Constant .none j pos) (tC .non) := fun _ _ _ H _ I h => Constant_none ⟨.non, H, I, rfl, h⟩
theorem pe_str {x j pos} : PE X (.Constant (.str x) j pos) (tC (.str x)) := fun _ _ _ H _ I h => Calls.Constant_str ⟨.str x, H, I.tok _, ⟨_, rfl⟩, h⟩
/-- a global name of the def -/
def Gl (X : Cx) (x : Str) : Prop := X.env.kindOf x = some .globalImplicit
theorem ld_glob {E : Value → Shared → Prop} {pins : List (Addr × Obj)} {s : Shared} {σ : St} {H : Hp} {x : Str} {u : Value} {pos : Pos} {Q : Value → Shared → Prop} (I : Inv X pins σ H s) (hg : Gl X x) (hm : X.mg x = some u) (h : Q u s)
    (hd : (x == ("__debug__" : Str)) = false := by decide) : wpAny (model X.prog X.w) X.A (eval (.Name x pos) X.env) Q E s :=
  Calls.Name_function_global I.ok.kind hg (Calls.loadGlobal_global (by rw [I.ok.glob]; exact I.mod.glob.keeps I.bk) hm h) hd
theorem ld_blt {E : Value → Shared → Prop} {pins : List (Addr × Obj)} {s : Shared} {σ : St} {H : Hp} {x : Str} {u : Value} {pos : Pos} {Q : Value → Shared → Prop} (I : Inv X pins σ H s) (hg : Gl X x) (hm : X.mg x = none) (hv : bootBuiltins x = some u) (h : Q u s)
    (hn : x ≠ "__name__" := by decide) (hd : (x == ("__debug__" : Str)) = false := by decide) : wpAny (model X.prog X.w) X.A (eval (.Name x pos) X.env) Q E s := by
  obtain ⟨mb, h1, h2⟩ := I.mod.blt
  exact Calls.Name_function_global I.ok.kind hg (Calls.loadGlobal_builtin (by rw [I.ok.glob]; exact I.mod.glob.keeps I.bk) hm (by rw [I.ok.blt]; exact h1.keeps I.bk) ((h2 x hn).trans hv) h) hd
/-- a module's constant, a class, a function, as a value -/
theorem pe_glob {x : Str} {v : V} {u : Value} {pos : Pos} (hg : Gl X x) (hm : X.mg x = some u) (r : RelV v u) (hd : (x == ("__debug__" : Str)) = false := by decide) : PE X (.Name x pos) (tC v) :=
  fun _ _ _ H _ I h => ld_glob I hg hm ⟨v, H, I, r, h⟩ hd
theorem pe_bltn {x : Str} {v : V} {u : Value} {pos : Pos} (hg : Gl X x) (hm : X.mg x = none) (hv : bootBuiltins x = some u) (r : RelV v u) (hn : x ≠ "__name__" := by decide) (hd : (x == ("__debug__" : Str)) = false := by decide) : PE X (.Name x pos) (tC v) :=
  fun _ _ _ H _ I h => ld_blt I hg hm hv ⟨v, H, I, r, h⟩ hn hd
/-! ### arithmetic -/
variable {a b : Expr} {ta tb : TE} {pos : Pos}
/-! ### comparisons -/
/-! ### and, or, not -/
variable {tA tB' : TT} {rest : List Expr}
def tAnd (t u : TT) : TT := fun σ H Q => t σ H fun c H1 => if c = true then u σ H1 Q else Q false H1
def tOr (t u : TT) : TT := fun σ H Q => t σ H fun c H1 => if c = true then Q true H1 else u σ H1 Q
def tNot (t : TT) : TT := fun σ H Q => t σ H fun c H1 => Q (!c) H1
theorem pw_and1 (ha : PT X a tA) : PW X (.BoolOp .And [a] pos) tA := by
  intro wh pins s σ H Q I h
  refine isTrue_and (thn (ha pins s σ H Q I h) fun c s1 e => ?_)
  cases c with
  | true => exact isTrue_and_nil e
  | false => exact e
theorem pw_or1 (ha : PT X a tA) : PW X (.BoolOp .Or [a] pos) tA := by
  intro wh pins s σ H Q I h
  refine isTrue_or (thn (ha pins s σ H Q I h) fun c s1 e => ?_)
  cases c with
  | false => exact isTrue_or_nil e
  | true => exact e
theorem pw_and (ha : PT X a tA) (hb : PW X (.BoolOp .And (b :: rest) pos) tB') : PW X (.BoolOp .And (a :: b :: rest) pos) (tAnd tA tB') := by
  intro wh pins s σ H Q I h
  refine isTrue_and (thn (ha pins s σ H _ I h) fun c s1 ⟨H1, I1, q1⟩ => ?_)
  cases c with
  | true => exact hb wh pins s1 σ H1 Q I1 q1
  | false => exact ⟨H1, I1, q1⟩
theorem pw_or (ha : PT X a tA) (hb : PW X (.BoolOp .Or (b :: rest) pos) tB') : PW X (.BoolOp .Or (a :: b :: rest) pos) (tOr tA tB') := by
  intro wh pins s σ H Q I h
  refine isTrue_or (thn (ha pins s σ H _ I h) fun c s1 ⟨H1, I1, q1⟩ => ?_)
  cases c with
  | true => exact ⟨H1, I1, q1⟩
  | false => exact hb wh pins s1 σ H1 Q I1 q1
theorem pt_not (ha : PT X a tA) : PT X (.UnaryOp .Not a pos) (tNot tA) := by
  intro pins s σ H Q I h
  exact isTrue_not (ha pins s σ H (fun c H1 => Q (!c) H1) I h)
/-- .. as values (bools) -/
def tAndV (ta tb : TE) : TE := fun σ H Q => ta σ H fun x H1 => ∃ c, x = .bl c ∧ if c = true then tb σ H1 Q else Q (.bl false) H1
def tNotV (ta : TE) : TE := fun σ H Q => ta σ H fun x H1 => ∃ c, x = .bl c ∧ Q (.bl (!c)) H1
theorem pe_one {op} {t : TE} (h : PE X a t) : PE X (.BoolOp op [a] pos) t := fun pins s σ H Q I hw => BoolOp_one (h pins s σ H Q I hw)
theorem pe_and (ha : PE X a ta) (hb : PE X (.BoolOp .And (b :: rest) pos) tb) : PE X (.BoolOp .And (a :: b :: rest) pos) (tAndV ta tb) := by
  intro pins s σ H Q I h
  refine BoolOp_and (thn (ha pins s σ H _ I h) fun v s1 ⟨x, H1, I1, r1, q1⟩ => ?_)
  obtain ⟨c, rfl, q1⟩ := q1
  cases r1
  refine wpAny_truthy_bool ?_
  cases c with
  | true => exact hb pins s1 σ H1 Q I1 q1
  | false => exact ⟨.bl false, H1, I1, rfl, q1⟩
theorem pe_not (ha : PE X a ta) : PE X (.UnaryOp .Not a pos) (tNotV ta) := by
  intro pins s σ H Q I h
  refine UnaryOp_ (thn (ha pins s σ H _ I h) fun v s1 ⟨x, H1, I1, r1, q1⟩ => ?_)
  obtain ⟨c, rfl, q1⟩ := q1
  cases r1
  exact not_of (wpAny_truthy_bool ⟨.bl (!c), H1, I1, rfl, q1⟩)
end
end L2
namespace L2
open PySem PySem.Spec PyProof.Rows
/-! ### a list, a tuple that is read: tracked, frozen, or an object of the module -/
def SqL (K : PySem.W.Frag) (H : Hp) (a : Addr) (xs : List V) : Prop :=
  Rd H a (.lst xs) ∨
    ∃ (o : Obj) (its : Array Value) (n : Nat), K.lookup a = some o ∧ o.cls = .type "list" ∧ o.dict = none ∧ o.data = .seq its n ∧ its.size ≤ sizeLine ∧ Vals xs its.toList
def SqT (K : PySem.W.Frag) (H : Hp) (a : Addr) (xs : List V) : Prop :=
  Rd H a (.tup xs) ∨
    ∃ (o : Obj) (its : Array Value) (n : Nat), K.lookup a = some o ∧ o.cls = .type "tuple" ∧ o.data = .seq its n ∧ its.size ≤ sizeLine ∧ Vals xs its.toList
def absV : Value → Option V
  | .none => some .non
  | .bool b => some (.bl b)
  | .int i _ => some (.int i)
  | .str x _ => some (.str x)
  | .bytes b _ => some (.byt b)
  | .float b _ => some (.flt b)
  | .ref a => some (.ref a)
  | .type n => some (.ty n)
  | _ => none
theorem RelV.abs {x : V} {u : Value} (r : RelV x u) : absV u = some x := by
  cases x with
  | non => cases r; rfl
  | bl _ => cases r; rfl
  | int _ => obtain ⟨t, rfl⟩ := r; rfl
  | str _ => obtain ⟨t, rfl⟩ := r; rfl
  | byt _ => obtain ⟨t, rfl⟩ := r; rfl
  | flt _ => obtain ⟨t, rfl⟩ := r; rfl
  | ref _ => cases r; rfl
  | ty _ => cases r; rfl
theorem RelV.inj {x y : V} {u : Value} (r : RelV x u) (q : RelV y u) : x = y := Option.some.inj (r.abs.symm.trans q.abs)
theorem Vals.inj : ∀ {xs ys : List V} {us : List Value}, Vals xs us → Vals ys us → xs = ys
  | _, _, _, .nil, .nil => rfl
  | _, _, _, .cons r t, .cons r' t' => by rw [r.inj r', Vals.inj t t']
section
variable {X : Cx} {pins : List (Addr × Obj)} {σ : St} {H : Hp} {s : Shared} {a : Addr} {xs ys : List V}
theorem SqL.of {K : PySem.W.Frag} (h : H a = some (.lst xs)) : SqL K H a xs := .inl (.inl h)
theorem SqT.of {K : PySem.W.Frag} (h : H a = some (.tup xs)) : SqT K H a xs := .inl (.inl h)
theorem Inv.list (I : Inv X pins σ H s) (h : SqL X.K H a xs) : ∃ its : List Value, Vals xs its ∧ PlainL s.heap a its.toArray ∧ xs.length ≤ sizeLine := by
  rcases h with h | ⟨o, its, n, hk, hc, hd, hs, hz, r⟩
  · obtain ⟨z, its, n, r, e⟩ := h.ok I.hok
    exact ⟨its, r, ⟨_, n, e, rfl, rfl, rfl⟩, z⟩
  · refine ⟨its.toList, r, ⟨o, n, I.kIn a o hk, hc, hd, by simpa using hs⟩, ?_⟩
    have e := r.length
    simp only [Array.length_toList] at e
    omega
theorem Inv.tuple (I : Inv X pins σ H s) (h : SqT X.K H a xs) : ∃ its : List Value, Vals xs its ∧ IsTup s.heap a its.toArray ∧ xs.length ≤ sizeLine := by
  rcases h with h | ⟨o, its, n, hk, hc, hs, hz, r⟩
  · obtain ⟨z, its, r, p⟩ := h.ok I.hok
    exact ⟨its, r, p, z⟩
  · refine ⟨its.toList, r, ⟨o, I.kIn a o hk, hc, n, by simpa using hs⟩, ?_⟩
    have e := r.length
    simp only [Array.length_toList] at e
    omega
theorem Inv.list_inj (I : Inv X pins σ H s) (h : SqL X.K H a xs) (h' : SqL X.K H a ys) : xs = ys := by
  obtain ⟨its, r, ⟨o, n, e, _, _, d⟩, _⟩ := I.list h
  obtain ⟨its', r', ⟨o', n', e', _, _, d'⟩, _⟩ := I.list h'
  rw [e] at e'; cases e'
  rw [d] at d'
  injection d' with d1 _
  have : its = its' := by simpa using congrArg Array.toList d1
  subst this
  exact r.inj r'
theorem Inv.tuple_inj (I : Inv X pins σ H s) (h : SqT X.K H a xs) (h' : SqT X.K H a ys) : xs = ys := by
  obtain ⟨its, r, ⟨o, e, _, n, d⟩, _⟩ := I.tuple h
  obtain ⟨its', r', ⟨o', e', _, n', d'⟩, _⟩ := I.tuple h'
  rw [e] at e'; cases e'
  rw [d] at d'
  injection d' with d1 _
  have : its = its' := by simpa using congrArg Array.toList d1
  subst this
  exact r.inj r'
end
/-! ### another wish about exceptions -/
abbrev Cx.wish (X : Cx) (E : Value → Shared → Prop) : Cx := { X with xe := E }
/-- no exception leaves -/
abbrev Cx.nox (X : Cx) : Cx := X.wish fun _ _ => False
theorem Cx.Ok.wish {X : Cx} (ok : X.Ok) (E : Value → Shared → Prop) : (X.wish E).Ok :=
  ⟨ok.mod, ok.kind, ok.glob, ok.blt, ok.above, ok.inj, ok.has, ok.cab, ok.hd, ok.frames, ok.stk, ok.exf, ok.bs, ok.bsz, ok.noex, ok.exfs, ok.funs, ok.frf⟩
theorem Cx.Ok.unwish {X : Cx} {E : Value → Shared → Prop} (ok : (X.wish E).Ok) : X.Ok :=
  ⟨ok.mod, ok.kind, ok.glob, ok.blt, ok.above, ok.inj, ok.has, ok.cab, ok.hd, ok.frames, ok.stk, ok.exf, ok.bs, ok.bsz, ok.noex, ok.exfs, ok.funs, ok.frf⟩
section
variable {X : Cx} {pins : List (Addr × Obj)} {σ : St} {H : Hp} {s : Shared} {E : Value → Shared → Prop}
theorem Inv.wish (I : Inv X pins σ H s) (E : Value → Shared → Prop) : Inv (X.wish E) pins σ H s := ⟨I.ok.wish E, I.os, I.bare, I.base, I.loc, I.cell, I.free, I.freeC, I.pin, I.hok, I.len⟩
theorem Inv.unwish (I : Inv (X.wish E) pins σ H s) : Inv X pins σ H s := ⟨I.ok.unwish, I.os, I.bare, I.base, I.loc, I.cell, I.free, I.freeC, I.pin, I.hok, I.len⟩
theorem SP.unwish {D : Ends} {f : Flow} {s' : Shared} (h : SP (X.wish E) pins D f s') : SP X pins D f s' := by
  cases f with
  | next => obtain ⟨σ', H', I, q⟩ := h; exact ⟨σ', H', I.unwish, q⟩
  | brk => obtain ⟨σ', H', I, q⟩ := h; exact ⟨σ', H', I.unwish, q⟩
  | cont => obtain ⟨σ', H', I, q⟩ := h; exact ⟨σ', H', I.unwish, q⟩
  | ret u => obtain ⟨v, σ', H', I, r, q⟩ := h; exact ⟨v, σ', H', I.unwish, r, q⟩
theorem PSs.nox {st : List Stmt} {t : TS} (h : PSs X.nox st t) : PSs X st t := fun pins s σ H D I hw =>
  wpAny_mono (h pins s σ H D (I.wish _) hw) (fun _ _ q => q.unwish) fun _ _ z => False.elim z
end
/-! ### blocks and small statements -/
section
variable {X : Cx} {st : Stmt} {rest : List Stmt} {t u : TS} {e : Expr} {te : TE} {pos : Pos}
def tNext : TS := fun D σ H => D.nx σ H
def tSeq (t u : TS) : TS := fun D σ H => t { D with nx := u D } σ H
theorem pss_nil : PSs X [] tNext := fun _ _ σ H _ I h => wpAny_execs_nil ⟨σ, H, I, h⟩
theorem pss_cons (h1 : PS X st t) (h2 : PSs X rest u) : PSs X (st :: rest) (tSeq t u) := by
  intro pins s σ H D I h
  refine wpAny_execs_cons (thn (h1 pins s σ H { D with nx := u D } I h) fun f s1 q => ?_)
  cases f with
  | next =>
    obtain ⟨σ', H', I', q⟩ := q
    exact h2 pins s1 σ' H' D I' q
  | ret v => exact q
  | brk => exact q
  | cont => exact q
theorem pss_one (h1 : PS X st t) : PSs X [st] t := by
  intro pins s σ H D I h
  refine wpAny_execs_cons (thn (h1 pins s σ H D I h) fun f s1 q => ?_)
  cases f with
  | next => exact wpAny_execs_nil q
  | ret v => exact q
  | brk => exact q
  | cont => exact q
/-- in a def's body nothing is shown -/
theorem Inv.quiet {pins : List (Addr × Obj)} {σ : St} {H : Hp} {s : Shared} (I : Inv X pins σ H s) : interactive X.env = false := by simp [interactive, I.ok.kind]
/-- an expression whose value is dropped -/
def tDrop (te : TE) : TS := fun D σ H => te σ H fun _ H1 => D.nx σ H1
theorem ps_expr (he : PE X e te) (hs : swapsWith e none pos.line X.env = pure false := by rfl) : PS X (.Expr e pos) (tDrop te) := by
  intro pins s σ H D I h
  exact wpAny_Expr_any (thn (he pins s σ H _ I h) fun v s1 ⟨x, H1, I1, r1, q1⟩ => ⟨σ, H1, I1, q1⟩) I.quiet hs
def tRet (te : TE) : TS := fun D σ H => te σ H D.rt
theorem ps_ret (he : PE X e te) : PS X (.Return (some e) pos) (tRet te) := by
  intro pins s σ H D I h
  exact wpAny_Return_some (thn (he pins s σ H _ I h) fun v s1 ⟨x, H1, I1, r1, q1⟩ => ⟨x, σ, H1, I1, r1, q1⟩)
def tIfS (c : TT) (t u : TS) : TS := fun D σ H => c σ H fun b H1 => if b = true then t D σ H1 else u D σ H1
theorem ps_if {c : Expr} {a b : List Stmt} {tc : TT} (hc : PT X c tc) (ha : PSs X a t) (hb : PSs X b u) : PS X (.If c a b pos) (tIfS tc t u) := by
  intro pins s σ H D I h
  refine wpAny_If (thn (hc pins s σ H _ I h) fun d s1 ⟨H1, I1, q1⟩ => ?_)
  cases d with
  | true => exact ha pins s1 σ H1 D I1 q1
  | false => exact hb pins s1 σ H1 D I1 q1
end
/-! ### targets -/
abbrev TG := V → St → Hp → (St → Hp → Prop) → Prop
abbrev TGs := List V → St → Hp → (St → Hp → Prop) → Prop
def PG (X : Cx) (target : Expr) (t : TG) : Prop :=
  ∀ (pins : List (Addr × Obj)) (s : Shared) (σ : St) (H : Hp) (v : V) (u : Value) (Q : St → Hp → Prop), Inv X pins σ H s → RelV v u → t v σ H Q →
    wpAny (model X.prog X.w) X.A (assign target X.env u) (fun _ s' => ∃ σ' H', Inv X pins σ' H' s' ∧ Q σ' H') X.xe s
/-- several targets, one after another -/
def PGs (X : Cx) (ts : List Expr) (t : TGs) : Prop :=
  ∀ (pins : List (Addr × Obj)) (s : Shared) (σ : St) (H : Hp) (vs : List V) (us : List Value) (Q : St → Hp → Prop), Inv X pins σ H s → Vals vs us → t vs σ H Q →
    wpAny (model X.prog X.w) X.A (assignInOrder ((assignEach ts X.env).map (·.2)) us) (fun _ s' => ∃ σ' H', Inv X pins σ' H' s' ∧ Q σ' H') X.xe s
/-- o[i] = v, by values -/
abbrev TSet := V → V → V → Hp → (Hp → Prop) → Prop
def PSet (X : Cx) (t : TSet) : Prop :=
  ∀ (pins : List (Addr × Obj)) (s : Shared) (σ : St) (H : Hp) (o i v : V) (ov iv u : Value) (Q : Hp → Prop), Inv X pins σ H s → RelV o ov → RelV i iv → RelV v u → t o i v H Q →
    wpAny (model X.prog X.w) X.A (setItem ov iv u) (fun _ s' => ∃ H', Inv X pins σ H' s' ∧ Q H') X.xe s
section
variable {X : Cx} {pos : Pos}
def gName (i : Nat) : TG := fun v σ H Q => Q (σ.set i (some v)) H
theorem pg_name {i : Nat} {x : Str} (hN : X.N.Nodup) (hi : X.N[i]? = some x) (hx : Loc X.env.scope x) (hf : X.fn x = true ∨ X.env.scope.names.lookup x = some .local := by first | exact .inl rfl | exact .inr rfl | assumption) : PG X (.Name x pos) (gName i) := by
  intro pins s σ H v u Q I r h
  exact wpAny_assign_Name (store_ok I hN hi hx r (fun s' I' => ⟨_, H, I', h⟩) hf)
def gNil : TGs := fun vs σ H Q => vs = [] ∧ Q σ H
def gCons (t : TG) (u : TGs) : TGs := fun vs σ H Q => ∃ v r, vs = v :: r ∧ t v σ H fun σ' H' => u r σ' H' Q
theorem pgs_nil : PGs X [] gNil := by
  intro pins s σ H vs us Q I r h
  obtain ⟨e, h⟩ := h
  subst e
  cases r
  exact assignInOrder_nil ⟨σ, H, I, h⟩
theorem pgs_cons {e : Expr} {es : List Expr} {t : TG} {u : TGs} (h1 : PG X e t) (h2 : PGs X es u)
    (hs : (assignEach (e :: es) X.env).map (·.2) = assign e X.env :: (assignEach es X.env).map (·.2) := by rfl) : PGs X (e :: es) (gCons t u) := by
  intro pins s σ H vs us Q I r h
  obtain ⟨v, vr, e1, h⟩ := h
  subst e1
  cases r with
  | cons r rr =>
    rw [hs]
    refine assignInOrder_cons (thn (h1 pins s σ H _ _ _ I r h) fun _ s1 ⟨σ1, H1, I1, q1⟩ => ?_)
    exact h2 pins s1 σ1 H1 _ _ Q I1 rr q1
/-- (a, b, ..) = a tuple of that length -/
def gTup (K : PySem.W.Frag) (n : Nat) (t : TGs) : TG := fun v σ H Q => ∃ a xs, v = .ref a ∧ SqT K H a xs ∧ xs.length = n ∧ t xs σ H Q
theorem pg_tup {es : List Expr} {k : Nat} {t : TGs} {n : Nat} (hc : X.calm = true) (h : PGs X es t)
    (hn : (assignEach es X.env).length = n := by rfl) (hst : (assignEach es X.env).findIdx? (·.1) = none := by rfl) : PG X (.Tuple es k pos) (gTup X.K n t) := by
  intro pins s σ H v u Q I r hw
  obtain ⟨a, xs, e1, hq, hl, hw⟩ := hw
  subst e1
  cases r
  obtain ⟨its, rv, ht, hz⟩ := I.tuple hq
  refine assign_Tuple_tuple (I.ok.hd hc) ht (by simp [hn, ← hl, rv.length]) hst fun h' hx => ?_
  have I1 : Inv X pins σ H { s with heap := h' } := I.kept (t' := s.toks) fun b o e => hx b o (Nat.ne_of_lt (Heap.lt_size e)) e
  exact h pins _ σ H xs _ Q I1 (by simpa using rv) hw
/-- o[i] = .. -/
def gSub (to ti : TE) (t : TSet) : TG := fun v σ H Q => to σ H fun o H1 => ti σ H1 fun i H2 => t o i v H2 fun H3 => Q σ H3
theorem pg_sub {o i : Expr} {to ti : TE} {t : TSet} (ho : PE X o to) (hi : PE X i ti) (hs : PSet X t)
    (ha : ∀ v, assign (.Subscript o i pos) X.env v = (do
      let ov ← holding [v] (eval o X.env)
      let iv ← holding [v, ov] (eval i X.env)
      standAt pos
      holding [v, ov, iv] (setItem ov iv v)
      release [v, ov, iv] []) := by intro _; rfl) : PG X (.Subscript o i pos) (gSub to ti t) := by
  intro pins s σ H v u Q I r h
  rw [ha]
  refine wpAny_bind (wpAny_holding (thn (ho pins s σ H _ I h) fun ov s1 ⟨x, H1, I1, r1, q1⟩ => ?_))
  refine wpAny_bind (wpAny_holding (thn (hi pins s1 σ H1 _ I1 q1) fun iv s2 ⟨y, H2, I2, r2, q2⟩ => ?_))
  refine wpAny_bind (wpAny_standAt (wpAny_bind (wpAny_holding (thn (hs pins s2 σ H2 x y v ov iv u _ I2 r1 r2 r q2) fun _ s3 ⟨H3, I3, q3⟩ => ?_))))
  exact wpAny_release ⟨σ, H3, I3, q3⟩
/-- target = value -/
def tAsg (te : TE) (g : TG) : TS := fun D σ H => te σ H fun x H1 => g x σ H1 D.nx
theorem ps_asg {tg e : Expr} {te : TE} {g : TG} (he : PE X e te) (hg : PG X tg g) (hs : swapsWithSole [tg] e pos.line X.env = pure false := by rfl) (hw : swappedStores [tg] e X.env = pure none := by rfl)
    (h1 : (assignEach [tg] X.env).map (·.2) = [assign tg X.env] := by rfl) : PS X (.Assign [tg] e pos) (tAsg te g) := by
  intro pins s σ H D I h
  refine wpAny_Assign_stores (thn (he pins s σ H _ I h) fun v s1 ⟨x, H1, I1, r1, q1⟩ => ?_) hs hw
  rw [h1]
  exact thn (hg pins s1 σ H1 x v _ I1 r1 q1) fun _ s2 q => q
/-- name = value -/
theorem ps_set {i : Nat} {x : Str} {e : Expr} {te : TE} {pos' : Pos} (hN : X.N.Nodup) (hi : X.N[i]? = some x) (hx : Loc X.env.scope x) (he : PE X e te) (hs : swapsWith e (some (.Name x pos')) pos.line X.env = pure false := by rfl) (hf : X.fn x = true ∨ X.env.scope.names.lookup x = some .local := by first | exact .inl rfl | exact .inr rfl | assumption) :
    PS X (.Assign [.Name x pos'] e pos) (tAsg te (gName i)) := by
  intro pins s σ H D I h
  refine wpAny_Assign_Name (thn (he pins s σ H _ I h) fun v s1 ⟨y, H1, I1, r1, q1⟩ => ?_) hs
  exact store_ok I1 hN hi hx r1 (fun s2 I2 => ⟨_, H1, I2, q1⟩) hf
end
/-! ### while -/
section
variable {X : Cx} {pos : Pos}
end
/-! ### what a loop or a comprehension walks -/
/-- at turn i: it yields x (the heap may grow), or it stops -/
structure It where
  go : Nat → Hp → Prop
  yld : Nat → Hp → V → Hp → Prop
  stop : Nat → Hp → Prop
/-- the iterator's own objects may turn: they are not the frame's, not pinned, younger than the entry (or a comprehension's own) -/
def FpOk (X : Cx) (pins : List (Addr × Obj)) (H : Hp) (b : Addr) : Prop :=
  H b = none ∧ b ≠ X.env.locals ∧ b ∉ X.fs ∧ (b ∈ X.ex ∨ X.s₀.heap.objs.size ≤ b) ∧ (∀ x c, X.env.cells.lookup x = some c → c ≠ b) ∧ ∀ p ∈ X.pn ++ pins, p.1 ≠ b
theorem Inv.fpOk {X : Cx} {pins : List (Addr × Obj)} {σ : St} {H H' : Hp} {s : Shared} {b : Addr} (I : Inv X pins σ H s) (hb : s.heap.objs.size ≤ b) (hn : H' b = none) : FpOk X pins H' b := by
  refine ⟨hn, Nat.ne_of_gt (Nat.lt_of_lt_of_le I.lt hb), I.nofs hb, .inr (Nat.le_trans I.sz hb), fun x c e z => ?_, fun p hp z => ?_⟩
  · obtain ⟨v, q⟩ := I.cell x c e
    exact absurd (Nat.lt_of_lt_of_le q.lt (by rw [z]; exact hb)) (Nat.lt_irrefl _)
  · exact absurd (Nat.lt_of_lt_of_le (Heap.lt_size (I.pin p hp).1) (by rw [z]; exact hb)) (Nat.lt_irrefl _)
structure Turn (P : Program) (w : World) (K : PySem.W.Frag) (tg : Expr) (J : It) (fp : List Addr) (it : Addr) (tn : Nat → Heap → Prop) : Prop where
  mem : it ∈ fp
  obj : ∀ i h, tn i h → ∀ b ∈ fp, ∃ o, h.get? b = some o ∧ ∀ v, o.data ≠ .cell v
  keep : ∀ i h h', tn i h → (∀ b ∈ fp, ∀ o, h.get? b = some o → h'.get? b = some o) → tn i h'
  item : ∀ (X : Cx), X.prog = P → X.w = w → X.K = K → X.calm = true → ∀ (i : Nat) (pins : List (Addr × Obj)) (s : Shared) (σ : St) (H : Hp) (E : Value → Shared → Prop), Inv X pins σ H s → (∀ b ∈ fp, FpOk X pins H b) → tn i s.heap → J.go i H →
    wpAny (model P w) X.A (pyNext (.ref it)) (fun r s1 => ∃ u, r = some u ∧
      wpAny (model P w) X.A (letOwnedTupleGo tg (.ref it) u) (fun _ s2 => ∃ x H', Inv X pins σ H' s2 ∧ RelV x u ∧ J.yld i H x H' ∧ tn (i + 1) s2.heap ∧ ∀ b ∈ fp, H' b = none) E s1) E s
  done : ∀ (X : Cx), X.prog = P → X.w = w → X.K = K → X.calm = true → ∀ (i : Nat) (pins : List (Addr × Obj)) (s : Shared) (σ : St) (H : Hp) (E : Value → Shared → Prop), Inv X pins σ H s → (∀ b ∈ fp, FpOk X pins H b) → tn i s.heap → J.stop i H →
    wpAny (model P w) X.A (pyNext (.ref it)) (fun r s1 => r = none ∧ Inv X pins σ H s1) E s
  self : ∀ (A : Around) (i : Nat) (s : Shared) (Q : Value → Shared → Prop) (E : Value → Shared → Prop), tn i s.heap → Q (.ref it) s → wpAny (model P w) A (pyIter (.ref it)) Q E s
abbrev TI := St → Hp → (It → Hp → Prop) → Prop
/-- an iterator has come -/
def PIE (X : Cx) (pins : List (Addr × Obj)) (σ : St) (tg : Expr) (R : It → Hp → Prop) (itv : Value) (s2 : Shared) : Prop :=
  ∃ (it : Addr) (fp : List Addr) (tn : Nat → Heap → Prop) (J : It) (H' : Hp), itv = .ref it ∧ Inv X pins σ H' s2 ∧ Turn X.prog X.w X.K tg J fp it tn ∧ tn 0 s2.heap ∧ (∀ b ∈ fp, FpOk X pins H' b) ∧ R J H'
def PI (X : Cx) (tg iter : Expr) (wi : TI) : Prop :=
  ∀ (pins : List (Addr × Obj)) (s : Shared) (σ : St) (H : Hp) (R : It → Hp → Prop), Inv X pins σ H s → wi σ H R →
    wpAny (model X.prog X.w) X.A (eval iter X.env) (fun v s1 => wpAny (model X.prog X.w) X.A (pyIter v) (PIE X pins σ tg R) X.xe s1) X.xe s
/-- the step ahead of the store is nothing for an iterator that keeps no tuple -/
theorem go_of {M : Model} {A : Around} {E : Value → Shared → Prop} {s : Shared} {tg : Expr} {it : Addr} {u : Value} {o : Obj} {n : String} {vs : Array Value} {Q : Unit → Shared → Prop} (ho : s.heap.get? it = some o) (hc : o.cls = .type n) (hd : o.data = .fields vs)
    (hn : ["enumerate", "zip", "dict_itemiterator", "dict_reverseitemiterator", "odict_iterator", "itertools.zip_longest", "itertools.pairwise"].contains n = false) (hQ : Q () s) : wpAny M A (letOwnedTupleGo tg (.ref it) u) Q E s := by
  unfold letOwnedTupleGo
  cases tg <;> first
    | exact wpAny_pure hQ
    | (cases u <;> first
        | exact wpAny_pure hQ
        | (refine wpAny_bind (wpAny_load ho ?_)
           rw [hc, hd]
           show wpAny M A (if (["enumerate", "zip", "dict_itemiterator", "dict_reverseitemiterator", "odict_iterator", "itertools.zip_longest", "itertools.pairwise"].contains n && vs[0]? == some (rawInt _)) = true then _ else _) Q E s
           rw [if_neg (by intro h; rw [hn, Bool.false_and] at h; cases h)]
           exact wpAny_pure hQ))
/-- the list at a, as it stands at each turn (a loop may append to it) -/
def Itl (K : PySem.W.Frag) (a : Addr) : It :=
  ⟨fun i H => ∃ xs x, SqL K H a xs ∧ xs[i]? = some x, fun i H x H' => H' = H ∧ ∀ xs, SqL K H a xs → xs[i]? = some x, fun i H => ∃ xs, SqL K H a xs ∧ xs.length ≤ i⟩
def Itt (K : PySem.W.Frag) (a : Addr) : It :=
  ⟨fun i H => ∃ xs x, SqT K H a xs ∧ xs[i]? = some x, fun i H x H' => H' = H ∧ ∀ xs, SqT K H a xs → xs[i]? = some x, fun i H => ∃ xs, SqT K H a xs ∧ xs.length ≤ i⟩
/-- lo, lo + 1, .. (n of them) -/
def Itr (lo : Int) (n : Nat) : It := ⟨fun i _ => i < n, fun i H x H' => H' = H ∧ x = .int (lo + i), fun i _ => n ≤ i⟩
theorem turn_list {P : Program} {w : World} {K : PySem.W.Frag} {tg : Expr} (a it : Addr) : Turn P w K tg (Itl K a) [it] it (fun i h => h.IsListIter it a i) where
  mem := by simp
  obj := fun i h st b hb => by
    have e : b = it := by simpa using hb
    subst e
    obtain ⟨o, e, c, d⟩ := st
    exact ⟨o, e, fun v z => by rw [d] at z; cases z⟩
  keep := fun i h h' st k => st.at fun o e => k it (by simp) o e
  item := by
    intro X hP hw hK hc i pins s σ H E I hf st hg
    subst hP hw hK
    obtain ⟨xs, x, hq, hx⟩ := hg
    obtain ⟨its, rv, p, hz⟩ := I.list hq
    obtain ⟨u, hu, ru⟩ := rv.get hx
    obtain ⟨f0, f1, f2, f3, f4, f5⟩ := hf it (by simp)
    refine wpAny_pyNext_list_item st p.isList (x := u) (by simpa using hu) fun h' st' sb => ?_
    have I1 : Inv X pins σ H { s with heap := h' } := I.turned (t' := s.toks) (fun b o hb e => (sb.2 b hb).trans e) f0 f1 f3 f4 f5
    obtain ⟨o, e, c, d⟩ := id st'
    exact ⟨u, rfl, go_of (s := { s with heap := h' }) e c d (by decide) ⟨x, H, I1, ru, ⟨rfl, fun ys hy => by rw [I.list_inj hy hq]; exact hx⟩, st', fun b hb => (hf b hb).1⟩⟩
  done := by
    intro X hP hw hK hc i pins s σ H E I hf st hg
    subst hP hw hK
    obtain ⟨xs, hq, hx⟩ := hg
    obtain ⟨its, rv, p, hz⟩ := I.list hq
    obtain ⟨f0, f1, f2, f3, f4, f5⟩ := hf it (by simp)
    have hl := rv.length
    exact wpAny_pyNext_list_end (I.ok.hd hc) st p.isList (by simp; omega) fun h' eb => ⟨rfl, I.turned (t' := s.toks) (fun b o hb e => eb b o hb e) f0 f1 f3 f4 f5⟩
  self := fun _ _ _ _ _ st h => wpAny_pyIter_listiter st h
theorem turn_tuple {P : Program} {w : World} {K : PySem.W.Frag} {tg : Expr} (a it : Addr) : Turn P w K tg (Itt K a) [it] it (fun i h => h.IsTupleIter it a i) where
  mem := by simp
  obj := fun i h st b hb => by
    have e : b = it := by simpa using hb
    subst e
    obtain ⟨o, e, c, d⟩ := st
    exact ⟨o, e, fun v z => by rw [d] at z; cases z⟩
  keep := fun i h h' st k => st.at fun o e => k it (by simp) o e
  item := by
    intro X hP hw hK hc i pins s σ H E I hf st hg
    subst hP hw hK
    obtain ⟨xs, x, hq, hx⟩ := hg
    obtain ⟨its, rv, p, hz⟩ := I.tuple hq
    obtain ⟨u, hu, ru⟩ := rv.get hx
    obtain ⟨f0, f1, f2, f3, f4, f5⟩ := hf it (by simp)
    refine wpAny_pyNext_tuple_item st (show s.heap.IsTuple a its.toArray from p) (x := u) (by simpa using hu) fun h' st' sb => ?_
    have I1 : Inv X pins σ H { s with heap := h' } := I.turned (t' := s.toks) (fun b o hb e => (sb.2 b hb).trans e) f0 f1 f3 f4 f5
    obtain ⟨o, e, c, d⟩ := id st'
    exact ⟨u, rfl, go_of (s := { s with heap := h' }) e c d (by decide) ⟨x, H, I1, ru, ⟨rfl, fun ys hy => by rw [I.tuple_inj hy hq]; exact hx⟩, st', fun b hb => (hf b hb).1⟩⟩
  done := by
    intro X hP hw hK hc i pins s σ H E I hf st hg
    subst hP hw hK
    obtain ⟨xs, hq, hx⟩ := hg
    obtain ⟨its, rv, p, hz⟩ := I.tuple hq
    obtain ⟨f0, f1, f2, f3, f4, f5⟩ := hf it (by simp)
    have hl := rv.length
    exact wpAny_pyNext_tuple_end (I.ok.hd hc) st (show s.heap.IsTuple a its.toArray from p) (by simp; omega) fun h' eb => ⟨rfl, I.turned (t' := s.toks) (fun b o hb e => eb b o hb e) f0 f1 f3 f4 f5⟩
  self := fun _ _ _ _ _ st h => wpAny_pyIter_tupleiter st h
theorem turn_range {P : Program} {w : World} {K : PySem.W.Frag} {tg : Expr} (it : Addr) (lo : Int) (n : Nat) : Turn P w K tg (Itr lo n) [it] it (fun i h => IsRangeIter h it (lo + (i : Nat) * 1) ((n : Int) - (i : Nat)) 1) where
  mem := by simp
  obj := fun i h st b hb => by
    have e : b = it := by simpa using hb
    subst e
    exact ⟨_, st, fun v z => by
      have z' : Data.fields _ = Data.cell v := z
      cases z'⟩
  keep := fun i h h' st k => k it (by simp) _ st
  item := by
    intro X hP hw hK hc i pins s σ H E I hf st hg
    subst hP hw hK
    obtain ⟨f0, f1, f2, f3, f4, f5⟩ := hf it (by simp)
    have W := Walks.range (prog := X.prog) (w := X.w) (I.ok.hd hc) it lo 1 n
    refine W.item i s _ _ hg st fun v h' tk hv st' kk => ?_
    obtain ⟨t, rfl⟩ := hv
    have I1 : Inv X pins σ H { s with heap := h', toks := tk } := I.turned (fun b o hb e => kk b o (by simpa using hb) e) f0 f1 f3 f4 f5
    refine ⟨_, rfl, go_of (s := { s with heap := h', toks := tk }) (n := "range_iterator") st' rfl rfl (by decide) ⟨.int (lo + i), H, I1, ⟨t, ?_⟩, ⟨rfl, rfl⟩, st', fun b hb => (hf b hb).1⟩⟩
    rw [Int.mul_one]
  done := by
    intro X hP hw hK hc i pins s σ H E I hf st hg
    subst hP hw hK
    obtain ⟨f0, f1, f2, f3, f4, f5⟩ := hf it (by simp)
    exact wpAny_pyNext_range_end (I.ok.hd hc) st (by have : n ≤ i := hg; omega) fun h' eb => ⟨rfl, I.turned (t' := s.toks) (fun b o hb e => eb b o hb e) f0 f1 f3 f4 f5⟩
  self := fun _ _ _ _ _ st h => wpAny_pyIter_rangeiter st h
end L2
namespace L2
open PySem PySem.Spec PyProof.Rows
section
variable {X : Cx} {tg : Expr}
def iList (K : PySem.W.Frag) (tl : TE) : TI := fun σ H R => tl σ H fun x H1 => ∃ a, x = .ref a ∧ (∃ xs, SqL K H1 a xs) ∧ R (Itl K a) H1
def iTup (K : PySem.W.Frag) (tl : TE) : TI := fun σ H R => tl σ H fun x H1 => ∃ a, x = .ref a ∧ (∃ xs, SqT K H1 a xs) ∧ R (Itt K a) H1
theorem pi_list {l : Expr} {tl : TE} (hl : PE X l tl) : PI X tg l (iList X.K tl) := by
  intro pins s σ H R I h
  refine thn (hl pins s σ H _ I h) fun v s1 ⟨x, H1, I1, r1, q1⟩ => ?_
  obtain ⟨a, e, ⟨xs, hq⟩, q⟩ := q1
  subst e
  cases r1
  obtain ⟨its, rv, p, hz⟩ := I1.list hq
  refine wpAny_pyIter_list p.isList ?_
  refine ⟨s1.heap.objs.size, [s1.heap.objs.size], _, _, H1, rfl, I1.kept (t' := s1.toks) fun b o e => Heap.get?_push_of_some _ e, turn_list a _, ⟨_, Heap.get?_push_size _ rfl, rfl, rfl⟩, fun b hb => ?_, q⟩
  have e : b = s1.heap.objs.size := by simpa using hb
  subst e
  exact I1.fpOk (Nat.le_refl _) (I1.hok.fresh (Nat.le_refl _))
theorem pi_tup {l : Expr} {tl : TE} (hl : PE X l tl) : PI X tg l (iTup X.K tl) := by
  intro pins s σ H R I h
  refine thn (hl pins s σ H _ I h) fun v s1 ⟨x, H1, I1, r1, q1⟩ => ?_
  obtain ⟨a, e, ⟨xs, hq⟩, q⟩ := q1
  subst e
  cases r1
  obtain ⟨its, rv, p, hz⟩ := I1.tuple hq
  refine wpAny_pyIter_tuple (show s1.heap.IsTuple a its.toArray from p) ?_
  refine ⟨s1.heap.objs.size, [s1.heap.objs.size], _, _, H1, rfl, I1.kept (t' := s1.toks) fun b o e => Heap.get?_push_of_some _ e, turn_tuple a _, ⟨_, Heap.get?_push_size _ rfl, rfl, rfl⟩, fun b hb => ?_, q⟩
  have e : b = s1.heap.objs.size := by simpa using hb
  subst e
  exact I1.fpOk (Nat.le_refl _) (I1.hok.fresh (Nat.le_refl _))
/-- a range object just made, walked -/
theorem range_it {pins : List (Addr × Obj)} {σ : St} {H : Hp} {s : Shared} {R : It → Hp → Prop} {E : Value → Shared → Prop} {lo hi : Int} {t u v : Tok} {tk : Nat} (I : Inv X pins σ H s) (h1 : -(2 ^ 62) ≤ lo) (h2 : lo < 2 ^ 62) (h3 : -(2 ^ 62) ≤ hi) (h4 : hi < 2 ^ 62)
    (q : R (Itr lo (hi - lo).toNat) H) : wpAny (model X.prog X.w) X.A (pyIter (.ref s.heap.objs.size)) (PIE X pins σ tg R) E { s with heap := s.heap.push { cls := .type "range", data := .fields #[.int lo t, .int hi u, .int 1 v] }, toks := tk } := by
  refine wpAny_pyIter_range (IsRange.new ..) (small_one h1 h2 h3 h4) ?_
  have I1 : Inv X pins σ H { s with heap := s.heap.push { cls := .type "range", data := .fields #[.int lo t, .int hi u, .int 1 v] }, toks := tk } := I.kept fun b o e => Heap.get?_push_of_some _ e
  refine ⟨(s.heap.push { cls := .type "range", data := .fields #[.int lo t, .int hi u, .int 1 v] }).objs.size, [(s.heap.push { cls := .type "range", data := .fields #[.int lo t, .int hi u, .int 1 v] }).objs.size], _, _, H, rfl,
    I1.kept (t' := tk) fun b o e => Heap.get?_push_of_some _ e, turn_range _ lo (hi - lo).toNat, ?_, fun b hb => ?_, q⟩
  · have e1 : lo + ((0 : Nat) : Int) * 1 = lo := by simp
    have e2 : (((hi - lo).toNat : Nat) : Int) - ((0 : Nat) : Int) = Builtin.Range.rangeSize lo hi 1 := by rw [rangeSize_one]; split <;> omega
    show IsRangeIter _ _ (lo + ((0 : Nat) : Int) * 1) ((((hi - lo).toNat : Nat) : Int) - ((0 : Nat) : Int)) 1
    rw [e1, e2]
    exact Heap.get?_push_size _ rfl
  · have e : b = (s.heap.push { cls := .type "range", data := .fields #[.int lo t, .int hi u, .int 1 v] }).objs.size := by simpa using hb
    subst e
    exact I1.fpOk (Nat.le_refl _) (I1.hok.fresh (Nat.le_refl _))
def iRng1 (ta : TA) : TI := fun σ H R => ta σ H fun vs H1 => ∃ j : Int, vs = [.int j] ∧ -(2 ^ 62) ≤ j ∧ j < 2 ^ 62 ∧ R (Itr 0 j.toNat) H1
theorem pi_range1 {a : Expr} {ta : TA} {p pos : Pos} (hg : Gl X "range") (hm : X.mg "range" = none) (ha : PA X [a] ta) (hs : starEach [a] X.env = [(false, eval a X.env)] := by rfl) : PI X tg (.Call (.Name "range" p) [a] [] pos) (iRng1 ta) := by
  intro pins s σ H R I h
  refine Call_ (ld_blt I hg hm boot_range (PyProof.Rows.callWith_type1 (thn (ha pos pins s σ H _ I h) fun us s1 ⟨vs, H1, I1, r1, q1⟩ => ?_) hs rfl))
  obtain ⟨j, e, q1, q2, q⟩ := q1
  subst e
  cases r1 with
  | cons r rr =>
    cases rr
    obtain ⟨t, rfl⟩ := r
    exact call_range_1 (range_it I1 (by omega) (by omega) q1 q2 (by simpa using q))
/-! ### for -/
/-- W: the invariant by the turn and a measure; N: what the body is to reach -/
def tFor (wi : TI) (g : TG) (tb : TS) : TS := fun D σ H => wi σ H fun J H1 => ∃ W : Nat → Nat → St → Hp → Prop, (∃ m, W 0 m σ H1) ∧ ∀ i m σ H, W i m σ H →
  (J.stop i H ∧ D.nx σ H) ∨ (J.go i H ∧ ∃ N : St → Hp → Prop, (∀ σ' H', N σ' H' → ∃ m', m' < m ∧ W (i + 1) m' σ' H') ∧ ∀ x H', J.yld i H x H' → g x σ H' fun σ2 H2 => tb { D with nx := N, ct := N, bk := D.nx } σ2 H2)
/-- the records at fp as they stand -/
def pinsAt (fp : List Addr) (h : Heap) : List (Addr × Obj) := fp.filterMap fun b => (h.get? b).map fun o => (b, o)
theorem mem_pinsAt {fp : List Addr} {h : Heap} {b : Addr} {o : Obj} (hb : b ∈ fp) (e : h.get? b = some o) : (b, o) ∈ pinsAt fp h := List.mem_filterMap.mpr ⟨b, hb, by rw [e]; rfl⟩
theorem of_pinsAt {fp : List Addr} {h : Heap} {p : Addr × Obj} (hp : p ∈ pinsAt fp h) : p.1 ∈ fp ∧ h.get? p.1 = some p.2 := by
  obtain ⟨b, hb, e⟩ := List.mem_filterMap.mp hp
  cases q : h.get? b with
  | none => rw [q] at e; cases e
  | some o =>
    rw [q] at e
    have e' : (b, o) = p := Option.some.inj e
    subst e'
    exact ⟨hb, q⟩
theorem Inv.pinned {pins : List (Addr × Obj)} {σ : St} {H : Hp} {s : Shared} {fp : List Addr} (I : Inv X pins σ H s) (hf : ∀ b ∈ fp, FpOk X pins H b) (ho : ∀ b ∈ fp, ∃ o, s.heap.get? b = some o ∧ ∀ v, o.data ≠ .cell v) : Inv X (pins ++ pinsAt fp s.heap) σ H s :=
  I.pins_of fun p hp => (List.mem_append.mp hp).elim (fun z => I.pin p (List.mem_append_right _ z)) fun z => by
    obtain ⟨hb, e⟩ := of_pinsAt z
    obtain ⟨f0, f1, f2, _⟩ := hf p.1 hb
    obtain ⟨o, e', d⟩ := ho p.1 hb
    rw [e] at e'; cases e'
    exact ⟨e, f0, f1, f2, d⟩
theorem Inv.unpinned {pins pl : List (Addr × Obj)} {σ : St} {H : Hp} {s : Shared} (I : Inv X (pins ++ pl) σ H s) : Inv X pins σ H s := I.pins_of fun p hp => I.pin p (List.mem_append_right _ (List.mem_append_left _ hp))
theorem ps_for {iter : Expr} {body : List Stmt} {wi : TI} {g : TG} {tb : TS} {pos : Pos} (hp : PassesOwn (model X.prog X.w) X.A X.env X.xe) (hc : X.calm = true) (hi : PI X tg iter wi) (hg : PG X tg g) (hb : PSs X body tb)
    (hs : ∀ x, foldedSetIterable iter X.env x = pure x := by intro _; rfl) : PS X (.For tg iter body [] pos) (tFor wi g tb) := by
  intro pins s σ H D I h
  refine wpAny_For (thn (hi pins s σ H _ I h) fun v s1 h1 => thn h1 fun itv s2 h2 => ?_) hs
  obtain ⟨it, fp, tn, J, H2, e, I2, T, st2, f2, W, ⟨m0, w0⟩, turn⟩ := h2
  subst e
  -- what stays true of the iterator's objects through the loop
  have stat : ∀ {H' : Hp}, (∀ b ∈ fp, H' b = none) → ∀ b ∈ fp, FpOk X pins H' b := fun hn b hb => ⟨hn b hb, (f2 b hb).2⟩
  refine codeAny_forLoop_any (fun n s' => ∃ i σ' H', Inv X pins σ' H' s' ∧ tn i s'.heap ∧ (∀ b ∈ fp, H' b = none) ∧ W i n σ' H') ?_ m0 ⟨0, σ, H2, I2, st2, fun b hb => (f2 b hb).1, w0⟩
  rintro n s3 ⟨i, σ3, H3, I3, st3, fr3, w3⟩
  rcases turn i n σ3 H3 w3 with ⟨stop, qn⟩ | ⟨go, N, hN, step⟩
  · refine wpAny_passesOwn hp (thn (T.done X rfl rfl rfl hc i pins s3 σ3 H3 X.xe I3 (stat fr3) st3 stop) fun r s4 ⟨hr, I4⟩ => ?_)
    subst hr
    exact wpAny_execs_nil ⟨σ3, H3, I4, qn⟩
  · refine wpAny_passesOwn hp (thn (T.item X rfl rfl rfl hc i pins s3 σ3 H3 X.xe I3 (stat fr3) st3 go) fun r s4 ⟨u, hr, h4⟩ => ?_)
    subst hr
    refine wpAny_passesOwn hp (thn h4 fun _ s5 ⟨x, H5, I5, r5, y5, st5, fr5⟩ => ?_)
    have I5' := I5.pinned (stat fr5) (T.obj _ _ st5)
    refine wpAny_passesOwn hp (thn (hg _ s5 σ3 H5 x u _ I5' r5 (step x H5 y5)) fun _ s6 ⟨σ6, H6, I6, q6⟩ => ?_)
    refine wpAny_passesOwn hp (thn (hb _ s6 σ6 H6 _ I6 q6) fun f s7 q7 => ?_)
    have again : ∀ {σ7 : St} {H7 : Hp}, Inv X (pins ++ pinsAt fp s5.heap) σ7 H7 s7 → N σ7 H7 → ∃ m, m < n ∧ ∃ i σ' H', Inv X pins σ' H' s7 ∧ tn i s7.heap ∧ (∀ b ∈ fp, H' b = none) ∧ W i m σ' H' := fun {σ7 H7} I7 n7 => by
      obtain ⟨m', hm, w7⟩ := hN σ7 H7 n7
      refine ⟨m', hm, i + 1, σ7, H7, I7.unpinned, T.keep _ _ _ st5 fun b hb o e => (I7.pin (b, o) (List.mem_append_right _ (List.mem_append_right _ (mem_pinsAt hb e)))).1, fun b hb => ?_, w7⟩
      obtain ⟨o, e, d⟩ := T.obj _ _ st5 b hb
      exact (I7.pin (b, o) (List.mem_append_right _ (List.mem_append_right _ (mem_pinsAt hb e)))).2.1
    cases f with
    | next => obtain ⟨σ7, H7, I7, n7⟩ := q7; exact again I7 n7
    | cont => obtain ⟨σ7, H7, I7, n7⟩ := q7; exact again I7 n7
    | brk => obtain ⟨σ7, H7, I7, q7⟩ := q7; exact ⟨σ7, H7, I7.unpinned, q7⟩
    | ret v => obtain ⟨x7, σ7, H7, I7, r7, q7⟩ := q7; exact ⟨x7, σ7, H7, I7.unpinned, r7, q7⟩
end
/-! ### the forms one uses -/
end L2
namespace L2
open PySem PySem.Spec PyProof.Rows
abbrev R2 := V → V → Hp → VK → Prop
/-- a two-place operation on values: f is binaryOp op, inplaceOp op or compareOp op -/
def OpR (X : Cx) (f : Value → Value → Sem Value) (r : R2) : Prop :=
  ∀ (pins : List (Addr × Obj)) (s : Shared) (σ : St) (H : Hp) (x y : V) (v u : Value) (Q : VK), Inv X pins σ H s → RelV x v → RelV y u → r x y H Q →
    wpAny (model X.prog X.w) X.A (f v u) (EP X pins σ Q) X.xe s
/-- a one-place operation -/
def UnR (X : Cx) (f : Value → Sem Value) (r : V → Hp → VK → Prop) : Prop :=
  ∀ (pins : List (Addr × Obj)) (s : Shared) (σ : St) (H : Hp) (x : V) (v : Value) (Q : VK), Inv X pins σ H s → RelV x v → r x H Q →
    wpAny (model X.prog X.w) X.A (f v) (EP X pins σ Q) X.xe s
/-- a call of a value that is known (a builtin, a type) with values -/
def CallR (X : Cx) (f : Value) (r : List V → Hp → VK → Prop) : Prop :=
  ∀ (pins : List (Addr × Obj)) (s : Shared) (σ : St) (H : Hp) (xs : List V) (us : List Value) (Q : VK), Inv X pins σ H s → Vals xs us → r xs H Q →
    wpAny (model X.prog X.w) X.A (call f us) (EP X pins σ Q) X.xe s
/-- a value's truth -/
def TruR (X : Cx) (r : V → Hp → (Bool → Hp → Prop) → Prop) : Prop :=
  ∀ (pins : List (Addr × Obj)) (s : Shared) (σ : St) (H : Hp) (x : V) (v : Value) (Q : Bool → Hp → Prop), Inv X pins σ H s → RelV x v → r x H Q →
    wpAny (model X.prog X.w) X.A (truthy v) (TP X pins σ Q) X.xe s
def tOp (r : R2) (ta tb : TE) : TE := fun σ H Q => ta σ H fun x H1 => tb σ H1 fun y H2 => r x y H2 Q
def tUn (r : V → Hp → VK → Prop) (ta : TE) : TE := fun σ H Q => ta σ H fun x H1 => r x H1 Q
/-- ints in, under C, and a value out -/
def rI (C : Int → Int → Prop) (g : Int → Int → V) : R2 := fun x y H Q => ∃ i j, x = .int i ∧ y = .int j ∧ C i j ∧ Q (g i j) H
def rI0 (g : Int → Int → V) : R2 := fun x y H Q => ∃ i j, x = .int i ∧ y = .int j ∧ Q (g i j) H
def rU (g : Int → V) : V → Hp → VK → Prop := fun x H Q => ∃ i, x = .int i ∧ Q (g i) H
section
variable {X : Cx} {a b c : Expr} {ta tb tc : TE} {pos : Pos}
theorem binT (ha : PE X a ta) (hb : PE X b tb) {pins : List (Addr × Obj)} {s : Shared} {σ : St} {H : Hp} {R : V → V → Hp → Prop} (I : Inv X pins σ H s)
    (h : ta σ H fun x H1 => tb σ H1 fun y H2 => R x y H2) {Q : Value → Shared → Prop} {f : Value → Value → Sem Value}
    (hf : ∀ v u s2 x y H2, Inv X pins σ H2 s2 → RelV x v → RelV y u → R x y H2 → wpAny (model X.prog X.w) X.A (f v u) Q X.xe s2) :
    wpAny (model X.prog X.w) X.A (eval a X.env) (fun v s₁ => wpAny (model X.prog X.w) X.A (eval b X.env) (fun u s₂ => wpAny (model X.prog X.w) X.A (f v u) Q X.xe s₂) X.xe s₁) X.xe s := by
  refine thn (ha pins s σ H _ I h) fun v s1 ⟨x, H1, I1, r1, q1⟩ => ?_
  refine thn (hb pins s1 σ H1 _ I1 q1) fun u s2 ⟨y, H2, I2, r2, q2⟩ => ?_
  exact hf v u s2 x y H2 I2 r1 r2 q2
theorem pe_op {op : Operator} {r : R2} (ho : OpR X (binaryOp op) r) (ha : PE X a ta) (hb : PE X b tb) : PE X (.BinOp a op b pos) (tOp r ta tb) := by
  intro pins s σ H Q I h
  exact wpAny_BinOp (binT ha hb I h fun v u s2 x y H2 I2 rx ry q => ho pins s2 σ H2 x y v u Q I2 rx ry q)
theorem pe_un {op : UnaryOp} {r : V → Hp → VK → Prop} (ho : UnR X (unaryOp op) r) (ha : PE X a ta) : PE X (.UnaryOp op a pos) (tUn r ta) := by
  intro pins s σ H Q I h
  exact UnaryOp_ (thn (ha pins s σ H _ I h) fun v s1 ⟨x, H1, I1, r1, q1⟩ => ho pins s1 σ H1 x v Q I1 r1 q1)
/-! ### ints -/
theorem opI {f : Value → Value → Sem Value} {C : Int → Int → Prop} {g : Int → Int → Int}
    (rule : ∀ (i j : Int) (t u : Tok) (s : Shared) (Q : Value → Shared → Prop) (E : Value → Shared → Prop), C i j → Q (.int (g i j) s.toks) { s with toks := s.toks + 1 } → wpAny (model X.prog X.w) X.A (f (.int i t) (.int j u)) Q E s) :
    OpR X f (rI C fun i j => .int (g i j)) := by
  intro pins s σ H x y v u Q I rx ry h
  obtain ⟨i, j, rfl, rfl, hc, q⟩ := h
  obtain ⟨t, rfl⟩ := rx
  obtain ⟨t', rfl⟩ := ry
  exact rule i j t t' s _ _ hc ⟨.int (g i j), H, I.tok _, ⟨_, rfl⟩, q⟩
theorem opI0 {f : Value → Value → Sem Value} {g : Int → Int → Int}
    (rule : ∀ (i j : Int) (t u : Tok) (s : Shared) (Q : Value → Shared → Prop) (E : Value → Shared → Prop), Q (.int (g i j) s.toks) { s with toks := s.toks + 1 } → wpAny (model X.prog X.w) X.A (f (.int i t) (.int j u)) Q E s) :
    OpR X f (rI0 fun i j => .int (g i j)) := by
  intro pins s σ H x y v u Q I rx ry h
  obtain ⟨i, j, rfl, rfl, q⟩ := h
  obtain ⟨t, rfl⟩ := rx
  obtain ⟨t', rfl⟩ := ry
  exact rule i j t t' s _ _ ⟨.int (g i j), H, I.tok _, ⟨_, rfl⟩, q⟩
theorem opB0 {f : Value → Value → Sem Value} {g : Int → Int → Bool}
    (rule : ∀ (i j : Int) (t u : Tok) (s : Shared) (Q : Value → Shared → Prop) (E : Value → Shared → Prop), Q (.bool (g i j)) s → wpAny (model X.prog X.w) X.A (f (.int i t) (.int j u)) Q E s) :
    OpR X f (rI0 fun i j => .bl (g i j)) := by
  intro pins s σ H x y v u Q I rx ry h
  obtain ⟨i, j, rfl, rfl, q⟩ := h
  obtain ⟨t, rfl⟩ := rx
  obtain ⟨t', rfl⟩ := ry
  exact rule i j t t' s _ _ ⟨.bl (g i j), H, I, rfl, q⟩
def CMul (i j : Int) : Prop := (-(2 ^ 64) < i ∧ i < 2 ^ 64) ∨ (-(2 ^ 64) < j ∧ j < 2 ^ 64)
theorem CMul.ok {i j : Int} (h : CMul i j) : IntMulOk i j := by
  rcases h with ⟨h1, h2⟩ | ⟨h1, h2⟩
  · exact .of_left (intBits_le_64 h1 h2)
  · exact .of_right (intBits_le_64 h1 h2)
theorem op_add : OpR X (binaryOp .Add) (rI0 fun i j => .int (i + j)) := opI0 fun _ _ _ _ _ _ _ q => add_int q
theorem op_sub : OpR X (binaryOp .Sub) (rI0 fun i j => .int (i - j)) := opI0 fun _ _ _ _ _ _ _ q => sub_int q
theorem op_mul : OpR X (binaryOp .Mult) (rI CMul fun i j => .int (i * j)) := opI fun _ _ _ _ _ _ _ hc q => mul_int q hc.ok
/-- % by a positive divisor of any size -/
theorem op_mod : OpR X (binaryOp .Mod) (rI (fun _ j => 0 < j) fun i j => .int (i % j)) := opI fun i j _ _ _ _ _ hc q => by
  have h1 : (0 : Int) < j := hc
  exact mod_int' (by omega) (by rw [Int.fmod_eq_emod_of_nonneg i (by omega)]; exact q)
theorem unI {f : Value → Sem Value} {g : Int → Int}
    (rule : ∀ (i : Int) (t : Tok) (s : Shared) (Q : Value → Shared → Prop) (E : Value → Shared → Prop), Q (.int (g i) s.toks) { s with toks := s.toks + 1 } → wpAny (model X.prog X.w) X.A (f (.int i t)) Q E s) :
    UnR X f (rU fun i => .int (g i)) := by
  intro pins s σ H x v Q I rx h
  obtain ⟨i, rfl, q⟩ := h
  obtain ⟨t, rfl⟩ := rx
  exact rule i t s _ _ ⟨.int (g i), H, I.tok _, ⟨_, rfl⟩, q⟩
theorem un_neg : UnR X (unaryOp .USub) (rU fun i => .int (-i)) := unI fun _ _ _ _ _ q => neg_int q
/-! ### bools among ints: n += (a < b) -/
end
/-! ### comparisons -/
section
variable {X : Cx} {a b c : Expr} {ta tb tc : TE} {pos : Pos}
theorem fin_bl {pins : List (Addr × Obj)} {σ : St} {H : Hp} {s : Shared} {Q : VK} {k k' : Bool} (I : Inv X pins σ H s) (q : Q (.bl k) H) (e : k = k') : EP X pins σ Q (.bool k') s := by
  subst e
  exact ⟨.bl k, H, I, rfl, q⟩
theorem op_lt : OpR X (compareOp .Lt) (rI0 fun i j => .bl (decide (i < j))) := opB0 fun _ _ _ _ _ _ _ q => lt_int q
theorem op_gt : OpR X (compareOp .Gt) (rI0 fun i j => .bl (decide (j < i))) := opB0 fun _ _ _ _ _ _ _ q => gt_int q
/-- the one string within the other -/
theorem op_in_str : OpR X (compareOp .In) (fun x y H Q => ∃ i j, x = .str i ∧ y = .str j ∧ Q (.bl (!(Builtin.Str.occurrences j i 0 j.length 1).isEmpty)) H) := by
  intro pins s σ H x y v u Q I rx ry h
  obtain ⟨i, j, rfl, rfl, q⟩ := h
  obtain ⟨t, rfl⟩ := rx
  obtain ⟨t', rfl⟩ := ry
  exact in_str (fin_bl I q rfl)
/-- is None, is not None: the right side a value none -/
theorem op_isN : OpR X (compareOp .Is) (fun x y H Q => y = .non ∧ Q (.bl (decide (x = .non))) H) := by
  intro pins s σ H x y v u Q I rx ry h
  obtain ⟨rfl, q⟩ := h
  cases ry
  refine is_none_gen (fin_bl I q ?_)
  cases x <;> first
    | (cases rx; rfl)
    | (obtain ⟨t, rfl⟩ := rx; rfl)
theorem op_notN : OpR X (compareOp .IsNot) (fun x y H Q => y = .non ∧ Q (.bl (!decide (x = .non))) H) := by
  intro pins s σ H x y v u Q I rx ry h
  obtain ⟨rfl, q⟩ := h
  cases ry
  refine isnot_none_gen (fin_bl I q ?_)
  cases x <;> first
    | (cases rx; rfl)
    | (obtain ⟨t, rfl⟩ := rx; rfl)
/-- two rules for one operation: by cases -/
theorem OpR.or {f : Value → Value → Sem Value} {r r' : R2} (h : OpR X f r) (h' : OpR X f r') : OpR X f (fun x y H Q => r x y H Q ∨ r' x y H Q) := by
  intro pins s σ H x y v u Q I rx ry q
  rcases q with q | q
  · exact h pins s σ H x y v u Q I rx ry q
  · exact h' pins s σ H x y v u Q I rx ry q
theorem nomark (b : Expr) {op : CmpOp} (h : op ≠ .In := by decide) (h2 : op ≠ .NotIn := by decide) : behindInMarks op b = false := by
  have e1 : (op == CmpOp.In) = false := by cases op <;> first | rfl | exact absurd rfl h
  have e2 : (op == CmpOp.NotIn) = false := by cases op <;> first | rfl | exact absurd rfl h2
  cases b <;> simp [behindInMarks, e1, e2]
/-- a comparison as a value; hm: nomark b, or (for in, not in) by with_unfolding_all rfl -/
theorem pe_cmpR {op : CmpOp} {r : R2} (ho : OpR X (compareOp op) r) (ha : PE X a ta) (hb : PE X b tb) (hm : behindInMarks op b = false) : PE X (.Compare a [op] [b] pos) (tOp r ta tb) := by
  intro pins s σ H Q I h
  exact wpAny_Compare1 (binT ha hb I h fun v u s2 x y H2 I2 rx ry q => ho pins s2 σ H2 x y v u Q I2 rx ry q) hm
/-- a reading of a value as a test -/
def tTest (t : TE) : TT := fun σ H Q => t σ H fun x H' => ∃ k, x = .bl k ∧ Q k H'
theorem pt_cmpR {op : CmpOp} {r : R2} (ho : OpR X (compareOp op) r) (ha : PE X a ta) (hb : PE X b tb) (hm : behindInMarks op b = false) : PT X (.Compare a [op] [b] pos) (tTest (tOp r ta tb)) := by
  intro pins s σ H Q I h
  refine wpAny_isTrue_Compare1 (thn (ha pins s σ H _ I h) fun v s1 ⟨x, H1, I1, r1, q1⟩ => thn (hb pins s1 σ H1 _ I1 q1) fun u s2 ⟨y, H2, I2, r2, q2⟩ =>
    thn (ho pins s2 σ H2 x y v u _ I2 r1 r2 q2) fun c s3 ⟨z, H3, I3, r3, k, e, q3⟩ => ?_) hm
  subst e
  cases r3
  exact wpAny_truthy_bool ⟨H3, I3, q3⟩
/-! ### truth -/
/-- a value's truth by the abstract heap -/
def TruV (K : PySem.W.Frag) (x : V) (H : Hp) (k : Bool) : Prop :=
  match x with
  | .non => k = false
  | .bl b => k = b
  | .int i => k = (i != 0)
  | .str y => y.length ≤ sizeLine ∧ k = ((y.length : Int) != 0)
  | .byt y => y.size ≤ sizeLine ∧ k = ((y.size : Int) != 0)
  | .ref p => (∃ xs, SqL K H p xs ∧ k = !xs.isEmpty) ∨ (∃ xs, SqT K H p xs ∧ k = !xs.isEmpty) ∨ ∃ kvs, H p = some (.dK kvs) ∧ k = !kvs.isEmpty
  | _ => False
theorem isEmpty_kv {κ : Type} {kvs : List (κ × V)} {vs : List (κ × Value)} (r : KV kvs vs) : (!vs.isEmpty) = !kvs.isEmpty := by
  cases r <;> rfl
theorem isEmpty_of {xs : List V} {its : List Value} (r : Vals xs its) : (!its.toArray.isEmpty) = !xs.isEmpty := by
  cases r <;> simp
theorem line63 : (sizeLine : Nat) < 2 ^ 63 := by rw [sizeLine_eq]; decide
theorem tru_ok : TruR X (fun x H Q => ∃ k, TruV X.K x H k ∧ Q k H) := by
  intro pins s σ H x v Q I rx h
  obtain ⟨k, e, q⟩ := h
  have hl := line63
  have hs : sizeLine = 16777216 := sizeLine_eq
  cases x with
  | non =>
    cases rx
    have e' : k = false := e
    subst e'
    exact truthy_none ⟨H, I, q⟩
  | bl b =>
    cases rx
    have e' : k = b := e
    subst e'
    exact wpAny_truthy_bool ⟨H, I, q⟩
  | int i =>
    obtain ⟨t, rfl⟩ := rx
    have e' : k = (i != 0) := e
    subst e'
    exact PySem.P.truthy_int ⟨H, I, q⟩
  | str y =>
    obtain ⟨t, rfl⟩ := rx
    obtain ⟨hy, e'⟩ : y.length ≤ sizeLine ∧ k = ((y.length : Int) != 0) := e
    subst e'
    exact PySem.P.truthy_str (by omega) ⟨H, I.tok _, q⟩
  | byt y =>
    obtain ⟨t, rfl⟩ := rx
    obtain ⟨hy, e'⟩ : y.size ≤ sizeLine ∧ k = ((y.size : Int) != 0) := e
    subst e'
    exact PySem.W.truthy_bytes (by omega) ⟨H, I.tok _, q⟩
  | ref p =>
    cases rx
    have e' : (∃ xs, SqL X.K H p xs ∧ k = !xs.isEmpty) ∨ (∃ xs, SqT X.K H p xs ∧ k = !xs.isEmpty) ∨ ∃ kvs, H p = some (.dK kvs) ∧ k = !kvs.isEmpty := e
    rcases e' with ⟨xs, hx, e'⟩ | ⟨xs, hx, e'⟩ | ⟨kvs, hx, e'⟩
    · subst e'
      obtain ⟨its, r, pl, hz⟩ := I.list hx
      have hlen := r.length
      exact wpAny_truthy_list pl.isList (by simp only [List.size_toArray]; omega) ⟨H, I.tok _, by rw [isEmpty_of r]; exact q⟩
    · subst e'
      obtain ⟨its, r, pl, hz⟩ := I.tuple hx
      have hlen := r.length
      exact truthy_tuple pl (by simp only [List.size_toArray]; omega) ⟨H, I.tok _, by rw [isEmpty_of r]; exact q⟩
    · subst e'
      obtain ⟨hz, hS, vs, r, m⟩ : kvs.length ≤ sizeLine ∧ (p == sysModules) = false ∧ ∃ vs, KV kvs vs ∧ s.heap.DictOf (mixKind X.prog X.w) p vs := I.hok p _ hx
      have hlen : kvs.length = vs.length := Paired.length r
      exact wpAny_truthy_dict hS m (by omega) ⟨H, I.tok _, by rw [isEmpty_kv r]; exact q⟩
  | _ => exact (show False from e).elim
/-- any expression whose test is its value's truth (a name, a call, a subscript, a field ..: he by fun _ => rfl) -/
theorem pt_truth (ha : PE X a ta) (he : ∀ whole, isTrue a X.env whole = (do let v ← whole; standAt a.pos; holding [v] (truthy v))) :
    PT X a (fun σ H Q => ta σ H fun x H' => ∃ k, TruV X.K x H' k ∧ Q k H') := by
  intro pins s σ H Q I h
  exact isTrue_plain (thn (ha pins s σ H _ I h) fun v s1 ⟨x, H1, I1, r1, q1⟩ => tru_ok pins s1 σ H1 x v Q I1 r1 q1) (he _)
/-! ### strs and bytes -/
theorem op_add_str : OpR X (binaryOp .Add) (fun x y H Q => ∃ i j, x = .str i ∧ y = .str j ∧ i.length + j.length ≤ sizeLine ∧ Q (.str (i ++ j)) H) := by
  intro pins s σ H x y v u Q I rx ry h
  obtain ⟨i, j, rfl, rfl, hz, q⟩ := h
  obtain ⟨t, rfl⟩ := rx
  obtain ⟨t', rfl⟩ := ry
  exact add_str (fun t' tk => ⟨.str (i ++ j), H, I.tok _, ⟨_, rfl⟩, q⟩) hz
/-! ### scalar builtins, by CallR -/
theorem vals1 {x : V} {us : List Value} (r : Vals [x] us) : ∃ u, us = [u] ∧ RelV x u := by
  cases r with
  | cons r1 r2 => cases r2; exact ⟨_, rfl, r1⟩
theorem vals2 {x y : V} {us : List Value} (r : Vals [x, y] us) : ∃ u w', us = [u, w'] ∧ RelV x u ∧ RelV y w' := by
  cases r with
  | cons r1 r2 =>
    cases r2 with
    | cons r3 r4 => cases r4; exact ⟨_, _, rfl, r1, r3⟩
theorem call_min2 (hc : X.calm = true) : CallR X (.builtin "min") (fun xs H Q => ∃ i j, xs = [.int i, .int j] ∧ Q (.int (if j < i then j else i)) H) := by
  intro pins s σ H xs us Q I r h
  obtain ⟨i, j, rfl, q⟩ := h
  obtain ⟨u, w', rfl, ⟨t, rfl⟩, ⟨t', rfl⟩⟩ := vals2 r
  refine min_two_ints (I.ok.hd hc) fun h' tk k => ⟨_, H, I.kept k, ?_, q⟩
  by_cases hj : j < i
  · rw [if_pos hj, if_pos hj]; exact ⟨_, rfl⟩
  · rw [if_neg hj, if_neg hj]; exact ⟨_, rfl⟩
theorem call_int1 : CallR X (.type "int") (fun xs H Q => (∃ i, xs = [.int i] ∧ Q (.int i) H) ∨ ∃ k, xs = [.bl k] ∧ Q (.int (if k then 1 else 0)) H) := by
  intro pins s σ H xs us Q I r h
  rcases h with ⟨i, rfl, q⟩ | ⟨k, rfl, q⟩
  · obtain ⟨u, rfl, t, rfl⟩ := vals1 r
    exact call_int_int ⟨.int i, H, I, ⟨_, rfl⟩, q⟩
  · obtain ⟨u, rfl, r1⟩ := vals1 r
    cases r1
    exact call_int_bool ⟨.int (if k then 1 else 0), H, I.tok _, ⟨_, rfl⟩, q⟩
end
end L2
namespace L2
open PySem PySem.Spec PyProof.Rows
/-! ### an instance, its attributes a map -/
structure ObjM (h : Heap) (x dx C : Addr) (mA : Str → Option Value) : Prop where
  obj : h.get? x = some (PySem.W.instObj C dx)
  ns : h.Ns1 dx mA
  ne : dx ≠ x
theorem lookIn_ns {h : Heap} {dx : Addr} {mA : Str → Option Value} (n : h.Ns1 dx mA) : ∃ od, h.get? dx = some od ∧ ∀ name, PySem.W.lookIn name od = some (mA name) := by
  obtain ⟨o, es, ep, ho, hd, hk, _, hm⟩ := n
  refine ⟨o, ho, fun name => ?_⟩
  have e := hm name
  unfold nsFind findBy at e
  rw [← Array.find?_toList] at e
  unfold PySem.W.lookIn
  rw [hd]
  dsimp only
  split
  · rename_i y q
    rw [q] at e
    exact congrArg some e
  · rename_i q
    rw [q] at e
    have a : es.toList.any (·.refKey) = false := by
      rw [List.any_eq_false]
      intro y hy
      obtain ⟨z, t, hkey⟩ := hk y (Array.mem_toList_iff.mp hy)
      simp [DictEntry.refKey, hkey]
    have a' : ¬ es.toList.any (·.refKey) = true := by rw [a]; exact Bool.false_ne_true
    rw [if_neg a']
    exact congrArg some e
theorem ObjM.look {h : Heap} {x dx C : Addr} {mA : Str → Option Value} (I : ObjM h x dx C mA) : ∃ od, PySem.W.InstAt h x (PySem.W.instObj C dx) C (some od) ∧ ∀ name, PySem.W.lookIn name od = some (mA name) :=
  let ⟨od, ho, hl⟩ := lookIn_ns I.ns
  ⟨od, ⟨I.obj, rfl, rfl, ho⟩, hl⟩
section
variable {prog : Program} {w : World} {A : Around} {E : Value → Shared → Prop} {s : Shared} {K : PySem.W.Frag} {x dx C f : Addr} {mA : Str → Option Value} {name : Str} {v : Value}
end
/-! ### the attributes as a list of pairs -/
theorem RelO.some_of {v : V} {o : Option Value} (r : RelO (some v) o) : ∃ u, o = some u ∧ RelV v u := by
  cases o with
  | none => exact (show False from r).elim
  | some u => exact ⟨u, rfl, r⟩
theorem RelO.none_of {o : Option Value} (r : RelO none o) : o = none := by
  cases o with
  | none => rfl
  | some u => exact (show False from r).elim
section
variable {P : Program} {w : World} {H H' : Hp} {h h' : Heap} {a C dx : Addr} {fs fs' : List (Str × V)}
theorem ins_get (hok : HOk P w H h) (e : H a = some (.ins C dx fs)) : ∃ mA, ObjM h a dx C mA ∧ (∀ f, RelO (fs.lookup f) (mA f)) ∧ PySem.Within mA (fs.map (·.1)) ∧ fs.length ≤ 1000 ∧ H dx = some (.own a) := by
  obtain ⟨d, z, ne, ob, mA, n, r, q⟩ := (show ObjOk P w H h a (.ins C dx fs) from hok a _ e)
  exact ⟨mA, ⟨ob, n, ne⟩, r, q, z, d⟩
end
/-! ### what of the text a class must have -/
structure Cls (K : PySem.W.Frag) (C : Addr) : Prop where
  pg : PySem.W.plainGet K C Str.empty = true
  hd : PySem.W.hasDictIn K C = true
  po : PySem.W.plainOver K C = true
  sa : PySem.W.findIn K (.ref C) "__setattr__" = some (some (.builtin "object.__setattr__"))
theorem Cls.get {K : PySem.W.Frag} {C : Addr} (c : Cls K C) (f : Str) : PySem.W.plainGet K C f = true := c.pg
/-- a constant of the class -/
structure Con (K : PySem.W.Frag) (C : Addr) (f : Str) (v : V) (u : Value) : Prop where
  at_ : PySem.W.findIn K (.ref C) f = some (some u)
  rel : RelV v u
  get : PySem.W.specialIn K u "__get__" = some none
  cp : PySem.W.copiedNames.contains f = false
/-- a method: a plain def of the class or of one above it -/
structure Meth (K : PySem.W.Frag) (C : Addr) (m : Str) (f : Addr) : Prop where
  at_ : PySem.W.findIn K (.ref C) m = some (some (.ref f))
  fn : PySem.W.isFn K (.ref f) = true
  kp : PySem.W.keepIn K (.ref f) = true
section
variable {X : Cx} {pins : List (Addr × Obj)} {σ : St} {H : Hp} {s : Shared} {a C dx : Addr} {fs : List (Str × V)} {f : Str} {v : V} {A : Around} {E : Value → Shared → Prop}
/-- e.f where nothing but the object is asked: through attributeBase (super) and the last hold -/
theorem attr_of {prog : Program} {w : World} {env : Env} {e : Expr} {f : Str} {pos : Pos} {s : Shared} {Q : Value → Shared → Prop} (hb : attributeBase e f env (eval e env) = eval e env)
    (h : wpAny (model prog w) A (eval e env) (fun o s₁ => wpAny (model prog w) A (getAttr o f true) Q E s₁) E s) : wpAny (model prog w) A (eval (.Attribute e f pos) env) Q E s :=
  Attribute_any_ h (by rw [arm_eval_Attribute, hb])
end
/-! ### readings and rules -/
section
variable {X : Cx} {o e value : Expr} {f : Str} {pos pos' tpos : Pos} {ta tv : TE}
end
/-! ### isinstance -/
section
variable {X : Cx} {pins : List (Addr × Obj)} {σ : St} {H : Hp} {s : Shared} {A : Around} {E : Value → Shared → Prop} {Q : Value → Shared → Prop} {c : Value} {b : Bool}
/-- the type of a value, as the fragment's deciders take it; for an instance its class -/
inductive TyOf (K : PySem.W.Frag) (H : Hp) : V → Value → Prop where
  | non : TyOf K H .non (.type "NoneType")
  | bl (x : Bool) : TyOf K H (.bl x) (.type "bool")
  | int (i : Int) : TyOf K H (.int i) (.type "int")
  | str (x : Str) : TyOf K H (.str x) (.type "str")
  | flt (x : UInt64) : TyOf K H (.flt x) (.type "float")
  | lst {a : Addr} {xs : List V} (e : H a = some (.lst xs)) : TyOf K H (.ref a) (.type "list")
  | frz {a : Addr} {o : Obj} {xs : List V} (e : H a = some (.frz o (.lst xs))) : TyOf K H (.ref a) (.type "list")
  | tup {a : Addr} {xs : List V} (e : H a = some (.tup xs)) : TyOf K H (.ref a) (.type "tuple")
  | dK {a : Addr} {kvs : List (Key × V)} (e : H a = some (.dK kvs)) : TyOf K H (.ref a) (.type "dict")
  | dT {a : Addr} {kvs : List (List Key × V)} (e : H a = some (.dT kvs)) : TyOf K H (.ref a) (.type "dict")
  | ins {a C dx : Addr} {fs : List (Str × V)} (e : H a = some (.ins C dx fs)) (cl : Cls K C) (ha : PySem.W.findIn K (.ref C) "__class__" = some (some (.builtin "object.__class__")))
      (hn : PySem.W.specialIn K (.builtin "object.__class__") "__get__" = some (some (.builtin "getset_descriptor.__get__"))) (htk : PySem.W.takesIn K (.builtin "object.__class__") = some true)
      (hm : PySem.W.mroIn K C (.type "object") = some true) : TyOf K H (.ref a) (.ref C)
/-- isinstance(x, c) for one class c, a built-in or an own one: kitOne's answer -/
theorem isinst_ok {x : V} {u t : Value} (I : Inv X pins σ H s) (rx : RelV x u) (ty : TyOf X.K H x t) (e : PySem.W.kitOne X.K t c = some b) (h : ∀ tk, Q (.bool b) { s with toks := tk }) :
    wpAny (model X.prog X.w) A (call (.builtin "isinstance") [u, c]) Q E s := by
  cases ty with
  | non => cases (show u = Value.none from rx); exact PySem.W.kia_one PySem.W.kitx_none I.kIn True.intro e (fun z => nomatch z) h
  | bl y => cases (show u = Value.bool y from rx); exact PySem.W.kia_one PySem.W.kitx_bool I.kIn True.intro e (fun z => nomatch z) h
  | int i => obtain ⟨t, q⟩ := (show ∃ t, u = Value.int i t from rx); cases q; exact PySem.W.kia_one PySem.W.kitx_int I.kIn True.intro e (fun z => nomatch z) h
  | str y => obtain ⟨t, q⟩ := (show ∃ t, u = Value.str y t from rx); cases q; exact PySem.W.kia_one PySem.W.kitx_str I.kIn True.intro e (fun z => nomatch z) h
  | flt y => obtain ⟨t, q⟩ := (show ∃ t, u = Value.float y t from rx); cases q; exact PySem.W.kia_one PySem.W.kitx_float I.kIn True.intro e (fun z => nomatch z) h
  | @lst a xs ea =>
    cases (show u = Value.ref a from rx)
    obtain ⟨_, _, n, _, h1⟩ := (show ObjOk X.prog X.w H s.heap a (.lst xs) from I.hok a _ ea)
    exact PySem.W.kia_one PySem.W.kitx_list I.kIn ⟨_, h1, rfl⟩ e (fun z => nomatch z) h
  | @frz a ob xs ea =>
    cases (show u = Value.ref a from rx)
    obtain ⟨_, _, _, n, _, h1⟩ := (show ObjOk X.prog X.w H s.heap a (.frz ob (.lst xs)) from I.hok a _ ea)
    exact PySem.W.kia_one PySem.W.kitx_list I.kIn ⟨_, h1, rfl⟩ e (fun z => nomatch z) h
  | @tup a xs ea =>
    cases (show u = Value.ref a from rx)
    obtain ⟨_, _, _, p⟩ := (show ObjOk X.prog X.w H s.heap a (.tup xs) from I.hok a _ ea)
    obtain ⟨o, h1, h2, _⟩ := p
    exact PySem.W.kia_one PySem.W.kitx_tuple I.kIn ⟨o, h1, h2⟩ e (fun z => nomatch z) h
  | @dK a kvs ea =>
    cases (show u = Value.ref a from rx)
    obtain ⟨_, _, vs, _, p⟩ := (show ObjOk X.prog X.w H s.heap a (.dK kvs) from I.hok a _ ea)
    obtain ⟨o, es, ep, h1, h2, _⟩ := p
    exact PySem.W.kia_one PySem.W.kitx_dict I.kIn ⟨o, h1, h2.1⟩ e (fun z => nomatch z) h
  | @dT a kvs ea =>
    cases (show u = Value.ref a from rx)
    obtain ⟨_, _, xs, _, o, es, ep, h1, h2, _⟩ := (show ObjOk X.prog X.w H s.heap a (.dT kvs) from I.hok a _ ea)
    exact PySem.W.kia_one PySem.W.kitx_dict I.kIn ⟨o, h1, h2.1⟩ e (fun z => nomatch z) h
  | @ins a C dx fs ea cl ha hn htk hm =>
    cases (show u = Value.ref a from rx)
    obtain ⟨mA, O, _⟩ := ins_get I.hok ea
    obtain ⟨od, J, _⟩ := O.look
    exact PySem.W.kia_one (PySem.W.kitx_own (cl.get _) cl.hd ha hn htk hm) I.kIn J e (fun z => nomatch z) h
end
end L2
namespace L2
open PySem PySem.Spec PyProof.Rows
/-! ### room -/
structure Room (k : Nat) (A : Around) : Prop where
  hd : A.handled = none
  dp : A.depth + 3 * k + 5 < recursionLimit
  un : A.units + 16 * k + 200 < cLine
theorem Room.mono {j k : Nat} {A : Around} (r : Room k A) (h : j ≤ k) : Room j A := ⟨r.hd, by have := r.dp; omega, by have := r.un; omega⟩
theorem Room.deeper {k : Nat} {A : Around} (r : Room (k + 1) A) (env : Env) : Room k (A.deeper env) :=
  ⟨r.hd, by have := r.dp; show A.depth + 1 + 3 * k + 5 < _; omega, by have := r.un; show A.units + 3 + 16 * k + 200 < _; omega⟩
theorem make_depth {A : Around} {C : Addr} {us : List Value} {kw : List (Str × Value)} : (A.under (.builtin "type.__call__" ⟨.ref C :: us, kw⟩)).depth = A.depth + 1 := by
  first | rfl | simp [Around.under, Code.weight, Code.isCreation, Code.isGuard, Code.isCaller, Code.frames, Code.isFrame, guardIds]
theorem make_units {A : Around} {C : Addr} {us : List Value} {kw : List (Str × Value)} : (A.under (.builtin "type.__call__" ⟨.ref C :: us, kw⟩)).units = A.units + 1 := by
  first | rfl | simp [Around.under, Code.cUnits, Code.frames, Code.isFrame]
theorem Room.make {k : Nat} {A : Around} (r : Room (k + 1) A) (C : Addr) (us : List Value) (kw : List (Str × Value)) : Room k (A.under (.builtin "type.__call__" ⟨.ref C :: us, kw⟩)) :=
  ⟨r.hd, by have := r.dp; rw [make_depth]; omega, by have := r.un; rw [make_units]; omega⟩
theorem Room.depth {k : Nat} {A : Around} (r : Room k A) : A.depth < recursionLimit := by have := r.dp; omega
/-! ### argument lists and displays -/
def tNil : TA := fun _ H Q => Q [] H
def tCons (ta : TE) (tr : TA) : TA := fun σ H Q => ta σ H fun x H1 => tr σ H1 fun xs H2 => Q (x :: xs) H2
section
variable {X : Cx} {e : Expr} {es : List Expr} {te : TE} {t : TA} {pos : Pos}
theorem pa_nil : PA X [] tNil := fun _ _ _ _ H Q I h => Calls.spliced_nil ⟨[], H, I, .nil, h⟩
theorem pa_cons (ha : PE X e te) (hr : PA X es t) (hs : starEach (e :: es) X.env = (false, eval e X.env) :: starEach es X.env := by rfl) : PA X (e :: es) (tCons te t) := by
  intro pos pins s σ H Q I h
  rw [hs]
  show wpAny _ _ (spliced ((false, eval e X.env) :: backTo pos (starEach es X.env))) _ _ s
  refine Calls.spliced_cons (thn (ha pins s σ H _ I h) fun u s1 ⟨x, H1, I1, r1, q1⟩ => ?_)
  exact thn (hr pos pins s1 σ H1 _ I1 q1) fun us s2 ⟨xs, H2, I2, r2, q2⟩ => ⟨x :: xs, H2, I2, .cons r1 r2, q2⟩
/-- a tuple, a list of written items -/
def tTup (t : TA) : TE := fun σ H Q => t σ H fun xs H1 => xs.length ≤ sizeLine ∧ ∀ p, H1 p = none → Q (.ref p) (upd H1 p (.tup xs))
def tLst (t : TA) : TE := fun σ H Q => t σ H fun xs H1 => xs.length ≤ sizeLine ∧ ∀ p, H1 p = none → Q (.ref p) (upd H1 p (.lst xs))
theorem pe_tup {x1} (h : PA X es t) : PE X (.Tuple es x1 pos) (tTup t) := by
  intro pins s σ H Q I hq
  refine wpAny_Tuple_spliced (thn (h pos pins s σ H _ I hq) fun us s1 ⟨xs, H1, I1, r, z, q⟩ => ⟨by rw [← r.length]; exact z, ?_⟩)
  have hf : H1 s1.heap.objs.size = none := I1.hok.fresh (Nat.le_refl _)
  refine ⟨.ref s1.heap.objs.size, upd H1 s1.heap.objs.size (.tup xs), I1.laid (t' := s1.toks) (fun b u e => Heap.get?_push_of_some _ e) (Nat.le_refl _) ?_, rfl, q _ hf⟩
  exact ⟨z, us, r, ⟨_, Heap.get?_push_size _ rfl, rfl, _, rfl⟩⟩
theorem pe_lst (h : PA X es t) : PE X (.List es pos) (tLst t) := by
  intro pins s σ H Q I hq
  refine wpAny_List_spliced (thn (h pos pins s σ H _ I hq) fun us s1 ⟨xs, H1, I1, r, z, q⟩ => ⟨by rw [← r.length]; exact z, ?_⟩)
  have hf : H1 s1.heap.objs.size = none := I1.hok.fresh (Nat.le_refl _)
  refine ⟨.ref s1.heap.objs.size, upd H1 s1.heap.objs.size (.lst xs), I1.laid (t' := s1.toks) (fun b u e => Heap.get?_push_of_some _ e) (Nat.le_refl _) ?_, rfl, q _ hf⟩
  exact ⟨z, us, 0, r, Heap.get?_push_size _ rfl⟩
end
/-! ### what a def promises -/
/-- a def's promise: the bound arguments in the parameters' order, the heap, the wanted end, the wanted exception -/
abbrev Sp := List V → Hp → VK → XK → Prop
/-- how an exception lies behind a call (file 08 gives it): the callers' frames, abstract heap and state ahead of the call, the wish, the exception, the state -/
abbrev CXT := List Env → Hp → Shared → XK → Value → Shared → Prop
/-- the state at a call -/
structure Env0 (P : Program) (w : World) (K : PySem.W.Frag) (mg : Str → Option Value) (base : Heap) (A : Around) (outer : List Env) (s : Shared) (H : Hp) : Prop where
  frames : A.frames = some outer
  mod : Mod K mg base
  bs : ∀ b o, base.get? b = some o → s.heap.get? b = some o ∧ H b = none
  bsz : base.objs.size ≤ s.heap.objs.size
  funs : s.heap.FunFrames base outer
  frf : ∀ b ∈ frs outer, H b = none
  hok : HOk P w H s.heap
  bare : AllBare s.gens
/-- a call's end -/
def CE (outer : List Env) (P : Program) (w : World) (H : Hp) (s : Shared) (Q : VK) (u : Value) (s' : Shared) : Prop :=
  ∃ v H', s'.os = s.os ∧ AllBare s'.gens ∧ Un (frs outer) [] H H' s.heap s'.heap ∧ HOk P w H' s'.heap ∧ RelV v u ∧ Q v H'
def CR (CX : CXT) (outer : List Env) (P : Program) (w : World) (H : Hp) (s : Shared) (Q : VK) (E : XK) (r : Result) (s' : Shared) : Prop :=
  match r with
  | .ok (.ret u) => CE outer P w H s Q u s'
  | .ok _ => False
  | .error e => CX outer H s E e s'
structure FnOk (P : Program) (w : World) (K : PySem.W.Frag) (mg : Str → Option Value) (base : Heap) (CX : CXT) (k : Nat) (f : Addr) (fd : FuncData) (ps : List Str) (sp : Sp) : Prop where
  len : ∀ vs H Q E, sp vs H Q E → vs.length = ps.length
  run : ∀ (A : Around) (outer : List Env) (s : Shared) (H : Hp) (args : Args) (us : List Value) (vs : List V) (Q : VK) (E : XK), Room k A → Env0 P w K mg base A outer s H → BindsTo s fd args (ps.zip us) → Vals vs us → sp vs H Q E →
    codeAny (model P w) A (.call (.ref f) args) (CR CX outer P w H s Q E) s
theorem FnOk.mono {P : Program} {w : World} {K : PySem.W.Frag} {mg : Str → Option Value} {base : Heap} {CX : CXT} {j k : Nat} {f : Addr} {fd : FuncData} {ps : List Str} {sp : Sp} (F : FnOk P w K mg base CX j f fd ps sp) (h : j ≤ k) :
    FnOk P w K mg base CX k f fd ps sp := ⟨F.len, fun A outer s H args us vs Q E hr => F.run A outer s H args us vs Q E (hr.mono h)⟩
/-- a weaker promise -/
theorem FnOk.imp {P : Program} {w : World} {K : PySem.W.Frag} {mg : Str → Option Value} {base : Heap} {CX : CXT} {k : Nat} {f : Addr} {fd : FuncData} {ps : List Str} {sp sp' : Sp} (F : FnOk P w K mg base CX k f fd ps sp)
    (h : ∀ vs H Q E, sp' vs H Q E → sp vs H Q E) : FnOk P w K mg base CX k f fd ps sp' :=
  ⟨fun vs H Q E q => F.len vs H Q E (h _ _ _ _ q), fun A outer s H args us vs Q E hr he hb hv hs => F.run A outer s H args us vs Q E hr he hb hv (h _ _ _ _ hs)⟩
theorem Env0.make {P : Program} {w : World} {K : PySem.W.Frag} {mg : Str → Option Value} {base : Heap} {A : Around} {outer : List Env} {s : Shared} {H : Hp} (e : Env0 P w K mg base A outer s H) (C : Addr) (us : List Value) (kw : List (Str × Value)) :
    Env0 P w K mg base (A.under (.builtin "type.__call__" ⟨.ref C :: us, kw⟩)) outer s H := ⟨by first | exact e.frames | (simpa [Around.under, Code.envs, Code.isFrame, pushEnvs] using e.frames), e.mod, e.bs, e.bsz, e.funs, e.frf, e.hok, e.bare⟩
section
variable {X : Cx} {pins : List (Addr × Obj)} {σ : St} {H : Hp} {s s' : Shared}
/-- from a body: what a callee wants -/
theorem Inv.env0 (I : Inv X pins σ H s) : Env0 X.prog X.w X.K X.mg X.base X.A X.stack s H :=
  ⟨I.ok.frames, I.ok.mod, I.bs, Nat.le_trans I.ok.bsz I.sz, I.stack, I.stkFree, I.hok, I.bare⟩
/-- behind a call -/
theorem Inv.after {Q : VK} {u : Value} (I : Inv X pins σ H s) (h : CE X.stack X.prog X.w H s Q u s') : EP X pins σ Q u s' := by
  obtain ⟨v, H', os, bare, un, hok, r, q⟩ := h
  obtain ⟨hh, g, d, t, os'⟩ := s'
  obtain rfl : os' = s.os := os
  exact ⟨v, H', I.call (h' := hh) (g' := g) (d' := d) (t' := t) (ch := []) un hok bare (fun b z => absurd z (by simp)), r, q⟩
end
/-! ### calls -/
/-- f(..): the written arguments, then the defaults dvs; E: what is wanted of an exception -/
def tCall (sp : Sp) (dvs : List V) (E : XK) (t : TA) : TE := fun σ H Q => t σ H fun vs H1 => sp (vs ++ dvs) H1 Q E
/-- how the parameters are bound: us the positional arguments, kw the keywords' values by name, ds the defaults that fill up -/
def Binds (K : PySem.W.Frag) (fd : FuncData) (ps : List Str) (ds : List Value) : Prop :=
  ∀ (s : Shared) (us : List Value), K.In s.heap → (us ++ ds).length = ps.length → BindsTo s fd ⟨us, []⟩ (ps.zip (us ++ ds))
/-- every parameter is given -/
theorem Binds.all {K : PySem.W.Frag} {fd : FuncData} {ps : List Str} (h : ∀ us : List Value, us.length = ps.length → bindArgs fd ⟨us, []⟩ = pure (ps.zip us)) : Binds K fd ps [] := fun s us _ hl => by
  rw [List.append_nil] at hl ⊢
  exact .of_eq (h us hl)
/-- an exception of a callee reaches what this body wants of exceptions -/
def Passes (CX : CXT) (X : Cx) (E : XK) : Prop := ∀ (pins : List (Addr × Obj)) (σ : St) (H : Hp) (s : Shared) (e : Value) (s' : Shared), Inv X pins σ H s → CX X.stack H s E e s' → X.xe e s'
section
variable {X : Cx} {CX : CXT} {k : Nat} {f C : Addr} {fd : FuncData} {ps : List Str} {sp : Sp} {dvs : List V} {ds : List Value} {E : XK} {x m : Str} {p pos apos : Pos} {e o : Expr} {es : List Expr} {ta : TE} {t : TA}
/-- the callee runs -/
theorem run_fn {pins : List (Addr × Obj)} {σ : St} {H : Hp} {s : Shared} {Q : VK} {us : List Value} {vs : List V} (F : FnOk X.prog X.w X.K X.mg X.base CX k f fd ps sp) (hr : Room k X.A) (hb : Binds X.K fd ps ds) (hd : Vals dvs ds) (hx : Passes CX X E)
    (I : Inv X pins σ H s) (r : Vals vs us) (h : sp (vs ++ dvs) H Q E) : wpAny (model X.prog X.w) X.A (call (.ref f) us) (EP X pins σ Q) X.xe s := by
  have r2 : Vals (vs ++ dvs) (us ++ ds) := r.append hd
  have hl : (us ++ ds).length = ps.length := by rw [← r2.length]; exact F.len _ _ _ _ h
  refine wpAny_call (codeAny_mono (F.run X.A X.stack s H ⟨us, []⟩ (us ++ ds) (vs ++ dvs) Q E hr I.env0 (hb s us I.kIn hl) r2 h) fun r s' hq => ?_)
  cases r with
  | error e => exact hx pins σ H s e s' I hq
  | ok fl =>
    cases fl with
    | ret u => exact I.after hq
    | next => exact False.elim hq
    | brk => exact False.elim hq
    | cont => exact False.elim hq
theorem pe_call (F : FnOk X.prog X.w X.K X.mg X.base CX k f fd ps sp) (hr : Room k X.A) (hg : Gl X x) (hm : X.mg x = some (.ref f)) (hk : PySem.W.keepIn X.K (.ref f) = true) (hb : Binds X.K fd ps ds) (hd : Vals dvs ds) (hx : Passes CX X E)
    (ha : PA X (e :: es) t) (hdb : (x == ("__debug__" : Str)) = false := by decide) (he : starEach (e :: es) X.env = (false, eval e X.env) :: starEach es X.env := by rfl) (hpl : (backTo pos (starEach es X.env)).any (·.1) = false := by rfl) :
    PE X (.Call (.Name x p) (e :: es) [] pos) (tCall sp dvs E t) := by
  intro pins s σ H Q I h
  refine wpAny_Call_Name_kw (ld_glob I hg hm ?_ hdb)
  refine PySem.W.callWith_K (h₀ := X.base) I.ok.mod.kin hk (thn (ha pos pins s σ H _ I h) fun us s1 ⟨vs, H1, I1, r, q⟩ => ⟨I1.kIn, ?_⟩) he hpl
  exact run_fn F hr hb hd hx I1 r q
/-- what a class must have to be made -/
structure Mk (K : PySem.W.Frag) (C f : Addr) : Prop where
  makes : PySem.W.makesIn K C = true
  init : PySem.W.findIn K (.ref C) "__init__" = some (some (.ref f))
  fn : PySem.W.isFn K (.ref f) = true
  kp : PySem.W.keepIn K (.ref C) = true
end
/-! ### keywords -/
section
variable {X : Cx} {CX : CXT} {k : Nat} {f C : Addr} {fd : FuncData} {ps ks : List Str} {sp : Sp} {E : XK} {x m : Str} {p pos apos kpos : Pos} {e o : Expr} {es : List Expr} {kws : List Keyword} {te ta : TE} {t tk : TA} {nm : Option Str}
/-- how a call with keywords binds: g puts the positional values us and the keywords' values ws (names ks) in the parameters' order, defaults among them -/
structure KBinds (K : PySem.W.Frag) (fd : FuncData) (ps ks : List Str) (g : List Value → List Value → List Value) (gV : List V → List V → List V) : Prop where
  to : ∀ (s : Shared) (us ws : List Value), K.In s.heap → (g us ws).length = ps.length → BindsTo s fd ⟨us, ks.zip ws⟩ (ps.zip (g us ws))
  rel : ∀ {vs : List V} {us : List Value} {zs : List V} {ws : List Value}, Vals vs us → Vals zs ws → Vals (gV vs zs) (g us ws)
variable {g : List Value → List Value → List Value} {gV : List V → List V → List V}
end
/-! ### a def's body keeps its promise -/
/-- names: the parameters first -/
structure FnScope (N P : List Str) (sc : Scope) : Prop where
  kind : sc.kind = .function
  co : sc.isCoroutine = false
  gen : sc.isGenerator = false
  nd : N.Nodup
  pre : N.take P.length = P
  par : ∀ x ∈ P, sc.names.lookup x = some .local ∨ sc.names.lookup x = some .cell
  nofree : ∀ y ∈ sc.names, y.2 ≠ .free
theorem bindL_out {kindOf : Str → Option NameKind} {x : Str} : ∀ {binds : List (Str × Value)} {m : Str → Option Value}, (∀ v, (x, v) ∉ binds) → bindL kindOf binds m x = m x
  | [], _, _ => rfl
  | (n, v) :: r, m, h => by
    unfold bindL
    rw [bindL_out fun w hw => h w (List.mem_cons_of_mem _ hw)]
    split
    · have : x ≠ n := by rintro rfl; exact h v List.mem_cons_self
      simp [this]
    · rfl
theorem bindC_out {kindOf : Str → Option NameKind} {x : Str} : ∀ {binds : List (Str × Value)} {m : Str → Option Value}, (∀ v, (x, v) ∉ binds) → bindC kindOf binds m x = m x
  | [], _, _ => rfl
  | (n, v) :: r, m, h => by
    unfold bindC
    rw [bindC_out fun w hw => h w (List.mem_cons_of_mem _ hw)]
    split
    · rfl
    · have : x ≠ n := by rintro rfl; exact h v List.mem_cons_self
      simp [this]
theorem bindL_get {kindOf : Str → Option NameKind} {x : Str} {v : Value} : ∀ {P : List Str} {vs : List Value} {i : Nat} {m : Str → Option Value}, P.Nodup → P[i]? = some x → vs[i]? = some v → kindOf x = some .local →
    bindL kindOf (P.zip vs) m x = some v
  | [], _, _, _, _, h, _, _ => by simp at h
  | _ :: _, [], _, _, _, _, h, _ => by simp at h
  | p :: P, w :: vs, 0, m, nd, h1, h2, hk => by
    simp at h1 h2; subst h1; subst h2
    show bindL kindOf ((p, w) :: P.zip vs) m p = _
    unfold bindL
    rw [bindL_out fun v hv => (List.nodup_cons.mp nd).1 (List.of_mem_zip hv).1, if_pos hk]
    simp
  | p :: P, w :: vs, i + 1, m, nd, h1, h2, hk => by
    show bindL kindOf ((p, w) :: P.zip vs) m x = _
    unfold bindL
    exact bindL_get (i := i) (List.nodup_cons.mp nd).2 (by simpa using h1) (by simpa using h2) hk
theorem bindC_get {kindOf : Str → Option NameKind} {x : Str} {v : Value} : ∀ {P : List Str} {vs : List Value} {i : Nat} {m : Str → Option Value}, P.Nodup → P[i]? = some x → vs[i]? = some v → kindOf x ≠ some .local →
    bindC kindOf (P.zip vs) m x = some v
  | [], _, _, _, _, h, _, _ => by simp at h
  | _ :: _, [], _, _, _, _, h, _ => by simp at h
  | p :: P, w :: vs, 0, m, nd, h1, h2, hk => by
    simp at h1 h2; subst h1; subst h2
    show bindC kindOf ((p, w) :: P.zip vs) m p = _
    unfold bindC
    rw [bindC_out fun v hv => (List.nodup_cons.mp nd).1 (List.of_mem_zip hv).1, if_neg hk]
    simp
  | p :: P, w :: vs, i + 1, m, nd, h1, h2, hk => by
    show bindC kindOf ((p, w) :: P.zip vs) m x = _
    unfold bindC
    exact bindC_get (i := i) (List.nodup_cons.mp nd).2 (by simpa using h1) (by simpa using h2) hk
/-- the names' values at the entry -/
def start (N : List Str) (vs : List V) : St := vs.map some ++ List.replicate (N.length - vs.length) none
/-- the context of a def's body, at its entry; an exception leaves the frame, then lies as CX says -/
def cxOf (CX : CXT) (P : Program) (w : World) (K : PySem.W.Frag) (mg : Str → Option Value) (base : Heap) (N : List Str) (qual : Str) (scope : Scope) (f : Addr) (cd : Value) (A : Around) (outer : List Env) (s : Shared) (H : Hp) (E : XK) : Cx where
  prog := P
  w := w
  K := K
  mg := mg
  base := base
  A := A.deeper (envOfC qual scope s.heap.objs.size f cd)
  N := N
  s₀ := s
  H₀ := H
  env := envOfC qual scope s.heap.objs.size f cd
  outer := outer
  stack := envOfC qual scope s.heap.objs.size f cd :: outer
  ex := []
  calm := true
  fn := fun _ => true
  pn := []
  xe := fun e s' => wpAny (model P w) (A.deeper (envOfC qual scope s.heap.objs.size f cd)) (leaving (envOfC qual scope s.heap.objs.size f cd) e) (fun _ s'' => CX outer H s E e s'') (fun e' s'' => CX outer H s E e' s'') s'
theorem cell_has {sc : Scope} {n : Nat} {x : Str} (h : sc.names.lookup x = some .cell) : ∃ c, (cellsFrom n sc.names []).lookup x = some c := by
  have q := PySem.W.cellsFrom_some sc.names n [] (.inl h)
  exact Option.isSome_iff_exists.mp q
theorem inv_start {CX : CXT} {P : Program} {w : World} {K : PySem.W.Frag} {mg : Str → Option Value} {base : Heap} {N ps : List Str} {qual : Str} {scope : Scope} {f : Addr} {cd : Value} {A : Around} {outer : List Env} {s s1 : Shared} {H : Hp} {E : XK} {us : List Value} {vs : List V}
    (S : FnScope N ps scope) (hd : A.handled = none) (e0 : Env0 P w K mg base A outer s H) (hl : vs.length = ps.length) (r : Vals vs us)
    (x : InCallC s s.heap.objs.size (bindL (envOfC qual scope s.heap.objs.size f cd).kindOf (ps.zip us) fun _ => none) (cellsFrom (s.heap.objs.size + 1) scope.names []) (bindC (envOfC qual scope s.heap.objs.size f cd).kindOf (ps.zip us) fun _ => none) s1) :
    Inv (cxOf CX P w K mg base N qual scope f cd A outer s H E) [] (start N vs) H s1 := by
  have hpl : ps.length ≤ N.length := by have := congrArg List.length S.pre; rw [List.length_take] at this; omega
  obtain ⟨h1, tk, rfl, hk⟩ := x.done
  have noA : ∀ b : Addr, b ∉ (cxOf CX P w K mg base N qual scope f cd A outer s H E).ex := fun b z => absurd (show b ∈ ([] : List Addr) from z) (by simp)
  refine ⟨⟨e0.mod, S.kind, rfl, rfl, Nat.le_refl _, fun y z c h1 h2 => ?_, fun y hy => ?_, fun y c _ h => ?_, fun _ => hd, Around.frames_deeper e0.frames, .inr ⟨rfl, rfl⟩, fun b z => absurd z (noA b), e0.bs, e0.bsz, fun b _ _ => noA b, fun b z => absurd z (noA b), e0.funs, e0.frf⟩,
    rfl, e0.bare, Un.kept hk, ⟨_, x.toInCall.ns, fun i y v h1 h2 h3 => ?_⟩, fun y c h => ⟨_, x.cell y c h⟩, e0.hok.fresh (Nat.le_refl _), fun y c h => ?_, fun p hp => absurd (show p ∈ ([] : List (Addr × Obj)) from hp) (by simp), e0.hok.kept hk, ?_⟩
  · exact name_of_addr x.apart (PySem.mem_of_lookup h1) (PySem.mem_of_lookup h2)
  · have hy : scope.names.lookup y = some .cell ∨ scope.names.lookup y = some .free := hy
    rcases hy with hy | hy
    · exact cell_has hy
    · exact absurd rfl (S.nofree _ (PySem.mem_of_lookup hy))
  · exact Nat.le_of_lt (x.above y c (PySem.mem_of_lookup h))
  · have hi : i < vs.length := by
      unfold start at h2
      by_cases hi : i < vs.length
      · exact hi
      · rw [List.getElem?_append_right (by simpa using hi)] at h2
        rw [List.getElem?_replicate] at h2
        split at h2 <;> cases h2
    have ha : vs[i]? = some v := by
      unfold start at h2
      rw [List.getElem?_append_left (by simpa using hi), List.getElem?_map] at h2
      cases e : vs[i]? with
      | none => rw [e] at h2; cases h2
      | some a => rw [e] at h2; cases h2; rfl
    obtain ⟨u, hu, rv⟩ := r.get ha
    have hp : ps[i]? = some y := by
      rw [← S.pre, List.getElem?_take_of_lt (by omega)]; exact h1
    have ndP : ps.Nodup := by rw [← S.pre]; exact S.nd.sublist (List.take_sublist _ _)
    refine ⟨u, rv, ?_⟩
    rcases S.par y (List.mem_of_getElem? hp) with k | k
    · exact .inl ⟨k, bindL_get ndP hp hu k⟩
    · obtain ⟨c, e⟩ := cell_has (n := s.heap.objs.size + 1) k
      refine .inr ⟨.inl k, c, e, ?_⟩
      have q := x.cell y c e
      rw [bindC_get ndP hp hu (by show scope.names.lookup y ≠ _; rw [k]; decide)] at q
      exact q
  · exact e0.hok.fresh (Nat.le_of_lt (x.above y c (PySem.mem_of_lookup h)))
  · unfold start
    show _ = N.length
    rw [List.length_append, List.length_map, List.length_replicate]
    omega
/-- THE RULE: a def (or a method) of the text, by its body. The body's reading t is chosen for each entry; it is run at the parameters' values -/
theorem fn_of {CX : CXT} {P : Program} {w : World} {K : PySem.W.Frag} {mg : Str → Option Value} {base : Heap} {k : Nat} {f : Addr} {name qual : Str} {params : Arguments} {body : List Stmt} {scope : Scope} {dV kV doc pm cdv ct oc : Value} {an od : Option Addr}
    {osl : Array (Option Value)} {N ps : List Str} {sp : Sp} (lk : K.lookup f = some ⟨oc, od, .func (PySem.W.fnOf name qual params body scope dV kV doc pm an cdv ct), osl⟩) (hcd : PySem.W.codeIn K cdv qual = true) (S : FnScope N ps scope)
    (len : ∀ vs H Q E, sp vs H Q E → vs.length = ps.length)
    (hbody : ∀ (A : Around) (outer : List Env) (s : Shared) (H : Hp) (vs : List V) (Q : VK) (E : XK), Room k (A.deeper (envOfC qual scope s.heap.objs.size f cdv)) → sp vs H Q E →
      ∃ t, PSs (cxOf CX P w K mg base N qual scope f cdv A outer s H E) body t ∧ t { nx := fun _ H' => Q .non H', rt := Q } (start N vs) H) :
    FnOk P w K mg base CX (k + 1) f (PySem.W.fnOf name qual params body scope dV kV doc pm an cdv ct) ps sp := by
  refine ⟨len, fun A outer s H args us vs Q E hr e0 hb r hsp => ?_⟩
  have hl := len _ _ _ _ hsp
  have KX : K.In s.heap := e0.mod.kin.keeps fun b o e => (e0.bs b o e).1
  have lim : s.heap.NoLimit := e0.mod.nolimit.keeps fun b o e => (e0.bs b o e).1
  have hkind : ∀ y ∈ ps.zip us, scope.names.lookup y.1 = some .local ∨ (scope.names.lookup y.1 = some .cell ∧ ((cellsFrom (s.heap.objs.size + 1) scope.names []).lookup y.1).isSome = true) := fun ⟨n, v⟩ hy => by
    rcases S.par n (List.of_mem_zip hy).1 with q | q
    · exact .inl q
    · exact .inr ⟨q, PySem.W.cellsFrom_some _ _ _ (.inl q)⟩
  refine codeAny_call_function hr.depth (KX _ _ lk) rfl S.co S.gen rfl (PySem.W.codeRec_of KX hcd) (hb _ _ _ _ ?_)
  refine wpAny_newFunctionEnv_cells S.kind hkind fun env he s1 x => ?_
  subst he
  refine ⟨lim.keeps x.toInCall.keep, codeAny_func ?_⟩
  obtain ⟨t, ht, hq⟩ := hbody A outer s H vs Q E (hr.deeper _) hsp
  have I : Inv (cxOf CX P w K mg base N qual scope f cdv A outer s H E) [] (start N vs) H s1 := inv_start S hr.hd e0 hl r x
  refine wpAny_mono (ht [] s1 (start N vs) H _ I hq) (fun fl s' hs => ?_) fun e s' hs => hs
  have fin : ∀ {σ' : St} {H' : Hp} {v : V} {u : Value}, Inv (cxOf CX P w K mg base N qual scope f cdv A outer s H E) [] σ' H' s' → RelV v u → Q v H' → CE outer P w H s Q u s' :=
    fun {σ' H' v u} J rv q => ⟨v, H', J.os, J.bare, J.base, J.hok, rv, q⟩
  cases fl with
  | ret u =>
    obtain ⟨v, σ', H', J, rv, q⟩ := hs
    exact fin J rv q
  | next =>
    obtain ⟨σ', H', J, q⟩ := hs
    exact fin (v := V.non) (u := Value.none) J rfl q
  | brk =>
    obtain ⟨_, _, _, q⟩ := hs
    exact False.elim q
  | cont =>
    obtain ⟨_, _, _, q⟩ := hs
    exact False.elim q
end L2
namespace L2
open PySem PySem.Spec PyProof.Rows
section
variable {X : Cx} {x : Str} {p pos : Pos} {e : Expr} {es : List Expr} {t : TA} {id T : String} {r : List V → Hp → VK → Prop}
def tCB (r : List V → Hp → VK → Prop) (t : TA) : TE := fun σ H Q => t σ H fun vs H1 => r vs H1 Q
/-- f(e, ..), f a built-in function -/
theorem pe_callB (hc : CallR X (.builtin id) r) (hg : Gl X x) (hm : X.mg x = none) (hv : bootBuiltins x = some (.builtin id)) (ha : PA X (e :: es) t) (hn : x ≠ "__name__" := by decide) (hdb : (x == ("__debug__" : Str)) = false := by decide)
    (he : starEach (e :: es) X.env = (false, eval e X.env) :: starEach es X.env := by rfl) (hpl : (backTo pos (starEach es X.env)).any (·.1) = false := by rfl) : PE X (.Call (.Name x p) (e :: es) [] pos) (tCB r t) := by
  intro pins s σ H Q I h
  refine wpAny_Call_Name_kw (ld_blt I hg hm hv ?_ hn hdb)
  exact PyProof.Rows.callWith_builtin1 (thn (ha pos pins s σ H _ I h) fun us s1 ⟨vs, H1, I1, r1, q1⟩ => hc pins s1 σ H1 vs us Q I1 r1 q1) he hpl
/-- T(e, ..), T a built-in type -/
theorem pe_callTy (hc : CallR X (.type T) r) (hg : Gl X x) (hm : X.mg x = none) (hv : bootBuiltins x = some (.type T)) (ha : PA X (e :: es) t) (hn : x ≠ "__name__" := by decide) (hdb : (x == ("__debug__" : Str)) = false := by decide)
    (he : starEach (e :: es) X.env = (false, eval e X.env) :: starEach es X.env := by rfl) (hpl : (backTo pos (starEach es X.env)).any (·.1) = false := by rfl) : PE X (.Call (.Name x p) (e :: es) [] pos) (tCB r t) := by
  intro pins s σ H Q I h
  refine wpAny_Call_Name_kw (ld_blt I hg hm hv ?_ hn hdb)
  exact PyProof.Rows.callWith_type1 (thn (ha pos pins s σ H _ I h) fun us s1 ⟨vs, H1, I1, r1, q1⟩ => hc pins s1 σ H1 vs us Q I1 r1 q1) he hpl
end
end L2
namespace HT
open PySem PyProof.Rows
section
open PySem.SeqAt
open PySem.AutoSeq1 (wpAny_loadPart')
open PySem.MeetsSeq PySem.MeetsSeq2 PySem.MeetsSeq3
end
section
variable {prog : Program} {w : World} {A : Around} {E : Value → Shared → Prop} {s : Shared}
/-- t + u, t not empty -/
theorem cat_tup {t b : Addr} {vs ws : List Value} {Q : Value → Shared → Prop} (ht : IsTup s.heap t vs.toArray) (hb : IsTup s.heap b ws.toArray) (hv : vs ≠ [])
    (h1 : ws = [] → Q (.ref t) s) (h2 : ws ≠ [] → Q (.ref s.heap.objs.size) { s with heap := s.heap.push { cls := .type "tuple", data := .seq (vs ++ ws).toArray } })
    (hsz : vs.length + ws.length ≤ sizeLine) : wpAny (model prog w) A (binaryOp .Add (.ref t) (.ref b)) Q E s := by
  obtain ⟨⟨cls, dd, data, sl⟩, ho, hc, n, hd⟩ := id ht
  obtain ⟨⟨cls2, dd2, data2, sl2⟩, ho2, hc2, n2, hd2⟩ := id hb
  simp only at hc hd hc2 hd2
  subst hc hd hc2 hd2
  have e : vs.toArray ++ ws.toArray = (vs ++ ws).toArray := by simp
  by_cases hw : ws = []
  · exact concat_meets ⟨_, ho, rfl⟩ ⟨_, ho2, rfl⟩ noFill_tuple_add seq_tuple_add PySem.F.slot_tuple_add PySem.F.entry_tuple_add (PySem.F.args_tuple_add_2 _ _)
      (tuple_addW1 t b vs.toArray ws.toArray n n2 dd dd2 sl sl2 (by simpa using hv) (by simp [hw])) ⟨ho, ho2, h1 hw⟩
  · refine concat_meets ⟨_, ho, rfl⟩ ⟨_, ho2, rfl⟩ noFill_tuple_add seq_tuple_add PySem.F.slot_tuple_add PySem.F.entry_tuple_add (PySem.F.args_tuple_add_2 _ _)
      (tuple_addW2 t b vs.toArray ws.toArray n n2 dd dd2 sl sl2 (by simpa using hv) (by simpa using hw) (by rw [List.size_toArray, List.size_toArray]; exact hsz)) ⟨ho, ho2, ?_⟩
    rw [e]
    exact h2 hw
/-! ### t[a:b], not the whole -/
/-- a slice's bound as a place among n (d where it is left out) -/
def sIx (n d : Nat) : Option Int → Nat
  | none => d
  | some v => if v < 0 then (v + (n : Int)).toNat else min v.toNat n
theorem sIx_none (n d : Nat) : sIx n d none = d := rfl
theorem sIx_nat (n d k : Nat) : sIx n d (some (k : Int)) = min k n := by
  show (if (k : Int) < 0 then ((k : Int) + (n : Int)).toNat else min (k : Int).toNat n) = min k n
  rw [if_neg (by omega), Int.toNat_natCast]
theorem sIx_le (n d : Nat) (hd : d ≤ n) (o : Option Int) : sIx n d o ≤ n := by
  cases o with
  | none => exact hd
  | some v =>
    show (if v < 0 then (v + (n : Int)).toNat else min v.toNat n) ≤ n
    by_cases hv : v < 0
    · rw [if_pos hv]; omega
    · rw [if_neg hv]; exact Nat.min_le_right _ _
theorem clip_eq (v : Int) (n d : Nat) : (if v < 0 then max (v + (n : Int)) 0 else min v (n : Int)) = ((sIx n d (some v) : Nat) : Int) := by
  show (if v < 0 then max (v + (n : Int)) 0 else min v (n : Int)) = (((if v < 0 then (v + (n : Int)).toNat else min v.toNat n) : Nat) : Int)
  by_cases hv : v < 0
  · simp only [if_pos hv]; omega
  · simp only [if_neg hv]; omega
theorem adjust_gen (lo hi : Option Int) (n : Nat) : Builtin.Slice.sliceAdjust lo hi 1 (n : Int) = (((sIx n 0 lo : Nat) : Int), ((sIx n n hi : Nat) : Int)) := by
  have h1 : ¬ ((1 : Int) < 0) := by omega
  unfold Builtin.Slice.sliceAdjust
  simp only [h1, if_false]
  refine Prod.ext ?_ ?_
  · cases lo with
    | none => rfl
    | some v => exact clip_eq v n 0
  · cases hi with
    | none => rfl
    | some v => exact clip_eq v n n
theorem places_gen (i j : Nat) : Builtin.Slice.slicePlaces (i : Int) (j : Int) 1 = j - i := by
  unfold Builtin.Slice.slicePlaces
  have h1 : (1 : Int) > 0 := by omega
  simp only [h1, if_true, Int.ediv_one]
  split <;> omega
theorem slicePart_ {v : Value} {o : Option Int} {Q : Option Int → Shared → Prop} (p : IsPart v o) (h : Q o s) : wpAny (model prog w) A (Builtin.Slice.slicePartIndex v) Q E s := by
  cases p with
  | none => exact slicePart_none h
  | int i t => exact slicePart_int h
theorem sliceApplied_gen {sl : Addr} {vl vu : Value} {lo hi : Option Int} {n : Nat} {Q : Int × Int × Nat → Shared → Prop} (hs : s.heap.IsSliceOf sl vl vu .none) (pl : IsPart vl lo) (pu : IsPart vu hi)
    (h : Q (((sIx n 0 lo : Nat) : Int), 1, sIx n n hi - sIx n 0 lo) s) : wpAny (model prog w) A (Builtin.Slice.sliceApplied (.ref sl) (pure (n : Int))) Q E s := by
  obtain ⟨os, hos, hcs, hds⟩ := id hs
  unfold Builtin.Slice.sliceApplied Builtin.Slice.sliceFields
  refine wpAny_bind (wpAny_bind (wpAny_field hos hds (x := vl) rfl (wpAny_bind (wpAny_field hos hds (x := vu) rfl (wpAny_bind (wpAny_field hos hds (x := .none) rfl (wpAny_pure ?_)))))))
  refine wpAny_bind (slicePart_none ?_)
  show wpAny _ _ (if ((1 : Int) == 0) = true then _ else _) _ _ s
  rw [if_neg (by decide)]
  refine wpAny_bind (slicePart_ pl (wpAny_bind (slicePart_ pu (wpAny_bind (wpAny_pure ?_)))))
  show wpAny _ _ (match Builtin.Slice.sliceAdjust lo hi 1 (n : Int) with | (lo, hi) => pure (lo, (1 : Int), Builtin.Slice.slicePlaces lo hi 1)) _ _ s
  rw [adjust_gen lo hi n]
  show wpAny _ _ (pure (((sIx n 0 lo : Nat) : Int), (1 : Int), Builtin.Slice.slicePlaces ((sIx n 0 lo : Nat) : Int) ((sIx n n hi : Nat) : Int) 1)) _ _ s
  rw [places_gen]
  exact wpAny_pure h
theorem pick_gen (xs : Array Value) (i k : Nat) : ((List.range k).filterMap fun (m : Nat) => xs[((i : Int) + (m : Int) * 1).toNat]?).toArray = ((xs.toList.drop i).take k).toArray := by
  have e : (fun (m : Nat) => xs[((i : Int) + (m : Int) * 1).toNat]?) = fun m => xs[i + m]? := by
    funext m
    have : ((i : Int) + (m : Int) * 1).toNat = i + m := by omega
    rw [this]
  rw [e]
  have := pick_run xs i k
  rw [List.filterMap_map] at this
  have e2 : ((fun x => xs[x]?) ∘ fun x => i + x) = fun m => xs[i + m]? := rfl
  rw [e2] at this
  rw [this]
theorem getItem_tuple_cut {t sl : Addr} {items : Array Value} {vl vu : Value} {lo hi : Option Int} {Q : Value → Shared → Prop} (ht : IsTup s.heap t items) (hs : s.heap.IsSliceOf sl vl vu .none) (pl : IsPart vl lo) (pu : IsPart vu hi)
    (hw : ¬ (sIx items.size 0 lo = 0 ∧ sIx items.size items.size hi = items.size))
    (h : Q (.ref s.heap.objs.size) { s with heap := s.heap.push { cls := .type "tuple", data := .seq ((items.toList.drop (sIx items.size 0 lo)).take (sIx items.size items.size hi - sIx items.size 0 lo)).toArray } })
    (hsz : items.size ≤ sizeLine) : wpAny (model prog w) A (getItem (.ref t) (.ref sl)) Q E s := by
  have htake : sizeOk (.seq ((items.toList.drop (sIx items.size 0 lo)).take (sIx items.size items.size hi - sIx items.size 0 lo)).toArray) := by
    show ((items.toList.drop (sIx items.size 0 lo)).take (sIx items.size items.size hi - sIx items.size 0 lo)).toArray.size ≤ sizeLine
    rw [List.size_toArray, List.length_take, List.length_drop, Array.length_toList]
    omega
  have hj : sIx items.size items.size hi ≤ items.size := sIx_le _ _ (Nat.le_refl _) hi
  obtain ⟨os, hos, hcs, hds⟩ := id hs
  have hTs : s.TypeIs (.ref sl) "slice" := ⟨os, hos, hcs⟩
  unfold getItem
  try with_reducible refine wpAny_holding ?_
  first | refine wpAny_bind (wpAny_pure ?_) | skip
  refine wpAny_bind (wpAny_sequenceKey ht.typeIs (by decide) ?_)
  refine wpAny_bind (wpAny_callSpecial?_slot (name := Str.ofString "__getitem__") ht.typeIs PyProof.Rows.slot_tuple_getitem
    (wpAny_call_entry PyProof.Rows.slot_tuple_getitem ht.typeIs entry_tuple_getitem ?_ (args_tuple_getitem _ _)))
  show wpAny _ _ (Builtin.Tuple.tupleItemsOf (.ref t) >>= _) _ _ s
  refine wpAny_bind (tupleItemsOf_ ht ?_)
  refine wpAny_bind (wpAny_typeOf hTs ?_)
  rw [if_pos (by decide)]
  refine wpAny_bind (sliceApplied_gen hs pl pu ?_)
  have hno : ¬ ((((sIx items.size 0 lo : Nat) : Int) == 0 && (1 : Int) == 1 && (sIx items.size items.size hi - sIx items.size 0 lo) == items.size) = true) := by
    intro q
    rw [Bool.and_eq_true, Bool.and_eq_true] at q
    have q1 : ((sIx items.size 0 lo : Nat) : Int) = 0 := eq_of_beq q.1.1
    have q2 : sIx items.size items.size hi - sIx items.size 0 lo = items.size := eq_of_beq q.2
    exact hw ⟨by omega, by omega⟩
  show wpAny _ _ (if (((sIx items.size 0 lo : Nat) : Int) == 0 && (1 : Int) == 1 && (sIx items.size items.size hi - sIx items.size 0 lo) == items.size) = true then _ else _) _ _ s
  rw [if_neg hno, pick_gen]
  first
    | exact wpAny_bind (m := Builtin.Tuple.tupleExact _) (wpAny_newObj_type (wpAny_pure ⟨_, rfl, wpAny_pure h⟩) htake)
    | exact wpAny_bind (m := Builtin.Tuple.tupleExact _) (wpAny_newObj_type (wpAny_bind (wpAny_pure (wpAny_pure ⟨_, rfl, wpAny_pure h⟩))) htake)
    | exact wpAny_bind (wpAny_bind (m := Builtin.Tuple.tupleExact _) (wpAny_newObj_type (wpAny_pure (wpAny_pure ⟨_, rfl, wpAny_pure h⟩)) htake))
    | exact wpAny_bind (wpAny_bind (m := Builtin.Tuple.tupleExact _) (wpAny_newObj_type (wpAny_pure ⟨_, rfl, wpAny_pure h⟩) htake))
end
end HT
namespace L2
open PySem PySem.Spec PyProof.Rows
/-! ### the parts of a slice -/
abbrev TO := St → Hp → (Option Int → Hp → Prop) → Prop
/-- a slice's part (left out, or an int) -/
def PO (X : Cx) (e : Option Expr) (t : TO) : Prop :=
  ∀ (pins : List (Addr × Obj)) (s : Shared) (σ : St) (H : Hp) (Q : Option Int → Hp → Prop), Inv X pins σ H s → t σ H Q →
    wpAny (model X.prog X.w) X.A (evalPart e X.env) (fun u s' => ∃ o H', Inv X pins σ H' s' ∧ IsPart u o ∧ Q o H') X.xe s
def tNoPart : TO := fun _ H Q => Q none H
def tPart (t : TE) : TO := fun σ H Q => t σ H fun x H1 => ∃ i, x = .int i ∧ Q (some i) H1
section
variable {X : Cx} {e : Expr} {te : TE} {lo hi : Option Expr} {tl th : TO} {pos p2 : Pos}
theorem po_none : PO X none tNoPart := by
  intro pins s σ H Q I h
  rw [evalPart_none]
  exact wpAny_pure ⟨none, H, I, .none, h⟩
theorem po_some (h : PE X e te) : PO X (some e) (tPart te) := by
  intro pins s σ H Q I hw
  rw [evalPart_some]
  refine thn (h pins s σ H _ I hw) fun u s1 ⟨x, H1, I1, r1, q1⟩ => ?_
  obtain ⟨i, rfl, q⟩ := q1
  obtain ⟨t, rfl⟩ := r1
  exact ⟨some i, H1, I1, .int i t, q⟩
/-- what a slice of a value is, by values: the slice object stands at sl -/
def SlR (X : Cx) (r : V → Option Int → Option Int → Hp → VK → Prop) : Prop :=
  ∀ (pins : List (Addr × Obj)) (s : Shared) (σ : St) (H : Hp) (x : V) (v vl vu : Value) (lo hi : Option Int) (sl : Addr) (Q : VK), Inv X pins σ H s → RelV x v → s.heap.IsSliceOf sl vl vu .none → IsPart vl lo → IsPart vu hi → r x lo hi H Q →
    ∃ T id, typeLookup (.type T) "__getitem__" = pure (some (.builtin id)) ∧ s.TypeIs v T ∧ wpAny (model X.prog X.w) X.A (getItem v (.ref sl)) (EP X pins σ Q) X.xe s
theorem SlR.or {r r' : V → Option Int → Option Int → Hp → VK → Prop} (h : SlR X r) (h' : SlR X r') : SlR X (fun x lo hi H Q => r x lo hi H Q ∨ r' x lo hi H Q) := by
  intro pins s σ H x v vl vu lo hi sl Q I rx hs pl pu q
  rcases q with q | q
  · exact h pins s σ H x v vl vu lo hi sl Q I rx hs pl pu q
  · exact h' pins s σ H x v vl vu lo hi sl Q I rx hs pl pu q
def tSl (r : V → Option Int → Option Int → Hp → VK → Prop) (te : TE) (tl th : TO) : TE := fun σ H Q => te σ H fun x H1 => tl σ H1 fun l H2 => th σ H2 fun u H3 => r x l u H3 Q
/-- a[lo:hi], any a -/
theorem pe_slice {r : V → Option Int → Option Int → Hp → VK → Prop} (hr : SlR X r) (he : PE X e te) (hl : PO X lo tl) (hu : PO X hi th) : PE X (.Subscript e (.Slice lo hi none p2) pos) (tSl r te tl th) := by
  intro pins s σ H Q I h
  refine Subscript_ (thn (he pins s σ H _ I h) fun v s1 ⟨x, H1, I1, r1, q1⟩ => ?_)
  refine wpAny_Slice (thn (hl pins s1 σ H1 _ I1 q1) fun vl s2 ⟨l, H2, I2, pl, q2⟩ => thn (hu pins s2 σ H2 _ I2 q2) fun vu s3 ⟨u, H3, I3, pu, q3⟩ => ?_)
  rw [evalPart_none]
  refine wpAny_pure ?_
  have I4 : Inv X pins σ H3 { s3 with heap := s3.heap.push { cls := .type "slice", data := .fields #[vl, vu, .none] } } := I3.kept (t' := s3.toks) fun b ob q => Heap.get?_push_of_some _ q
  obtain ⟨T, id, hT, ht, hg⟩ := hr pins { s3 with heap := s3.heap.push { cls := .type "slice", data := .fields #[vl, vu, .none] } } σ H3 x v vl vu l u s3.heap.objs.size Q I4 r1 (Heap.IsSliceOf.new ..) pl pu q3
  show wpAny (model X.prog X.w) X.A (subscriptTail e (.Slice lo hi none p2) v (.ref s3.heap.objs.size)) (EP X pins σ Q) X.xe { s3 with heap := s3.heap.push { cls := .type "slice", data := .fields #[vl, vu, .none] } }
  exact tail_any (ops := [.ref s3.heap.objs.size, v]) ht hT hg (by with_unfolding_all rfl)
/-- the items of xs[lo:hi] -/
def cutV (xs : List V) (lo hi : Option Int) : List V := (xs.drop (HT.sIx xs.length 0 lo)).take (HT.sIx xs.length xs.length hi - HT.sIx xs.length 0 lo)
theorem cutV_length (xs : List V) (lo hi : Option Int) : (cutV xs lo hi).length ≤ xs.length := by
  unfold cutV
  rw [List.length_take, List.length_drop]
  omega
/-- t[lo:hi], not the whole of it (the whole would be t itself) -/
def rSlT (K : PySem.W.Frag) : V → Option Int → Option Int → Hp → VK → Prop := fun x lo hi H Q => ∃ a xs, x = .ref a ∧ SqT K H a xs ∧
  ¬ (HT.sIx xs.length 0 lo = 0 ∧ HT.sIx xs.length xs.length hi = xs.length) ∧ ∀ p, H p = none → Q (.ref p) (upd H p (.tup (cutV xs lo hi)))
theorem sl_tup : SlR X (rSlT X.K) := by
  intro pins s σ H x v vl vu lo hi sl Q I rx hs pl pu h
  obtain ⟨a, xs, rfl, hx, hw, q⟩ := h
  cases rx
  obtain ⟨its, r, ht, hz⟩ := I.tuple hx
  have hlen : its.toArray.size = xs.length := by rw [List.size_toArray]; exact r.length.symm
  refine ⟨"tuple", _, PyProof.Rows.slot_tuple_getitem.lookup, ht.typeIs, ?_⟩
  refine HT.getItem_tuple_cut ht hs pl pu (by rw [hlen]; exact hw) ?_ (by rw [hlen]; exact hz)
  rw [hlen]
  refine ⟨.ref s.heap.objs.size, _, I.laid (t' := s.toks) (o := .tup (cutV xs lo hi)) (fun b ob q => Heap.get?_push_of_some _ q) (Nat.le_refl _) ?_, rfl, q _ (I.hok.fresh (Nat.le_refl _))⟩
  exact ⟨Nat.le_trans (cutV_length xs lo hi) hz, _, (r.drop (HT.sIx xs.length 0 lo)).take (HT.sIx xs.length xs.length hi - HT.sIx xs.length 0 lo), IsTup.new _ _⟩
/-! ### t < u, t + u -/
/-- t + u, t not empty: u empty gives t itself -/
def rCatT (K : PySem.W.Frag) : R2 := fun x y H Q => ∃ a b xs ys, x = .ref a ∧ y = .ref b ∧ SqT K H a xs ∧ SqT K H b ys ∧ xs ≠ [] ∧ xs.length + ys.length ≤ sizeLine ∧
  (ys = [] → Q (.ref a) H) ∧ (ys ≠ [] → ∀ p, H p = none → Q (.ref p) (upd H p (.tup (xs ++ ys))))
theorem Vals.nil_iff {xs : List V} {us : List Value} (r : Vals xs us) : us = [] ↔ xs = [] := by
  cases r with
  | nil => simp
  | cons _ _ => simp
theorem op_catT : OpR X (binaryOp .Add) (rCatT X.K) := by
  intro pins s σ H x y v u Q I rx ry h
  obtain ⟨a, b, xs, ys, rfl, rfl, ha, hb, hx, hz, q1, q2⟩ := h
  cases rx
  cases ry
  obtain ⟨its, r1, p1, _⟩ := I.tuple ha
  obtain ⟨its2, r2, p2, _⟩ := I.tuple hb
  refine HT.cat_tup p1 p2 (fun z => hx (r1.nil_iff.mp z)) (fun z => ⟨.ref a, H, I, rfl, q1 (r2.nil_iff.mp z)⟩) (fun z => ?_) (by rw [← r1.length, ← r2.length]; exact hz)
  refine ⟨.ref s.heap.objs.size, _, I.laid (t' := s.toks) (o := .tup (xs ++ ys)) (fun b ob q => Heap.get?_push_of_some _ q) (Nat.le_refl _) ?_, rfl, q2 (fun w => z (r2.nil_iff.mpr w)) _ (I.hok.fresh (Nat.le_refl _))⟩
  exact ⟨by rw [List.length_append]; exact hz, _, r1.append r2, IsTup.new _ _⟩
end
end L2
namespace L2
open PySem PySem.Spec PyProof.Rows
/-! ### places -/
/-- the place that an index of any sign means -/
def ixN (n : Nat) (i : Int) : Option Nat := if 0 ≤ i then (if i < n then some i.toNat else none) else if -(n : Int) ≤ i then some (i + n).toNat else none
def atI {α : Type} (xs : List α) (i : Int) : Option α := (ixN xs.length i).bind fun j => xs[j]?
theorem ixN_seq {n : Nat} {i : Int} {j : Nat} (h : ixN n i = some j) : seqIndex? i n = some j ∧ j < n ∧ -(n : Int) ≤ i ∧ i < n := by
  unfold ixN at h
  by_cases h0 : 0 ≤ i
  · rw [if_pos h0] at h
    by_cases h1 : i < n
    · rw [if_pos h1] at h
      have e : i.toNat = j := Option.some.inj h
      exact ⟨by rw [seqIndex_of h0 h1, e], by omega, by omega, h1⟩
    · rw [if_neg h1] at h; cases h
  · rw [if_neg h0] at h
    by_cases h1 : -(n : Int) ≤ i
    · rw [if_pos h1] at h
      have e : (i + n).toNat = j := Option.some.inj h
      exact ⟨by rw [seqIndex_neg (by omega) h1, e], by omega, h1, by omega⟩
    · rw [if_neg h1] at h; cases h
theorem atI_get {α : Type} {xs : List α} {i : Int} {v : α} (h : atI xs i = some v) : ∃ j, seqIndex? i xs.length = some j ∧ xs[j]? = some v ∧ j < xs.length ∧ -(xs.length : Int) ≤ i ∧ i < xs.length := by
  unfold atI at h
  cases e : ixN xs.length i with
  | none => rw [e] at h; cases h
  | some j =>
    rw [e] at h
    obtain ⟨h1, h2, h3, h4⟩ := ixN_seq e
    exact ⟨j, h1, h, h2, h3, h4⟩
/-! ### what may be subscripted -/
/-- what stands as an index of a plain subscript -/
def PlainIx (b : Expr) : Prop := ∀ o i, subscripted b false o i = operate [o, i] (getItem o i)
/-- a subscript by values -/
def IxR (X : Cx) (r : R2) : Prop :=
  ∀ (value slice : Expr) (pins : List (Addr × Obj)) (s : Shared) (σ : St) (H : Hp) (x y : V) (v u : Value) (Q : VK), Inv X pins σ H s → RelV x v → RelV y u → r x y H Q →
    subscripted slice false v u = operate [v, u] (getItem v u) → wpAny (model X.prog X.w) X.A (subscriptTail value slice v u) (EP X pins σ Q) X.xe s
/-- a call of a builtin's method by values: the receiver, the arguments -/
def MtR (X : Cx) (id : String) (r : V → List V → Hp → VK → Prop) : Prop :=
  ∀ (pins : List (Addr × Obj)) (s : Shared) (σ : St) (H : Hp) (x : V) (xs : List V) (v : Value) (us : List Value) (Q : VK), Inv X pins σ H s → RelV x v → Vals xs us → r x xs H Q →
    wpAny (model X.prog X.w) X.A (call (.builtin id) (v :: us)) (EP X pins σ Q) X.xe s
section
variable {X : Cx} {a b : Expr} {ta tb : TE} {pos : Pos}
theorem IxR.or {r r' : R2} (h : IxR X r) (h' : IxR X r') : IxR X (fun x y H Q => r x y H Q ∨ r' x y H Q) := by
  intro value slice pins s σ H x y v u Q I rx ry q hs
  rcases q with q | q
  · exact h value slice pins s σ H x y v u Q I rx ry q hs
  · exact h' value slice pins s σ H x y v u Q I rx ry q hs
/-- a[b] -/
theorem pe_ix {r : R2} (hr : IxR X r) (ha : PE X a ta) (hb : PE X b tb) (hs : PlainIx b) : PE X (.Subscript a b pos) (tOp r ta tb) := by
  intro pins s σ H Q I h
  exact Subscript_ (binT ha hb I h fun v u s2 x y H2 I2 rx ry q => hr a b pins s2 σ H2 x y v u Q I2 rx ry q (hs _ _))
def rIxL (K : PySem.W.Frag) : R2 := fun x y H Q => ∃ p xs i v, x = .ref p ∧ y = .int i ∧ SqL K H p xs ∧ atI xs i = some v ∧ Q v H
def rIxT (K : PySem.W.Frag) : R2 := fun x y H Q => ∃ p xs i v, x = .ref p ∧ y = .int i ∧ SqT K H p xs ∧ atI xs i = some v ∧ Q v H
def rIxS : R2 := fun x y H Q => ∃ z i c, x = .str z ∧ y = .int i ∧ z.length ≤ sizeLine ∧ atI z.cps.toList i = some c ∧ Q (.str ⟨#[c]⟩) H
theorem ix_list : IxR X (rIxL X.K) := by
  intro value slice pins s σ H x y v u Q I rx ry h hs
  obtain ⟨p, xs, i, z, rfl, rfl, hq, he, q⟩ := h
  cases rx
  obtain ⟨t, rfl⟩ := ry
  obtain ⟨its, r, pl, hz⟩ := I.list hq
  obtain ⟨j, h1, h2, h3, h4, h5⟩ := atI_get he
  obtain ⟨w, ew, rw'⟩ := r.get h2
  have hl := r.length
  have hn := line63
  have fin : EP X pins σ Q w s := ⟨z, H, I, rw', q⟩
  by_cases h0 : 0 ≤ i
  · have hj : i.toNat = j := by
      rw [seqIndex_of h0 h5] at h1
      exact Option.some.inj h1
    exact item_listR pl.isList h0 (by omega) (by rw [hj]; simpa using ew) fin hs
  · have hj : (i + (its.toArray.size : Int)).toNat = j := by
      rw [seqIndex_neg (by omega) h4] at h1
      rw [List.size_toArray, ← hl]
      exact Option.some.inj h1
    exact subscriptTail_builtinR (x := w) pl.isList.typeIs slot_list_getitem.lookup
      (wpAny_getItem_list_neg (Q := fun r s' => r = w ∧ EP X pins σ Q r s') pl.isList (by omega) (by rw [List.size_toArray] <;> omega) (by omega) (by rw [hj]; simpa using ew) ⟨rfl, fin⟩) hs
theorem ix_tup : IxR X (rIxT X.K) := by
  intro value slice pins s σ H x y v u Q I rx ry h hs
  obtain ⟨p, xs, i, z, rfl, rfl, hq, he, q⟩ := h
  cases rx
  obtain ⟨t, rfl⟩ := ry
  obtain ⟨its, r, pl, hz⟩ := I.tuple hq
  obtain ⟨j, h1, h2, h3, h4, h5⟩ := atI_get he
  obtain ⟨w, ew, rw'⟩ := r.get h2
  have hl := r.length
  have hn := line63
  have fin : EP X pins σ Q w s := ⟨z, H, I, rw', q⟩
  exact subscriptTail_builtinR (x := w) pl.typeIs slot_tuple_getitem.lookup
    (getItem_tuple (j := j) (Q := fun r s' => r = w ∧ EP X pins σ Q r s') pl (by omega) (by omega) (by rw [List.size_toArray, ← hl]; exact h1) (by simpa using ew) ⟨rfl, fin⟩) hs
theorem ix_str : IxR X rIxS := by
  intro value slice pins s σ H x y v u Q I rx ry h hs
  obtain ⟨z, i, c, rfl, rfl, hz, he, q⟩ := h
  obtain ⟨t, rfl⟩ := rx
  obtain ⟨t', rfl⟩ := ry
  obtain ⟨j, h1, h2, h3, h4, h5⟩ := atI_get he
  have hl : z.cps.toList.length = z.length := by simp [Str.length]
  rw [hl] at h1 h4 h5
  have hn := line63
  exact tail_any (typeIs_str s z t) slot_str_getitem.lookup (getItem_str (c := c) (by
    have e1 : decide (i < -(2 ^ 63 : Int)) = false := decide_eq_false (by omega)
    have e2 : decide (i ≥ 2 ^ 63) = false := decide_eq_false (by omega)
    rw [e1, e2, Bool.or_false]) (by rw [h1]; simpa using h2) ⟨.str ⟨#[c]⟩, H, I.tok _, ⟨_, rfl⟩, q⟩) hs
/-- list, tuple or str -/
def rIx (K : PySem.W.Frag) : R2 := fun x y H Q => rIxL K x y H Q ∨ rIxT K x y H Q ∨ rIxS x y H Q
theorem ix_seq : IxR X (rIx X.K) := ix_list.or (ix_tup.or ix_str)
/-! ### xs[i] = v, any sign -/
/-- the list's object behind a store -/
theorem mapSeq_set (its : List Value) (n j : Nat) (u : Value) : Obj.mapSeq (·.setIfInBounds j u) { cls := .type "list", data := .seq its.toArray n } = { cls := .type "list", data := .seq (its.set j u).toArray n } := by
  simp [Obj.mapSeq]
theorem Inv.lst {pins : List (Addr × Obj)} {σ : St} {H : Hp} {s : Shared} {p : Addr} {xs : List V} (I : Inv X pins σ H s) (h : H p = some (.lst xs)) :
    ∃ (its : List Value) (n : Nat), Vals xs its ∧ s.heap.get? p = some { cls := .type "list", data := .seq its.toArray n } ∧ xs.length ≤ sizeLine := by
  obtain ⟨z, its, n, r, e⟩ := I.hok p _ h
  exact ⟨its, n, r, e, z⟩
/-- the list at p is written by an update of its object -/
theorem Inv.lstUpd {pins : List (Addr × Obj)} {σ : St} {H : Hp} {s : Shared} {p : Addr} {xs ys : List V} {its its' : List Value} {n n' : Nat} {f : Obj → Obj} (I : Inv X pins σ H s) (h : H p = some (.lst xs))
    (ho : s.heap.get? p = some { cls := .type "list", data := .seq its.toArray n }) (hf : f { cls := .type "list", data := .seq its.toArray n } = { cls := .type "list", data := .seq its'.toArray n' }) (r : Vals ys its') (hz : ys.length ≤ sizeLine) (t : Nat) :
    Inv X pins σ (upd H p (.lst ys)) { s with heap := s.heap.update p f, toks := t } := by
  have e : (s.heap.update p f).get? p = some { cls := .type "list", data := .seq its'.toArray n' } := by
    rw [Heap.get?_update_self f ho (by rw [hf] <;> rfl), hf]
  refine I.write (x := p) (e := p) (by rw [h]; trivial) (.inl rfl) (fun b u hb q => (Heap.get?_update_other _ _ (Ne.symm hb)).trans q) ⟨_, e⟩ ?_
  exact ⟨hz, its', n', r, e⟩
def rSetL : V → V → V → Hp → (Hp → Prop) → Prop := fun o i v H Q => ∃ p xs k j, o = .ref p ∧ i = .int k ∧ H p = some (.lst xs) ∧ ixN xs.length k = some j ∧ Q (upd H p (.lst (xs.set j v)))
theorem set_list : PSet X rSetL := by
  intro pins s σ H o i v ov iv u Q I ro ri rv h
  obtain ⟨p, xs, k, j, rfl, rfl, hp, hj, q⟩ := h
  cases ro
  obtain ⟨t, rfl⟩ := ri
  obtain ⟨its, n, r, ho, hz⟩ := I.lst hp
  obtain ⟨h1, h2, h3, h4⟩ := ixN_seq hj
  have hl := r.length
  have hn := line63
  have I' : Inv X pins σ (upd H p (.lst (xs.set j v))) { s with heap := s.heap.update p (Obj.mapSeq (·.setIfInBounds j u)) } :=
    I.lstUpd hp ho (mapSeq_set its n j u) (r.set rv j) (by rw [List.length_set]; exact hz) s.toks
  by_cases h0 : 0 ≤ k
  · have hk : k.toNat = j := by
      rw [seqIndex_of h0 h4] at h1
      exact Option.some.inj h1
    exact PySem.W.ki_setAt ho h0 (by omega) (by rw [List.size_toArray, ← hl]; exact h4) (by rw [hk]; exact ⟨_, I', q⟩)
  · have hk : (k + (its.toArray.size : Int)).toNat = j := by
      rw [seqIndex_neg (by omega) h3] at h1
      rw [List.size_toArray, ← hl]
      exact Option.some.inj h1
    exact PySem.W.ki_setBack ho (by omega) (by rw [List.size_toArray, ← hl]; exact h3) (by omega) (by rw [hk]; exact ⟨_, I', q⟩)
/-! ### slices -/
theorem slice_bounds (lo hi : Option Int) (n : Nat) : (sliceBounds lo hi none n).1 = ((HT.sIx n 0 lo : Nat) : Int) ∧ (sliceBounds lo hi none n).2.1 = ((HT.sIx n n hi : Nat) : Int) ∧ (sliceBounds lo hi none n).2.2 = 1 := by
  refine ⟨?_, ?_, rfl⟩
  · cases lo with
    | none => simp [sliceBounds, HT.sIx]
    | some i =>
      simp only [sliceBounds, HT.sIx, Option.getD_none, show (1 : Int) > 0 by decide, if_true]
      by_cases h : i < 0
      · simp only [h, if_true] <;> omega
      · simp only [h, if_false] <;> omega
  · cases hi with
    | none => simp [sliceBounds, HT.sIx]
    | some i =>
      simp only [sliceBounds, HT.sIx, Option.getD_none, show (1 : Int) > 0 by decide, if_true]
      by_cases h : i < 0
      · simp only [h, if_true] <;> omega
      · simp only [h, if_false] <;> omega
theorem slicePick_cut (its : List Value) (lo hi : Option Int) : slicePick its.toArray lo hi none = ((its.drop (HT.sIx its.length 0 lo)).take (HT.sIx its.length its.length hi - HT.sIx its.length 0 lo)).toArray := by
  obtain ⟨h1, h2, h3⟩ := slice_bounds lo hi its.toArray.size
  unfold slicePick
  rw [h1, h2, h3]
  simp only [sliceRange_one, pick_run, List.size_toArray] <;> rfl
/-- xs[lo:hi] of a list: a new list -/
def rSlL (K : PySem.W.Frag) : V → Option Int → Option Int → Hp → VK → Prop := fun x lo hi H Q => ∃ a xs, x = .ref a ∧ SqL K H a xs ∧ ∀ p, H p = none → Q (.ref p) (upd H p (.lst (cutV xs lo hi)))
theorem sl_list : SlR X (rSlL X.K) := by
  intro pins s σ H x v vl vu lo hi sl Q I rx hs pl pu h
  obtain ⟨a, xs, rfl, hx, q⟩ := h
  cases rx
  obtain ⟨its, r, ht, hz⟩ := I.list hx
  have hlen := r.length
  refine ⟨"list", _, slot_list_getitem.lookup, ht.isList.typeIs, ?_⟩
  refine wpAny_getItem_list_slice ht.isList hs pl pu .none (by simp) ?_ (by rw [List.size_toArray] <;> omega)
  rw [slicePick_cut, ← hlen]
  refine ⟨.ref s.heap.objs.size, _, I.laid (t' := s.toks) (o := .lst (cutV xs lo hi)) (fun b ob q => Heap.get?_push_of_some _ q) (Nat.le_refl _) ?_, rfl, q _ (I.hok.fresh (Nat.le_refl _))⟩
  exact ⟨Nat.le_trans (cutV_length xs lo hi) hz, _, 0, (r.drop (HT.sIx xs.length 0 lo)).take (HT.sIx xs.length xs.length hi - HT.sIx xs.length 0 lo), Heap.get?_push_size _ rfl⟩
/-! ### in, not in: flat items -/
/-- == of flat values -/
def eqV : V → V → Bool
  | .non, .non => true
  | .bl a, .bl b => a == b
  | .bl a, .int b => (if a then 1 else 0) == b
  | .int a, .bl b => a == (if b then 1 else 0)
  | .int a, .int b => a == b
  | .str a, .str b => a == b
  | _, _ => false
/-! ### len, list(x), tuple(x) of any list or tuple that is read -/
theorem call_len_seq : CallR X (.builtin "len") (fun xs H Q => ∃ p ys, xs = [.ref p] ∧ (SqL X.K H p ys ∨ SqT X.K H p ys) ∧ Q (.int ys.length) H) := by
  intro pins s σ H xs us Q I r h
  obtain ⟨p, ys, rfl, hq, q⟩ := h
  obtain ⟨u, rfl, rx⟩ := vals1 r
  cases rx
  have hn := line63
  rcases hq with hq | hq
  · obtain ⟨its, r', pl, hz⟩ := I.list hq
    have hlen := r'.length
    exact Calls.call_len_list pl.isList (by simp only [List.size_toArray] <;> omega) ⟨.int ys.length, H, I.tok _, ⟨s.toks + 1, by rw [List.size_toArray, hlen]⟩, q⟩
  · obtain ⟨its, r', pl, hz⟩ := I.tuple hq
    have hlen := r'.length
    exact len_tuple pl (by simp only [List.size_toArray] <;> omega) ⟨.int ys.length, H, I.tok _, ⟨s.toks + 1, by rw [List.size_toArray, hlen]⟩, q⟩
theorem call_len_str : CallR X (.builtin "len") (fun xs H Q => ∃ z, xs = [.str z] ∧ z.length ≤ sizeLine ∧ Q (.int z.length) H) := by
  intro pins s σ H xs us Q I r h
  obtain ⟨z, rfl, hz, q⟩ := h
  obtain ⟨u, rfl, t, rfl⟩ := vals1 r
  have hn := line63
  exact len_str (by omega) ⟨.int z.length, H, I.tok _, ⟨_, rfl⟩, q⟩
theorem CallR.or {f : Value} {r r' : List V → Hp → VK → Prop} (h : CallR X f r) (h' : CallR X f r') : CallR X f (fun xs H Q => r xs H Q ∨ r' xs H Q) := by
  intro pins s σ H xs us Q I rs q
  rcases q with q | q
  · exact h pins s σ H xs us Q I rs q
  · exact h' pins s σ H xs us Q I rs q
theorem call_list_of : CallR X (.type "list") (fun xs H Q => ∃ p ys, xs = [.ref p] ∧ (SqL X.K H p ys ∨ SqT X.K H p ys) ∧ ∀ l, H l = none → Q (.ref l) (upd H l (.lst ys))) := by
  intro pins s σ H xs us Q I r h
  obtain ⟨p, ys, rfl, hq, q⟩ := h
  obtain ⟨u, rfl, rx⟩ := vals1 r
  cases rx
  have fin : ∀ (its : List Value), Vals ys its → ys.length ≤ sizeLine → ∀ (h' : Heap) (c' : Nat), (∀ b o', s.heap.get? b = some o' → h'.get? b = some o') →
      h'.get? s.heap.objs.size = some { cls := .type "list", dict := none, data := .seq its.toArray c', slots := #[] } → EP X pins σ Q (.ref s.heap.objs.size) { s with heap := h' } := fun its r' hz h' c' kp e =>
    ⟨.ref s.heap.objs.size, _, I.laid (t' := s.toks) kp (Nat.le_refl _) (show ObjOk X.prog X.w _ h' _ (.lst ys) from ⟨hz, its, c', r', e⟩), rfl, q _ (I.hok.fresh (Nat.le_refl _))⟩
  rcases hq with hq | hq
  · obtain ⟨its, r', pl, hz⟩ := I.list hq
    have hlen := r'.length
    obtain ⟨o, ho, hc, n, hd⟩ := pl.isList
    exact call_list_seq p (.inl rfl) ho hc hd (fun h' c' kp e => fin its r' hz h' c' kp e) (by simp only [List.size_toArray] <;> omega)
  · obtain ⟨its, r', pl, hz⟩ := I.tuple hq
    have hlen := r'.length
    obtain ⟨o, ho, hc, n, hd⟩ := pl
    exact call_list_seq p (.inr rfl) ho hc hd (fun h' c' kp e => fin its r' hz h' c' kp e) (by simp only [List.size_toArray] <;> omega)
theorem call_tuple_of : CallR X (.type "tuple") (fun xs H Q => ∃ p ys, xs = [.ref p] ∧ ((SqL X.K H p ys ∧ ∀ l, H l = none → Q (.ref l) (upd H l (.tup ys))) ∨ (SqT X.K H p ys ∧ Q (.ref p) H))) := by
  intro pins s σ H xs us Q I r h
  obtain ⟨p, ys, rfl, h⟩ := h
  obtain ⟨u, rfl, rx⟩ := vals1 r
  cases rx
  rcases h with ⟨hq, q⟩ | ⟨hq, q⟩
  · obtain ⟨its, r', pl, hz⟩ := I.list hq
    have hlen := r'.length
    refine call_tuple_list pl.isList (fun h' kp => ?_) (by simp only [List.size_toArray] <;> omega)
    have I1 : Inv X pins σ H { s with heap := h' } := I.kept (t' := s.toks) kp
    have I2 : Inv X pins σ (upd H h'.objs.size (.tup ys)) { s with heap := h'.push { cls := .type "tuple", data := .seq its.toArray } } :=
      I1.laid (t' := s.toks) (fun b o e => Heap.get?_push_of_some _ e) (Nat.le_refl _) (show ObjOk X.prog X.w _ _ _ (.tup ys) from ⟨hz, its, r', IsTup.new _ _⟩)
    exact ⟨.ref h'.objs.size, _, I2, rfl, q _ (I1.hok.fresh (Nat.le_refl _))⟩
  · obtain ⟨its, r', pl, hz⟩ := I.tuple hq
    exact call_tuple_same pl ⟨.ref p, H, I, rfl, q⟩
/-! ### the call of a builtin's method: o.m(..) -/
/-- the value is of that builtin type -/
def tyV (K : PySem.W.Frag) (T : String) (x : V) (H : Hp) : Prop := match x with
  | .str _ => T = "str"
  | .int _ => T = "int"
  | .ref p => (T = "list" ∧ ∃ xs, SqL K H p xs) ∨ (T = "tuple" ∧ ∃ o, K.lookup p = some o ∧ o.cls = .type "tuple" ∧ o.dict = none) ∨
      (T = "dict" ∧ ((∃ kvs, H p = some (.dK kvs)) ∨ ∃ kvs, H p = some (.dT kvs))) ∨ (T = "set" ∧ ∃ S n, H p = some (.set S n))
  | _ => False
theorem tyV_is {pins : List (Addr × Obj)} {σ : St} {H : Hp} {s : Shared} {T : String} {x : V} {v : Value} (I : Inv X pins σ H s) (r : RelV x v) (ty : tyV X.K T x H) :
    s.TypeIs v T ∧ ∀ a, v = .ref a → ∃ ob, s.heap.get? a = some ob ∧ ob.dict = none := by
  cases x with
  | str z =>
    obtain ⟨t, rfl⟩ := r
    cases (show T = "str" from ty)
    exact ⟨typeIs_str s z t, fun _ e => nomatch e⟩
  | int i =>
    obtain ⟨t, rfl⟩ := r
    cases (show T = "int" from ty)
    exact ⟨typeIs_int s i t, fun _ e => nomatch e⟩
  | ref p =>
    cases r
    rcases ty with ⟨rfl, xs, hq⟩ | ⟨rfl, o, hk, hc, hd⟩ | ⟨rfl, hk⟩ | ⟨rfl, S, n, hk⟩
    · obtain ⟨its, _, pl, _⟩ := I.list hq
      refine ⟨pl.isList.typeIs, fun a e => ?_⟩
      cases e
      obtain ⟨o, n, e, c, hd, _⟩ := pl
      exact ⟨o, e, hd⟩
    · refine ⟨⟨o, I.kIn p o hk, hc⟩, fun a e => ?_⟩
      cases e
      exact ⟨o, I.kIn _ o hk, hd⟩
    · have z : ∃ o, s.heap.get? p = some o ∧ o.ExactDict := by
        rcases hk with ⟨kvs, hk⟩ | ⟨kvs, hk⟩
        · obtain ⟨_, _, _, _, o, _, _, e, ex, _⟩ := I.hok p _ hk
          exact ⟨o, e, ex⟩
        · obtain ⟨_, _, _, _, o, _, _, e, ex, _⟩ := I.hok p _ hk
          exact ⟨o, e, ex⟩
      obtain ⟨o, e, ex⟩ := z
      refine ⟨⟨o, e, ex.1⟩, fun a e2 => ?_⟩
      cases e2
      exact ⟨o, e, ex.2.1⟩
    · obtain ⟨o, _, _, _, e, ex, _⟩ := I.hok p _ hk
      refine ⟨⟨o, e, ex.1⟩, fun a e2 => ?_⟩
      cases e2
      exact ⟨o, e, ex.2.1⟩
  | _ => exact False.elim ty
def tBM0 (K : PySem.W.Frag) (T : String) (r : V → List V → Hp → VK → Prop) (to : TE) : TE := fun σ H Q => to σ H fun x H1 => tyV K T x H1 ∧ r x [] H1 Q
def tBM (K : PySem.W.Frag) (T : String) (r : V → List V → Hp → VK → Prop) (to : TE) (t : TA) : TE := fun σ H Q => to σ H fun x H1 => tyV K T x H1 ∧ t σ H1 fun xs H2 => r x xs H2 Q
variable {o e : Expr} {es : List Expr} {to : TE} {t : TA} {name : Str} {apos cpos : Pos} {T id : String} {r : V → List V → Hp → VK → Prop}
theorem pe_bm0 (pa : PlainAttrs T) (slot : Slot T name id) (hty : typeOf (.builtin id) = pure (.type "method_descriptor")) (hm : MtR X id r) (ho : PE X o to)
    (hbase : attributeBase o name X.env (eval o X.env) = eval o X.env := by rfl) (hline : (apos.endLine == cpos.line) = true := by rfl) : PE X (.Call (.Attribute o name apos) [] [] cpos) (tBM0 X.K T r to) := by
  intro pins s σ H Q I h
  refine wpAny_Call_method0_late hbase hline (thn (ho pins s σ H _ I h) fun v s1 ⟨x, H1, I1, r1, ty, q1⟩ => ?_)
  obtain ⟨h1, h2⟩ := tyV_is I1 r1 ty
  exact ⟨T, id, pa, slot, hty, h1, h2, Calls.callWith_builtin rfl (PySem.evalArgs_none (hm pins s1 σ H1 x [] v [] Q I1 r1 .nil q1))⟩
theorem pe_bm (pa : PlainAttrs T) (slot : Slot T name id) (hty : typeOf (.builtin id) = pure (.type "method_descriptor")) (hm : MtR X id r) (ho : PE X o to) (ha : PA X (e :: es) t)
    (hbase : attributeBase o name X.env (eval o X.env) = eval o X.env := by rfl)
    (hfew : ((backTo cpos (starEach (e :: es) X.env)).all (fun x => !x.1) && (backToKw cpos (keywordEach [] X.env)).all (fun x => x.1.isSome)
      && decide ((e :: es).length + ([] : List Keyword).length + (if ([] : List Keyword).isEmpty then 0 else 1) < 30)) = true := by rfl)
    (hline : (apos.endLine == cpos.line) = true := by rfl) (hs : starEach (e :: es) X.env = (false, eval e X.env) :: starEach es X.env := by rfl) (hplain : (backTo cpos (starEach es X.env)).any (·.1) = false := by rfl) :
    PE X (.Call (.Attribute o name apos) (e :: es) [] cpos) (tBM X.K T r to t) := by
  intro pins s σ H Q I h
  refine wpAny_Call_method_late hbase hfew hline rfl (thn (ho pins s σ H _ I h) fun v s1 ⟨x, H1, I1, r1, ty, q1⟩ => ?_)
  obtain ⟨h1, h2⟩ := tyV_is I1 r1 ty
  refine ⟨T, id, pa, slot, hty, h1, h2, ?_⟩
  have hA := ha cpos pins s1 σ H1 _ I1 q1
  rw [hs] at hA ⊢
  refine Calls.callWith_builtin (by show (false || (backTo cpos (starEach es X.env)).any (·.1)) = false; rw [hplain] <;> rfl) (Calls.evalArgs_plain ?_)
  exact thn hA fun us s2 ⟨vs, H2, I2, r2, q2⟩ => hm pins s2 σ H2 x vs v us Q I2 r1 r2 q2
/- xs.append(e), list.index on a module's tuple .. are MtR facts of 06m -/
end
end L2
namespace L2
open PySem PySem.Spec PyProof.Rows
def MtM (X : Cx) (id : String) (r : V → List V → Hp → VK → Prop) : Prop :=
  ∀ (pins : List (Addr × Obj)) (s : Shared) (σ : St) (H : Hp) (x : V) (xs : List V) (v : Value) (us : List Value) (Q : VK), Inv X pins σ H s → RelV x v → Vals xs us → r x xs H Q →
    wpAny (model X.prog X.w) X.A (call (.builtin id) (v :: us)) (EP X pins σ Q) X.xe s
/-! ### lists of values -/
theorem Vals.one : ∀ {x : V} {us : List Value}, Vals [x] us → ∃ u, us = [u] ∧ RelV x u
  | _, _, .cons r .nil => ⟨_, rfl, r⟩
section
variable {X : Cx} {pins : List (Addr × Obj)} {σ : St} {H : Hp} {s : Shared} {l b : Addr} {xs ys zs : List V}
/-! ### the two steps: a tracked list is rewritten, a new list is laid -/
theorem Inv.lset {its its' : List Value} {n : Nat} {f : Array Value → Array Value} {t' : Nat} (I : Inv X pins σ H s) (hH : H l = some (.lst xs))
    (e : s.heap.get? l = some { cls := .type "list", data := .seq its.toArray n }) (hf : f its.toArray = its'.toArray) (hv : Vals ys its') (hz : ys.length ≤ sizeLine) :
    Inv X pins σ (upd H l (.lst ys)) { s with heap := s.heap.update l (Obj.mapSeq f), toks := t' } := by
  have q := PySem.IsL.update e f
  rw [hf] at q
  refine I.write (x := l) (e := l) (by rw [hH]; exact trivial) (.inl rfl) (fun b' u hb hu => (Heap.get?_update_other s.heap (Obj.mapSeq f) (Ne.symm hb)).trans hu) ⟨_, q⟩ ?_
  exact ⟨hz, its', _, hv, q⟩
theorem Inv.lnew {its : List Value} {t' : Nat} (I : Inv X pins σ H s) (hv : Vals ys its) (hz : ys.length ≤ sizeLine) :
    Inv X pins σ (upd H s.heap.objs.size (.lst ys)) { s with heap := s.heap.push { cls := .type "list", data := .seq its.toArray }, toks := t' } :=
  I.laid (fun _ _ q => Heap.get?_push_of_some _ q) (Nat.le_refl _) ⟨hz, its, 0, hv, Heap.get?_push_size _ rfl⟩
theorem Inv.fresh (I : Inv X pins σ H s) : H s.heap.objs.size = none := I.hok.fresh (Nat.le_refl _)
theorem Inv.lstM (I : Inv X pins σ H s) (hH : H l = some (.lst xs)) : xs.length ≤ sizeLine ∧ ∃ (its : List Value) (n : Nat), Vals xs its ∧ xs.length = its.length ∧ s.heap.get? l = some { cls := .type "list", data := .seq its.toArray n } := by
  obtain ⟨z, its, n, r, e⟩ := I.hok l _ hH
  exact ⟨z, its, n, r, r.length, e⟩
end
section
variable {X : Cx}
/-! ### methods -/
def rAppend : V → List V → Hp → VK → Prop := fun x vs H Q => ∃ l xs y, x = .ref l ∧ vs = [y] ∧ H l = some (.lst xs) ∧ xs.length < sizeLine ∧ Q .non (upd H l (.lst (xs ++ [y])))
theorem mt_append : MtM X "list.append" rAppend := by
  intro pins s σ H x vs v us Q I rx rv h
  obtain ⟨l, xs, y, rfl, rfl, hH, hz, q⟩ := h
  cases rx
  obtain ⟨u, rfl, ru⟩ := rv.one
  obtain ⟨z, its, n, r, hl, e⟩ := I.lstM hH
  refine call_meets F.slot_list_append ⟨_, e, rfl⟩ F.entry_list_append (F.args_list_append_2 _ _) (PySem.list_append l its.toArray n u (by rw [List.size_toArray]; omega)) ⟨e, ?_⟩
  refine ⟨.non, _, I.lset (its' := its ++ [u]) hH e (by simp) (r.append (.cons ru .nil)) ?_, rfl, q⟩
  rw [List.length_append, List.length_singleton]
  omega
/-! ### list + list, list += list, list * int -/
def rCat : R2 := fun x y H Q => ∃ l b xs zs, x = .ref l ∧ y = .ref b ∧ H l = some (.lst xs) ∧ H b = some (.lst zs) ∧ xs.length + zs.length ≤ sizeLine ∧ ∀ p, H p = none → Q (.ref p) (upd H p (.lst (xs ++ zs)))
theorem op_cat : OpR X (binaryOp .Add) rCat := by
  intro pins s σ H x y v u Q I rx ry h
  obtain ⟨l, b, xs, zs, rfl, rfl, hH, hB, hz, q⟩ := h
  cases rx
  cases ry
  obtain ⟨z, its, n, r, hl, e⟩ := I.lstM hH
  obtain ⟨z2, its2, n2, r2, hl2, e2⟩ := I.lstM hB
  refine PySem.P.add_list e e2 ?_ (by rw [List.size_toArray, List.size_toArray]; omega)
  have ea : its.toArray ++ its2.toArray = (its ++ its2).toArray := by simp
  rw [ea]
  exact ⟨.ref _, _, I.lnew (t' := s.toks) (r.append r2) (by rw [List.length_append]; omega), rfl, q _ I.fresh⟩
/-! ### del xs[i] -/
end
/-! ### xs[a:b] = ys -/
section
variable {prog : Program} {w : World} {A : Around} {E : Value → Shared → Prop} {s : Shared}
set_option maxRecDepth 100000 in
end
section
variable {X : Cx}
end
end L2
namespace Att
open PySem PySem.W PySem.Calls PyProof.Rows
/-! ### the script -/
theorem ints_of_wellAll {P : Params} {h : Heap} : ∀ (ns : List Int) (vs : List Value), WellAll P h vs (ns.map WData.int) → IntsAre vs ns := by
  intro ns
  induction ns with
  | nil =>
    intro vs w
    rw [List.map_nil] at w
    cases w
    exact .nil
  | cons n ns ih =>
    intro vs w
    rw [List.map_cons] at w
    cases w with
    | cons a b =>
      cases a
      exact .cons _ _ (ih _ b)
theorem script_of {l : OpenLaw} {n : Nat} (hn : l.most = some n) {P : Params} {h : Heap} {args : List WData} {vals : List Value}
    (hpre : l.row.toRowW.claim.pre args = true) (hwl : WellAll P h vals args) :
    ∃ a vs ns, vals = [Value.ref a] ∧ args = [WData.list (ns.map WData.int)] ∧ h.get? a = some { cls := .type "list", data := .seq vs.toArray } ∧ IntsAre vs ns ∧ ns.length ≤ n := by
  have hsh : WShape.hasAll [] args [.list .int] = true := (pre_splitW hpre).1
  have hc : l.pre.holds [] { args := args } = true := (pre_splitW hpre).2
  obtain ⟨d, r, rfl, h1, h2⟩ := hasAllW_cons hsh
  obtain rfl := hasAllW_nil h2
  obtain ⟨xs, rfl, h3⟩ := hasW_list h1
  obtain ⟨ns, rfl⟩ := items_int h3
  have hlen : ns.length ≤ n := by
    unfold OpenLaw.pre at hc
    have h4 : (WTm.not (.lt (.lit (.int (n : Int))) (.len (.arg 0)))).holds [] { args := [.list (ns.map .int)] } = true := by
      have h4 := (holds_andW hc).1
      rw [hn] at h4
      exact h4
    have h5 := condW_of h4 (w_not (w_lt w_lit (w_len_list (w_arg rfl))))
    rw [List.length_map] at h5
    refine Nat.le_of_not_lt fun q => ?_
    have q' : (n : Int) < ((ns.length : Nat) : Int) := by omega
    first
      | (rw [decide_eq_true q'] at h5; exact absurd h5 (by decide))
      | (simp at h5; omega)
  cases hwl with
  | cons w1 w2 =>
    cases w2
    cases w1 with
    | list ho hall => exact ⟨_, _, ns, rfl, rfl, ho, ints_of_wellAll ns _ hall, hlen⟩
theorem post_true (l : OpenLaw) (args : List WData) : l.row.toRowW.claim.post args (.bool true) args = true :=
  postW_of (r := l.row.toRowW) (X := (true == true))
    (show WShape.has [] (.bool true) .bool = true by first | rfl | decide | simp [WShape.has, WShape.arms, WShape.armsAll])
    (show (WTm.eq .res (.lit (.bool true))).value [] { args := args, res := some (.bool true), after := args } = some (.bool (true == true)) from w_eq_bool (w_res rfl) w_lit) rfl
/-! ### the attachment: holds_open's last premise (the goal 'hc' behind k_head) from a wpAny of the law's body -/
/-- the same from a codeAny of the CALL (for a layer whose function contracts speak of calls) -/
theorem attach_call {l : OpenLaw} {n : Nat} {q : Program} {loose : List Str} {XP : (Str → Option Value) → Heap → Prop} {YP : World → Heap → Prop} {d : DefRec}
    (hn : l.most = some n) (hdf : d.params.defaults = [])
    (call : ∀ (w : World) (s₀ s₁ : Shared) (mg mb : Str → Option Value) (fa : Addr) (o : Obj) (pm cd doc : Value) (a : Addr) (vs : List Value) (ns : List Int),
      Ground q loose [] XP w s₀ mg mb s₁.heap → YP w s₁.heap →
      s₁.heap.get? fa = some o → o.data = .func (docDef d.name d.params d.body d.scope pm cd doc) → s₁.heap.CodeRec cd d.name → mg d.name = some (.ref fa) →
      s₁.heap.get? a = some { cls := .type "list", data := .seq vs.toArray } → IntsAre vs ns → ns.length ≤ n → s₁.gens = #[] →
      codeAny (model l.prog w) callerA (.call (.ref fa) ⟨[.ref a], []⟩) (fun r s' => r = .ok (.ret (.bool true)) ∧ OldK s₁.heap s'.heap ∧ s'.os = s₁.os ∧ AllBare s'.gens) s₁) :
    WalkO q loose XP YP l.row.toRowW d [] (fun f vs => PySem.call f vs) := by
  intro w s₀ s₁ mg mb G Y fa o pm cd doc dV kV ho hd hcd hD hmg hg args vals as hpre hlay hrd hwl hlo
  obtain rfl : dV = .none := Dflts.none hD hdf
  obtain rfl : kV = .none := Dflts.noKw hD
  obtain ⟨a, vs, ns, rfl, rfl, hobj, hints, hlen⟩ := script_of hn hpre hwl
  refine enter_call (codeAny_mono (call w s₀ s₁ mg mb fa o pm cd doc a vs ns G Y ho (fd_plain hd) hcd hmg hobj hints hlen hg) fun r s' hq => ?_)
  obtain ⟨rfl, h2, h3, h4⟩ := hq
  exact ⟨.inl ⟨.bool true, .bool true, [], rfl, fun _ => rfl, .bool true, post_true l _, fun _ => ⟨List.Pairwise.nil, fun _ hm => (nomatch hm)⟩⟩, h2, h3, h4⟩
/-! ### rules over ANY heap (no ledger) from facts about the written part K: the library's own take a ledger (News) for what they write -/
section
variable {prog : Program} {w : World} {A : Around} {E : Value → Shared → Prop} {s : Shared} {K : Frag}
/-! the whole heap as the ledger: makes every rule that writes through a ledger a rule over any heap -/
def noObjs (h : Heap) : Heap := { h with objs := #[] }
theorem noObjs_get (h : Heap) (b : Addr) : (noObjs h).get? b = none := by
  cases e : (noObjs h).get? b with
  | none => rfl
  | some o => exact absurd (Heap.lt_size e) (Nat.not_lt_zero _)
def ledger (h : Heap) (L d : Addr) : List (Addr × Obj) := (List.range h.objs.size).filterMap fun a => if a = L ∨ a = d then none else (h.get? a).map fun o => (a, o)
theorem mem_ledger {h : Heap} {L d a : Addr} {o : Obj} : (a, o) ∈ ledger h L d ↔ a ≠ L ∧ a ≠ d ∧ h.get? a = some o := by
  unfold ledger
  rw [List.mem_filterMap]
  constructor
  · rintro ⟨b, _, e⟩
    split at e
    · cases e
    · rename_i hb
      obtain ⟨o', ho, e'⟩ := Option.map_eq_some_iff.mp e
      cases e'
      exact ⟨fun q => hb (.inl q), fun q => hb (.inr q), ho⟩
  · rintro ⟨n1, n2, ho⟩
    refine ⟨a, List.mem_range.mpr (Heap.lt_size ho), ?_⟩
    rw [if_neg (show ¬ (a = L ∨ a = d) from fun q => q.elim n1 n2), ho] <;> rfl
theorem fr_all {h : Heap} {L : Addr} {m : Str → Option Value} (n : h.Ns L m) : Fr (noObjs h) L h m :=
  ⟨n, fun b o e => (by rw [noObjs_get] at e; cases e), Nat.zero_le _⟩
end
end Att
namespace L2
open PySem PySem.Spec PyProof.Rows
theorem vals_ints : ∀ {vs : List Value} {ns : List Int}, IntsAre vs ns → Vals (ns.map V.int) vs
  | _, _, .nil => .nil
  | _, _, .cons n t h => .cons ⟨t, rfl⟩ (vals_ints h)
/-- nothing is tracked but the script, known to the object (or it is an object of the module) -/
def Only (H : Hp) : Prop := ∀ b, H b = none ∨ ∃ o xs, H b = some (.frz o (.lst xs))
/-- THE HEAD: the law's promise, at the heap behind the top. F, the promise of the law's def, may use that base is part of the heap (so K.In base, base.Ns mainGlobals mg stand in Mod) -/
theorem law_call {P : Program} {w : World} {K : PySem.W.Frag} {mg mb : Str → Option Value} {CX : CXT} {k : Nat} {fa a : Addr} {fd : FuncData} {x : Str} {sp : Sp} {s₁ : Shared} {vs : List Value} {ns : List Int}
    (KX : K.In s₁.heap) (hns : s₁.heap.Ns mainGlobals mg) (hb : s₁.heap.Ns builtinsNs mb) (hbb : ∀ x : Str, x ≠ "__name__" → mb x = bootBuiltins x) (hlim : s₁.heap.NoLimit) (hg : s₁.gens = #[])
    (ha : s₁.heap.get? a = some { cls := .type "list", data := .seq vs.toArray }) (hi : IntsAre vs ns) (hl : ns.length ≤ sizeLine) (hr : Room k callerA)
    (F : ∀ base : Heap, K.In base → base.Ns mainGlobals mg → FnOk P w K mg base CX k fa fd [x] sp) (hbind : ∀ (s : Shared) (u : Value), BindsTo s fd ⟨[u], []⟩ [(x, u)])
    (hsp : ∀ H : Hp, Only H → SqL K H a (ns.map V.int) → sp [.ref a] H (fun v _ => v = .bl true) fun _ _ _ => False)
    (hCX : ∀ H e s', CX [] H s₁ (fun _ _ _ => False) e s' → False) :
    codeAny (model P w) callerA (.call (.ref fa) ⟨[.ref a], []⟩) (fun r s' => r = .ok (.ret (.bool true)) ∧ OldK s₁.heap s'.heap ∧ s'.os = s₁.os ∧ AllBare s'.gens) s₁ := by
  have rv := vals_ints hi
  have lenV := hi.length
  -- from an abstract heap in which nothing but the script may be tracked
  have core : ∀ H : Hp, Only H → SqL K H a (ns.map V.int) → HOk P w H s₁.heap → (∀ b, H b ≠ none → b = a) → (H a ≠ none → K.lookup a = none) →
      codeAny (model P w) callerA (.call (.ref fa) ⟨[.ref a], []⟩) (fun r s' => r = .ok (.ret (.bool true)) ∧ OldK s₁.heap s'.heap ∧ s'.os = s₁.os ∧ AllBare s'.gens) s₁ := by
    intro H hO hS hok hA hK
    have base_of : ∀ {b : Addr} {o : Obj}, s₁.heap.get? b = some o → H b = none → (hidT s₁.heap H).get? b = some o := fun e n => hidT_get e n
    have noA : ∀ {b : Addr} {o : Obj} {es : Array DictEntry} {ep : Nat}, s₁.heap.get? b = some o → o.data = .dict es ep → H b = none := fun {b o es ep} e d => by
      cases q : H b with
      | none => rfl
      | some u =>
        have e' : b = a := hA b (by rw [q]; simp)
        subst e'
        rw [ha] at e; cases e
        have d' : Data.seq vs.toArray _ = Data.dict es ep := d
        cases d'
    have nsK : ∀ {b : Addr} {m : Str → Option Value}, s₁.heap.Ns b m → (hidT s₁.heap H).Ns b m := fun {b m} ⟨o, es, ep, e, d, r⟩ => ⟨o, es, ep, base_of e (noA e d), d, r⟩
    have hKb : K.In (hidT s₁.heap H) := fun b o e => base_of (KX b o e) (by
      cases q : H b with
      | none => rfl
      | some u =>
        have e' : b = a := hA b (by rw [q]; simp)
        subst e'
        rw [hK (by rw [q]; simp)] at e; cases e)
    have hM : Mod K mg (hidT s₁.heap H) := ⟨hKb, nsK hns, ⟨mb, nsK hb, hbb⟩, let ⟨mc, h1, h2⟩ := hlim; ⟨mc, nsK h1, h2⟩⟩
    have e0 : Env0 P w K mg (hidT s₁.heap H) callerA [] s₁ H := ⟨rfl, hM, fun b o e => of_hidT e, Nat.le_of_eq (hidT_size _ _), trivial, fun b hb => absurd (show b ∈ ([] : List Addr) from hb) (by simp), hok, .of_eq hg⟩
    refine codeAny_mono ((F _ hKb (nsK hns)).run callerA [] s₁ H ⟨[.ref a], []⟩ [.ref a] [.ref a] _ _ hr e0 (hbind s₁ (.ref a)) (.cons rfl .nil) (hsp H hO hS)) fun r s' h => ?_
    cases r with
    | error e => exact (hCX H e s' h).elim
    | ok fl =>
      cases fl with
      | next => exact False.elim h
      | brk => exact False.elim h
      | cont => exact False.elim h
      | ret u =>
        obtain ⟨v, H', os, bare, un, hok', r', q⟩ := h
        have q' : v = .bl true := q
        subst q'
        obtain rfl : u = Value.bool true := r'
        refine ⟨rfl, OldK.of_keep fun b o e => ?_, os, bare⟩
        cases q : H b with
        | none => exact un.keep b o e q (by intro z; exact absurd (show b ∈ ([] : List Addr) from z) (by simp)) (by simp)
        | some u =>
          rcases hO b with z | ⟨ob, xs, z⟩
          · rw [q] at z; cases z
          · have z2 := un.frzs b ob _ z
            obtain ⟨e1, _⟩ := hok b _ z
            obtain ⟨e2, _⟩ := hok' b _ z2
            rw [e] at e1; cases e1
            exact e2
  cases hk : K.lookup a with
  | some o =>
    -- the script is one of the module's own objects
    have e := KX a o hk
    rw [ha] at e
    cases e
    refine core (fun _ => none) (fun _ => .inl rfl) (.inr ⟨_, vs.toArray, _, hk, rfl, rfl, rfl, by rw [List.size_toArray, lenV]; exact hl, by simpa using rv⟩) (fun b u z => by have z' : (none : Option HO) = some u := z; cases z') (fun b z => absurd rfl z) fun z => absurd rfl z
  | none =>
    refine core (fun b => if b = a then some (.frz { cls := .type "list", data := .seq vs.toArray } (.lst (ns.map V.int))) else none) (fun b => ?_) (.inl (.inr ⟨{ cls := .type "list", data := .seq vs.toArray }, if_pos rfl⟩)) (fun b u z => ?_) (fun b z => ?_) fun _ => hk
    · by_cases hb : b = a
      · exact .inr ⟨_, _, if_pos hb⟩
      · exact .inl (if_neg hb)
    · by_cases hb : b = a
      · have z' := (if_pos hb).symm.trans z
        cases z'
        subst hb
        exact ⟨ha, by rw [List.length_map]; exact hl, vs, _, rv, ha⟩
      · have z' := (if_neg hb).symm.trans z
        cases z'
    · by_cases hb : b = a
      · exact hb
      · exact absurd (if_neg hb) z
end L2
namespace L2
open PySem PySem.Spec PyProof.Rows
abbrev KOf {K : PySem.W.Frag} {h : Heap} (_ : K.In h) : PySem.W.Frag := K
/-- the goal that k_head leaves (case hc), from the law's promise. F gives the function object fd (K's own) once, then the promise over every base -/
theorem walk_of {l : PySem.W.OpenLaw} {n k : Nat} {q : Program} {loose : List Str} {XP : (Str → Option Value) → Heap → Prop} {YP : World → Heap → Prop} {d : DefRec} {K : Params → PySem.W.Frag} {CX : World → CXT} {sp : World → Sp} {x : Str}
    (hn : l.most = some n) (hn2 : n ≤ sizeLine) (hdf : d.params.defaults = []) (hr : Room k callerA)
    (hY : ∀ (w : World) (h : Heap), YP w h → (K w.params).In h)
    (F : ∀ (w : World) (mg : Str → Option Value) (fa : Addr) (h : Heap), (K w.params).In h → h.Ns mainGlobals mg → mg d.name = some (.ref fa) →
      ∃ fd : FuncData, (∀ (s : Shared) (u : Value), BindsTo s fd ⟨[u], []⟩ [(x, u)]) ∧
        ∀ base : Heap, (K w.params).In base → base.Ns mainGlobals mg → FnOk l.prog w (K w.params) mg base (CX w) k fa fd [x] (sp w))
    (hsp : ∀ (w : World) (H : Hp) (a : Addr) (ns : List Int), ns.length ≤ n → Only H → SqL (K w.params) H a (ns.map V.int) → sp w [.ref a] H (fun v _ => v = .bl true) fun _ _ _ => False)
    (hCX : ∀ (w : World) (H : Hp) (s : Shared) (e : Value) (s' : Shared), CX w [] H s (fun _ _ _ => False) e s' → False) :
    PySem.W.WalkO q loose XP YP l.row.toRowW d [] (fun f vs => PySem.call f vs) := by
  refine Att.attach_call hn hdf fun w s₀ s₁ mg mb fa o pm cd doc a vs ns G Y ho hd hcd hmg hobj hints hlen hg => ?_
  have KX := hY w _ Y
  obtain ⟨fd, hb, hF⟩ := F w mg fa _ KX G.T.g hmg
  exact law_call KX G.T.g G.T.b G.T.builtins G.T.nolimit hg hobj hints (Nat.le_trans hlen hn2) hr hF hb (fun H hO hS => hsp w H a ns hlen hO hS) fun H e s' => hCX w H s₁ e s'
end L2
/- THE LAST THEOREM (shape; LID, My.* are yours):
   My.Adr: a structure of the addresses that your layer names (classes, functions); My.Txt K t: a structure (Prop) of the equations over K;
   My.txt_mk : {K} {implicit addresses ..} (e1 : nsIn K mainGlobals "law" = some (some (.ref f))) (e2 : K.lookup f = some ⟨oc, od, .func (fnOf "law" "law" params body scope dV kV doc pm an cdv ct), sl⟩) (e3 : codeIn K cdv "law" = true) .. : ∃ t, My.Txt K t
set_option maxRecDepth 100000 in
set_option maxHeartbeats 0 in
theorem PySem.Challenge.cw_LID_holds : PySem.Challenge.rw_LID.Holds := by
  w_on; o_law; k_head; (case hw => w_witness2)
  k_fill
  refine L2.walk_of (l := PySem.Challenge.rw_LID) (n := 63) (k := 40) (x := "script") (CX := fun w => ..) (sp := fun _ => My.sp_law) rfl (by decide) rfl ⟨rfl, by decide, by decide⟩ (fun w h Y => PySem.W.kIn_of Y) ?F ?S ?C
  case F =>
    intro w mg fa h KX G hmg
    have T : ∃ t, My.Txt (L2.KOf KX) t := by
      dsimp only [L2.KOf]                          -- K must stand as «<heap const> w.params» for k_is
      refine' My.txt_mk ?e1 ?e2 ?e3 ..
      (case e1 => PySem.W.k_is)                    -- in the order: a name -> its address -> its object -> its parts
      (case e2 => PySem.W.k_is)
      ..
    obtain ⟨t, T⟩ := T
    have e0 := hmg.symm.trans (PySem.W.mg_of KX G T.law)
    cases e0                                       -- fa is the law's own address
    exact ⟨_, fun s u => .of_eq rfl, fun base kb nb => My.law_fn T kb nb⟩     -- if «.of_eq rfl» comes too early: refine' ⟨_, ?b, fun base kb nb => My.law_fn T kb nb⟩; exact fun s u => .of_eq rfl
  case S => exact fun w H a ns hl hO hS => ..
  case C => exact ..
(the tactic k_is has no namespace: write k_is) -/
/-! SHORT WORDS over the layer: a def of the text, its body, what a loop and a test want. -/
namespace L2
open PySem PySem.Spec PyProof.Rows
/-! ### the text by places -/
def defArgs (s : Stmt) : Arguments := match s with
  | .FunctionDef _ a _ _ _ _ _ _ _ _ => a
  | _ => { posonlyargs := [], args := [], vararg := none, kwonlyargs := [], kw_defaults := [], kwarg := none, defaults := [] }
def defBody (s : Stmt) : List Stmt := match s with
  | .FunctionDef _ _ b _ _ _ _ _ _ _ => b
  | _ => []
def defScope (s : Stmt) : Scope := match s with
  | .FunctionDef _ _ _ _ _ _ sc _ _ _ => sc
  | _ => { kind := .function, names := [], isGenerator := false, isCoroutine := false }
/-! ### no exception leaves a def -/
abbrev CX0 : CXT := fun _ _ _ _ _ _ => False
abbrev E0 : XK := fun _ _ _ => False
theorem pass0 {X : Cx} : Passes CX0 X E0 := fun _ _ _ _ _ _ _ h => h.elim
/-! ### a def (or method) of the text as it stands behind the top -/
structure Fun (K : PySem.W.Frag) (x qual : Str) (st : Stmt) (f : Addr) (fd : FuncData) : Prop where
  ex : ∃ (oc : Value) (od : Option Addr) (kV doc pm : Value) (an : Option Addr) (cdv ct : Value) (osl : Array (Option Value)),
    fd = PySem.W.fnOf x qual (defArgs st) (defBody st) (defScope st) .none kV doc pm an cdv ct ∧ K.lookup f = some ⟨oc, od, .func fd, osl⟩ ∧ PySem.W.codeIn K cdv qual = true
  kp : PySem.W.keepIn K (.ref f) = true
section
variable {P : Program} {w : World} {K : PySem.W.Frag} {mg : Str → Option Value} {base : Heap}
/-- THE RULE for a def: its body as a term of rules, and the reading of that term -/
theorem Fun.ok {x qual : Str} {st : Stmt} {f : Addr} {fd : FuncData} {N ps : List Str} {k : Nat} {sp : Sp} (F : Fun K x qual st f fd) (S : FnScope N ps (defScope st)) (len : ∀ vs H Q E, sp vs H Q E → vs.length = ps.length)
    (hbody : ∀ (cdv : Value) (A : Around) (outer : List Env) (s : Shared) (H : Hp) (vs : List V) (Q : VK) (E : XK), Room k (A.deeper (envOfC qual (defScope st) s.heap.objs.size f cdv)) → sp vs H Q E →
      ∃ t, PSs (cxOf CX0 P w K mg base N qual (defScope st) f cdv A outer s H E).nox (defBody st) t ∧ t { nx := fun _ H' => Q .non H', rt := Q } (start N vs) H) : FnOk P w K mg base CX0 (k + 1) f fd ps sp := by
  obtain ⟨oc, od, kV, doc, pm, an, cdv, ct, osl, rfl, lk, hcd⟩ := F.ex
  refine fn_of lk hcd S len fun A outer s H vs Q E hr hsp => ?_
  obtain ⟨t, h, q⟩ := hbody cdv A outer s H vs Q E hr hsp
  exact ⟨t, h.nox, q⟩
/-- how its arguments bind (no defaults): h is «fun _ _ _ _ _ _ us hl => match us, hl with | [_, _], _ => rfl», one _ a parameter -/
theorem Fun.binds {x qual : Str} {st : Stmt} {f : Addr} {fd : FuncData} {ps : List Str} (F : Fun K x qual st f fd)
    (h : ∀ (kV doc pm : Value) (an : Option Addr) (cdv ct : Value) (us : List Value), us.length = ps.length → bindArgs (PySem.W.fnOf x qual (defArgs st) (defBody st) (defScope st) .none kV doc pm an cdv ct) ⟨us, []⟩ = pure (ps.zip us)) : Binds K fd ps [] := by
  obtain ⟨oc, od, kV, doc, pm, an, cdv, ct, osl, rfl, lk, hcd⟩ := F.ex
  exact .all (h kV doc pm an cdv ct)
theorem fun_mk {x qual : Str} {st : Stmt} {f : Addr} {oc : Value} {od an : Option Addr} {osl : Array (Option Value)} {kV doc pm cdv ct : Value} (l : K.lookup f = some ⟨oc, od, .func (PySem.W.fnOf x qual (defArgs st) (defBody st) (defScope st) .none kV doc pm an cdv ct), osl⟩)
    (c : PySem.W.codeIn K cdv qual = true) (k : PySem.W.keepIn K (.ref f) = true) : Fun K x qual st f (PySem.W.fnOf x qual (defArgs st) (defBody st) (defScope st) .none kV doc pm an cdv ct) := ⟨⟨oc, od, kV, doc, pm, an, cdv, ct, osl, rfl, l, c⟩, k⟩
end
/-! ### expressions in short: the name that stands in the i-th slot -/
section
variable {X : Cx}
theorem pv (i : Nat) {x : Str} {pos : Pos} (hN : X.N[i]? = some x := by rfl) (hv : Vis X.env.scope x := by first | exact Or.inl rfl | exact Or.inr (Or.inl rfl) | exact Or.inr (Or.inr rfl)) (hd : (x == ("__debug__" : Str)) = false := by decide)
    (hcd : (x == ("__classdict__" : Str)) = false := by decide) : PE X (.Name x pos) (tVar i) := pe_var hN hv hd hcd
end
/-! ### tests -/
theorem iteF {A B : Prop} (h : B) : if false = true then A else B := by
  rw [if_neg Bool.false_ne_true]
  exact h
theorem iteT {A B : Prop} (h : A) : if true = true then A else B := by
  rw [if_pos rfl]
  exact h
/-! ### heaps -/
end L2
namespace L2
open PySem PySem.Spec PyProof.Rows
def Xo (lo : Nat) (e C dx : Addr) (fl : Option Value) (H : Hp) (h : Heap) : Prop :=
  lo ≤ e ∧ H e = none ∧ ∃ oe vs, h.get? e = some oe ∧ oe.cls = .ref C ∧ oe.dict = some dx ∧ oe.data = .fields vs ∧ 1 < vs.size ∧
    match fl with
    | none => vs[1]? = some .none
    | some v => ∃ T oT ts, vs[1]? = some (.ref T) ∧ lo ≤ T ∧ T ≠ e ∧ H T = none ∧ h.get? T = some oT ∧ oT.data = .fields ts ∧ ts[3]? = some v
end L2
namespace L2
open PySem PySem.Spec PyProof.Rows
section
variable {X : Cx}
/-- // by a positive divisor below 2^64 -/
theorem op_fdivW : OpR X (binaryOp .FloorDiv) (rI (fun _ j => 0 < j ∧ j < 2 ^ 64) fun i j => .int (i / j)) := by
  refine opI fun i j t u s Q E hc h => ?_
  obtain ⟨h0, h1⟩ := hc
  have e : i.fdiv j = i / j := Int.fdiv_eq_ediv_of_nonneg i (Int.le_of_lt h0)
  refine floordiv_int (by omega) (by rw [e]; exact h) (.inl (PyProof.noPylong_of_log2 ?_))
  have h2 : j.natAbs < 2 ^ 64 := by omega
  have h3 : j.natAbs ≠ 0 := by omega
  have := (Nat.log2_lt h3).mpr h2
  omega
/-- t + u of tuples, whatever -/
theorem cat_tup0 {prog : Program} {w : World} {A : Around} {E : Value → Shared → Prop} {s : Shared} {t b : Addr} {ws : List Value} {Q : Value → Shared → Prop} (ht : IsTup s.heap t #[]) (hb : IsTup s.heap b ws.toArray)
    (h1 : Q (.ref b) s) : wpAny (model prog w) A (binaryOp .Add (.ref t) (.ref b)) Q E s := by
  obtain ⟨⟨cls, dd, data, sl⟩, ho, hc, n, hd⟩ := id ht
  obtain ⟨⟨cls2, dd2, data2, sl2⟩, ho2, hc2, n2, hd2⟩ := id hb
  simp only at hc hd hc2 hd2
  subst hc hd hc2 hd2
  exact concat_meets ⟨_, ho, rfl⟩ ⟨_, ho2, rfl⟩ noFill_tuple_add seq_tuple_add PySem.F.slot_tuple_add PySem.F.entry_tuple_add (PySem.F.args_tuple_add_2 _ _)
      (tuple_addW0 t b #[] ws.toArray n n2 dd dd2 sl sl2 (by simp)) ⟨ho, ho2, h1⟩
def rCatT0 (K : PySem.W.Frag) : R2 := fun x y H Q => ∃ a b ys, x = .ref a ∧ y = .ref b ∧ SqT K H a [] ∧ SqT K H b ys ∧ Q (.ref b) H
theorem op_catT0 : OpR X (binaryOp .Add) (rCatT0 X.K) := by
  intro pins s σ H x y v u Q I rx ry h
  obtain ⟨a, b, ys, rfl, rfl, ha, hb, q⟩ := h
  cases rx
  cases ry
  obtain ⟨its, r1, p1, _⟩ := I.tuple ha
  obtain ⟨its2, r2, p2, _⟩ := I.tuple hb
  cases r1
  exact cat_tup0 p1 p2 ⟨.ref b, H, I, rfl, q⟩
end
end L2
namespace HT
open PySem PyProof.Rows
section
variable {prog : Program} {w : World} {A : Around} {E : Value → Shared → Prop} {s : Shared}
theorem getItem_tuple_whole {t sl : Addr} {items : Array Value} {vl vu : Value} {lo hi : Option Int} {Q : Value → Shared → Prop} (ht : IsTup s.heap t items) (hs : s.heap.IsSliceOf sl vl vu .none) (pl : IsPart vl lo) (pu : IsPart vu hi)
    (hw : sIx items.size 0 lo = 0 ∧ sIx items.size items.size hi = items.size)
    (h : Q (.ref t) s) : wpAny (model prog w) A (getItem (.ref t) (.ref sl)) Q E s := by
  obtain ⟨os, hos, hcs, hds⟩ := id hs
  have hTs : s.TypeIs (.ref sl) "slice" := ⟨os, hos, hcs⟩
  unfold getItem
  try with_reducible refine wpAny_holding ?_
  first | refine wpAny_bind (wpAny_pure ?_) | skip
  refine wpAny_bind (wpAny_sequenceKey ht.typeIs (by decide) ?_)
  refine wpAny_bind (wpAny_callSpecial?_slot (name := Str.ofString "__getitem__") ht.typeIs PyProof.Rows.slot_tuple_getitem
    (wpAny_call_entry PyProof.Rows.slot_tuple_getitem ht.typeIs entry_tuple_getitem ?_ (args_tuple_getitem _ _)))
  show wpAny _ _ (Builtin.Tuple.tupleItemsOf (.ref t) >>= _) _ _ s
  refine wpAny_bind (tupleItemsOf_ ht ?_)
  refine wpAny_bind (wpAny_typeOf hTs ?_)
  rw [if_pos (by decide)]
  refine wpAny_bind (sliceApplied_gen hs pl pu ?_)
  have hno : ((((sIx items.size 0 lo : Nat) : Int) == 0 && (1 : Int) == 1 && (sIx items.size items.size hi - sIx items.size 0 lo) == items.size) = true) := by
    rw [hw.1, hw.2]; simp
  show wpAny _ _ (if (((sIx items.size 0 lo : Nat) : Int) == 0 && (1 : Int) == 1 && (sIx items.size items.size hi - sIx items.size 0 lo) == items.size) = true then _ else _) _ _ s
  rw [if_pos hno]
  unfold Builtin.Tuple.tupleIsExact
  refine wpAny_bind (wpAny_bind (wpAny_typeOf ht.typeIs ?_))
  refine wpAny_pure ?_
  rw [if_pos (by decide)]
  exact wpAny_bind (wpAny_rule (wpAny_pure ⟨_, rfl, wpAny_pure h⟩))
end
end HT
namespace L2
open PySem PySem.Spec PyProof.Rows
section
variable {X : Cx}
/-- t[lo:hi], the whole of it: t itself -/
def rSlTW (K : PySem.W.Frag) : V → Option Int → Option Int → Hp → VK → Prop := fun x lo hi H Q => ∃ a xs, x = .ref a ∧ SqT K H a xs ∧
  (HT.sIx xs.length 0 lo = 0 ∧ HT.sIx xs.length xs.length hi = xs.length) ∧ Q (.ref a) H
theorem sl_tupW : SlR X (rSlTW X.K) := by
  intro pins s σ H x v vl vu lo hi sl Q I rx hs pl pu h
  obtain ⟨a, xs, rfl, hx, hw, q⟩ := h
  cases rx
  obtain ⟨its, r, ht, hz⟩ := I.tuple hx
  have hlen : its.toArray.size = xs.length := by rw [List.size_toArray]; exact r.length.symm
  refine ⟨"tuple", _, PyProof.Rows.slot_tuple_getitem.lookup, ht.typeIs, ?_⟩
  exact HT.getItem_tuple_whole ht hs pl pu (by rw [hlen]; exact hw) ⟨.ref a, H, I, rfl, q⟩
end
end L2
namespace L2
open PySem PySem.Spec PyProof.Rows
section
variable {X : Cx} {pins : List (Addr × Obj)} {σ : St} {H : Hp} {s : Shared} {h' : Heap} {t' : Nat}
/-- several untracked records of ours have turned, and a new object is laid and tracked -/
theorem Inv.turnLay {ch : List Addr} {a : Addr} {o : HO} (I : Inv X pins σ H s) (hf : ∀ b ∈ ch, FpOk X pins H b) (k : ∀ b ob, b ∉ ch → s.heap.get? b = some ob → h'.get? b = some ob) (hp : s.heap.objs.size ≤ a)
    (new : ObjOk X.prog X.w (upd H a o) h' a o) : Inv X pins σ (upd H a o) { s with heap := h', toks := t' } := by
  have hn : H a = none := I.hok.fresh hp
  have nch : ∀ b u, H b = some u → b ∉ ch := fun b u e hb => by rw [(hf b hb).1] at e; cases e
  have na : ∀ b u, H b = some u → b ≠ a := fun b u e => ne_of_none e hn
  refine I.step (g' := s.gens) (d' := s.drawn) (ch := ch) (fun b hb => ?_) (fun b o _ _ hc e _ => k b o hc e) (fun b o _ _ hc e _ => ⟨o.slots, k b o hc e⟩)
    (fun b o _ e n => by rw [upd_ne (Nat.ne_of_lt (Nat.lt_of_lt_of_le (Heap.lt_size e) hp))]; exact n)
    (fun b o hc e => ⟨o, k b o hc e⟩) (fun b xs e => by rw [upd_ne (na b _ e)]; exact e) (fun b o u e => by rw [upd_ne (na b _ e)]; exact e) (fun b ps e => ⟨#[], by rw [upd_ne (na b _ e), e]; simp⟩) (fun m hm => ?_) (fun b u e => ?_) I.bare
  · obtain ⟨f0, f1, f2, f3, f4, f5⟩ := hf b hb
    exact ⟨f3, f1, f4, f5⟩
  · obtain ⟨ob, es, ep, ho, r⟩ := hm
    exact ⟨ob, es, ep, k _ ob (fun z => (hf _ z).2.1 rfl) ho, r⟩
  · by_cases hb : b = a
    · subst hb; rw [upd_same] at e; cases e; exact new
    · rw [upd_ne hb] at e
      refine (I.hok b u e).stay (fun c v hc q => k c v ?_ q) (fun c q => by rw [upd_ne (na c _ q)]; exact q) fun c xs q => by rw [upd_ne (na c _ q)]; exact q
      rcases hc with z | z
      · rw [z]; exact nch b u e
      · exact nch c _ z
/-- several untracked records of ours have turned -/
theorem Inv.turns {ch : List Addr} (I : Inv X pins σ H s) (hf : ∀ b ∈ ch, FpOk X pins H b) (k : ∀ b ob, b ∉ ch → s.heap.get? b = some ob → h'.get? b = some ob) : Inv X pins σ H { s with heap := h', toks := t' } := by
  have nch : ∀ b u, H b = some u → b ∉ ch := fun b u e hb => by rw [(hf b hb).1] at e; cases e
  refine I.step (g' := s.gens) (d' := s.drawn) (ch := ch) (fun b hb => ?_) (fun b o _ _ hc e _ => k b o hc e) (fun b o _ _ hc e _ => ⟨o.slots, k b o hc e⟩)
    (fun b o _ e n => n) (fun b o hc e => ⟨o, k b o hc e⟩) (fun b xs e => e) (fun b o u e => e) (fun b ps e => ⟨#[], by rw [e]; simp⟩) (fun m hm => ?_) (fun b u e => ?_) I.bare
  · obtain ⟨f0, f1, f2, f3, f4, f5⟩ := hf b hb
    exact ⟨f3, f1, f4, f5⟩
  · obtain ⟨ob, es, ep, ho, r⟩ := hm
    exact ⟨ob, es, ep, k _ ob (fun z => (hf _ z).2.1 rfl) ho, r⟩
  · refine (I.hok b u e).stay (fun c v hc q => k c v ?_ q) (fun c q => q) fun c xs q => q
    rcases hc with z | z
    · rw [z]; exact nch b u e
    · exact nch c _ z
end
/-! ### enumerate(list) -/
def Ite (K : PySem.W.Frag) (a : Addr) : It :=
  ⟨fun i H => ∃ xs x, SqL K H a xs ∧ xs[i]? = some x,
   fun i H y H' => ∃ p x, H p = none ∧ y = .ref p ∧ H' = upd H p (.tup [.int i, x]) ∧ ∀ xs, SqL K H a xs → xs[i]? = some x,
   fun i H => ∃ xs, SqL K H a xs ∧ xs.length ≤ i⟩
theorem turn_enum {P : Program} {w : World} {K : PySem.W.Frag} {elts : List Expr} {x1 : Nat} {pos : Pos} (a e it : Addr) (hne : e ≠ it) :
    Turn P w K (.Tuple elts x1 pos) (Ite K a) [e, it] e (fun i h => ∃ old, IsEnum h e it (i : Int) old ∧ h.IsListIter it a i) where
  mem := by simp
  obj := fun i h st b hb => by
    obtain ⟨old, h1, h2⟩ := st
    rcases List.mem_cons.mp hb with rfl | hb
    · exact ⟨_, h1, fun v z => by cases z⟩
    · have e : b = it := by simpa using hb
      subst e
      obtain ⟨o, q, c, d⟩ := h2
      exact ⟨o, q, fun v z => by rw [d] at z; cases z⟩
  keep := fun i h h' st k => by
    obtain ⟨old, h1, h2⟩ := st
    exact ⟨old, k e (by simp) _ h1, h2.at fun o q => k it (by simp) o q⟩
  item := by
    intro X hP hw hK hc i pins s σ H E I hf st hg
    subst hP hw hK
    obtain ⟨xs, x, hq, hx⟩ := hg
    obtain ⟨old, h1, h2⟩ := st
    obtain ⟨its, rv, p, hz⟩ := I.list hq
    obtain ⟨u, hu, ru⟩ := rv.get hx
    refine wpAny_pyNext_enum_item h1 h2 p.isList (x := u) (by simpa using hu) hne fun h₁ heo hit ht hsz hk => ?_
    refine ⟨_, rfl, wpAny_letOwnedTupleGo_enum heo fun h₂ he₂ hs₂ => ?_⟩
    replace hs₂ : Heap.SameBut e h₁ h₂ := hs₂
    have hlt : e < s.heap.objs.size := Heap.lt_size h1
    have itlt : it < s.heap.objs.size := by obtain ⟨o, q, _⟩ := h2; exact Heap.lt_size q
    have ht2 : h₂.get? s.heap.objs.size = some { cls := .type "tuple", data := .seq #[.int i s.toks, u] } := by rw [hs₂.2 _ (Nat.ne_of_gt hlt)]; exact ht
    have kk : ∀ b ob, b ∉ [e, it] → s.heap.get? b = some ob → h₂.get? b = some ob := fun b ob hb q => by
      have b1 : b ≠ e := fun z => hb (by simp [z])
      have b2 : b ≠ it := fun z => hb (by simp [z])
      exact hs₂.extBut b ob b1 (hk b ob b1 b2 q)
    refine ⟨.ref s.heap.objs.size, upd H s.heap.objs.size (.tup [.int i, x]), I.turnLay hf kk (Nat.le_refl _) ?_, rfl, ⟨_, x, I.hok.fresh (Nat.le_refl _), rfl, rfl, fun ys hy => by rw [I.list_inj hy hq]; exact hx⟩, ?_, fun b hb => ?_⟩
    · refine ⟨by show 2 ≤ sizeLine; decide, [.int i s.toks, u], .cons ⟨_, rfl⟩ (.cons ru .nil), ?_⟩
      exact ⟨_, ht2, rfl, _, rfl⟩
    · refine ⟨u, ?_, hit.extBut hs₂.extBut (Ne.symm hne)⟩
      have : ((i : Nat) : Int) + 1 = ((i + 1 : Nat) : Int) := by omega
      rw [← this]; exact he₂
    · rw [upd_ne]
      · exact (hf b hb).1
      · intro z; subst z
        rcases List.mem_cons.mp hb with z | z
        · exact Nat.ne_of_gt hlt z
        · exact Nat.ne_of_gt itlt (by simpa using z)
  done := by
    intro X hP hw hK hc i pins s σ H E I hf st hg
    subst hP hw hK
    obtain ⟨xs, hq, hx⟩ := hg
    obtain ⟨old, h1, h2⟩ := st
    obtain ⟨its, rv, p, hz⟩ := I.list hq
    have hl := rv.length
    exact wpAny_pyNext_enum_end (I.ok.hd hc) h1 h2 p.isList (by simp; omega) fun h' eb => ⟨rfl, I.turns (t' := s.toks) (ch := [e, it]) hf fun b o hb q => eb b o (fun z => hb (by simp [z])) q⟩
  self := fun _ _ _ _ _ st h => by
    obtain ⟨old, h1, h2⟩ := st
    exact wpAny_pyIter_enum h1 h
def iEnum (K : PySem.W.Frag) (ta : TA) : TI := fun σ H R => ta σ H fun vs H1 => ∃ a, vs = [.ref a] ∧ (∃ xs, SqL K H1 a xs) ∧ R (Ite K a) H1
theorem boot_enum : bootBuiltins "enumerate" = some (.type "enumerate") := by decide +kernel
theorem pi_enum {X : Cx} {elts : List Expr} {x1 : Nat} {tpos : Pos} {a : Expr} {ta : TA} {p pos : Pos} (hg : Gl X "enumerate") (hm : X.mg "enumerate" = none) (ha : PA X [a] ta) (hs : starEach [a] X.env = [(false, eval a X.env)] := by rfl) :
    PI X (.Tuple elts x1 tpos) (.Call (.Name "enumerate" p) [a] [] pos) (iEnum X.K ta) := by
  intro pins s σ H R I h
  refine Call_ (ld_blt I hg hm boot_enum (PyProof.Rows.callWith_type1 (thn (ha pos pins s σ H _ I h) fun us s1 ⟨vs, H1, I1, r1, q1⟩ => ?_) hs rfl))
  obtain ⟨l, e, ⟨xs, hq⟩, q⟩ := q1
  subst e
  cases r1 with
  | cons r rr =>
    cases rr
    cases r
    obtain ⟨its, rv, pl, hz⟩ := I1.list hq
    refine call_enumerate_list pl.isList fun h' he hit hsz hk => ?_
    refine wpAny_pyIter_enum he ?_
    have I2 : Inv X pins σ H1 { s1 with heap := h' } := I1.kept (t' := s1.toks) hk
    refine ⟨s1.heap.objs.size + 1, [s1.heap.objs.size + 1, s1.heap.objs.size], _, _, H1, rfl, I2, turn_enum l _ _ (Nat.ne_of_gt (Nat.lt_succ_self _)), ⟨.none, he, hit⟩, fun b hb => ?_, q⟩
    have hb' : s1.heap.objs.size ≤ b := by
      rcases List.mem_cons.mp hb with z | z
      · rw [z]; exact Nat.le_succ _
      · have : b = s1.heap.objs.size := by simpa using z
        rw [this]; exact Nat.le_refl _
    exact I1.fpOk hb' (I1.hok.fresh hb')
/-! ### reversed(list) -/
/-! ### zip(list, list) -/
end L2
namespace L2
open PySem PySem.Spec PyProof.Rows
/-! ### [e for t in it if c] -/
/-- the cells that a block takes along -/
theorem closureFor_ex {scope : Scope} {env : Env} (h : ∀ x ∈ scope.names, x.2 = .free → ∃ c, env.cells.lookup x.1 = some c) :
    ∃ cl, closureFor scope env = pure cl ∧ (∀ x c, cl.lookup x = some c → env.cells.lookup x = some c) ∧ ∀ x, (x, NameKind.free) ∈ scope.names → ∃ c, cl.lookup x = some c := by
  have key : ∀ (names : List (Str × NameKind)) (acc : List (Str × Addr)), (∀ x ∈ names, x.2 = .free → ∃ c, env.cells.lookup x.1 = some c) → (∀ x c, acc.lookup x = some c → env.cells.lookup x = some c) →
      ∃ cl, (forIn names acc fun (x : Str × NameKind) (cs : List (Str × Addr)) => (if x.2 == .free then do let a ← cellOf env x.1; pure (ForInStep.yield ((x.1, a) :: cs)) else pure (ForInStep.yield cs) : Sem _)) = pure cl ∧ (∀ x c, cl.lookup x = some c → env.cells.lookup x = some c) ∧
        (∀ x, (x, NameKind.free) ∈ names → ∃ c, cl.lookup x = some c) ∧ ∀ x c, acc.lookup x = some c → ∃ c', cl.lookup x = some c' := by
    intro names
    induction names with
    | nil => intro acc _ ha; exact ⟨acc, rfl, ha, ⟨(fun x hx => nomatch hx), fun x c q => ⟨c, q⟩⟩⟩
    | cons y r ih =>
      intro acc hn ha
      obtain ⟨n, k⟩ := y
      have hr : ∀ x ∈ r, x.2 = .free → ∃ c, env.cells.lookup x.1 = some c := fun x hx => hn x (List.mem_cons_of_mem _ hx)
      by_cases hk : k = .free
      · subst hk
        obtain ⟨c, hc⟩ := hn (n, .free) (by simp) rfl
        have ha' : ∀ x c', ((n, c) :: acc).lookup x = some c' → env.cells.lookup x = some c' := fun x c' q => by
          rw [List.lookup_cons] at q
          cases e : x == n with
          | true => rw [e] at q; cases q; rw [eq_of_beq e]; exact hc
          | false => rw [e] at q; exact ha x c' q
        obtain ⟨cl, h1, h2, h3, h4⟩ := ih ((n, c) :: acc) hr ha'
        refine ⟨cl, ?_, h2, fun x hx => ?_, fun x c' q => ?_⟩
        · rw [List.forIn_cons]
          simp only [beq_self_eq_true, if_true, cellOf, hc]
          exact h1
        · rcases List.mem_cons.mp hx with e | hx
          · cases e
            exact h4 n c (by simp)
          · exact h3 x hx
        · cases e : x == n with
          | true => exact h4 x c (by rw [List.lookup_cons, e])
          | false => exact h4 x c' (by rw [List.lookup_cons, e]; exact q)
      · have hb : (k == NameKind.free) = false := by simpa using hk
        obtain ⟨cl, h1, h2, h3, h4⟩ := ih acc hr ha
        refine ⟨cl, ?_, h2, fun x hx => ?_, h4⟩
        · rw [List.forIn_cons]
          simp only [hb, Bool.false_eq_true, if_false]
          exact h1
        · rcases List.mem_cons.mp hx with e | hx
          · cases e; exact absurd rfl hk
          · exact h3 x hx
  obtain ⟨cl, h1, h2, h3, _⟩ := key scope.names [] h (fun x c q => by simp at q)
  refine ⟨cl, ?_, h2, h3⟩
  unfold closureFor
  show (forIn scope.names [] (fun (x : Str × NameKind) (cs : List (Str × Addr)) => (if x.2 == .free then do let a ← cellOf env x.1; pure (ForInStep.yield ((x.1, a) :: cs)) else pure (ForInStep.yield cs) : Sem _)) >>= fun cs => pure cs) = pure cl
  rw [h1]
  rfl
theorem lookup_map_kind {f : Str × NameKind → Str × NameKind} (h1 : ∀ p, (f p).1 = p.1) : ∀ {names : List (Str × NameKind)} {x : Str}, (names.map f).lookup x = (names.lookup x).map fun k => (f (x, k)).2
  | [], _ => rfl
  | (n, j) :: r, x => by
    rw [List.map_cons]
    have e : f (n, j) = (n, (f (n, j)).2) := by
      have := h1 (n, j)
      exact Prod.ext this rfl
    rw [e, List.lookup_cons, List.lookup_cons]
    cases hx : x == n with
    | true => rw [eq_of_beq hx]; rfl
    | false => exact lookup_map_kind h1
def rlab (env : Env) (p : Str × NameKind) : Str × NameKind := if (p.2 == .free && env.scope.kind == .function && env.kindOf p.1 == some .cell) = true then (p.1, .cell) else (p.1, p.2)
theorem rlab_fst (env : Env) (p : Str × NameKind) : (rlab env p).1 = p.1 := by unfold rlab; split <;> rfl
theorem rlab_snd (env : Env) (p : Str × NameKind) : (rlab env p).2 = p.2 ∨ (p.2 = .free ∧ (rlab env p).2 = .cell) := by
  unfold rlab
  split
  · rename_i h
    rw [Bool.and_eq_true, Bool.and_eq_true] at h
    exact .inr ⟨eq_of_beq h.1.1, rfl⟩
  · exact .inl rfl
theorem relabel_names (scope : Scope) (env : Env) : (relabel scope env).names = scope.names.map (rlab env) := rfl
theorem lookup_relabel {scope : Scope} {env : Env} {x : Str} {k : NameKind} (h : (relabel scope env).names.lookup x = some k) : scope.names.lookup x = some k ∨ (scope.names.lookup x = some .free ∧ k = .cell) := by
  rw [relabel_names, lookup_map_kind (rlab_fst env)] at h
  cases e : scope.names.lookup x with
  | none => rw [e] at h; cases h
  | some j =>
    rw [e] at h
    have h' : (rlab env (x, j)).2 = k := Option.some.inj h
    rcases rlab_snd env (x, j) with q | ⟨q1, q2⟩
    · rw [q] at h'; exact .inl (by rw [← h'])
    · rw [q2] at h'; exact .inr ⟨by rw [show j = NameKind.free from q1], h'.symm⟩
theorem lookup_relabel_free {scope : Scope} {env : Env} {x : Str} (h : scope.names.lookup x = some .free) : (relabel scope env).names.lookup x = some .cell ∨ (relabel scope env).names.lookup x = some .free := by
  rw [relabel_names, lookup_map_kind (rlab_fst env), h]
  rcases rlab_snd env (x, .free) with q | ⟨_, q⟩
  · exact .inr (by rw [Option.map_some, q])
  · exact .inl (by rw [Option.map_some, q])
theorem mem_of_lookup {α β : Type} [BEq α] [LawfulBEq α] {x : α} {k : β} : ∀ {l : List (α × β)}, l.lookup x = some k → (x, k) ∈ l
  | [], h => by simp at h
  | (n, j) :: r, h => by
    rw [List.lookup_cons] at h
    cases e : x == n with
    | true => rw [e] at h; cases h; rw [eq_of_beq e]; simp
    | false => rw [e] at h; exact List.mem_cons_of_mem _ (mem_of_lookup h)
/-- the block's context: its own names N (its targets, and what it takes from around), the iterator's records fp -/
def compCx (X : Cx) (N : List Str) (scope : Scope) (cl : List (Str × Addr)) (C : Addr) (fp : List Addr) (s : Shared) (H : Hp) : Cx :=
  { X with N := N, s₀ := s, H₀ := H, env := compEnvC scope cl C X.env, outer := X.stack, stack := X.stack, ex := fp, fn := fun _ => false, pn := [], xe := fun _ _ => False }
/-- what of the text a block must have -/
structure CompScope (scope : Scope) : Prop where
  kind : scope.kind = .function
  cell : ∀ y ∈ scope.names, y.2 ≠ .cell
  names : ∀ y ∈ scope.names, y.2 = .local → scope.names.lookup y.1 = some .local
/-- which of the names stand around it, and where -/
def Capt (X : Cx) (scope : Scope) : List (Option Nat) → List Str → Prop
  | [], [] => True
  | none :: r, _ :: xs => Capt X scope r xs
  | some j :: r, x :: xs => (X.N[j]? = some x ∧ (X.env.kindOf x = some .cell ∨ X.env.kindOf x = some .free) ∧ scope.names.lookup x = some .free) ∧ Capt X scope r xs
  | _, _ => False
def captSt (capt : List (Option Nat)) (σ : St) : St := capt.map fun o => o.bind fun j => (σ[j]?).join
theorem Capt.len {X : Cx} {scope : Scope} : ∀ {capt : List (Option Nat)} {N : List Str}, Capt X scope capt N → capt.length = N.length
  | [], [], _ => rfl
  | none :: r, _ :: xs, h => by simp [Capt.len (show Capt X scope r xs from h)]
  | some j :: r, x :: xs, h => by simp [Capt.len h.2]
  | [], _ :: _, h => h.elim
  | none :: _, [], h => h.elim
  | some _ :: _, [], h => h.elim
theorem Capt.at_ {X : Cx} {scope : Scope} : ∀ {capt : List (Option Nat)} {N : List Str} {i j : Nat} {x : Str}, Capt X scope capt N → capt[i]? = some (some j) → N[i]? = some x →
    X.N[j]? = some x ∧ (X.env.kindOf x = some .cell ∨ X.env.kindOf x = some .free) ∧ scope.names.lookup x = some .free
  | [], [], _, _, _, _, e, _ => by simp at e
  | none :: r, y :: xs, 0, _, _, _, e, _ => by simp at e
  | none :: r, y :: xs, i + 1, _, _, h, e, e2 => Capt.at_ (i := i) (show Capt X scope r xs from h) (by simpa using e) (by simpa using e2)
  | some k :: r, y :: xs, 0, _, _, h, e, e2 => by
    simp at e e2; subst e e2; exact h.1
  | some k :: r, y :: xs, i + 1, _, _, h, e, e2 => Capt.at_ (i := i) h.2 (by simpa using e) (by simpa using e2)
  | [], _ :: _, _, _, _, h, _, _ => h.elim
  | none :: _, [], _, _, _, h, _, _ => h.elim
  | some _ :: _, [], _, _, _, h, _, _ => h.elim
section
variable {X : Cx} {pins : List (Addr × Obj)} {σ : St} {H : Hp} {s : Shared} {N : List Str} {scope : Scope} {cl : List (Str × Addr)} {C : Addr} {fp : List Addr} {capt : List (Option Nat)}
theorem comp_ok (I : Inv X pins σ H s) (S : CompScope scope) (hcl : ∀ x c, cl.lookup x = some c → X.env.cells.lookup x = some c) (hall : ∀ x, (x, NameKind.free) ∈ scope.names → ∃ c, cl.lookup x = some c)
    (hC : s.heap.objs.size ≤ C) (hf : ∀ b ∈ fp, FpOk X pins H b) (hb : ∀ b ∈ fp, b < s.heap.objs.size) : (compCx X N scope cl C fp s H).Ok where
  mod := I.ok.mod
  kind := S.kind
  glob := I.ok.glob
  blt := I.ok.blt
  above := hC
  inj := fun x y c h1 h2 => I.ok.inj x y c (hcl x c h1) (hcl y c h2)
  has := fun x hx => by
    have q : scope.names.lookup x = some .free := by
      rcases hx with hx | hx
      · rcases lookup_relabel hx with e | ⟨e, _⟩
        · exact absurd rfl (S.cell _ (mem_of_lookup e))
        · exact e
      · rcases lookup_relabel hx with e | ⟨e, _⟩
        · exact e
        · exact e
    exact hall x (mem_of_lookup q)
  cab := fun x c h => by cases h
  hd := I.ok.hd
  frames := I.ok.frames
  stk := .inl rfl
  exf := fun b hb' => ⟨Nat.ne_of_lt (Nat.lt_of_lt_of_le (hb b hb') hC), fun x c h => (hf b hb').2.2.2.2.1 x c (hcl x c h)⟩
  bs := I.bs
  bsz := Nat.le_trans I.ok.bsz I.sz
  noex := fun b o e hb' => by
    rcases (hf b hb').2.2.2.1 with z | z
    · exact I.ok.noex b o e z
    · exact absurd (Heap.lt_size e) (Nat.not_lt.mpr (Nat.le_trans I.ok.bsz z))
  exfs := fun b hb' z => by
    rcases List.mem_cons.mp (I.stkSub b z) with e | e
    · exact (hf b hb').2.1 e
    · exact (hf b hb').2.2.1 e
  funs := I.stack
  frf := I.stkFree
theorem comp_inv {h' : Heap} {t' : Nat} {m : Str → Option Value} (I : Inv X pins σ H s) (S : CompScope scope) (hcl : ∀ x c, cl.lookup x = some c → X.env.cells.lookup x = some c) (hall : ∀ x, (x, NameKind.free) ∈ scope.names → ∃ c, cl.lookup x = some c)
    (hC : s.heap.objs.size ≤ C) (hf : ∀ b ∈ fp, FpOk X pins H b) (hb : ∀ b ∈ fp, b < s.heap.objs.size) (hcap : Capt X scope capt N) (hn : h'.Ns C m) (hk : ∀ b o, s.heap.get? b = some o → h'.get? b = some o) :
    Inv (compCx X N scope cl C fp s H) [] (captSt capt σ) H { s with heap := h', toks := t' } where
  ok := comp_ok I S hcl hall hC hf hb
  os := rfl
  bare := I.bare
  base := Un.kept hk
  loc := by
    refine ⟨m, hn, fun i x v hN hv hvis => ?_⟩
    have hN' : N[i]? = some x := hN
    unfold captSt at hv
    rw [List.getElem?_map] at hv
    cases e : capt[i]? with
    | none => rw [e] at hv; cases hv
    | some o =>
      rw [e] at hv
      cases o with
      | none => cases hv
      | some j =>
        have hv' : (σ[j]?).join = some v := by simpa using hv
        have hv2 : σ[j]? = some (some v) := by
          cases q : σ[j]? with
          | none => rw [q] at hv'; cases hv'
          | some z => rw [q] at hv'; cases hv'; rfl
        obtain ⟨h1, h2, h3⟩ := hcap.at_ e hN'
        obtain ⟨m0, hm0, hl⟩ := I.loc
        have hvx : Vis X.env.scope x := by
          rcases h2 with h2 | h2
          · exact .inr (.inl h2)
          · exact .inr (.inr h2)
        obtain ⟨u, r, lk⟩ := hl j x v h1 hv2 hvx
        refine ⟨u, r, ?_⟩
        rcases lk with ⟨k1, _⟩ | ⟨_, c, k2, k3⟩
        · rcases h2 with h2 | h2 <;> (rw [h2] at k1; cases k1)
        · obtain ⟨c', hc'⟩ := hall x (mem_of_lookup h3)
          have := hcl x c' hc'
          rw [k2] at this; cases this
          refine .inr ⟨lookup_relabel_free h3, c, hc', ?_⟩
          obtain ⟨o, e1, e2⟩ := k3
          exact ⟨o, hk c o e1, e2⟩
  cell := fun x c h => by
    obtain ⟨v, o, e1, e2⟩ := I.cell x c (hcl x c h)
    exact ⟨v, o, hk c o e1, e2⟩
  free := I.hok.fresh hC
  freeC := fun x c h => I.freeC x c (hcl x c h)
  pin := fun p hp => by simp [compCx] at hp
  hok := I.hok.kept hk
  len := by show (captSt capt σ).length = N.length; unfold captSt; rw [List.length_map]; exact hcap.len
end
end L2
namespace L2
open PySem PySem.Spec PyProof.Rows
abbrev testsOf (ifs : List Expr) (env : Env) : Sem Bool := forIn ifs true fun c r => if r = true then do let ok ← isTrue c env (eval c env); pure (ForInStep.yield ok) else pure (ForInStep.yield r)
theorem compLoop_gen {prog : Program} {w : World} {A : Around} {R : Result → Shared → Prop} {s : Shared} {elt target iter : Expr} {ifs : List Expr} {scope : Scope} {pos : Pos} {it acc : Value} {env : Env} (I : Nat → Shared → Prop)
    (turn : ∀ n s, I n s → wpAny (model prog w) A (pyNext it) (fun r s₁ => match r with
      | none => R (.ok .next) s₁
      | some v => wpAny (model prog w) A (letOwnedTupleGo target it v) (fun _ s₁' => wpAny (model prog w) A (assign target env v) (fun _ s₂ =>
          wpAny (model prog w) A (testsOf ifs env) (fun ok s₃ =>
            if ok = true then wpAny (model prog w) A (eval elt env) (fun x s₄ =>
              wpAny (model prog w) A (call (.builtin "list.append") [acc, x]) (fun _ s₅ => ∃ m, m < n ∧ I m s₅) (fun _ _ => False) s₄) (fun _ _ => False) s₃
            else ∃ m, m < n ∧ I m s₃) (fun _ _ => False) s₂) (fun _ _ => False) s₁') (fun _ _ => False) s₁) (fun _ _ => False) s)
    (n : Nat) (h : I n s) :
    codeAny (model prog w) A (.compLoop (.ListComp elt [⟨target, iter, ifs, 0⟩] scope pos) 0 it acc env) R s := by
  refine codeAny_loop rfl I (fun n s hI => ?_) n h
  show wpAny _ A ((compTurn (.ListComp elt [⟨target, iter, ifs, 0⟩] scope pos) 0 it acc env).onRaise (fun x => do noteFrame x env; theTreesLotGoes x)) _ _ s
  refine wpAny_noted ?_
  rw [compTurn_list]
  refine wpAny_bind (wpAny_standAt (wpAny_bind (wpAny_mono (turn n s hI) (fun r s₁ h₁ => ?_) fun _ _ h' => h'.elim)))
  cases r with
  | none => exact wpAny_pure h₁
  | some v =>
    refine wpAny_bind (wpAny_mono h₁ (fun _ s₁' h₁' => ?_) fun _ _ h' => h'.elim)
    refine wpAny_bind (wpAny_mono h₁' (fun _ s₂ h₂ => wpAny_bind (wpAny_mono h₂ (fun ok s₃ h₃ => ?_) fun _ _ h' => h'.elim)) fun _ _ h' => h'.elim)
    cases ok with
    | false => exact wpAny_pure ⟨rfl, h₃⟩
    | true =>
      exact wpAny_bind (wpAny_bind (wpAny_mono h₃ (fun x s₄ h₄ => wpAny_bind (wpAny_mono h₄ (fun _ s₅ h₅ => wpAny_pure (wpAny_pure ⟨rfl, h₅⟩)) fun _ _ h' => h'.elim)) fun _ _ h' => h'.elim))
/-- the tests of a block -/
def PTs (X : Cx) (ifs : List Expr) (t : TT) : Prop :=
  ∀ (pins : List (Addr × Obj)) (s : Shared) (σ : St) (H : Hp) (Q : Bool → Hp → Prop), Inv X pins σ H s → t σ H Q → wpAny (model X.prog X.w) X.A (testsOf ifs X.env) (TP X pins σ Q) X.xe s
theorem pts_nil {X : Cx} : PTs X [] (fun σ H Q => Q true H) := fun pins s σ H Q I h => wpAny_tests_nil ⟨H, I, h⟩
/-- the reading of a block -/
def tComp (capt : List (Option Nat)) (wi : TI) (g : TG) (tt : TT) (te : TE) : TE := fun σ H Q => wi σ H fun J H1 => ∀ D, H1 D = none → ∃ W : Nat → Nat → St → Hp → Prop, (∃ m, W 0 m (captSt capt σ) (upd H1 D (.lst []))) ∧
  ∀ i m σ' H', W i m σ' H' → (J.stop i H' ∧ Q (.ref D) H') ∨ (J.go i H' ∧ ∃ N : St → Hp → Prop, (∀ σ2 H2, N σ2 H2 → ∃ m', m' < m ∧ W (i + 1) m' σ2 H2) ∧
    ∀ x H2, J.yld i H' x H2 → g x σ' H2 fun σ3 H3 => tt σ3 H3 fun ok H4 => if ok = true then te σ3 H4 fun y H5 => ∃ xs, H5 D = some (.lst xs) ∧ xs.length < sizeLine ∧ N σ3 (upd H5 D (.lst (xs ++ [y]))) else N σ3 H4)
section
variable {X : Cx} {elt tg iter : Expr} {ifs : List Expr} {scope : Scope} {pos : Pos} {N : List Str} {capt : List (Option Nat)} {wi : TI} {g : TG} {tt : TT} {te : TE}
/-- the block, from the iterator on; E: what is wanted of its end, by the list's address, the block's own namespace, and the state -/
theorem comp_block {pins : List (Addr × Obj)} {σ : St} {H : Hp} {s : Shared} {it : Addr} {fp : List Addr} {tn : Nat → Heap → Prop} {J : It} {cl : List (Str × Addr)} {Q : VK} {E : Value → Shared → Prop} {RR : Value → Addr → Result → Shared → Prop}
    (I : Inv X pins σ H s) (T : Turn X.prog X.w X.K tg J fp it tn) (st : tn 0 s.heap) (hf : ∀ b ∈ fp, FpOk X pins H b)
    (S : CompScope scope) (hcl : ∀ x c, cl.lookup x = some c → X.env.cells.lookup x = some c) (hall : ∀ x, (x, NameKind.free) ∈ scope.names → ∃ c, cl.lookup x = some c) (hcap : Capt X scope capt N) (hc : X.calm = true)
    (hg : ∀ cl C fp s H, PG (compCx X N scope cl C fp s H) tg g) (ht : ∀ cl C fp s H, PTs (compCx X N scope cl C fp s H) ifs tt) (he : ∀ cl C fp s H, PE (compCx X N scope cl C fp s H) elt te)
    (h : ∀ D, H D = none → ∃ W : Nat → Nat → St → Hp → Prop, (∃ m, W 0 m (captSt capt σ) (upd H D (.lst []))) ∧
      ∀ i m σ' H', W i m σ' H' → (J.stop i H' ∧ Q (.ref D) H') ∨ (J.go i H' ∧ ∃ N : St → Hp → Prop, (∀ σ2 H2, N σ2 H2 → ∃ m', m' < m ∧ W (i + 1) m' σ2 H2) ∧
        ∀ x H2, J.yld i H' x H2 → g x σ' H2 fun σ3 H3 => tt σ3 H3 fun ok H4 => if ok = true then te σ3 H4 fun y H5 => ∃ xs, H5 D = some (.lst xs) ∧ xs.length < sizeLine ∧ N σ3 (upd H5 D (.lst (xs ++ [y]))) else N σ3 H4))
    (hRR : ∀ (D C : Addr) (H' : Hp) (s' : Shared) (m : Str → Option Value), s'.heap.Ns C m → Inv X pins σ H' s' → FpOk X pins H' C → Q (.ref D) H' → RR (.ref D) C (.ok .next) s') :
    wpAny (model X.prog X.w) X.A (newList []) (fun acc s₃ => wpAny (model X.prog X.w) X.A (newFunctionEnv scope X.env.globals cl [] X.env.qual none .none (some X.env)) (fun cenv s₄ =>
      codeAny (model X.prog X.w) X.A (.compStart (.ListComp elt [⟨tg, iter, ifs, 0⟩] scope pos) 0 (.ref it) acc { cenv with scope := relabel scope X.env }) (RR acc cenv.locals) s₄) E s₃) E s := by
  have hD : H s.heap.objs.size = none := I.hok.fresh (Nat.le_refl _)
  have I3 : Inv X pins σ (upd H s.heap.objs.size (.lst [])) { s with heap := s.heap.push { cls := .type "list", dict := none, data := .seq ([] : List Value).toArray } } :=
    I.laid (t' := s.toks) (fun b o q => Heap.get?_push_of_some _ q) (Nat.le_refl _) ⟨by show 0 ≤ sizeLine; decide, [], 0, .nil, Heap.get?_push_size _ rfl⟩
  obtain ⟨W, ⟨m0, w0⟩, turn⟩ := h _ hD
  refine wpAny_newObj_type (wpAny_newFunctionEnv S.cell (by intro y hy; simp at hy) (fun h₁ hns₁ hsb₁ => ?_) S.kind)
  dsimp only at hns₁ hsb₁ ⊢
  generalize hH2 : s.heap.push { cls := .type "list", dict := none, data := .seq ([] : List Value).toArray } = Hh at hns₁ hsb₁ I3 ⊢
  have fplt0 : ∀ b ∈ fp, b < s.heap.objs.size := fun b hb => by
    obtain ⟨o, e, _⟩ := T.obj 0 s.heap st b hb
    exact Heap.lt_size e
  have szH : Hh.objs.size = s.heap.objs.size + 1 := by rw [← hH2, Heap.size_push]
  have fplt : ∀ b ∈ fp, b < Hh.objs.size := fun b hb => by rw [szH]; exact Nat.lt_succ_of_lt (fplt0 b hb)
  have hf3 : ∀ b ∈ fp, FpOk X pins (upd H s.heap.objs.size (.lst [])) b := fun b hb => by
    obtain ⟨f0, fr⟩ := hf b hb
    exact ⟨by rw [upd_ne (Nat.ne_of_lt (fplt0 b hb))]; exact f0, fr⟩
  have hk1 : ∀ b o, Hh.get? b = some o → h₁.get? b = some o := fun b o e => hsb₁.extBut b o (Nat.ne_of_lt (Heap.lt_size e)) (Heap.get?_push_of_some _ e)
  have st1 : tn 0 h₁ := T.keep 0 _ _ st fun b hb o e => hk1 b o (by rw [← hH2]; exact Heap.get?_push_of_some _ e)
  generalize hX : compCx X N scope cl Hh.objs.size fp { s with heap := Hh } (upd H s.heap.objs.size (.lst [])) = X'
  have I4 : Inv X' [] (captSt capt σ) (upd H s.heap.objs.size (.lst [])) { s with heap := h₁, toks := s.toks + ([] : List (Str × Value)).length } := by
    rw [← hX]
    exact comp_inv (capt := capt) I3 S hcl hall (Nat.le_refl _) hf3 fplt hcap hns₁ hk1
  have eP : X'.prog = X.prog := by rw [← hX]; rfl
  have ew : X'.w = X.w := by rw [← hX]; rfl
  have eK : X'.K = X.K := by rw [← hX]; rfl
  have eA : X'.A = X.A := by rw [← hX]; rfl
  have eC : X'.calm = true := by rw [← hX]; exact hc
  have eE : X'.env = compEnvC scope cl Hh.objs.size X.env := by rw [← hX]; rfl
  have eX : X'.xe = fun _ _ => False := by rw [← hX]; rfl
  have ePn : X'.pn = [] := by rw [← hX]; rfl
  have hg' : PG X' tg g := by rw [← hX]; exact hg _ _ _ _ _
  have ht' : PTs X' ifs tt := by rw [← hX]; exact ht _ _ _ _ _
  have he' : PE X' elt te := by rw [← hX]; exact he _ _ _ _ _
  have stat : ∀ {H' : Hp}, (∀ b ∈ fp, H' b = none) → ∀ b ∈ fp, FpOk X' [] H' b := fun {H'} hn b hb => by
    rw [← hX]
    refine ⟨hn b hb, Nat.ne_of_lt (fplt b hb), fun z => ?_, .inl hb, fun x c q => (hf b hb).2.2.2.2.1 x c (hcl x c q), fun p hp => by simp [compCx] at hp⟩
    rcases List.mem_cons.mp (I3.stkSub b z) with e | e
    · exact (hf b hb).2.1 e
    · exact (hf b hb).2.2.1 e
  have back : ∀ {σ' : St} {H' : Hp} {s' : Shared}, Inv X' [] σ' H' s' → ∀ h'', Heap.SameBut Hh.objs.size s'.heap h'' → Inv X pins σ H' { s' with heap := h'' } := fun {σ' H' s'} I' h'' sb => by
    have u := I'.base
    rw [← hX] at u
    have neC : ∀ b o, Hh.get? b = some o → b ≠ Hh.objs.size := fun b o e => Nat.ne_of_lt (Heap.lt_size e)
    have nC : H' Hh.objs.size = none := by have := I'.free; rw [eE] at this; exact this
    refine I3.call' (s' := { s' with heap := h'' }) (ch := fp) (by have := I'.os; rw [← hX] at this; exact this) ?_ ?_ I'.bare (fun b hb => ⟨(hf3 b hb).2.2.2.1, (hf3 b hb).2.1, (hf3 b hb).2.2.2.2.1, (hf3 b hb).2.2.2.2.2⟩)
    · exact ⟨fun b o e n hb hx => sb.extBut b _ (neC b o e) (u.keep b o e n hb hx), fun b o e n hb hx => let ⟨sl, q⟩ := u.slot b o e n hb hx; ⟨sl, sb.extBut b _ (neC b o e) q⟩, u.free,
        fun b o e hx => let ⟨o', q⟩ := u.there b o e hx; ⟨o', sb.extBut b _ (neC b o e) q⟩, u.tups, u.frzs, u.tbls⟩
    · have hk := I'.hok
      rw [eP, ew] at hk
      intro b ob e
      have nb : ∀ c v, H' c = some v → c ≠ Hh.objs.size := fun c v q => ne_of_none q nC
      refine (hk b ob e).stay (fun c v hc q => sb.extBut c v ?_ q) (fun _ q => q) fun _ _ q => q
      rcases hc with z | z
      · rw [z]; exact nb b _ e
      · exact nb c _ z
  have loop : ∀ s₃ : Shared, s₃ = { s with heap := h₁, toks := s.toks + ([] : List (Str × Value)).length } →
      codeAny (model X.prog X.w) X.A (.compLoop (.ListComp elt [⟨tg, iter, ifs, 0⟩] scope pos) 0 (.ref it) (.ref s.heap.objs.size) (compEnvC scope cl Hh.objs.size X.env)) (RR (.ref s.heap.objs.size) Hh.objs.size) s₃ := by
    rintro s₃ rfl
    refine compLoop_gen (fun n s' => ∃ i σ' H', Inv X' [] σ' H' s' ∧ tn i s'.heap ∧ (∀ b ∈ fp, H' b = none) ∧ W i n σ' H') ?_ m0 ⟨0, _, _, I4, st1, fun b hb => (hf3 b hb).1, w0⟩
    rintro n s3 ⟨i, σ3, H3, I5, st3, fr3, w3⟩
    rw [← eP, ← ew, ← eA, ← eE]
    rcases turn i n σ3 H3 w3 with ⟨stop, qn⟩ | ⟨go, Nn, hN, step⟩
    · have d := T.done X' eP ew eK eC i [] s3 σ3 H3 (fun _ _ => False) I5 (stat fr3) st3 stop
      rw [← eP, ← ew] at d
      refine thn d fun r s4 ⟨hr, I6⟩ => ?_
      subst hr
      obtain ⟨mm, hns, _⟩ := I6.loc
      rw [eE] at hns
      have nC : H3 Hh.objs.size = none := by have := I6.free; rw [eE] at this; exact this
      exact hRR _ _ H3 s4 mm hns (back I6 s4.heap (.refl ..)) (I3.fpOk (Nat.le_refl _) nC) qn
    · have d := T.item X' eP ew eK eC i [] s3 σ3 H3 (fun _ _ => False) I5 (stat fr3) st3 go
      rw [← eP, ← ew] at d
      refine thn d fun r s4 ⟨u, hr, h4⟩ => ?_
      subst hr
      refine thn h4 fun _ s5 ⟨x, H5, I6, r5, y5, st5, fr5⟩ => ?_
      have I6' := I6.pinned (stat fr5) (T.obj _ _ st5)
      have dg := hg' _ s5 σ3 H5 x u _ I6' r5 (step x H5 y5)
      rw [eX] at dg
      refine thn dg fun _ s6 ⟨σ6, H6, I7, q6⟩ => ?_
      have dt := ht' _ s6 σ6 H6 _ I7 q6
      rw [eX] at dt
      refine thn dt fun ok s7 ⟨H7, I8, q7⟩ => ?_
      have again : ∀ {σ9 : St} {H9 : Hp} {s9 : Shared}, Inv X' ([] ++ pinsAt fp s5.heap) σ9 H9 s9 → Nn σ9 H9 → ∃ m, m < n ∧ ∃ i σ' H', Inv X' [] σ' H' s9 ∧ tn i s9.heap ∧ (∀ b ∈ fp, H' b = none) ∧ W i m σ' H' := fun {σ9 H9 s9} I9 n9 => by
        obtain ⟨m', hm, w9⟩ := hN σ9 H9 n9
        refine ⟨m', hm, i + 1, σ9, H9, I9.unpinned, T.keep _ _ _ st5 fun b hb o e => (I9.pin (b, o) (List.mem_append_right _ (List.mem_append_right _ (mem_pinsAt hb e)))).1, fun b hb => ?_, w9⟩
        obtain ⟨o, e, d⟩ := T.obj _ _ st5 b hb
        exact (I9.pin (b, o) (List.mem_append_right _ (List.mem_append_right _ (mem_pinsAt hb e)))).2.1
      cases ok with
      | false => exact again I8 q7
      | true =>
        have de := he' _ s7 σ6 H7 _ I8 q7
        rw [eX] at de
        refine thn de fun y s8 ⟨v, H8, I9, r8, q8⟩ => ?_
        obtain ⟨xs, hx, hz, nn⟩ := q8
        have da := mt_append (X := X') _ s8 σ6 H8 (.ref s.heap.objs.size) [v] (.ref s.heap.objs.size) [y] (fun _ H9 => Nn σ6 H9) I9 rfl (.cons r8 .nil) ⟨_, xs, v, rfl, rfl, hx, hz, nn⟩
        rw [eX] at da
        refine thn da fun _ s9 ⟨_, H9, I10, _, n9⟩ => ?_
        exact again I10 n9
  exact codeAny_compStart_list (loop _ rfl) (T.self _ 0 _ _ _ st1 (loop _ rfl))
theorem comp_cells {pins : List (Addr × Obj)} {σ : St} {H : Hp} {s : Shared} (I : Inv X pins σ H s) (hfr : ∀ x ∈ scope.names, x.2 = .free → X.env.kindOf x.1 = some .cell ∨ X.env.kindOf x.1 = some .free) :
    ∃ cl, closureFor scope X.env = pure cl ∧ (∀ x c, cl.lookup x = some c → X.env.cells.lookup x = some c) ∧ ∀ x, (x, NameKind.free) ∈ scope.names → ∃ c, cl.lookup x = some c :=
  closureFor_ex fun x hx hk => I.ok.has x.1 (hfr x hx hk)
/-- a change of the block's own namespace -/
theorem Inv.blockGone {pins : List (Addr × Obj)} {σ : St} {H : Hp} {s : Shared} {C : Addr} {h' : Heap} (I : Inv X pins σ H s) (f : FpOk X pins H C) (sb : Heap.SameBut C s.heap h') : Inv X pins σ H { s with heap := h' } :=
  I.turned (t' := s.toks) (fun b o hb e => sb.extBut b o hb e) f.1 f.2.1 f.2.2.2.1 f.2.2.2.2.1 f.2.2.2.2.2
theorem pe_comp (hi : PI X tg iter wi) (S : CompScope scope) (hfr : ∀ x ∈ scope.names, x.2 = .free → X.env.kindOf x.1 = some .cell ∨ X.env.kindOf x.1 = some .free) (hcap : Capt X scope capt N) (hc : X.calm = true)
    (hg : ∀ cl C fp s H, PG (compCx X N scope cl C fp s H) tg g) (ht : ∀ cl C fp s H, PTs (compCx X N scope cl C fp s H) ifs tt) (he : ∀ cl C fp s H, PE (compCx X N scope cl C fp s H) elt te)
    (hs : ∀ x, foldedSetIterable iter X.env x = pure x := by intro _; rfl) : PE X (.ListComp elt [⟨tg, iter, ifs, 0⟩] scope pos) (tComp capt wi g tt te) := by
  intro pins s σ H Q I h
  obtain ⟨cl, hcl, h1, h2⟩ := comp_cells I hfr
  rw [eval_ListComp]
  refine wpAny_comprehension_free (use := none) rfl hs hcl S.kind S.names (thn (hi pins s σ H _ I h) fun v s1 q1 => thn q1 fun itv s2 q2 => ?_)
  obtain ⟨it, fp, tn, J, H2, e, I2, T, st2, f2, q⟩ := q2
  subst e
  refine comp_block (RR := fun acc C => compPost (model X.prog X.w) X.A X.xe none (EP X pins σ Q) acc C) I2 T st2 f2 S h1 h2 hcap hc hg ht he q ?_
  intro D C H' s' m hn I' f' q'
  exact ⟨m, hn, fun h'' sb => ⟨.ref D, H', I'.blockGone f' sb, rfl, q'⟩⟩
/-- name = [..] -/
theorem ps_setComp {i : Nat} {y : Str} {py spos : Pos} (hN : X.N.Nodup) (hy : X.N[i]? = some y) (hx : Loc X.env.scope y) (hsw : swapsWith (.ListComp elt [⟨tg, iter, ifs, 0⟩] scope pos) (some (.Name y py)) spos.line X.env = pure true)
    (hi : PI X tg iter wi) (S : CompScope scope) (hfr : ∀ x ∈ scope.names, x.2 = .free → X.env.kindOf x.1 = some .cell ∨ X.env.kindOf x.1 = some .free) (hcap : Capt X scope capt N) (hc : X.calm = true)
    (hg : ∀ cl C fp s H, PG (compCx X N scope cl C fp s H) tg g) (ht : ∀ cl C fp s H, PTs (compCx X N scope cl C fp s H) ifs tt) (he : ∀ cl C fp s H, PE (compCx X N scope cl C fp s H) elt te)
    (hs : ∀ x, foldedSetIterable iter X.env x = pure x := by intro _; rfl) (hf : X.fn y = true ∨ X.env.scope.names.lookup y = some .local := by first | exact .inl rfl | exact .inr rfl | assumption) :
    PS X (.Assign [.Name y py] (.ListComp elt [⟨tg, iter, ifs, 0⟩] scope pos) spos) (tAsg (tComp capt wi g tt te) (gName i)) := by
  intro pins s σ H D I h
  obtain ⟨cl, hcl, h1, h2⟩ := comp_cells I hfr
  rw [exec_Assign_Name_used _ _ _ _ hsw]
  refine wpAny_bind (wpAny_standAt (wpAny_bind ?_))
  show wpAny _ X.A (do let _ ← comprehension (.ListComp elt [⟨tg, iter, ifs, 0⟩] scope pos) scope X.env _ (newList []) false (eval iter X.env) (some (assign (.Name y py) X.env))) _ _ s
  refine wpAny_bind (wpAny_mono (wpAny_comprehension_free (use := some (assign (.Name y py) X.env)) (Q := fun _ s' => SP X pins D .next s') rfl hs hcl S.kind S.names
    (thn (hi pins s σ H _ I h) fun v s1 q1 => thn q1 fun itv s2 q2 => ?_)) (fun _ s' hq => wpAny_pure (wpAny_pure hq)) fun _ _ e => e)
  obtain ⟨it, fp, tn, J, H2, e, I2, T, st2, f2, q⟩ := q2
  subst e
  refine comp_block (Q := fun x H1 => gName i x σ H1 D.nx) (RR := fun acc C => compPost (model X.prog X.w) X.A X.xe (some (assign (.Name y py) X.env)) (fun _ s' => SP X pins D .next s') acc C) I2 T st2 f2 S h1 h2 hcap hc hg ht he q ?_
  intro D' C H' s' m hn I' f' q'
  show wpAny _ X.A (assign (.Name y py) X.env (.ref D')) _ _ _
  refine wpAny_assign_Name (store_ok2 I' hN hy hx (v := .ref D') rfl (fun s'' I'' ⟨a, sb, ha⟩ => ?_) hf)
  have neC : C ≠ a := by
    rcases ha with e | e
    · rw [e]; exact f'.2.1
    · exact Ne.symm (f'.2.2.2.2.1 _ _ e)
  obtain ⟨o, es, ep, ho, r⟩ := hn
  exact ⟨m, ⟨o, es, ep, sb.extBut C o neC ho, r⟩, fun h'' sb' => ⟨_, H', I''.blockGone f' sb', q'⟩⟩
end
end L2
namespace M
open PySem PySem.Spec L2
/-! ### data, store, results -/
/-- data: texts are their codes, tuples are trees, a list or dict is a place of the store -/
inductive D where
  | non | bl (b : Bool) | int (i : Int) | str (cs : List Nat) | tup (xs : List D) | loc (n : Nat)
instance : Inhabited D := ⟨.non⟩
/-- a lambda's text: its qualified name, its parts, the names that it takes from around -/
structure LamS where
  qual : Str
  params : Arguments
  body : Expr
  scope : Scope
  caps : List Str
inductive MO where
  | lst (xs : List D) | frz (xs : List D) | dic (kvs : List (List Key × D)) | dkc (kvs : List (Key × D))
  /-- a dict with plain keys that is only read -/
  | dkf (kvs : List (Key × D))
  /-- a dict with tuples as keys that is only read -/
  | dtf (kvs : List (List Key × D))
  /-- an instance of a class of the module -/
  | ins (c : Str) (fs : List (Str × D))
  /-- the table of the code of a def of the module that makes lambdas -/
  | tab (x : Str)
  /-- a lambda, the j-th of the text, and what it took from around -/
  | clo (j : Nat) (l : LamS) (ds : List D)
  /-- an exception that was caught: its class's name and its field -/
  | exc (c : String) (d : D)
  /-- a place of which nothing is told -/
  | hid
abbrev Stor := List MO
abbrev MEnv := List (Option D)
/-- an exception: its class's name and its field -/
structure Xc where
  cls : String
  fld : D
inductive R (α : Type) where
  | ok (a : α) (st : Stor) | err (x : Xc) (st : Stor) | bad
/-- so that the simplifier rewrites by it, and leaves nothing for the kernel to unfold -/
theorem by_rfl {α : Sort u} {a b : α} (h : a = b) : a = b := h
def R.bind {α β : Type} (r : R α) (f : α → Stor → R β) : R β := match r with
  | .ok a st => f a st
  | .err x st => .err x st
  | .bad => .bad
@[simp] theorem R.bind_ok {α β : Type} (a : α) (st : Stor) (f : α → Stor → R β) : (R.ok a st).bind f = f a st := by_rfl rfl
@[simp] theorem R.bind_err {α β : Type} (x : Xc) (st : Stor) (f : α → Stor → R β) : (R.err x st : R α).bind f = .err x st := by_rfl rfl
abbrev strOf (cs : List Nat) : Str := ⟨cs.toArray⟩
/-! ### how the abstract heap bears them -/
/-- a made tuple may stand where a tuple is asked -/
instance sqTOf {K : PySem.W.Frag} {H : Hp} {a : Addr} {xs : List V} : CoeTail (H a = some (.tup xs)) (SqT K H a xs) := ⟨SqT.of⟩
/-- items that make no key of a dict -/
def noKey : List D → Bool
  | [] => false
  | .int _ :: r => noKey r
  | .str _ :: r => noKey r
  | _ :: _ => true
/-- a tuple: a made one, or, where it is no key, one of the module -/
def TupA (K : PySem.W.Frag) (H : Hp) (a : Addr) (xs : List V) (ds : List D) : Prop :=
  H a = some (.tup xs) ∨ (noKey ds = true ∧ ∃ (o : Obj) (its : Array Value) (n : Nat), K.lookup a = some o ∧ o.cls = .type "tuple" ∧ o.data = .seq its n ∧ its.size ≤ sizeLine ∧ Vals xs its.toList)
theorem TupA.sqT {K : PySem.W.Frag} {H : Hp} {a : Addr} {xs : List V} {ds : List D} (h : TupA K H a xs ds) : SqT K H a xs := by
  rcases h with h | ⟨_, h⟩
  · exact SqT.of h
  · exact .inr h
mutual
def RepV (K : PySem.W.Frag) (μ : List Addr) (H : Hp) : D → V → Prop
  | .non, v => v = .non
  | .bl b, v => v = .bl b
  | .int i, v => v = .int i
  | .str cs, v => v = .str (strOf cs)
  | .tup ds, v => ∃ a xs, v = .ref a ∧ TupA K H a xs ds ∧ RepVs K μ H ds xs
  | .loc n, v => ∃ a, μ[n]? = some a ∧ v = .ref a
def RepVs (K : PySem.W.Frag) (μ : List Addr) (H : Hp) : List D → List V → Prop
  | [], vs => vs = []
  | d :: ds, vs => ∃ v r, vs = v :: r ∧ RepV K μ H d v ∧ RepVs K μ H ds r
end
/-- tuples and known things stay -/
structure Ext (H H' : Hp) : Prop where
  tup : ∀ b xs, H b = some (.tup xs) → H' b = some (.tup xs)
  frz : ∀ b o u, H b = some (.frz o u) → H' b = some (.frz o u)
theorem Ext.refl (H : Hp) : Ext H H := ⟨fun _ _ h => h, fun _ _ _ h => h⟩
theorem Ext.trans {H H1 H2 : Hp} (a : Ext H H1) (b : Ext H1 H2) : Ext H H2 := ⟨fun c xs h => b.tup c xs (a.tup c xs h), fun c o u h => b.frz c o u (a.frz c o u h)⟩
theorem Ext.sqT {K : PySem.W.Frag} {H H' : Hp} {a : Addr} {xs : List V} (e : Ext H H') (h : SqT K H a xs) : SqT K H' a xs := by
  rcases h with (h | ⟨o, h⟩) | h
  · exact .inl (.inl (e.tup _ _ h))
  · exact .inl (.inr ⟨o, e.frz _ _ _ h⟩)
  · exact .inr h
theorem Ext.tupA {K : PySem.W.Frag} {H H' : Hp} {a : Addr} {xs : List V} {ds : List D} (e : Ext H H') (h : TupA K H a xs ds) : TupA K H' a xs ds := by
  rcases h with h | h
  · exact .inl (e.tup _ _ h)
  · exact .inr h
theorem Ext.new {H : Hp} {p : Addr} {o : HO} (h : H p = none) : Ext H (upd H p o) :=
  ⟨fun b xs q => by rw [upd_ne (ne_of_none q h)]; exact q, fun b o' u q => by rw [upd_ne (ne_of_none q h)]; exact q⟩
structure Grow (μ : List Addr) (H : Hp) (μ' : List Addr) (H' : Hp) : Prop where
  pre : ∃ ν, μ' = μ ++ ν
  ext : Ext H H'
theorem Grow.refl (μ : List Addr) (H : Hp) : Grow μ H μ H := ⟨⟨[], by simp⟩, .refl H⟩
theorem Grow.trans {μ μ1 μ2 : List Addr} {H H1 H2 : Hp} (a : Grow μ H μ1 H1) (b : Grow μ1 H1 μ2 H2) : Grow μ H μ2 H2 := by
  obtain ⟨ν1, rfl⟩ := a.pre
  obtain ⟨ν2, rfl⟩ := b.pre
  exact ⟨⟨ν1 ++ ν2, by simp⟩, a.ext.trans b.ext⟩
theorem Grow.get {μ μ' : List Addr} {H H' : Hp} (g : Grow μ H μ' H') {n : Nat} {a : Addr} (h : μ[n]? = some a) : μ'[n]? = some a := by
  obtain ⟨ν, rfl⟩ := g.pre
  rw [List.getElem?_append_left (List.getElem?_eq_some_iff.mp h).1]; exact h
mutual
theorem RepV.mono {K : PySem.W.Frag} {μ μ' : List Addr} {H H' : Hp} (g : Grow μ H μ' H') : ∀ (d : D) {v : V}, RepV K μ H d v → RepV K μ' H' d v
  | .non, _, h => by simpa [RepV] using h
  | .bl _, _, h => by simpa [RepV] using h
  | .int _, _, h => by simpa [RepV] using h
  | .str _, _, h => by simpa [RepV] using h
  | .tup ds, _, h => by
    rw [RepV] at h ⊢
    obtain ⟨a, xs, rfl, h1, h2⟩ := h
    exact ⟨a, xs, rfl, g.ext.tupA h1, RepVs.mono g ds h2⟩
  | .loc n, _, h => by
    rw [RepV] at h ⊢
    obtain ⟨a, h1, rfl⟩ := h
    exact ⟨a, g.get h1, rfl⟩
theorem RepVs.mono {K : PySem.W.Frag} {μ μ' : List Addr} {H H' : Hp} (g : Grow μ H μ' H') : ∀ (ds : List D) {vs : List V}, RepVs K μ H ds vs → RepVs K μ' H' ds vs
  | [], _, h => by simpa [RepVs] using h
  | d :: ds, _, h => by
    rw [RepVs] at h ⊢
    obtain ⟨v, r, rfl, h1, h2⟩ := h
    exact ⟨v, r, rfl, RepV.mono g d h1, RepVs.mono g ds h2⟩
end
section
variable {K : PySem.W.Frag} {μ : List Addr} {H : Hp}
theorem RepVs.length : ∀ {ds : List D} {vs : List V}, RepVs K μ H ds vs → ds.length = vs.length
  | [], _, h => by rw [RepVs] at h; subst h; rfl
  | d :: ds, _, h => by
    rw [RepVs] at h
    obtain ⟨v, r, rfl, _, h2⟩ := h
    rw [List.length_cons, List.length_cons, RepVs.length h2]
theorem RepVs.get : ∀ {ds : List D} {vs : List V} {i : Nat} {d : D}, RepVs K μ H ds vs → ds[i]? = some d → ∃ v, vs[i]? = some v ∧ RepV K μ H d v
  | [], _, _, _, _, e => by simp at e
  | d :: ds, _, 0, _, h, e => by
    rw [RepVs] at h
    obtain ⟨v, r, rfl, h1, _⟩ := h
    simp at e; subst e
    exact ⟨v, rfl, h1⟩
  | d :: ds, _, i + 1, x, h, e => by
    rw [RepVs] at h
    obtain ⟨v, r, rfl, _, h2⟩ := h
    obtain ⟨u, h3, h4⟩ := RepVs.get (i := i) h2 (by simpa using e)
    exact ⟨u, by simpa using h3, h4⟩
theorem RepVs.append : ∀ {ds es : List D} {vs ws : List V}, RepVs K μ H ds vs → RepVs K μ H es ws → RepVs K μ H (ds ++ es) (vs ++ ws)
  | [], _, _, _, h, k => by rw [RepVs] at h; subst h; exact k
  | d :: ds, es, _, ws, h, k => by
    rw [RepVs] at h
    obtain ⟨v, r, rfl, h1, h2⟩ := h
    show RepVs K μ H (d :: (ds ++ es)) (v :: (r ++ ws))
    rw [RepVs]
    exact ⟨v, r ++ ws, rfl, h1, RepVs.append h2 k⟩
theorem RepVs.nil : RepVs K μ H [] [] := by rw [RepVs]
theorem RepVs.cons {d : D} {ds : List D} {v : V} {vs : List V} (h : RepV K μ H d v) (k : RepVs K μ H ds vs) : RepVs K μ H (d :: ds) (v :: vs) := by rw [RepVs]; exact ⟨v, vs, rfl, h, k⟩
theorem RepVs.take : ∀ {ds : List D} {vs : List V} (n : Nat), RepVs K μ H ds vs → RepVs K μ H (ds.take n) (vs.take n)
  | _, _, 0, _ => by simp [RepVs]
  | [], _, n + 1, h => by rw [RepVs] at h; subst h; simp [RepVs]
  | d :: ds, _, n + 1, h => by
    rw [RepVs] at h
    obtain ⟨v, r, rfl, h1, h2⟩ := h
    exact RepVs.cons h1 (RepVs.take n h2)
theorem RepVs.drop : ∀ {ds : List D} {vs : List V} (n : Nat), RepVs K μ H ds vs → RepVs K μ H (ds.drop n) (vs.drop n)
  | _, _, 0, h => h
  | [], _, n + 1, h => by rw [RepVs] at h; subst h; simp [RepVs]
  | d :: ds, _, n + 1, h => by
    rw [RepVs] at h
    obtain ⟨v, r, rfl, h1, h2⟩ := h
    exact RepVs.drop n h2
theorem RepVs.set {d : D} {v : V} (hd : RepV K μ H d v) : ∀ {ds : List D} {vs : List V} (i : Nat), RepVs K μ H ds vs → RepVs K μ H (ds.set i d) (vs.set i v)
  | [], _, _, h => by rw [RepVs] at h; subst h; simp [RepVs]
  | x :: ds, _, 0, h => by
    rw [RepVs] at h
    obtain ⟨w, r, rfl, h1, h2⟩ := h
    exact RepVs.cons hd h2
  | x :: ds, _, i + 1, h => by
    rw [RepVs] at h
    obtain ⟨w, r, rfl, h1, h2⟩ := h
    exact RepVs.cons h1 (RepVs.set hd i h2)
theorem RepV.int_iff {i : Int} {v : V} : RepV K μ H (.int i) v ↔ v = .int i := by rw [RepV]
theorem RepV.bl_iff {b : Bool} {v : V} : RepV K μ H (.bl b) v ↔ v = .bl b := by rw [RepV]
theorem RepV.non_iff {v : V} : RepV K μ H .non v ↔ v = .non := by rw [RepV]
theorem RepV.str_iff {cs : List Nat} {v : V} : RepV K μ H (.str cs) v ↔ v = .str (strOf cs) := by rw [RepV]
theorem RepV.tup_iff {ds : List D} {v : V} : RepV K μ H (.tup ds) v ↔ ∃ a xs, v = .ref a ∧ TupA K H a xs ds ∧ RepVs K μ H ds xs := by rw [RepV]
theorem RepV.loc_iff {n : Nat} {v : V} : RepV K μ H (.loc n) v ↔ ∃ a, μ[n]? = some a ∧ v = .ref a := by rw [RepV]
end
/-! ### the store -/
/-- pairs of a dict -/
def RepKV {κ : Type} (K : PySem.W.Frag) (μ : List Addr) (H : Hp) : List (κ × D) → List (κ × V) → Prop
  | [], vs => vs = []
  | (k, d) :: ds, vs => ∃ v r, vs = (k, v) :: r ∧ RepV K μ H d v ∧ RepKV K μ H ds r
theorem RepKV.mono {κ : Type} {K : PySem.W.Frag} {μ μ' : List Addr} {H H' : Hp} (g : Grow μ H μ' H') : ∀ {ds : List (κ × D)} {vs : List (κ × V)}, RepKV K μ H ds vs → RepKV K μ' H' ds vs
  | [], _, h => h
  | (k, d) :: ds, _, ⟨v, r, e, h1, h2⟩ => ⟨v, r, e, h1.mono g d, RepKV.mono g h2⟩
/-- a list that is only read: known to the object, or the module's own -/
def FrzL (K : PySem.W.Frag) (H : Hp) (a : Addr) (xs : List V) : Prop :=
  (∃ o, H a = some (.frz o (.lst xs))) ∨ ∃ (o : Obj) (its : Array Value) (n : Nat), K.lookup a = some o ∧ o.cls = .type "list" ∧ o.dict = none ∧ o.data = .seq its n ∧ its.size ≤ sizeLine ∧ Vals xs its.toList
theorem FrzL.sqL {K : PySem.W.Frag} {H : Hp} {a : Addr} {xs : List V} (h : FrzL K H a xs) : SqL K H a xs := by
  rcases h with h | h
  · exact .inl (.inr h)
  · exact .inr h
theorem FrzL.ext {K : PySem.W.Frag} {H H' : Hp} {a : Addr} {xs : List V} (e : Ext H H') (h : FrzL K H a xs) : FrzL K H' a xs := by
  rcases h with ⟨o, h⟩ | h
  · exact .inl ⟨o, e.frz _ _ _ h⟩
  · exact .inr h
def MO.mut : MO → Bool
  | .frz _ => false
  | .clo _ _ _ => false
  | .hid => false
  | .dkf _ => false
  | .dtf _ => false
  | .exc _ _ => false
  | _ => true
/-- a code object that is known -/
def CodeF (H : Hp) (c : Addr) (q : Str) : Prop := ∃ oc vs t, H c = some (.frz oc (.own 0)) ∧ oc.data = .fields vs ∧ vs[1]? = some (.str q t)
/-- cells that are known, and what they hold -/
def CellsF (H : Hp) : List (Str × Addr) → List V → Prop
  | [], vs => vs = []
  | (_, c) :: cl, vs => ∃ v r o u, vs = v :: r ∧ H c = some (.frz o (.own 0)) ∧ o.data = .cell (some u) ∧ RelV v u ∧ CellsF H cl r
theorem CodeF.ext {H H' : Hp} {c : Addr} {q : Str} (e : Ext H H') (h : CodeF H c q) : CodeF H' c q :=
  let ⟨oc, vs, t, h1, h2⟩ := h; ⟨oc, vs, t, e.frz _ _ _ h1, h2⟩
theorem CellsF.ext {H H' : Hp} (e : Ext H H') : ∀ {cl : List (Str × Addr)} {vs : List V}, CellsF H cl vs → CellsF H' cl vs
  | [], _, h => h
  | (_, c) :: cl, _, ⟨v, r, o, u, h1, h2, h3, h4, h5⟩ => ⟨v, r, o, u, h1, e.frz _ _ _ h2, h3, h4, CellsF.ext e h5⟩
def lamQual (x : Str) : Str := x ++ ".<locals>." ++ "<lambda>"
def RepO (K : PySem.W.Frag) (μ : List Addr) (H : Hp) (a : Addr) : MO → Prop
  | .lst ds => ∃ xs, H a = some (.lst xs) ∧ RepVs K μ H ds xs
  | .frz ds => ∃ xs, FrzL K H a xs ∧ RepVs K μ H ds xs
  | .dic kvs => ∃ ws, H a = some (.dT ws) ∧ RepKV K μ H kvs ws
  | .dkc kvs => ∃ ws, H a = some (.dK ws) ∧ RepKV K μ H kvs ws
  | .dkf kvs => ∃ ws o, H a = some (.frz o (.dK ws)) ∧ RepKV K μ H kvs ws
  | .dtf kvs => ∃ ws o, H a = some (.frz o (.dT ws)) ∧ RepKV K μ H kvs ws
  | .ins c fs => ∃ C dx ws, PySem.W.nsIn K mainGlobals c = some (some (.ref C)) ∧ H a = some (.ins C dx ws) ∧ RepKV K μ H fs ws
  | .tab x => (∃ (fa : Addr) (o : Obj) (fd : FuncData) (c : Addr), PySem.W.nsIn K mainGlobals x = some (some (.ref fa)) ∧ K.lookup fa = some o ∧ o.data = .func fd ∧ fd.code = .ref c ∧ PySem.W.codeHdIn K c a = true) ∧
      ∃ ps : Array Value, H a = some (.tbl ps) ∧ TriplesOk ps.toList ∧ ∀ pos cv, codeAmong pos ps.toList = some cv → ∃ c', cv = .ref c' ∧ CodeF H c' (lamQual x)
  | .clo _ l ds => ∃ (cl : List (Str × Addr)) (pm : Value) (c' : Addr) (ctv : Value) (vs : List V), H a = some (.frz (PySem.W.kla_obj "<lambda>" l.qual l.params l.body l.scope cl pm c' ctv) (.own 0)) ∧ CodeF H c' l.qual ∧
      cl.map (·.1) = l.caps ∧ (cl.map (·.2)).Nodup ∧ CellsF H cl vs ∧ RepVs K μ H ds vs
  | .exc c d => ∃ oe C dx od v fs, H a = some (.frz oe (.own 0)) ∧ oe.cls = .ref C ∧ oe.dict = some dx ∧ oe.data = .fields fs ∧ H dx = some (.frz od (.xd [("at", v)])) ∧ PySem.W.nsIn K mainGlobals (c : Str) = some (some (.ref C)) ∧ RepV K μ H d v
  | .hid => True
structure RepS (K : PySem.W.Frag) (μ : List Addr) (H : Hp) (st : Stor) : Prop where
  len : μ.length = st.length
  at_ : ∀ (n : Nat) (o : MO), st[n]? = some o → ∃ a, μ[n]? = some a ∧ RepO K μ H a o
  uniq : ∀ (i j : Nat) (a : Addr) (oi oj : MO), st[i]? = some oi → st[j]? = some oj → oi.mut = true → oj.mut = true → μ[i]? = some a → μ[j]? = some a → i = j
structure RepE (K : PySem.W.Frag) (μ : List Addr) (H : Hp) (env : MEnv) (σ : St) : Prop where
  len : env.length = σ.length
  at_ : ∀ (i : Nat) (d : D), env[i]? = some (some d) → ∃ v, σ[i]? = some (some v) ∧ RepV K μ H d v
theorem RepE.mono {K : PySem.W.Frag} {μ μ' : List Addr} {H H' : Hp} {env : MEnv} {σ : St} (g : Grow μ H μ' H') (h : RepE K μ H env σ) : RepE K μ' H' env σ :=
  ⟨h.len, fun i d e => let ⟨v, h1, h2⟩ := h.at_ i d e; ⟨v, h1, h2.mono g d⟩⟩
theorem RepE.set {K : PySem.W.Frag} {μ : List Addr} {H : Hp} {env : MEnv} {σ : St} {i : Nat} {d : D} {v : V} (h : RepE K μ H env σ) (r : RepV K μ H d v) : RepE K μ H (env.set i (some d)) (σ.set i (some v)) := by
  refine ⟨by simp [h.len], fun j e hj => ?_⟩
  by_cases hij : i = j
  · subst hij
    have hl : i < env.length := by
      have := (List.getElem?_eq_some_iff.mp hj).1; simpa using this
    rw [List.getElem?_set_self hl] at hj
    cases hj
    exact ⟨v, by rw [List.getElem?_set_self (by rw [← h.len]; exact hl)], r⟩
  · rw [List.getElem?_set_ne hij] at hj
    rw [List.getElem?_set_ne hij]
    exact h.at_ j e hj
/-- a new object of the store -/
theorem RepO.some_of {K : PySem.W.Frag} {μ : List Addr} {H : Hp} {a : Addr} {o : MO} (h : RepO K μ H a o) (hm : o.mut = true) : ∃ u, H a = some u := by
  cases o with
  | lst ds => obtain ⟨xs, h1, _⟩ := h; exact ⟨_, h1⟩
  | frz ds => cases hm
  | dic kvs => obtain ⟨xs, h1, _⟩ := h; exact ⟨_, h1⟩
  | dkc kvs => obtain ⟨xs, h1, _⟩ := h; exact ⟨_, h1⟩
  | dkf kvs => cases hm
  | dtf kvs => cases hm
  | ins c fs => obtain ⟨_, _, _, _, h1, _⟩ := h; exact ⟨_, h1⟩
  | tab x => obtain ⟨_, _, h1, _⟩ := h; exact ⟨_, h1⟩
  | clo j l ds => cases hm
  | exc c d => cases hm
  | hid => cases hm
theorem RepO.keep {K : PySem.W.Frag} {μ μ' : List Addr} {H H' : Hp} {a : Addr} {o : MO} (g : Grow μ H μ' H') (hk : o.mut = true → ∀ u, H a = some u → H' a = some u) (h : RepO K μ H a o) : RepO K μ' H' a o := by
  cases o with
  | lst ds => obtain ⟨xs, h1, h2⟩ := h; exact ⟨xs, hk rfl _ h1, h2.mono g ds⟩
  | frz ds => obtain ⟨xs, h1, h2⟩ := h; exact ⟨xs, h1.ext g.ext, h2.mono g ds⟩
  | dic kvs => obtain ⟨ws, h1, h2⟩ := h; exact ⟨ws, hk rfl _ h1, h2.mono g⟩
  | dkc kvs => obtain ⟨ws, h1, h2⟩ := h; exact ⟨ws, hk rfl _ h1, h2.mono g⟩
  | dkf kvs => obtain ⟨ws, o, h1, h2⟩ := h; exact ⟨ws, o, g.ext.frz _ _ _ h1, h2.mono g⟩
  | dtf kvs => obtain ⟨ws, o, h1, h2⟩ := h; exact ⟨ws, o, g.ext.frz _ _ _ h1, h2.mono g⟩
  | exc c d => obtain ⟨oe, C, dx, od, v, fs, h1, h2, h3, h4, h5, h6, h7⟩ := h; exact ⟨oe, C, dx, od, v, fs, g.ext.frz _ _ _ h1, h2, h3, h4, g.ext.frz _ _ _ h5, h6, h7.mono g d⟩
  | ins c fs => obtain ⟨C, dx, ws, h0, h1, h2⟩ := h; exact ⟨C, dx, ws, h0, hk rfl _ h1, h2.mono g⟩
  | tab x => obtain ⟨h0, ps, h1, h2, h3⟩ := h; exact ⟨h0, ps, hk rfl _ h1, h2, fun pos cv e => let ⟨c', e1, e2⟩ := h3 pos cv e; ⟨c', e1, e2.ext g.ext⟩⟩
  | clo j l ds => obtain ⟨cl, pm, c', ctv, vs, h1, h2, h3, h4, h5, h6⟩ := h; exact ⟨cl, pm, c', ctv, vs, g.ext.frz _ _ _ h1, h2.ext g.ext, h3, h4, h5.ext g.ext, h6.mono g ds⟩
  | hid => trivial
section
variable {K : PySem.W.Frag} {μ : List Addr} {H : Hp} {st : Stor} {p a : Addr} {xs : List V} {n : Nat} {mo mo' : MO} {o o' : HO}
/-- an object that the store does not name is laid (a tuple) -/
theorem RepS.lay (h : RepS K μ H st) (hp : H p = none) : RepS K μ (upd H p o) st :=
  ⟨h.len, fun n mo e => let ⟨a, h1, h2⟩ := h.at_ n mo e; ⟨a, h1, h2.keep ⟨⟨[], by simp⟩, .new hp⟩ fun _ u q => by rw [upd_ne (ne_of_none q hp)]; exact q⟩, h.uniq⟩
theorem Grow.lay (hp : H p = none) : Grow μ H μ (upd H p o) := ⟨⟨[], by simp⟩, .new hp⟩
theorem Grow.new (hp : H p = none) : Grow μ H (μ ++ [p]) (upd H p o) := ⟨⟨[p], rfl⟩, .new hp⟩
/-- a new object of the store -/
theorem RepS.new (h : RepS K μ H st) (hp : H p = none) (hn : RepO K (μ ++ [p]) (upd H p o) p mo) : RepS K (μ ++ [p]) (upd H p o) (st ++ [mo]) := by
  refine ⟨by simp [h.len], fun n mo1 e => ?_, fun i j b oi oj ei ej mi mj hi hj => ?_⟩
  · by_cases hl : n < st.length
    · rw [List.getElem?_append_left hl] at e
      obtain ⟨b, h1, h2⟩ := h.at_ n mo1 e
      exact ⟨b, by rw [List.getElem?_append_left (by rw [h.len]; exact hl)]; exact h1, h2.keep (Grow.new hp) fun _ u q => by rw [upd_ne (ne_of_none q hp)]; exact q⟩
    · have hl2 := (List.getElem?_eq_some_iff.mp e).1
      rw [List.length_append, List.length_singleton] at hl2
      have e2 : n = st.length := by omega
      subst e2
      rw [List.getElem?_append_right (Nat.le_refl _)] at e
      simp at e; subst e
      exact ⟨p, by rw [← h.len]; simp, hn⟩
  · have key : ∀ (k : Nat) (ok : MO), (st ++ [mo])[k]? = some ok → ok.mut = true → (μ ++ [p])[k]? = some b → (k < st.length ∧ st[k]? = some ok ∧ μ[k]? = some b ∧ b ≠ p) ∨ (k = st.length ∧ b = p) := fun k ok ek mk hk => by
      by_cases hl : k < st.length
      · rw [List.getElem?_append_left hl] at ek
        rw [List.getElem?_append_left (by rw [h.len]; exact hl)] at hk
        obtain ⟨c, h1, h2⟩ := h.at_ k ok ek
        rw [hk] at h1; cases h1
        obtain ⟨u, hu⟩ := h2.some_of mk
        exact .inl ⟨hl, ek, hk, ne_of_none hu hp⟩
      · have hl2 := (List.getElem?_eq_some_iff.mp ek).1
        rw [List.length_append, List.length_singleton] at hl2
        have e2 : k = st.length := by omega
        subst e2
        rw [← h.len] at hk
        simp at hk
        exact .inr ⟨rfl, hk.symm⟩
    rcases key i oi ei mi hi with ⟨_, a1, a2, a3⟩ | ⟨a1, a2⟩
    · rcases key j oj ej mj hj with ⟨_, b1, b2, b3⟩ | ⟨b1, b2⟩
      · exact h.uniq i j b oi oj a1 b1 mi mj a2 b2
      · exact absurd b2 a3
    · rcases key j oj ej mj hj with ⟨_, b1, b2, b3⟩ | ⟨b1, b2⟩
      · exact absurd a2 b3
      · rw [a1, b1]
theorem Ext.mut (h : H a = some o) (ht : ∀ ys, o ≠ .tup ys) (hf : ∀ w u, o ≠ .frz w u) : Ext H (upd H a o') :=
  ⟨fun b ys q => by rw [upd_ne (fun e => by subst e; rw [h] at q; exact ht _ (Option.some.inj q))]; exact q,
   fun b w u q => by rw [upd_ne (fun e => by subst e; rw [h] at q; exact hf _ _ (Option.some.inj q))]; exact q⟩
/-- an object of the store is written -/
theorem RepS.put (h : RepS K μ H st) (hn : st[n]? = some mo) (hm : mo.mut = true) (hm' : mo'.mut = true) (ha : μ[n]? = some a) (g : Ext H (upd H a o')) (new : RepO K μ (upd H a o') a mo') : RepS K μ (upd H a o') (st.set n mo') := by
  have hl := (List.getElem?_eq_some_iff.mp hn).1
  refine ⟨by simp [h.len], fun k ok e => ?_, fun i j b oi oj ei ej mi mj hi hj => ?_⟩
  · by_cases hk : n = k
    · subst hk
      rw [List.getElem?_set_self hl] at e; cases e
      exact ⟨a, ha, new⟩
    · rw [List.getElem?_set_ne hk] at e
      obtain ⟨b, h1, h2⟩ := h.at_ k ok e
      refine ⟨b, h1, h2.keep ⟨⟨[], by simp⟩, g⟩ fun hmk u q => ?_⟩
      rw [upd_ne (fun e2 => ?_)]
      · exact q
      · subst e2; exact hk (h.uniq n k b mo ok hn e hm hmk ha h1)
  · have key : ∀ (k : Nat) (ok : MO), (st.set n mo')[k]? = some ok → ok.mut = true → ∃ ok', st[k]? = some ok' ∧ ok'.mut = true := fun k ok ek mk => by
      by_cases hk : n = k
      · subst hk; exact ⟨mo, hn, hm⟩
      · rw [List.getElem?_set_ne hk] at ek; exact ⟨ok, ek, mk⟩
    obtain ⟨oi', ei', mi'⟩ := key i oi ei mi
    obtain ⟨oj', ej', mj'⟩ := key j oj ej mj
    exact h.uniq i j b oi' oj' ei' ej' mi' mj' hi hj
end
end M
namespace M
open PySem PySem.Spec L2
/-! ### what is wanted behind a denotation -/
/-- how an exception lies there -/
def ExcAt (X : Cx) (μ : List Addr) (H : Hp) (x : Xc) (e : Value) (s : Shared) : Prop :=
  ∃ a C dx lo fl v, e = .ref a ∧ X.s₀.heap.objs.size ≤ lo ∧ Xo lo a C dx fl H s.heap ∧ H dx = some (.xd [("at", v)]) ∧ PySem.W.nsIn X.K mainGlobals (x.cls : Str) = some (some (.ref C)) ∧ RepV X.K μ H x.fld v
def ErrOK (X : Cx) (μ : List Addr) (H : Hp) (x : Xc) (st : Stor) : Prop :=
  ∀ (pins : List (Addr × Obj)) (σ' : L2.St) (H' : Hp) (μ' : List Addr) (e : Value) (s' : Shared), Grow μ H μ' H' → RepS X.K μ' H' st → Inv X pins σ' H' s' → ExcAt X μ' H' x e s' → X.xe e s'
theorem ErrOK.mono {X : Cx} {μ μ1 : List Addr} {H H1 : Hp} {x : Xc} {st : Stor} (g : Grow μ H μ1 H1) (h : ErrOK X μ H x st) : ErrOK X μ1 H1 x st :=
  fun pins σ' H' μ' e s' g' => h pins σ' H' μ' e s' (g.trans g')
abbrev Rel (α β : Type) := List Addr → Hp → α → β → Prop
def Post {α β : Type} (X : Cx) (μ : List Addr) (H : Hp) (rel : Rel α β) (Q : β → Hp → Prop) (r : R α) : Prop := match r with
  | .ok a st => ∀ (b : β) (H' : Hp) (μ' : List Addr), Grow μ H μ' H' → RepS X.K μ' H' st → rel μ' H' a b → Q b H'
  | .err x st => ErrOK X μ H x st
  | .bad => False
section
variable {α β γ δ : Type} {X : Cx} {μ μ1 : List Addr} {H H1 : Hp} {rel : Rel α β} {rel2 : Rel γ δ} {Q Q' : β → Hp → Prop} {r : R α}
theorem Post.mono (g : Grow μ H μ1 H1) (h : Post X μ H rel Q r) : Post X μ1 H1 rel Q r := by
  cases r with
  | ok a st => exact fun b H' μ' g' => h b H' μ' (g.trans g')
  | err x st => exact ErrOK.mono g h
  | bad => exact h
theorem Post.imp (h : Post X μ H rel Q r) (k : ∀ b H', Q b H' → Q' b H') : Post X μ H rel Q' r := by
  cases r with
  | ok a st => exact fun b H' μ' g' h1 h2 => k b H' (h b H' μ' g' h1 h2)
  | err x st => exact h
  | bad => exact h
/-- the first of two: what it hands on -/
def Then (X : Cx) (μ : List Addr) (H : Hp) (rel : Rel α β) (rel2 : Rel γ δ) (Q2 : δ → Hp → Prop) (f : α → Stor → R γ) : β → Hp → Prop :=
  fun b H1 => ∃ μ1 st1 a, Grow μ H μ1 H1 ∧ RepS X.K μ1 H1 st1 ∧ rel μ1 H1 a b ∧ Post X μ1 H1 rel2 Q2 (f a st1)
theorem Post.bind {Q2 : δ → Hp → Prop} {f : α → Stor → R γ} (h : Post X μ H rel2 Q2 (r.bind f)) : Post X μ H rel (Then X μ H rel rel2 Q2 f) r := by
  cases r with
  | ok a st => exact fun b H' μ' g h1 h2 => ⟨μ', st, a, g, h1, h2, Post.mono g h⟩
  | err x st => exact h
  | bad => exact h
/-- a result that changes nothing -/
theorem Post.ret {a : α} {b : β} {st : Stor} (h : Post X μ H rel Q (.ok a st)) (hs : RepS X.K μ H st) (hr : rel μ H a b) : Q b H := h b H μ (.refl _ _) hs hr
end
abbrev relV (X : Cx) : Rel D V := fun μ H d v => RepV X.K μ H d v
abbrev relA (X : Cx) : Rel (List D) (List V) := fun μ H d v => RepVs X.K μ H d v
abbrev relB : Rel Bool Bool := fun _ _ a b => a = b
abbrev relO : Rel (Option Int) (Option Int) := fun _ _ a b => a = b
abbrev ME := MEnv → Stor → R D
abbrev MA := MEnv → Stor → R (List D)
abbrev MT := MEnv → Stor → R Bool
abbrev MP := MEnv → Stor → R (Option Int)
def tM (X : Cx) (m : ME) : TE := fun σ H Q => ∃ μ env st, RepE X.K μ H env σ ∧ RepS X.K μ H st ∧ Post X μ H (relV X) Q (m env st)
def tMA (X : Cx) (m : MA) : TA := fun σ H Q => ∃ μ env st, RepE X.K μ H env σ ∧ RepS X.K μ H st ∧ Post X μ H (relA X) Q (m env st)
def tMT (X : Cx) (m : MT) : TT := fun σ H Q => ∃ μ env st, RepE X.K μ H env σ ∧ RepS X.K μ H st ∧ Post X μ H relB Q (m env st)
def tMP (X : Cx) (m : MP) : TO := fun σ H Q => ∃ μ env st, RepE X.K μ H env σ ∧ RepS X.K μ H st ∧ Post X μ H relO Q (m env st)
def JE (X : Cx) (e : Expr) (m : ME) : Prop := PE X e (tM X m)
def JT (X : Cx) (e : Expr) (m : MT) : Prop := PT X e (tMT X m)
def JA (X : Cx) (es : List Expr) (m : MA) : Prop := PA X es (tMA X m)
def JP (X : Cx) (e : Option Expr) (m : MP) : Prop := PO X e (tMP X m)
section
variable {X : Cx} {e a b c : Expr} {es : List Expr} {t : TE} {ma mb mc : ME} {mA : MA} {pos : Pos}
theorem JE.of {m : ME} (h : PE X e t) (k : ∀ σ H Q, tM X m σ H Q → t σ H Q) : JE X e m := fun pins s σ H Q I q => h pins s σ H Q I (k σ H Q q)
theorem JT.of {t : TT} {m : MT} (h : PT X e t) (k : ∀ σ H Q, tMT X m σ H Q → t σ H Q) : JT X e m := fun pins s σ H Q I q => h pins s σ H Q I (k σ H Q q)
theorem JA.of {t : TA} {m : MA} (h : PA X es t) (k : ∀ σ H Q, tMA X m σ H Q → t σ H Q) : JA X es m := fun pos pins s σ H Q I q => h pos pins s σ H Q I (k σ H Q q)
theorem JP.of {o : Option Expr} {t : TO} {m : MP} (h : PO X o t) (k : ∀ σ H Q, tMP X m σ H Q → t σ H Q) : JP X o m := fun pins s σ H Q I q => h pins s σ H Q I (k σ H Q q)
/-! ### names and constants -/
def vr (i : Nat) : ME := fun env st => match env[i]? with | some (some d) => .ok d st | _ => .bad
def ct (d : D) : ME := fun _ st => .ok d st
theorem je_var (i : Nat) {x : Str} {pos : Pos} (hN : X.N[i]? = some x := by rfl) (hv : Vis X.env.scope x := by first | exact Or.inl rfl | exact Or.inr (Or.inl rfl) | exact Or.inr (Or.inr rfl)) (hd : (x == ("__debug__" : Str)) = false := by decide)
    (hcd : (x == ("__classdict__" : Str)) = false := by decide) : JE X (.Name x pos) (vr i) := JE.of (pe_var hN hv hd hcd) fun σ H Q ⟨μ, env, st, he, hs, hp⟩ => by
  unfold vr at hp
  split at hp
  · rename_i d e
    obtain ⟨v, h1, h2⟩ := he.at_ i d e
    exact ⟨v, h1, hp.ret hs h2⟩
  · exact hp.elim
theorem je_int {i j pos} : JE X (.Constant (.int i) j pos) (ct (.int i)) := JE.of pe_int fun σ H Q ⟨μ, env, st, he, hs, hp⟩ => hp.ret hs (RepV.int_iff.mpr rfl)
theorem je_bl {b j pos} : JE X (.Constant (.bool b) j pos) (ct (.bl b)) := JE.of pe_bl fun σ H Q ⟨μ, env, st, he, hs, hp⟩ => hp.ret hs (RepV.bl_iff.mpr rfl)
theorem je_non {j pos} : JE X (.Constant .none j pos) (ct .non) := JE.of pe_non fun σ H Q ⟨μ, env, st, he, hs, hp⟩ => hp.ret hs (RepV.non_iff.mpr rfl)
theorem je_str {x : Str} {j pos} (cs : List Nat) (h : x = strOf cs := by decide +kernel) : JE X (.Constant (.str x) j pos) (ct (.str cs)) := JE.of pe_str fun σ H Q ⟨μ, env, st, he, hs, hp⟩ => hp.ret hs (RepV.str_iff.mpr (by rw [h]))
/-! ### operations on values -/
def op2 (g : D → D → Stor → R D) (a b : ME) : ME := fun env st => (a env st).bind fun x st1 => (b env st1).bind fun y st2 => g x y st2
def op1 (g : D → Stor → R D) (a : ME) : ME := fun env st => (a env st).bind fun x st1 => g x st1
def rM (X : Cx) (g : D → D → Stor → R D) : R2 := fun x y H Q => ∃ μ st dx dy, RepS X.K μ H st ∧ RepV X.K μ H dx x ∧ RepV X.K μ H dy y ∧ Post X μ H (relV X) Q (g dx dy st)
def rM1 (X : Cx) (g : D → Stor → R D) : V → Hp → VK → Prop := fun x H Q => ∃ μ st dx, RepS X.K μ H st ∧ RepV X.K μ H dx x ∧ Post X μ H (relV X) Q (g dx st)
def rMC (X : Cx) (g : List D → Stor → R D) : List V → Hp → VK → Prop := fun xs H Q => ∃ μ st ds, RepS X.K μ H st ∧ RepVs X.K μ H ds xs ∧ Post X μ H (relV X) Q (g ds st)
def rMM (X : Cx) (g : D → List D → Stor → R D) : V → List V → Hp → VK → Prop := fun x xs H Q => ∃ μ st d ds, RepS X.K μ H st ∧ RepV X.K μ H d x ∧ RepVs X.K μ H ds xs ∧ Post X μ H (relV X) Q (g d ds st)
theorem OpR.weak {f : Value → Value → Sem Value} {r r' : R2} (h : OpR X f r) (k : ∀ x y H Q, r' x y H Q → r x y H Q) : OpR X f r' := fun pins s σ H x y v u Q I rx ry q => h pins s σ H x y v u Q I rx ry (k x y H Q q)
theorem UnR.weak {f : Value → Sem Value} {r r' : V → Hp → VK → Prop} (h : UnR X f r) (k : ∀ x H Q, r' x H Q → r x H Q) : UnR X f r' := fun pins s σ H x v Q I rx q => h pins s σ H x v Q I rx (k x H Q q)
theorem CallR.weak {f : Value} {r r' : List V → Hp → VK → Prop} (h : CallR X f r) (k : ∀ x H Q, r' x H Q → r x H Q) : CallR X f r' := fun pins s σ H x v Q I rx q => h pins s σ H x v Q I rx (k x H Q q)
theorem MtR.weak {id : String} {r r' : V → List V → Hp → VK → Prop} (h : MtR X id r) (k : ∀ x xs H Q, r' x xs H Q → r x xs H Q) : MtR X id r' := fun pins s σ H x xs v us Q I rx rs q => h pins s σ H x xs v us Q I rx rs (k x xs H Q q)
theorem IxR.weak {r r' : R2} (h : IxR X r) (k : ∀ x y H Q, r' x y H Q → r x y H Q) : IxR X r' := fun va sl pins s σ H x y v u Q I rx ry q => h va sl pins s σ H x y v u Q I rx ry (k x y H Q q)
theorem SlR.weak {r r' : V → Option Int → Option Int → Hp → VK → Prop} (h : SlR X r) (k : ∀ x l u H Q, r' x l u H Q → r x l u H Q) : SlR X r' := fun pins s σ H x v vl vu lo hi sl Q I rx hs pl pu q => h pins s σ H x v vl vu lo hi sl Q I rx hs pl pu (k x lo hi H Q q)
theorem PSet.weak {t t' : TSet} (h : PSet X t) (k : ∀ o i v H Q, t' o i v H Q → t o i v H Q) : PSet X t' := fun pins s σ H o i v ov iv u Q I ro ri rv q => h pins s σ H o i v ov iv u Q I ro ri rv (k o i v H Q q)
theorem tM_two {g : D → D → Stor → R D} {σ : L2.St} {H : Hp} {Q : VK} (h : tM X (op2 g ma mb) σ H Q) : tM X ma σ H fun x H1 => tM X mb σ H1 fun y H2 => rM X g x y H2 Q := by
  obtain ⟨μ, env, st, he, hs, hp⟩ := h
  refine ⟨μ, env, st, he, hs, hp.bind.imp ?_⟩
  rintro x H1 ⟨μ1, st1, d, g1, hs1, hx, hp1⟩
  refine ⟨μ1, env, st1, he.mono g1, hs1, hp1.bind.imp ?_⟩
  rintro y H2 ⟨μ2, st2, d2, g2, hs2, hy, hp2⟩
  exact ⟨μ2, st2, d, d2, hs2, hx.mono g2 _, hy, hp2⟩
theorem je_op {op : Operator} {g : D → D → Stor → R D} (ho : OpR X (binaryOp op) (rM X g)) (ha : JE X a ma) (hb : JE X b mb) : JE X (.BinOp a op b pos) (op2 g ma mb) :=
  JE.of (pe_op ho ha hb) fun σ H Q h => tM_two h
theorem je_cmp {op : CmpOp} {g : D → D → Stor → R D} (ho : OpR X (compareOp op) (rM X g)) (ha : JE X a ma) (hb : JE X b mb) (hm : behindInMarks op b = false) : JE X (.Compare a [op] [b] pos) (op2 g ma mb) :=
  JE.of (pe_cmpR ho ha hb hm) fun σ H Q h => tM_two h
theorem je_un {op : UnaryOp} {g : D → Stor → R D} (ho : UnR X (unaryOp op) (rM1 X g)) (ha : JE X a ma) : JE X (.UnaryOp op a pos) (op1 g ma) :=
  JE.of (pe_un ho ha) fun σ H Q ⟨μ, env, st, he, hs, hp⟩ => ⟨μ, env, st, he, hs, hp.bind.imp fun x H1 ⟨μ1, st1, d, g1, hs1, hx, hp1⟩ => ⟨μ1, st1, d, hs1, hx, hp1⟩⟩
/-! ### tests -/
/-- a bool -/
def tB1 (a : ME) : MT := fun env st => (a env st).bind fun x st1 => match x with | .bl b => .ok b st1 | _ => .bad
theorem jt_cmp {op : CmpOp} {g : D → D → Stor → R D} (ho : OpR X (compareOp op) (rM X g)) (ha : JE X a ma) (hb : JE X b mb) (hm : behindInMarks op b = false) : JT X (.Compare a [op] [b] pos) (tB1 (op2 g ma mb)) := by
  refine JT.of (pt_cmpR ho ha hb hm) fun σ H Q ⟨μ, env, st, he, hs, hp⟩ => ?_
  refine tM_two ⟨μ, env, st, he, hs, hp.bind.imp ?_⟩
  rintro x H1 ⟨μ1, st1, d, g1, hs1, hx, hp1⟩
  cases d with
  | bl b => exact ⟨b, RepV.bl_iff.mp hx, hp1.ret hs1 rfl⟩
  | _ => exact hp1.elim
/-- truth -/
def truV : D → Stor → Option Bool
  | .non, _ => some false
  | .bl b, _ => some b
  | .int i, _ => some (i != 0)
  | .str cs, _ => if cs.length ≤ 1000000 then some (!cs.isEmpty) else none
  | .tup ds, _ => some (!ds.isEmpty)
  | .loc n, st => match st[n]? with
    | some (.lst ds) => some (!ds.isEmpty)
    | some (.frz ds) => some (!ds.isEmpty)
    | _ => none
def tru (a : ME) : MT := fun env st => (a env st).bind fun x st1 => match truV x st1 with | some b => .ok b st1 | none => .bad
theorem lim_ok {n : Nat} (h : n ≤ 1000000) : n ≤ sizeLine := Nat.le_trans h (by decide)
theorem RepS.lst {K : PySem.W.Frag} {μ : List Addr} {H : Hp} {st : Stor} {n : Nat} {ds : List D} (h : RepS K μ H st) (e : st[n]? = some (.lst ds)) : ∃ p xs, μ[n]? = some p ∧ H p = some (.lst xs) ∧ RepVs K μ H ds xs := by
  obtain ⟨p, h1, xs, h2, h3⟩ := h.at_ n _ e
  exact ⟨p, xs, h1, h2, h3⟩
/-- the items of a list that is read -/
def itemsAt (st : Stor) (n : Nat) : Option (List D) := match st[n]? with
  | some (.lst ds) => some ds
  | some (.frz ds) => some ds
  | _ => none
theorem RepS.items {K : PySem.W.Frag} {μ : List Addr} {H : Hp} {st : Stor} {n : Nat} {ds : List D} (h : RepS K μ H st) (e : itemsAt st n = some ds) : ∃ p xs, μ[n]? = some p ∧ SqL K H p xs ∧ RepVs K μ H ds xs := by
  unfold itemsAt at e
  split at e
  · rename_i es q
    cases e
    obtain ⟨p, xs, h1, h2, h3⟩ := h.lst q
    exact ⟨p, xs, h1, SqL.of h2, h3⟩
  · rename_i es q
    cases e
    obtain ⟨p, h1, xs, h2, h3⟩ := h.at_ n _ q
    exact ⟨p, xs, h1, h2.sqL, h3⟩
  · cases e
theorem RepVs.isEmpty {K : PySem.W.Frag} {μ : List Addr} {H : Hp} {ds : List D} {xs : List V} (h : RepVs K μ H ds xs) : ds.isEmpty = xs.isEmpty := by
  have := h.length
  cases ds <;> cases xs <;> simp_all
theorem truV_ok {d : D} {st : Stor} {b : Bool} {μ : List Addr} {H : Hp} {v : V} (h : truV d st = some b) (hs : RepS X.K μ H st) (hv : RepV X.K μ H d v) : TruV X.K v H b := by
  cases d with
  | non => rw [RepV.non_iff] at hv; subst hv; cases h; rfl
  | bl c => rw [RepV.bl_iff] at hv; subst hv; cases h; rfl
  | int i => rw [RepV.int_iff] at hv; subst hv; cases h; rfl
  | str cs =>
    rw [RepV.str_iff] at hv; subst hv
    simp only [truV] at h
    split at h
    · rename_i hl
      cases h
      have e : (strOf cs).length = cs.length := by simp [Str.length, strOf]
      refine ⟨by rw [e]; exact lim_ok hl, ?_⟩
      rw [e]
      cases cs <;> simp
      omega
    · cases h
  | tup ds =>
    rw [RepV.tup_iff] at hv
    obtain ⟨a, xs, rfl, h1, h2⟩ := hv
    cases h
    exact .inr (.inl ⟨xs, h1.sqT, by rw [h2.isEmpty]⟩)
  | loc n =>
    rw [RepV.loc_iff] at hv
    obtain ⟨a, h1, rfl⟩ := hv
    have key : ∃ ds, itemsAt st n = some ds ∧ b = !ds.isEmpty := by
      unfold itemsAt
      simp only [truV] at h
      split at h
      · rename_i q; cases h; exact ⟨_, rfl, rfl⟩
      · rename_i q; cases h; exact ⟨_, rfl, rfl⟩
      · cases h
    obtain ⟨ds, q, rfl⟩ := key
    obtain ⟨p, xs, h3, h4, h5⟩ := hs.items q
    rw [h1] at h3; cases h3
    exact .inl ⟨xs, h4, by rw [h5.isEmpty]⟩
theorem jt_truth (ha : JE X a ma) (he : ∀ whole, isTrue a X.env whole = (do let v ← whole; standAt a.pos; holding [v] (truthy v)) := by intro _; rfl) : JT X a (tru ma) := by
  refine JT.of (pt_truth ha he) fun σ H Q ⟨μ, env, st, hE, hs, hp⟩ => ⟨μ, env, st, hE, hs, hp.bind.imp ?_⟩
  rintro x H1 ⟨μ1, st1, d, g1, hs1, hx, hp1⟩
  cases e : truV d st1 with
  | none => simp only [e] at hp1; exact hp1.elim
  | some b => simp only [e] at hp1; exact ⟨b, truV_ok e hs1 hx, hp1.ret hs1 rfl⟩
def JW (X : Cx) (e : Expr) (m : MT) : Prop := PW X e (tMT X m)
theorem JW.jt {m : MT} (h : JW X e m) : JT X e m := PW.pt h
theorem JW.of {t : TT} {m : MT} (h : PW X e t) (k : ∀ σ H Q, tMT X m σ H Q → t σ H Q) : JW X e m := fun w pins s σ H Q I q => h w pins s σ H Q I (k σ H Q q)
def andT (a b : MT) : MT := fun env st => (a env st).bind fun x st1 => if x then b env st1 else .ok false st1
def orT (a b : MT) : MT := fun env st => (a env st).bind fun x st1 => if x then .ok true st1 else b env st1
def notT (a : MT) : MT := fun env st => (a env st).bind fun x st1 => .ok (!x) st1
variable {ta tb tc : MT} {rest : List Expr}
theorem jw_and1 (ha : JT X a ta) : JW X (.BoolOp .And [a] pos) ta := pw_and1 ha
theorem jw_or1 (ha : JT X a ta) : JW X (.BoolOp .Or [a] pos) ta := pw_or1 ha
theorem jw_and (ha : JT X a ta) (hb : JW X (.BoolOp .And (b :: rest) pos) tb) : JW X (.BoolOp .And (a :: b :: rest) pos) (andT ta tb) := by
  refine JW.of (pw_and ha hb) fun σ H Q ⟨μ, env, st, hE, hs, hp⟩ => ⟨μ, env, st, hE, hs, hp.bind.imp ?_⟩
  rintro x H1 ⟨μ1, st1, d, g1, hs1, rfl, hp1⟩
  cases d with
  | true => exact iteT ⟨μ1, env, st1, hE.mono g1, hs1, hp1⟩
  | false => exact iteF (hp1.ret hs1 rfl)
theorem jw_or (ha : JT X a ta) (hb : JW X (.BoolOp .Or (b :: rest) pos) tb) : JW X (.BoolOp .Or (a :: b :: rest) pos) (orT ta tb) := by
  refine JW.of (pw_or ha hb) fun σ H Q ⟨μ, env, st, hE, hs, hp⟩ => ⟨μ, env, st, hE, hs, hp.bind.imp ?_⟩
  rintro x H1 ⟨μ1, st1, d, g1, hs1, rfl, hp1⟩
  cases d with
  | true => exact iteT (hp1.ret hs1 rfl)
  | false => exact iteF ⟨μ1, env, st1, hE.mono g1, hs1, hp1⟩
theorem jt_not (ha : JT X a ta) : JT X (.UnaryOp .Not a pos) (notT ta) := by
  refine JT.of (pt_not ha) fun σ H Q ⟨μ, env, st, hE, hs, hp⟩ => ⟨μ, env, st, hE, hs, hp.bind.imp ?_⟩
  rintro x H1 ⟨μ1, st1, d, g1, hs1, rfl, hp1⟩
  exact hp1.ret hs1 rfl
/-! ### and, or, not as values: bools -/
def andV (a b : ME) : ME := fun env st => (a env st).bind fun x st1 => match x with | .bl true => b env st1 | .bl false => .ok (.bl false) st1 | _ => .bad
def notV (a : ME) : ME := fun env st => (a env st).bind fun x st1 => match x with | .bl c => .ok (.bl (!c)) st1 | _ => .bad
theorem je_one {op} {m : ME} (h : JE X a m) : JE X (.BoolOp op [a] pos) m := pe_one h
theorem je_and (ha : JE X a ma) (hb : JE X (.BoolOp .And (b :: rest) pos) mb) : JE X (.BoolOp .And (a :: b :: rest) pos) (andV ma mb) := by
  refine JE.of (pe_and ha hb) fun σ H Q ⟨μ, env, st, hE, hs, hp⟩ => ⟨μ, env, st, hE, hs, hp.bind.imp ?_⟩
  rintro x H1 ⟨μ1, st1, d, g1, hs1, hx, hp1⟩
  cases d with
  | bl c =>
    refine ⟨c, RepV.bl_iff.mp hx, ?_⟩
    cases c with
    | true => exact iteT ⟨μ1, env, st1, hE.mono g1, hs1, hp1⟩
    | false => exact iteF (hp1.ret hs1 (RepV.bl_iff.mpr rfl))
  | _ => exact hp1.elim
theorem je_not (ha : JE X a ma) : JE X (.UnaryOp .Not a pos) (notV ma) := by
  refine JE.of (pe_not ha) fun σ H Q ⟨μ, env, st, hE, hs, hp⟩ => ⟨μ, env, st, hE, hs, hp.bind.imp ?_⟩
  rintro x H1 ⟨μ1, st1, d, g1, hs1, hx, hp1⟩
  cases d with
  | bl c => exact ⟨c, RepV.bl_iff.mp hx, hp1.ret hs1 (RepV.bl_iff.mpr rfl)⟩
  | _ => exact hp1.elim
/-! ### argument lists, displays -/
def nilA : MA := fun _ st => .ok [] st
def consA (a : ME) (r : MA) : MA := fun env st => (a env st).bind fun x st1 => (r env st1).bind fun xs st2 => .ok (x :: xs) st2
theorem ja_nil : JA X [] nilA := JA.of pa_nil fun σ H Q ⟨μ, env, st, hE, hs, hp⟩ => hp.ret hs RepVs.nil
theorem ja_cons {e : Expr} {es : List Expr} {m : ME} {mA : MA} (h : JE X e m) (hr : JA X es mA) (hs : starEach (e :: es) X.env = (false, eval e X.env) :: starEach es X.env := by rfl) : JA X (e :: es) (consA m mA) := by
  refine JA.of (pa_cons h hr hs) fun σ H Q ⟨μ, env, st, hE, hs, hp⟩ => ⟨μ, env, st, hE, hs, hp.bind.imp ?_⟩
  rintro x H1 ⟨μ1, st1, d, g1, hs1, hx, hp1⟩
  refine ⟨μ1, env, st1, hE.mono g1, hs1, hp1.bind.imp ?_⟩
  rintro xs H2 ⟨μ2, st2, ds, g2, hs2, hxs, hp2⟩
  exact hp2.ret hs2 (RepVs.cons (hx.mono g2 _) hxs)
def tupE (m : MA) : ME := fun env st => (m env st).bind fun ds st1 => if ds.length ≤ 1000000 then .ok (.tup ds) st1 else .bad
def lstE (m : MA) : ME := fun env st => (m env st).bind fun ds st1 => if ds.length ≤ 1000000 then .ok (.loc st1.length) (st1 ++ [.lst ds]) else .bad
theorem je_tup {es : List Expr} {mA : MA} {x1} (h : JA X es mA) : JE X (.Tuple es x1 pos) (tupE mA) := by
  refine JE.of (pe_tup h) fun σ H Q ⟨μ, env, st, hE, hs, hp⟩ => ⟨μ, env, st, hE, hs, hp.bind.imp ?_⟩
  rintro xs H1 ⟨μ1, st1, ds, g1, hs1, hxs, hp1⟩
  dsimp only at hp1
  split at hp1
  · rename_i hl
    refine ⟨by rw [← hxs.length]; exact lim_ok hl, fun p hn => ?_⟩
    exact hp1 _ _ μ1 (Grow.lay hn) (hs1.lay hn) (RepV.tup_iff.mpr ⟨p, xs, rfl, .inl upd_same, hxs.mono (Grow.lay hn) _⟩)
  · exact hp1.elim
/-- a new list -/
theorem Post.newList {μ : List Addr} {H : Hp} {st : Stor} {ds : List D} {xs : List V} {p : Addr} {Q : VK} (h : Post X μ H (relV X) Q (.ok (.loc st.length) (st ++ [.lst ds]))) (hs : RepS X.K μ H st) (hx : RepVs X.K μ H ds xs) (hn : H p = none) :
    Q (.ref p) (upd H p (.lst xs)) := by
  have g : Grow μ H (μ ++ [p]) (upd H p (.lst xs)) := Grow.new hn
  refine h _ _ (μ ++ [p]) g (hs.new hn ⟨xs, upd_same, hx.mono g _⟩) (RepV.loc_iff.mpr ⟨p, ?_, rfl⟩)
  rw [← hs.len]; simp
theorem je_lst {es : List Expr} {mA : MA} (h : JA X es mA) : JE X (.List es pos) (lstE mA) := by
  refine JE.of (pe_lst h) fun σ H Q ⟨μ, env, st, hE, hs, hp⟩ => ⟨μ, env, st, hE, hs, hp.bind.imp ?_⟩
  rintro xs H1 ⟨μ1, st1, ds, g1, hs1, hxs, hp1⟩
  dsimp only at hp1
  split at hp1
  · rename_i hl
    exact ⟨by rw [← hxs.length]; exact lim_ok hl, fun p hn => hp1.newList hs1 hxs hn⟩
  · exact hp1.elim
end
end M
namespace M
open PySem PySem.Spec L2
section
variable {X : Cx} {e a b c : Expr} {es : List Expr} {t : TE} {ma mb mc : ME} {mA : MA} {pos : Pos}
theorem strOf_len (cs : List Nat) : (strOf cs).length = cs.length := by simp [Str.length, strOf]
theorem strOf_app (a b : List Nat) : strOf a ++ strOf b = strOf (a ++ b) := by
  show Str.append _ _ = _
  simp [Str.append, strOf]
theorem strOf_inj {a b : List Nat} : strOf a = strOf b ↔ a = b := by
  constructor
  · intro h
    have := congrArg (fun s : Str => s.cps.toList) h
    simpa [strOf] using this
  · intro h; rw [h]
/-! ### + - * // % ** -/
def addV : D → D → Stor → R D
  | .int i, .int j, st => .ok (.int (i + j)) st
  | .str a, .str b, st => if a.length + b.length ≤ 1000000 then .ok (.str (a ++ b)) st else .bad
  | .tup a, .tup b, st => if a.length + b.length ≤ 1000000 then .ok (.tup (a ++ b)) st else .bad
  | .loc m, .loc n, st => match st[m]?, st[n]? with
    | some (.lst a), some (.lst b) => if a.length + b.length ≤ 1000000 then .ok (.loc st.length) (st ++ [.lst (a ++ b)]) else .bad
    | _, _ => .bad
  | _, _, _ => .bad
theorem op_addV : OpR X (binaryOp .Add) (rM X addV) := by
  refine OpR.weak (OpR.or op_add (OpR.or op_add_str (OpR.or op_catT (OpR.or op_catT0 op_cat)))) ?_
  rintro x y H Q ⟨μ, st, dx, dy, hs, hx, hy, hp⟩
  cases dx with
  | int i =>
    cases dy with
    | int j =>
      rw [RepV.int_iff] at hx hy; subst hx hy
      exact .inl ⟨i, j, rfl, rfl, hp.ret hs (RepV.int_iff.mpr rfl)⟩
    | _ => exact hp.elim
  | str i =>
    cases dy with
    | str j =>
      rw [RepV.str_iff] at hx hy; subst hx hy
      simp only [addV] at hp
      split at hp
      · rename_i hl
        refine .inr (.inl ⟨_, _, rfl, rfl, ?_, ?_⟩)
        · rw [strOf_len, strOf_len]; exact lim_ok hl
        · rw [strOf_app]; exact hp.ret hs (RepV.str_iff.mpr rfl)
      · exact hp.elim
    | _ => exact hp.elim
  | tup i =>
    cases dy with
    | tup j =>
      rw [RepV.tup_iff] at hx hy
      obtain ⟨p, xs, rfl, h1, h2⟩ := hx
      obtain ⟨q, ys, rfl, h3, h4⟩ := hy
      simp only [addV] at hp
      split at hp
      · rename_i hl
        by_cases hx0 : xs = []
        · subst hx0
          have hi : i = [] := by have := h2.length; simpa using this
          subst hi
          exact .inr (.inr (.inr (.inl ⟨p, q, ys, rfl, rfl, h1.sqT, h3.sqT, hp.ret hs (RepV.tup_iff.mpr ⟨q, ys, rfl, h3, h4⟩)⟩)))
        · refine .inr (.inr (.inl ⟨p, q, xs, ys, rfl, rfl, h1.sqT, h3.sqT, hx0, by rw [← h2.length, ← h4.length]; exact lim_ok hl, fun hy0 => ?_, fun _ r hr => ?_⟩))
          · subst hy0
            have hj : j = [] := by have := h4.length; simpa using this
            subst hj
            exact hp.ret hs (RepV.tup_iff.mpr ⟨p, xs, rfl, by rw [List.append_nil]; exact h1, by rw [List.append_nil]; exact h2⟩)
          · exact hp _ _ μ (Grow.lay hr) (hs.lay hr) (RepV.tup_iff.mpr ⟨r, _, rfl, .inl upd_same, (h2.append h4).mono (Grow.lay hr) _⟩)
      · exact hp.elim
    | _ => exact hp.elim
  | loc m =>
    cases dy with
    | loc n =>
      rw [RepV.loc_iff] at hx hy
      obtain ⟨p, h1, rfl⟩ := hx
      obtain ⟨q, h2, rfl⟩ := hy
      simp only [addV] at hp
      split at hp
      · rename_i da db e1 e2
        split at hp
        · rename_i hl
          obtain ⟨p', xs, h3, h4, h5⟩ := hs.lst e1
          obtain ⟨q', ys, h6, h7, h8⟩ := hs.lst e2
          rw [h1] at h3; cases h3
          rw [h2] at h6; cases h6
          exact .inr (.inr (.inr (.inr ⟨p, q, xs, ys, rfl, rfl, h4, h7, by rw [← h5.length, ← h8.length]; exact lim_ok hl, fun r hr => hp.newList hs (h5.append h8) hr⟩)))
        · exact hp.elim
      · exact hp.elim
    | _ => exact hp.elim
  | _ => exact hp.elim
/-- two ints -/
def intV (C : Int → Int → Prop) [∀ i j, Decidable (C i j)] (g : Int → Int → D) : D → D → Stor → R D
  | .int i, .int j, st => if C i j then .ok (g i j) st else .bad
  | _, _, _ => .bad
theorem op_intV {f : Value → Value → Sem Value} {C : Int → Int → Prop} [∀ i j, Decidable (C i j)] {g : Int → Int → D} {gv : Int → Int → V} (h : OpR X f (rI C gv)) (hg : ∀ i j μ H, RepV X.K μ H (g i j) (gv i j)) : OpR X f (rM X (intV C g)) := by
  refine OpR.weak h ?_
  rintro x y H Q ⟨μ, st, dx, dy, hs, hx, hy, hp⟩
  cases dx with
  | int i =>
    cases dy with
    | int j =>
      rw [RepV.int_iff] at hx hy; subst hx hy
      simp only [intV] at hp
      split at hp
      · rename_i hc
        exact ⟨i, j, rfl, rfl, hc, hp.ret hs (hg i j μ H)⟩
      · exact hp.elim
    | _ => exact hp.elim
  | _ => exact hp.elim
theorem OpR.top {f : Value → Value → Sem Value} {gv : Int → Int → V} (h : OpR X f (rI0 gv)) : OpR X f (rI (fun _ _ => True) gv) := OpR.weak h fun x y H Q ⟨i, j, a, b, _, q⟩ => ⟨i, j, a, b, q⟩
def subV : D → D → Stor → R D := intV (fun _ _ => True) fun i j => .int (i - j)
theorem op_subV : OpR X (binaryOp .Sub) (rM X subV) := op_intV (OpR.top op_sub) fun i j μ H => RepV.int_iff.mpr rfl
def mulV : D → D → Stor → R D := intV (fun i j => (-(2 ^ 64) < i ∧ i < 2 ^ 64) ∨ (-(2 ^ 64) < j ∧ j < 2 ^ 64)) fun i j => .int (i * j)
theorem op_mulV : OpR X (binaryOp .Mult) (rM X mulV) := op_intV (OpR.weak op_mul fun x y H Q h => h) fun i j μ H => RepV.int_iff.mpr rfl
def fdivV : D → D → Stor → R D := intV (fun _ j => 0 < j ∧ j < 2 ^ 64) fun i j => .int (i / j)
theorem op_fdivV : OpR X (binaryOp .FloorDiv) (rM X fdivV) := op_intV op_fdivW fun i j μ H => RepV.int_iff.mpr rfl
def modV : D → D → Stor → R D := intV (fun _ j => 0 < j) fun i j => .int (i % j)
theorem op_modV : OpR X (binaryOp .Mod) (rM X modV) := op_intV op_mod fun i j μ H => RepV.int_iff.mpr rfl
def ltV : D → D → Stor → R D := intV (fun _ _ => True) fun i j => .bl (decide (i < j))
theorem op_ltV : OpR X (compareOp .Lt) (rM X ltV) := op_intV (OpR.top op_lt) fun i j μ H => RepV.bl_iff.mpr rfl
def gtV : D → D → Stor → R D := intV (fun _ _ => True) fun i j => .bl (decide (j < i))
theorem op_gtV : OpR X (compareOp .Gt) (rM X gtV) := op_intV (OpR.top op_gt) fun i j μ H => RepV.bl_iff.mpr rfl
def negV : D → Stor → R D
  | .int i, st => .ok (.int (-i)) st
  | _, _ => .bad
theorem un_negV : UnR X (unaryOp .USub) (rM1 X negV) := by
  refine UnR.weak un_neg ?_
  rintro x H Q ⟨μ, st, dx, hs, hx, hp⟩
  cases dx with
  | int i => rw [RepV.int_iff] at hx; subst hx; exact ⟨i, rfl, hp.ret hs (RepV.int_iff.mpr rfl)⟩
  | _ => exact hp.elim
/-- is None, is not None -/
def isNoneV : D → D → Stor → R D
  | .non, .non, st => .ok (.bl true) st
  | _, .non, st => .ok (.bl false) st
  | _, _, _ => .bad
def notNoneV : D → D → Stor → R D
  | .non, .non, st => .ok (.bl false) st
  | _, .non, st => .ok (.bl true) st
  | _, _, _ => .bad
theorem RepV.none_iff' {K : PySem.W.Frag} {μ : List Addr} {H : Hp} {d : D} {v : V} (h : RepV K μ H d v) : decide (v = .non) = (match d with | .non => true | _ => false) := by
  cases d with
  | non => rw [RepV.non_iff] at h; subst h; rfl
  | bl b => rw [RepV.bl_iff] at h; subst h; rfl
  | int b => rw [RepV.int_iff] at h; subst h; rfl
  | str b => rw [RepV.str_iff] at h; subst h; rfl
  | tup b => rw [RepV.tup_iff] at h; obtain ⟨_, _, rfl, _⟩ := h; rfl
  | loc b => rw [RepV.loc_iff] at h; obtain ⟨_, _, rfl⟩ := h; rfl
theorem op_isNoneV : OpR X (compareOp .Is) (rM X isNoneV) := by
  refine OpR.weak op_isN ?_
  rintro x y H Q ⟨μ, st, dx, dy, hs, hx, hy, hp⟩
  cases dy with
  | non =>
    rw [RepV.non_iff] at hy
    refine ⟨hy, ?_⟩
    rw [hx.none_iff']
    cases dx <;> exact hp.ret hs (RepV.bl_iff.mpr rfl)
  | _ => cases dx <;> exact hp.elim
theorem op_notNoneV : OpR X (compareOp .IsNot) (rM X notNoneV) := by
  refine OpR.weak op_notN ?_
  rintro x y H Q ⟨μ, st, dx, dy, hs, hx, hy, hp⟩
  cases dy with
  | non =>
    rw [RepV.non_iff] at hy
    refine ⟨hy, ?_⟩
    rw [hx.none_iff']
    cases dx <;> exact hp.ret hs (RepV.bl_iff.mpr rfl)
  | _ => cases dx <;> exact hp.elim
/-! ### a[b] -/
def ixV : D → D → Stor → R D
  | .loc n, .int i, st => match (itemsAt st n).bind fun ds => atI ds i with | some d => .ok d st | none => .bad
  | .tup ds, .int i, st => match atI ds i with | some d => .ok d st | none => .bad
  | .str cs, .int i, st => if cs.length ≤ 1000000 then (match atI cs i with | some c => .ok (.str [c]) st | none => .bad) else .bad
  | _, _, _ => .bad
theorem RepVs.atI {K : PySem.W.Frag} {μ : List Addr} {H : Hp} {ds : List D} {xs : List V} {i : Int} {d : D} (h : RepVs K μ H ds xs) (e : L2.atI ds i = some d) : ∃ v, L2.atI xs i = some v ∧ RepV K μ H d v := by
  unfold L2.atI at e ⊢
  rw [← h.length]
  cases q : ixN ds.length i with
  | none => rw [q] at e; cases e
  | some j =>
    rw [q] at e
    exact h.get (by simpa using e)
theorem ix_V : IxR X (rM X ixV) := by
  refine IxR.weak ix_seq ?_
  rintro x y H Q ⟨μ, st, dx, dy, hs, hx, hy, hp⟩
  cases dy with
  | int i =>
    rw [RepV.int_iff] at hy; subst hy
    cases dx with
    | loc n =>
      rw [RepV.loc_iff] at hx
      obtain ⟨p, h1, rfl⟩ := hx
      simp only [ixV] at hp
      cases e : itemsAt st n with
      | none => rw [e] at hp; exact hp.elim
      | some ds =>
        rw [e] at hp
        cases e2 : L2.atI ds i with
        | none => simp only [Option.bind_some, e2] at hp; exact hp.elim
        | some d =>
          simp only [Option.bind_some, e2] at hp
          obtain ⟨p', xs, h3, h4, h5⟩ := hs.items e
          rw [h1] at h3; cases h3
          obtain ⟨v, h6, h7⟩ := h5.atI e2
          exact .inl ⟨p, xs, i, v, rfl, rfl, h4, h6, hp.ret hs h7⟩
    | tup ds =>
      rw [RepV.tup_iff] at hx
      obtain ⟨p, xs, rfl, h1, h2⟩ := hx
      simp only [ixV] at hp
      cases e2 : L2.atI ds i with
      | none => simp only [e2] at hp; exact hp.elim
      | some d =>
        simp only [e2] at hp
        obtain ⟨v, h6, h7⟩ := h2.atI e2
        exact .inr (.inl ⟨p, xs, i, v, rfl, rfl, h1.sqT, h6, hp.ret hs h7⟩)
    | str cs =>
      rw [RepV.str_iff] at hx; subst hx
      simp only [ixV] at hp
      split at hp
      · rename_i hl
        cases e2 : L2.atI cs i with
        | none => simp only [e2] at hp; exact hp.elim
        | some c =>
          simp only [e2] at hp
          exact .inr (.inr ⟨_, i, c, rfl, rfl, by rw [strOf_len]; exact lim_ok hl, by simpa [strOf] using e2, hp.ret hs (RepV.str_iff.mpr rfl)⟩)
      · exact hp.elim
    | _ => exact hp.elim
  | _ => cases dx <;> exact hp.elim
theorem je_ix (ha : JE X a ma) (hb : JE X b mb) (hs : PlainIx b := by exact fun _ _ => rfl) : JE X (.Subscript a b pos) (op2 ixV ma mb) :=
  JE.of (pe_ix ix_V ha hb hs) fun σ H Q h => tM_two h
end
end M
namespace M
open PySem PySem.Spec L2
section
variable {X : Cx} {e a b c : Expr} {es : List Expr} {t : TE} {ma mb mc : ME} {mA : MA} {pos p2 : Pos}
/-! ### slices -/
def cut {α : Type} (xs : List α) (lo hi : Option Int) : List α := (xs.drop (HT.sIx xs.length 0 lo)).take (HT.sIx xs.length xs.length hi - HT.sIx xs.length 0 lo)
theorem RepVs.cut {K : PySem.W.Frag} {μ : List Addr} {H : Hp} {ds : List D} {xs : List V} (h : RepVs K μ H ds xs) (lo hi : Option Int) : RepVs K μ H (M.cut ds lo hi) (cutV xs lo hi) := by
  unfold M.cut cutV
  rw [← h.length]
  exact (h.drop _).take _
theorem cut_whole {α : Type} {xs : List α} {lo hi : Option Int} (h : HT.sIx xs.length 0 lo = 0 ∧ HT.sIx xs.length xs.length hi = xs.length) : cut xs lo hi = xs := by
  unfold cut
  rw [h.1, h.2]
  simp
theorem sRange_eq (i j : Nat) : sliceRange (i : Int) (j : Int) 1 = (List.range (j - i)).map fun k => i + k := by
  unfold sliceRange
  simp only [show (1 : Int) > 0 by decide, if_true]
  have e : (if (i : Int) < (j : Int) then ((j : Int) - (i : Int) + 1 - 1) / 1 else 0).toNat = j - i := by
    split
    · rw [Int.ediv_one]; omega
    · omega
  rw [e]
  refine List.map_congr_left fun k _ => ?_
  omega
theorem sIdx_eq (lo hi : Option Int) (n : Nat) : Builtin.Str.strSliceIndices lo hi 1 n = (List.range (HT.sIx n n hi - HT.sIx n 0 lo)).map fun k => HT.sIx n 0 lo + k := by
  rw [← sRange_eq]
  unfold Builtin.Str.strSliceIndices
  simp only [show (1 : Int) > 0 by decide, if_true]
  congr 1
  · cases lo with
    | none => rfl
    | some v =>
      show max 0 (min (if v < 0 then v + (n : Int) else v) (n : Int)) = ((if v < 0 then (v + (n : Int)).toNat else min v.toNat n : Nat) : Int)
      split <;> omega
  · cases hi with
    | none => rfl
    | some v =>
      show max 0 (min (if v < 0 then v + (n : Int) else v) (n : Int)) = ((if v < 0 then (v + (n : Int)).toNat else min v.toNat n : Nat) : Int)
      split <;> omega
theorem pick_cut (cs : List Nat) (i k : Nat) : ((List.range k).map fun m => i + m).filterMap (fun m => cs[m]?) = (cs.drop i).take k := by
  induction k generalizing i with
  | zero => simp
  | succ k ih =>
    rw [List.range_succ_eq_map, List.map_cons, List.filterMap_cons, List.map_map]
    have e : ((fun m => i + m) ∘ Nat.succ) = fun m => (i + 1) + m := by funext m; simp; omega
    rw [e, ih (i + 1)]
    cases q : cs[i]? with
    | none =>
      have hl : cs.length ≤ i := List.getElem?_eq_none_iff.mp q
      simp [q, List.drop_eq_nil_of_le hl, List.drop_eq_nil_of_le (Nat.le_succ_of_le hl)]
    | some c =>
      have hl := (List.getElem?_eq_some_iff.mp q).1
      have hc := (List.getElem?_eq_some_iff.mp q).2
      simp [q, List.drop_eq_getElem_cons hl, hc]
theorem slice_str (cs : List Nat) (lo hi : Option Int) : Txt.slice (strOf cs) lo hi = strOf (cut cs lo hi) := by
  have e : (strOf cs).length = cs.length := by simp [Str.length, strOf]
  unfold Txt.slice
  rw [e, sIdx_eq]
  have hj : HT.sIx cs.length cs.length hi ≤ cs.length := HT.sIx_le _ _ (Nat.le_refl _) hi
  have q : ((List.range (HT.sIx cs.length cs.length hi - HT.sIx cs.length 0 lo)).map fun k => HT.sIx cs.length 0 lo + k).filterMap (fun m => (strOf cs).cps[m]?) = cut cs lo hi := by
    have : (fun (m : Nat) => (strOf cs).cps[m]?) = fun (m : Nat) => cs[m]? := by funext m; simp [strOf]
    rw [this, pick_cut]; rfl
  split
  · rename_i h
    rw [Bool.and_eq_true] at h
    have h2 : HT.sIx cs.length cs.length hi - HT.sIx cs.length 0 lo = cs.length := by simpa using h.2
    have h3 : cut cs lo hi = cs := by
      unfold cut
      rw [h2]
      by_cases hz : cs.length = 0
      · have : cs = [] := List.length_eq_zero_iff.mp hz
        subst this; simp
      · have : HT.sIx cs.length 0 lo = 0 := by omega
        rw [this]; simp
    rw [h3]
  · rw [q]
def slV : D → Option Int → Option Int → Stor → R D
  | .loc n, lo, hi, st => match itemsAt st n with | some ds => .ok (.loc st.length) (st ++ [.lst (cut ds lo hi)]) | none => .bad
  | .tup ds, lo, hi, st => .ok (.tup (cut ds lo hi)) st
  | .str cs, lo, hi, st => if cs.length ≤ 1000000 then .ok (.str (cut cs lo hi)) st else .bad
  | _, _, _, _ => .bad
def rMS (X : Cx) (g : D → Option Int → Option Int → Stor → R D) : V → Option Int → Option Int → Hp → VK → Prop := fun x lo hi H Q => ∃ μ st dx, RepS X.K μ H st ∧ RepV X.K μ H dx x ∧ Post X μ H (relV X) Q (g dx lo hi st)
def rSlS : V → Option Int → Option Int → Hp → VK → Prop := fun x lo hi H Q => ∃ cs, x = .str (strOf cs) ∧ cs.length ≤ sizeLine ∧ Q (.str (strOf (cut cs lo hi))) H
theorem sl_str : SlR X rSlS := by
  intro pins s σ H x v vl vu lo hi sl Q I rx hs pl pu h
  obtain ⟨cs, rfl, hz, q⟩ := h
  obtain ⟨t, rfl⟩ := rx
  obtain ⟨l, el, ml⟩ : ∃ l : Option (Int × Tok), vl = partValue l ∧ l.map (·.1) = lo := by
    cases pl with
    | none => exact ⟨none, rfl, rfl⟩
    | int i u => exact ⟨some (i, u), rfl, rfl⟩
  obtain ⟨u, eu, mu⟩ : ∃ l : Option (Int × Tok), vu = partValue l ∧ l.map (·.1) = hi := by
    cases pu with
    | none => exact ⟨none, rfl, rfl⟩
    | int i u => exact ⟨some (i, u), rfl, rfl⟩
  subst el eu
  have hs' : s.heap.IsSlice sl l u none := hs
  refine ⟨"str", _, F.slot_str_getitem.lookup, typeIs_str _ _ _, wpAny_getItem_str_slice (l := l) (u := u) (st := none) hs' rfl ?_⟩
  have e : Txt.slice (strOf cs) lo hi = strOf (cut cs lo hi) := slice_str cs lo hi
  unfold Txt.slice at e
  unfold sliceMade slicePicked
  rw [ml, mu]
  split
  · rename_i h
    have h' : ((1 : Int) == 1 && (Builtin.Str.strSliceIndices lo hi 1 (strOf cs).length).length == (strOf cs).length) = true := h
    rw [if_pos h'] at e
    exact ⟨.str (strOf cs), H, I, ⟨t, rfl⟩, by rw [← e] at q; exact q⟩
  · rename_i h
    have h' : ¬ ((1 : Int) == 1 && (Builtin.Str.strSliceIndices lo hi 1 (strOf cs).length).length == (strOf cs).length) = true := h
    rw [if_neg h'] at e
    have e' : ({ cps := ((Builtin.Str.strSliceIndices lo hi ((Option.map (·.1) (none : Option (Int × Tok))).getD 1) (strOf cs).length).filterMap fun x => (strOf cs).cps[x]?).toArray } : Str) = strOf (cut cs lo hi) := e
    rw [e']
    refine ⟨?_, .str (strOf (cut cs lo hi)), H, I.tok _, ⟨_, rfl⟩, q⟩
    have : (strOf (cut cs lo hi)).length = (cut cs lo hi).length := by simp [Str.length, strOf]
    rw [this]
    refine Nat.le_trans ?_ hz
    unfold cut
    rw [List.length_take, List.length_drop]
    omega
theorem sl_V : SlR X (rMS X slV) := by
  refine SlR.weak (SlR.or sl_list (SlR.or sl_tup (SlR.or sl_tupW sl_str))) ?_
  rintro x lo hi H Q ⟨μ, st, dx, hs, hx, hp⟩
  cases dx with
  | loc n =>
    rw [RepV.loc_iff] at hx
    obtain ⟨p, h1, rfl⟩ := hx
    simp only [slV] at hp
    cases e : itemsAt st n with
    | none => rw [e] at hp; exact hp.elim
    | some ds =>
      rw [e] at hp
      obtain ⟨p', xs, h3, h4, h5⟩ := hs.items e
      rw [h1] at h3; cases h3
      exact .inl ⟨p, xs, rfl, h4, fun q hq => hp.newList hs (h5.cut lo hi) hq⟩
  | tup ds =>
    rw [RepV.tup_iff] at hx
    obtain ⟨p, xs, rfl, h1, h2⟩ := hx
    by_cases hw : HT.sIx xs.length 0 lo = 0 ∧ HT.sIx xs.length xs.length hi = xs.length
    · refine .inr (.inr (.inl ⟨p, xs, rfl, h1.sqT, hw, hp.ret hs ?_⟩))
      rw [← h2.length] at hw
      rw [cut_whole hw]; exact RepV.tup_iff.mpr ⟨p, xs, rfl, h1, h2⟩
    · exact .inr (.inl ⟨p, xs, rfl, h1.sqT, hw, fun q hq => hp _ _ μ (Grow.lay hq) (hs.lay hq) (RepV.tup_iff.mpr ⟨q, _, rfl, .inl upd_same, (h2.cut lo hi).mono (Grow.lay hq) _⟩)⟩)
  | str cs =>
    rw [RepV.str_iff] at hx; subst hx
    simp only [slV] at hp
    split at hp
    · rename_i hl
      exact .inr (.inr (.inr ⟨cs, rfl, lim_ok hl, hp.ret hs (RepV.str_iff.mpr rfl)⟩))
    · exact hp.elim
  | _ => exact hp.elim
def noP : MP := fun _ st => .ok none st
def inP (m : ME) : MP := fun env st => (m env st).bind fun x st1 => match x with | .int i => .ok (some i) st1 | _ => .bad
theorem jp_none : JP X none noP := JP.of po_none fun σ H Q ⟨μ, env, st, hE, hs, hp⟩ => hp.ret hs rfl
theorem jp_some {m : ME} (h : JE X e m) : JP X (some e) (inP m) := by
  refine JP.of (po_some h) fun σ H Q ⟨μ, env, st, hE, hs, hp⟩ => ⟨μ, env, st, hE, hs, hp.bind.imp ?_⟩
  rintro x H1 ⟨μ1, st1, d, g1, hs1, hx, hp1⟩
  cases d with
  | int i => exact ⟨i, RepV.int_iff.mp hx, hp1.ret hs1 rfl⟩
  | _ => exact hp1.elim
def slE (a : ME) (l h : MP) : ME := fun env st => (a env st).bind fun x st1 => (l env st1).bind fun lo st2 => (h env st2).bind fun hi st3 => slV x lo hi st3
theorem je_slice {lo hi : Option Expr} {ml mh : MP} (he : JE X e ma) (hl : JP X lo ml) (hu : JP X hi mh) : JE X (.Subscript e (.Slice lo hi none p2) pos) (slE ma ml mh) := by
  refine JE.of (pe_slice sl_V he hl hu) fun σ H Q ⟨μ, env, st, hE, hs, hp⟩ => ⟨μ, env, st, hE, hs, hp.bind.imp ?_⟩
  rintro x H1 ⟨μ1, st1, d, g1, hs1, hx, hp1⟩
  refine ⟨μ1, env, st1, hE.mono g1, hs1, hp1.bind.imp ?_⟩
  rintro l H2 ⟨μ2, st2, l', g2, hs2, rfl, hp2⟩
  refine ⟨μ2, env, st2, (hE.mono g1).mono g2, hs2, hp2.bind.imp ?_⟩
  rintro u H3 ⟨μ3, st3, u', g3, hs3, rfl, hp3⟩
  exact ⟨μ3, st3, d, hs3, hx.mono (g2.trans g3) _, hp3⟩
/-! ### calls of built-ins and their methods -/
def callE (g : List D → Stor → R D) (mA : MA) : ME := fun env st => (mA env st).bind fun ds st1 => g ds st1
theorem tMA_call {g : List D → Stor → R D} {σ : L2.St} {H : Hp} {Q : VK} (h : tM X (callE g mA) σ H Q) : tMA X mA σ H fun vs H1 => rMC X g vs H1 Q := by
  obtain ⟨μ, env, st, hE, hs, hp⟩ := h
  refine ⟨μ, env, st, hE, hs, hp.bind.imp ?_⟩
  rintro xs H1 ⟨μ1, st1, ds, g1, hs1, hx, hp1⟩
  exact ⟨μ1, st1, ds, hs1, hx, hp1⟩
theorem je_callB {x : Str} {p : Pos} {id : String} {g : List D → Stor → R D} (hc : CallR X (.builtin id) (rMC X g)) (hg : Gl X x) (hm : X.mg x = none) (hv : bootBuiltins x = some (.builtin id)) (ha : JA X (e :: es) mA) (hn : x ≠ "__name__" := by decide) (hdb : (x == ("__debug__" : Str)) = false := by decide)
    (he : starEach (e :: es) X.env = (false, eval e X.env) :: starEach es X.env := by rfl) (hpl : (backTo pos (starEach es X.env)).any (·.1) = false := by rfl) : JE X (.Call (.Name x p) (e :: es) [] pos) (callE g mA) :=
  JE.of (pe_callB hc hg hm hv ha hn hdb he hpl) fun σ H Q h => tMA_call h
theorem je_callTy {x : Str} {p : Pos} {T : String} {g : List D → Stor → R D} (hc : CallR X (.type T) (rMC X g)) (hg : Gl X x) (hm : X.mg x = none) (hv : bootBuiltins x = some (.type T)) (ha : JA X (e :: es) mA) (hn : x ≠ "__name__" := by decide) (hdb : (x == ("__debug__" : Str)) = false := by decide)
    (he : starEach (e :: es) X.env = (false, eval e X.env) :: starEach es X.env := by rfl) (hpl : (backTo pos (starEach es X.env)).any (·.1) = false := by rfl) : JE X (.Call (.Name x p) (e :: es) [] pos) (callE g mA) :=
  JE.of (pe_callTy hc hg hm hv ha hn hdb he hpl) fun σ H Q h => tMA_call h
end
end M
namespace M
open PySem PySem.Spec L2
/-! ### statements -/
inductive Out where
  | nx (env : MEnv) | rt (d : D) | bk (env : MEnv) | cn (env : MEnv)
abbrev MS := MEnv → Stor → R Out
def PostS (X : Cx) (μ : List Addr) (H : Hp) (E : Ends) (r : R Out) : Prop := match r with
  | .ok (.nx env) st => ∀ (σ' : L2.St) (H' : Hp) (μ' : List Addr), Grow μ H μ' H' → RepS X.K μ' H' st → RepE X.K μ' H' env σ' → E.nx σ' H'
  | .ok (.rt d) st => ∀ (v : V) (H' : Hp) (μ' : List Addr), Grow μ H μ' H' → RepS X.K μ' H' st → RepV X.K μ' H' d v → E.rt v H'
  | .ok (.bk env) st => ∀ (σ' : L2.St) (H' : Hp) (μ' : List Addr), Grow μ H μ' H' → RepS X.K μ' H' st → RepE X.K μ' H' env σ' → E.bk σ' H'
  | .ok (.cn env) st => ∀ (σ' : L2.St) (H' : Hp) (μ' : List Addr), Grow μ H μ' H' → RepS X.K μ' H' st → RepE X.K μ' H' env σ' → E.ct σ' H'
  | .err x st => ErrOK X μ H x st
  | .bad => False
def tMS (X : Cx) (m : MS) : TS := fun E σ H => ∃ μ env st, RepE X.K μ H env σ ∧ RepS X.K μ H st ∧ PostS X μ H E (m env st)
def JS (X : Cx) (s : Stmt) (m : MS) : Prop := PS X s (tMS X m)
def JSs (X : Cx) (s : List Stmt) (m : MS) : Prop := PSs X s (tMS X m)
section
variable {X : Cx} {e a b c : Expr} {es : List Expr} {t : TE} {ma mb mc : ME} {mA : MA} {pos p2 : Pos} {s : Stmt} {ss : List Stmt} {m m1 m2 : MS} {μ μ1 : List Addr} {H H1 : Hp} {E E' : Ends} {r : R Out}
theorem PostS.mono (g : Grow μ H μ1 H1) (h : PostS X μ H E r) : PostS X μ1 H1 E r := by
  match r, h with
  | .ok (.nx _) _, h => exact fun σ' H' μ' g' => h σ' H' μ' (g.trans g')
  | .ok (.rt _) _, h => exact fun σ' H' μ' g' => h σ' H' μ' (g.trans g')
  | .ok (.bk _) _, h => exact fun σ' H' μ' g' => h σ' H' μ' (g.trans g')
  | .ok (.cn _) _, h => exact fun σ' H' μ' g' => h σ' H' μ' (g.trans g')
  | .err _ _, h => exact ErrOK.mono g h
  | .bad, h => exact h
theorem JS.of {t : TS} (h : PS X s t) (k : ∀ E σ H, tMS X m E σ H → t E σ H) : JS X s m := fun pins s σ H D I q => h pins s σ H D I (k D σ H q)
theorem JSs.of {t : TS} (h : PSs X ss t) (k : ∀ E σ H, tMS X m E σ H → t E σ H) : JSs X ss m := fun pins s σ H D I q => h pins s σ H D I (k D σ H q)
theorem PostS.nx {env : MEnv} {st : Stor} {σ : L2.St} (h : PostS X μ H E (.ok (.nx env) st)) (hs : RepS X.K μ H st) (hE : RepE X.K μ H env σ) : E.nx σ H := h σ H μ (.refl _ _) hs hE
def skipS : MS := fun env st => .ok (.nx env) st
def seqS (a b : MS) : MS := fun env st => (a env st).bind fun o st1 => match o with | .nx env1 => b env1 st1 | o => .ok o st1
def retS (m : ME) : MS := fun env st => (m env st).bind fun d st1 => .ok (.rt d) st1
def exprS (m : ME) : MS := fun env st => (m env st).bind fun _ st1 => .ok (.nx env) st1
def ifS (c : MT) (a b : MS) : MS := fun env st => (c env st).bind fun x st1 => if x then a env st1 else b env st1
theorem js_nil : JSs X [] skipS := JSs.of pss_nil fun E σ H ⟨μ, env, st, hE, hs, hp⟩ => hp.nx hs hE
theorem js_one (h : JS X s m) : JSs X [s] m := pss_one h
theorem PostS.seq (h : PostS X μ H E (r.bind fun o st1 => match o with | .nx env1 => m2 env1 st1 | o => .ok o st1)) : PostS X μ H { E with nx := tMS X m2 E } r := by
  match r, h with
  | .ok (.nx env1) st1, h => exact fun σ' H' μ' g hs hE => ⟨μ', env1, st1, hE, hs, PostS.mono g h⟩
  | .ok (.rt _) _, h => exact h
  | .ok (.bk _) _, h => exact h
  | .ok (.cn _) _, h => exact h
  | .err _ _, h => exact h
  | .bad, h => exact h
theorem js_cons (h1 : JS X s m1) (h2 : JSs X ss m2) : JSs X (s :: ss) (seqS m1 m2) :=
  JSs.of (pss_cons h1 h2) fun E σ H ⟨μ, env, st, hE, hs, hp⟩ => ⟨μ, env, st, hE, hs, PostS.seq hp⟩
/-- an expression's value handed to a statement's rest -/
theorem PostS.val {α β : Type} {rel : Rel α β} {r : R α} {f : α → Stor → R Out} (h : PostS X μ H E (r.bind f)) : Post X μ H rel (fun b H1 => ∃ μ1 st1 a, Grow μ H μ1 H1 ∧ RepS X.K μ1 H1 st1 ∧ rel μ1 H1 a b ∧ PostS X μ1 H1 E (f a st1)) r := by
  cases r with
  | ok a st => exact fun b H' μ' g h1 h2 => ⟨μ', st, a, g, h1, h2, PostS.mono g h⟩
  | err x st => exact h
  | bad => exact h
theorem js_ret (h : JE X e ma) : JS X (.Return (some e) pos) (retS ma) := by
  refine JS.of (ps_ret h) fun E σ H ⟨μ, env, st, hE, hs, hp⟩ => ⟨μ, env, st, hE, hs, hp.val.imp ?_⟩
  rintro v H1 ⟨μ1, st1, d, g1, hs1, hv, hp1⟩
  exact hp1 v H1 μ1 (.refl _ _) hs1 hv
theorem js_expr (h : JE X e ma) (hs : swapsWith e none pos.line X.env = pure false := by rfl) : JS X (.Expr e pos) (exprS ma) := by
  refine JS.of (ps_expr h hs) fun E σ H ⟨μ, env, st, hE, hs, hp⟩ => ⟨μ, env, st, hE, hs, hp.val.imp ?_⟩
  rintro v H1 ⟨μ1, st1, d, g1, hs1, hv, hp1⟩
  exact hp1.nx hs1 (hE.mono g1)
theorem js_if {sa sb : List Stmt} {tc : MT} (hc : JT X c tc) (ha : JSs X sa m1) (hb : JSs X sb m2) : JS X (.If c sa sb pos) (ifS tc m1 m2) := by
  refine JS.of (ps_if hc ha hb) fun E σ H ⟨μ, env, st, hE, hs, hp⟩ => ⟨μ, env, st, hE, hs, hp.val.imp ?_⟩
  rintro v H1 ⟨μ1, st1, d, g1, hs1, rfl, hp1⟩
  cases d with
  | true => exact iteT ⟨μ1, env, st1, hE.mono g1, hs1, hp1⟩
  | false => exact iteF ⟨μ1, env, st1, hE.mono g1, hs1, hp1⟩
/-! ### targets -/
abbrev MG := D → MEnv → Stor → R MEnv
abbrev MGs := List D → MEnv → Stor → R MEnv
abbrev relE (X : Cx) : Rel MEnv L2.St := fun μ H env σ => RepE X.K μ H env σ
def tMG (X : Cx) (m : MG) : TG := fun v σ H Q => ∃ μ env st d, RepE X.K μ H env σ ∧ RepS X.K μ H st ∧ RepV X.K μ H d v ∧ Post X μ H (relE X) Q (m d env st)
def tMGs (X : Cx) (m : MGs) : TGs := fun vs σ H Q => ∃ μ env st ds, RepE X.K μ H env σ ∧ RepS X.K μ H st ∧ RepVs X.K μ H ds vs ∧ Post X μ H (relE X) Q (m ds env st)
def JG (X : Cx) (t : Expr) (m : MG) : Prop := PG X t (tMG X m)
def JGs (X : Cx) (ts : List Expr) (m : MGs) : Prop := PGs X ts (tMGs X m)
theorem JG.of {g : TG} {m : MG} (h : PG X e g) (k : ∀ v σ H Q, tMG X m v σ H Q → g v σ H Q) : JG X e m := fun pins s σ H v u Q I r q => h pins s σ H v u Q I r (k v σ H Q q)
theorem JGs.of {g : TGs} {m : MGs} (h : PGs X es g) (k : ∀ v σ H Q, tMGs X m v σ H Q → g v σ H Q) : JGs X es m := fun pins s σ H v u Q I r q => h pins s σ H v u Q I r (k v σ H Q q)
def nameG (i : Nat) : MG := fun d env st => .ok (env.set i (some d)) st
theorem jg_name (i : Nat) {x : Str} (hN : X.N.Nodup) (hi : X.N[i]? = some x := by rfl) (hx : Loc X.env.scope x := by first | exact Or.inl rfl | exact Or.inr rfl) (hf : X.fn x = true ∨ X.env.scope.names.lookup x = some .local := by first | exact .inl rfl | exact .inr rfl | assumption) : JG X (.Name x pos) (nameG i) :=
  JG.of (pg_name hN hi hx hf) fun v σ H Q ⟨μ, env, st, d, hE, hs, hv, hp⟩ => hp.ret hs (hE.set hv)
def nilG : MGs := fun ds env st => match ds with | [] => .ok env st | _ => .bad
def consG (g : MG) (r : MGs) : MGs := fun ds env st => match ds with | d :: ds => (g d env st).bind fun env1 st1 => r ds env1 st1 | _ => .bad
theorem jgs_nil : JGs X [] nilG := JGs.of pgs_nil fun vs σ H Q ⟨μ, env, st, ds, hE, hs, hv, hp⟩ => by
  cases ds with
  | nil => rw [RepVs] at hv; exact ⟨hv, hp.ret hs hE⟩
  | cons _ _ => exact hp.elim
theorem jgs_cons {g : MG} {gs : MGs} (h1 : JG X e g) (h2 : JGs X es gs) (hs : (assignEach (e :: es) X.env).map (·.2) = assign e X.env :: (assignEach es X.env).map (·.2) := by rfl) : JGs X (e :: es) (consG g gs) :=
  JGs.of (pgs_cons h1 h2 hs) fun vs σ H Q ⟨μ, env, st, ds, hE, hs, hv, hp⟩ => by
  cases ds with
  | nil => exact hp.elim
  | cons d ds =>
    rw [RepVs] at hv
    obtain ⟨v, r, rfl, h3, h4⟩ := hv
    refine ⟨v, r, rfl, μ, env, st, d, hE, hs, h3, (Post.bind hp).imp ?_⟩
    rintro σ1 H1 ⟨μ1, st1, env1, g1, hs1, hE1, hp1⟩
    exact ⟨μ1, env1, st1, ds, hE1, hs1, h4.mono g1 _, hp1⟩
def tupG (n : Nat) (g : MGs) : MG := fun d env st => match d with | .tup ds => if ds.length = n then g ds env st else .bad | _ => .bad
theorem jg_tup {gs : MGs} {k : Nat} (n : Nat) (hc : X.calm = true) (h : JGs X es gs) (hn : (assignEach es X.env).length = n := by rfl) (hst : (assignEach es X.env).findIdx? (·.1) = none := by rfl) : JG X (.Tuple es k pos) (tupG n gs) :=
  JG.of (pg_tup hc h hn hst) fun v σ H Q ⟨μ, env, st, d, hE, hs, hv, hp⟩ => by
  cases d with
  | tup ds =>
    rw [RepV.tup_iff] at hv
    obtain ⟨p, xs, rfl, h1, h2⟩ := hv
    simp only [tupG] at hp
    split at hp
    · rename_i hl
      exact ⟨p, xs, rfl, h1.sqT, by rw [← h2.length]; exact hl, μ, env, st, ds, hE, hs, h2, hp⟩
    · exact hp.elim
  | _ => exact hp.elim
/-- o[i] = v of a list -/
def setV : D → D → D → Stor → R Unit
  | .loc n, .int i, d, st => match st[n]? with
    | some (.lst ds) => (match ixN ds.length i with | some j => .ok () (st.set n (.lst (ds.set j d))) | none => .bad)
    | _ => .bad
  | _, _, _, _ => .bad
abbrev relU : Rel Unit Unit := fun _ _ _ _ => True
def rMSet (X : Cx) (g : D → D → D → Stor → R Unit) : TSet := fun o i v H Q => ∃ μ st d1 d2 d3, RepS X.K μ H st ∧ RepV X.K μ H d1 o ∧ RepV X.K μ H d2 i ∧ RepV X.K μ H d3 v ∧ Post X μ H relU (fun _ => Q) (g d1 d2 d3 st)
/-- a list of the store is written -/
theorem putLst {st : Stor} {n : Nat} {ds ds' : List D} {p : Addr} {xs ys : List V} (hs : RepS X.K μ H st) (e : st[n]? = some (.lst ds)) (hp : μ[n]? = some p) (hx : H p = some (.lst xs)) (hy : RepVs X.K μ H ds' ys) :
    Grow μ H μ (upd H p (.lst ys)) ∧ RepS X.K μ (upd H p (.lst ys)) (st.set n (.lst ds')) := by
  have g : Ext H (upd H p (.lst ys)) := Ext.mut hx (fun _ z => nomatch z) (fun _ _ z => nomatch z)
  have g' : Grow μ H μ (upd H p (.lst ys)) := ⟨⟨[], by simp⟩, g⟩
  exact ⟨g', hs.put e rfl rfl hp g ⟨ys, upd_same, hy.mono g' _⟩⟩
theorem set_V : PSet X (rMSet X setV) := by
  refine PSet.weak set_list ?_
  rintro o i v H Q ⟨μ, st, d1, d2, d3, hs, h1, h2, h3, hp⟩
  cases d1 with
  | loc n =>
    cases d2 with
    | int k =>
      rw [RepV.loc_iff] at h1
      rw [RepV.int_iff] at h2
      obtain ⟨p, hn, rfl⟩ := h1
      subst h2
      simp only [setV] at hp
      cases e : st[n]? with
      | none => rw [e] at hp; exact hp.elim
      | some mo =>
        cases mo with
        | lst ds =>
          rw [e] at hp
          simp only at hp
          obtain ⟨p', xs, q1, q2, q3⟩ := hs.lst e
          rw [hn] at q1; cases q1
          cases e2 : ixN ds.length k with
          | none => rw [e2] at hp; exact hp.elim
          | some j =>
            rw [e2] at hp
            obtain ⟨g, hs'⟩ := putLst hs e hn q2 (RepVs.set h3 j q3)
            exact ⟨p, xs, k, j, rfl, rfl, q2, by rw [← q3.length]; exact e2, hp () _ μ g hs' trivial⟩
        | _ => rw [e] at hp; exact hp.elim
    | _ => exact hp.elim
  | _ => exact hp.elim
def subG (g : D → D → D → Stor → R Unit) (o i : ME) : MG := fun d env st => (o env st).bind fun x st1 => (i env st1).bind fun y st2 => (g x y d st2).bind fun _ st3 => .ok env st3
theorem jg_sub {o i : Expr} {mo mi : ME} {g : D → D → D → Stor → R Unit} (hset : PSet X (rMSet X g)) (ho : JE X o mo) (hi : JE X i mi)
    (ha : ∀ v, assign (.Subscript o i pos) X.env v = (do
      let ov ← holding [v] (eval o X.env)
      let iv ← holding [v, ov] (eval i X.env)
      standAt pos
      holding [v, ov, iv] (setItem ov iv v)
      release [v, ov, iv] []) := by intro _; rfl) : JG X (.Subscript o i pos) (subG g mo mi) := by
  refine JG.of (pg_sub ho hi hset ha) fun v σ H Q ⟨μ, env, st, d, hE, hs, hv, hp⟩ => ⟨μ, env, st, hE, hs, (Post.bind hp).imp ?_⟩
  rintro x H1 ⟨μ1, st1, dx, g1, hs1, hx, hp1⟩
  refine ⟨μ1, env, st1, hE.mono g1, hs1, (Post.bind hp1).imp ?_⟩
  rintro y H2 ⟨μ2, st2, dy, g2, hs2, hy, hp2⟩
  refine ⟨μ2, st2, dx, dy, d, hs2, hx.mono g2 _, hy, (hv.mono g1 _).mono g2 _, (Post.bind hp2).imp ?_⟩
  rintro _ H3 ⟨μ3, st3, _, g3, hs3, _, hp3⟩
  exact hp3.ret hs3 (((hE.mono g1).mono g2).mono g3)
def asgS (m : ME) (g : MG) : MS := fun env st => (m env st).bind fun d st1 => (g d env st1).bind fun env1 st2 => .ok (.nx env1) st2
theorem js_asg {tg : Expr} {g : MG} (he : JE X e ma) (hg : JG X tg g) (hs : swapsWithSole [tg] e pos.line X.env = pure false := by rfl) (hw : swappedStores [tg] e X.env = pure none := by rfl) (h1 : (assignEach [tg] X.env).map (·.2) = [assign tg X.env] := by rfl) : JS X (.Assign [tg] e pos) (asgS ma g) := by
  refine JS.of (ps_asg he hg hs hw h1) fun E σ H ⟨μ, env, st, hE, hs, hp⟩ => ⟨μ, env, st, hE, hs, hp.val.imp ?_⟩
  rintro x H1 ⟨μ1, st1, d, g1, hs1, hx, hp1⟩
  refine ⟨μ1, env, st1, d, hE.mono g1, hs1, hx, hp1.val.imp ?_⟩
  rintro σ2 H2 ⟨μ2, st2, env2, g2, hs2, hE2, hp2⟩
  exact hp2.nx hs2 hE2
def setS (i : Nat) (m : ME) : MS := asgS m (nameG i)
/-- name = value -/
theorem js_set (i : Nat) {x : Str} {pos' : Pos} (he : JE X e ma) (hN : X.N.Nodup) (hi : X.N[i]? = some x := by rfl) (hx : Loc X.env.scope x := by first | exact Or.inl rfl | exact Or.inr rfl) (hs : swapsWith e (some (.Name x pos')) pos.line X.env = pure false := by rfl)
    (hf : X.fn x = true ∨ X.env.scope.names.lookup x = some .local := by first | exact .inl rfl | exact .inr rfl | assumption) : JS X (.Assign [.Name x pos'] e pos) (setS i ma) := by
  refine JS.of (ps_set hN hi hx he hs hf) fun E σ H ⟨μ, env, st, hE, hs, hp⟩ => ⟨μ, env, st, hE, hs, hp.val.imp ?_⟩
  rintro x H1 ⟨μ1, st1, d, g1, hs1, hx, hp1⟩
  exact hp1.nx hs1 ((hE.mono g1).set hx)
end
end M
namespace M
open PySem PySem.Spec L2
/-! ### while -/
section
variable {X : Cx} {e a b c : Expr} {es : List Expr} {t : TE} {ma mb mc : ME} {mA : MA} {pos p2 : Pos} {s : Stmt} {ss body : List Stmt} {m m1 m2 mb : MS} {μ μ1 : List Addr} {H H1 : Hp} {E E' : Ends} {r : R Out} {tc : MT}
/-- what a loop's body hands on -/
theorem PostS.loop {nxt : MEnv → Stor → R Out} {N : L2.St → Hp → Prop}
    (h : PostS X μ H E (r.bind fun o st2 => (match o with
      | .nx env2 => nxt env2 st2
      | .cn env2 => nxt env2 st2
      | .bk env2 => .ok (.nx env2) st2
      | .rt d => .ok (.rt d) st2)))
    (hN : ∀ env2 st2 σ' H' μ', Grow μ H μ' H' → RepS X.K μ' H' st2 → RepE X.K μ' H' env2 σ' → PostS X μ' H' E (nxt env2 st2) → N σ' H') :
    PostS X μ H { E with nx := N, ct := N, bk := E.nx } r := by
  match r, h with
  | .ok (.nx env1) st1, h => exact fun σ' H' μ' g hs hE => hN env1 st1 σ' H' μ' g hs hE (PostS.mono g h)
  | .ok (.cn env1) st1, h => exact fun σ' H' μ' g hs hE => hN env1 st1 σ' H' μ' g hs hE (PostS.mono g h)
  | .ok (.rt _) _, h => exact h
  | .ok (.bk _) _, h => exact h
  | .err _ _, h => exact h
  | .bad, h => exact h
/-! ### what is walked -/
/-- the items, and the objects of the store that must stay as they are meanwhile -/
abbrev Src := List D × List (Nat × MO)
abbrev MI := MEnv → Stor → R Src
def okG (gs : List (Nat × MO)) (st : Stor) : Prop := ∀ g ∈ gs, st[g.1]? = some g.2
@[simp] theorem okG_nil (st : Stor) : okG [] st := fun _ h => nomatch h
@[simp] theorem okG_cons (g : Nat × MO) (gs : List (Nat × MO)) (st : Stor) : okG (g :: gs) st ↔ st[g.1]? = some g.2 ∧ okG gs st := by simp [okG]
def ItRep (X : Cx) (μ : List Addr) (H : Hp) (J : It) (s : Src) : Prop := ∀ (H' : Hp) (μ' : List Addr) (st' : Stor), Grow μ H μ' H' → RepS X.K μ' H' st' → okG s.2 st' →
  (∀ (i : Nat) (d : D), s.1[i]? = some d → J.go i H' ∧ ∀ x H'', J.yld i H' x H'' → Grow μ' H' μ' H'' ∧ RepS X.K μ' H'' st' ∧ RepV X.K μ' H'' d x) ∧ J.stop s.1.length H'
abbrev relI (X : Cx) : Rel Src It := fun μ H s J => ItRep X μ H J s
def tMI (X : Cx) (m : MI) : TI := fun σ H Q => ∃ μ env st, RepE X.K μ H env σ ∧ RepS X.K μ H st ∧ Post X μ H (relI X) (fun J H' => Q J H') (m env st)
def JI (X : Cx) (tg iter : Expr) (m : MI) : Prop := PI X tg iter (tMI X m)
theorem JI.of {tg iter : Expr} {wi : TI} {m : MI} (h : PI X tg iter wi) (k : ∀ σ H Q, tMI X m σ H Q → wi σ H Q) : JI X tg iter m := fun pins s σ H R I q => h pins s σ H R I (k σ H R q)
open Classical in
noncomputable def forGo (g : MG) (b : MS) (gs : List (Nat × MO)) : List D → MS
  | [], env, st => if okG gs st then .ok (.nx env) st else .bad
  | d :: r, env, st => if okG gs st then (g d env st).bind fun env1 st1 => (b env1 st1).bind fun o st2 => (match o with
      | .nx env2 => forGo g b gs r env2 st2
      | .cn env2 => forGo g b gs r env2 st2
      | .bk env2 => .ok (.nx env2) st2
      | .rt d => .ok (.rt d) st2) else .bad
noncomputable def forS (mi : MI) (g : MG) (b : MS) : MS := fun env st => (mi env st).bind fun s st1 => forGo g b s.2 s.1 env st1
theorem js_for {tg iter : Expr} {mi : MI} {g : MG} (hi : JI X tg iter mi) (hg : JG X tg g) (hb : JSs X body mb) (hp : PassesOwn (model X.prog X.w) X.A X.env X.xe) (hc : X.calm = true)
    (hs : ∀ x, foldedSetIterable iter X.env x = pure x := by intro _; rfl) : JS X (.For tg iter body [] pos) (forS mi g mb) := by
  refine JS.of (ps_for hp hc hi hg hb hs) fun E σ H ⟨μ, env, st, hE, hs, hp⟩ => ⟨μ, env, st, hE, hs, (PostS.val hp).imp ?_⟩
  rintro J H1 ⟨μ1, st1, s, g1, hs1, hJ, hp1⟩
  refine ⟨fun i k σ H => ∃ μ2 env2 st2, Grow μ1 H1 μ2 H ∧ RepE X.K μ2 H env2 σ ∧ RepS X.K μ2 H st2 ∧ PostS X μ2 H E (forGo g mb s.2 (s.1.drop i) env2 st2) ∧ i ≤ s.1.length ∧ k = s.1.length - i,
    ⟨_, μ1, env, st1, .refl _ _, hE.mono g1, hs1, by simpa using hp1, Nat.zero_le _, rfl⟩, ?_⟩
  rintro i k σ2 H2 ⟨μ2, env2, st2, g2, hE2, hs2, hp2, hi, rfl⟩
  by_cases hlt : i < s.1.length
  · have e1 : s.1.drop i = s.1[i] :: s.1.drop (i + 1) := List.drop_eq_getElem_cons hlt
    rw [e1, forGo] at hp2
    by_cases ok : okG s.2 st2
    · rw [if_pos ok] at hp2
      obtain ⟨q1, q2⟩ := (hJ H2 μ2 st2 g2 hs2 ok).1 i s.1[i] (List.getElem?_eq_getElem hlt)
      refine .inr ⟨q1, fun σ' H' => ∃ μ3 env3 st3, Grow μ1 H1 μ3 H' ∧ RepE X.K μ3 H' env3 σ' ∧ RepS X.K μ3 H' st3 ∧ PostS X μ3 H' E (forGo g mb s.2 (s.1.drop (i + 1)) env3 st3), ?_, ?_⟩
      · rintro σ' H' ⟨μ3, env3, st3, g3, hE3, hs3, hp3⟩
        exact ⟨s.1.length - (i + 1), by omega, μ3, env3, st3, g3, hE3, hs3, hp3, by omega, rfl⟩
      · intro x H3 hx
        obtain ⟨g3, hs3, hd⟩ := q2 x H3 hx
        refine ⟨μ2, env2, st2, s.1[i], hE2.mono g3, hs3, hd, (PostS.val (PostS.mono g3 hp2)).imp ?_⟩
        rintro σ4 H4 ⟨μ4, st4, env4, g4, hs4, hE4, hp4⟩
        refine ⟨μ4, env4, st4, hE4, hs4, ?_⟩
        exact PostS.loop (nxt := forGo g mb s.2 (s.1.drop (i + 1))) hp4 fun env5 st5 σ' H' μ' g5 hs5 hE5 q => ⟨μ', env5, st5, ((g2.trans g3).trans g4).trans g5, hE5, hs5, q⟩
    · rw [if_neg ok] at hp2; exact hp2.elim
  · have e1 : s.1.drop i = [] := List.drop_eq_nil_of_le (by omega)
    rw [e1, forGo] at hp2
    have e2 : i = s.1.length := by omega
    by_cases ok : okG s.2 st2
    · rw [if_pos ok] at hp2
      refine .inl ⟨by rw [e2]; exact (hJ H2 μ2 st2 g2 hs2 ok).2, hp2.nx hs2 hE2⟩
    · rw [if_neg ok] at hp2; exact hp2.elim
/-! ### lists, tuples, ranges walked -/
def seqI (m : ME) : MI := fun env st => (m env st).bind fun d st1 => match d with
  | .loc n => (match st1[n]? with
    | some (.lst ds) => .ok (ds, [(n, .lst ds)]) st1
    | some (.frz ds) => .ok (ds, [(n, .frz ds)]) st1
    | _ => .bad)
  | .tup ds => .ok (ds, []) st1
  | _ => .bad
theorem PI.or {tg l : Expr} {w1 w2 : TI} (h1 : PI X tg l w1) (h2 : PI X tg l w2) : PI X tg l (fun σ H R => w1 σ H R ∨ w2 σ H R) := fun pins s σ H R I h => h.elim (h1 pins s σ H R I) (h2 pins s σ H R I)
theorem itl_rep {n : Nat} {ds : List D} {p : Addr} {o : MO} {st : Stor} (ho : o = .lst ds ∨ o = .frz ds) (hp : μ[n]? = some p) : ItRep X μ H (Itl X.K p) (ds, [(n, o)]) := by
  intro H' μ' st' g hs ok
  have e : st'[n]? = some o := (ok (n, o) (by simp))
  have e2 : itemsAt st' n = some ds := by
    unfold itemsAt
    rcases ho with rfl | rfl <;> rw [e]
  obtain ⟨p', xs, q1, q2, q3⟩ := hs.items e2
  rw [g.get hp] at q1; cases q1
  refine ⟨fun i d hd => ?_, xs, q2, Nat.le_of_eq q3.length.symm⟩
  obtain ⟨v, h1, h2⟩ := q3.get hd
  refine ⟨⟨xs, v, q2, h1⟩, ?_⟩
  rintro x H'' ⟨rfl, hx⟩
  have := hx xs q2
  rw [h1] at this; cases this
  exact ⟨.refl _ _, hs, h2⟩
theorem itt_rep {ds : List D} {p : Addr} {xs : List V} (hq : SqT X.K H p xs) (hd : RepVs X.K μ H ds xs) : ItRep X μ H (Itt X.K p) (ds, []) := by
  intro H' μ' st' g hs ok
  have hq' := g.ext.sqT hq
  have hd' := hd.mono g ds
  refine ⟨fun i d e => ?_, xs, hq', Nat.le_of_eq hd.length.symm⟩
  obtain ⟨v, h1, h2⟩ := hd'.get e
  refine ⟨⟨xs, v, hq', h1⟩, ?_⟩
  rintro x H'' ⟨rfl, hx⟩
  have := hx xs hq'
  rw [h1] at this; cases this
  exact ⟨.refl _ _, hs, h2⟩
theorem ji_seq {tg l : Expr} (h : JE X l ma) : JI X tg l (seqI ma) := by
  refine JI.of (PI.or (pi_list h) (pi_tup h)) fun σ H R hh => ?_
  -- which of the two is decided by the value
  obtain ⟨μ, env, st, hE, hs, hp⟩ := hh
  unfold seqI at hp
  cases hr : ma env st with
  | bad => rw [hr] at hp; exact hp.elim
  | err x st1 =>
    rw [hr] at hp
    refine .inl ⟨μ, env, st, hE, hs, ?_⟩
    rw [hr]; exact hp
  | ok d st1 =>
    rw [hr, M.R.bind_ok] at hp
    cases d with
    | loc n =>
      simp only at hp
      refine .inl ⟨μ, env, st, hE, hs, ?_⟩
      rw [hr]
      intro v H1 μ1 g1 hs1 hv
      obtain ⟨p, q1, rfl⟩ := RepV.loc_iff.mp hv
      cases e : st1[n]? with
      | none => rw [e] at hp; exact hp.elim
      | some mo =>
        cases mo with
        | lst ds =>
          rw [e] at hp
          obtain ⟨p', xs, r1, r2, r3⟩ := hs1.lst e
          rw [q1] at r1; cases r1
          exact ⟨p, rfl, ⟨xs, SqL.of r2⟩, hp _ _ _ g1 hs1 (itl_rep (st := st1) (.inl rfl) q1)⟩
        | frz ds =>
          rw [e] at hp
          obtain ⟨p', r1, xs, r2, r3⟩ := hs1.at_ n _ e
          rw [q1] at r1; cases r1
          exact ⟨p, rfl, ⟨xs, r2.sqL⟩, hp _ _ _ g1 hs1 (itl_rep (st := st1) (.inr rfl) q1)⟩
        | _ => rw [e] at hp; exact hp.elim
    | tup ds =>
      refine .inr ⟨μ, env, st, hE, hs, ?_⟩
      rw [hr]
      intro v H1 μ1 g1 hs1 hv
      obtain ⟨p, xs, rfl, q1, q2⟩ := RepV.tup_iff.mp hv
      exact ⟨p, rfl, ⟨xs, q1.sqT⟩, hp _ _ _ g1 hs1 (itt_rep q1.sqT q2)⟩
    | _ => exact hp.elim
/-- lo, lo + 1, .. (n of them) -/
def upto (lo : Int) (n : Nat) : List D := (List.range n).map fun (k : Nat) => .int (lo + k)
def range1I (mA : MA) : MI := fun env st => (mA env st).bind fun ds st1 => match ds with
  | [.int j] => if -(2 ^ 62) ≤ j ∧ j < 2 ^ 62 then .ok (upto 0 j.toNat, []) st1 else .bad
  | _ => .bad
theorem itr_rep (lo : Int) (n : Nat) : ItRep X μ H (Itr lo n) (upto lo n, []) := by
  intro H' μ' st' g hs ok
  refine ⟨fun i d e => ?_, by show n ≤ _; simp [upto]⟩
  have hi : i < n := by have := (List.getElem?_eq_some_iff.mp e).1; simpa [upto] using this
  simp [upto, hi] at e
  subst e
  refine ⟨hi, ?_⟩
  rintro x H'' ⟨rfl, rfl⟩
  exact ⟨.refl _ _, hs, RepV.int_iff.mpr rfl⟩
theorem RepVs.one {K : PySem.W.Frag} {μ : List Addr} {H : Hp} {d : D} {vs : List V} (h : RepVs K μ H [d] vs) : ∃ v, vs = [v] ∧ RepV K μ H d v := by
  rw [RepVs] at h
  obtain ⟨v, r, rfl, q1, q2⟩ := h
  rw [RepVs] at q2; subst q2
  exact ⟨v, rfl, q1⟩
theorem RepVs.two {K : PySem.W.Frag} {μ : List Addr} {H : Hp} {d1 d2 : D} {vs : List V} (h : RepVs K μ H [d1, d2] vs) : ∃ v w, vs = [v, w] ∧ RepV K μ H d1 v ∧ RepV K μ H d2 w := by
  rw [RepVs] at h
  obtain ⟨v, r, rfl, q1, q2⟩ := h
  obtain ⟨w, rfl, q3⟩ := RepVs.one q2
  exact ⟨v, w, rfl, q1, q3⟩
theorem ji_range1 {tg : Expr} {p : Pos} (ha : JA X [a] mA) (hg : Gl X "range") (hm : X.mg "range" = none) (hs : starEach [a] X.env = [(false, eval a X.env)] := by rfl) : JI X tg (.Call (.Name "range" p) [a] [] pos) (range1I mA) := by
  refine JI.of (pi_range1 hg hm ha hs) fun σ H R ⟨μ, env, st, hE, hs, hp⟩ => ⟨μ, env, st, hE, hs, (Post.bind hp).imp ?_⟩
  rintro vs H1 ⟨μ1, st1, ds, g1, hs1, hv, hp1⟩
  dsimp only at hp1
  split at hp1
  · split at hp1
    · rename_i hc
      obtain ⟨v, rfl, q1⟩ := RepVs.one hv
      rw [RepV.int_iff] at q1; subst q1
      exact ⟨_, rfl, hc.1, hc.2, hp1 _ _ _ (.refl _ _) hs1 (itr_rep 0 _)⟩
    · exact hp1.elim
  · exact hp1.elim
end
/-! ### defs -/
abbrev FD := List D → Stor → R D
def PostF (K : PySem.W.Frag) (μ : List Addr) (H : Hp) (Q : VK) (r : R D) : Prop := match r with
  | .ok d st => ∀ (v : V) (H' : Hp) (μ' : List Addr), Grow μ H μ' H' → RepS K μ' H' st → RepV K μ' H' d v → Q v H'
  | _ => False
/-- what a def promises -/
def spM (K : PySem.W.Frag) (n : Nat) (fd : FD) : Sp := fun vs H Q _ => vs.length = n ∧ ∃ μ ds st, RepVs K μ H ds vs ∧ RepS K μ H st ∧ PostF K μ H Q (fd ds st)
def startM (n : Nat) (ds : List D) : MEnv := ds.map some ++ List.replicate (n - ds.length) none
/-- a def's body run: n names -/
def fnM (n : Nat) (m : MS) : FD := fun ds st => (m (startM n ds) st).bind fun o st1 => match o with
  | .rt d => .ok d st1
  | .nx _ => .ok .non st1
  | _ => .bad
theorem RepVs.start {K : PySem.W.Frag} {μ : List Addr} {H : Hp} {ds : List D} {vs : List V} (N : List Str) (h : RepVs K μ H ds vs) : RepE K μ H (startM N.length ds) (L2.start N vs) := by
  unfold startM L2.start
  refine ⟨by simp [h.length], fun i d e => ?_⟩
  rw [← h.length]
  by_cases hi : i < ds.length
  · rw [List.getElem?_append_left (by simpa using hi)] at e
    rw [List.getElem?_append_left (by rw [List.length_map, ← h.length]; exact hi)]
    rw [List.getElem?_map] at e ⊢
    cases q : ds[i]? with
    | none => rw [q] at e; cases e
    | some d' =>
      rw [q] at e; cases e
      obtain ⟨v, q1, q2⟩ := h.get q
      exact ⟨v, by rw [q1]; rfl, q2⟩
  · rw [List.getElem?_append_right (by simpa using hi)] at e
    rw [List.getElem?_replicate] at e
    split at e <;> cases e
section
variable {P : Program} {w : World} {K : PySem.W.Frag} {mg : Str → Option Value} {base : Heap}
/-- THE RULE for a def without exceptions: its body's denotation -/
theorem fn_ok {x qual : Str} {st : Stmt} {f : Addr} {fd : FuncData} {N ps : List Str} {k : Nat} {m : MS} (F : Fun K x qual st f fd) (S : FnScope N ps (defScope st))
    (hbody : ∀ (cdv : Value) (A : Around) (outer : List Env) (s : Shared) (H : Hp), Room k (A.deeper (PyProof.Rows.envOfC qual (defScope st) s.heap.objs.size f cdv)) →
      JSs (cxOf CX0 P w K mg base N qual (defScope st) f cdv A outer s H E0).nox (defBody st) m) : FnOk P w K mg base CX0 (k + 1) f fd ps (spM K ps.length (fnM N.length m)) := by
  refine F.ok S (fun vs H Q E h => h.1) (fun cdv A outer s H vs Q E hr h => ?_)
  obtain ⟨hl, μ, ds, sto, hv, hs, hp⟩ := h
  refine ⟨_, hbody cdv A outer s H hr, μ, startM N.length ds, sto, RepVs.start N hv, hs, ?_⟩
  unfold fnM at hp
  cases hr : m (startM N.length ds) sto with
  | bad => rw [hr] at hp; exact hp.elim
  | err x st1 => rw [hr] at hp; exact hp.elim
  | ok o st1 =>
    rw [hr] at hp
    cases o with
    | rt d => exact hp
    | nx env => exact fun σ' H' μ' g hs' _ => hp .non H' μ' g hs' (RepV.non_iff.mpr rfl)
    | bk env => exact hp.elim
    | cn env => exact hp.elim
end
section
variable {X : Cx} {e : Expr} {es : List Expr} {mA : MA} {pos p : Pos} {x : Str} {k : Nat} {f : Addr} {fd : FuncData} {ps : List Str} {F : FD} {dvs : List V} {ds : List Value} {dd : List D}
/-- f(e, ..): the written arguments, then the defaults -/
def R.sure {α : Type} (r : R α) : R α := match r with
  | .ok a st => .ok a st
  | _ => .bad
@[simp] theorem R.sure_ok {α : Type} (a : α) (st : Stor) : (R.ok a st).sure = .ok a st := by_rfl rfl
def callF (F : FD) (dd : List D) (mA : MA) : ME := fun env st => (mA env st).bind fun as st1 => (F (as ++ dd) st1).sure
theorem je_call (G : FnOk X.prog X.w X.K X.mg X.base CX0 k f fd ps (spM X.K ps.length F)) (hr : Room k X.A) (hm : X.mg x = some (.ref f)) (hk : PySem.W.keepIn X.K (.ref f) = true) (hb : Binds X.K fd ps ds) (hd : Vals dvs ds)
    (hdd : ∀ μ H, RepVs X.K μ H dd dvs) (ha : JA X (e :: es) mA) (hlen : (e :: es).length + dvs.length = ps.length := by rfl) (hg : Gl X x := by rfl) (hdb : (x == ("__debug__" : Str)) = false := by decide) (he : starEach (e :: es) X.env = (false, eval e X.env) :: starEach es X.env := by rfl) (hpl : (backTo pos (starEach es X.env)).any (·.1) = false := by rfl)
    (hA : ∀ env st as st1, mA env st = .ok as st1 → as.length = (e :: es).length := by intros; rfl) :
    JE X (.Call (.Name x p) (e :: es) [] pos) (callF F dd mA) := by
  refine JE.of (pe_call G hr hg hm hk hb hd pass0 ha hdb he hpl) fun σ H Q ⟨μ, env, st, hE, hs, hp⟩ => ⟨μ, env, st, hE, hs, ?_⟩
  cases hr : mA env st with
  | bad => unfold callF at hp; rw [hr] at hp; exact hp
  | err y st1 => unfold callF at hp; rw [hr] at hp; exact hp
  | ok as st1 =>
    unfold callF at hp
    rw [hr] at hp
    intro vs H1 μ1 g1 hs1 hv
    have hv' : RepVs X.K μ1 H1 (as ++ dd) (vs ++ dvs) := hv.append (hdd μ1 H1)
    refine ⟨?_, μ1, as ++ dd, st1, hv', hs1, ?_⟩
    · rw [List.length_append, ← hv.length, hA env st as st1 hr]; exact hlen
    · have hp2 := Post.mono g1 (show Post X μ H (relV X) Q (F (as ++ dd) st1).sure from hp)
      cases hF : F (as ++ dd) st1 with
      | ok d st2 => rw [hF] at hp2; exact hp2
      | err y st2 => rw [hF] at hp2; exact hp2.elim
      | bad => rw [hF] at hp2; exact hp2.elim
end
end M
namespace M
open PySem PySem.Spec L2
/-! ### what a call leaves behind: garbage is forgotten -/
mutual
def under (n : Nat) : D → Prop
  | .loc k => k < n
  | .tup ds => unders n ds
  | _ => True
def unders (n : Nat) : List D → Prop
  | [] => True
  | d :: ds => under n d ∧ unders n ds
end
@[simp] theorem under_non (n : Nat) : under n .non = True := by simp [under]
@[simp] theorem under_bl (n : Nat) (b : Bool) : under n (.bl b) = True := by simp [under]
@[simp] theorem under_int (n : Nat) (i : Int) : under n (.int i) = True := by simp [under]
@[simp] theorem under_str (n : Nat) (c : List Nat) : under n (.str c) = True := by simp [under]
@[simp] theorem under_tup (n : Nat) (ds : List D) : under n (.tup ds) = unders n ds := by simp [under]
@[simp] theorem under_loc (n k : Nat) : under n (.loc k) = (k < n) := by simp [under]
@[simp] theorem unders_nil (n : Nat) : unders n [] = True := by simp [unders]
@[simp] theorem unders_cons (n : Nat) (d : D) (ds : List D) : unders n (d :: ds) = (under n d ∧ unders n ds) := by simp [unders]
theorem unders_iff (n : Nat) (ds : List D) : unders n ds ↔ ∀ d ∈ ds, under n d := by
  induction ds with
  | nil => simp
  | cons d ds ih => simp [ih]
def underO (n : Nat) : MO → Prop
  | .lst ds => unders n ds
  | .frz ds => unders n ds
  | .dic kvs => ∀ p ∈ kvs, under n p.2
  | .dkc kvs => ∀ p ∈ kvs, under n p.2
  | .dkf kvs => ∀ p ∈ kvs, under n p.2
  | .dtf kvs => ∀ p ∈ kvs, under n p.2
  | .exc _ d => under n d
  | .ins _ fs => ∀ p ∈ fs, under n p.2
  | .tab _ => True
  | .clo _ _ ds => unders n ds
  | .hid => True
mutual
theorem RepV.under {K : PySem.W.Frag} {μ : List Addr} {H : Hp} : ∀ (d : D) {v : V}, RepV K μ H d v → M.under μ.length d
  | .non, _, _ => by simp
  | .bl _, _, _ => by simp
  | .int _, _, _ => by simp
  | .str _, _, _ => by simp
  | .tup ds, _, h => by
    obtain ⟨a, xs, _, _, h2⟩ := RepV.tup_iff.mp h
    rw [under_tup]; exact RepVs.unders ds h2
  | .loc n, _, h => by
    obtain ⟨a, h1, _⟩ := RepV.loc_iff.mp h
    rw [under_loc]; exact (List.getElem?_eq_some_iff.mp h1).1
theorem RepVs.unders {K : PySem.W.Frag} {μ : List Addr} {H : Hp} : ∀ (ds : List D) {vs : List V}, RepVs K μ H ds vs → M.unders μ.length ds
  | [], _, _ => by simp
  | d :: ds, _, h => by
    rw [RepVs] at h
    obtain ⟨v, r, _, h1, h2⟩ := h
    rw [unders_cons]; exact ⟨RepV.under d h1, RepVs.unders ds h2⟩
end
mutual
theorem RepV.down {K : PySem.W.Frag} {μ ν : List Addr} {H : Hp} : ∀ (d : D) {v : V}, RepV K (μ ++ ν) H d v → M.under μ.length d → RepV K μ H d v
  | .non, _, h, _ => by simpa [RepV] using h
  | .bl _, _, h, _ => by simpa [RepV] using h
  | .int _, _, h, _ => by simpa [RepV] using h
  | .str _, _, h, _ => by simpa [RepV] using h
  | .tup ds, _, h, u => by
    obtain ⟨a, xs, e, h1, h2⟩ := RepV.tup_iff.mp h
    rw [under_tup] at u
    exact RepV.tup_iff.mpr ⟨a, xs, e, h1, RepVs.down ds h2 u⟩
  | .loc n, _, h, u => by
    obtain ⟨a, h1, e⟩ := RepV.loc_iff.mp h
    rw [under_loc] at u
    rw [List.getElem?_append_left u] at h1
    exact RepV.loc_iff.mpr ⟨a, h1, e⟩
theorem RepVs.down {K : PySem.W.Frag} {μ ν : List Addr} {H : Hp} : ∀ (ds : List D) {vs : List V}, RepVs K (μ ++ ν) H ds vs → M.unders μ.length ds → RepVs K μ H ds vs
  | [], _, h, _ => by simpa [RepVs] using h
  | d :: ds, _, h, u => by
    rw [RepVs] at h ⊢
    obtain ⟨v, r, e, h1, h2⟩ := h
    rw [unders_cons] at u
    exact ⟨v, r, e, RepV.down d h1 u.1, RepVs.down ds h2 u.2⟩
end
theorem RepKV.under {κ : Type} {K : PySem.W.Frag} {μ : List Addr} {H : Hp} : ∀ {ds : List (κ × D)} {vs : List (κ × V)}, RepKV K μ H ds vs → ∀ p ∈ ds, M.under μ.length p.2
  | [], _, _, _, hp => nomatch hp
  | (k, d) :: ds, _, ⟨v, r, e, h1, h2⟩, p, hp => by
    rcases List.mem_cons.mp hp with rfl | hp
    · exact RepV.under d h1
    · exact RepKV.under h2 p hp
theorem RepKV.down {κ : Type} {K : PySem.W.Frag} {μ ν : List Addr} {H : Hp} : ∀ {ds : List (κ × D)} {vs : List (κ × V)}, RepKV K (μ ++ ν) H ds vs → (∀ p ∈ ds, M.under μ.length p.2) → RepKV K μ H ds vs
  | [], _, h, _ => h
  | (k, d) :: ds, _, ⟨v, r, e, h1, h2⟩, u => ⟨v, r, e, RepV.down d h1 (u (k, d) (by simp)), RepKV.down h2 fun p hp => u p (List.mem_cons_of_mem _ hp)⟩
theorem RepO.under {K : PySem.W.Frag} {μ : List Addr} {H : Hp} {a : Addr} {o : MO} (h : RepO K μ H a o) : underO μ.length o := by
  cases o with
  | lst ds => obtain ⟨xs, _, h2⟩ := h; exact RepVs.unders ds h2
  | frz ds => obtain ⟨xs, _, h2⟩ := h; exact RepVs.unders ds h2
  | dic ds => obtain ⟨xs, _, h2⟩ := h; exact h2.under
  | dkc ds => obtain ⟨xs, _, h2⟩ := h; exact h2.under
  | dkf ds => obtain ⟨xs, _, _, h2⟩ := h; exact h2.under
  | dtf ds => obtain ⟨xs, _, _, h2⟩ := h; exact h2.under
  | exc c d => obtain ⟨_, _, _, _, _, _, _, _, _, _, _, _, h7⟩ := h; exact RepV.under d h7
  | ins c ds => obtain ⟨_, _, xs, _, _, h2⟩ := h; exact h2.under
  | tab x => trivial
  | clo j l ds => obtain ⟨_, _, _, _, xs, _, _, _, _, _, h2⟩ := h; exact RepVs.unders ds h2
  | hid => trivial
theorem RepO.down {K : PySem.W.Frag} {μ ν : List Addr} {H : Hp} {a : Addr} {o : MO} (h : RepO K (μ ++ ν) H a o) (u : underO μ.length o) : RepO K μ H a o := by
  cases o with
  | lst ds => obtain ⟨xs, h1, h2⟩ := h; exact ⟨xs, h1, RepVs.down ds h2 u⟩
  | frz ds => obtain ⟨xs, h1, h2⟩ := h; exact ⟨xs, h1, RepVs.down ds h2 u⟩
  | dic ds => obtain ⟨xs, h1, h2⟩ := h; exact ⟨xs, h1, h2.down u⟩
  | dkc ds => obtain ⟨xs, h1, h2⟩ := h; exact ⟨xs, h1, h2.down u⟩
  | dkf ds => obtain ⟨xs, o, h1, h2⟩ := h; exact ⟨xs, o, h1, h2.down u⟩
  | dtf ds => obtain ⟨xs, o, h1, h2⟩ := h; exact ⟨xs, o, h1, h2.down u⟩
  | exc c d => obtain ⟨oe, C, dx, od, v, fs, h1, h2, h3, h4, h5, h6, h7⟩ := h; exact ⟨oe, C, dx, od, v, fs, h1, h2, h3, h4, h5, h6, RepV.down d h7 u⟩
  | ins c ds => obtain ⟨C, dx, xs, h0, h1, h2⟩ := h; exact ⟨C, dx, xs, h0, h1, h2.down u⟩
  | tab x => exact h
  | clo j l ds => obtain ⟨cl, pm, c', ctv, vs, h1, h2, h3, h4, h5, h6⟩ := h; exact ⟨cl, pm, c', ctv, vs, h1, h2, h3, h4, h5, RepVs.down ds h6 u⟩
  | hid => trivial
theorem RepO.up {K : PySem.W.Frag} {μ : List Addr} {H : Hp} {a : Addr} {o : MO} (ν : List Addr) (h : RepO K μ H a o) : RepO K (μ ++ ν) H a o := h.keep ⟨⟨ν, rfl⟩, .refl H⟩ fun _ _ q => q
theorem take_get {α : Type} {l l' : List α} (h : l'.take l.length = l) {n : Nat} {o : α} (e : l[n]? = some o) : l'[n]? = some o := by
  have hl := (List.getElem?_eq_some_iff.mp e).1
  rw [← h, List.getElem?_take] at e
  rw [if_pos hl] at e; exact e
/-- the old part of the store again -/
theorem RepS.back {K : PySem.W.Frag} {μ ν : List Addr} {H H' : Hp} {st st' : Stor} (h0 : RepS K μ H st) (h : RepS K (μ ++ ν) H' st') (ht : st'.take st.length = st) : RepS K μ H' st := by
  refine ⟨h0.len, fun n o e => ?_, fun i j a oi oj ei ej mi mj hi hj => ?_⟩
  · obtain ⟨a, h1, h2⟩ := h.at_ n o (take_get ht e)
    obtain ⟨a0, h3, h4⟩ := h0.at_ n o e
    have hn : n < μ.length := by rw [h0.len]; exact (List.getElem?_eq_some_iff.mp e).1
    rw [List.getElem?_append_left hn] at h1
    exact ⟨a, h1, h2.down h4.under⟩
  · have up : ∀ k, μ[k]? = some a → (μ ++ ν)[k]? = some a := fun k hk => by rw [List.getElem?_append_left (List.getElem?_eq_some_iff.mp hk).1]; exact hk
    exact h.uniq i j a oi oj (take_get ht ei) (take_get ht ej) mi mj (up i hi) (up j hj)
theorem RepS.back1 {K : PySem.W.Frag} {μ ν : List Addr} {H H' : Hp} {st st' : Stor} {k : Nat} {o : MO} {a : Addr} (h0 : RepS K μ H st) (h : RepS K (μ ++ ν) H' st') (ht : st'.take st.length = st) (hk : st.length ≤ k) (e : st'[k]? = some o) (u : underO st.length o) (ha : (μ ++ ν)[k]? = some a) :
    RepS K (μ ++ [a]) H' (st ++ [o]) := by
  have hb := h0.back h ht
  obtain ⟨a', q1, q2⟩ := h.at_ k o e
  rw [ha] at q1; cases q1
  have key : ∀ (n : Nat) (on : MO) (c : Addr), (st ++ [o])[n]? = some on → (μ ++ [a])[n]? = some c → (n < st.length ∧ st[n]? = some on ∧ μ[n]? = some c) ∨ (n = st.length ∧ on = o ∧ c = a) := fun n on c e1 e2 => by
    by_cases hn : n < st.length
    · rw [List.getElem?_append_left hn] at e1
      rw [List.getElem?_append_left (by rw [h0.len]; exact hn)] at e2
      exact .inl ⟨hn, e1, e2⟩
    · have hl := (List.getElem?_eq_some_iff.mp e1).1
      rw [List.length_append, List.length_singleton] at hl
      have en : n = st.length := by omega
      subst en
      rw [List.getElem?_append_right (Nat.le_refl _)] at e1
      rw [← h0.len, List.getElem?_append_right (Nat.le_refl _)] at e2
      simp at e1 e2
      exact .inr ⟨rfl, e1.symm, e2.symm⟩
  refine ⟨by simp [h0.len], fun n on e1 => ?_, fun i j c oi oj ei ej mi mj hi hj => ?_⟩
  · have hn : n < (μ ++ [a]).length := by
      have := (List.getElem?_eq_some_iff.mp e1).1
      simpa [h0.len] using this
    obtain ⟨c, hc⟩ : ∃ c, (μ ++ [a])[n]? = some c := ⟨_, List.getElem?_eq_getElem hn⟩
    rcases key n on c e1 hc with ⟨h1, h2, h3⟩ | ⟨h1, rfl, rfl⟩
    · obtain ⟨c', h4, h5⟩ := hb.at_ n on h2
      rw [h3] at h4; cases h4
      exact ⟨c, hc, h5.up _⟩
    · exact ⟨c, hc, (q2.down (by rw [h0.len]; exact u)).up _⟩
  · have up : ∀ k, μ[k]? = some c → (μ ++ ν)[k]? = some c := fun k hk => by rw [List.getElem?_append_left (List.getElem?_eq_some_iff.mp hk).1]; exact hk
    rcases key i oi c ei hi with ⟨h1, h2, h3⟩ | ⟨h1, rfl, rfl⟩
    · rcases key j oj c ej hj with ⟨g1, g2, g3⟩ | ⟨g1, rfl, rfl⟩
      · exact hb.uniq i j c oi oj h2 g2 mi mj h3 g3
      · have := h.uniq i k c oi oj (take_get ht h2) e mi mj (up i h3) ha
        omega
    · rcases key j oj c ej hj with ⟨g1, g2, g3⟩ | ⟨g1, _, _⟩
      · have := h.uniq j k c oj oi (take_get ht g2) e mj mi (up j g3) ha
        omega
      · rw [h1, g1]
open Classical in
/-- a result without what was made on the way: plain data, or one new object at the store's end -/
noncomputable def gc (st : Stor) (r : R D) : R D := match r with
  | .ok d st' => if st'.take st.length = st ∧ under st.length d then .ok d st else (match d with
    | .loc k => (match st'[k]? with
      | some o => if st'.take st.length = st ∧ st.length ≤ k ∧ underO st.length o then .ok (.loc st.length) (st ++ [o]) else .ok d st'
      | none => .ok d st')
    | d => .ok d st')
  | r => r
noncomputable def gcF (F : FD) : FD := fun ds st => gc st (F ds st)
theorem gc_post {K : PySem.W.Frag} {μ : List Addr} {H : Hp} {Q : VK} {st : Stor} {r : R D} (hs : RepS K μ H st) (h : PostF K μ H Q (gc st r)) : PostF K μ H Q r := by
  cases r with
  | bad => exact h
  | err x st' => exact h
  | ok d st' =>
    unfold gc at h
    dsimp only at h
    by_cases c1 : st'.take st.length = st ∧ under st.length d
    · rw [if_pos c1] at h
      intro v H' μ' g hs' hv
      obtain ⟨ν, rfl⟩ := g.pre
      exact h v H' μ ⟨⟨[], by simp⟩, g.ext⟩ (hs.back hs' c1.1) (RepV.down d hv (by rw [hs.len]; exact c1.2))
    · rw [if_neg c1] at h
      cases d with
      | loc k =>
        dsimp only at h
        cases e : st'[k]? with
        | none => rw [e] at h; exact h
        | some o =>
          rw [e] at h
          dsimp only at h
          by_cases c2 : st'.take st.length = st ∧ st.length ≤ k ∧ underO st.length o
          · rw [if_pos c2] at h
            intro v H' μ' g hs' hv
            obtain ⟨ν, rfl⟩ := g.pre
            obtain ⟨a, h1, rfl⟩ := RepV.loc_iff.mp hv
            refine h _ H' (μ ++ [a]) ⟨⟨[a], rfl⟩, g.ext⟩ (hs.back1 hs' c2.1 c2.2.1 e c2.2.2 h1) (RepV.loc_iff.mpr ⟨a, ?_, rfl⟩)
            rw [← hs.len]; simp
          · rw [if_neg c2] at h; exact h
      | _ => exact h
theorem sp_gc {K : PySem.W.Frag} {n : Nat} {F : FD} {vs : List V} {H : Hp} {Q : VK} {E : XK} (h : spM K n (gcF F) vs H Q E) : spM K n F vs H Q E := by
  obtain ⟨hl, μ, ds, st, h1, h2, h3⟩ := h
  exact ⟨hl, μ, ds, st, h1, h2, gc_post h2 h3⟩
/-- .. as the simplifier wants it -/
theorem gc_flat {st : Stor} {g : List MO} {d : D} (h : under st.length d) : gc st (.ok d (st ++ g)) = .ok d st := by
  unfold gc
  dsimp only
  rw [if_pos ⟨by simp, h⟩]
theorem gc_new {st : Stor} {g g' : List MO} {o : MO} (h : underO st.length o) : gc st (.ok (.loc (st.length + g.length)) (st ++ g ++ o :: g')) = .ok (.loc st.length) (st ++ [o]) := by
  unfold gc
  dsimp only
  rw [if_neg (by simp)]
  have e : (st ++ g ++ o :: g')[st.length + g.length]? = some o := by
    rw [List.getElem?_append_right (by simp)]; simp
  rw [e]
  dsimp only
  rw [if_pos ⟨by simp, by omega, h⟩]
end M
namespace M
open PySem PySem.Spec L2
section
variable {X : Cx} {e a b c : Expr} {es : List Expr} {ma mb mc : ME} {mA : MA} {pos p2 p : Pos}
/-! ### len, int, list, tuple, min, max -/
def lenV : List D → Stor → R D
  | [.str cs], st => if cs.length ≤ 1000000 then .ok (.int cs.length) st else .bad
  | [.tup ds], st => .ok (.int ds.length) st
  | [.loc n], st => match itemsAt st n with | some ds => .ok (.int ds.length) st | none => .bad
  | _, _ => .bad
theorem call_lenV : CallR X (.builtin "len") (rMC X lenV) := by
  refine CallR.weak (CallR.or call_len_str call_len_seq) ?_
  rintro xs H Q ⟨μ, st, ds, hs, hv, hp⟩
  unfold lenV at hp
  split at hp
  · rename_i cs
    split at hp
    · rename_i hl
      obtain ⟨v, rfl, q⟩ := RepVs.one hv
      rw [RepV.str_iff] at q; subst q
      exact .inl ⟨_, rfl, by rw [strOf_len]; exact lim_ok hl, by rw [strOf_len]; exact hp.ret hs (RepV.int_iff.mpr rfl)⟩
    · exact hp.elim
  · obtain ⟨v, rfl, q⟩ := RepVs.one hv
    obtain ⟨p, ys, rfl, q1, q2⟩ := RepV.tup_iff.mp q
    exact .inr ⟨p, ys, rfl, .inr q1.sqT, by rw [← q2.length]; exact hp.ret hs (RepV.int_iff.mpr rfl)⟩
  · rename_i n
    cases e : itemsAt st n with
    | none => rw [e] at hp; exact hp.elim
    | some ds =>
      rw [e] at hp
      obtain ⟨v, rfl, q⟩ := RepVs.one hv
      obtain ⟨p, q1, rfl⟩ := RepV.loc_iff.mp q
      obtain ⟨p', ys, r1, r2, r3⟩ := hs.items e
      rw [q1] at r1; cases r1
      exact .inr ⟨p, ys, rfl, .inl r2, by rw [← r3.length]; exact hp.ret hs (RepV.int_iff.mpr rfl)⟩
  · exact hp.elim
def intC : List D → Stor → R D
  | [.int i], st => .ok (.int i) st
  | [.bl k], st => .ok (.int (if k then 1 else 0)) st
  | _, _ => .bad
theorem call_intC : CallR X (.type "int") (rMC X intC) := by
  refine CallR.weak call_int1 ?_
  rintro xs H Q ⟨μ, st, ds, hs, hv, hp⟩
  unfold intC at hp
  split at hp
  · obtain ⟨v, rfl, q⟩ := RepVs.one hv
    rw [RepV.int_iff] at q; subst q
    exact .inl ⟨_, rfl, hp.ret hs (RepV.int_iff.mpr rfl)⟩
  · obtain ⟨v, rfl, q⟩ := RepVs.one hv
    rw [RepV.bl_iff] at q; subst q
    exact .inr ⟨_, rfl, hp.ret hs (RepV.int_iff.mpr rfl)⟩
  · exact hp.elim
def min2V : List D → Stor → R D
  | [.int i, .int j], st => .ok (.int (if j < i then j else i)) st
  | _, _ => .bad
theorem call_min2V (hc : X.calm = true) : CallR X (.builtin "min") (rMC X min2V) := by
  refine CallR.weak (call_min2 hc) ?_
  rintro xs H Q ⟨μ, st, ds, hs, hv, hp⟩
  unfold min2V at hp
  split at hp
  · obtain ⟨v, w, rfl, q1, q2⟩ := RepVs.two hv
    rw [RepV.int_iff] at q1 q2; subst q1 q2
    exact ⟨_, _, rfl, hp.ret hs (RepV.int_iff.mpr rfl)⟩
  · exact hp.elim
/-- list(x), tuple(x) of a list or a tuple -/
def listC : List D → Stor → R D
  | [.tup ds], st => .ok (.loc st.length) (st ++ [.lst ds])
  | [.loc n], st => match itemsAt st n with | some ds => .ok (.loc st.length) (st ++ [.lst ds]) | none => .bad
  | _, _ => .bad
theorem call_listC : CallR X (.type "list") (rMC X listC) := by
  refine CallR.weak call_list_of ?_
  rintro xs H Q ⟨μ, st, ds, hs, hv, hp⟩
  unfold listC at hp
  split at hp
  · obtain ⟨v, rfl, q⟩ := RepVs.one hv
    obtain ⟨p, ys, rfl, q1, q2⟩ := RepV.tup_iff.mp q
    exact ⟨p, ys, rfl, .inr q1.sqT, fun l hl => hp.newList hs q2 hl⟩
  · rename_i n
    cases e : itemsAt st n with
    | none => rw [e] at hp; exact hp.elim
    | some ds =>
      rw [e] at hp
      obtain ⟨v, rfl, q⟩ := RepVs.one hv
      obtain ⟨p, q1, rfl⟩ := RepV.loc_iff.mp q
      obtain ⟨p', ys, r1, r2, r3⟩ := hs.items e
      rw [q1] at r1; cases r1
      exact ⟨p, ys, rfl, .inl r2, fun l hl => hp.newList hs r3 hl⟩
  · exact hp.elim
def tupleC : List D → Stor → R D
  | [.tup ds], st => .ok (.tup ds) st
  | [.loc n], st => match itemsAt st n with | some ds => .ok (.tup ds) st | none => .bad
  | _, _ => .bad
theorem call_tupleC : CallR X (.type "tuple") (rMC X tupleC) := by
  refine CallR.weak call_tuple_of ?_
  rintro xs H Q ⟨μ, st, ds, hs, hv, hp⟩
  unfold tupleC at hp
  split at hp
  · obtain ⟨v, rfl, q⟩ := RepVs.one hv
    obtain ⟨p, ys, rfl, q1, q2⟩ := RepV.tup_iff.mp q
    exact ⟨p, ys, rfl, .inr ⟨q1.sqT, hp.ret hs q⟩⟩
  · rename_i n
    cases e : itemsAt st n with
    | none => rw [e] at hp; exact hp.elim
    | some ds =>
      rw [e] at hp
      obtain ⟨v, rfl, q⟩ := RepVs.one hv
      obtain ⟨p, q1, rfl⟩ := RepV.loc_iff.mp q
      obtain ⟨p', ys, r1, r2, r3⟩ := hs.items e
      rw [q1] at r1; cases r1
      exact ⟨p, ys, rfl, .inl ⟨r2, fun l hl => hp _ _ μ (Grow.lay hl) (hs.lay hl) (RepV.tup_iff.mpr ⟨l, ys, rfl, .inl upd_same, r3.mono (Grow.lay hl) _⟩)⟩⟩
  · exact hp.elim
/-! ### isinstance -/
def tyD : D → Stor → Option String
  | .non, _ => some "NoneType"
  | .bl _, _ => some "bool"
  | .int _, _ => some "int"
  | .str _, _ => some "str"
  | .tup _, _ => some "tuple"
  | .loc n, st => match st[n]? with
    | some (.lst _) => some "list"
    | some (.frz _) => some "list"
    | some (.dic _) => some "dict"
    | some (.dkc _) => some "dict"
    | _ => none
theorem isinst_D {pins : List (Addr × Obj)} {σ : L2.St} {μ : List Addr} {H : Hp} {s : Shared} {A : Around} {E : Value → Shared → Prop} {Q : Value → Shared → Prop} {cv : Value} {k : Bool} {d : D} {st : Stor} {x : V} {u : Value} {T : String}
    (I : Inv X pins σ H s) (hs : RepS X.K μ H st) (hd : RepV X.K μ H d x) (rx : RelV x u) (ht : tyD d st = some T) (e : PySem.W.kitOne X.K (.type T) cv = some k) (h : ∀ tk, Q (.bool k) { s with toks := tk }) :
    wpAny (model X.prog X.w) A (call (.builtin "isinstance") [u, cv]) Q E s := by
  cases d with
  | non => rw [RepV.non_iff] at hd; subst hd; cases ht; exact isinst_ok I rx (.non) e h
  | bl y => rw [RepV.bl_iff] at hd; subst hd; cases ht; exact isinst_ok I rx (.bl y) e h
  | int y => rw [RepV.int_iff] at hd; subst hd; cases ht; exact isinst_ok I rx (.int y) e h
  | str y => rw [RepV.str_iff] at hd; subst hd; cases ht; exact isinst_ok I rx (.str _) e h
  | tup ds =>
    obtain ⟨a, xs, rfl, q1, q2⟩ := RepV.tup_iff.mp hd
    cases ht
    obtain ⟨its, _, p, _⟩ := I.tuple (q1.sqT)
    obtain ⟨o, h1, h2, _⟩ := p
    cases (show u = Value.ref a from rx)
    exact PySem.W.kia_one PySem.W.kitx_tuple I.kIn ⟨o, h1, h2⟩ e (fun z => nomatch z) h
  | loc n =>
    obtain ⟨a, q1, rfl⟩ := RepV.loc_iff.mp hd
    simp only [tyD] at ht
    have lst : ∀ ds, itemsAt st n = some ds → PySem.W.kitOne X.K (.type "list") cv = some k → wpAny (model X.prog X.w) A (call (.builtin "isinstance") [u, cv]) Q E s := fun ds e1 e2 => by
      obtain ⟨p', ys, r1, r2, r3⟩ := hs.items e1
      rw [q1] at r1; cases r1
      obtain ⟨its, _, p, _⟩ := I.list r2
      cases (show u = Value.ref a from rx)
      exact PySem.W.kia_one PySem.W.kitx_list I.kIn p.isList.typeIs e2 (fun z => nomatch z) h
    cases e1 : st[n]? with
    | none => rw [e1] at ht; cases ht
    | some mo =>
      rw [e1] at ht
      cases mo with
      | lst ds => cases ht; exact lst ds (by unfold itemsAt; rw [e1]) e
      | frz ds => cases ht; exact lst ds (by unfold itemsAt; rw [e1]) e
      | dic kvs =>
        cases ht
        obtain ⟨p', r1, ws, r2, _⟩ := hs.at_ n _ e1
        rw [q1] at r1; cases r1
        exact isinst_ok I rx (.dT r2) e h
      | dkc kvs =>
        cases ht
        obtain ⟨p', r1, ws, r2, _⟩ := hs.at_ n _ e1
        rw [q1] at r1; cases r1
        exact isinst_ok I rx (.dK r2) e h
      | _ => cases ht
/-- what a built-in type is under -/
def subTy (t T : String) : Bool := t == T || (t == "bool" && T == "int")
def isV (T : String) : D → Stor → R D := fun d st => match tyD d st with | some t => .ok (.bl (subTy t T)) st | none => .bad
def tysD : List String := ["NoneType", "bool", "int", "str", "tuple", "list", "dict"]
theorem tyD_mem {d : D} {st : Stor} {t : String} (h : tyD d st = some t) : t ∈ tysD := by
  cases d with
  | loc n =>
    simp only [tyD] at h
    split at h <;> cases h <;> decide
  | _ => cases h; decide
def rIs (X : Cx) (T : String) : List V → Hp → VK → Prop := fun xs H Q => ∃ μ st d x, xs = [x, .ty T] ∧ RepS X.K μ H st ∧ RepV X.K μ H d x ∧ Post X μ H (relV X) Q (isV T d st)
theorem call_isV {T : String} (hT : ∀ t ∈ tysD, PySem.W.kitOne X.K (.type t) (.type T) = some (subTy t T)) : CallR X (.builtin "isinstance") (rIs X T) := by
  rintro pins s σ H xs us Q I hr ⟨μ, st, d, x, rfl, hs, hd, hp⟩
  obtain ⟨u, w', rfl, r1, r2⟩ := vals2 hr
  cases (show w' = Value.type T from r2)
  unfold isV at hp
  cases e : tyD d st with
  | none => rw [e] at hp; exact hp.elim
  | some t =>
    rw [e] at hp
    exact isinst_D I hs hd r1 e (hT t (tyD_mem e)) fun tk => ⟨.bl (subTy t T), H, I.tok tk, rfl, hp.ret hs (RepV.bl_iff.mpr rfl)⟩
theorem kit_int {K : PySem.W.Frag} : ∀ t ∈ tysD, PySem.W.kitOne K (.type t) (.type "int") = some (subTy t "int") := by
  intro t ht
  simp only [tysD, List.mem_cons, List.not_mem_nil, or_false] at ht
  rcases ht with rfl | rfl | rfl | rfl | rfl | rfl | rfl <;> rfl
theorem kit_bool {K : PySem.W.Frag} : ∀ t ∈ tysD, PySem.W.kitOne K (.type t) (.type "bool") = some (subTy t "bool") := by
  intro t ht
  simp only [tysD, List.mem_cons, List.not_mem_nil, or_false] at ht
  rcases ht with rfl | rfl | rfl | rfl | rfl | rfl | rfl <;> rfl
/-- isinstance(e, T) -/
theorem je_isV {T : String} {xT : Str} (hT : ∀ t ∈ tysD, PySem.W.kitOne X.K (.type t) (.type T) = some (subTy t T)) (h : JE X e ma) (hg : Gl X "isinstance") (hm : X.mg "isinstance" = none) (hgT : Gl X xT) (hmT : X.mg xT = none)
    (hv : bootBuiltins xT = some (.type T)) (hb : bootBuiltins "isinstance" = some (.builtin "isinstance")) (hnT : xT ≠ "__name__" := by decide) (hdT : (xT == ("__debug__" : Str)) = false := by decide)
    (hs1 : starEach [e, .Name xT p2] X.env = [(false, eval e X.env), (false, eval (.Name xT p2) X.env)] := by rfl) (hs2 : starEach [.Name xT p2] X.env = [(false, eval (.Name xT p2) X.env)] := by rfl) (hpl : (backTo pos (starEach [.Name xT p2] X.env)).any (·.1) = false := by rfl) :
    JE X (.Call (.Name "isinstance" p) [e, .Name xT p2] [] pos) (op1 (isV T) ma) := by
  refine JE.of (pe_callB (call_isV hT) hg hm hb (pa_cons h (pa_cons (pe_bltn (v := .ty T) hgT hmT hv rfl hnT hdT) pa_nil hs2) hs1) (by decide) (by decide) hs1 hpl) fun σ H Q ⟨μ, env, st, hE, hs, hp⟩ => ⟨μ, env, st, hE, hs, (Post.bind hp).imp ?_⟩
  rintro x H1 ⟨μ1, st1, d, g1, hs1, hx, hp1⟩
  exact ⟨μ1, st1, d, x, rfl, hs1, hx, hp1⟩
end
end M
namespace M
open PySem PySem.Spec PySem.SeqAt L2
/-! ### == of data: tuples part by part -/
mutual
def eqD : D → D → Bool
  | .non, .non => true
  | .bl a, .bl b => a == b
  | .bl a, .int b => (if a then 1 else 0) == b
  | .int a, .bl b => a == (if b then 1 else 0)
  | .int a, .int b => a == b
  | .str a, .str b => a == b
  | .tup a, .tup b => eqDs a b
  | _, _ => false
def eqDs : List D → List D → Bool
  | [], [] => true
  | a :: as, b :: bs => eqD a b && eqDs as bs
  | _, _ => false
end
/-! no list within; how deep tuples lie in one another -/
mutual
def flat : D → Bool
  | .loc _ => false
  | .tup ds => flats ds
  | _ => true
def flats : List D → Bool
  | [] => true
  | d :: ds => flat d && flats ds
end
mutual
def dep : D → Nat
  | .tup ds => deps ds + 1
  | _ => 0
def deps : List D → Nat
  | [] => 0
  | d :: ds => max (dep d) (deps ds)
end
/-! how deep == goes into both -/
mutual
def cdep : D → D → Nat
  | .tup a, .tup b => cdeps a b + 1
  | _, _ => 0
def cdeps : List D → List D → Nat
  | a :: as, b :: bs => max (cdep a b) (cdeps as bs)
  | _, _ => 0
end
@[simp] theorem cdep_tup (a b : List D) : cdep (.tup a) (.tup b) = cdeps a b + 1 := by simp [cdep]
@[simp] theorem cdep_non (d : D) : cdep .non d = 0 := by simp [cdep]
@[simp] theorem cdep_bl (b : Bool) (d : D) : cdep (.bl b) d = 0 := by simp [cdep]
@[simp] theorem cdep_int (b : Int) (d : D) : cdep (.int b) d = 0 := by simp [cdep]
@[simp] theorem cdep_str (b : List Nat) (d : D) : cdep (.str b) d = 0 := by simp [cdep]
@[simp] theorem cdep_loc (b : Nat) (d : D) : cdep (.loc b) d = 0 := by simp [cdep]
@[simp] theorem cdep_non' (d : D) : cdep d .non = 0 := by cases d <;> simp [cdep]
@[simp] theorem cdep_bl' (b : Bool) (d : D) : cdep d (.bl b) = 0 := by cases d <;> simp [cdep]
@[simp] theorem cdep_int' (b : Int) (d : D) : cdep d (.int b) = 0 := by cases d <;> simp [cdep]
@[simp] theorem cdep_str' (b : List Nat) (d : D) : cdep d (.str b) = 0 := by cases d <;> simp [cdep]
@[simp] theorem cdeps_nil (bs : List D) : cdeps [] bs = 0 := by simp [cdeps]
@[simp] theorem cdeps_nil' (as : List D) : cdeps as [] = 0 := by cases as <;> simp [cdeps]
@[simp] theorem cdeps_cons (a b : D) (as bs : List D) : cdeps (a :: as) (b :: bs) = max (cdep a b) (cdeps as bs) := by simp [cdeps]
@[simp] theorem flat_int (b : Int) : flat (.int b) = true := by simp [flat]
@[simp] theorem flat_str (b : List Nat) : flat (.str b) = true := by simp [flat]
@[simp] theorem flat_tup (b : List D) : flat (.tup b) = flats b := by simp [flat]
@[simp] theorem flats_nil : flats [] = true := by simp [flats]
@[simp] theorem flats_cons (d : D) (ds : List D) : flats (d :: ds) = (flat d && flats ds) := by simp [flats]
@[simp] theorem dep_non : dep .non = 0 := by simp [dep]
@[simp] theorem dep_bl (b : Bool) : dep (.bl b) = 0 := by simp [dep]
@[simp] theorem dep_int (b : Int) : dep (.int b) = 0 := by simp [dep]
@[simp] theorem dep_str (b : List Nat) : dep (.str b) = 0 := by simp [dep]
@[simp] theorem dep_tup (b : List D) : dep (.tup b) = deps b + 1 := by simp [dep]
@[simp] theorem deps_nil : deps [] = 0 := by simp [deps]
@[simp] theorem deps_cons (d : D) (ds : List D) : deps (d :: ds) = max (dep d) (deps ds) := by simp [deps]
mutual
theorem cdep_le : ∀ (a b : D), cdep a b ≤ dep a
  | .tup a, .tup b => by rw [cdep_tup, dep_tup]; exact Nat.succ_le_succ (cdeps_le a b)
  | .tup a, .non => by simp
  | .tup a, .bl _ => by simp
  | .tup a, .int _ => by simp
  | .tup a, .str _ => by simp
  | .tup a, .loc _ => by simp [cdep]
  | .non, _ => by simp
  | .bl _, _ => by simp
  | .int _, _ => by simp
  | .str _, _ => by simp
  | .loc _, _ => by simp
theorem cdeps_le : ∀ (a b : List D), cdeps a b ≤ deps a
  | [], b => by simp
  | a :: as, [] => by simp
  | a :: as, b :: bs => by
    rw [cdeps_cons, deps_cons]
    have h1 := cdep_le a b
    have h2 := cdeps_le as bs
    omega
end
/-- the answer at a place -/
def eqJ (as bs : List D) (j : Nat) : Bool := match as[j]?, bs[j]? with | some a, some b => eqD a b | _, _ => true
theorem eqDs_all : ∀ (as bs : List D), eqDs as bs = ((List.range (min as.length bs.length)).all (eqJ as bs) && as.length == bs.length)
  | [], [] => by simp [eqDs]
  | [], b :: bs => by simp [eqDs]
  | a :: as, [] => by simp [eqDs]
  | a :: as, b :: bs => by
    rw [eqDs, eqDs_all as bs]
    have e1 : min (a :: as).length (b :: bs).length = min as.length bs.length + 1 := by simp
    rw [e1, List.range_succ_eq_map, List.all_cons, List.all_map]
    have e2 : ((a :: as).length == (b :: bs).length) = (as.length == bs.length) := by
      rw [Bool.eq_iff_iff]; simp
    rw [e2]
    have e3 : eqJ (a :: as) (b :: bs) 0 = eqD a b := rfl
    rw [e3, Bool.and_assoc]
    rfl
mutual
theorem eqD_refl : ∀ (d : D), flat d = true → eqD d d = true
  | .non, _ => by simp [eqD]
  | .bl _, _ => by simp [eqD]
  | .int _, _ => by simp [eqD]
  | .str _, _ => by simp [eqD]
  | .tup ds, h => by rw [eqD]; exact eqDs_refl ds (by simpa using h)
  | .loc _, h => by simp [flat] at h
theorem eqDs_refl : ∀ (ds : List D), flats ds = true → eqDs ds ds = true
  | [], _ => by simp [eqDs]
  | d :: ds, h => by
    rw [flats_cons, Bool.and_eq_true] at h
    rw [eqDs, eqD_refl d h.1, eqDs_refl ds h.2]; rfl
end
section
variable {X : Cx} {pins : List (Addr × Obj)} {σ : L2.St} {μ : List Addr} {H : Hp} {s : Shared}
mutual
theorem rep_same (I : Inv X pins σ H s) : ∀ (d1 d2 : D) {v : V}, flat d1 = true → flat d2 = true → RepV X.K μ H d1 v → RepV X.K μ H d2 v → d1 = d2
  | .non, d2, _, _, f2, h1, h2 => by
    rw [RepV.non_iff] at h1; subst h1
    cases d2 with
    | non => rfl
    | bl _ => rw [RepV.bl_iff] at h2; cases h2
    | int _ => rw [RepV.int_iff] at h2; cases h2
    | str _ => rw [RepV.str_iff] at h2; cases h2
    | tup _ => obtain ⟨_, _, q, _⟩ := RepV.tup_iff.mp h2; cases q
    | loc _ => simp [flat] at f2
  | .bl b, d2, _, _, f2, h1, h2 => by
    rw [RepV.bl_iff] at h1; subst h1
    cases d2 with
    | bl _ => rw [RepV.bl_iff] at h2; cases h2; rfl
    | non => rw [RepV.non_iff] at h2; cases h2
    | int _ => rw [RepV.int_iff] at h2; cases h2
    | str _ => rw [RepV.str_iff] at h2; cases h2
    | tup _ => obtain ⟨_, _, q, _⟩ := RepV.tup_iff.mp h2; cases q
    | loc _ => simp [flat] at f2
  | .int b, d2, _, _, f2, h1, h2 => by
    rw [RepV.int_iff] at h1; subst h1
    cases d2 with
    | int _ => rw [RepV.int_iff] at h2; cases h2; rfl
    | non => rw [RepV.non_iff] at h2; cases h2
    | bl _ => rw [RepV.bl_iff] at h2; cases h2
    | str _ => rw [RepV.str_iff] at h2; cases h2
    | tup _ => obtain ⟨_, _, q, _⟩ := RepV.tup_iff.mp h2; cases q
    | loc _ => simp [flat] at f2
  | .str b, d2, _, _, f2, h1, h2 => by
    rw [RepV.str_iff] at h1; subst h1
    cases d2 with
    | str _ => rw [RepV.str_iff] at h2; injection h2 with h3; rw [strOf_inj.mp h3]
    | non => rw [RepV.non_iff] at h2; cases h2
    | bl _ => rw [RepV.bl_iff] at h2; cases h2
    | int _ => rw [RepV.int_iff] at h2; cases h2
    | tup _ => obtain ⟨_, _, q, _⟩ := RepV.tup_iff.mp h2; cases q
    | loc _ => simp [flat] at f2
  | .tup as, d2, _, f1, f2, h1, h2 => by
    obtain ⟨a, xs, rfl, q1, q2⟩ := RepV.tup_iff.mp h1
    cases d2 with
    | tup bs =>
      obtain ⟨b, ys, e, r1, r2⟩ := RepV.tup_iff.mp h2
      cases e
      rw [I.tuple_inj (r1.sqT) (q1.sqT)] at r2
      rw [reps_same I as bs (by simpa using f1) (by simpa using f2) q2 r2]
    | non => rw [RepV.non_iff] at h2; cases h2
    | bl _ => rw [RepV.bl_iff] at h2; cases h2
    | int _ => rw [RepV.int_iff] at h2; cases h2
    | str _ => rw [RepV.str_iff] at h2; cases h2
    | loc _ => simp [flat] at f2
  | .loc _, _, _, f1, _, _, _ => by simp [flat] at f1
theorem reps_same (I : Inv X pins σ H s) : ∀ (as bs : List D) {vs : List V}, flats as = true → flats bs = true → RepVs X.K μ H as vs → RepVs X.K μ H bs vs → as = bs
  | [], bs, _, _, _, h1, h2 => by
    rw [RepVs] at h1; subst h1
    cases bs with
    | nil => rfl
    | cons _ _ => rw [RepVs] at h2; obtain ⟨_, _, q, _⟩ := h2; cases q
  | a :: as, bs, _, f1, f2, h1, h2 => by
    rw [RepVs] at h1
    obtain ⟨v, r, rfl, q1, q2⟩ := h1
    cases bs with
    | nil => rw [RepVs] at h2; cases h2
    | cons b bs =>
      rw [RepVs] at h2
      obtain ⟨v', r', e, r1, r2⟩ := h2
      cases e
      rw [flats_cons, Bool.and_eq_true] at f1 f2
      rw [rep_same I a b f1.1 f2.1 q1 r1, reps_same I as bs f1.2 f2.2 q2 r2]
end
/-! the two readings at once: the items' answer, and == itself -/
mutual
theorem eq_at (I : Inv X pins σ H s) : ∀ (d1 d2 : D) {A : Around} {x y : V} {u w : Value}, flat d1 = true → flat d2 = true → A.units + cdep d1 d2 < cLine → RepV X.K μ H d1 x → RepV X.K μ H d2 y → RelV x u → RelV y w →
    EqAt A s u w (eqD d1 d2) ∧ RcAt A s u w (eqD d1 d2) ∧ RcNeAt A s u w (!eqD d1 d2)
  | d1, d2, A, x, y, u, w, f1, f2, hu, h1, h2, r1, r2 => by
    cases d1 with
    | loc _ => simp [flat] at f1
    | non =>
      rw [RepV.non_iff] at h1; subst h1
      cases (show u = Value.none from r1)
      cases d2 with
      | loc _ => simp [flat] at f2
      | non => rw [RepV.non_iff] at h2; subst h2; cases (show w = Value.none from r2); exact ⟨EqAt.same _, RcAt.none_none, RcNeAt.none_none⟩
      | bl b => rw [RepV.bl_iff] at h2; subst h2; cases (show w = Value.bool b from r2); exact ⟨EqAt.none_bool b, RcAt.none_bool b, RcNeAt.none_bool b⟩
      | int b => rw [RepV.int_iff] at h2; subst h2; obtain ⟨t, rfl⟩ := r2; exact ⟨EqAt.none_int b t, RcAt.none_int b t, RcNeAt.none_int b t⟩
      | str b => rw [RepV.str_iff] at h2; subst h2; obtain ⟨t, rfl⟩ := r2; exact ⟨EqAt.none_str _ t, RcAt.none_str _ t, RcNeAt.none_str _ t⟩
      | tup bs =>
        obtain ⟨b, ys, rfl, q1, q2⟩ := RepV.tup_iff.mp h2
        cases (show w = Value.ref b from r2)
        obtain ⟨its, _, p, _⟩ := I.tuple (q1.sqT)
        exact ⟨EqAt.none_tuple p (by omega), RcAt.none_tuple p (by omega), RcNeAt.none_tuple p (by omega)⟩
    | bl a =>
      rw [RepV.bl_iff] at h1; subst h1
      cases (show u = Value.bool a from r1)
      cases d2 with
      | loc _ => simp [flat] at f2
      | non => rw [RepV.non_iff] at h2; subst h2; cases (show w = Value.none from r2); exact ⟨EqAt.bool_none a, RcAt.bool_none a, RcNeAt.bool_none a⟩
      | bl b => rw [RepV.bl_iff] at h2; subst h2; cases (show w = Value.bool b from r2); simp only [eqD]; exact ⟨EqAt.bool_bool a b, RcAt.bool_bool a b, RcNeAt.bool_bool a b⟩
      | int b => rw [RepV.int_iff] at h2; subst h2; obtain ⟨t, rfl⟩ := r2; simp only [eqD]; exact ⟨EqAt.bool_int a b t, RcAt.bool_int a b t, RcNeAt.bool_int a b t⟩
      | str b => rw [RepV.str_iff] at h2; subst h2; obtain ⟨t, rfl⟩ := r2; exact ⟨EqAt.bool_str a _ t, RcAt.bool_str a _ t, RcNeAt.bool_str a _ t⟩
      | tup bs =>
        obtain ⟨b, ys, rfl, q1, q2⟩ := RepV.tup_iff.mp h2
        cases (show w = Value.ref b from r2)
        obtain ⟨its, _, p, _⟩ := I.tuple (q1.sqT)
        exact ⟨EqAt.bool_tuple a p (by omega), RcAt.bool_tuple a p (by omega), RcNeAt.bool_tuple a p (by omega)⟩
    | int a =>
      rw [RepV.int_iff] at h1; subst h1
      obtain ⟨ta, rfl⟩ := r1
      cases d2 with
      | loc _ => simp [flat] at f2
      | non => rw [RepV.non_iff] at h2; subst h2; cases (show w = Value.none from r2); exact ⟨EqAt.int_none a ta, RcAt.int_none a ta, RcNeAt.int_none a ta⟩
      | bl b => rw [RepV.bl_iff] at h2; subst h2; cases (show w = Value.bool b from r2); simp only [eqD]; exact ⟨EqAt.int_bool a ta b, RcAt.int_bool a ta b, RcNeAt.int_bool a ta b⟩
      | int b => rw [RepV.int_iff] at h2; subst h2; obtain ⟨t, rfl⟩ := r2; simp only [eqD]; exact ⟨EqAt.int_int a ta b t, RcAt.int_int a ta b t, RcNeAt.int_int a ta b t⟩
      | str b => rw [RepV.str_iff] at h2; subst h2; obtain ⟨t, rfl⟩ := r2; exact ⟨EqAt.int_str a ta _ t, RcAt.int_str a ta _ t, RcNeAt.int_str a ta _ t⟩
      | tup bs =>
        obtain ⟨b, ys, rfl, q1, q2⟩ := RepV.tup_iff.mp h2
        cases (show w = Value.ref b from r2)
        obtain ⟨its, _, p, _⟩ := I.tuple (q1.sqT)
        exact ⟨EqAt.int_tuple a ta p (by omega), RcAt.int_tuple a ta p (by omega), RcNeAt.int_tuple a ta p (by omega)⟩
    | str a =>
      rw [RepV.str_iff] at h1; subst h1
      obtain ⟨ta, rfl⟩ := r1
      cases d2 with
      | loc _ => simp [flat] at f2
      | non => rw [RepV.non_iff] at h2; subst h2; cases (show w = Value.none from r2); exact ⟨EqAt.str_none _ ta, RcAt.str_none _ ta, RcNeAt.str_none _ ta⟩
      | bl b => rw [RepV.bl_iff] at h2; subst h2; cases (show w = Value.bool b from r2); exact ⟨EqAt.str_bool _ ta b, RcAt.str_bool _ ta b, RcNeAt.str_bool _ ta b⟩
      | int b => rw [RepV.int_iff] at h2; subst h2; obtain ⟨t, rfl⟩ := r2; exact ⟨EqAt.str_int _ ta b t, RcAt.str_int _ ta b t, RcNeAt.str_int _ ta b t⟩
      | str b =>
        rw [RepV.str_iff] at h2; subst h2; obtain ⟨t, rfl⟩ := r2
        have e : (strOf a == strOf b) = eqD (.str a) (.str b) := by
          rw [eqD, Bool.eq_iff_iff, beq_iff_eq, beq_iff_eq]; exact strOf_inj
        rw [← e]
        exact ⟨EqAt.str_str _ ta _ t, RcAt.str_str _ ta _ t, RcNeAt.str_str _ ta _ t⟩
      | tup bs =>
        obtain ⟨b, ys, rfl, q1, q2⟩ := RepV.tup_iff.mp h2
        cases (show w = Value.ref b from r2)
        obtain ⟨its, _, p, _⟩ := I.tuple (q1.sqT)
        exact ⟨EqAt.str_tuple _ ta p (by omega), RcAt.str_tuple _ ta p (by omega), RcNeAt.str_tuple _ ta p (by omega)⟩
    | tup as =>
      have h1' := h1
      have h2' := h2
      obtain ⟨a, xs, rfl, q1, q2⟩ := RepV.tup_iff.mp h1
      cases (show u = Value.ref a from r1)
      obtain ⟨its, ra, p, _⟩ := I.tuple (q1.sqT)
      cases d2 with
      | loc _ => simp [flat] at f2
      | non => rw [RepV.non_iff] at h2; subst h2; cases (show w = Value.none from r2); exact ⟨EqAt.tuple_none p (by omega), RcAt.tuple_none p (by omega), RcNeAt.tuple_none p (by omega)⟩
      | bl b => rw [RepV.bl_iff] at h2; subst h2; cases (show w = Value.bool b from r2); exact ⟨EqAt.tuple_bool b p (by omega), RcAt.tuple_bool b p (by omega), RcNeAt.tuple_bool b p (by omega)⟩
      | int b => rw [RepV.int_iff] at h2; subst h2; obtain ⟨t, rfl⟩ := r2; exact ⟨EqAt.tuple_int b t p (by omega), RcAt.tuple_int b t p (by omega), RcNeAt.tuple_int b t p (by omega)⟩
      | str b => rw [RepV.str_iff] at h2; subst h2; obtain ⟨t, rfl⟩ := r2; exact ⟨EqAt.tuple_str _ t p (by omega), RcAt.tuple_str _ t p (by omega), RcNeAt.tuple_str _ t p (by omega)⟩
      | tup bs =>
        obtain ⟨b, ys, rfl, g1, g2⟩ := RepV.tup_iff.mp h2
        cases (show w = Value.ref b from r2)
        obtain ⟨its2, rb, p2, _⟩ := I.tuple (g1.sqT)
        rw [cdep_tup] at hu
        rw [flat_tup] at f1 f2
        have items := eqs_at I as bs (A := A.in1) f1 f2 (by show A.units + 1 + cdeps as bs < cLine; omega) q2 g2 ra rb
        have la : as.length = its.toArray.size := by rw [List.size_toArray, q2.length, ra.length]
        have lb : bs.length = its2.toArray.size := by rw [List.size_toArray, g2.length, rb.length]
        have e : ((List.range (min its.toArray.size its2.toArray.size)).all (eqJ as bs) && its.toArray.size == its2.toArray.size) = eqD (.tup as) (.tup bs) := by
          rw [eqD, eqDs_all, la, lb]
        have rc : RcAt A s (.ref a) (.ref b) (eqD (.tup as) (.tup bs)) := by
          rw [← e]
          exact RcAt.tuples p p2 (by omega) fun j j1 j2 => items j (by simpa using j1) (by simpa using j2)
        have ne : RcNeAt A s (.ref a) (.ref b) (!eqD (.tup as) (.tup bs)) := by
          rw [← e]
          exact RcNeAt.tuples p p2 (by omega) fun j j1 j2 => items j (by simpa using j1) (by simpa using j2)
        refine ⟨?_, rc, ne⟩
        by_cases hab : a = b
        · subst hab
          have : (D.tup as) = .tup bs := rep_same I _ _ (by simpa using f1) (by simpa using f2) h1' h2'
          rw [← this, eqD_refl _ (by simpa using f1)]
          exact EqAt.same _
        · exact EqAt.of_refs hab rc
theorem eqs_at (I : Inv X pins σ H s) : ∀ (as bs : List D) {A : Around} {xs ys : List V} {us ws : List Value}, flats as = true → flats bs = true → A.units + cdeps as bs < cLine → RepVs X.K μ H as xs → RepVs X.K μ H bs ys → Vals xs us → Vals ys ws →
    ∀ (j : Nat) (h1 : j < us.length) (h2 : j < ws.length), EqAt A s us[j] ws[j] (eqJ as bs j)
  | [], bs, A, xs, ys, us, ws, _, _, _, h1, _, r1, _, j, j1, _ => by
    rw [RepVs] at h1; subst h1; cases r1; simp at j1
  | a :: as, [], A, xs, ys, us, ws, _, _, _, _, h2, _, r2, j, _, j2 => by
    rw [RepVs] at h2; subst h2; cases r2; simp at j2
  | a :: as, b :: bs, A, xs, ys, us, ws, f1, f2, hu, h1, h2, r1, r2, j, j1, j2 => by
    rw [RepVs] at h1 h2
    obtain ⟨v, r, rfl, q1, q2⟩ := h1
    obtain ⟨v', r', rfl, g1, g2⟩ := h2
    cases r1 with
    | cons r1 t1 =>
    cases r2 with
    | cons r2 t2 =>
    rw [flats_cons, Bool.and_eq_true] at f1 f2
    rw [cdeps_cons] at hu
    cases j with
    | zero => exact (eq_at I a b f1.1 f2.1 (by omega) q1 g1 r1 r2).1
    | succ j => exact eqs_at I as bs f1.2 f2.2 (by omega) q2 g2 t1 t2 j (by simpa using j1) (by simpa using j2)
end
end
end M
namespace M
open PySem PySem.Spec PySem.SeqAt L2
/-- == by the store; L: how deep tuples may lie -/
def eqR (L : Nat) : D → D → Stor → Option Bool
  | .loc m, .loc n, st => match itemsAt st m, itemsAt st n with
    | some a, some b => if flats a = true ∧ flats b = true ∧ cdeps a b + 1 < L then some (eqDs a b) else none
    | _, _ => none
  | .loc m, .non, st => (itemsAt st m).map fun _ => false
  | .loc m, .tup b, st => if 0 < L then (itemsAt st m).map fun _ => false else none
  | .non, .loc n, st => (itemsAt st n).map fun _ => false
  | .tup a, .loc n, st => if 0 < L then (itemsAt st n).map fun _ => false else none
  | d1, d2, _ => if flat d1 = true ∧ flat d2 = true ∧ cdep d1 d2 < L then some (eqD d1 d2) else none
section
variable {X : Cx} {pins : List (Addr × Obj)} {σ : L2.St} {μ : List Addr} {H : Hp} {s : Shared} {L : Nat}
theorem eqs_lists {as bs : List D} {A : Around} {xs ys : List V} {a b : Addr} (I : Inv X pins σ H s) (f1 : flats as = true) (f2 : flats bs = true) (hu : A.units + 1 + cdeps as bs < cLine) (h1 : RepVs X.K μ H as xs) (h2 : RepVs X.K μ H bs ys)
    (q1 : SqL X.K H a xs) (q2 : SqL X.K H b ys) : RcAt A s (.ref a) (.ref b) (eqDs as bs) ∧ RcNeAt A s (.ref a) (.ref b) (!eqDs as bs) := by
  obtain ⟨its, ra, p, _⟩ := I.list q1
  obtain ⟨its2, rb, p2, _⟩ := I.list q2
  have la : as.length = its.toArray.size := by rw [List.size_toArray, h1.length, ra.length]
  have lb : bs.length = its2.toArray.size := by rw [List.size_toArray, h2.length, rb.length]
  by_cases hl : its.toArray.size = its2.toArray.size
  · have items := eqs_at I as bs (A := A.in1) f1 f2 hu h1 h2 ra rb
    have e : ((List.range its.toArray.size).all (eqJ as bs)) = eqDs as bs := by
      rw [eqDs_all, la, lb, ← hl, Nat.min_self]; simp
    rw [← e]
    exact ⟨RcAt.lists p.isList p2.isList hl (by omega) fun j j1 j2 => items j (by simpa using j1) (by simpa using j2), RcNeAt.lists p.isList p2.isList hl (by omega) fun j j1 j2 => items j (by simpa using j1) (by simpa using j2)⟩
  · have e : eqDs as bs = false := by
      rw [eqDs_all, la, lb, Bool.and_eq_false_iff]
      exact .inr (by simpa using hl)
    have hl' : (its.toArray.size != its2.toArray.size) = true := by simpa using hl
    rw [e]
    exact ⟨RcAt.lists_lengths p.isList p2.isList hl' (by omega), RcNeAt.lists_lengths p.isList p2.isList hl' (by omega)⟩
theorem eqR_at {d1 d2 : D} {st : Stor} {k : Bool} {A : Around} {x y : V} {u w : Value} (I : Inv X pins σ H s) (hs : RepS X.K μ H st) (e : eqR L d1 d2 st = some k) (hu : A.units + L < cLine) (h1 : RepV X.K μ H d1 x) (h2 : RepV X.K μ H d2 y) (r1 : RelV x u) (r2 : RelV y w) :
    RcAt A s u w k ∧ RcNeAt A s u w (!k) := by
  have plain : ∀ {d1 d2 : D}, RepV X.K μ H d1 x → RepV X.K μ H d2 y → (if flat d1 = true ∧ flat d2 = true ∧ cdep d1 d2 < L then some (eqD d1 d2) else none) = some k → RcAt A s u w k ∧ RcNeAt A s u w (!k) := fun {d1 d2} h1 h2 e => by
    split at e
    · rename_i c
      cases e
      exact (eq_at I d1 d2 c.1 c.2.1 (by omega) h1 h2 r1 r2).2
    · cases e
  have list : ∀ {n : Nat} {v : V} {z : Value} {ds : List D}, RepV X.K μ H (.loc n) v → RelV v z → itemsAt st n = some ds → ∃ p its, z = .ref p ∧ s.heap.IsList p its := fun {n v z ds} h r q => by
    obtain ⟨p, q1, rfl⟩ := RepV.loc_iff.mp h
    obtain ⟨p', xs, g1, g2, g3⟩ := hs.items q
    rw [q1] at g1; cases g1
    cases (show z = Value.ref p from r)
    obtain ⟨its, _, pl, _⟩ := I.list g2
    exact ⟨p, _, rfl, pl.isList⟩
  have tuple : ∀ {bs : List D} {v : V} {z : Value}, RepV X.K μ H (.tup bs) v → RelV v z → ∃ p its, z = .ref p ∧ s.heap.IsTuple p its := fun {bs v z} h r => by
    obtain ⟨p, xs, rfl, q1, _⟩ := RepV.tup_iff.mp h
    cases (show z = Value.ref p from r)
    obtain ⟨its, _, pl, _⟩ := I.tuple (q1.sqT)
    exact ⟨p, _, rfl, pl⟩
  match d1, d2, e, h1, h2 with
  | .loc m, .loc n, e, h1, h2 =>
    simp only [eqR] at e
    cases e1 : itemsAt st m with
    | none => rw [e1] at e; cases e
    | some as =>
      cases e2 : itemsAt st n with
      | none => rw [e1, e2] at e; cases e
      | some bs =>
        rw [e1, e2] at e
        dsimp only at e
        split at e
        · rename_i c
          cases e
          obtain ⟨p, q1, rfl⟩ := RepV.loc_iff.mp h1
          obtain ⟨p', xs, g1, g2, g3⟩ := hs.items e1
          rw [q1] at g1; cases g1
          obtain ⟨q, q2, rfl⟩ := RepV.loc_iff.mp h2
          obtain ⟨q', ys, k1, k2, k3⟩ := hs.items e2
          rw [q2] at k1; cases k1
          cases (show u = Value.ref p from r1)
          cases (show w = Value.ref q from r2)
          exact eqs_lists I c.1 c.2.1 (by omega) g3 k3 g2 k2
        · cases e
  | .loc m, .non, e, h1, h2 =>
    simp only [eqR] at e
    cases e1 : itemsAt st m with
    | none => rw [e1] at e; cases e
    | some as =>
      rw [e1] at e; cases e
      obtain ⟨p, its, rfl, pl⟩ := list h1 r1 e1
      rw [RepV.non_iff] at h2; subst h2; cases (show w = Value.none from r2)
      exact ⟨RcAt.list_none pl (by omega), RcNeAt.list_none pl (by omega)⟩
  | .non, .loc n, e, h1, h2 =>
    simp only [eqR] at e
    cases e1 : itemsAt st n with
    | none => rw [e1] at e; cases e
    | some as =>
      rw [e1] at e; cases e
      obtain ⟨p, its, rfl, pl⟩ := list h2 r2 e1
      rw [RepV.non_iff] at h1; subst h1; cases (show u = Value.none from r1)
      exact ⟨RcAt.none_list pl (by omega), RcNeAt.none_list pl (by omega)⟩
  | .loc m, .tup bs, e, h1, h2 =>
    simp only [eqR] at e
    split at e
    · cases e1 : itemsAt st m with
      | none => rw [e1] at e; cases e
      | some as =>
        rw [e1] at e; cases e
        obtain ⟨p, its, rfl, pl⟩ := list h1 r1 e1
        obtain ⟨q, its2, rfl, pt⟩ := tuple h2 r2
        exact ⟨RcAt.list_tuple pl pt (by omega), RcNeAt.list_tuple pl pt (by omega)⟩
    · cases e
  | .tup as, .loc n, e, h1, h2 =>
    simp only [eqR] at e
    split at e
    · cases e1 : itemsAt st n with
      | none => rw [e1] at e; cases e
      | some as =>
        rw [e1] at e; cases e
        obtain ⟨p, its, rfl, pl⟩ := list h2 r2 e1
        obtain ⟨q, its2, rfl, pt⟩ := tuple h1 r1
        exact ⟨RcAt.tuple_list pt pl (by omega), RcNeAt.tuple_list pt pl (by omega)⟩
    · cases e
  | .non, .non, e, h1, h2 => exact plain h1 h2 (by simpa only [eqR] using e)
  | .non, .bl _, e, h1, h2 => exact plain h1 h2 (by simpa only [eqR] using e)
  | .non, .int _, e, h1, h2 => exact plain h1 h2 (by simpa only [eqR] using e)
  | .non, .str _, e, h1, h2 => exact plain h1 h2 (by simpa only [eqR] using e)
  | .non, .tup _, e, h1, h2 => exact plain h1 h2 (by simpa only [eqR] using e)
  | .bl _, d2, e, h1, h2 => exact plain h1 h2 (by simpa only [eqR] using e)
  | .int _, d2, e, h1, h2 => exact plain h1 h2 (by simpa only [eqR] using e)
  | .str _, d2, e, h1, h2 => exact plain h1 h2 (by simpa only [eqR] using e)
  | .tup _, .non, e, h1, h2 => exact plain h1 h2 (by simpa only [eqR] using e)
  | .tup _, .bl _, e, h1, h2 => exact plain h1 h2 (by simpa only [eqR] using e)
  | .tup _, .int _, e, h1, h2 => exact plain h1 h2 (by simpa only [eqR] using e)
  | .tup _, .str _, e, h1, h2 => exact plain h1 h2 (by simpa only [eqR] using e)
  | .tup _, .tup _, e, h1, h2 => exact plain h1 h2 (by simpa only [eqR] using e)
  | .loc _, .bl _, e, h1, h2 => simp [eqR, flat] at e
  | .loc _, .int _, e, h1, h2 => simp [eqR, flat] at e
  | .loc _, .str _, e, h1, h2 => simp [eqR, flat] at e
def eqV (L : Nat) : D → D → Stor → R D := fun d1 d2 st => match eqR L d1 d2 st with | some k => .ok (.bl k) st | none => .bad
def neV (L : Nat) : D → D → Stor → R D := fun d1 d2 st => match eqR L d1 d2 st with | some k => .ok (.bl (!k)) st | none => .bad
theorem op_eqV (hu : X.A.units + L < cLine) : OpR X (compareOp .Eq) (rM X (eqV L)) := by
  rintro pins s σ H x y v u Q I rx ry ⟨μ, st, dx, dy, hs, hx, hy, hp⟩
  unfold eqV at hp
  cases e : eqR L dx dy st with
  | none => rw [e] at hp; exact hp.elim
  | some k =>
    rw [e] at hp
    exact (eqR_at I hs e hu hx hy rx ry).1 X.prog X.w X.xe _ ⟨.bl k, H, I, rfl, hp.ret hs (RepV.bl_iff.mpr rfl)⟩
theorem op_neV (hu : X.A.units + L < cLine) : OpR X (compareOp .NotEq) (rM X (neV L)) := by
  rintro pins s σ H x y v u Q I rx ry ⟨μ, st, dx, dy, hs, hx, hy, hp⟩
  unfold neV at hp
  cases e : eqR L dx dy st with
  | none => rw [e] at hp; exact hp.elim
  | some k =>
    rw [e] at hp
    exact (eqR_at I hs e hu hx hy rx ry).2 X.prog X.w X.xe _ ⟨.bl (!k), H, I, rfl, hp.ret hs (RepV.bl_iff.mpr rfl)⟩
end
end M
namespace M
open PySem PySem.Spec L2
/-! ### methods of lists and texts -/
def isTy (T : String) (d : D) (st : Stor) : Bool := match d with
  | .str _ => T == "str"
  | .loc n => (match st[n]? with
    | some (.lst _) => T == "list"
    | some (.frz _) => T == "list"
    | some (.dic _) => T == "dict"
    | some (.dkc _) => T == "dict"
    | _ => false)
  | _ => false
section
variable {X : Cx} {e a b c o : Expr} {es : List Expr} {ma mb mc mo : ME} {mA : MA} {pos p2 p apos cpos : Pos} {T id : String} {name : Str} {g : D → List D → Stor → R D}
theorem isTy_ok {μ : List Addr} {H : Hp} {d : D} {st : Stor} {v : V} (h : isTy T d st = true) (hs : RepS X.K μ H st) (hv : RepV X.K μ H d v) : tyV X.K T v H := by
  cases d with
  | str cs => rw [RepV.str_iff] at hv; subst hv; exact eq_of_beq h
  | loc n =>
    obtain ⟨p, q1, rfl⟩ := RepV.loc_iff.mp hv
    simp only [isTy] at h
    cases e : st[n]? with
    | none => rw [e] at h; cases h
    | some o =>
      rw [e] at h
      obtain ⟨p', r1, r2⟩ := hs.at_ n o e
      rw [q1] at r1; cases r1
      cases o with
      | lst ds => obtain ⟨xs, r3, _⟩ := r2; exact .inl ⟨eq_of_beq h, xs, SqL.of r3⟩
      | frz ds => obtain ⟨xs, r3, _⟩ := r2; exact .inl ⟨eq_of_beq h, xs, r3.sqL⟩
      | dic ds => obtain ⟨xs, r3, _⟩ := r2; exact .inr (.inr (.inl ⟨eq_of_beq h, .inr ⟨xs, r3⟩⟩))
      | dkc ds => obtain ⟨xs, r3, _⟩ := r2; exact .inr (.inr (.inl ⟨eq_of_beq h, .inl ⟨xs, r3⟩⟩))
      | _ => cases h
  | _ => simp [isTy] at h
def methE (T : String) (g : D → List D → Stor → R D) (mo : ME) (mA : MA) : ME := fun env st => (mo env st).bind fun x st1 => if isTy T x st1 = true then (mA env st1).bind fun xs st2 => g x xs st2 else .bad
def meth0E (T : String) (g : D → List D → Stor → R D) (mo : ME) : ME := fun env st => (mo env st).bind fun x st1 => if isTy T x st1 = true then g x [] st1 else .bad
theorem je_meth (pa : PlainAttrs T) (slot : Slot T name id) (hty : typeOf (.builtin id) = pure (.type "method_descriptor")) (hm : MtR X id (rMM X g)) (ho : JE X o mo) (ha : JA X (e :: es) mA)
    (hbase : attributeBase o name X.env (eval o X.env) = eval o X.env := by rfl)
    (hfew : ((backTo cpos (starEach (e :: es) X.env)).all (fun x => !x.1) && (backToKw cpos (keywordEach [] X.env)).all (fun x => x.1.isSome)
      && decide ((e :: es).length + ([] : List Keyword).length + (if ([] : List Keyword).isEmpty then 0 else 1) < 30)) = true := by rfl)
    (hline : (apos.endLine == cpos.line) = true := by rfl) (hs : starEach (e :: es) X.env = (false, eval e X.env) :: starEach es X.env := by rfl) (hplain : (backTo cpos (starEach es X.env)).any (·.1) = false := by rfl) : JE X (.Call (.Attribute o name apos) (e :: es) [] cpos) (methE T g mo mA) := by
  refine JE.of (pe_bm pa slot hty hm ho ha hbase hfew hline hs hplain) fun σ H Q ⟨μ, env, st, hE, hs, hp⟩ => ⟨μ, env, st, hE, hs, (Post.bind hp).imp ?_⟩
  rintro x H1 ⟨μ1, st1, d, g1, hs1, hx, hp1⟩
  dsimp only at hp1
  split at hp1
  · rename_i hT
    refine ⟨isTy_ok hT hs1 hx, μ1, env, st1, hE.mono g1, hs1, (Post.bind hp1).imp ?_⟩
    rintro xs H2 ⟨μ2, st2, ds, g2, hs2, hxs, hp2⟩
    exact ⟨μ2, st2, d, ds, hs2, hx.mono g2 _, hxs, hp2⟩
  · exact hp1.elim
theorem je_meth0 (pa : PlainAttrs T) (slot : Slot T name id) (hty : typeOf (.builtin id) = pure (.type "method_descriptor")) (hm : MtR X id (rMM X g)) (ho : JE X o mo)
    (hbase : attributeBase o name X.env (eval o X.env) = eval o X.env := by rfl) (hline : (apos.endLine == cpos.line) = true := by rfl) : JE X (.Call (.Attribute o name apos) [] [] cpos) (meth0E T g mo) := by
  refine JE.of (pe_bm0 pa slot hty hm ho hbase hline) fun σ H Q ⟨μ, env, st, hE, hs, hp⟩ => ⟨μ, env, st, hE, hs, (Post.bind hp).imp ?_⟩
  rintro x H1 ⟨μ1, st1, d, g1, hs1, hx, hp1⟩
  dsimp only at hp1
  split at hp1
  · rename_i hT
    exact ⟨isTy_ok hT hs1 hx, μ1, st1, d, [], hs1, hx, RepVs.nil, hp1⟩
  · exact hp1.elim
/-! lists -/
def appendV : D → List D → Stor → R D
  | .loc n, [d], st => match st[n]? with
    | some (.lst ds) => if ds.length < 1000000 then .ok .non (st.set n (.lst (ds ++ [d]))) else .bad
    | _ => .bad
  | _, _, _ => .bad
/-- a method that rewrites a list and hands back None -/
theorem wr_lst {μ : List Addr} {H : Hp} {st : Stor} {n : Nat} {ds ds' : List D} {p : Addr} {xs ys : List V} {Q : VK} (hp : Post X μ H (relV X) Q (.ok .non (st.set n (.lst ds')))) (hs : RepS X.K μ H st) (e : st[n]? = some (.lst ds)) (hq : μ[n]? = some p) (hx : H p = some (.lst xs)) (hy : RepVs X.K μ H ds' ys) :
    Q .non (upd H p (.lst ys)) := by
  obtain ⟨g, hs'⟩ := putLst hs e hq hx hy
  exact hp _ _ μ g hs' (RepV.non_iff.mpr rfl)
theorem mt_appendV : MtR X "list.append" (rMM X appendV) := by
  refine MtR.weak mt_append ?_
  rintro x xs H Q ⟨μ, st, d, ds, hs, hx, hxs, hp⟩
  unfold appendV at hp
  split at hp
  · rename_i n d' 
    cases e : st[n]? with
    | none => rw [e] at hp; exact hp.elim
    | some mo =>
      cases mo with
      | lst l =>
        rw [e] at hp
        dsimp only at hp
        split at hp
        · rename_i hl
          obtain ⟨p, q1, rfl⟩ := RepV.loc_iff.mp hx
          obtain ⟨y, rfl, q2⟩ := RepVs.one hxs
          obtain ⟨p', ys, r1, r2, r3⟩ := hs.lst e
          rw [q1] at r1; cases r1
          refine ⟨p, ys, y, rfl, rfl, r2, by rw [← r3.length]; exact Nat.lt_of_lt_of_le hl (by decide), wr_lst hp hs e q1 r2 (r3.append (RepVs.cons q2 RepVs.nil))⟩
        · exact hp.elim
      | _ => rw [e] at hp; exact hp.elim
  · exact hp.elim
/-! all, any of a list of bools -/
def boolsOf : List D → Option (List Bool)
  | [] => some []
  | .bl b :: r => (boolsOf r).map (b :: ·)
  | _ :: _ => none
theorem bools_are {μ : List Addr} {H : Hp} : ∀ {ds : List D} {xs : List V} {us : List Value} {bs : List Bool}, boolsOf ds = some bs → RepVs X.K μ H ds xs → Vals xs us → PyProof.Rows.LSm.BoolsAre us bs
  | [], _, _, _, e, h, r => by cases e; rw [RepVs] at h; subst h; cases r; exact .nil
  | d :: ds, _, _, bs, e, h, r => by
    rw [RepVs] at h
    obtain ⟨v, t, rfl, h1, h2⟩ := h
    cases r with
    | cons r1 r2 =>
    cases d with
    | bl b =>
      simp only [boolsOf] at e
      cases q : boolsOf ds with
      | none => rw [q] at e; cases e
      | some bs' =>
        rw [q] at e; cases e
        rw [RepV.bl_iff] at h1; subst h1
        cases (show _ = Value.bool b from r1)
        exact .cons b (bools_are q h2 r2)
    | _ => simp [boolsOf] at e
def allV (f : List Bool → Bool) : List D → Stor → R D
  | [.loc n], st => match (itemsAt st n).bind boolsOf with | some bs => .ok (.bl (f bs)) st | none => .bad
  | _, _ => .bad
theorem all_any {f : List Bool → Bool} {id : String} (rule : ∀ (s : Shared) (l : Addr) (vs : List Value) (bs : List Bool) (Q : Value → Shared → Prop), X.A.handled = none → s.heap.IsList l vs.toArray → PyProof.Rows.LSm.BoolsAre vs bs →
      (∀ h' tk, (∀ b o, s.heap.get? b = some o → h'.get? b = some o) → Q (.bool (f bs)) { s with heap := h', toks := tk }) → wpAny (model X.prog X.w) X.A (call (.builtin id) [.ref l]) Q X.xe s) (hc : X.A.handled = none) : CallR X (.builtin id) (rMC X (allV f)) := by
  rintro pins s σ H xs us Q I hr ⟨μ, st, ds, hs, hv, hp⟩
  unfold allV at hp
  split at hp
  · rename_i n
    cases e : itemsAt st n with
    | none => rw [e] at hp; exact hp.elim
    | some l =>
      rw [e] at hp
      cases e2 : boolsOf l with
      | none => simp only [Option.bind_some, e2] at hp; exact hp.elim
      | some bs =>
        simp only [Option.bind_some, e2] at hp
        obtain ⟨v, rfl, q⟩ := RepVs.one hv
        obtain ⟨p, q1, rfl⟩ := RepV.loc_iff.mp q
        obtain ⟨p', ys, r1, r2, r3⟩ := hs.items e
        rw [q1] at r1; cases r1
        obtain ⟨u, rfl, ru⟩ := vals1 hr
        cases (show u = Value.ref p from ru)
        obtain ⟨its, rv, pl, _⟩ := I.list r2
        exact rule s p its bs _ hc pl.isList (bools_are e2 r3 rv) fun h' tk hk => ⟨.bl (f bs), H, I.kept hk, rfl, hp.ret hs (RepV.bl_iff.mpr rfl)⟩
  · exact hp.elim
theorem call_allV (hc : X.A.handled = none) : CallR X (.builtin "all") (rMC X (allV fun bs => bs.all fun b => b)) := by
  refine all_any (fun s l vs bs Q hh hl hb h => ?_) hc
  have hlt : l < s.heap.objs.size := by obtain ⟨_, e, _⟩ := hl; exact Heap.lt_size e
  refine call_all_walk (wpAny_pyIter_list hl ?_)
  refine ⟨s.heap.objs.size, [s.heap.objs.size, l], [s.heap.objs.size], vs.toArray.size, _, _, fun i => (bs[i]?).getD true, rfl, Walks.list (A := X.A.in1) hh _ l (Nat.ne_of_lt hlt) vs.toArray,
    ⟨⟨_, Heap.get?_push_size _ rfl, rfl, rfl⟩, hl.push _⟩, fun i v s' Q' E' hP hQ => ?_, fun h' tk hk => ?_⟩
  · obtain ⟨b, e, rfl⟩ := hb.get i v (by simpa using hP)
    simp only [e, Option.getD_some] at hQ
    exact wpAny_truthy_bool hQ
  · have e : ((List.range vs.toArray.size).all fun i => (bs[i]?).getD true) = bs.all (fun b => b) := by
      rw [List.size_toArray, hb.length]; exact PyProof.Rows.LSm.range_all bs
    rw [e]
    exact h h' tk (PyProof.Rows.LSm.kept_iter hk)
end
end M
namespace M
open PySem PySem.Spec L2
section
variable {X : Cx} {e a b c l : Expr} {es : List Expr} {ma mb mc : ME} {mA : MA} {pos p2 p tpos : Pos} {μ : List Addr} {H : Hp}
/-! ### enumerate, reversed, zip of lists -/
/-- the list at a place, as a guard -/
def lstG (st : Stor) (n : Nat) : Option (List D × MO) := match st[n]? with
  | some (.lst ds) => some (ds, .lst ds)
  | some (.frz ds) => some (ds, .frz ds)
  | _ => none
theorem lstG_items {st : Stor} {n : Nat} {ds : List D} {o : MO} (h : lstG st n = some (ds, o)) : itemsAt st n = some ds ∧ st[n]? = some o ∧ (o = .lst ds ∨ o = .frz ds) := by
  unfold lstG at h
  unfold itemsAt
  split at h
  · rename_i q; cases h; rw [q]; exact ⟨rfl, rfl, .inl rfl⟩
  · rename_i q; cases h; rw [q]; exact ⟨rfl, rfl, .inr rfl⟩
  · cases h
theorem lstG_later {K : PySem.W.Frag} {st' : Stor} {n : Nat} {ds : List D} {o : MO} {μ' : List Addr} {H' : Hp} (ho : o = .lst ds ∨ o = .frz ds) (hs : RepS K μ' H' st') (e : st'[n]? = some o) : ∃ p xs, μ'[n]? = some p ∧ SqL K H' p xs ∧ RepVs K μ' H' ds xs := by
  refine hs.items ?_
  unfold itemsAt
  rcases ho with rfl | rfl <;> rw [e]
def enumL : Nat → List D → List D
  | _, [] => []
  | k, d :: ds => .tup [.int k, d] :: enumL (k + 1) ds
theorem enumL_get : ∀ (ds : List D) (k i : Nat), (enumL k ds)[i]? = (ds[i]?).map fun d => .tup [.int ((k + i : Nat) : Int), d]
  | [], k, i => by simp [enumL]
  | d :: ds, k, 0 => by simp [enumL]
  | d :: ds, k, i + 1 => by
    have := enumL_get ds (k + 1) i
    simp only [enumL, List.getElem?_cons_succ]
    rw [this, show k + 1 + i = k + (i + 1) by omega]
theorem enumL_len : ∀ (ds : List D) (k : Nat), (enumL k ds).length = ds.length
  | [], _ => rfl
  | _ :: ds, k => by simp [enumL, enumL_len ds (k + 1)]
def enumI (mA : MA) : MI := fun env st => (mA env st).bind fun ds st1 => match ds with
  | [.loc n] => (match lstG st1 n with | some (xs, o) => .ok (enumL 0 xs, [(n, o)]) st1 | none => .bad)
  | _ => .bad
theorem ite_rep {n : Nat} {ds : List D} {q : Addr} {o : MO} (ho : o = .lst ds ∨ o = .frz ds) (hp : μ[n]? = some q) : ItRep X μ H (Ite X.K q) (enumL 0 ds, [(n, o)]) := by
  intro H' μ' st' g hs ok
  have e : st'[n]? = some o := (ok (n, o) (by simp))
  obtain ⟨p', xs, q1, q2, q3⟩ := lstG_later ho hs e
  rw [g.get hp] at q1; cases q1
  refine ⟨fun i d hd => ?_, xs, q2, by rw [← q3.length]; show ds.length ≤ (enumL 0 ds).length; rw [enumL_len]; exact Nat.le_refl _⟩
  have hd' : (enumL 0 ds)[i]? = some d := hd
  rw [enumL_get] at hd'
  cases e2 : ds[i]? with
  | none => rw [e2] at hd'; cases hd'
  | some d0 =>
    rw [e2] at hd'; cases hd'
    obtain ⟨v, h1, h2⟩ := q3.get e2
    refine ⟨⟨xs, v, q2, h1⟩, ?_⟩
    rintro x H'' ⟨pp, y, hn, rfl, rfl, hy⟩
    have := hy xs q2
    rw [h1] at this; cases this
    refine ⟨Grow.lay hn, hs.lay hn, RepV.tup_iff.mpr ⟨pp, _, rfl, .inl upd_same, ?_⟩⟩
    exact (RepVs.cons (RepV.int_iff.mpr (by simp)) (RepVs.cons h2 RepVs.nil)).mono (Grow.lay hn) _
theorem ji_enum {elts : List Expr} {x1 : Nat} (ha : JA X [a] mA) (hg : Gl X "enumerate") (hm : X.mg "enumerate" = none) (hs : starEach [a] X.env = [(false, eval a X.env)] := by rfl) : JI X (.Tuple elts x1 tpos) (.Call (.Name "enumerate" p) [a] [] pos) (enumI mA) := by
  refine JI.of (pi_enum hg hm ha hs) fun σ H R ⟨μ, env, st, hE, hs, hp⟩ => ⟨μ, env, st, hE, hs, (Post.bind hp).imp ?_⟩
  rintro vs H1 ⟨μ1, st1, ds, g1, hs1, hv, hp1⟩
  dsimp only at hp1
  split at hp1
  · rename_i n
    cases e : lstG st1 n with
    | none => rw [e] at hp1; exact hp1.elim
    | some y =>
      obtain ⟨xs, o⟩ := y
      rw [e] at hp1
      obtain ⟨k1, k2, k3⟩ := lstG_items e
      obtain ⟨v, rfl, q1⟩ := RepVs.one hv
      obtain ⟨q, q2, rfl⟩ := RepV.loc_iff.mp q1
      obtain ⟨q', zs, r1, r2, r3⟩ := hs1.items k1
      rw [q2] at r1; cases r1
      exact ⟨q, rfl, ⟨zs, r2⟩, hp1 _ _ _ (.refl _ _) hs1 (ite_rep k3 q2)⟩
  · exact hp1.elim
end
end M
namespace M
open PySem PySem.Spec L2
/-! ### [e for t in it if c] -/
def PostK {α β : Type} (K : PySem.W.Frag) (μ : List Addr) (H : Hp) (rel : Rel α β) (Q : β → Hp → Prop) (r : R α) : Prop := match r with
  | .ok a st => ∀ (b : β) (H' : Hp) (μ' : List Addr), Grow μ H μ' H' → RepS K μ' H' st → rel μ' H' a b → Q b H'
  | _ => False
def tK {α β : Type} (K : PySem.W.Frag) (rel : Rel α β) (m : MEnv → Stor → R α) : L2.St → Hp → (β → Hp → Prop) → Prop := fun σ H Q => ∃ μ env st, RepE K μ H env σ ∧ RepS K μ H st ∧ PostK K μ H rel Q (m env st)
def tKG (K : PySem.W.Frag) (m : MG) : TG := fun v σ H Q => ∃ μ env st d, RepE K μ H env σ ∧ RepS K μ H st ∧ RepV K μ H d v ∧ PostK K μ H (fun μ H env σ => RepE K μ H env σ) Q (m d env st)
theorem PostK.post {α β : Type} {X : Cx} {μ : List Addr} {H : Hp} {rel : Rel α β} {Q : β → Hp → Prop} {r : R α} (h : PostK X.K μ H rel Q r) : Post X μ H rel Q r := by
  cases r with
  | ok a st => exact h
  | err x st => exact h.elim
  | bad => exact h.elim
theorem PostK.mono {α β : Type} {K : PySem.W.Frag} {μ μ1 : List Addr} {H H1 : Hp} {rel : Rel α β} {Q : β → Hp → Prop} {r : R α} (g : Grow μ H μ1 H1) (h : PostK K μ H rel Q r) : PostK K μ1 H1 rel Q r := by
  cases r with
  | ok a st => exact fun b H' μ' g' => h b H' μ' (g.trans g')
  | err x st => exact h.elim
  | bad => exact h.elim
/-- the block's names: what is taken from around, and its own -/
def captE (capt : List (Option Nat)) (env : MEnv) : MEnv := capt.map fun o => o.bind fun j => (env[j]?).join
open Classical in
noncomputable def compGo (g : MG) (t : MT) (e : ME) (gs : List (Nat × MO)) (n : Nat) : List D → MEnv → Stor → R D
  | [], _, st => if okG gs st then .ok (.loc n) st else .bad
  | d :: r, env, st => if okG gs st then (g d env st).bind fun env1 st1 => (t env1 st1).bind fun ok st2 => if ok then (e env1 st2).bind fun y st3 => (match st3[n]? with
      | some (.lst xs) => if xs.length < 1000000 then compGo g t e gs n r env1 (st3.set n (.lst (xs ++ [y]))) else .bad
      | _ => .bad) else compGo g t e gs n r env1 st2 else .bad
noncomputable def compE (capt : List (Option Nat)) (mi : MI) (g : MG) (t : MT) (e : ME) : ME := fun env st => (mi env st).bind fun s st1 => (compGo g t e s.2 st1.length s.1 (captE capt env) (st1 ++ [.lst []])).sure
def yesT : MT := fun _ st => .ok true st
section
variable {X : Cx} {elt tg iter c : Expr} {ifs : List Expr} {scope : Scope} {pos : Pos} {N : List Str} {capt : List (Option Nat)} {mi : MI} {g : MG} {t : MT} {me : ME}
theorem RepE.taken {K : PySem.W.Frag} {μ : List Addr} {H : Hp} {env : MEnv} {σ : L2.St} (cp : List (Option Nat)) (h : RepE K μ H env σ) : RepE K μ H (captE cp env) (captSt cp σ) := by
  refine ⟨by simp [captE, captSt], fun i d e => ?_⟩
  unfold captE at e
  unfold captSt
  rw [List.getElem?_map] at e ⊢
  cases q : cp[i]? with
  | none => rw [q] at e; cases e
  | some o =>
    rw [q] at e
    cases o with
    | none => cases e
    | some j =>
      have e' : (env[j]?).join = some d := by simpa using e
      have e2 : env[j]? = some (some d) := by
        cases z : env[j]? with
        | none => rw [z] at e'; cases e'
        | some y => rw [z] at e'; cases e'; rfl
      obtain ⟨v, h1, h2⟩ := h.at_ j d e2
      exact ⟨v, by simp [h1], h2⟩
/-- a step of a result that is sure -/
theorem PostK.val {α β γ : Type} {K : PySem.W.Frag} {μ : List Addr} {H : Hp} {rel : Rel α β} {r : R α} {f : α → Stor → R γ} {G : List Addr → Hp → R γ → Prop} (hG : ∀ μ μ1 H H1 r, Grow μ H μ1 H1 → G μ H r → G μ1 H1 r) (hb : ∀ μ H, ¬ G μ H .bad) (he : ∀ μ H x st, ¬ G μ H (.err x st))
    (h : G μ H (r.bind f)) : PostK K μ H rel (fun b H1 => ∃ μ1 st1 a, Grow μ H μ1 H1 ∧ RepS K μ1 H1 st1 ∧ rel μ1 H1 a b ∧ G μ1 H1 (f a st1)) r := by
  cases r with
  | ok a st => exact fun b H' μ' g h1 h2 => ⟨μ', st, a, g, h1, h2, hG _ _ _ _ _ g h⟩
  | err x st => exact (he _ _ _ _ h).elim
  | bad => exact (hb _ _ h).elim
/-- what is wanted behind the block -/
def EndG (X : Cx) (Q : VK) : List Addr → Hp → R D → Prop := fun μ H r => PostK X.K μ H (relV X) Q r
theorem tComp_of {σ : L2.St} {H : Hp} {Q : VK} (h : tM X (compE capt mi g t me) σ H Q) : tComp capt (tMI X mi) (tKG X.K g) (tK X.K relB t) (tK X.K (relV X) me) σ H Q := by
  obtain ⟨μ, env, st, hE, hs, hp⟩ := h
  refine ⟨μ, env, st, hE, hs, (Post.bind hp).imp ?_⟩
  rintro J H1 ⟨μ1, st1, s, g1, hs1, hJ, hp1⟩
  dsimp only at hp1
  have hp2 : EndG X Q μ1 H1 (compGo g t me s.2 st1.length s.1 (captE capt env) (st1 ++ [.lst []])) := by
    cases hr : compGo g t me s.2 st1.length s.1 (captE capt env) (st1 ++ [.lst []]) with
    | ok d st2 => rw [hr] at hp1; exact hp1
    | err y st2 => rw [hr] at hp1; exact hp1.elim
    | bad => rw [hr] at hp1; exact hp1.elim
  have mG : ∀ μ μ1 H H1 r, Grow μ H μ1 H1 → EndG X Q μ H r → EndG X Q μ1 H1 r := fun μ μ1 H H1 r g h => PostK.mono g h
  have nb : ∀ μ H, ¬ EndG X Q μ H .bad := fun μ H h => h
  have ne : ∀ μ H x st, ¬ EndG X Q μ H (.err x st) := fun μ H x st h => h
  intro D hD
  have gD : Grow μ1 H1 (μ1 ++ [D]) (upd H1 D (.lst [])) := Grow.new hD
  have sD : RepS X.K (μ1 ++ [D]) (upd H1 D (.lst [])) (st1 ++ [.lst []]) := hs1.new hD ⟨[], upd_same, RepVs.nil⟩
  have nD : (μ1 ++ [D])[st1.length]? = some D := by rw [← hs1.len]; simp
  refine ⟨fun i k σ' H' => ∃ μ2 env2 st2, Grow (μ1 ++ [D]) (upd H1 D (.lst [])) μ2 H' ∧ RepE X.K μ2 H' env2 σ' ∧ RepS X.K μ2 H' st2 ∧ EndG X Q μ2 H' (compGo g t me s.2 st1.length (s.1.drop i) env2 st2) ∧ i ≤ s.1.length ∧ k = s.1.length - i,
    ⟨_, μ1 ++ [D], captE capt env, _, .refl _ _, (hE.mono (g1.trans gD)).taken capt, sD, by simpa using mG _ _ _ _ _ gD hp2, Nat.zero_le _, rfl⟩, ?_⟩
  rintro i k σ2 H2 ⟨μ2, env2, st2, g2, hE2, hs2, hp3, hi, rfl⟩
  have atD : μ2[st1.length]? = some D := g2.get nD
  by_cases hlt : i < s.1.length
  · have e1 : s.1.drop i = s.1[i] :: s.1.drop (i + 1) := List.drop_eq_getElem_cons hlt
    rw [e1, compGo] at hp3
    by_cases ok : okG s.2 st2
    · rw [if_pos ok] at hp3
      obtain ⟨q1, q2⟩ := (hJ H2 μ2 st2 (gD.trans g2) hs2 ok).1 i s.1[i] (List.getElem?_eq_getElem hlt)
      refine .inr ⟨q1, fun σ' H' => ∃ μ3 env3 st3, Grow (μ1 ++ [D]) (upd H1 D (.lst [])) μ3 H' ∧ RepE X.K μ3 H' env3 σ' ∧ RepS X.K μ3 H' st3 ∧ EndG X Q μ3 H' (compGo g t me s.2 st1.length (s.1.drop (i + 1)) env3 st3), ?_, ?_⟩
      · rintro σ' H' ⟨μ3, env3, st3, g3, hE3, hs3, hp4⟩
        exact ⟨s.1.length - (i + 1), by omega, μ3, env3, st3, g3, hE3, hs3, hp4, by omega, rfl⟩
      · intro x H3 hx
        obtain ⟨g3, hs3, hd⟩ := q2 x H3 hx
        refine ⟨μ2, env2, st2, s.1[i], hE2.mono g3, hs3, hd, ?_⟩
        have w1 := PostK.val (K := X.K) (rel := fun μ H env σ => RepE X.K μ H env σ) mG nb ne (mG _ _ _ _ _ g3 hp3)
        cases hr1 : g s.1[i] env2 st2 with
        | bad => rw [hr1] at w1; exact w1
        | err y z => rw [hr1] at w1; exact w1
        | ok env4 st4 =>
          rw [hr1] at w1
          intro σ4 H4 μ4 g4 hs4 hE4
          obtain ⟨μ4', st4', env4', g4', hs4', hE4', hp4⟩ := w1 σ4 H4 μ4 g4 hs4 hE4
          refine ⟨μ4', env4', st4', hE4', hs4', ?_⟩
          have w2 := PostK.val (K := X.K) (rel := relB) mG nb ne hp4
          cases hr2 : t env4' st4' with
          | bad => rw [hr2] at w2; exact w2
          | err y z => rw [hr2] at w2; exact w2
          | ok b5 st5 =>
            rw [hr2] at w2
            intro b H5 μ5 g5 hs5 hb5
            obtain ⟨μ5', st5', b5', g5', hs5', hb5', hp5⟩ := w2 b H5 μ5 g5 hs5 hb5
            subst hb5'
            have gg : Grow (μ1 ++ [D]) (upd H1 D (.lst [])) μ5' H5 := ((g2.trans g3).trans g4').trans g5'
            cases b5' with
            | false => exact iteF ⟨μ5', env4', st5', gg, hE4'.mono g5', hs5', by simpa using hp5⟩
            | true =>
              refine iteT ⟨μ5', env4', st5', hE4'.mono g5', hs5', ?_⟩
              have hp5' : EndG X Q μ5' H5 ((me env4' st5').bind fun y st3 => (match st3[st1.length]? with
                | some (.lst xs) => if xs.length < 1000000 then compGo g t me s.2 st1.length (s.1.drop (i + 1)) env4' (st3.set st1.length (.lst (xs ++ [y]))) else .bad
                | _ => .bad)) := by simpa using hp5
              have w3 := PostK.val (K := X.K) (rel := relV X) mG nb ne hp5'
              cases hr3 : me env4' st5' with
              | bad => rw [hr3] at w3; exact w3
              | err y z => rw [hr3] at w3; exact w3
              | ok y6 st6 =>
                rw [hr3] at w3
                intro v H6 μ6 g6 hs6 hv6
                obtain ⟨μ6', st6', y6', g6', hs6', hv6', hp6⟩ := w3 v H6 μ6 g6 hs6 hv6
                have gg6 := gg.trans g6'
                have atD6 : μ6'[st1.length]? = some D := gg6.get nD
                cases e6 : st6'[st1.length]? with
                | none => rw [e6] at hp6; exact hp6.elim
                | some mo =>
                  cases mo with
                  | lst xs =>
                    rw [e6] at hp6
                    dsimp only at hp6
                    split at hp6
                    · rename_i hl
                      obtain ⟨p', ys, r1, r2, r3⟩ := hs6'.lst e6
                      rw [atD6] at r1; cases r1
                      obtain ⟨g7, hs7⟩ := putLst hs6' e6 atD6 r2 (r3.append (RepVs.cons hv6' RepVs.nil))
                      refine ⟨ys, r2, by rw [← r3.length]; exact Nat.lt_of_lt_of_le hl (by decide), μ6', env4', _, gg6.trans g7, ((hE4'.mono g5').mono g6').mono g7, hs7, mG _ _ _ _ _ g7 hp6⟩
                    · exact hp6.elim
                  | _ => rw [e6] at hp6; exact hp6.elim
    · rw [if_neg ok] at hp3; exact hp3.elim
  · have e1 : s.1.drop i = [] := List.drop_eq_nil_of_le (by omega)
    rw [e1, compGo] at hp3
    have e2 : i = s.1.length := by omega
    by_cases ok : okG s.2 st2
    · rw [if_pos ok] at hp3
      refine .inl ⟨by rw [e2]; exact (hJ H2 μ2 st2 (gD.trans g2) hs2 ok).2, ?_⟩
      exact hp3 _ H2 μ2 (.refl _ _) hs2 (RepV.loc_iff.mpr ⟨D, atD, rfl⟩)
    · rw [if_neg ok] at hp3; exact hp3.elim
theorem pe_tK {X' : Cx} {e : Expr} {m : ME} (h : JE X' e m) : PE X' e (tK X'.K (relV X') m) := fun pins s σ H Q I ⟨μ, env, st, a, b, c⟩ => h pins s σ H Q I ⟨μ, env, st, a, b, c.post⟩
theorem pg_tK {X' : Cx} {e : Expr} {m : MG} (h : JG X' e m) : PG X' e (tKG X'.K m) := fun pins s σ H v u Q I r ⟨μ, env, st, d, a, b, b2, c⟩ => h pins s σ H v u Q I r ⟨μ, env, st, d, a, b, b2, c.post⟩
def JTs (X : Cx) (ifs : List Expr) (m : MT) : Prop := PTs X ifs (tK X.K relB m)
theorem jts_nil {X' : Cx} : JTs X' [] yesT := fun pins s σ H Q I ⟨μ, env, st, a, b, c⟩ => pts_nil pins s σ H Q I (c true H μ (.refl _ _) b rfl)
/-- what a block takes from around stands in cells there -/
def FreeOk (sc sc0 : Scope) : Prop := ∀ x ∈ sc.names, x.2 = .free → sc0.names.lookup x.1 = some .cell ∨ sc0.names.lookup x.1 = some .free
instance (sc sc0 : Scope) : Decidable (FreeOk sc sc0) := inferInstanceAs (Decidable (∀ x ∈ sc.names, x.2 = .free → sc0.names.lookup x.1 = some .cell ∨ sc0.names.lookup x.1 = some .free))
theorem je_comp {sc0 : Scope} (hi : JI X tg iter mi) (S : CompScope scope) (hfr : FreeOk scope sc0) (hcap : Capt X scope capt N) (hc : X.calm = true)
    (hg : ∀ cl C fp s H, JG (compCx X N scope cl C fp s H) tg g) (ht : ∀ cl C fp s H, JTs (compCx X N scope cl C fp s H) ifs t) (he : ∀ cl C fp s H, JE (compCx X N scope cl C fp s H) elt me)
    (h0 : X.env.scope = sc0 := by rfl) (hs : ∀ x, foldedSetIterable iter X.env x = pure x := by intro _; rfl) : JE X (.ListComp elt [⟨tg, iter, ifs, 0⟩] scope pos) (compE capt mi g t me) :=
  JE.of (pe_comp (g := tKG X.K g) (tt := tK X.K relB t) (te := tK X.K (relV X) me) hi S (by subst h0; exact hfr) hcap hc (fun cl C fp s H => pg_tK (hg cl C fp s H)) ht (fun cl C fp s H => pe_tK (he cl C fp s H)) hs) fun σ H Q h => tComp_of h
theorem js_setComp (i : Nat) {y : Str} {py spos : Pos} {sc0 : Scope} (hi : JI X tg iter mi) (S : CompScope scope) (hfr : FreeOk scope sc0) (hcap : Capt X scope capt N) (hc : X.calm = true)
    (hg : ∀ cl C fp s H, JG (compCx X N scope cl C fp s H) tg g) (ht : ∀ cl C fp s H, JTs (compCx X N scope cl C fp s H) ifs t) (he : ∀ cl C fp s H, JE (compCx X N scope cl C fp s H) elt me)
    (hN : X.N.Nodup) (hy : X.N[i]? = some y := by rfl) (hx : Loc X.env.scope y := by first | exact Or.inl rfl | exact Or.inr rfl) (hsw : swapsWith (.ListComp elt [⟨tg, iter, ifs, 0⟩] scope pos) (some (.Name y py)) spos.line X.env = pure true := by rfl)
    (h0 : X.env.scope = sc0 := by rfl) (hs : ∀ x, foldedSetIterable iter X.env x = pure x := by intro _; rfl) (hf : X.fn y = true ∨ X.env.scope.names.lookup y = some .local := by first | exact .inl rfl | exact .inr rfl | assumption) :
    JS X (.Assign [.Name y py] (.ListComp elt [⟨tg, iter, ifs, 0⟩] scope pos) spos) (setS i (compE capt mi g t me)) := by
  refine JS.of (ps_setComp (g := tKG X.K g) (tt := tK X.K relB t) (te := tK X.K (relV X) me) hN hy hx hsw hi S (by subst h0; exact hfr) hcap hc (fun cl C fp s H => pg_tK (hg cl C fp s H)) ht (fun cl C fp s H => pe_tK (he cl C fp s H)) hs hf) fun E σ H ⟨μ, env, st, hE, hs, hp⟩ => ?_
  refine tComp_of ⟨μ, env, st, hE, hs, (PostS.val hp).imp ?_⟩
  rintro x H1 ⟨μ1, st1, d, g1, hs1, hx, hp1⟩
  exact hp1.nx hs1 ((hE.mono g1).set hx)
end
end M
namespace M
open PySem PySem.Spec L2
theorem lenA_nil : ∀ (env : MEnv) (st : Stor) (as : List D) (st1 : Stor), nilA env st = .ok as st1 → as.length = ([] : List Expr).length := by
  intro env st as st1 h
  cases h; rfl
theorem lenA_cons {e : Expr} {es : List Expr} {a : ME} {r : MA} (h : ∀ (env : MEnv) (st : Stor) (as : List D) (st1 : Stor), r env st = .ok as st1 → as.length = es.length) :
    ∀ (env : MEnv) (st : Stor) (as : List D) (st1 : Stor), consA a r env st = .ok as st1 → as.length = (e :: es).length := by
  intro env st as st1 q
  unfold consA at q
  cases h1 : a env st with
  | bad => rw [h1] at q; cases q
  | err x s => rw [h1] at q; cases q
  | ok x s =>
    rw [h1, R.bind_ok] at q
    cases h2 : r env s with
    | bad => rw [h2] at q; cases q
    | err x s => rw [h2] at q; cases q
    | ok xs s2 =>
      rw [h2, R.bind_ok] at q
      cases q
      rw [List.length_cons, List.length_cons, h env s xs _ h2]
theorem hu200 {A : Around} {k : Nat} (hr : Room k A) : A.units + 200 < cLine := by have := hr.un; omega
/-- enough for any while -/
def fuel : Nat := 1000000
/-- the script as the law finds it -/
theorem script_rep {K : PySem.W.Frag} {H : Hp} {a : Addr} {ns : List Int} (hO : Only H) (hS : SqL K H a (ns.map V.int)) : RepS K [a] H [.frz (ns.map D.int)] := by
  have hv : ∀ (μ : List Addr) (l : List Int), RepVs K μ H (l.map D.int) (l.map V.int) := fun μ l => by
    induction l with
    | nil => exact RepVs.nil
    | cons i l ih => exact RepVs.cons (RepV.int_iff.mpr rfl) ih
  refine ⟨rfl, fun n o e => ?_, fun i j b oi oj ei ej mi mj _ _ => ?_⟩
  · match n, e with
    | 0, e =>
      simp at e; subst e
      refine ⟨a, rfl, _, ?_, hv _ ns⟩
      rcases hS with (h | ⟨o, h⟩) | h
      · rcases hO a with z | ⟨o, xs, z⟩
        · rw [z] at h; cases h
        · rw [z] at h; cases h
      · exact .inl ⟨o, h⟩
      · exact .inr h
    | n + 1, e => simp at e
  · match i, ei with
    | 0, ei => simp at ei; subst ei; cases mi
    | i + 1, ei => simp at ei
theorem holds_of {l : PySem.W.OpenLaw} {k : Nat} {q : Program} {loose : List Str} {XP : (Str → Option Value) → Heap → Prop} {YP : World → Heap → Prop} {d : DefRec} {K : Params → PySem.W.Frag} {F : FD} {x : Str}
    (hn : l.most = some 63) (hdf : d.params.defaults = []) (hr : Room k callerA)
    (hY : ∀ (w : World) (h : Heap), YP w h → (K w.params).In h)
    (G : ∀ (w : World) (mg : Str → Option Value) (fa : Addr) (h : Heap), (K w.params).In h → h.Ns mainGlobals mg → mg d.name = some (.ref fa) →
      ∃ fd : FuncData, (∀ (s : Shared) (u : Value), BindsTo s fd ⟨[u], []⟩ [(x, u)]) ∧ ∀ base : Heap, (K w.params).In base → base.Ns mainGlobals mg → FnOk l.prog w (K w.params) mg base CX0 k fa fd [x] (spM (K w.params) 1 F))
    (hF : ∀ ns : List Int, ns.length ≤ 63 → ∃ st, F [.loc 0] [.frz (ns.map D.int)] = .ok (.bl true) st) :
    PySem.W.WalkO q loose XP YP l.row.toRowW d [] (fun f vs => PySem.call f vs) :=
  L2.walk_of (n := 63) (k := k) (x := x) (CX := fun _ => CX0) (sp := fun w => spM (K w.params) 1 F) hn (by decide) hdf hr hY G
    (fun w H a ns hl hO hS => by
      obtain ⟨st, e⟩ := hF ns hl
      refine ⟨rfl, [a], [.loc 0], _, RepVs.cons (RepV.loc_iff.mpr ⟨a, rfl, rfl⟩) RepVs.nil, script_rep hO hS, ?_⟩
      rw [e]
      exact fun v H' μ' _ _ hv => RepV.bl_iff.mp hv) fun _ _ _ _ _ z => z
end M
namespace M
open L2
/-! ### running a denotation by the simplifier -/
theorem gc_same {st : Stor} {d : D} (h : under st.length d) : gc st (.ok d st) = .ok d st := by
  have := gc_flat (st := st) (g := []) h
  simpa using this
theorem itemsAt_app {st l : Stor} {n : Nat} {ds : List D} (h : itemsAt st n = some ds) : itemsAt (st ++ l) n = some ds := by
  unfold itemsAt at h ⊢
  cases e : st[n]? with
  | none => rw [e] at h; cases h
  | some o =>
    rw [List.getElem?_append_left (List.getElem?_eq_some_iff.mp e).1, e]
    rw [e] at h
    exact h
theorem get_app {st l : Stor} {n : Nat} {o : MO} (h : st[n]? = some o) : (st ++ l)[n]? = some o := by rw [List.getElem?_append_left (List.getElem?_eq_some_iff.mp h).1]; exact h
@[simp] theorem get_app0 {st l : Stor} : (st ++ l)[st.length]? = l[0]? := by rw [List.getElem?_append_right (Nat.le_refl _)]; simp
@[simp] theorem set_app0 {st l : Stor} {o : MO} : (st ++ l).set st.length o = st ++ l.set 0 o := by rw [List.set_append_right _ _ (Nat.le_refl _)]; simp
@[simp] theorem items_app0 {st l : Stor} : itemsAt (st ++ l) st.length = itemsAt l 0 := by unfold itemsAt; rw [get_app0]
@[simp] theorem items_cons0 {o : MO} {l : Stor} : itemsAt (o :: l) 0 = (match o with | .lst ds => some ds | .frz ds => some ds | _ => none) := by
  unfold itemsAt; cases o <;> rfl
theorem atI_ofNat {α : Type} (xs : List α) (k : Nat) : atI xs (k : Int) = xs[k]? := by
  unfold atI ixN
  rw [if_pos (by omega)]
  by_cases h : k < xs.length
  · rw [if_pos (by omega)]; simp
  · rw [if_neg (by omega)]; simp; omega
/-! loops -/
theorem forGo_all {g : MG} {b : MS} {gs : List (Nat × MO)} {items : List D} (I : List D → MEnv → Stor → Prop) {env : MEnv} {st : Stor} (h0 : I [] env st)
    (step : ∀ pre d post env st, items = pre ++ d :: post → I pre env st → okG gs st ∧ ∃ env1 st1, g d env st = .ok env1 st1 ∧ ∃ env2 st2, (b env1 st1 = .ok (.nx env2) st2 ∨ b env1 st1 = .ok (.cn env2) st2) ∧ I (pre ++ [d]) env2 st2)
    (hend : ∀ env st, I items env st → okG gs st) : ∃ env' st', forGo g b gs items env st = .ok (.nx env') st' ∧ I items env' st' := by
  have key : ∀ (post pre : List D) (env : MEnv) (st : Stor), items = pre ++ post → I pre env st → ∃ env' st', forGo g b gs post env st = .ok (.nx env') st' ∧ I items env' st' := by
    intro post
    induction post with
    | nil =>
      intro pre env st e hI
      have : items = pre := by simpa using e
      subst this
      exact ⟨env, st, by rw [forGo, if_pos (hend env st hI)], hI⟩
    | cons d post ih =>
      intro pre env st e hI
      obtain ⟨ok, env1, st1, h1, env2, st2, h2, hI2⟩ := step pre d post env st e hI
      obtain ⟨env', st', h3, h4⟩ := ih (pre ++ [d]) env2 st2 (by simp [e]) hI2
      refine ⟨env', st', ?_, h4⟩
      rw [forGo, if_pos ok, h1, R.bind_ok]
      rcases h2 with h2 | h2 <;> (rw [h2, R.bind_ok]; exact h3)
  exact key items [] env st rfl h0
/-- a comprehension whose parts leave the store as it is -/
theorem compE_filter {capt : List (Option Nat)} {mi : MI} {g : MG} {t : MT} {e : ME} {env : MEnv} {st st1 : Stor} {items : List D} {gs : List (Nat × MO)} (p : D → Bool) (f : D → D) (Pe : MEnv → Prop)
    (hi : mi env st = .ok (items, gs) st1) (h0 : Pe (captE capt env)) (hl : items.length ≤ 1000000) (hg : ∀ ys, okG gs (st1 ++ [.lst ys]))
    (step : ∀ d ∈ items, ∀ env' ys, Pe env' → ∃ env1, Pe env1 ∧ g d env' (st1 ++ [.lst ys]) = .ok env1 (st1 ++ [.lst ys]) ∧ t env1 (st1 ++ [.lst ys]) = .ok (p d) (st1 ++ [.lst ys]) ∧
      (p d = true → e env1 (st1 ++ [.lst ys]) = .ok (f d) (st1 ++ [.lst ys]))) :
    compE capt mi g t e env st = .ok (.loc st1.length) (st1 ++ [.lst ((items.filter p).map f)]) := by
  have key : ∀ (post : List D) (env' : MEnv) (ys : List D), (∀ d ∈ post, d ∈ items) → Pe env' → ys.length + post.length ≤ 1000000 →
      compGo g t e gs st1.length post env' (st1 ++ [.lst ys]) = .ok (.loc st1.length) (st1 ++ [.lst (ys ++ (post.filter p).map f)]) := by
    intro post
    induction post with
    | nil => intro env' ys _ _ _; rw [compGo, if_pos (hg ys)]; simp
    | cons d post ih =>
      intro env' ys hm hP hn
      obtain ⟨env1, hP1, h1, h2, h3⟩ := step d (hm d (by simp)) env' ys hP
      have hm' : ∀ d ∈ post, d ∈ items := fun d hd => hm d (List.mem_cons_of_mem _ hd)
      rw [List.length_cons] at hn
      rw [compGo, if_pos (hg ys), h1, R.bind_ok, h2, R.bind_ok]
      cases hp : p d with
      | false =>
        rw [if_neg (by simp), ih env1 ys hm' hP1 (by omega)]
        simp [hp]
      | true =>
        rw [if_pos rfl, h3 hp, R.bind_ok]
        simp only [get_app0, List.getElem?_cons_zero]
        rw [if_pos (by omega), set_app0, List.set_cons_zero, ih env1 (ys ++ [f d]) hm' hP1 (by simp; omega)]
        simp [hp]
  unfold compE
  rw [hi, R.bind_ok, key items (captE capt env) [] (fun d hd => hd) h0 (by simpa using hl)]
  simp
theorem compE_map {capt : List (Option Nat)} {mi : MI} {g : MG} {e : ME} {env : MEnv} {st st1 : Stor} {items : List D} {gs : List (Nat × MO)} (f : D → D) (Pe : MEnv → Prop)
    (hi : mi env st = .ok (items, gs) st1) (h0 : Pe (captE capt env)) (hl : items.length ≤ 1000000) (hg : ∀ ys, okG gs (st1 ++ [.lst ys]))
    (step : ∀ d ∈ items, ∀ env' ys, Pe env' → ∃ env1, Pe env1 ∧ g d env' (st1 ++ [.lst ys]) = .ok env1 (st1 ++ [.lst ys]) ∧ e env1 (st1 ++ [.lst ys]) = .ok (f d) (st1 ++ [.lst ys])) :
    compE capt mi g yesT e env st = .ok (.loc st1.length) (st1 ++ [.lst (items.map f)]) := by
  have := compE_filter (capt := capt) (mi := mi) (g := g) (t := yesT) (e := e) (env := env) (st := st) (fun _ => true) f Pe hi h0 hl hg fun d hd env' ys hP => by
    obtain ⟨env1, a, b, c⟩ := step d hd env' ys hP
    exact ⟨env1, a, b, rfl, fun _ => c⟩
  have e2 : items.filter (fun _ => true) = items := List.filter_eq_self.mpr (by simp)
  rw [e2] at this
  exact this
/-! all the words for the simplifier -/
section
variable (env : MEnv) (st : Stor) (a b : ME) (x y : D) (mA : MA) (tc ta tb : MT) (m1 m2 : MS)
@[simp] theorem r_vr (i : Nat) : vr i env st = match env[i]? with | some (some d) => .ok d st | _ => .bad := by_rfl rfl
@[simp] theorem r_ct (d : D) : ct d env st = .ok d st := by_rfl rfl
@[simp] theorem r_op2 (g : D → D → Stor → R D) : op2 g a b env st = (a env st).bind fun x st1 => (b env st1).bind fun y st2 => g x y st2 := by_rfl rfl
@[simp] theorem r_op1 (g : D → Stor → R D) : op1 g a env st = (a env st).bind fun x st1 => g x st1 := by_rfl rfl
@[simp] theorem r_tB1  : tB1 a env st = (a env st).bind fun x st1 => match x with | .bl b => .ok b st1 | _ => .bad := by_rfl rfl
@[simp] theorem r_tru  : tru a env st = (a env st).bind fun x st1 => match truV x st1 with | some b => .ok b st1 | none => .bad := by_rfl rfl
@[simp] theorem r_andT  : andT ta tb env st = (ta env st).bind fun x st1 => if x then tb env st1 else .ok false st1 := by_rfl rfl
@[simp] theorem r_orT  : orT ta tb env st = (ta env st).bind fun x st1 => if x then .ok true st1 else tb env st1 := by_rfl rfl
@[simp] theorem r_notT  : notT ta env st = (ta env st).bind fun x st1 => .ok (!x) st1 := by_rfl rfl
@[simp] theorem r_andV  : andV a b env st = (a env st).bind fun x st1 => match x with | .bl true => b env st1 | .bl false => .ok (.bl false) st1 | _ => .bad := by_rfl rfl
@[simp] theorem r_notV  : notV a env st = (a env st).bind fun x st1 => match x with | .bl c => .ok (.bl (!c)) st1 | _ => .bad := by_rfl rfl
@[simp] theorem r_nilA  : nilA env st = .ok [] st := by_rfl rfl
@[simp] theorem r_consA  : consA a mA env st = (a env st).bind fun x st1 => (mA env st1).bind fun xs st2 => .ok (x :: xs) st2 := by_rfl rfl
@[simp] theorem r_tupE  : tupE mA env st = (mA env st).bind fun ds st1 => if ds.length ≤ 1000000 then .ok (.tup ds) st1 else .bad := by_rfl rfl
@[simp] theorem r_lstE  : lstE mA env st = (mA env st).bind fun ds st1 => if ds.length ≤ 1000000 then .ok (.loc st1.length) (st1 ++ [.lst ds]) else .bad := by_rfl rfl
@[simp] theorem r_noP  : noP env st = .ok none st := by_rfl rfl
@[simp] theorem r_inP  : inP a env st = (a env st).bind fun x st1 => match x with | .int i => .ok (some i) st1 | _ => .bad := by_rfl rfl
@[simp] theorem r_slE (l h : MP) : slE a l h env st = (a env st).bind fun x st1 => (l env st1).bind fun lo st2 => (h env st2).bind fun hi st3 => slV x lo hi st3 := by_rfl rfl
@[simp] theorem r_callE (g : List D → Stor → R D) : callE g mA env st = (mA env st).bind fun ds st1 => g ds st1 := by_rfl rfl
@[simp] theorem r_skipS  : skipS env st = .ok (.nx env) st := by_rfl rfl
@[simp] theorem r_seqS  : seqS m1 m2 env st = (m1 env st).bind fun o st1 => match o with | .nx env1 => m2 env1 st1 | o => .ok o st1 := by_rfl rfl
@[simp] theorem r_retS  : retS a env st = (a env st).bind fun d st1 => .ok (.rt d) st1 := by_rfl rfl
@[simp] theorem r_exprS  : exprS a env st = (a env st).bind fun _ st1 => .ok (.nx env) st1 := by_rfl rfl
@[simp] theorem r_ifS  : ifS tc m1 m2 env st = (tc env st).bind fun x st1 => if x then m1 env st1 else m2 env st1 := by_rfl rfl
@[simp] theorem r_nameG (i : Nat) : nameG i x env st = .ok (env.set i (some x)) st := by_rfl rfl
@[simp] theorem r_asgS (g : MG) : asgS a g env st = (a env st).bind fun d st1 => (g d env st1).bind fun env1 st2 => .ok (.nx env1) st2 := by_rfl rfl
@[simp] theorem r_setS (i : Nat) : setS i a env st = (a env st).bind fun d st1 => .ok (.nx (env.set i (some d))) st1 := by_rfl rfl
@[simp] theorem r_nilG  : nilG [] env st = .ok env st := by_rfl rfl
@[simp] theorem r_consG (g : MG) (r : MGs) (d : D) (ds : List D) : consG g r (d :: ds) env st = (g d env st).bind fun env1 st1 => r ds env1 st1 := by_rfl rfl
@[simp] theorem r_tupG (n : Nat) (g : MGs) (ds : List D) : tupG n g (.tup ds) env st = if ds.length = n then g ds env st else .bad := by_rfl rfl
@[simp] theorem r_subG (g : D → D → D → Stor → R Unit) (d : D) : subG g a b d env st = (a env st).bind fun x st1 => (b env st1).bind fun y st2 => (g x y d st2).bind fun _ st3 => .ok env st3 := by_rfl rfl
@[simp] theorem r_callF (F : FD) (dd : List D) : callF F dd mA env st = (mA env st).bind fun as st1 => (F (as ++ dd) st1).sure := by_rfl rfl
@[simp] theorem r_methE (T : String) (g : D → List D → Stor → R D) : methE T g a mA env st = (a env st).bind fun x st1 => if isTy T x st1 = true then (mA env st1).bind fun xs st2 => g x xs st2 else .bad := by_rfl rfl
@[simp] theorem r_meth0E (T : String) (g : D → List D → Stor → R D) : meth0E T g a env st = (a env st).bind fun x st1 => if isTy T x st1 = true then g x [] st1 else .bad := by_rfl rfl
@[simp] theorem r_forS (mi : MI) (g : MG) : forS mi g m1 env st = (mi env st).bind fun s st1 => forGo g m1 s.2 s.1 env st1 := by_rfl rfl
@[simp] theorem r_seqI  : seqI a env st = (a env st).bind fun d st1 => match d with
  | .loc n => (match st1[n]? with
    | some (.lst ds) => .ok (ds, [(n, .lst ds)]) st1
    | some (.frz ds) => .ok (ds, [(n, .frz ds)]) st1
    | _ => .bad)
  | .tup ds => .ok (ds, []) st1
  | _ => .bad := by_rfl rfl
@[simp] theorem r_range1I  : range1I mA env st = (mA env st).bind fun ds st1 => match ds with
  | [.int j] => if -(2 ^ 62) ≤ j ∧ j < 2 ^ 62 then .ok (upto 0 j.toNat, []) st1 else .bad
  | _ => .bad := by_rfl rfl
@[simp] theorem r_enumI  : enumI mA env st = (mA env st).bind fun ds st1 => match ds with
  | [.loc n] => (match lstG st1 n with | some (xs, o) => .ok (enumL 0 xs, [(n, o)]) st1 | none => .bad)
  | _ => .bad := by_rfl rfl
@[simp] theorem r_add_int (i j : Int) : addV (.int i) (.int j) st = .ok (.int (i + j)) st := by_rfl rfl
@[simp] theorem r_sub_int (i j : Int) : subV (.int i) (.int j) st = .ok (.int (i - j)) st := by simp [subV, intV]
theorem r_mul_int (i j : Int) (h : (-(2 ^ 64) < i ∧ i < 2 ^ 64) ∨ (-(2 ^ 64) < j ∧ j < 2 ^ 64)) : mulV (.int i) (.int j) st = .ok (.int (i * j)) st := by
  unfold mulV intV; dsimp only; rw [if_pos h]
theorem r_fdiv_int (i j : Int) (h : 0 < j ∧ j < 2 ^ 64) : fdivV (.int i) (.int j) st = .ok (.int (i / j)) st := by
  unfold fdivV intV; dsimp only; rw [if_pos h]
theorem r_mod_int (i j : Int) (h : 0 < j) : modV (.int i) (.int j) st = .ok (.int (i % j)) st := by
  unfold modV intV; dsimp only; rw [if_pos h]
@[simp] theorem r_lt_int (i j : Int) : ltV (.int i) (.int j) st = .ok (.bl (decide (i < j))) st := by simp [ltV, intV]
@[simp] theorem r_gt_int (i j : Int) : gtV (.int i) (.int j) st = .ok (.bl (decide (j < i))) st := by simp [gtV, intV]
@[simp] theorem r_eq_int (L : Nat) (i j : Int) : eqV (L + 1) (.int i) (.int j) st = .ok (.bl (decide (i = j))) st := by
  have e : (i == j) = decide (i = j) := by rw [Bool.eq_iff_iff]; simp
  simp only [eqV, eqR, eqD, e, flat_int, cdep_int]
  rw [if_pos ⟨trivial, trivial, Nat.succ_pos L⟩]
@[simp] theorem r_ne_int (L : Nat) (i j : Int) : neV (L + 1) (.int i) (.int j) st = .ok (.bl (!decide (i = j))) st := by
  have e : (i == j) = decide (i = j) := by rw [Bool.eq_iff_iff]; simp
  simp only [neV, eqR, eqD, e, flat_int, cdep_int]
  rw [if_pos ⟨trivial, trivial, Nat.succ_pos L⟩]
@[simp] theorem r_eq_str (L : Nat) (i j : List Nat) : eqV (L + 1) (.str i) (.str j) st = .ok (.bl (decide (i = j))) st := by
  have e : (i == j) = decide (i = j) := by rw [Bool.eq_iff_iff]; simp
  simp only [eqV, eqR, eqD, e, flat_str, cdep_str]
  rw [if_pos ⟨trivial, trivial, Nat.succ_pos L⟩]
@[simp] theorem r_ne_str (L : Nat) (i j : List Nat) : neV (L + 1) (.str i) (.str j) st = .ok (.bl (!decide (i = j))) st := by
  have e : (i == j) = decide (i = j) := by rw [Bool.eq_iff_iff]; simp
  simp only [neV, eqR, eqD, e, flat_str, cdep_str]
  rw [if_pos ⟨trivial, trivial, Nat.succ_pos L⟩]
theorem r_ix_loc (n : Nat) (i : Int) (ds : List D) (d : D) (h : itemsAt st n = some ds) (hi : atI ds i = some d) : ixV (.loc n) (.int i) st = .ok d st := by
  simp [ixV, h, hi]
@[simp] theorem r_min2 (i j : Int) : min2V [.int i, .int j] st = .ok (.int (if j < i then j else i)) st := by_rfl rfl
theorem r_len_loc (n : Nat) (ds : List D) (h : itemsAt st n = some ds) : lenV [.loc n] st = .ok (.int ds.length) st := by simp [lenV, h]
@[simp] theorem r_is_int (T : String) (i : Int) : isV T (.int i) st = .ok (.bl (subTy "int" T)) st := by_rfl rfl
end
end M
namespace L2
open PySem PySem.Spec PyProof.Rows
/-! ### lists of pairs as tables -/
section
variable {κ : Type} [DecidableEq κ]
def valV (kvs : List (κ × V)) (k : κ) : Option V := (kvs.find? fun kv => decide (kv.1 = k)).map (·.2)
theorem valV_pos {p : κ × V} {r : List (κ × V)} {k : κ} (e : p.1 = k) : valV (p :: r) k = some p.2 := by simp [valV, List.find?_cons, e]
theorem valV_neg {p : κ × V} {r : List (κ × V)} {k : κ} (e : ¬ p.1 = k) : valV (p :: r) k = valV r k := by simp [valV, List.find?_cons, e]
/-- raw tables of the same keys -/
theorem KV.val {kvs : List (κ × V)} {vs : List (κ × Value)} (r : KV kvs vs) (k : κ) : RelO (valV kvs k) (valueAt vs k) := by
  unfold KV at r
  induction r with
  | nil => exact True.intro
  | @cons p q ps qs h t ih =>
    obtain ⟨h1, h2⟩ := h
    by_cases e : p.1 = k
    · have e' : q.1 = k := h1.symm.trans e
      have b : valueAt (q :: qs) k = some q.2 := by simp [valueAt, List.find?_cons, e']
      rw [valV_pos e, b]; exact h2
    · have e' : ¬ q.1 = k := fun z => e (h1.trans z)
      have b : valueAt (q :: qs) k = valueAt qs k := by simp [valueAt, List.find?_cons, e']
      rw [valV_neg e, b]; exact ih
end
/-! ### a tracked dict, its keys ints and texts or tuples of these -/
theorem kV_is {P : Program} {w : World} {k : Key} {u : Value} (r : RelV (kV k) u) : (mixKind P w).is k u = true := by
  cases k with
  | inl i => obtain ⟨t, e⟩ := (show ∃ t, u = Value.int i t from r); subst e; exact mixKind_int P w i t
  | inr x => obtain ⟨t, e⟩ := (show ∃ t, u = Value.str x t from r); subst e; exact mixKind_str P w x t
section
variable {P : Program} {w : World} {H : Hp} {h : Heap} {a : Addr}
end
section
variable {X : Cx} {pins : List (Addr × Obj)} {σ : St} {H : Hp} {s : Shared} {a : Addr} {y v : V} {u r : Value} {o : Option V} {A : Around} {E : Value → Shared → Prop}
end
section
variable {X : Cx} {pins : List (Addr × Obj)} {σ : St} {H : Hp} {s : Shared} {a : Addr} {kvs : List (Key × V)} {k : Key} {u : Value} {A : Around} {E : Value → Shared → Prop}
end
/-! ### readings and rules -/
section
variable {X : Cx} {o i e value : Expr} {pos pos' tpos : Pos} {td ty tv : TE}
end
/-! ### displays -/
section
variable {X : Cx} {pos : Pos}
end
/-! ### methods -/
/-- a method call o.m(e) of a built-in, with one argument: what must be seen of the text -/
structure M1 (X : Cx) (o : Expr) (m : Str) (apos : Pos) (e : Expr) (cpos : Pos) : Prop where
  base : attributeBase o m X.env (eval o X.env) = eval o X.env
  few : ((backTo cpos (starEach [e] X.env)).all (fun x => !x.1) && (backToKw cpos (keywordEach [] X.env)).all (fun x => x.1.isSome)
    && decide (([e] : List Expr).length + ([] : List Keyword).length + (if ([] : List Keyword).isEmpty then 0 else 1) < 30)) = true
  line : (apos.endLine == cpos.line) = true
  trees : backTo cpos (starEach [e] X.env) = [(false, eval e X.env)]
structure M2 (X : Cx) (o : Expr) (m : Str) (apos : Pos) (e f : Expr) (cpos : Pos) : Prop where
  base : attributeBase o m X.env (eval o X.env) = eval o X.env
  few : ((backTo cpos (starEach [e, f] X.env)).all (fun x => !x.1) && (backToKw cpos (keywordEach [] X.env)).all (fun x => x.1.isSome)
    && decide (([e, f] : List Expr).length + ([] : List Keyword).length + (if ([] : List Keyword).isEmpty then 0 else 1) < 30)) = true
  line : (apos.endLine == cpos.line) = true
  trees : backTo cpos (starEach [e, f] X.env) = [(false, eval e X.env), (false, eval f X.env)]
section
variable {X : Cx} {pins : List (Addr × Obj)} {σ : St} {H : Hp} {s : Shared} {a : Addr} {y d : V} {u r : Value} {o : Option V} {A : Around} {E : Value → Shared → Prop}
end
section
variable {X : Cx} {o e f : Expr} {apos cpos : Pos} {td ty tx : TE}
end
/-! ### dict(d): a copy -/
section
variable {X : Cx} {pins : List (Addr × Obj)} {σ : St} {H : Hp} {s : Shared} {a : Addr} {kvs : List (Key × V)} {A : Around} {E : Value → Shared → Prop}
end
section
variable {X : Cx} {pins : List (Addr × Obj)} {σ : St} {H : Hp} {s : Shared} {a : Addr} {y : V} {u : Value} {A : Around} {E : Value → Shared → Prop}
end
end L2
namespace L2
open PySem PySem.Spec PyProof.Rows
/-! ### d.setdefault(k, v), k a tuple -/
section
variable {X : Cx} {pins : List (Addr × Obj)} {σ : St} {H : Hp} {s : Shared} {a b : Addr} {v : V} {u r : Value} {A : Around} {E : Value → Shared → Prop} {kvs : List (List Key × V)} {k : List Key}
end
end L2
namespace M
open PySem PySem.Spec L2
/-! ### dicts whose keys are tuples of ints and texts -/
section
variable {X : Cx} {e a b c o : Expr} {es : List Expr} {ma mb mc mo : ME} {mA : MA} {pos p2 p apos cpos : Pos}
end
end M
namespace L2
open PySem PySem.Spec PyProof.Rows
/-! ### for c in text (of signs below 128) -/
def Its (x : Str) : It := ⟨fun i _ => i < x.cps.size, fun i H y H' => H' = H ∧ ∃ c, x.cps[i]? = some c ∧ y = .str ⟨#[c]⟩, fun i _ => x.cps.size ≤ i⟩
theorem turn_str {P : Program} {w : World} {K : PySem.W.Frag} {tg : Expr} (it : Addr) (x : Str) (t : Tok) : Turn P w K tg (Its x) [it] it (fun i h => h.IsStrIter it "str_ascii_iterator" x t i) where
  mem := by simp
  obj := fun i h st b hb => by
    have e : b = it := by simpa using hb
    subst e
    obtain ⟨o, e, c, d⟩ := st
    exact ⟨o, e, fun v z => by rw [d] at z; cases z⟩
  keep := fun i h h' st k => by
    obtain ⟨o, e, c, d⟩ := st
    exact ⟨o, k it (by simp) o e, c, d⟩
  item := by
    intro X hP hw hK hc i pins s σ H E I hf st hg
    subst hP hw hK
    obtain ⟨f0, f1, f2, f3, f4, f5⟩ := hf it (by simp)
    have hi : i < x.cps.size := hg
    refine wpAny_pyNext_ascii_item st (Array.getElem?_eq_getElem hi) fun h' st' sb => ?_
    have I1 : Inv X pins σ H { s with heap := h', toks := s.toks + 1 } := I.turned (fun b o hb e => (sb.2 b hb).trans e) f0 f1 f3 f4 f5
    obtain ⟨o, e, c, d⟩ := id st'
    exact ⟨_, rfl, go_of (s := { s with heap := h', toks := s.toks + 1 }) e c d (by decide) ⟨.str ⟨#[x.cps[i]]⟩, H, I1, ⟨_, rfl⟩, ⟨rfl, _, Array.getElem?_eq_getElem hi, rfl⟩, st', fun b hb => (hf b hb).1⟩⟩
  done := by
    intro X hP hw hK hc i pins s σ H E I hf st hg
    subst hP hw hK
    obtain ⟨f0, f1, f2, f3, f4, f5⟩ := hf it (by simp)
    have hi : x.cps.size ≤ i := hg
    exact wpAny_pyNext_ascii_end (I.ok.hd hc) st (Array.getElem?_eq_none hi) fun h' eb => ⟨rfl, I.turned (t' := s.toks) (fun b o hb e => eb b o hb e) f0 f1 f3 f4 f5⟩
  self := fun _ _ _ _ _ st h => wpAny_pyIter_striter_ascii st h
def iStr (tl : TE) : TI := fun σ H R => tl σ H fun y H1 => ∃ x, y = .str x ∧ strIterType x = "str_ascii_iterator" ∧ R (Its x) H1
theorem pi_str {X : Cx} {tg l : Expr} {tl : TE} (hl : PE X l tl) : PI X tg l (iStr tl) := by
  intro pins s σ H R I h
  refine thn (hl pins s σ H _ I h) fun v s1 ⟨y, H1, I1, r1, q1⟩ => ?_
  obtain ⟨x, e, ha, q⟩ := q1
  subst e
  obtain ⟨t, rfl⟩ := r1
  refine wpAny_pyIter_strU ?_
  rw [ha]
  refine ⟨s1.heap.objs.size, [s1.heap.objs.size], _, _, H1, rfl, I1.kept (t' := s1.toks) fun b o e => Heap.get?_push_of_some _ e, turn_str _ x t, ⟨_, Heap.get?_push_size _ rfl, rfl, rfl⟩, fun b hb => ?_, q⟩
  have e : b = s1.heap.objs.size := by simpa using hb
  subst e
  exact I1.fpOk (Nat.le_refl _) (I1.hok.fresh (Nat.le_refl _))
end L2
namespace M
open PySem PySem.Spec L2
section
variable {X : Cx} {tg l : Expr} {ml : ME} {μ : List Addr} {H : Hp}
def strI (m : ME) : MI := fun env st => (m env st).bind fun d st1 => match d with
  | .str cs => if cs.all (fun c => decide (c < 128)) = true then .ok (cs.map fun c => D.str [c], []) st1 else .bad
  | _ => .bad
theorem its_rep (cs : List Nat) : ItRep X μ H (Its (strOf cs)) (cs.map fun c => D.str [c], []) := by
  intro H' μ' st' g hs ok
  refine ⟨fun i d e => ?_, by show (strOf cs).cps.size ≤ _; simp⟩
  rw [List.getElem?_map] at e
  obtain ⟨c, e1, rfl⟩ := Option.map_eq_some_iff.mp e
  refine ⟨by show i < (strOf cs).cps.size; simpa using (List.getElem?_eq_some_iff.mp e1).1, ?_⟩
  rintro x H'' ⟨rfl, c', hc, rfl⟩
  have : c' = c := by
    have h2 : cs[i]? = some c' := by simpa using hc
    rw [e1] at h2; exact (Option.some.inj h2).symm
  subst this
  exact ⟨.refl _ _, hs, RepV.str_iff.mpr rfl⟩
theorem ji_str (hl : JE X l ml) : JI X tg l (strI ml) := by
  refine JI.of (pi_str hl) fun σ H R ⟨μ, env, st, hE, hs, hp⟩ => ⟨μ, env, st, hE, hs, (Post.bind hp).imp ?_⟩
  rintro v H1 ⟨μ1, st1, d, g1, hs1, hv, hp1⟩
  dsimp only at hp1
  split at hp1
  · rename_i cs
    split at hp1
    · rename_i hc
      obtain rfl := RepV.str_iff.mp hv
      refine ⟨strOf cs, rfl, ?_, hp1 _ _ _ (.refl _ _) hs1 (its_rep cs)⟩
      unfold strIterType
      rw [if_pos]
      show (cs.toArray.all _) = true
      rw [List.all_toArray]; exact hc
    · exact hp1.elim
  · exact hp1.elim
end
end M
namespace L2
open PySem PySem.Spec PyProof.Rows
theorem Inv.but {X : Cx} {pins : List (Addr × Obj)} {σ : St} {H : Hp} {s : Shared} {h' : Heap} {t' : Nat} (I : Inv X pins σ H s) (k : ∀ b o, b ≠ X.env.locals → s.heap.get? b = some o → h'.get? b = some o)
    (ns : ∀ m, s.heap.Ns X.env.locals m → h'.Ns X.env.locals m) : Inv X pins σ H { s with heap := h', toks := t' } := by
  have neL : ∀ b u, H b = some u → b ≠ X.env.locals := fun b u e z => by rw [z, I.free] at e; cases e
  refine I.step (g' := s.gens) (d' := s.drawn) (ch := []) (fun _ z => nomatch z) (fun b o hL _ _ e _ => k b o hL e) (fun b o hL _ _ e _ => ⟨o.slots, k b o hL e⟩) (fun _ _ _ _ n => n) (fun b o _ e => ?_) (fun _ _ e => e) (fun _ _ _ e => e) (fun b ps e => ⟨#[], by rw [e]; simp⟩) ns (fun b u e => ?_) I.bare
  · by_cases hb : b = X.env.locals
    · subst hb
      obtain ⟨m, hm, _⟩ := I.loc
      obtain ⟨o', _, _, q, _⟩ := ns m hm
      exact ⟨o', q⟩
    · exact ⟨o, k b o hb e⟩
  · refine (I.hok b u e).stay (fun c v hc q => k c v ?_ q) (fun c q => q) fun c xs q => q
    rcases hc with z | z
    · rw [z]; exact neL b u e
    · exact neL c _ z
end L2
namespace M
open PySem PySem.Spec L2
def intsOf : List D → Option (List Int)
  | [] => some []
  | .int i :: r => (intsOf r).map (i :: ·)
  | _ :: _ => none
theorem intsOf_map (ns : List Int) : intsOf (ns.map D.int) = some ns := by
  induction ns with
  | nil => rfl
  | cons a l ih => rw [List.map_cons, intsOf, ih]; rfl
theorem ints_are {K : PySem.W.Frag} {μ : List Addr} {H : Hp} : ∀ {ds : List D} {xs : List V} {ns : List Int}, intsOf ds = some ns → RepVs K μ H ds xs → xs = ns.map V.int
  | [], _, _, e, h => by cases e; rw [RepVs] at h; exact h
  | d :: ds, _, ns, e, h => by
    rw [RepVs] at h
    obtain ⟨v, t, rfl, h1, h2⟩ := h
    cases d with
    | int i =>
      simp only [intsOf] at e
      cases q : intsOf ds with
      | none => rw [q] at e; cases e
      | some bs' =>
        rw [q] at e; cases e
        rw [RepV.int_iff] at h1; subst h1
        rw [ints_are q h2]; rfl
    | _ => simp [intsOf] at e
end M
namespace M
open L2
/-! ### more rules for running, and plain facts -/
theorem cut_take {α : Type} (xs : List α) (c : Nat) (h : c ≤ xs.length) : cut xs none (some (c : Int)) = xs.take c := by
  unfold cut
  rw [HT.sIx_none, HT.sIx_nat, Nat.min_eq_left h]; simp
theorem cut_drop {α : Type} (xs : List α) (c : Nat) : cut xs (some (c : Int)) none = xs.drop c := by
  unfold cut
  rw [HT.sIx_none, HT.sIx_nat]
  by_cases h : c ≤ xs.length
  · rw [Nat.min_eq_left h, List.take_of_length_le (by simp)]
  · rw [Nat.min_eq_right (by omega), List.drop_eq_nil_of_le (Nat.le_refl _), List.drop_eq_nil_of_le (by omega)]; simp
theorem cut_map {α β : Type} (f : α → β) (l : List α) (lo hi : Option Int) : cut (l.map f) lo hi = (cut l lo hi).map f := by
  unfold cut
  rw [List.length_map, List.map_take, List.map_drop]
theorem cut_len {α : Type} (l : List α) (lo hi : Option Int) : (cut l lo hi).length ≤ l.length := by
  unfold cut
  rw [List.length_take, List.length_drop]; omega
theorem upto_len (lo : Int) (n : Nat) : (upto lo n).length = n := by simp [upto]
section
variable (st : Stor)
theorem r_ix_str (cs : List Nat) (i : Int) (c : Nat) (h : cs.length ≤ 1000000) (hi : atI cs i = some c) : ixV (.str cs) (.int i) st = .ok (.str [c]) st := by simp [ixV, h, hi]
theorem r_add_str (a b : List Nat) (h : a.length + b.length ≤ 1000000) : addV (.str a) (.str b) st = .ok (.str (a ++ b)) st := by simp [addV, h]
theorem r_sl_str (cs : List Nat) (lo hi : Option Int) (h : cs.length ≤ 1000000) : slV (.str cs) lo hi st = .ok (.str (cut cs lo hi)) st := by simp [slV, h]
theorem r_len_str (cs : List Nat) (h : cs.length ≤ 1000000) : lenV [.str cs] st = .ok (.int cs.length) st := by simp [lenV, h]
@[simp] theorem r_strI (a : ME) (env : MEnv) : strI a env st = (a env st).bind fun d st1 => match d with
  | .str cs => if cs.all (fun c => decide (c < 128)) = true then .ok (cs.map fun c => D.str [c], []) st1 else .bad
  | _ => .bad := by_rfl rfl
end
end M
namespace M
open PySem PySem.Spec L2
section
variable {X : Cx}
/-! ### k in d, k not in d, d[k] = v, d[k] (keys that are tuples), l.pop() -/
end
end M
namespace L2
open PySem PySem.Spec PyProof.Rows
/-- a new object is laid and tracked; of the frame only its map is told -/
theorem Inv.butLay {X : Cx} {pins : List (Addr × Obj)} {σ : St} {H : Hp} {s : Shared} {h' : Heap} {t' : Nat} {a : Addr} {o : HO} (I : Inv X pins σ H s) (k : ∀ b ob, b ≠ X.env.locals → s.heap.get? b = some ob → h'.get? b = some ob)
    (ns : ∀ m, s.heap.Ns X.env.locals m → h'.Ns X.env.locals m) (hp : s.heap.objs.size ≤ a) (new : ObjOk X.prog X.w (upd H a o) h' a o) : Inv X pins σ (upd H a o) { s with heap := h', toks := t' } := by
  have hn : H a = none := I.hok.fresh hp
  have neL : ∀ b u, H b = some u → b ≠ X.env.locals := fun b u e z => by rw [z, I.free] at e; cases e
  have na : ∀ b u, H b = some u → b ≠ a := fun b u e => ne_of_none e hn
  refine I.step (g' := s.gens) (d' := s.drawn) (ch := []) (fun _ z => nomatch z) (fun b o hL _ _ e _ => k b o hL e) (fun b o hL _ _ e _ => ⟨o.slots, k b o hL e⟩)
    (fun b o _ e n => by rw [upd_ne (Nat.ne_of_lt (Nat.lt_of_lt_of_le (Heap.lt_size e) hp))]; exact n) (fun b o _ e => ?_)
    (fun b xs e => by rw [upd_ne (na b _ e)]; exact e) (fun b o u e => by rw [upd_ne (na b _ e)]; exact e) (fun b ps e => ⟨#[], by rw [upd_ne (na b _ e), e]; simp⟩) ns (fun b u e => ?_) I.bare
  · by_cases hb : b = X.env.locals
    · subst hb
      obtain ⟨m, hm, _⟩ := I.loc
      obtain ⟨o', _, _, q, _⟩ := ns m hm
      exact ⟨o', q⟩
    · exact ⟨o, k b o hb e⟩
  · by_cases hb : b = a
    · subst hb; rw [upd_same] at e; cases e; exact new
    · rw [upd_ne hb] at e
      refine (I.hok b u e).stay (fun c v hc q => k c v ?_ q) (fun c q => by rw [upd_ne (na c _ q)]; exact q) fun c xs q => by rw [upd_ne (na c _ q)]; exact q
      rcases hc with z | z
      · rw [z]; exact neL b u e
      · exact neL c _ z
theorem news_whole (h : Heap) (L : Addr) : News (Att.noObjs h) L h (Att.ledger h L L) := by
  rintro ⟨a, o⟩ hp
  obtain ⟨n1, n2, e⟩ := Att.mem_ledger.mp hp
  exact ⟨e, n1, Att.noObjs_get _ _⟩
theorem vals_strs : ∀ (l : List (Str × Tok)), Vals (l.map fun p => V.str p.1) (strValues l)
  | [] => .nil
  | (y, t) :: l => .cons ⟨t, rfl⟩ (vals_strs l)
theorem strs_are : ∀ (ys : List Str) (its : List Value), Vals (ys.map V.str) its → StrsAre its ys
  | [], _, h => by cases h; exact .nil
  | y :: ys, _, h => by
    cases h with
    | cons r1 r2 =>
      obtain ⟨t, rfl⟩ := r1
      exact .cons y t (strs_are ys _ r2)
/-- x.split(y), y not without signs -/
theorem mt_splitS {X : Cx} : MtR X "str.split" (fun x xs H Q => ∃ z y : Str, x = .str z ∧ xs = [.str y] ∧ (y.length == 0) = false ∧ z.length + 2 ≤ sizeLine ∧ ∀ p, H p = none → Q (.ref p) (upd H p (.lst ((Txt.split z y).map V.str)))) := by
  rintro pins s σ H x xs v us Q I rx rxs ⟨z, y, rfl, rfl, hy, hz, h⟩
  obtain ⟨t, rfl⟩ := rx
  cases rxs with
  | cons r1 r2 =>
    cases r2
    obtain ⟨u, rfl⟩ := r1
    obtain ⟨m, hm, _⟩ := id I.loc
    refine splitN1A (Att.fr_all hm) (news_whole s.heap X.env.locals) hy (fun l h' k hl _ _ hL F' N' => ?_) hz
    have hfresh : H s.heap.objs.size = none := I.hok.fresh (Nat.le_refl _)
    have hsz : (Txt.split z y).length ≤ sizeLine := by have := (fact_split z y).2; omega
    refine ⟨.ref s.heap.objs.size, _, I.butLay (a := s.heap.objs.size) (o := .lst ((Txt.split z y).map V.str)) (fun b ob hb e => ?_) (fun m' hm' => ?_) (Nat.le_refl _) ?_, rfl, h _ hfresh⟩
    · exact N'.get (List.Mem.tail _ (Att.mem_ledger.mpr ⟨hb, hb, e⟩))
    · have : m' = m := by
        obtain ⟨o1, es1, ep1, q1, q2, _, q3⟩ := hm
        obtain ⟨o2, es2, ep2, w1, w2, _, w3⟩ := hm'
        rw [q1] at w1; cases w1
        rw [q2] at w2; cases w2
        funext x
        rw [← q3 x, ← w3 x]
      subst this
      exact F'.ns
    · refine ⟨by rw [List.length_map]; exact hsz, strValues l, 0, ?_, N'.get (List.Mem.head _)⟩
      rw [← hl, List.map_map]
      exact vals_strs l
/-- x.join(list of texts) -/
theorem mt_joinS {X : Cx} : MtR X "str.join" (fun x xs H Q => ∃ (z : Str) (p : Addr) (ys : List Str), x = .str z ∧ xs = [.ref p] ∧ SqL X.K H p (ys.map V.str) ∧ (ys.map fun y => y.length).sum + ys.length * z.length ≤ 16777216 ∧ Q (.str (Txt.join z ys)) H) := by
  rintro pins s σ H x xs v us Q I rx rxs ⟨z, p, ys, rfl, rfl, hq, hz, h⟩
  obtain ⟨t, rfl⟩ := rx
  cases rxs with
  | cons r1 r2 =>
    cases r2
    cases r1
    obtain ⟨its, rv, pl, _⟩ := I.list hq
    exact join_list pl.isList (strs_are ys its rv) hz fun t' k => ⟨.str (Txt.join z ys), H, I.kept (t' := k) fun b u h => h, ⟨t', rfl⟩, h⟩
end L2
namespace M
open PySem PySem.Spec L2
section
variable {X : Cx}
def textsOf : List D → Option (List (List Nat))
  | [] => some []
  | .str cs :: r => (textsOf r).map (cs :: ·)
  | _ :: _ => none
theorem texts_are {K : PySem.W.Frag} {μ : List Addr} {H : Hp} : ∀ {ds : List D} {xs : List V} {ts : List (List Nat)}, textsOf ds = some ts → RepVs K μ H ds xs → xs = (ts.map strOf).map V.str
  | [], _, _, e, h => by cases e; rw [RepVs] at h; exact h
  | d :: ds, _, ts, e, h => by
    rw [RepVs] at h
    obtain ⟨v, t, rfl, h1, h2⟩ := h
    cases d with
    | str cs =>
      simp only [textsOf] at e
      cases q : textsOf ds with
      | none => rw [q] at e; cases e
      | some ts' =>
        rw [q] at e; cases e
        rw [RepV.str_iff] at h1; subst h1
        rw [texts_are q h2]; rfl
    | _ => simp [textsOf] at e
def joinM (sep : List Nat) (ts : List (List Nat)) : List Nat := (Txt.join (strOf sep) (ts.map strOf)).cps.toList
def splitM (cs sep : List Nat) : List (List Nat) := (Txt.split (strOf cs) (strOf sep)).map fun y => y.cps.toList
def joinV : D → List D → Stor → R D
  | .str sep, [.loc n], st => match (itemsAt st n).bind textsOf with
    | some ts => if (ts.map List.length).sum + ts.length * sep.length ≤ 1000000 then .ok (.str (joinM sep ts)) st else .bad
    | none => .bad
  | _, _, _ => .bad
theorem mt_joinV : MtR X "str.join" (rMM X joinV) := by
  refine MtR.weak mt_joinS ?_
  rintro x xs H Q ⟨μ, st, d, ds, hs, hx, hxs, hp⟩
  unfold joinV at hp
  split at hp
  · rename_i sep n
    cases e : itemsAt st n with
    | none => rw [e] at hp; exact hp.elim
    | some l =>
      rw [e] at hp
      cases e2 : textsOf l with
      | none => simp only [Option.bind_some, e2] at hp; exact hp.elim
      | some ts =>
        simp only [Option.bind_some, e2] at hp
        split at hp
        · rename_i hl
          obtain ⟨v, rfl, q⟩ := RepVs.one hxs
          obtain ⟨p, q1, rfl⟩ := RepV.loc_iff.mp q
          obtain ⟨p', ys, r1, r2, r3⟩ := hs.items e
          rw [q1] at r1; cases r1
          rw [texts_are e2 r3] at r2
          obtain rfl := RepV.str_iff.mp hx
          refine ⟨_, p, ts.map strOf, rfl, rfl, r2, ?_, hp.ret hs (RepV.str_iff.mpr rfl)⟩
          rw [List.map_map, List.length_map]
          have e3 : (ts.map ((fun y : Str => y.length) ∘ strOf)) = ts.map List.length := List.map_congr_left fun t _ => by
            show (strOf t).cps.size = t.length
            simp
          rw [e3]
          have e4 : (strOf sep).length = sep.length := by show (strOf sep).cps.size = sep.length; simp
          rw [e4]; omega
        · exact hp.elim
  · exact hp.elim
def splitV : D → List D → Stor → R D
  | .str cs, [.str sep], st => if sep.length ≠ 0 ∧ cs.length ≤ 1000000 then .ok (.loc st.length) (st ++ [.lst ((splitM cs sep).map D.str)]) else .bad
  | _, _, _ => .bad
theorem mt_splitV : MtR X "str.split" (rMM X splitV) := by
  refine MtR.weak mt_splitS ?_
  rintro x xs H Q ⟨μ, st, d, ds, hs, hx, hxs, hp⟩
  unfold splitV at hp
  split at hp
  · rename_i cs sep
    split at hp
    · rename_i hc
      obtain ⟨v, rfl, q⟩ := RepVs.one hxs
      obtain rfl := RepV.str_iff.mp hx
      obtain rfl := RepV.str_iff.mp q
      refine ⟨_, _, rfl, rfl, ?_, ?_, fun p hn => ?_⟩
      · have : (strOf sep).length = sep.length := by show (strOf sep).cps.size = sep.length; simp
        rw [this]; simpa using hc.1
      · have : (strOf cs).length = cs.length := by show (strOf cs).cps.size = cs.length; simp
        rw [this]; exact Nat.le_trans (Nat.add_le_add_right hc.2 2) (by decide)
      · have hr : RepO X.K (μ ++ [p]) (upd H p (.lst ((Txt.split (strOf cs) (strOf sep)).map V.str))) p (.lst ((splitM cs sep).map D.str)) := by
          refine ⟨_, upd_same, ?_⟩
          have key : ∀ (l : List Str), RepVs X.K (μ ++ [p]) (upd H p (.lst ((Txt.split (strOf cs) (strOf sep)).map V.str))) ((l.map fun y => y.cps.toList).map D.str) (l.map V.str) := by
            intro l
            induction l with
            | nil => exact RepVs.nil
            | cons y l ih => exact RepVs.cons (RepV.str_iff.mpr (by show V.str y = V.str (strOf y.cps.toList); simp)) ih
          exact key _
        exact hp _ _ (μ ++ [p]) (Grow.new hn) (hs.new hn hr) (RepV.loc_iff.mpr ⟨p, by rw [← hs.len]; simp, rfl⟩)
    · exact hp.elim
  · exact hp.elim
end
end M
namespace M
open PySem PySem.Spec L2
/-! ### join and split are one another's way back -/
def joinL (sep : List Nat) : List (List Nat) → List Nat
  | [] => []
  | [t] => t
  | t :: u :: r => t ++ sep ++ joinL sep (u :: r)
theorem str_ext {a b : Str} (h : a.cps.toList = b.cps.toList) : a = b := by
  cases a; cases b
  congr 1
  exact Array.toList_inj.mp h
theorem join_toList (sep : Str) : ∀ (ts : List Str), (sep.join ts).cps.toList = joinL sep.cps.toList (ts.map fun t => t.cps.toList)
  | [] => by rw [PyProof.Rows.join_nil]; rfl
  | [t] => by rw [PyProof.Rows.join_one]; rfl
  | t :: u :: r => by
    have ih := join_toList sep (u :: r)
    rw [List.map_cons] at ih
    rw [PyProof.Rows.join_cons_cons, List.map_cons, List.map_cons, joinL, ← ih]
    show (t.cps ++ sep.cps ++ (sep.join (u :: r)).cps).toList = _
    simp
theorem joinM_eq (sep : List Nat) (ts : List (List Nat)) : joinM sep ts = joinL sep ts := by
  unfold joinM
  rw [show Txt.join (strOf sep) (ts.map strOf) = (strOf sep).join (ts.map strOf) from StrLaws.glued_eq_join _ _, join_toList, List.map_map]
  have : (fun t : Str => t.cps.toList) ∘ strOf = id := by funext t; simp
  rw [this, List.map_id]
theorem cnt_zero {c : Nat} : ∀ {l : List Nat}, PyProof.Rows.cnt c l = 0 → c ∉ l
  | [], _ => by simp
  | a :: l, h => by
    have h0 : ∀ l, 0 ≤ PyProof.Rows.cnt c l := fun l => by
      induction l with
      | nil => rw [PyProof.Rows.cnt_nil]; omega
      | cons b l ih => rw [PyProof.Rows.cnt_cons]; split <;> omega
    rw [PyProof.Rows.cnt_cons] at h
    have h1 := h0 l
    split at h
    · omega
    · rename_i hne
      have := cnt_zero (c := c) (l := l) (by omega)
      simp at hne ⊢
      exact ⟨fun z => hne z.symm, this⟩
theorem cut_uniq {c : Nat} : ∀ {a b r1 r2 : List Nat}, c ∉ a → c ∉ b → a ++ c :: r1 = b ++ c :: r2 → a = b ∧ r1 = r2
  | [], [], _, _, _, _, h => by simpa using h
  | [], y :: b, _, _, _, hb, h => by simp at h; exact absurd h.1 (fun z => hb (by simp [z]))
  | x :: a, [], _, _, ha, _, h => by simp at h; exact absurd h.1.symm (fun z => ha (by simp [z]))
  | x :: a, y :: b, _, _, ha, hb, h => by
    simp at h
    obtain ⟨rfl, h⟩ := h
    obtain ⟨rfl, h2⟩ := cut_uniq (fun z => ha (by simp [z])) (fun z => hb (by simp [z])) h
    exact ⟨rfl, h2⟩
theorem joinL_inj {c : Nat} : ∀ {ts us : List (List Nat)}, ts.length = us.length → (∀ t ∈ ts, c ∉ t) → (∀ t ∈ us, c ∉ t) → joinL [c] ts = joinL [c] us → ts = us
  | [], [], _, _, _, _ => rfl
  | [t], [u], _, _, _, h => by rw [joinL, joinL] at h; rw [h]
  | t :: t2 :: ts, u :: u2 :: us, hl, h1, h2, h => by
    rw [joinL, joinL, List.append_assoc, List.append_assoc] at h
    obtain ⟨rfl, h3⟩ := cut_uniq (h1 t (by simp)) (h2 u (by simp)) h
    rw [joinL_inj (by simpa using hl) (fun x hx => h1 x (by simp [hx])) (fun x hx => h2 x (by simp [hx])) h3]
  | [], _ :: _, hl, _, _, _ => by simp at hl
  | _ :: _, [], hl, _, _, _ => by simp at hl
  | [_], _ :: _ :: _, hl, _, _, _ => by simp at hl
  | _ :: _ :: _, [_], hl, _, _, _ => by simp at hl
/-- what is joined by a sign that stands in no part is split into the parts -/
theorem splitM_join (c : Nat) (ts : List (List Nat)) (hn : ts ≠ []) (hc : ∀ t ∈ ts, c ∉ t) : splitM (joinL [c] ts) [c] = ts := by
  have hx : strOf (joinL [c] ts) = (strOf [c]).join (ts.map strOf) := str_ext (by
    rw [join_toList, List.map_map]
    have : (fun t : Str => t.cps.toList) ∘ strOf = id := by funext t; simp
    rw [this, List.map_id])
  have hj := StrLaws.join_split (strOf (joinL [c] ts)) (strOf [c])
  have hl : ((Txt.split (strOf (joinL [c] ts)) (strOf [c])).length : Int) = 1 + PyProof.Rows.cnt c (joinL [c] ts) := PyProof.Rows.split_len (strOf (joinL [c] ts)) c
  have h1 : PyProof.Rows.cnt c [c] = 1 := by rw [PyProof.Rows.cnt_cons, PyProof.Rows.cnt_nil]; simp
  have hcnt : PyProof.Rows.cnt c (joinL [c] ts) = ((ts.length - 1 : Nat) : Int) := by
    have := PyProof.Rows.cnt_join (strOf [c]) c h1 (ts.map strOf) (fun t ht => by
      obtain ⟨t', ht', rfl⟩ := List.mem_map.mp ht
      simpa using hc t' ht')
    rw [← hx, List.length_map] at this
    exact this
  have hpos : 0 < ts.length := List.length_pos_iff.mpr hn
  have hlen : (Txt.split (strOf (joinL [c] ts)) (strOf [c])).length = ts.length := by omega
  have hsum := PyProof.Rows.cnt_join_sum (strOf [c]) c (Txt.split (strOf (joinL [c] ts)) (strOf [c]))
  rw [hj] at hsum
  have hs0 : ((Txt.split (strOf (joinL [c] ts)) (strOf [c])).map fun t => PyProof.Rows.cnt c t.cps.toList).sum = 0 := by
    have e1 : PyProof.Rows.cnt c (strOf [c]).cps.toList = 1 := h1
    have e2 : PyProof.Rows.cnt c (strOf (joinL [c] ts)).cps.toList = ((ts.length - 1 : Nat) : Int) := hcnt
    rw [e1, e2, hlen] at hsum
    omega
  have h0 : ∀ l, 0 ≤ PyProof.Rows.cnt c l := fun l => by
    induction l with
    | nil => rw [PyProof.Rows.cnt_nil]; omega
    | cons b l ih => rw [PyProof.Rows.cnt_cons]; split <;> omega
  have hall : ∀ (ys : List Str), (ys.map fun t => PyProof.Rows.cnt c t.cps.toList).sum = 0 → ∀ y ∈ ys, c ∉ y.cps.toList := by
    have hnn : ∀ ys : List Str, 0 ≤ (ys.map fun t => PyProof.Rows.cnt c t.cps.toList).sum := fun ys => by
      induction ys with
      | nil => simp
      | cons y ys ih => rw [List.map_cons, List.sum_cons]; have := h0 y.cps.toList; omega
    intro ys
    induction ys with
    | nil => intro _ y hy; exact absurd hy (List.not_mem_nil)
    | cons y ys ih =>
      intro h z hz
      rw [List.map_cons, List.sum_cons] at h
      have a1 := h0 y.cps.toList
      have a2 := hnn ys
      rcases List.mem_cons.mp hz with rfl | hz
      · exact cnt_zero (by omega)
      · exact ih (by omega) z hz
  unfold splitM
  refine joinL_inj (c := c) (by rw [List.length_map]; exact hlen) (fun t ht => ?_) hc ?_
  · obtain ⟨y, hy, rfl⟩ := List.mem_map.mp ht
    exact hall _ hs0 y hy
  · have := congrArg (fun z : Str => z.cps.toList) hj
    simp only at this
    rw [join_toList] at this
    exact this
end M
namespace L2
open PySem PySem.Spec PyProof.Rows
end L2
namespace M
open PySem PySem.Spec L2
/-! ### text * n -/
section
variable {X : Cx} {a b c : Expr} {ma mb mc : ME} {pos : Pos}
/-! ### a op1 b op2 c -/
/-! ### str(i), str(text) -/
end
end M
namespace M
open PySem PySem.Spec L2
section
variable {X : Cx} {pos : Pos} {x : Str}
/-! ### a module's constants; what is never reached -/
theorem je_globV {d : D} {v : V} {u : Value} (hg : Gl X x) (hm : X.mg x = some u) (r : RelV v u) (hv : ∀ μ H, RepV X.K μ H d v) (hd : (x == ("__debug__" : Str)) = false := by decide) : JE X (.Name x pos) (ct d) :=
  JE.of (pe_glob hg hm r hd) fun σ H Q ⟨μ, env, st, hE, hs, hp⟩ => hp.ret hs (hv μ H)
theorem je_globI {i : Int} (h : ∃ t, X.mg x = some (.int i t)) (hg : Gl X x := by rfl) (hd : (x == ("__debug__" : Str)) = false := by decide) : JE X (.Name x pos) (ct (.int i)) := by
  obtain ⟨t, h⟩ := h
  exact je_globV (v := .int i) hg h ⟨t, rfl⟩ (fun _ _ => RepV.int_iff.mpr rfl) hd
theorem je_globS {y : Str} (cs : List Nat) (h : ∃ t, X.mg x = some (.str y t)) (hy : y = strOf cs := by rfl) (hg : Gl X x := by rfl) (hd : (x == ("__debug__" : Str)) = false := by decide) : JE X (.Name x pos) (ct (.str cs)) := by
  obtain ⟨t, h⟩ := h
  exact je_globV (v := .str y) hg h ⟨t, rfl⟩ (fun _ _ => RepV.str_iff.mpr (by rw [hy])) hd
end
end M
namespace M
open L2
section
variable (st : Stor)
theorem r_join (sep : List Nat) (n : Nat) (ts : List (List Nat)) (h : itemsAt st n = some (ts.map D.str)) (hl : (ts.map List.length).sum + ts.length * sep.length ≤ 1000000) : joinV (.str sep) [.loc n] st = .ok (.str (joinL sep ts)) st := by
  have e : textsOf (ts.map D.str) = some ts := by
    clear h hl
    induction ts with
    | nil => rfl
    | cons t ts ih => simp [textsOf, ih]
  simp only [joinV, h, Option.bind_some, e]
  rw [if_pos hl, joinM_eq]
end
end M
namespace M
open L2
/-! split at one sign, plainly -/
def splitL (c : Nat) : List Nat → List (List Nat)
  | [] => [[]]
  | x :: xs => if x = c then [] :: splitL c xs else match splitL c xs with
    | [] => [[x]]
    | t :: ts => (x :: t) :: ts
theorem splitL_ne (c : Nat) (cs : List Nat) : splitL c cs ≠ [] := by
  cases cs with
  | nil => simp [splitL]
  | cons x xs =>
    rw [splitL]
    split
    · simp
    · split <;> simp
theorem splitL_no (c : Nat) (cs : List Nat) : ∀ t ∈ splitL c cs, c ∉ t := by
  induction cs with
  | nil => simp [splitL]
  | cons x xs ih =>
    rw [splitL]
    split
    · intro t ht
      rcases List.mem_cons.mp ht with rfl | ht
      · simp
      · exact ih t ht
    · rename_i hx
      split
      · intro t ht
        obtain rfl : t = [x] := by simpa using ht
        simp; exact fun z => hx z.symm
      · rename_i t ts e
        rw [e] at ih
        intro u hu
        rcases List.mem_cons.mp hu with rfl | hu
        · have := ih t (by simp)
          simp only [List.mem_cons, not_or]
          exact ⟨fun z => hx z.symm, this⟩
        · exact ih u (by simp [hu])
theorem joinL_cons (sep t : List Nat) (ts : List (List Nat)) (h : ts ≠ []) : joinL sep (t :: ts) = t ++ sep ++ joinL sep ts := by
  cases ts with
  | nil => exact absurd rfl h
  | cons u r => rfl
theorem joinL_splitL (c : Nat) (cs : List Nat) : joinL [c] (splitL c cs) = cs := by
  induction cs with
  | nil => rfl
  | cons x xs ih =>
    rw [splitL]
    split
    · rename_i hx
      rw [joinL_cons _ _ _ (splitL_ne c xs), ih, hx]; rfl
    · have hn := splitL_ne c xs
      cases e : splitL c xs with
      | nil => exact absurd e hn
      | cons t ts =>
        rw [e] at ih
        dsimp only
        cases ts with
        | nil => simp only [joinL] at ih ⊢; rw [ih]
        | cons u r =>
          rw [joinL_cons _ _ _ (by simp)] at ih ⊢
          rw [← ih]; simp
theorem splitM_eq (c : Nat) (cs : List Nat) : splitM cs [c] = splitL c cs := by
  have := splitM_join c (splitL c cs) (splitL_ne c cs) (splitL_no c cs)
  rwa [joinL_splitL] at this
end M
namespace M
open L2
/-- a loop without early leave, by the turn's number -/
theorem forGo_ix {g : MG} {b : MS} {gs : List (Nat × MO)} {items : List D} (I : Nat → MEnv → Stor → Prop) {env : MEnv} {st : Stor} (h0 : I 0 env st)
    (step : ∀ i d env st, items[i]? = some d → I i env st → okG gs st ∧ ∃ env1 st1, g d env st = .ok env1 st1 ∧ ∃ env2 st2, (b env1 st1 = .ok (.nx env2) st2 ∨ b env1 st1 = .ok (.cn env2) st2) ∧ I (i + 1) env2 st2)
    (hend : ∀ env st, I items.length env st → okG gs st) : ∃ env' st', forGo g b gs items env st = .ok (.nx env') st' ∧ I items.length env' st' := by
  refine forGo_all (fun pre env st => I pre.length env st) h0 (fun pre d post env st e hI => ?_) hend
  have := step pre.length d env st (by rw [e]; simp) hI
  simpa using this
theorem upto_get {lo : Int} {n i : Nat} {d : D} (h : (upto lo n)[i]? = some d) : i < n ∧ d = .int (lo + (i : Nat)) := by
  have h2 : i < n := by
    have := (List.getElem?_eq_some_iff.mp h).1
    rwa [upto_len] at this
  unfold upto at h
  rw [List.getElem?_map, List.getElem?_range h2] at h
  exact ⟨h2, (Option.some.inj h).symm⟩
end M
namespace M
open L2
theorem pickS (cs : List Nat) (i : Int) (h0 : 0 ≤ i) (h1 : i < cs.length) (hl : cs.length ≤ 1000000) : ∃ c, c ∈ cs ∧ ∀ st, ixV (.str cs) (.int i) st = .ok (.str [c]) st := by
  obtain ⟨j, rfl⟩ := Int.eq_ofNat_of_zero_le h0
  have hj : j < cs.length := by omega
  exact ⟨cs[j], List.getElem_mem hj, fun st => r_ix_str st cs _ _ hl (by rw [atI_ofNat]; exact List.getElem?_eq_getElem hj)⟩
end M
namespace M
open L2
end M
namespace M
open L2
/-! ### while, without fuel -/
/-! ### more of texts -/
/-- t.rstrip(c), c one sign -/
def rstripL (c : Nat) (cs : List Nat) : List Nat := (cs.reverse.dropWhile (fun x => decide (x = c))).reverse
/-- c in t, c one sign -/
def inSV : D → D → Stor → R D
  | .str [c], .str cs, st => if cs.length ≤ 1000000 then .ok (.bl (decide (c ∈ cs))) st else .bad
  | _, _, _ => .bad
end M
namespace M
open L2
theorem rstripL_nil (c : Nat) : rstripL c [] = [] := rfl
end M
namespace L2
open PySem PySem.Spec PyProof.Rows
section
variable {X : Cx} {a b : Expr} {rest : List Expr} {pos : Pos} {ta tb : TE}
end
end L2
namespace M
open PySem PySem.Spec L2
section
variable {X : Cx} {a b c : Expr} {ma mb mc : ME} {pos : Pos} {rest : List Expr}
/-! while -/
/-! c in t, t.rstrip(c) -/
theorem op_inSV : OpR X (compareOp .In) (rM X inSV) := by
  refine OpR.weak op_in_str ?_
  rintro x y H Q ⟨μ, st, dx, dy, hs, hx, hy, hp⟩
  unfold inSV at hp
  split at hp
  · rename_i c cs
    split at hp
    · obtain rfl := RepV.str_iff.mp hx
      obtain rfl := RepV.str_iff.mp hy
      refine ⟨_, _, rfl, rfl, ?_⟩
      have e := PySem.StrLaws.found_one (strOf cs) c
      have e2 : (strOf [c]) = ⟨#[c]⟩ := rfl
      rw [e2, e]
      refine hp.ret hs (RepV.bl_iff.mpr ?_)
      simp
    · exact hp.elim
  · exact hp.elim
end
end M
namespace L2
open PySem PySem.Spec PyProof.Rows PySem.Builtin PySem.Builtin.Str
/-! ### text * truth -/
end L2
namespace M
open PySem PySem.Spec L2
/-! ### defs with a default -/
structure FunD (K : PySem.W.Frag) (x qual : Str) (st : Stmt) (f : Addr) (fd : FuncData) : Prop where
  ex : ∃ (oc : Value) (od : Option Addr) (dV kV doc pm : Value) (an : Option Addr) (cdv ct : Value) (osl : Array (Option Value)),
    fd = PySem.W.fnOf x qual (defArgs st) (defBody st) (defScope st) dV kV doc pm an cdv ct ∧ K.lookup f = some ⟨oc, od, .func fd, osl⟩ ∧ PySem.W.codeIn K cdv qual = true
  kp : PySem.W.keepIn K (.ref f) = true
section
variable {P : Program} {w : World} {K : PySem.W.Frag} {mg : Str → Option Value} {base : Heap}
end
section
variable {X : Cx} {e : Expr} {es : List Expr} {mA : MA} {pos p : Pos} {x : Str} {k : Nat} {f : Addr} {fd : FuncData} {ps : List Str} {F : FD} {i : Int}
end
end M
namespace M
open PySem PySem.Spec L2 PyProof.Rows
end M
namespace M
open L2
/-! ### more of lists -/
end M
namespace M
open PySem PySem.Spec L2
section
variable {X : Cx}
end
end M
namespace M
open PySem PySem.Spec L2
section
variable {X : Cx} {pos p : Pos} {x : Str} {k : Nat} {f : Addr} {fd : FuncData} {F : FD}
end
end M
namespace L2
open PySem PySem.Spec PyProof.Rows
/-! ### cells put among what is known, for a call's time -/
section
variable {P : Program} {w : World} {H H' : Hp} {h h' : Heap} {L : List (Addr × Obj)}
end
section
variable {X : Cx} {k : Nat} {f : Addr} {fd : FuncData} {ps : List Str} {sp : Sp} {dvs : List V} {ds : List Value} {pins : List (Addr × Obj)} {σ : St} {H : Hp} {s : Shared} {Q : VK} {us : List Value} {vs : List V}
end
end L2
namespace L2
open PySem PySem.Spec PyProof.Rows
/-- the module of the built-ins, of the base -/
def BMain (mg : Str → Option Value) (base : Heap) : Prop :=
  ∃ bm o, mg "__builtins__" = some (.ref bm) ∧ bm ≠ builtinsNs ∧ bm ≠ mainGlobals ∧ base.get? bm = some o ∧ o.cls = .type "module" ∧ o.dict = some builtinsNs ∧ o.data = .plain
def TabP (H : Hp) (P : Addr) (q : Str) : Prop := ∃ ps : Array Value, H P = some (.tbl ps) ∧ TriplesOk ps.toList ∧ ∀ pos cv, codeAmong pos ps.toList = some cv → ∃ c', cv = .ref c' ∧ M.CodeF H c' q
/-- a lambda was made -/
structure LamNew (H H' : Hp) (P f c' : Addr) (q : Str) (ob : Obj) : Prop where
  new : H' f = some (.frz ob (.own 0))
  nf : H f = none
  code : M.CodeF H' c' q
  tab : TabP H' P q
  same : ∀ b u, b ≠ P → H b = some u → H' b = some u
section
variable {X : Cx} {P c : Addr} {q : Str} {params : Arguments} {body : Expr} {scope : Scope} {clos : List (Str × Addr)} {pos : Pos}
end
end L2
namespace L2
open PySem PySem.Spec PyProof.Rows
/-! ### a lambda is called -/
/-- a lambda's scope: the names taken from around, then the parameters -/
structure LamScope (cn ps : List Str) (sc : Scope) : Prop where
  kind : sc.kind = .function
  co : sc.isCoroutine = false
  gen : sc.isGenerator = false
  nd : (cn ++ ps).Nodup
  free : ∀ y ∈ sc.names, y.2 = .free → y.1 ∈ cn
  nocell : ∀ y ∈ sc.names, y.2 ≠ .cell
  isfree : ∀ x ∈ cn, sc.names.lookup x = some .free
  par : ∀ x ∈ ps, sc.names.lookup x = some .local
/-- the context of a lambda's body -/
def lamCx (P : Program) (w : World) (K : PySem.W.Frag) (mg : Str → Option Value) (base : Heap) (N : List Str) (qual : Str) (scope : Scope) (f : Addr) (cd : Value) (cl : List (Str × Addr)) (A : Around) (outer : List Env) (s : Shared) (H : Hp) : Cx where
  prog := P
  w := w
  K := K
  mg := mg
  base := base
  A := A.deeper (PySem.W.envX qual scope s.heap.objs.size f cd cl)
  N := N
  s₀ := s
  H₀ := H
  env := PySem.W.envX qual scope s.heap.objs.size f cd cl
  outer := outer
  stack := PySem.W.envX qual scope s.heap.objs.size f cd cl :: outer
  ex := []
  calm := true
  fn := fun _ => false
  pn := []
  xe := fun _ _ => False
section
variable {P : Program} {w : World} {K : PySem.W.Frag} {mg : Str → Option Value} {base : Heap} {A : Around} {outer : List Env} {s : Shared} {H : Hp} {qual : Str} {params : Arguments} {body : Expr} {scope : Scope} {cl : List (Str × Addr)} {pm ctv : Value} {c' f : Addr} {k : Nat}
  {cn ps : List Str} {us : List Value} {vs vs0 : List V} {Q : VK} {t : TE}
end
end L2
namespace M
open PySem PySem.Spec L2
/-! ### what is told of data needs but the tuples -/
mutual
theorem RepV.tupMono {K : PySem.W.Frag} {μ : List Addr} {H H' : Hp} (e : ∀ b xs, H b = some (.tup xs) → H' b = some (.tup xs)) : ∀ (d : D) {v : V}, RepV K μ H d v → RepV K μ H' d v
  | .non, _, h => by simpa [RepV] using h
  | .bl _, _, h => by simpa [RepV] using h
  | .int _, _, h => by simpa [RepV] using h
  | .str _, _, h => by simpa [RepV] using h
  | .tup ds, _, h => by
    rw [RepV] at h ⊢
    obtain ⟨a, xs, rfl, h1, h2⟩ := h
    exact ⟨a, xs, rfl, h1.elim (fun z => .inl (e _ _ z)) .inr, RepVs.tupMono e ds h2⟩
  | .loc n, _, h => by
    rw [RepV] at h ⊢
    exact h
theorem RepVs.tupMono {K : PySem.W.Frag} {μ : List Addr} {H H' : Hp} (e : ∀ b xs, H b = some (.tup xs) → H' b = some (.tup xs)) : ∀ (ds : List D) {vs : List V}, RepVs K μ H ds vs → RepVs K μ H' ds vs
  | [], _, h => by simpa [RepVs] using h
  | d :: ds, _, h => by
    rw [RepVs] at h ⊢
    obtain ⟨v, r, rfl, h1, h2⟩ := h
    exact ⟨v, r, rfl, RepV.tupMono e d h1, RepVs.tupMono e ds h2⟩
end
def MO.isClo : MO → Bool
  | .clo _ _ _ => true
  | _ => false
/-! ### a lambda's promise -/
structure LamOk (P : Program) (w : World) (K : PySem.W.Frag) (mg : Str → Option Value) (base : Heap) (k : Nat) (l : LamS) (ps : List Str) (m : ME) : Prop where
  sc : LamScope l.caps ps l.scope
  bind : ∀ cl pm c' ctv (us : List Value), us.length = ps.length → bindArgs (PySem.W.kla_fn "<lambda>" l.qual l.params l.body l.scope cl pm (.ref c') ctv) ⟨us, []⟩ = pure (ps.zip us)
  body : ∀ (f : Addr) (cd : Value) (cl : List (Str × Addr)) (A : Around) (outer : List Env) (s : Shared) (H : Hp), Room k (A.deeper (PySem.W.envX l.qual l.scope s.heap.objs.size f cd cl)) →
    JE (lamCx P w K mg base (l.caps ++ ps) l.qual l.scope f cd cl A outer s H) l.body m
end M
namespace M
open PySem PySem.Spec L2
/-! ### a name that holds a lambda is called -/
section
variable {X : Cx} {e : Expr} {es : List Expr} {mA : MA} {pos p : Pos} {x : Str} {k : Nat} {Λ : Nat → LamS} {G : Nat → FD}
end
end M
namespace M
open PySem PySem.Spec L2
/-! ### arguments among which are lambdas -/
inductive LA where
  | v (d : D) | l (j : Nat) (cap : List Nat)
abbrev ML := MEnv → Stor → R (List LA)
structure LamAtX (X : Cx) (l : LamS) (cap : List Nat) : Prop where
  nd : l.caps.Nodup
  cell : ∀ x ∈ l.caps, X.env.kindOf x = some .cell
  ix : cap.map (fun i => X.N[i]?) = l.caps.map some
section
variable {X : Cx} {Λ : Nat → LamS} {μ μ' : List Addr} {H H' : Hp}
end
section
variable {X : Cx} {Λ : Nat → LamS} {μ : List Addr} {H H' : Hp} {st : Stor} {e : Expr} {es : List Expr} {ma : ME} {m : ML}
end
/-! ### the cells of this frame -/
section
variable {X : Cx} {Λ : Nat → LamS} {H : Hp} {env : MEnv}
end
section
variable {X : Cx} {Λ : Nat → LamS} {e : Expr} {es : List Expr} {m : ML} {pos p : Pos} {x : Str} {k : Nat} {f : Addr} {fd : FuncData} {ps : List Str} {F : FD} {dvs : List V} {ds : List Value} {dd : List D}
end
end M
namespace M
open PySem PySem.Spec L2 PyProof.Rows
/-! ### the head, with tables of code -/
structure TabK (K : PySem.W.Frag) (x : Str) (P : Addr) : Prop where
  code : ∃ (fa : Addr) (o : Obj) (fd : FuncData) (c : Addr), PySem.W.nsIn K mainGlobals x = some (some (.ref fa)) ∧ K.lookup fa = some o ∧ o.data = .func fd ∧ fd.code = .ref c ∧ PySem.W.codeHdIn K c P = true
  out : K.lookup P = none
theorem law_callT {P : Program} {w : World} {K : PySem.W.Frag} {mg mb : Str → Option Value} {k : Nat} {fa a : Addr} {fd : FuncData} {x : Str} {sp : Sp} {s₁ : Shared} {vs : List Value} {ns : List Int} {ts : List (Str × Addr)}
    (KX : K.In s₁.heap) (hns : s₁.heap.Ns mainGlobals mg) (hb : s₁.heap.Ns builtinsNs mb) (hbb : ∀ x : Str, x ≠ "__name__" → mb x = bootBuiltins x) (hlim : s₁.heap.NoLimit) (hg : s₁.gens = #[])
    (hbm : ∃ bm ob, mg "__builtins__" = some (.ref bm) ∧ bm ≠ builtinsNs ∧ s₁.heap.get? bm = some ob ∧ ob.cls = .type "module" ∧ ob.dict = some builtinsNs ∧ ob.data = .plain)
    (ht : ∀ p ∈ ts, s₁.heap.get? p.2 = some (PySem.W.tabObj #[])) (hk : ∀ p ∈ ts, TabK K p.1 p.2)
    (ha : s₁.heap.get? a = some { cls := .type "list", data := .seq vs.toArray }) (hi : IntsAre vs ns) (hl : ns.length ≤ sizeLine) (hr : Room k callerA)
    (F : ∀ base : Heap, K.In base → base.Ns mainGlobals mg → BMain mg base → FnOk P w K mg base CX0 k fa fd [x] sp) (hbind : ∀ (s : Shared) (u : Value), BindsTo s fd ⟨[u], []⟩ [(x, u)])
    (hsp : ∀ H : Hp, FrzL K H a (ns.map V.int) → (∀ p ∈ ts, H p.2 = some (.tbl #[])) → sp [.ref a] H (fun v _ => v = .bl true) fun _ _ _ => False) :
    codeAny (model P w) callerA (.call (.ref fa) ⟨[.ref a], []⟩) (fun r s' => r = .ok (.ret (.bool true)) ∧ OldK s₁.heap s'.heap ∧ s'.os = s₁.os ∧ AllBare s'.gens) s₁ := by
  have rv := vals_ints hi
  have lenV := hi.length
  have core : ∀ H : Hp, FrzL K H a (ns.map V.int) → (∀ p ∈ ts, H p.2 = some (.tbl #[])) → HOk P w H s₁.heap → (∀ b u, H b = some u → (b = a ∧ K.lookup a = none ∧ ∃ o xs, u = .frz o (.lst xs)) ∨ (∃ p ∈ ts, b = p.2 ∧ u = .tbl #[])) →
      codeAny (model P w) callerA (.call (.ref fa) ⟨[.ref a], []⟩) (fun r s' => r = .ok (.ret (.bool true)) ∧ OldK s₁.heap s'.heap ∧ s'.os = s₁.os ∧ AllBare s'.gens) s₁ := by
    intro H hS hT hok hA
    have base_of : ∀ {b : Addr} {o : Obj}, s₁.heap.get? b = some o → H b = none → (hidT s₁.heap H).get? b = some o := fun e n => hidT_get e n
    have noH : ∀ {b : Addr} {o : Obj}, s₁.heap.get? b = some o → o.cls ≠ .type "list" → (∀ vs, o.data ≠ .fields vs) → H b = none := fun {b o} e d1 d2 => by
      cases q : H b with
      | none => rfl
      | some u =>
        rcases hA b u q with ⟨rfl, _⟩ | ⟨p, hp, rfl, _⟩
        · rw [ha] at e; cases e; exact absurd rfl d1
        · rw [ht p hp] at e; cases e; exact absurd rfl (d2 _)
    have noA : ∀ {b : Addr} {o : Obj} {es : Array DictEntry} {ep : Nat}, s₁.heap.get? b = some o → o.data = .dict es ep → H b = none := fun {b o es ep} e d => by
      cases q : H b with
      | none => rfl
      | some u =>
        rcases hA b u q with ⟨rfl, _⟩ | ⟨p, hp, rfl, _⟩
        · rw [ha] at e; cases e
          have d' : Data.seq vs.toArray _ = Data.dict es ep := d
          cases d'
        · rw [ht p hp] at e; cases e
          have d' : Data.fields #[] = Data.dict es ep := d
          cases d'
    have nsK : ∀ {b : Addr} {m : Str → Option Value}, s₁.heap.Ns b m → (hidT s₁.heap H).Ns b m := fun {b m} ⟨o, es, ep, e, d, r⟩ => ⟨o, es, ep, base_of e (noA e d), d, r⟩
    have hKb : K.In (hidT s₁.heap H) := fun b o e => base_of (KX b o e) (by
      cases q : H b with
      | none => rfl
      | some u =>
        rcases hA b u q with ⟨rfl, z, _⟩ | ⟨p, hp, rfl, _⟩
        · rw [z] at e; cases e
        · rw [(hk p hp).out] at e; cases e)
    have hM : Mod K mg (hidT s₁.heap H) := ⟨hKb, nsK hns, ⟨mb, nsK hb, hbb⟩, let ⟨mc, h1, h2⟩ := hlim; ⟨mc, nsK h1, h2⟩⟩
    have e0 : Env0 P w K mg (hidT s₁.heap H) callerA [] s₁ H := ⟨rfl, hM, fun b o e => of_hidT e, Nat.le_of_eq (hidT_size _ _), trivial, fun b hb => absurd (show b ∈ ([] : List Addr) from hb) (by simp), hok, .of_eq hg⟩
    have hBM : BMain mg (hidT s₁.heap H) := by
      obtain ⟨bm, ob, b1, b2, b3, b4, b5, b6⟩ := hbm
      refine ⟨bm, ob, b1, b2, fun z => ?_, base_of b3 (noH b3 (by rw [b4]; simp) fun vs z => by rw [b6] at z; cases z), b4, b5, b6⟩
      obtain ⟨o, es, ep, e, d, _⟩ := hns
      rw [← z, b3] at e; cases e
      rw [b6] at d; cases d
    refine codeAny_mono ((F _ hKb (nsK hns) hBM).run callerA [] s₁ H ⟨[.ref a], []⟩ [.ref a] [.ref a] _ _ hr e0 (hbind s₁ (.ref a)) (.cons rfl .nil) (hsp H hS hT)) fun r s' h => ?_
    cases r with
    | error e => exact False.elim h
    | ok fl =>
      cases fl with
      | next => exact False.elim h
      | brk => exact False.elim h
      | cont => exact False.elim h
      | ret u =>
        obtain ⟨v, H', os, bare, un, hok', r', q⟩ := h
        have q' : v = .bl true := q
        subst q'
        obtain rfl : u = Value.bool true := r'
        refine ⟨rfl, ⟨fun b o e => ?_, fun b o e => un.there b o e (by simp)⟩, os, bare⟩
        cases q : H b with
        | none => exact .inl (un.keep b o e q (by intro z; exact absurd (show b ∈ ([] : List Addr) from z) (by simp)) (by simp))
        | some u =>
          rcases hA b u q with ⟨rfl, _, ob, xs, rfl⟩ | ⟨p, hp, rfl, rfl⟩
          · have z2 := un.frzs _ ob _ q
            obtain ⟨e1, _⟩ := hok _ _ q
            obtain ⟨e2, _⟩ := hok' _ _ z2
            rw [e] at e1; cases e1
            exact .inl e2
          · obtain ⟨more, z2⟩ := un.tbls p.2 #[] q
            have e2 : s'.heap.get? p.2 = some (PySem.W.tabObj (#[] ++ more)) := hok' _ _ z2
            obtain ⟨_, _, _, c, _, _, _, _, hcd⟩ := (hk p hp).code
            have hTA := (PySem.W.codeHd_of_K KX hcd).tab (ht p hp)
            rw [ht p hp] at e; cases e
            exact .inr (.inl ⟨hTA.isCodeTable, rfl, #[], more, rfl, e2⟩)
  have nt : ∀ p ∈ ts, p.2 ≠ a := fun p hp z => by
    have := ht p hp
    rw [z, ha] at this; cases this
  cases hka : K.lookup a with
  | some o =>
    have e := KX a o hka
    rw [ha] at e
    cases e
    let H : Hp := fun b => if (ts.map (·.2)).contains b = true then some (.tbl #[]) else none
    have hin : ∀ p ∈ ts, H p.2 = some (.tbl #[]) := fun p hp => if_pos (by simp; exact ⟨p.1, hp⟩)
    refine core H (.inr ⟨_, vs.toArray, _, hka, rfl, rfl, rfl, by rw [List.size_toArray, lenV]; exact hl, by simpa using rv⟩) hin (fun b u z => ?_) fun b u z => ?_
    · by_cases hb : (ts.map (·.2)).contains b = true
      · have z : (if (ts.map (·.2)).contains b = true then some (HO.tbl #[]) else none) = some u := z
        rw [if_pos hb] at z; cases z
        obtain ⟨p, hp, rfl⟩ := List.mem_map.mp (List.contains_iff_mem.mp hb)
        exact ht p hp
      · have z : (if (ts.map (·.2)).contains b = true then some (HO.tbl #[]) else none) = some u := z
        rw [if_neg hb] at z; cases z
    · by_cases hb : (ts.map (·.2)).contains b = true
      · have z : (if (ts.map (·.2)).contains b = true then some (HO.tbl #[]) else none) = some u := z
        rw [if_pos hb] at z; cases z
        obtain ⟨p, hp, rfl⟩ := List.mem_map.mp (List.contains_iff_mem.mp hb)
        exact .inr ⟨p, hp, rfl, rfl⟩
      · have z : (if (ts.map (·.2)).contains b = true then some (HO.tbl #[]) else none) = some u := z
        rw [if_neg hb] at z; cases z
  | none =>
    let H : Hp := fun b => if b = a then some (.frz { cls := .type "list", data := .seq vs.toArray } (.lst (ns.map V.int))) else if (ts.map (·.2)).contains b = true then some (.tbl #[]) else none
    have hin : ∀ p ∈ ts, H p.2 = some (.tbl #[]) := fun p hp => (if_neg (nt p hp)).trans (if_pos (by simp; exact ⟨p.1, hp⟩))
    have hat : H a = some (.frz { cls := .type "list", data := .seq vs.toArray } (.lst (ns.map V.int))) := if_pos rfl
    have hcase : ∀ b u, H b = some u → (b = a ∧ u = .frz { cls := .type "list", data := .seq vs.toArray } (.lst (ns.map V.int))) ∨ ∃ p ∈ ts, b = p.2 ∧ u = .tbl #[] := fun b u z => by
      by_cases hba : b = a
      · subst hba
        rw [hat] at z; cases z
        exact .inl ⟨rfl, rfl⟩
      · have z : (if b = a then some (HO.frz { cls := .type "list", data := .seq vs.toArray } (.lst (ns.map V.int))) else if (ts.map (·.2)).contains b = true then some (HO.tbl #[]) else none) = some u := z
        rw [if_neg hba] at z
        by_cases hb : (ts.map (·.2)).contains b = true
        · rw [if_pos hb] at z; cases z
          obtain ⟨p, hp, rfl⟩ := List.mem_map.mp (List.contains_iff_mem.mp hb)
          exact .inr ⟨p, hp, rfl, rfl⟩
        · rw [if_neg hb] at z; cases z
    refine core H (.inl ⟨_, hat⟩) hin (fun b u z => ?_) fun b u z => ?_
    · rcases hcase b u z with ⟨rfl, rfl⟩ | ⟨p, hp, rfl, rfl⟩
      · exact ⟨ha, by rw [List.length_map]; exact hl, vs, _, rv, ha⟩
      · exact ht p hp
    · rcases hcase b u z with ⟨rfl, rfl⟩ | h
      · exact .inl ⟨rfl, hka, _, _, rfl⟩
      · exact .inr h
/-- the script and the tables as the law finds them -/
theorem script_repT {K : PySem.W.Frag} {H : Hp} {a : Addr} {ns : List Int} {ts : List (Str × Addr)} (hnd : (ts.map (·.2)).Nodup) (hS : FrzL K H a (ns.map V.int)) (hT : ∀ p ∈ ts, H p.2 = some (.tbl #[])) (hk : ∀ p ∈ ts, TabK K p.1 p.2) :
    RepS K (a :: ts.map (·.2)) H (.frz (ns.map D.int) :: ts.map fun p => .tab p.1) := by
  have hv : ∀ (μ : List Addr) (l : List Int), RepVs K μ H (l.map D.int) (l.map V.int) := fun μ l => by
    induction l with
    | nil => exact RepVs.nil
    | cons i l ih => exact RepVs.cons (RepV.int_iff.mpr rfl) ih
  refine ⟨by simp, fun n o e => ?_, fun i j b oi oj ei ej mi mj hi hj => ?_⟩
  · match n, e with
    | 0, e =>
      simp at e; subst e
      exact ⟨a, rfl, _, hS, hv _ ns⟩
    | n + 1, e =>
      rw [List.getElem?_cons_succ, List.getElem?_map] at e
      cases q : ts[n]? with
      | none => rw [q] at e; cases e
      | some p =>
        rw [q] at e; cases e
        have hp := List.mem_of_getElem? q
        refine ⟨p.2, by rw [List.getElem?_cons_succ, List.getElem?_map, q]; rfl, (hk p hp).code, #[], hT p hp, trivial, fun pos cv z => by cases z⟩
  · match i, j, ei, ej, hi, hj with
    | 0, _, ei, _, _, _ => simp at ei; subst ei; cases mi
    | _ + 1, 0, _, ej, _, _ => simp at ej; subst ej; cases mj
    | i + 1, j + 1, _, _, hi, hj =>
      rw [List.getElem?_cons_succ] at hi hj
      have h1 := (List.getElem?_eq_some_iff.mp hi).1
      rw [(List.getElem?_inj h1 hnd).mp (hi.trans hj.symm)]
theorem holds_ofT (ts : List (Str × Addr)) {l : PySem.W.OpenLaw} {k : Nat} {q : Program} {loose : List Str} {XP : (Str → Option Value) → Heap → Prop} {YP : World → Heap → Prop} {d : DefRec} {K : Params → PySem.W.Frag} {F : FD} {x : Str}
    (hn : l.most = some 63) (hdf : d.params.defaults = []) (hr : Room k callerA) (hnd : (ts.map (·.2)).Nodup)
    (hY : ∀ (w : World) (h : Heap), YP w h → (K w.params).In h ∧ ∀ P ∈ ts.map (·.2), h.get? P = some (PySem.W.tabObj #[]))
    (G : ∀ (w : World) (mg : Str → Option Value) (fa : Addr) (h : Heap), (K w.params).In h → h.Ns mainGlobals mg → mg d.name = some (.ref fa) →
      ∃ fd : FuncData, (∀ (s : Shared) (u : Value), BindsTo s fd ⟨[u], []⟩ [(x, u)]) ∧ (∀ p ∈ ts, TabK (K w.params) p.1 p.2) ∧ ∀ base : Heap, (K w.params).In base → base.Ns mainGlobals mg → BMain mg base → FnOk l.prog w (K w.params) mg base CX0 k fa fd [x] (spM (K w.params) 1 F))
    (hF : ∀ ns : List Int, ns.length ≤ 63 → ∃ st, F [.loc 0] (.frz (ns.map D.int) :: ts.map fun p => .tab p.1) = .ok (.bl true) st) :
    PySem.W.WalkO q loose XP YP l.row.toRowW d [] (fun f vs => PySem.call f vs) := by
  refine Att.attach_call hn hdf fun w s₀ s₁ mg mb fa o pm cd doc a vs ns G0 Y ho hd hcd hmg hobj hints hlen hg => ?_
  obtain ⟨KX, hT⟩ := hY w _ Y
  obtain ⟨fd, hb, hk, hF'⟩ := G w mg fa _ KX G0.T.g hmg
  refine law_callT (ts := ts) KX G0.T.g G0.T.b G0.T.builtins G0.T.nolimit hg G0.T.bmain (fun p hp => hT p.2 (List.mem_map.mpr ⟨p, hp, rfl⟩)) hk hobj hints (Nat.le_trans hlen (by decide)) hr hF' hb fun H hS hTb => ?_
  obtain ⟨st, e⟩ := hF ns hlen
  refine ⟨rfl, a :: ts.map (·.2), [.loc 0], _, RepVs.cons (RepV.loc_iff.mpr ⟨a, rfl, rfl⟩) RepVs.nil, script_repT hnd hS hTb hk, ?_⟩
  rw [e]
  exact fun v H' μ' _ _ hv => RepV.bl_iff.mp hv
/-! ### a def that makes lambdas: it knows its own code -/
structure FunT (K : PySem.W.Frag) (x : Str) (st : Stmt) (f : Addr) (fd : FuncData) : Prop where
  ex : ∃ (oc : Value) (od : Option Addr) (dV kV doc pm : Value) (an : Option Addr) (c : Addr) (ct : Value) (osl : Array (Option Value)),
    fd = PySem.W.fnOf x x (defArgs st) (defBody st) (defScope st) dV kV doc pm an (.ref c) ct ∧ K.lookup f = some ⟨oc, od, .func fd, osl⟩ ∧ PySem.W.codeIn K (.ref c) x = true
  ns : PySem.W.nsIn K mainGlobals x = some (some (.ref f))
  kp : PySem.W.keepIn K (.ref f) = true
end M
namespace M
open PySem PySem.Spec L2
end M
namespace M
open L2
/-! ### running lambdas -/
@[simp] theorem isClo_lst (l : List D) : (MO.lst l).isClo = false := rfl
@[simp] theorem isClo_frz (l : List D) : (MO.frz l).isClo = false := rfl
@[simp] theorem isClo_tab (x : PySem.Str) : (MO.tab x).isClo = false := rfl
@[simp] theorem isClo_dic (l : List (List Key × D)) : (MO.dic l).isClo = false := rfl
@[simp] theorem isClo_dkc (l : List (Key × D)) : (MO.dkc l).isClo = false := rfl
@[simp] theorem isClo_dkf (l : List (Key × D)) : (MO.dkf l).isClo = false := rfl
@[simp] theorem isClo_exc (c : String) (d : D) : (MO.exc c d).isClo = false := rfl
@[simp] theorem isClo_dtf (l : List (List Key × D)) : (MO.dtf l).isClo = false := rfl
end M
namespace M
open PySem PySem.Spec L2
section
variable {X : Cx} {elt tg iter c : Expr} {ifs : List Expr} {scope : Scope} {pos : Pos} {N : List Str} {capt : List (Option Nat)} {mi : MI} {g : MG} {t : MT} {me : ME}
end
end M
namespace L2
open PySem PySem.Spec PyProof.Rows
/-! ### enumerate(text), of signs below 128 -/
end L2
namespace M
open PySem PySem.Spec L2
section
variable {X : Cx} {a : Expr} {mA : MA} {μ : List Addr} {H : Hp} {p pos tpos : Pos}
end
end M
namespace M
open PySem PySem.Spec PySem.SeqAt L2
/-! ### tuples of the module's top -/
section
variable {X : Cx} {pos : Pos} {x : Str} {L : Nat}
/-! ### x in a list of flat things -/
end
end M
namespace M
open PySem PySem.Spec L2
/-! ### a, b = a list -/
section
variable {prog : Program} {w : World} {A : Around} {E : Value → Shared → Prop} {s : Shared}
end
section
variable {X : Cx} {es : List Expr} {pos : Pos}
end
end M
namespace M
open L2
end M
namespace M
open PySem PySem.Spec L2
section
variable {X : Cx}
end
end M
namespace M
open L2
/-! ### dicts whose keys are ints and texts -/
def valN (kvs : List (Key × D)) (k : Key) : Option D := (kvs.find? fun kv => decide (kv.1 = k)).map (·.2)
theorem valN_cons (p : Key × D) (r : List (Key × D)) (k : Key) : valN (p :: r) k = if p.1 = k then some p.2 else valN r k := by
  unfold valN
  rw [List.find?_cons]
  by_cases h : p.1 = k
  · simp [h]
  · simp [h]
end M
namespace M
open PySem PySem.Spec L2
section
variable {X : Cx} {K : PySem.W.Frag} {μ : List Addr} {H : Hp}
theorem RepKV.valN {k : Key} : ∀ {kvs : List (Key × D)} {ws : List (Key × V)}, RepKV K μ H kvs ws →
    (M.valN kvs k = none ∧ valV ws k = none) ∨ ∃ d v, M.valN kvs k = some d ∧ valV ws k = some v ∧ RepV K μ H d v
  | [], ws, h => .inl ⟨rfl, by rw [RepKV] at h; rw [h]; rfl⟩
  | (j, d) :: r, ws, h => by
    obtain ⟨v, r', rfl, h1, h2⟩ := h
    rw [valN_cons]
    by_cases e : j = k
    · rw [if_pos e]
      exact .inr ⟨d, v, rfl, valV_pos (p := (j, v)) e, h1⟩
    · rw [if_neg e, valV_neg (p := (j, v)) e]
      exact RepKV.valN h2
end
section
variable {X : Cx} {a b o i : Expr} {ma mb : ME} {pos : Pos}
/-! displays -/
end
end M
namespace M
open PySem PySem.Spec PySem.SeqAt L2
end M
namespace L2
open PySem PySem.Spec PyProof.Rows
/-! ### for k in d (a dict with plain keys) -/
end L2
namespace M
open PySem PySem.Spec L2
section
variable {X : Cx} {tg l a b : Expr} {ml ma mb : ME} {μ : List Addr} {H : Hp} {K : PySem.W.Frag} {st : Stor} {pos : Pos}
end
end M
namespace L2
open PySem PySem.Spec PyProof.Rows
/-! ### the module's dicts: their keys are walked -/
end L2
namespace L2
open PySem PySem.Spec PyProof.Rows
/-! ### l.extend(t), t a tuple -/
end L2
namespace M
open PySem PySem.Spec L2
end M
namespace M
open PySem PySem.Spec L2
/-! ### the module's dicts, whose keys are texts -/
def lookT : List (List Nat × D) → List Nat → Option D
  | [], _ => none
  | (c, d) :: r, cs => if c = cs then some d else lookT r cs
theorem strOf_eqM {a b : List Nat} : (strOf a = strOf b) ↔ a = b := by
  constructor
  · intro h
    have := congrArg (fun s => s.cps.toList) h
    simpa [strOf] using this
  · rintro rfl; rfl
/-- the module's dict at a: its keys and values -/
def keyT (tb : List (List Nat × D)) : List (Key × D) := tb.map fun p => (Sum.inr (strOf p.1), p.2)
structure DictK (w : World) (K : PySem.W.Frag) (a : Addr) (tb : List (List Nat × D)) : Prop where
  low : (a == sysModules) = false
  at_ : ∀ P : Program, ∃ (kvs : List (Key × V)) (vs : List (Key × Value)) (ep : Nat), (∀ μ H, RepKV K μ H (keyT tb) kvs) ∧ KV kvs vs ∧ ∀ h : Heap, K.In h → h.DictAt (mixKind P w) a vs ep
/-- the rows of such a dict -/
inductive Rws (K : PySem.W.Frag) (w : World) : List DictEntry → List (List Nat × D) → Prop
  | nil : Rws K w [] []
  | i {h : Int} {x : Str} {t u : Tok} {cs : List Nat} {n : Int} {es : List DictEntry} {tb : List (List Nat × D)} (hx : x = strOf cs) (hh : h = keyH w (.inr x)) (r : Rws K w es tb) : Rws K w (⟨h, .str x t, .int n u⟩ :: es) ((cs, .int n) :: tb)
theorem Rws.all {K : PySem.W.Frag} {w : World} (P : Program) : ∀ {es : List DictEntry} {tb : List (List Nat × D)}, Rws K w es tb →
    ∃ (kvs : List (Key × V)) (vs : List (Key × Value)), (∀ μ H, RepKV K μ H (keyT tb) kvs) ∧ KV kvs vs ∧ (∀ e ∈ es, ∃ k, (mixKind P w).is k e.key = true ∧ e.hash = (mixKind P w).hash k) ∧ Pairs (mixKind P w) es vs ∧ vs.map (·.1) = (keyT tb).map (·.1)
  | _, _, .nil => ⟨[], [], fun _ _ => rfl, .nil, (fun _ h => nomatch h), .nil, rfl⟩
  | _, _, @Rws.i _ _ h x t u cs n es tb hx hh r => by
    obtain ⟨kvs, vs, h1, h2, h3, h4, h5⟩ := Rws.all P r
    refine ⟨(.inr x, .int n) :: kvs, (.inr x, .int n u) :: vs, fun μ H => ?_, .cons ⟨rfl, ⟨u, rfl⟩⟩ h2, fun e he => ?_, .cons (mixKind_str P w x t) rfl h4, ?_⟩
    · subst hx
      exact ⟨.int n, kvs, rfl, RepV.int_iff.mpr rfl, h1 μ H⟩
    · rcases List.mem_cons.mp he with rfl | he
      · exact ⟨.inr x, mixKind_str P w x t, hh⟩
      · exact h3 e he
    · subst hx
      show (.inr (strOf cs) : Key) :: vs.map (·.1) = .inr (strOf cs) :: (keyT tb).map (·.1)
      rw [h5]
theorem dictK_mk {w : World} {K : PySem.W.Frag} {a : Addr} {tb : List (List Nat × D)} {es : Array DictEntry} {ep : Nat} (hl : K.lookup a = some ⟨.type "dict", none, .dict es ep, #[]⟩) (h0 : (a == sysModules) = false) (hr : Rws K w es.toList tb) (hn : (tb.map (·.1)).Nodup) : DictK w K a tb := by
  refine ⟨h0, fun P => ?_⟩
  obtain ⟨kvs, vs, h1, h2, h3, h4, h5⟩ := Rws.all P hr
  refine ⟨kvs, vs, ep, h1, h2, fun h KI => ⟨_, es, KI a _ hl, ⟨rfl, rfl, rfl⟩, rfl, fun e he => h3 e (by simpa using he), h4, ?_⟩⟩
  rw [h5]
  have e : (keyT tb).map (·.1) = (tb.map (·.1)).map fun cs => (Sum.inr (strOf cs) : Key) := by simp [keyT]
  rw [e]
  exact List.Pairwise.map (fun cs => (Sum.inr (strOf cs) : Key)) (fun a b hne e => hne (strOf_eqM.mp (Sum.inr.inj e))) hn
theorem valN_keyT (cs : List Nat) : ∀ tb : List (List Nat × D), valN (keyT tb) (.inr (strOf cs)) = lookT tb cs
  | [] => rfl
  | (c, d) :: r => by
    show valN ((Sum.inr (strOf c), d) :: keyT r) _ = _
    rw [valN_cons, valN_keyT cs r]
    by_cases h : c = cs
    · subst h; simp [lookT]
    · rw [if_neg (fun z => h (strOf_eqM.mp (Sum.inr.inj z)))]; simp [lookT, h]
section
variable {X : Cx} {tg b : Expr} {mb : ME} {pos pos' : Pos} {x : Str} {tb : List (List Nat × D)}
end
end M
namespace M
open PySem PySem.Spec PySem.SeqAt L2
/-! ### i << j -/
/-! ### dict(d), d != e: dicts with text keys and flat values -/
section
variable {X : Cx} {L : Nat}
end
end M
namespace M
open PySem PySem.Spec L2
/-! ### figures: str(i), int(text) of numbers from 0 to 999; G.get(k) of the module's dicts -/
def fig (n : Nat) : List Nat := if n < 10 then [48 + n] else if n < 100 then [48 + n / 10, 48 + n % 10] else [48 + n / 100, 48 + n / 10 % 10, 48 + n % 10]
def isFig (c : Nat) : Bool := decide (48 ≤ c ∧ c ≤ 57)
def figV : List Nat → Option Nat
  | [a] => if isFig a then some (a - 48) else none
  | [a, b] => if isFig a && isFig b && decide (a ≠ 48) then some ((a - 48) * 10 + (b - 48)) else none
  | [a, b, c] => if isFig a && isFig b && isFig c && decide (a ≠ 48) then some ((a - 48) * 100 + (b - 48) * 10 + (c - 48)) else none
  | _ => none
def strW : List D → Stor → R D
  | [.str cs], st => .ok (.str cs) st
  | [.int i], st => if 0 ≤ i ∧ i < 1000 then .ok (.str (fig i.toNat)) st else .bad
  | _, _ => .bad
def intW : List D → Stor → R D
  | [.str cs], st => (match figV cs with | some n => .ok (.int (n : Nat)) st | none => .bad)
  | ds, st => intC ds st
def tabG (tb : List (List Nat × D)) : D → Stor → R D
  | .str cs, st => .ok ((lookT tb cs).getD .non) st
  | _, _ => .bad
def tabGE (tb : List (List Nat × D)) (m : ME) : ME := fun env st => (m env st).bind fun k st1 => tabG tb k st1
@[simp] theorem r_tabGE (tb : List (List Nat × D)) (m : ME) (env : MEnv) (st : Stor) : tabGE tb m env st = (m env st).bind fun k st1 => tabG tb k st1 := by_rfl rfl
@[simp] theorem r_tabG (tb : List (List Nat × D)) (cs : List Nat) (st : Stor) : tabG tb (.str cs) st = .ok ((lookT tb cs).getD .non) st := by_rfl rfl
theorem r_strW_i (n : Nat) (st : Stor) (h : n < 1000) : strW [.int (n : Nat)] st = .ok (.str (fig n)) st := by
  show (if (0 : Int) ≤ (n : Int) ∧ (n : Int) < 1000 then R.ok (D.str (fig (n : Int).toNat)) st else .bad) = _
  rw [if_pos (by omega), Int.toNat_natCast]
theorem figV_fig : ∀ n : Nat, n < 1000 → figV (fig n) = some n := by
  intro n h
  unfold fig
  split
  · simp [figV, isFig]; omega
  · split
    · simp [figV, isFig]; omega
    · simp [figV, isFig]; omega
theorem r_intW_s (n : Nat) (st : Stor) (h : n < 1000) : intW [.str (fig n)] st = .ok (.int (n : Nat)) st := by
  unfold intW
  simp only [figV_fig n h]
theorem figV_some : ∀ {cs : List Nat} {n : Nat}, figV cs = some n → n < 1000 ∧ cs = fig n := by
  intro cs n h
  unfold figV at h
  split at h
  · rename_i a
    split at h
    · rename_i c
      simp only [isFig, decide_eq_true_eq] at c
      cases h
      refine ⟨by omega, ?_⟩
      unfold fig
      rw [if_pos (by omega)]
      congr 1; omega
    · cases h
  · rename_i a b
    split at h
    · rename_i c
      simp only [isFig, Bool.and_eq_true, decide_eq_true_eq] at c
      cases h
      refine ⟨by omega, ?_⟩
      unfold fig
      rw [if_neg (by omega), if_pos (by omega)]
      congr 1
      · omega
      · congr 1; omega
    · cases h
  · rename_i a b d
    split at h
    · rename_i c
      simp only [isFig, Bool.and_eq_true, decide_eq_true_eq] at c
      cases h
      refine ⟨by omega, ?_⟩
      unfold fig
      rw [if_neg (by omega), if_neg (by omega)]
      congr 1
      · omega
      · congr 1
        · omega
        · congr 1; omega
    · cases h
  · cases h
/-! sound -/
theorem fig_text_all : ((List.range 1000).all fun n => decide ((Nat.toDigits 10 n).map Char.toNat = fig n)) = true := by decide +kernel
theorem fig_text {n : Nat} (h : n < 1000) : PySem.Str.ofString (toString ((n : Nat) : Int)) = strOf (fig n) := by
  have h1 := List.all_eq_true.mp fig_text_all n (List.mem_range.mpr h)
  simp only [decide_eq_true_eq] at h1
  have h2 := PySem.W.KIN.signs_num n
  rw [h1] at h2
  show _ = (⟨(fig n).toArray⟩ : Str)
  rw [← h2]
section
variable {X : Cx} {b : Expr} {mb : ME} {x : Str} {tb : List (List Nat × D)} {cpos apos pos' : Pos}
theorem call_strW : CallR X (.type "str") (rMC X strW) := by
  rintro pins s σ H xs us Q I rv ⟨μ, st, ds, hs, hv, hp⟩
  unfold strW at hp
  split at hp
  · rename_i cs
    obtain ⟨v, rfl, q⟩ := RepVs.one hv
    obtain rfl := RepV.str_iff.mp q
    obtain ⟨u, rfl, t, rfl⟩ := rv.one
    exact P.str_of_str ⟨.str (strOf cs), H, I, ⟨_, rfl⟩, hp.ret hs (RepV.str_iff.mpr rfl)⟩
  · rename_i i
    split at hp
    · rename_i hi
      obtain ⟨v, rfl, q⟩ := RepVs.one hv
      obtain rfl := RepV.int_iff.mp q
      obtain ⟨u, rfl, t, rfl⟩ := rv.one
      obtain ⟨n, rfl⟩ := Int.eq_ofNat_of_zero_le hi.1
      have hn : n < 1000 := by omega
      rw [Int.toNat_natCast] at hp
      refine PySem.P.str_of_int ?_ ⟨.str (PySem.Str.ofString (toString ((n : Nat) : Int))), H, I.tok _, ⟨_, rfl⟩, hp.ret hs (RepV.str_iff.mpr (by rw [fig_text hn]))⟩
      have : n.log2 ≤ n := Nat.log2_le_self n
      show (Int.natAbs (n : Int)).log2 < 1920
      rw [Int.natAbs_natCast]; omega
    · exact hp.elim
  · exact hp.elim
theorem call_intW : CallR X (.type "int") (rMC X intW) := by
  rintro pins s σ H xs us Q I rv ⟨μ, st, ds, hs, hv, hp⟩
  unfold intW at hp
  split at hp
  · rename_i cs
    split at hp
    · rename_i n e
      obtain ⟨hn, ec⟩ := figV_some e
      obtain ⟨v, rfl, q⟩ := RepVs.one hv
      obtain rfl := RepV.str_iff.mp q
      obtain ⟨u, rfl, t, rfl⟩ := rv.one
      rw [ec, ← fig_text hn]
      exact PySem.W.KIN.call_num (n := ((n : Nat) : Int)) (by omega) (by omega) ⟨.int (n : Nat), H, I.tok _, ⟨_, rfl⟩, hp.ret hs (RepV.int_iff.mpr rfl)⟩
    · exact hp.elim
  · exact call_intC pins s σ H xs us Q I rv ⟨μ, st, _, hs, hv, hp⟩
theorem je_tabGet (h : ∃ a, X.mg x = some (.ref a) ∧ DictK X.w X.K a tb) (hb : JE X b mb) (hg : Gl X x := by rfl) (hd : (x == ("__debug__" : Str)) = false := by decide)
    (hbase : attributeBase (.Name x pos') "get" X.env (eval (.Name x pos') X.env) = eval (.Name x pos') X.env := by rfl)
    (hfew : ((backTo cpos (starEach [b] X.env)).all (fun x => !x.1) && (backToKw cpos (keywordEach [] X.env)).all (fun x => x.1.isSome)
      && decide ([b].length + ([] : List Keyword).length + (if ([] : List Keyword).isEmpty then 0 else 1) < 30)) = true := by rfl)
    (hline : (apos.endLine == cpos.line) = true := by rfl) (hs : starEach [b] X.env = (false, eval b X.env) :: starEach [] X.env := by rfl) :
    JE X (.Call (.Attribute (.Name x pos') "get" apos) [b] [] cpos) (tabGE tb mb) := by
  obtain ⟨a, hm, dk⟩ := h
  obtain ⟨kvs, vs, ep, h1, rel, da⟩ := dk.at_ X.prog
  rintro pins s σ H Q I ⟨μ, env, st, hE, hsS, hp⟩
  refine wpAny_Call_method_late hbase hfew hline rfl (ld_glob I hg hm ?_ hd)
  have d0 := (da _ I.kIn).dictOf
  refine ⟨"dict", "dict.get", PySem.F.plainAttrs_dict, PySem.F.slot_dict_get, PySem.F.type_dict_get, d0.typeIs, d0.mapOf.noDict, ?_⟩
  rw [hs]
  refine Calls.callWith_builtin rfl (Calls.evalArgs_plain (Calls.spliced_cons (thn (hb pins s σ H _ I ⟨μ, env, st, hE, hsS, Post.bind hp⟩) fun iv s1 ⟨y, H1, I1, ry, μ1, st1, d, g1, hs1, hv, hp1⟩ => Calls.spliced_nil ?_)))
  dsimp only at hp1
  unfold tabG at hp1
  split at hp1
  · rename_i cs
    obtain rfl := RepV.str_iff.mp hv
    have dd := (da _ I1.kIn).dictOf
    refine call_meetsIn PySem.F.slot_dict_get dd.typeIs PySem.F.entry_dict_get (PySem.F.args_dict_get_2 _ _) (meets_dict_get (mixKind X.prog X.w) a (kV_is (k := .inr (strOf cs)) ry) dk.low) ⟨_, dd.mapOf, ?_⟩
    rcases (h1 μ1 H1).valN (k := .inr (strOf cs)) with ⟨z1, z2⟩ | ⟨d2, v', z1, z2, z3⟩
    · rw [valN_keyT] at z1
      rw [z1] at hp1
      have hn : valueAt vs (.inr (strOf cs)) = none := RelO.none_of (by rw [← z2]; exact rel.val _)
      rw [hn]
      exact ⟨.non, H1, I1.tok _, rfl, hp1.ret hs1 (RepV.non_iff.mpr rfl)⟩
    · rw [valN_keyT] at z1
      rw [z1] at hp1
      obtain ⟨w', hw, rw'⟩ := RelO.some_of (v := v') (o := valueAt vs (.inr (strOf cs))) (by rw [← z2]; exact rel.val _)
      rw [hw]
      exact ⟨v', H1, I1.tok _, rw', hp1.ret hs1 z3⟩
  · exact hp1.elim
end
end M
namespace L2
open PySem PySem.Spec PyProof.Rows
/-! ### len(d), d's keys tuples -/
section
variable {prog : Program} {w : World} {A : Around} {E : Value → Shared → Prop} {s : Shared} {d : Addr} {o : Obj} {es : Array DictEntry} {ep : Nat}
end
end L2
namespace M
open PySem PySem.Spec L2
/-! ### what a call that changes old objects leaves -/
section
variable {K : PySem.W.Frag} {μ ν : List Addr} {H H' : Hp} {st st' : Stor}
end
/-! ### instances of the module's own classes -/
/-! sound -/
section
variable {X : Cx} {K : PySem.W.Frag} {μ : List Addr} {H : Hp} {e o a b value : Expr} {es : List Expr} {me mo mv ma mb : ME} {mA : MA} {pos pos' apos p : Pos} {c f m x : Str} {C g : Addr} {F : FD} {fd : FuncData} {ps : List Str} {k : Nat}
end
end M
namespace M
open PySem
def clsBody : Stmt → List Stmt
  | .ClassDef _ _ _ body _ _ _ _ _ _ _ => body
  | _ => []
end M
namespace L2
open PySem PySem.Spec PyProof.Rows
end L2
namespace M
open PySem PySem.Spec L2
end M
namespace L2
open PySem PySem.Spec PyProof.Rows
/-! ### for k in d, d's keys being tuples -/
section
variable {P : Program} {w : World} {A : Around} {E : Value → Shared → Prop} {s : Shared} {d it : Addr} {od : Obj} {es : Array DictEntry} {i ep : Nat}
end
end L2
namespace M
open PySem PySem.Spec L2
section
variable {X : Cx} {tg l a b : Expr} {ml ma mb : ME} {μ : List Addr} {H : Hp} {K : PySem.W.Frag} {st : Stor} {pos : Pos}
end
end M
namespace L2
open PySem PySem.Spec PyProof.Rows
/-! ### an exception that is on its way -/
section
variable {X : Cx} {pins : List (Addr × Obj)} {σ : St} {H : Hp} {s : Shared} {h' : Heap} {lo : Nat} {e C dx : Addr} {E : Value → Shared → Prop}
/-- things that no one knows change -/
theorem Inv.chg {ch : List Addr} {t' : Nat} (I : Inv X pins σ H s) (hpn : ∀ p ∈ X.pn ++ pins, p.1 < lo) (hlo : X.s₀.heap.objs.size ≤ lo) (hc : ∀ b ∈ ch, lo ≤ b ∧ H b = none ∧ ∃ o vs, s.heap.get? b = some o ∧ o.data = .fields vs)
    (k : ∀ b o, s.heap.get? b = some o → b ∉ frs X.stack → b ∉ ch → h'.get? b = some o) (sl : ∀ b o, s.heap.get? b = some o → b ∈ frs X.stack → ∃ sl, h'.get? b = some { o with slots := sl }) : Inv X pins σ H { s with heap := h', toks := t' } := by
  have nk : ∀ b u, H b = some u → b ∉ frs X.stack ∧ b ∉ ch := fun b u q => ⟨fun z => (by rw [I.stkFree b z] at q; cases q), fun z => (by rw [(hc b z).2.1] at q; cases q)⟩
  have un : Un (frs X.stack) ch H H s.heap h' := by
    refine ⟨fun b o q _ hb hx => k b o q hb hx, fun b o q _ hb _ => sl b o q hb, fun b o _ q _ => q, fun b o q hx => ?_, fun _ _ q => q, fun _ _ _ q => q, fun b ps q => ⟨#[], by rw [q]; simp⟩⟩
    by_cases hb : b ∈ frs X.stack
    · obtain ⟨z, q2⟩ := sl b o q hb; exact ⟨_, q2⟩
    · exact ⟨o, k b o q hb hx⟩
  have hok : HOk X.prog X.w H h' := fun a o q => (I.hok a o q).stay (fun b u hb hu => by
    have : b ∉ frs X.stack ∧ b ∉ ch := by
      rcases hb with rfl | hb
      · exact nk _ _ q
      · exact nk _ _ hb
    exact k b u hu this.1 this.2) (fun _ q => q) (fun _ _ q => q)
  refine I.call (g' := s.gens) (d' := s.drawn) (ch := ch) un hok I.bare fun b hb => ?_
  obtain ⟨h1, h2, o, vs, h3, h4⟩ := hc b hb
  refine ⟨.inr (Nat.le_trans hlo h1), fun z => ?_, fun x c hx z => ?_, fun p hp z => Nat.lt_irrefl _ (Nat.lt_of_lt_of_le (hpn p hp) (by rw [z]; exact h1))⟩
  · obtain ⟨m, ⟨o', es, ep, ho', hd', _⟩, _⟩ := I.loc
    rw [z, ho'] at h3; cases h3; rw [hd'] at h4; cases h4
  · obtain ⟨v, o', ho', hd'⟩ := I.cell x c hx
    rw [z, h3] at ho'; cases ho'; rw [hd'] at h4; cases h4
theorem dict_mapF (o : Obj) (f) : (o.mapFields f).dict = o.dict := by
  obtain ⟨c, d, dt, sl⟩ := o; cases dt <;> rfl
/-- where the frame is the one that runs -/
structure Own (X : Cx) : Prop where
  stk : X.stack = X.env :: X.outer
  frm : X.env.frame = some X.env.locals
  pn : X.pn = []
/-- a new entry is laid -/
theorem entry_x {head : Value} {hn : Bool} {Q : Unit → Shared → Prop} {oe : Obj} {vs : Array Value} (I : Inv X pins σ H s) (W : Own X) (hpn : ∀ p ∈ X.pn ++ pins, p.1 < lo) (hlo : X.s₀.heap.objs.size ≤ lo) (h1 : lo ≤ e) (h2 : H e = none) (ho : s.heap.get? e = some oe) (hc : oe.cls = .ref C) (hdx : oe.dict = some dx) (hd : oe.data = .fields vs) (hz : 1 < vs.size)
    (hlo2 : lo ≤ s.heap.objs.size)
    (hQ : ∀ h', Inv X pins σ H { s with heap := h' } → Xo lo e C dx (some (rawInt X.env.locals)) H h' → Q () { s with heap := h' }) :
    wpAny (model X.prog X.w) X.A (do let a ← frameOf X.env; let pl ← entryPlaceOf X.env.locals hn; let b ← EntryCells.newEntry head a .none (rawInt X.env.locals) .none pl; setField (.ref e) 1 b) Q E s := by
  have hfr : X.A.frames = some (X.env :: X.outer) := by rw [I.ok.frames, W.stk]
  have hl : s.heap.FunFrames X.base (X.env :: X.outer) := by have := I.stack; rwa [W.stk] at this
  have hene : e ∉ frs X.stack := fun hm => by
    rw [W.stk] at hm
    obtain ⟨_, o, ho', hnf⟩ := hl.mem hm
    rw [ho] at ho'; cases ho'; exact hnf vs hd
  refine wpAny_bind (wpAny_frameOf_fun hfr hl W.frm fun g1 so => ?_)
  refine wpAny_bind (wpAny_entryPlaceOf fun pl hpl => ?_)
  unfold EntryCells.newEntry newFields
  refine wpAny_bind (wpAny_newObj_type ?_ (hpl.sizeOk5 _ _ _ _ _))
  generalize htb : ({ cls := .type "traceback", dict := none, data := .fields ([head, Value.ref X.env.locals, .none, rawInt X.env.locals, .none] ++ (if pl.isEmpty then List.replicate 6 Value.none else pl)).toArray } : Obj) = tb
  have so2 : ∀ b, b ∉ frs X.stack → g1.get? b = s.heap.get? b := fun b hb => so.2.1 b (by rw [W.stk] at hb; exact hb)
  have he1 : g1.get? e = some oe := (so2 e hene).trans ho
  have he2 := Heap.get?_push_of_some (h := g1) tb he1
  refine wpAny_setField he2 hd hz ?_
  have hT : g1.objs.size ≠ e := Nat.ne_of_gt (Heap.lt_size he1)
  have hgs : g1.objs.size = s.heap.objs.size := so.1
  have old : ∀ b o, b ≠ e → g1.get? b = some o → ((g1.push tb).update e (Obj.mapFields (·.setIfInBounds 1 (Value.ref g1.objs.size)))).get? b = some o := fun b o hb q => by
    rw [Heap.get?_update_other _ _ (Ne.symm hb)]; exact Heap.get?_push_of_some _ q
  refine hQ _ (I.chg (lo := lo) (ch := [e]) (t' := s.toks) hpn hlo (fun b hb => ?_) (fun b o q hb hx => ?_) fun b o q hb => ?_) ⟨h1, h2, _, _, Heap.get?_update_self _ he2 (Obj.isFreed_of_fields (Obj.data_mapFields hd _)), (Obj.cls_mapFields _ _).trans hc, (dict_mapF _ _).trans hdx, Obj.data_mapFields hd _, by simpa using hz, g1.objs.size, tb, _, by simp [hz], by omega, hT, I.hok.fresh (by omega), ?_, by rw [← htb], ?_⟩
  · have : b = e := by simpa using hb
    subst this
    exact ⟨h1, h2, oe, vs, ho, hd⟩
  · exact old b o (by simpa using hx) (by rw [so2 b hb]; exact q)
  · obtain ⟨z, q2⟩ := so.2.2 b o q
    exact ⟨z, old b _ (fun z => hene (z ▸ hb)) q2⟩
  · rw [Heap.get?_update_other _ _ (Ne.symm hT)]
    exact Heap.get?_push_size g1 (by rw [← htb]; rfl)
  · rcases hpl with rfl | ⟨_, _, _, _, _, _, _, rfl⟩ <;> simp
/-- an entry is written -/
theorem flight_x {v : Value} {fr : Option Addr} {Q : Unit → Shared → Prop} (I : Inv X pins σ H s) (W : Own X) (hpn : ∀ p ∈ X.pn ++ pins, p.1 < lo) (hlo : X.s₀.heap.objs.size ≤ lo) (x : Xo lo e C dx (some v) H s.heap)
    (hQ : ∀ h', Inv X pins σ H { s with heap := h' } → Xo lo e C dx (some (fr.elim .none fun f => rawInt f)) H h' → Q () { s with heap := h' }) : wpAny (model X.prog X.w) X.A (setFlight (.ref e) fr) Q E s := by
  obtain ⟨h1, h2, oe, vs, ho, hc, hdx, hd, hz, T, oT, ts, k1, k2, k3, k4, k5, k6, k7⟩ := x
  have hz3 : 3 < ts.size := (Array.getElem?_eq_some_iff.mp k7).1
  unfold setFlight
  refine wpAny_bind (wpAny_field ho hd k1 ?_)
  rw [if_pos (show (Value.ref T != Value.none) = true by simp)]
  refine wpAny_setField k5 k6 hz3 ?_
  have nf : T ∉ frs X.stack := fun hm => by
    obtain ⟨_, o, ho', hnf⟩ := I.stack.mem hm
    rw [k5] at ho'; cases ho'; exact hnf ts k6
  refine hQ _ (I.chg (lo := lo) (ch := [T]) (t' := s.toks) hpn hlo (fun b hb => ?_) (fun b o q hb hx => ?_) fun b o q hb => ?_) ⟨h1, h2, oe, vs, ?_, hc, hdx, hd, hz, T, _, _, k1, k2, k3, k4, Heap.get?_update_self _ k5 (Obj.isFreed_of_fields (Obj.data_mapFields k6 _)), Obj.data_mapFields k6 _, by simp [hz3]⟩
  · have : b = T := by simpa using hb
    subst this
    exact ⟨k2, k4, oT, ts, k5, k6⟩
  · rw [Heap.get?_update_other _ _ (fun z => hx (by simp [← z]))]; exact q
  · have ne : T ≠ b := fun z => nf (by rw [z]; exact hb)
    exact ⟨o.slots, by rw [Heap.get?_update_other _ _ ne]; exact q⟩
  · rw [Heap.get?_update_other _ _ k3]; exact ho
/-- the frame is noted -/
theorem note_x {fl : Option Value} {Q : Unit → Shared → Prop} (I : Inv X pins σ H s) (W : Own X) (hpn : ∀ p ∈ X.pn ++ pins, p.1 < lo) (hlo : X.s₀.heap.objs.size ≤ lo) (x : Xo lo e C dx fl H s.heap)
    (hQ : ∀ h', Inv X pins σ H { s with heap := h' } → Xo lo e C dx (some (rawInt X.env.locals)) H h' → Q () { s with heap := h' }) : wpAny (model X.prog X.w) X.A (noteFrame (.ref e) X.env) Q E s := by
  have hsz : lo ≤ s.heap.objs.size := by
    obtain ⟨h1, _, oe, _, ho, _⟩ := x
    exact Nat.le_of_lt (Nat.lt_of_le_of_lt h1 (Heap.lt_size ho))
  unfold noteFrame
  simp only [W.frm]
  cases fl with
  | none =>
    obtain ⟨h1, h2, oe, vs, ho, hc, hdx, hd, hz, h0⟩ := x
    refine wpAny_bind (wpAny_field ho hd h0 ?_)
    rw [if_neg (by decide)]
    exact entry_x I W hpn hlo h1 h2 ho hc hdx hd hz hsz hQ
  | some v =>
    obtain ⟨h1, h2, oe, vs, ho, hc, hdx, hd, hz, T, oT, ts, k1, k2, k3, k4, k5, k6, k7⟩ := id x
    refine wpAny_bind (wpAny_field ho hd k1 ?_)
    rw [if_pos (show (Value.ref T != Value.none) = true by simp)]
    refine wpAny_bind (wpAny_field k5 k6 k7 ?_)
    by_cases hv : (v == rawInt X.env.locals) = true
    · rw [if_pos hv]
      have hv2 : v = rawInt X.env.locals := by simpa using hv
      rw [hv2] at x
      exact wpAny_pure (hQ s.heap I x)
    · rw [if_neg hv]
      have hz3 : 3 < ts.size := (Array.getElem?_eq_some_iff.mp k7).1
      refine wpAny_bind (wpAny_setField k5 k6 hz3 ?_)
      have nf : T ∉ frs X.stack := fun hm => by
        obtain ⟨_, o, ho', hnf⟩ := I.stack.mem hm
        rw [k5] at ho'; cases ho'; exact hnf ts k6
      have I2 : Inv X pins σ H { s with heap := s.heap.update T (Obj.mapFields (·.setIfInBounds 3 Value.none)) } := I.chg (lo := lo) (ch := [T]) (t' := s.toks) hpn hlo (fun b hb => by
        have : b = T := by simpa using hb
        subst this
        exact ⟨k2, k4, oT, ts, k5, k6⟩) (fun b o q hb hx => by rw [Heap.get?_update_other _ _ (fun z => hx (by simp [← z]))]; exact q) (fun b o q hb => ⟨o.slots, by
          have ne : T ≠ b := fun z => nf (by rw [z]; exact hb)
          rw [Heap.get?_update_other _ _ ne]; exact q⟩)
      exact entry_x (s := { s with heap := s.heap.update T (Obj.mapFields (·.setIfInBounds 3 Value.none)) }) I2 W hpn hlo h1 h2 (by rw [Heap.get?_update_other _ _ k3]; exact ho) hc hdx hd hz (by rw [Heap.size_after_update]; exact hsz) hQ
end
end L2
namespace L2
open PySem PySem.Spec PyProof.Rows
/-! ### exceptions that leave a def -/
theorem Xo.low {lo lo' : Nat} {e C dx : Addr} {fl : Option Value} {H : Hp} {h : Heap} (hl : lo' ≤ lo) (x : Xo lo e C dx fl H h) : Xo lo' e C dx fl H h := by
  obtain ⟨h1, h2, oe, vs, ho, hc, hdx, hd, hz, r⟩ := x
  refine ⟨Nat.le_trans hl h1, h2, oe, vs, ho, hc, hdx, hd, hz, ?_⟩
  cases fl with
  | none => exact r
  | some v =>
    obtain ⟨T, oT, ts, k1, k2, k⟩ := r
    exact ⟨T, oT, ts, k1, Nat.le_trans hl k2, k⟩
/-- how an exception lies behind a call: its object, its class at C, its dict at dx -/
def CXM (P : Program) (w : World) : CXT := fun outer H s E ev s' =>
  ∃ e C dx v H', ev = .ref e ∧ s'.os = s.os ∧ AllBare s'.gens ∧ Un (frs outer) [] H H' s.heap s'.heap ∧ HOk P w H' s'.heap ∧ H' dx = some (.xd [("at", v)]) ∧ Xo s.heap.objs.size e C dx (some .none) H' s'.heap ∧ E (.ref C) (some dx) H'
/-- what is wanted of an exception while the def still runs -/
def Rz (X : Cx) (W : Addr → Addr → Hp → Prop) : Value → Shared → Prop := fun ev s' =>
  ∃ e C dx v fl lo σ H, ev = .ref e ∧ X.s₀.heap.objs.size ≤ lo ∧ Inv X [] σ H s' ∧ Xo lo e C dx fl H s'.heap ∧ H dx = some (.xd [("at", v)]) ∧ W C dx H
theorem Inv.nopins {X : Cx} {pins : List (Addr × Obj)} {σ : St} {H : Hp} {s : Shared} (I : Inv X pins σ H s) : Inv X [] σ H s := I.pins_of fun p hp => absurd hp (by simp)
section
variable {X : Cx} {W : Addr → Addr → Hp → Prop} {P : Program} {w : World}
theorem Rz.passes (O : Own X) : PassesOwn (model X.prog X.w) X.A X.env (Rz X W) := by
  rintro ev s' ⟨e, C, dx, v, fl, lo, σ, H, rfl, hlo, I, x, hdx, hW⟩
  unfold notedBy
  refine note_x I O (by rw [O.pn]; simp) hlo x fun h1 I1 x1 => ?_
  obtain ⟨h1', h2, oe, vs, ho, hc, hd', hd, hz, T, oT, ts, k1, k2, k3⟩ := id x1
  unfold cameBackBy
  refine wpAny_bind (wpAny_field ho hd k1 ?_)
  rw [if_neg (by simp)]
  rw [O.frm]
  exact flight_x (s := { s' with heap := h1 }) I1 O (by rw [O.pn]; simp) hlo x1 fun h2 I2 x2 => ⟨e, C, dx, v, _, lo, σ, H, rfl, hlo, I2, x2, hdx, hW⟩
end
/-- it leaves the def -/
theorem Rz.leave {CX : CXT} {P : Program} {w : World} {K : PySem.W.Frag} {mg : Str → Option Value} {base : Heap} {N : List Str} {qual : Str} {scope : Scope} {f : Addr} {cd : Value} {A : Around} {outer : List Env} {s : Shared} {H : Hp} {E : XK} {W : Addr → Addr → Hp → Prop} (hE : CX = CXM P w) (hw : ∀ C dx H', W C dx H' → E (.ref C) (some dx) H')
    {ev : Value} {s' : Shared} (h : Rz (cxOf CX P w K mg base N qual scope f cd A outer s H E) W ev s') : (cxOf CX P w K mg base N qual scope f cd A outer s H E).xe ev s' := by
  subst hE
  obtain ⟨e, C, dx, v, fl, lo, σ, H', rfl, hlo, I, x, hdx, hW⟩ := h
  have O : Own (cxOf (CXM P w) P w K mg base N qual scope f cd A outer s H E) := ⟨rfl, rfl, rfl⟩
  show wpAny _ _ (leaving _ _) _ _ _
  unfold leaving
  refine wpAny_bind (note_x I O (by rw [O.pn]; simp) hlo x fun h1 I1 x1 => ?_)
  refine flight_x (s := { s' with heap := h1 }) (fr := none) I1 O (by rw [O.pn]; simp) hlo x1 fun h2 I2 x2 => ?_
  exact ⟨e, C, dx, v, H', rfl, I2.os, I2.bare, I2.base, I2.hok, hdx, x2.low hlo, hw C dx H' hW⟩
end L2
namespace L2
open PySem PySem.Spec PyProof.Rows
/-! ### an own exception of the second rank, under one that has an __init__ -/
section
variable {prog : Program} {w : World} {A : Around} {E : Value → Shared → Prop} {h : Heap} {g : Array GenState} {d : Drawn} {t : Nat} {os : OsState}
variable {nm q nm1 q1 : Str} {C N C1 N1 : Addr} {bs bm bs1 bm1 : List Value} {hdct hdct1 : Bool} {sn sn1 : List Str} {sub sub1 : List Value} {ab ab1 : Bool} {col col1 : Option Bool} {dd dd1 : Option Addr} {k0 k1 k2 k3 k5 j0 j1 j2 j3 j5 : Option Value} {newId1 : String} {mN mN1 : Str → Option Value}
theorem lookup2 {name : Str} {x : Value} {Q : Option Value → Shared → Prop} (hC : h.get? C = some (excClassObj nm q C N bs (.ref C1 :: bm) hdct sn sub ab col dd k0 k1 k2 k3 k5 "ValueError.__new__")) (hn : h.Ns N mN) (h0 : mN name = none)
    (hC1 : h.get? C1 = some (excClassObj nm1 q1 C1 N1 bs1 bm1 hdct1 sn1 sub1 ab1 col1 dd1 j0 j1 j2 j3 j5 newId1)) (hn1 : h.Ns N1 mN1) (h1 : mN1 name = some x) (hq : Q (some x) ⟨h, g, d, t, os⟩) : wpAny (model prog w) A (typeLookup (.ref C) name) Q E ⟨h, g, d, t, os⟩ := by
  rw [typeLookup_eq]
  refine wpAny_bind (wpAny_mroOf_exc hC ?_)
  rw [lookupAlong_cons]
  refine wpAny_bind (wpAny_classOwn_exc hC hn ?_)
  rw [h0]
  show wpAny _ _ (lookupAlong (.ref C1 :: bm) name) _ _ _
  rw [lookupAlong_cons]
  refine wpAny_bind (wpAny_classOwn_exc hC1 hn1 ?_)
  rw [h1]
  exact wpAny_pure hq
theorem new2 {R : Result → Shared → Prop} {rest : List Value} (c1 : bm.contains (.type "ValueError") = true) (c2 : bm.contains (.type "AttributeError") = false) (c3 : bm.contains (.type "NameError") = false)
    (hC : h.get? C = some (excClassObj nm q C N bs bm hdct sn sub ab col dd k0 k1 k2 k3 k5 "ValueError.__new__"))
    (hq : R (.ok (.ret (.ref (h.objs.size + 1)))) ⟨(h.push { cls := .type "tuple", data := .seq rest.toArray }).push { cls := .ref C, data := .fields #[.ref h.objs.size, .none, .none, .none, .bool false, .none] }, g, d, t, os⟩) (hrest : rest.length ≤ sizeLine) :
    codeAny (model prog w) A (.call (.builtin "ValueError.__new__") ⟨.ref C :: rest, []⟩) R ⟨h, g, d, t, os⟩ := by
  have Fn := PySem.F.excBase_ValueError
  have e1 : (Value.ref C :: bm).contains (.type "ValueError") = true := by rw [List.contains_cons, c1, Bool.or_true]
  have e2 : (Value.ref C :: bm).contains (.type "AttributeError") = false := by rw [List.contains_cons, c2]; rfl
  have e3 : (Value.ref C :: bm).contains (.type "NameError") = false := by rw [List.contains_cons, c3]; rfl
  refine codeAny_call_builtin_code (Code.quiet_builtin _ Fn.quiet) ?_
  have hstar := Fn.noStar
  simp only [checkBuiltinCall, Fn.newKind, Fn.newSplit, Fn.newRow]
  repeat (first | refine wpAny_loadPart_at hC ?_ | (refine wpAny_isSubtype_exc hC ?_; rw [e1]) | refine wpAny_staticBase_exc hC ?_ | refine wpAny_madeBy_exc hC ?_ | simp only [bne_self_eq_false, Bool.false_eq_true, if_false] | wp_step)
  have hends := Fn.ends
  refine codeAny_builtinAt Fn.entry ?_
  unfold Builtin.«BaseException.__new__»
  refine PySem.wpAt_bind ((show PySem.wpAt _ _ _ (stack >>= _) _ _ _ from PySem.wpAt_bind (PySem.wpAt_stack fun p below => PySem.wpAt_of_wpAny ?_)))
  wp_walk
  refine PySem.wpAt_of_wpAny ?_
  rw [Fn.owner]
  repeat (first | with_reducible refine wpAny_madeHere_exc Fn.canon hC ?_ | with_reducible refine wpAny_loadPart_at hC ?_ | (with_reducible refine wpAny_isSubtype_exc hC ?_; first | rw [e1] | rw [e2] | rw [e3]) | wp_step)
  refine (show R _ _ from ?_)
  rw [Heap.size_push]
  exact hq
theorem made2 {Q : Value → Shared → Prop} {rest : List Value} {fI : Addr} {oI : Obj} (c1 : (Value.ref C1 :: bm).contains (.type "ValueError") = true) (c2 : (Value.ref C1 :: bm).contains (.type "AttributeError") = false) (c3 : (Value.ref C1 :: bm).contains (.type "NameError") = false)
    (hC : h.get? C = some (excClassObj nm q C N bs (.ref C1 :: bm) hdct sn sub ab col dd k0 k1 k2 k3 k5 "ValueError.__new__")) (hn : h.Ns N mN) (h0 : mN "__init__" = none)
    (hC1 : h.get? C1 = some (excClassObj nm1 q1 C1 N1 bs1 bm1 hdct1 sn1 sub1 ab1 col1 dd1 j0 j1 j2 j3 j5 newId1)) (hn1 : h.Ns N1 mN1) (h1 : mN1 "__init__" = some (.ref fI)) (hfI : h.get? fI = some oI) (hfc : oI.cls = .type "function")
    (hq : ∀ h' e, Heap.MadeExcOf h h' e (.ref C) rest → e = h.objs.size + 1 → wpAny (model prog w) (A.under (.builtin "type.__call__" ⟨.ref C :: rest, []⟩)) (call (.ref fI) (.ref e :: rest)) (fun r s' => r = .none ∧ Q (.ref e) s') E ⟨h', g, d, t, os⟩) (hrest : rest.length ≤ sizeLine) :
    wpAny (model prog w) A (call (.ref C) rest) Q E ⟨h, g, d, t, os⟩ := by
  have f1 := tc_lookup
  have f2 := tc_bind (.ref C)
  have hT : (⟨h, g, d, t, os⟩ : Shared).TypeIs (.ref C) "type" := ⟨_, hC, rfl⟩
  refine wpAny_call (codeAny_of_tree (show wpAny _ _ (callAny (.ref C) _) _ _ _ from ?_))
  repeat (any_goals (first | assumption | with_reducible refine wpAny_loadPart_at hC ?_ | wp_step))
  refine ⟨rfl, codeAny_call_builtin_at (Code.quiet_builtin _ (by decide +kernel)) entry_typeCall (wpAny_check_type_call_sub hC ?_)⟩
  repeat (first | with_reducible refine wpAny_loadPart_at hC ?_ | with_reducible refine wpAny_madeBy_exc hC ?_ | wp_step)
  refine new2 c1 c2 c3 hC (show wpAny _ _ _ _ _ _ from ?_) hrest
  have K : ∀ b o, h.get? b = some o → ((h.push { cls := .type "tuple", data := .seq rest.toArray }).push { cls := .ref C, data := .fields #[.ref h.objs.size, .none, .none, .none, .bool false, .none] }).get? b = some o := fun b o q => Heap.get?_push_of_some _ (Heap.get?_push_of_some _ q)
  have kn : ∀ {a : Addr} {m : Str → Option Value}, h.Ns a m → ((h.push { cls := .type "tuple", data := .seq rest.toArray }).push { cls := .ref C, data := .fields #[.ref h.objs.size, .none, .none, .none, .bool false, .none] }).Ns a m := fun x => let ⟨o, es, ep, e, r⟩ := x; ⟨o, es, ep, K _ _ e, r⟩
  have hget : ((h.push { cls := .type "tuple", data := .seq rest.toArray }).push { cls := .ref C, data := .fields #[.ref h.objs.size, .none, .none, .none, .bool false, .none] }).get? (h.objs.size + 1) = some { cls := .ref C, data := .fields #[.ref h.objs.size, .none, .none, .none, .bool false, .none] } := by heap_get
  have hme : Heap.MadeExcOf h ((h.push { cls := .type "tuple", data := .seq rest.toArray }).push { cls := .ref C, data := .fields #[.ref h.objs.size, .none, .none, .none, .bool false, .none] }) (h.objs.size + 1) (.ref C) rest :=
    ⟨K, Heap.get?_none_of_le (Nat.le_succ _), h.objs.size, hget, Heap.get?_none_of_le (Nat.le_refl _), Heap.get?_push_of_some _ (Heap.get?_push_at rfl rfl)⟩
  have hcC : (Value.ref C :: Value.ref C1 :: bm).contains (.ref C) = true := by simp
  have hC2 := K _ _ hC
  unfold isInstance
  repeat (first | with_reducible refine wpAny_loadPart_at hget ?_ | (refine wpAny_isSubtype_exc hC2 ?_; rw [hcC]) | wp_step)
  refine (show wpAny _ _ (typeLookup (.ref C) _) _ _ _ from lookup2 hC2 (kn hn) h0 (K _ _ hC1) (kn hn1) h1 ?_)
  refine wpAny_holding (wpAny_bind ?_)
  unfold bindSpecial
  refine wpAny_bind (wpAny_typeOf (T := "function") ⟨_, K _ _ hfI, hfc⟩ ?_)
  rw [if_pos (by decide)]
  refine wpAny_pure (wpAny_bind (wpAny_mono (hq _ (h.objs.size + 1) hme rfl) (fun r s' hr => ?_) fun _ _ x => x))
  obtain ⟨rfl, hQ⟩ := hr
  wp_walk
  exact hQ
end
end L2
set_option maxHeartbeats 0
namespace L2
open PySem PySem.Spec PyProof.Rows
/-! ### what stands in its __init__ -/
section
variable {prog : Program} {w : World} {A : Around} {E : Value → Shared → Prop} {h : Heap} {g : Array GenState} {d : Drawn} {t : Nat} {os : OsState}
variable {nm q : Str} {C N C1 N1 : Addr} {bs bm : List Value} {hdct : Bool} {sn : List Str} {sub : List Value} {ab : Bool} {col : Option Bool} {dd : Option Addr} {k0 k1 k2 k3 k5 : Option Value} {newId : String} {mN mN1 : Str → Option Value}
/-- ValueError.__init__(self, x) -/
theorem base_init {R : Result → Shared → Prop} {e tt : Addr} {oe : Obj} {u : Value} (c1 : bm.contains (.type "ValueError") = true) (hC : h.get? C = some (excClassObj nm q C N bs bm hdct sn sub ab col dd k0 k1 k2 k3 k5 newId))
    (he : h.get? e = some { cls := .ref C, data := .fields #[.ref tt, .none, .none, .none, .bool false, .none] })
    (hq : R (.ok (.ret .none)) ⟨(h.push { cls := .type "tuple", data := .seq #[u] }).update e (Obj.mapFields (·.setIfInBounds 0 (.ref h.objs.size))), g, d, t, os⟩) :
    codeAny (model prog w) A (.call (.builtin "ValueError.__init__") ⟨[.ref e, u], []⟩) R ⟨h, g, d, t, os⟩ := by
  have F := PySem.F.excBase_ValueError
  have e1 : (Value.ref C :: bm).contains (.type "ValueError") = true := by rw [List.contains_cons, c1, Bool.or_true]
  refine codeAny_call_builtin (by first | exact F.init.plain | decide +kernel) F.initEntry ?_
  have hshort := F.noStar
  simp only [checkBuiltinCall, F.initKind, F.initSplit, F.initRow]
  repeat (first | with_reducible refine wpAny_loadPart_at he ?_ | with_reducible refine wpAny_loadPart_at hC ?_ | (refine wpAny_isSubtype_exc hC ?_; rw [e1]) | wp_step)
  exact hq
/-- the classes as they lie: C under C1 under ValueError -/
structure Two (h : Heap) (C C1 fI : Addr) : Prop where
  c : ∃ nm q N bs sn sub ab col dd k0 k1 k2 k3 k5 mN, h.get? C = some (excClassObj nm q C N bs [.ref C1, .type "ValueError", .type "Exception", .type "BaseException", .type "object"] true sn sub ab col dd k0 k1 k2 k3 k5 "ValueError.__new__") ∧ h.Ns N mN ∧ ∀ x : Str, x ∈ ([("__init__" : Str), "at", "__setattr__", "__getattribute__", "__getattr__", "__class__"] : List Str) → mN x = none
  c1 : ∃ nm q N bs bm hd sn sub ab col dd k0 k1 k2 k3 k5 nid mN, h.get? C1 = some (excClassObj nm q C1 N bs bm hd sn sub ab col dd k0 k1 k2 k3 k5 nid) ∧ h.Ns N mN ∧ mN "__init__" = some (.ref fI) ∧ ∀ x : Str, x ∈ ([("at" : Str), "__setattr__", "__getattribute__", "__getattr__", "__class__"] : List Str) → mN x = none
  f : ∃ oI, h.get? fI = some oI ∧ oI.cls = .type "function"
theorem lookupN {fI : Addr} {name : Str} {y : Option Value} {Q : Option Value → Shared → Prop} (T : Two h C C1 fI) (hm : name ∈ ([("at" : Str), "__setattr__", "__getattribute__", "__getattr__", "__class__"] : List Str)) (hB : typeLookup (.type "ValueError") name = pure y) (hq : Q y ⟨h, g, d, t, os⟩) :
    wpAny (model prog w) A (typeLookup (.ref C) name) Q E ⟨h, g, d, t, os⟩ := by
  obtain ⟨nm, q, N, bs, sn, sub, ab, col, dd, k0, k1, k2, k3, k5, mN, h1, h2, h3⟩ := T.c
  obtain ⟨nm', q', N', bs', bm', hd', sn', sub', ab', col', dd', k0', k1', k2', k3', k5', nid, mN', g1, g2, g3, g4⟩ := T.c1
  have hm2 : mroOf (.type "ValueError") = pure [.type "ValueError", .type "Exception", .type "BaseException", .type "object"] := PySem.F.store_ValueError.mro
  have hr : lookupAlong [.type "ValueError", .type "Exception", .type "BaseException", .type "object"] name = pure y := by rw [typeLookup_eq, hm2] at hB; exact hB
  rw [typeLookup_eq]
  refine wpAny_bind (wpAny_mroOf_exc h1 ?_)
  rw [lookupAlong_cons]
  refine wpAny_bind (wpAny_classOwn_exc h1 h2 ?_)
  rw [h3 name (List.mem_cons_of_mem _ hm)]
  refine (show wpAny _ _ (lookupAlong (.ref C1 :: _) name) _ _ _ from ?_)
  rw [lookupAlong_cons]
  refine wpAny_bind (wpAny_classOwn_exc g1 g2 ?_)
  rw [g4 name hm]
  refine (show wpAny _ _ (lookupAlong [.type "ValueError", .type "Exception", .type "BaseException", .type "object"] name) _ _ _ from ?_)
  rw [hr]
  exact wpAny_pure hq
theorem at_none : typeLookup (.type "ValueError") "at" = pure none := by rw [typeLookup_type, builtinLookup_eq_fast]; kernel_rfl
/-- the store itself -/
theorem store2_body {fI x : Addr} {o : Obj} {v : Value} {tk0 : Tok} {vs : Array Value} {Q : Unit → Shared → Prop} (T : Two h C C1 fI) (hx : h.get? x = some o) (hc : o.cls = .ref C) (hfd : o.data = .fields vs) (hdn : o.dict = none)
    (hq : ∀ h' tk, h'.get? x = some { o with dict := some h.objs.size } → h'.Ns1 h.objs.size (fun y => if y = "at" then some v else none) → (∀ b ob, b ≠ x → h.get? b = some ob → h'.get? b = some ob) → Q () ⟨h', g, d, tk, os⟩) :
    wpAny (model prog w) A (Builtin.«object.__setattr__» ⟨[.ref x, .str "at" tk0, v], []⟩) (fun fin s' => fin = .done (.ret .none) ∧ Q () s') E ⟨h, g, d, t, os⟩ := by
  have SF := PySem.F.store_ValueError
  have hpass := SF.passes (.ref x)
  obtain ⟨nm, q, N, bs, sn, sub, ab, col, dd, k0, k1, k2, k3, k5, mN, hC, hN, _⟩ := id T.c
  unfold Builtin.«object.__setattr__»
  repeat (first | rw [refuse_eq] | (rw [refuseLoop_ref, refuseLoop_ref, hpass]) | (with_reducible refine wpAny_loadPart_at hx ?_; rw [hc]) | with_reducible refine wpAny_mroOf_exc hC ?_ | (with_reducible refine lookupN T (by decide) at_none ?_) | wp_step)
  have hif : ¬ ((!true || !typeHasDict (Value.ref C)) = true) := by simp [typeHasDict]
  simp only [hdn, hfd]
  rw [if_neg hif]
  · have hx1 : (h.push { cls := .type "dict", data := .dict #[] }).get? x = some o := Heap.get?_push_of_some _ hx
    have hxs : x ≠ h.objs.size := Nat.ne_of_lt (Heap.lt_size hx)
    refine wpAny_bind (wpAny_alloc' (wpAny_bind (wpAny_update' hx1 ?_)))
    refine wpAny_pure ?_
    generalize hG : ((h.push { cls := .type "dict", data := .dict #[] }).update x fun o => { cls := o.cls, dict := some h.objs.size, data := o.data, slots := o.slots }) = G
    have hgd : G.get? h.objs.size = some { cls := .type "dict", data := .dict #[] } := by rw [← hG]; exact (Heap.get?_update_ne _ _ _ _ hxs.symm).trans (Heap.get?_push_at rfl rfl)
    have hnd : G.Ns h.objs.size (fun _ => none) := ⟨_, #[], _, hgd, rfl, fun e he => absurd he (by simp), fun _ => rfl⟩
    refine (show wpAny _ _ (Builtin.ObjectAttr.storeInDict h.objs.size (.str "at" tk0) "at" v) _ _ _ from ?_)
    unfold Builtin.ObjectAttr.storeInDict Builtin.ObjectAttr.newKeyGuard
    refine wpAny_bind (wpAny_pure (wpAny_bind (wpAny_nsSet1 (Heap.Ns1.of_empty hnd) fun h' hn' hs => ?_)))
    obtain ⟨oD, esD, epD, hoD, hdD, hcD⟩ := hn'.count (Within.cons "at" v Within.nil)
    refine wpAny_bind (wpAny_lookBehind hoD (by rw [hdD]; exact pastItsLine_dict (Nat.le_trans hcD (by rw [List.length_cons, List.length_nil, sizeLine_eq]; omega))) ?_)
    wp_walk
    refine ⟨rfl, hq h' _ ?_ hn' fun b ob hb q => ?_⟩
    · refine (hs.2 x hxs).trans ?_
      rw [← hG]
      refine Heap.get?_update_self _ hx1 ?_
      have hfr := (Heap.get?_some_iff.mp hx).2
      obtain ⟨oc, od, odt, osl⟩ := o
      cases odt <;> first | rfl | exact hfr
    · refine (hs.2 b (Nat.ne_of_lt (Heap.lt_size q))).trans ?_
      rw [← hG]
      exact (Heap.get?_update_ne _ _ _ _ hb).trans (Heap.get?_push_of_some _ q)
end
end L2
set_option maxHeartbeats 0
namespace L2
open PySem PySem.Spec PyProof.Rows
section
variable {prog : Program} {w : World} {A : Around} {E : Value → Shared → Prop} {h : Heap} {g : Array GenState} {d : Drawn} {t : Nat} {os : OsState} {C C1 fI : Addr}
theorem check2 {x : Addr} {o : Obj} {v : Value} {tk0 : Tok} {Q : Unit → Shared → Prop} (T : Two h C C1 fI) (hx : h.get? x = some o) (hc : o.cls = .ref C) (hq : Q () ⟨h, g, d, t, os⟩) :
    wpAny (model prog w) A (checkBuiltinCall "object.__setattr__" ⟨[.ref x, .str "at" tk0, v], []⟩) Q E ⟨h, g, d, t, os⟩ := by
  have SF := PySem.F.store_ValueError
  obtain ⟨nm, q, N, bs, sn, sub, ab, col, dd, k0, k1, k2, k3, k5, mN, hC, hN, _⟩ := id T.c
  have hco : (Value.ref C :: [Value.ref C1, .type "ValueError", .type "Exception", .type "BaseException", .type "object"]).contains (.type "object") = true := by simp
  have ha := SF.args (.ref x) (.str "at" tk0) v
  simp only [checkBuiltinCall, SF.kind, SF.split]
  refine wpAny_bind ?_
  unfold isInstance
  repeat (first | (with_reducible refine wpAny_loadPart_at hx ?_; rw [hc]) | (refine wpAny_isSubtype_exc hC ?_; rw [hco]) | wp_step)
  exact hq
theorem store2 {x : Addr} {o : Obj} {v : Value} {vs : Array Value} {Q : Unit → Shared → Prop} (T : Two h C C1 fI) (hx : h.get? x = some o) (hc : o.cls = .ref C) (hfd : o.data = .fields vs) (hdn : o.dict = none)
    (hq : ∀ h' tk, h'.get? x = some { o with dict := some h.objs.size } → h'.Ns1 h.objs.size (fun y => if y = "at" then some v else none) → (∀ b ob, b ≠ x → h.get? b = some ob → h'.get? b = some ob) → Q () ⟨h', g, d, tk, os⟩) :
    wpAny (model prog w) A (setAttr (.ref x) "at" v) Q E ⟨h, g, d, t, os⟩ := by
  have SF := PySem.F.store_ValueError
  have f3 := SF.slot.bind (.ref x)
  unfold setAttr callSpecial? specialOf
  repeat (any_goals (first | assumption | (with_reducible refine wpAny_loadPart_at hx ?_; rw [hc]) | (with_reducible refine lookupN T (by decide) SF.slot.lookup ?_) | wp_step))
  refine codeAny_call_builtin SF.slot.plain SF.entry (check2 T hx hc ?_)
  refine wpAny_mono (store2_body (E := fun _ _ => False) T hx hc hfd hdn hq) (fun fin s' hr => ?_) fun _ _ x => False.elim x
  obtain ⟨rfl, hQ⟩ := hr
  exact wpAny_pure (wpAny_pure hQ)
end
end L2
set_option maxHeartbeats 0
namespace L2
open PySem PySem.Spec PyProof.Rows
section
variable {prog : Program} {w : World} {A : Around} {E : Value → Shared → Prop} {h : Heap} {g : Array GenState} {d : Drawn} {t : Nat} {os : OsState} {C C1 fI : Addr}
theorem load2_body {x dx : Addr} {o : Obj} {v : Value} {vs : Array Value} {tk : Tok} {mA : Str → Option Value} {Q : Fin → Shared → Prop} (T : Two h C C1 fI) (hx : h.get? x = some o) (hc : o.cls = .ref C) (hfd : o.data = .fields vs) (hdx : o.dict = some dx) (hns : h.Ns1 dx mA) (hv : mA "at" = some v)
    (hq : Q (.done (.ret v)) ⟨h, g, d, t, os⟩) : wpAny (model prog w) A (Builtin.«object.__getattribute__» ⟨[.ref x, .str "at" tk], []⟩) Q E ⟨h, g, d, t, os⟩ := by
  obtain ⟨nm, q, N, bs, sn, sub, ab, col, dd, k0, k1, k2, k3, k5, mN, hC, hN, _⟩ := id T.c
  unfold Builtin.«object.__getattribute__»
  repeat (any_goals (first | assumption | (with_reducible refine wpAny_loadPart_at hx ?_; rw [hc]) | (with_reducible refine lookupN T (by decide) at_none ?_) | wp_step))
  simp only [hfd]
  unfold instanceDict Builtin.ObjectAttr.inDict
  repeat (first | (with_reducible refine wpAny_loadPart_at hx ?_; rw [hc]) | with_reducible refine wpAny_loadPart_at hC ?_ | wp_step)
  rw [hdx]
  repeat (first | (with_reducible refine wpAny_nsGet hns.ns ?_; rw [hv]) | wp_step)
  exact hq
theorem checkG {x : Addr} {o : Obj} {tk0 : Tok} {Q : Unit → Shared → Prop} (T : Two h C C1 fI) (hx : h.get? x = some o) (hc : o.cls = .ref C) (hq : Q () ⟨h, g, d, t, os⟩) :
    wpAny (model prog w) A (checkBuiltinCall "BaseException.__getattribute__" ⟨[.ref x, .str "at" tk0], []⟩) Q E ⟨h, g, d, t, os⟩ := by
  obtain ⟨nm, q, N, bs, sn, sub, ab, col, dd, k0, k1, k2, k3, k5, mN, hC, hN, _⟩ := id T.c
  have hk : builtinKind "BaseException.__getattribute__" = some .slot := by decide +kernel
  have hsplit : splitId "BaseException.__getattribute__" = some ("BaseException", "__getattribute__") := by decide +kernel
  have hco : (Value.ref C :: [Value.ref C1, .type "ValueError", .type "Exception", .type "BaseException", .type "object"]).contains (.type "BaseException") = true := by simp
  have ha := PySem.F.args_bexc_ga (.ref x) (.str "at" tk0)
  simp only [checkBuiltinCall, hk, hsplit]
  refine wpAny_bind ?_
  unfold isInstance
  repeat (first | (with_reducible refine wpAny_loadPart_at hx ?_; rw [hc]) | (refine wpAny_isSubtype_exc hC ?_; rw [hco]) | wp_step)
  exact hq
/-- e.at -/
theorem load2 {x dx : Addr} {o : Obj} {v : Value} {vs : Array Value} {mA : Str → Option Value} {expr : Bool} {Q : Value → Shared → Prop} (T : Two h C C1 fI) (hx : h.get? x = some o) (hc : o.cls = .ref C) (hfd : o.data = .fields vs) (hdx : o.dict = some dx) (hns : h.Ns1 dx mA) (hv : mA "at" = some v)
    (hh : handedOut v = pure v) (hq : ∀ tk, Q v ⟨h, g, d, tk, os⟩) : wpAny (model prog w) A (getAttr (.ref x) "at" expr) Q E ⟨h, g, d, t, os⟩ := by
  have FB := PySem.F.attrBase_ValueError
  have f3 := FB.ga.bind (.ref x)
  have hx0 : (expr && onTheHeap (Value.builtin "BaseException.__getattribute__")) = false := by cases expr <;> rfl
  have hx2 : (Value.builtin "BaseException.__getattribute__" == Value.builtin "object.__getattribute__") = false := by decide +kernel
  have hx1 : (onTheHeap (Value.ref C) && Value.builtin "BaseException.__getattribute__" == Value.builtin "object.__getattribute__") = false := by rw [hx2]; rfl
  unfold getAttr getAttrBy
  repeat (any_goals (first | assumption | (with_reducible refine wpAny_loadPart_at hx ?_; rw [hc]) | (with_reducible refine lookupN T (by decide) FB.ga.lookup ?_) | (with_reducible refine lookupN T (by decide) FB.noGetattr ?_) | wp_step))
  refine codeAny_call_builtin FB.ga.plain PySem.F.entry_bexc_ga (checkG T hx hc (load2_body T hx hc hfd hdx hns hv ?_))
  refine (show wpAny _ _ (handedOut v) _ _ _ from ?_)
  rw [hh]
  exact wpAny_pure (hq _)
end
end L2
set_option maxHeartbeats 0
namespace L2
open PySem PySem.Spec PyProof.Rows
section
variable {prog : Program} {w : World} {A : Around} {E : Value → Shared → Prop} {h : Heap} {g : Array GenState} {d : Drawn} {t : Nat} {os : OsState} {C C1 fI : Addr}
theorem lk_ve_class : typeLookup (.type "ValueError") "__class__" = pure (some (.builtin "object.__class__")) := by rw [typeLookup_type, builtinLookup_eq_fast]; kernel_rfl
theorem cls2_get {x : Addr} {o : Obj} {R : Result → Shared → Prop} (T : Two h C C1 fI) (hx : h.get? x = some o) (hc : o.cls = .ref C) (hq : R (.ok (.ret (.ref C))) ⟨h, g, d, t, os⟩) :
    codeAny (model prog w) A (.call (.builtin "getset_descriptor.__get__") ⟨[.builtin "object.__class__", .ref x, .ref C], []⟩) R ⟨h, g, d, t, os⟩ := by
  obtain ⟨nm, q, N, bs, sn, sub, ab, col, dd, k0, k1, k2, k3, k5, mN, hC, hN, _⟩ := id T.c
  have hT5 : (⟨h, g, d, t, os⟩ : Shared).TypeIs (.builtin "object.__class__") "getset_descriptor" := PySem.F.typeOf_object_class
  have hco : (Value.ref C :: [Value.ref C1, .type "ValueError", .type "Exception", .type "BaseException", .type "object"]).contains (.type (".".intercalate ("object.__class__".cutAt '.').dropLast)) = true := by
    rw [PySem.F.owner_object_class]; simp
  refine codeAny_call_builtin PySem.F.slot_gs_get.plain PySem.F.entry_gs_get (PySem.F.slot_gs_get.check _ _ _ _ _ _ _ _ hT5 (PySem.F.args_gs_get _ _ _) ?_)
  repeat (any_goals (first | assumption | (with_reducible refine wpAny_loadPart_at hx ?_; rw [hc]) | (refine wpAny_isSubtype_exc hC ?_; rw [hco]) | wp_step))
  refine ⟨Code.quiet_builtin _ (by decide +kernel), codeAny_builtin PySem.F.entry_object_class ?_⟩
  repeat (any_goals (first | assumption | (with_reducible refine wpAny_loadPart_at hx ?_; rw [hc]) | wp_step))
theorem cls2_body {x : Addr} {o : Obj} {tk : Tok} {Q : Fin → Shared → Prop} (T : Two h C C1 fI) (hx : h.get? x = some o) (hc : o.cls = .ref C) (hq : Q (.done (.ret (.ref C))) ⟨h, g, d, t, os⟩) :
    wpAny (model prog w) A (Builtin.«object.__getattribute__» ⟨[.ref x, .str "__class__" tk], []⟩) Q E ⟨h, g, d, t, os⟩ := by
  obtain ⟨nm, q, N, bs, sn, sub, ab, col, dd, k0, k1, k2, k3, k5, mN, hC, hN, _⟩ := id T.c
  have hT5 : (⟨h, g, d, t, os⟩ : Shared).TypeIs (.builtin "object.__class__") "getset_descriptor" := PySem.F.typeOf_object_class
  have f5 := PySem.F.typeOf_object_class
  have f6 := PySem.F.slot_gs_get.lookup
  have f7 := PySem.F.slot_gs_set.lookup
  repeat (any_goals (first | assumption | (with_reducible refine wpAny_loadPart_at hx ?_; rw [hc]) | (with_reducible refine lookupN T (by decide) lk_ve_class ?_) | wp_step))
  refine cls2_get T hx hc ?_
  repeat (any_goals (first | assumption | wp_step))
theorem cls2_check {x : Addr} {o : Obj} {nv : Value} {Q : Unit → Shared → Prop} (T : Two h C C1 fI) (hx : h.get? x = some o) (hc : o.cls = .ref C) (hq : Q () ⟨h, g, d, t, os⟩) :
    wpAny (model prog w) A (checkBuiltinCall "BaseException.__getattribute__" ⟨[.ref x, nv], []⟩) Q E ⟨h, g, d, t, os⟩ := by
  obtain ⟨nm, q, N, bs, sn, sub, ab, col, dd, k0, k1, k2, k3, k5, mN, hC, hN, _⟩ := id T.c
  have hk : builtinKind "BaseException.__getattribute__" = some .slot := by decide +kernel
  have hsplit : splitId "BaseException.__getattribute__" = some ("BaseException", "__getattribute__") := by decide +kernel
  have hco : (Value.ref C :: [Value.ref C1, .type "ValueError", .type "Exception", .type "BaseException", .type "object"]).contains (.type "BaseException") = true := by simp
  have ha := PySem.F.args_bexc_ga (.ref x) nv
  simp only [checkBuiltinCall, hk, hsplit]
  refine wpAny_bind ?_
  unfold isInstance
  repeat (first | (with_reducible refine wpAny_loadPart_at hx ?_; rw [hc]) | (refine wpAny_isSubtype_exc hC ?_; rw [hco]) | wp_step)
  exact hq
theorem cls2_by {x : Addr} {o : Obj} {tk : Tok} {Q : Value → Shared → Prop} (T : Two h C C1 fI) (hx : h.get? x = some o) (hc : o.cls = .ref C) (hq : Q (.ref C) ⟨h, g, d, t, os⟩) : wpAny (model prog w) A (getAttrBy (.ref x) (.str "__class__" tk) false) Q E ⟨h, g, d, t, os⟩ := by
  have FB := PySem.F.attrBase_ValueError
  have f3 := FB.ga.bind (.ref x)
  have hx2 : (Value.builtin "BaseException.__getattribute__" == Value.builtin "object.__getattribute__") = false := by decide +kernel
  have hx1 : (onTheHeap (Value.ref C) && Value.builtin "BaseException.__getattribute__" == Value.builtin "object.__getattribute__") = false := by rw [hx2]; rfl
  repeat (any_goals (first | assumption | (with_reducible refine wpAny_loadPart_at hx ?_; rw [hc]) | (with_reducible refine lookupN T (by decide) FB.ga.lookup ?_) | (with_reducible refine lookupN T (by decide) FB.noGetattr ?_) | wp_step))
  refine codeAny_call_builtin FB.ga.plain PySem.F.entry_bexc_ga (cls2_check T hx hc (cls2_body T hx hc ?_))
  repeat (any_goals (first | assumption | wp_step))
theorem cls2 {x : Addr} {o : Obj} {Q : Option Value → Shared → Prop} (T : Two h C C1 fI) (hx : h.get? x = some o) (hc : o.cls = .ref C) (hq : Q (some (.ref C)) ⟨h, g, d, t + 1, os⟩) : wpAny (model prog w) A (getAttr? (.ref x) "__class__") Q E ⟨h, g, d, t, os⟩ := by
  unfold getAttr? getAttrBy?
  repeat (any_goals (first | assumption | with_reducible apply cls2_by T hx hc | wp_step))
end
end L2
set_option maxHeartbeats 0
namespace L2
open PySem PySem.Spec PyProof.Rows
/-! ### the steps of an exception's __init__ -/
def tFs (te : TE) : TE := fun σ H Q => te σ H fun y H1 => ∃ n : Int, y = .int n ∧ n.natAbs.log2 < 1920 ∧ ∀ z, Q (.str z) H1
/-- an exception that was made, and one that has its attribute -/
def Ex0 (e C tt : Addr) (h : Heap) : Prop := h.get? e = some { cls := .ref C, data := .fields #[.ref tt, .none, .none, .none, .bool false, .none] }
def Ex1 (e C dx : Addr) (h : Heap) : Prop := ∃ tt, h.get? e = some { cls := .ref C, dict := some dx, data := .fields #[.ref tt, .none, .none, .none, .bool false, .none] }
section
variable {X : Cx} {e : Expr} {te : TE} {p pos p1 p2 p3 : Pos} {x : Str} {j : Nat} {pins : List (Addr × Obj)} {σ : St} {H : Hp} {s : Shared}
theorem pe_fstr (he : PE X e te) : PE X (.JoinedStr [.Constant (.str "refused at ") j p1, .FormattedValue e (-1) none p2] p3) (tFs te) := by
  intro pins s σ H Q I h
  refine JoinedStr_many (joinParts_cons ?_)
  refine thn (pe_str pins s σ H (fun v H1 => v = .str "refused at " ∧ H1 = H) I ⟨rfl, rfl⟩) fun v s1 ⟨y, H1, I1, ry, e1, e2⟩ => ?_
  subst e1; subst e2
  obtain ⟨t, rfl⟩ := (show ∃ t, v = Value.str "refused at " t from ry)
  have h0 : (Str.empty ++ ("refused at " : Str)).length = 11 := by decide
  refine ⟨by rw [h0, sizeLine_eq]; omega, joinParts_cons (FormattedValue_plain (thn (he pins s1 σ H1 _ I1 h) fun u s2 ⟨y2, H2, I2, r2, n, e3, hn, q⟩ => ?_))⟩
  subst e3
  obtain ⟨t2, rfl⟩ := (show ∃ t, u = Value.int n t from r2)
  have hl := int_text_len_1921 hn
  have h2 : (Str.empty ++ ("refused at " : Str) ++ Str.ofString (toString n)).length ≤ sizeLine := by rw [strLen_append, h0, sizeLine_eq]; omega
  exact formatField_int_small hn ⟨h2, joinParts_nil ⟨.str _, H2, (I2.tok _), ⟨_, rfl⟩, q _⟩ h2⟩
theorem ve_find (K : PySem.W.Frag) : PySem.W.findCls K (.type "ValueError") (.type "type") "__init__" = some (.val (.builtin "ValueError.__init__")) := by rfl
theorem gm_ve {pl : Sem Bool} {Q : Value × List Value → Shared → Prop} (I : Inv X pins σ H s) (h : Q (.builtin "ValueError.__init__", []) { s with toks := s.toks + 1 }) : wpAny (model X.prog X.w) X.A (getMethod (.type "ValueError") "__init__" pl) Q X.xe s := by
  obtain ⟨m, F⟩ := I.fr
  exact PySem.W.method_type F I.mod.kin (PySem.W.kitMeta_of (by decide +kernel)) (by decide +kernel) (ve_find X.K) (by rfl) h
/-- an object that is known by what is true of it is written, and others are laid -/
theorem Inv.ext2 {a dx : Addr} {φ φ' : Heap → Prop} {o2 : HO} {h' : Heap} {t' : Nat} (I : Inv X pins σ H s) (ha : H a = some (.ext φ)) (k : ∀ b u, b ≠ a → s.heap.get? b = some u → h'.get? b = some u) (new : φ' h') (hex : ∃ u, h'.get? a = some u) (st : ∀ h1 h2 : Heap, φ' h1 → (∀ o, h1.get? a = some o → h2.get? a = some o) → φ' h2) :
    Inv X pins σ (upd H a (.ext φ')) { s with heap := h', toks := t' } :=
  I.write (x := a) (e := a) (by rw [ha]; trivial) (.inl rfl) k hex ⟨new, hex, st⟩
theorem Ex0.ok {a C tt : Addr} {h : Heap} (x : Ex0 a C tt h) : (∃ u, h.get? a = some u) ∧ ∀ h1 h2 : Heap, Ex0 a C tt h1 → (∀ o, h1.get? a = some o → h2.get? a = some o) → Ex0 a C tt h2 := ⟨⟨_, x⟩, fun h1 h2 y k => k _ y⟩
theorem Ex1.ok {a C dx : Addr} {h : Heap} (x : Ex1 a C dx h) : (∃ u, h.get? a = some u) ∧ ∀ h1 h2 : Heap, Ex1 a C dx h1 → (∀ o, h1.get? a = some o → h2.get? a = some o) → Ex1 a C dx h2 :=
  let ⟨tt, y⟩ := x; ⟨⟨_, y⟩, fun h1 h2 ⟨t2, z⟩ k => ⟨t2, k _ z⟩⟩
theorem vals_two {x y : V} {us : List Value} (r : Vals [x, y] us) : ∃ u v, us = [u, v] ∧ RelV x u ∧ RelV y v := by
  cases r with
  | cons w1 r2 =>
    cases r2 with
    | cons w2 r3 =>
      cases r3
      exact ⟨_, _, rfl, w1, w2⟩
def tInit (C : Addr) (t : TA) : TE := fun σ H Q => t σ H fun vs H1 => ∃ a tt z, vs = [.ref a, .str z] ∧ H1 a = some (.ext (Ex0 a C tt)) ∧ ∀ t2, Q .non (upd H1 a (.ext (Ex0 a C t2)))
/-- ValueError.__init__(self, text) -/
theorem pe_base {C C1 fI : Addr} {a : Expr} {t : TA} {pl : Sem Bool} (hT : ∀ h, X.K.In h → Two h C C1 fI) (hg : Gl X "ValueError") (hm : X.mg "ValueError" = none) (pa : PA X [a, e] t)
    (hst : starEach [a, e] X.env = (false, eval a X.env) :: starEach [e] X.env := by rfl) (hpl : (backTo pos (starEach [e] X.env)).any (·.1) = false := by rfl)
    (ht : eval (.Call (.Attribute (.Name "ValueError" p1) "__init__" p2) [a, e] [] pos) X.env = (do
      let ov ← eval (.Name "ValueError" p1) X.env
      standAt p2.atName
      let (f, first) ← holding [ov] (getMethod ov "__init__" pl)
      callWith pos f first (backTo pos (starEach [a, e] X.env)) (backToKw pos (keywordEach [] X.env))) := by rfl) :
    PE X (.Call (.Attribute (.Name "ValueError" p1) "__init__" p2) [a, e] [] pos) (tInit C t) := by
  intro pins s σ H Q I h
  refine PySem.W.methodCall_KW (pl := pl) (ld_blt I hg hm PyProof.Rows.Boot.«ValueError» ?_) ht
  refine gm_ve I ?_
  refine PyProof.Rows.callWith_builtin1 (thn (pa pos pins _ σ H _ (I.tok _) h) fun us s1 ⟨vs, H1, I1, r1, q1⟩ => ?_) hst hpl
  obtain ⟨a', tt, z, rfl, hx, q⟩ := q1
  obtain ⟨u1, u2, rfl, w1, w2⟩ := vals_two r1
  cases (show _ = Value.ref a' from w1)
  obtain ⟨nm, q', N, bs, sn, sub, ab, col, dd, k0, k1, k2, k3, k5, mN, hC, hN, _⟩ := (hT s1.heap I1.kIn).c
  have he : Ex0 a' C tt s1.heap := (show ObjOk X.prog X.w H1 s1.heap a' (.ext _) from I1.hok a' _ hx).1
  obtain ⟨hp, g, d, tk, os⟩ := s1
  refine wpAny_call (base_init (oe := ⟨.none, none, .fields #[], #[]⟩) (by simp) hC he ?_)
  have x1 : Ex0 a' C hp.objs.size ((hp.push { cls := .type "tuple", data := .seq #[u2] }).update a' (Obj.mapFields (·.setIfInBounds 0 (.ref hp.objs.size)))) := (Heap.get?_update_self _ (Heap.get?_push_of_some _ he) rfl).trans rfl
  exact ⟨.non, _, I1.ext2 (a := a') (dx := a') (o2 := .lst []) (t' := tk) hx (fun b u hb hu => by rw [Heap.get?_update_other _ _ (Ne.symm hb)]; exact Heap.get?_push_of_some _ hu) x1 x1.ok.1 x1.ok.2, rfl, q _⟩
def tAt (C : Addr) (ta tv : TE) : TS := fun D σ H => tv σ H fun y H1 => ta σ H1 fun x H2 => ∃ a tt, x = .ref a ∧ H2 a = some (.ext (Ex0 a C tt)) ∧ ∀ dx, H2 dx = none → dx ≠ a → D.nx σ (upd (upd H2 dx (.xd [("at", y)])) a (.ext (Ex1 a C dx)))
/-- self.at = v -/
theorem ps_at {C C1 fI : Addr} {o value : Expr} {ta tv : TE} {pos' : Pos} (hT : ∀ h, X.K.In h → Two h C C1 fI) (ha : PE X o ta) (hv : PE X value tv) (hs : swapsWith value (some (.Attribute o "at" pos')) pos.line X.env = pure false) : PS X (.Assign [.Attribute o "at" pos'] value pos) (tAt C ta tv) := by
  intro pins s σ H D I h
  refine plainObj_wpAny_Assign_Attribute (thn (hv pins s σ H _ I h) fun u s1 ⟨y, H1, I1, ry, q⟩ => thn (ha pins s1 σ H1 _ I1 q) fun ov s2 ⟨x, H2, I2, rx, a, tt, ex, ea, q2⟩ => ?_) hs
  subst ex
  obtain rfl : ov = Value.ref a := rx
  have he : Ex0 a C tt s2.heap := (show ObjOk X.prog X.w H2 s2.heap a (.ext _) from I2.hok a _ ea).1
  have T := hT s2.heap I2.kIn
  have hfr : H2 s2.heap.objs.size = none := I2.hok.fresh (Nat.le_refl _)
  have hne : s2.heap.objs.size ≠ a := Nat.ne_of_gt (Heap.lt_size he)
  obtain ⟨hp, g, d, tk, os⟩ := s2
  refine store2 T he rfl rfl rfl fun h' tk' g1 g2 g3 => ?_
  have x1 : Ex1 a C hp.objs.size h' := ⟨tt, g1⟩
  have un : Un X.fs [] H2 (upd (upd H2 hp.objs.size (.xd [("at", y)])) a (.ext (Ex1 a C hp.objs.size))) hp h' := by
    have nb : ∀ b u, hp.get? b = some u → H2 b = none → b ≠ a ∧ b ≠ hp.objs.size := fun b u q1 q2 => ⟨fun z => (by rw [z, ea] at q2; cases q2), Nat.ne_of_lt (Heap.lt_size q1)⟩
    have nt : ∀ b u, H2 b = some u → u ≠ .ext (Ex0 a C tt) → b ≠ a ∧ b ≠ hp.objs.size := fun b u q1 q2 => ⟨fun z => (by rw [z, ea] at q1; exact q2 (Option.some.inj q1).symm), fun z => (by rw [z, hfr] at q1; cases q1)⟩
    refine ⟨fun b o q1 q2 _ _ => g3 b o (nb b o q1 q2).1 q1, fun b o q1 q2 _ _ => ⟨o.slots, g3 b o (nb b o q1 q2).1 q1⟩, fun b o q1 q2 _ => ?_, fun b o q1 _ => ?_, fun b xs q1 => ?_, fun b o u q1 => ?_, fun b ps q1 => ⟨#[], ?_⟩⟩
    · rw [upd_ne (nb b o q1 q2).1, upd_ne (nb b o q1 q2).2]; exact q2
    · by_cases z : b = a
      · rw [z]; exact ⟨_, g1⟩
      · exact ⟨o, g3 b o z q1⟩
    · have := nt b _ q1 (fun z => by cases z)
      rw [upd_ne this.1, upd_ne this.2]; exact q1
    · have := nt b _ q1 (fun z => by cases z)
      rw [upd_ne this.1, upd_ne this.2]; exact q1
    · have := nt b _ q1 (fun z => by cases z)
      rw [upd_ne this.1, upd_ne this.2, q1]; simp
  have hok : HOk X.prog X.w (upd (upd H2 hp.objs.size (.xd [("at", y)])) a (.ext (Ex1 a C hp.objs.size))) h' := by
    intro b ob q1
    by_cases z : b = a
    · subst z
      rw [upd_same] at q1; cases q1
      exact ⟨x1, x1.ok.1, x1.ok.2⟩
    · rw [upd_ne z] at q1
      by_cases z2 : b = hp.objs.size
      · subst z2
        rw [upd_same] at q1; cases q1
        refine ⟨_, g2, fun f => ?_⟩
        by_cases zf : f = "at"
        · subst zf
          have e1 : List.lookup ("at" : Str) [(("at" : Str), y)] = some y := by rw [List.lookup]; simp
          rw [e1, if_pos rfl]
          exact ry
        · have e1 : List.lookup f [(("at" : Str), y)] = none := by
            have : (f == ("at" : Str)) = false := by simpa using zf
            rw [List.lookup, this]; rfl
          rw [e1, if_neg zf]
          trivial
      · rw [upd_ne z2] at q1
        have ne : ∀ b' u, H2 b' = some u → u ≠ .ext (Ex0 a C tt) → b' ≠ a ∧ b' ≠ hp.objs.size := fun b u q1 q2 => ⟨fun z => (by rw [z, ea] at q1; exact q2 (Option.some.inj q1).symm), fun z => (by rw [z, hfr] at q1; cases q1)⟩
        refine (I2.hok b ob q1).stay (fun b' u hb hu => g3 b' u (fun z3 => ?_) hu) (fun b' q3 => ?_) fun b' xs q3 => ?_
        · rcases hb with rfl | hb
          · exact z z3
          · rw [z3, ea] at hb; cases hb
        · have := ne b' _ q3 (fun z => by cases z)
          rw [upd_ne this.1, upd_ne this.2]; exact q3
        · have := ne b' _ q3 (fun z => by cases z)
          rw [upd_ne this.1, upd_ne this.2]; exact q3
  exact ⟨σ, _, I2.un (t' := tk') un hok, q2 _ hfr hne⟩
end
end L2
set_option maxHeartbeats 0
namespace L2
open PySem PySem.Spec PyProof.Rows
/-! ### an exception is made -/
def spI (C : Addr) : Sp := fun vs H Q _ => ∃ a tt, ∃ n : Int, vs = [.ref a, .int n] ∧ n.natAbs.log2 < 1920 ∧ H a = some (.ext (Ex0 a C tt)) ∧ ∀ dx, H dx = none → dx ≠ a → Q .non (upd (upd H dx (.xd [("at", .int n)])) a (.ext (Ex1 a C dx)))
def tV (i : Nat) : TE := fun σ H Q => ∃ v, σ[i]? = some (some v) ∧ Q v H
def tBody (C : Addr) : TS := tSeq (tDrop (tInit C (tCons (tV 0) (tCons (tFs (tV 1)) tNil)))) (tAt C (tV 0) (tV 1))
theorem upd_twice {H : Hp} {a dx : Addr} {x y z : HO} (h : dx ≠ a) : upd (upd (upd H a x) dx y) a z = upd (upd H dx y) a z := by
  funext b
  by_cases h1 : b = a
  · subst h1; rw [upd_same, upd_same]
  · rw [upd_ne h1, upd_ne h1]
    by_cases h2 : b = dx
    · subst h2; rw [upd_same, upd_same]
    · rw [upd_ne h2, upd_ne h2, upd_ne h1]
theorem init_fn {P : Program} {w : World} {K : PySem.W.Frag} {mg : Str → Option Value} {base : Heap} {qual : Str} {st : Stmt} {f C : Addr} {fd : FuncData} (F : Fun K "__init__" qual st f fd) (S : FnScope ["self", "at"] ["self", "at"] (defScope st))
    (hbody : ∀ (cdv : Value) (A : Around) (outer : List Env) (s : Shared) (H : Hp) (E : XK), PSs (cxOf CX0 P w K mg base ["self", "at"] qual (defScope st) f cdv A outer s H E).nox (defBody st) (tBody C)) :
    FnOk P w K mg base CX0 1 f fd ["self", "at"] (spI C) := by
  refine F.ok (k := 0) S (fun vs H Q E ⟨a, tt, n, e, _⟩ => by rw [e]; rfl) (fun cdv A outer s H vs Q E hr h => ⟨_, hbody cdv A outer s H E, ?_⟩)
  obtain ⟨a, tt, n, rfl, hn, ha, q⟩ := h
  refine ⟨.ref a, rfl, .int n, rfl, n, rfl, hn, fun z => ⟨a, tt, z, rfl, ha, fun t2 => ?_⟩⟩
  refine ⟨.int n, rfl, .ref a, rfl, a, t2, rfl, upd_same, fun dx h1 h2 => ?_⟩
  rw [upd_ne h2] at h1
  have := q dx h1 h2
  rw [upd_twice h2]
  exact this
section
variable {X : Cx} {pins : List (Addr × Obj)} {σ : St} {H : Hp} {s : Shared}
theorem Inv.forget {a : Addr} {φ : Heap → Prop} {H' : Hp} (I : Inv X pins σ H s) (ha : H a = some (.ext φ)) (h1 : H' a = none) (h2 : ∀ b, b ≠ a → H' b = H b) : Inv X pins σ H' s := by
  have nn : ∀ b, H b = none → H' b = none := fun b q => by
    by_cases z : b = a
    · rw [z]; exact h1
    · rw [h2 b z]; exact q
  have ne : ∀ b u, H b = some u → (∀ φ, u ≠ .ext φ) → H' b = some u := fun b u q k => by
    rw [h2 b (fun z => by rw [z, ha] at q; exact k _ (Option.some.inj q).symm)]; exact q
  have base : Un X.fs X.ex X.H₀ H' X.s₀.heap s.heap := by
    obtain ⟨k1, k2, k3, k4, k5, k6, k7⟩ := I.base
    exact ⟨k1, k2, fun b o q n hx => nn b (k3 b o q n hx), k4, fun b xs q => ne b _ (k5 b xs q) (fun _ z => by cases z), fun b o u q => ne b _ (k6 b o u q) (fun _ z => by cases z), fun b ps q => let ⟨m, z⟩ := k7 b ps q; ⟨m, ne b _ z (fun _ z => by cases z)⟩⟩
  have hok : HOk X.prog X.w H' s.heap := fun b o q => by
    have hb : b ≠ a := fun z => by rw [z, h1] at q; cases q
    rw [h2 b hb] at q
    exact (I.hok b o q).stay (fun _ _ _ z => z) (fun b' z => ne b' _ z (fun _ z => by cases z)) fun b' xs z => ne b' _ z (fun _ z => by cases z)
  exact ⟨I.ok, I.os, I.bare, base, I.loc, I.cell, nn _ I.free, fun x c e => nn _ (I.freeC x c e), fun p hp => let ⟨a1, a2, a3, a4, a5⟩ := I.pin p hp; ⟨a1, nn _ a2, a3, a4, a5⟩, hok, I.len⟩
theorem exc_make {C C1 fI : Addr} {fd : FuncData} {k : Nat} {u : Value} {n : Int} {Q : Value → Shared → Prop} {E : Value → Shared → Prop} (G : FnOk X.prog X.w X.K X.mg X.base CX0 k fI fd ["self", "at"] (spI C)) (hT : ∀ h, X.K.In h → Two h C C1 fI) (hr : Room (k + 1) X.A) (hb : Binds X.K fd ["self", "at"] []) (I : Inv X pins σ H s)
    (ru : RelV (.int n) u) (hn : n.natAbs.log2 < 1920) (h : ∀ e dx s', Inv X pins σ (upd H dx (.xd [("at", .int n)])) s' → H dx = none → Xo s.heap.objs.size e C dx none (upd H dx (.xd [("at", .int n)])) s'.heap → Ex1 e C dx s'.heap → Q (.ref e) s') :
    wpAny (model X.prog X.w) X.A (call (.ref C) [u]) Q E s := by
  obtain ⟨hp, g, d, tk, os⟩ := s
  have T := hT hp I.kIn
  obtain ⟨nm, q, N, bs, sn, sub, ab, col, dd, k0, k1, k2, k3, k5, mN, c1, c2, c3⟩ := T.c
  obtain ⟨nm', q', N', bs', bm', hd', sn', sub', ab', col', dd', k0', k1', k2', k3', k5', nid, mN', g1, g2, g3, g4⟩ := T.c1
  obtain ⟨oI, i1, i2⟩ := T.f
  refine made2 (by simp) (by simp) (by simp) c1 c2 (c3 _ (by simp)) g1 g2 g3 i1 i2 (fun h' e hm he => ?_) (by rw [sizeLine_eq]; simp)
  obtain ⟨t, hte, _, _⟩ := hm.there
  have x0 : Ex0 e C t h' := hte
  have hle : hp.objs.size ≤ e := by rw [he]; exact Nat.le_succ _
  have I2 : Inv X pins σ (upd H e (.ext (Ex0 e C t))) ⟨h', g, d, tk, os⟩ := I.laid (t' := tk) hm.keeps hle ⟨x0, x0.ok.1, x0.ok.2⟩
  have hne : H e = none := I.hok.fresh hle
  refine wpAny_call (codeAny_mono (G.run _ X.stack _ _ ⟨[.ref e, u], []⟩ [.ref e, u] [.ref e, .int n] (fun v H2 => v = .non ∧ ∃ dx, upd H e (.ext (Ex0 e C t)) dx = none ∧ dx ≠ e ∧ H2 = upd (upd (upd H e (.ext (Ex0 e C t))) dx (.xd [("at", .int n)])) e (.ext (Ex1 e C dx))) E0 (hr.make C [u] [])
    (I2.env0.make C [u] []) (hb _ [.ref e, u] I2.kIn rfl) (.cons rfl (.cons ru .nil)) ⟨e, t, n, rfl, hn, upd_same, fun dx h1 h2 => ⟨rfl, dx, h1, h2, rfl⟩⟩) fun r s' hq => ?_)
  cases r with
  | error x => exact hq.elim
  | ok fl =>
    cases fl with
    | ret v =>
      obtain ⟨v', H', I3, rv, rfl, dx, d1, d2, rfl⟩ := I2.after hq
      refine ⟨rv, ?_⟩
      rw [upd_ne d2] at d1
      rw [upd_twice d2] at I3
      have x1 : Ex1 e C dx s'.heap := (show ObjOk X.prog X.w _ s'.heap e (.ext _) from I3.hok e _ upd_same).1
      have hue : upd H dx (.xd [("at", .int n)]) e = none := by rw [upd_ne (Ne.symm d2)]; exact hne
      have I4 : Inv X pins σ (upd H dx (.xd [("at", .int n)])) s' := I3.forget (a := e) upd_same hue fun b hb => by rw [upd_ne hb]
      obtain ⟨tt, hx⟩ := id x1
      exact h e dx s' I4 d1 ⟨hle, hue, _, _, hx, rfl, rfl, rfl, by simp, rfl⟩ x1
    | next => exact hq.elim
    | brk => exact hq.elim
    | cont => exact hq.elim
end
end L2
set_option maxHeartbeats 0
namespace L2
open PySem PySem.Spec PyProof.Rows
/-! ### raise -/
theorem raise2 {prog : Program} {w : World} {A : Around} {E : Value → Shared → Prop} {env : Env} {s : Shared} {x : Sem Value} {Q : Flow → Shared → Prop} (hh : A.handled = none)
    (h : wpAny (model prog w) A x (fun v s₁ => ∃ e C C1 fI dx tt, v = .ref e ∧ Two s₁.heap C C1 fI ∧ s₁.heap.get? e = some { cls := .ref C, dict := some dx, data := .fields #[.ref tt, .none, .none, .none, .bool false, .none] } ∧ E (.ref e) s₁) E s) :
    wpAny (model prog w) A (raiseStmt env (some x) none) Q E s := by
  unfold raiseStmt
  refine wpAny_bind (wpAny_mono h (fun v s₁ h₁ => ?_) fun _ _ x => x)
  obtain ⟨e, C, C1, fI, dx, tt, rfl, T, he, hE⟩ := h₁
  obtain ⟨nm, q, N, bs, sn, sub, ab, col, dd, k0, k1, k2, k3, k5, mN, hC, hN, _⟩ := T.c
  have hco : (Value.ref C :: [Value.ref C1, .type "ValueError", .type "Exception", .type "BaseException", .type "object"]).contains (.type "BaseException") = true := by simp
  obtain ⟨hp, g, d, tk, os⟩ := s₁
  repeat (first | with_reducible refine wpAny_loadPart_at he ?_ | with_reducible refine wpAny_loadPart_at hC ?_ | (refine wpAny_isSubtype_exc hC ?_; rw [hco]) | wp_step)
  exact wpAny_raiseNew_none hh hE
section
variable {X : Cx} {pins : List (Addr × Obj)} {σ : St} {H : Hp} {s : Shared}
/-- C(e), an exception -/
theorem ev_exc {C C1 fI : Addr} {fd : FuncData} {k : Nat} {x : Str} {e : Expr} {t : TA} {np cpos : Pos} {Q : Value → Shared → Prop} (G : FnOk X.prog X.w X.K X.mg X.base CX0 k fI fd ["self", "at"] (spI C)) (hT : ∀ h, X.K.In h → Two h C C1 fI) (hr : Room (k + 1) X.A) (hb : Binds X.K fd ["self", "at"] []) (hg : Gl X x) (hm : X.mg x = some (.ref C)) (hk : PySem.W.keepIn X.K (.ref C) = true) (he : PA X [e] t) (I : Inv X pins σ H s)
    (h : t σ H fun vs H1 => ∃ n : Int, vs = [.int n] ∧ n.natAbs.log2 < 1920 ∧ ∀ a dx s', Inv X pins σ (upd H1 dx (.xd [("at", .int n)])) s' → H1 dx = none → (∃ lo, X.s₀.heap.objs.size ≤ lo ∧ Xo lo a C dx none (upd H1 dx (.xd [("at", .int n)])) s'.heap) → Ex1 a C dx s'.heap → Q (.ref a) s')
    (hdb : (x == ("__debug__" : Str)) = false := by decide) (hst : starEach [e] X.env = (false, eval e X.env) :: starEach [] X.env := by rfl) (hpl : (backTo cpos (starEach [] X.env)).any (·.1) = false := by rfl) :
    wpAny (model X.prog X.w) X.A (eval (.Call (.Name x np) [e] [] cpos) X.env) Q X.xe s := by
  refine wpAny_Call_Name_kw (ld_glob I hg hm ?_ hdb)
  refine PySem.W.callWith_K (h₀ := X.base) I.ok.mod.kin hk (thn (he cpos pins s σ H _ I h) fun us s1 ⟨vs, H1, I1, r, q⟩ => ⟨I1.kIn, ?_⟩) hst hpl
  obtain ⟨n, rfl, hn, q⟩ := q
  cases r with
  | cons w1 r2 =>
    cases r2
    exact exc_make G hT hr hb I1 w1 hn fun a dx s' I2 hd x x1 => q a dx s' I2 hd ⟨_, I1.sz, x⟩ x1
end
end L2
namespace M
open PySem PySem.Spec L2
/-- raise C(e) -/
def raiseS (c : String) (mA : MA) : MS := fun env st => (mA env st).bind fun ds st1 => match ds with
  | [.int n] => if n.natAbs.log2 < 1920 then .err ⟨c, .int n⟩ st1 else .bad
  | _ => .bad
theorem js_raise {X : Cx} {C C1 fI : Addr} {fd : FuncData} {k : Nat} {x : Str} {c : String} {e : Expr} {mA : MA} {np cpos pos : Pos} (G : FnOk X.prog X.w X.K X.mg X.base CX0 k fI fd ["self", "at"] (spI C)) (hT : ∀ h, X.K.In h → Two h C C1 fI) (hr : Room (k + 1) X.A) (hb : Binds X.K fd ["self", "at"] [])
    (h0 : PySem.W.nsIn X.K mainGlobals (c : Str) = some (some (.ref C))) (hg : Gl X x) (hm : X.mg x = some (.ref C)) (hk : PySem.W.keepIn X.K (.ref C) = true) (hc : X.calm = true) (ha : JA X [e] mA) (hdb : (x == ("__debug__" : Str)) = false := by decide) (hst : starEach [e] X.env = (false, eval e X.env) :: starEach [] X.env := by rfl) (hpl : (backTo cpos (starEach [] X.env)).any (·.1) = false := by rfl) :
    JS X (.Raise (some (.Call (.Name x np) [e] [] cpos)) none pos) (raiseS c mA) := by
  rintro pins s σ H D I ⟨μ, env, st, hE, hs, hp⟩
  rw [arm_exec_Raise]
  refine wpAny_bind (wpAny_standAt (raise2 (I.ok.hd hc) (wpAny_bind ?_)))
  refine wpAny_mono (ev_exc (Q := fun v s' => ∃ e C C1 fI dx tt, v = .ref e ∧ Two s'.heap C C1 fI ∧ s'.heap.get? e = some { cls := .ref C, dict := some dx, data := .fields #[.ref tt, .none, .none, .none, .bool false, .none] } ∧ X.xe (.ref e) s') G hT hr hb hg hm hk ha I ⟨μ, env, st, hE, hs, ?_⟩ hdb hst hpl) (fun v s' hv => ?_) fun _ _ x => x
  · unfold raiseS at hp
    cases e1 : mA env st with
    | bad => rw [e1] at hp; exact hp.elim
    | err y st1 => rw [e1] at hp; exact hp
    | ok ds st1 =>
      rw [e1] at hp
      simp only [R.bind_ok] at hp
      intro vs H1 μ1 g1 hs1 hv1
      split at hp
      · rename_i n
        split at hp
        · rename_i hn
          obtain ⟨v, e2, hv2⟩ := hv1.get (i := 0) (d := .int n) rfl
          have el := hv1.length
          have : vs = [v] := by
            cases vs with
            | nil => cases e2
            | cons a r => cases r with
              | nil => simpa using e2
              | cons b r => simp at el
          subst this
          rw [RepV.int_iff] at hv2; subst hv2
          refine ⟨n, rfl, hn, fun a dx s' I2 hd hx x1 => ?_⟩
          obtain ⟨lo, hlo, x⟩ := hx
          obtain ⟨tt, hx1⟩ := x1
          exact ⟨a, C, C1, fI, dx, tt, rfl, hT _ I2.kIn, hx1, hp pins σ _ μ1 (.ref a) s' (g1.trans (Grow.lay hd)) (hs1.lay hd) I2 ⟨a, C, dx, lo, none, .int n, rfl, hlo, x, upd_same, h0, RepV.int_iff.mpr rfl⟩⟩
        · exact hp.elim
      · exact hp.elim
  · exact wpAny_bind (wpAny_standAt (wpAny_pure hv))
end M
set_option maxHeartbeats 0
namespace L2
open PySem PySem.Spec PyProof.Rows
section
variable {X : Cx} {CX : CXT} {k : Nat} {f C : Addr} {fd : FuncData} {ps : List Str} {sp : Sp} {dvs : List V} {ds : List Value} {x m : Str} {p pos apos : Pos} {e o : Expr} {es : List Expr} {ta : TE} {t : TA} {pins : List (Addr × Obj)} {σ : St} {H : Hp} {s : Shared} {Q : VK}
theorem PA.nox (h : PA X.nox es t) : PA X es t := fun pos pins s σ H Q I hw =>
  wpAny_mono (h pos pins s σ H Q (I.wish _) hw) (fun _ _ ⟨v, H', I', r, q⟩ => ⟨v, H', I'.unwish, r, q⟩) fun _ _ z => False.elim z
/-- f(e, ..), where f may raise: what is wanted of the exception is said at the call -/
theorem ev_callX {E' : Value → Shared → Prop} (F : FnOk X.prog X.w X.K X.mg X.base CX k f fd ps sp) (hr : Room k X.A) (hg : Gl X x) (hm : X.mg x = some (.ref f)) (hk : PySem.W.keepIn X.K (.ref f) = true) (hb : Binds X.K fd ps ds) (hd : Vals dvs ds)
    (ha : PA (X.wish E') (e :: es) t) (I : Inv X pins σ H s) (h : t σ H fun vs H1 => ∃ E, sp (vs ++ dvs) H1 Q E ∧ ∀ s1 ev s', Inv X pins σ H1 s1 → CX X.stack H1 s1 E ev s' → E' ev s')
    (hdb : (x == ("__debug__" : Str)) = false := by decide) (he : starEach (e :: es) X.env = (false, eval e X.env) :: starEach es X.env := by rfl) (hpl : (backTo pos (starEach es X.env)).any (·.1) = false := by rfl) :
    wpAny (model X.prog X.w) X.A (eval (.Call (.Name x p) (e :: es) [] pos) X.env) (EP X pins σ Q) E' s := by
  have J := I.wish E'
  refine wpAny_Call_Name_kw (ld_glob I hg hm ?_ hdb)
  refine PySem.W.callWith_K (h₀ := X.base) I.ok.mod.kin hk (thn (ha pos pins s σ H _ J h) fun us s1 ⟨vs, H1, I1, r, E, q, hx⟩ => ⟨I1.unwish.kIn, ?_⟩) he hpl
  have I2 : Inv X pins σ H1 s1 := I1.unwish
  have r2 : Vals (vs ++ dvs) (us ++ ds) := r.append hd
  have hl : (us ++ ds).length = ps.length := by rw [← r2.length]; exact F.len _ _ _ _ q
  refine wpAny_call (codeAny_mono (F.run X.A X.stack s1 H1 ⟨us, []⟩ (us ++ ds) (vs ++ dvs) Q E hr I2.env0 (hb s1 us I2.kIn hl) r2 q) fun r s' hq => ?_)
  cases r with
  | error e => exact hx s1 e s' I2 hq
  | ok fl =>
    cases fl with
    | ret u => exact I2.after hq
    | next => exact False.elim hq
    | brk => exact False.elim hq
    | cont => exact False.elim hq
end
end L2
namespace M
open PySem PySem.Spec L2
/-! ### defs that raise -/
def PostX (K : PySem.W.Frag) (μ : List Addr) (H : Hp) (Q : VK) (E : XK) (r : R D) : Prop := match r with
  | .ok d st => ∀ (v : V) (H' : Hp) (μ' : List Addr), Grow μ H μ' H' → RepS K μ' H' st → RepV K μ' H' d v → Q v H'
  | .err x st => ∀ (C dx : Addr) (v : V) (H' : Hp) (μ' : List Addr), Grow μ H μ' H' → RepS K μ' H' st → H' dx = some (.xd [("at", v)]) → PySem.W.nsIn K mainGlobals (x.cls : Str) = some (some (.ref C)) → RepV K μ' H' x.fld v → E (.ref C) (some dx) H'
  | .bad => False
def spX (K : PySem.W.Frag) (n : Nat) (fd : FD) : Sp := fun vs H Q E => vs.length = n ∧ ∃ μ ds st, RepVs K μ H ds vs ∧ RepS K μ H st ∧ PostX K μ H Q E (fd ds st)
section
variable {P : Program} {w : World} {K : PySem.W.Frag} {mg : Str → Option Value} {base : Heap}
theorem fn_okX {x qual : Str} {st : Stmt} {f : Addr} {fd : FuncData} {N ps : List Str} {k : Nat} {m : MS} (F : Fun K x qual st f fd) (S : FnScope N ps (defScope st))
    (hbody : ∀ (cdv : Value) (A : Around) (outer : List Env) (s : Shared) (H : Hp) (E : XK) (W : Addr → Addr → Hp → Prop), Room k (A.deeper (PyProof.Rows.envOfC qual (defScope st) s.heap.objs.size f cdv)) →
      JSs ((cxOf (CXM P w) P w K mg base N qual (defScope st) f cdv A outer s H E).wish (Rz (cxOf (CXM P w) P w K mg base N qual (defScope st) f cdv A outer s H E) W)) (defBody st) m) : FnOk P w K mg base (CXM P w) (k + 1) f fd ps (spX K ps.length (fnM N.length m)) := by
  obtain ⟨oc, od, kV, doc, pm, an, cdv, ct, osl, rfl, lk, hcd⟩ := F.ex
  refine fn_of lk hcd S (fun vs H Q E h => h.1) fun A outer s H vs Q E hr hsp => ?_
  obtain ⟨hl, μ, ds, sto, hv, hs, hp⟩ := hsp
  refine ⟨_, fun pins s' σ H' D I hw => wpAny_mono (hbody cdv A outer s H E (fun C dx H' => E (.ref C) (some dx) H') hr pins s' σ H' D (I.wish _) hw) (fun _ _ q => q.unwish) (fun ev s2 z => Rz.leave rfl (fun C dx H' h => h) z), μ, startM N.length ds, sto, RepVs.start N hv, hs, ?_⟩
  unfold fnM at hp
  cases hr : m (startM N.length ds) sto with
  | bad => rw [hr] at hp; exact hp.elim
  | err x st1 =>
    rw [hr] at hp
    rintro pins σ' H' μ' e s' g hs' I ⟨a, C, dx, lo, fl, v, rfl, hlo, xo, hdx, hns, hv⟩
    exact ⟨a, C, dx, v, fl, lo, σ', H', rfl, hlo, I.unwish.nopins, xo, hdx, hp C dx v H' μ' g hs' hdx hns hv⟩
  | ok o st1 =>
    rw [hr] at hp
    cases o with
    | rt d => exact hp
    | nx env => exact fun σ' H' μ' g hs' _ => hp .non H' μ' g hs' (RepV.non_iff.mpr rfl)
    | bk env => exact hp.elim
    | cn env => exact hp.elim
/-- what a raising def leaves behind -/
noncomputable def gcX (st : Stor) (r : R D) : R D := open Classical in match r with
  | .err x st' => if st'.take st.length = st ∧ under st.length x.fld then .err x st else .err x st'
  | r => gc st r
noncomputable def gcFX (F : FD) : FD := fun ds st => gcX st (F ds st)
theorem gc_isOk (st : Stor) (d : D) (st' : Stor) : ∃ d2 st2, gc st (.ok d st') = .ok d2 st2 := by
  unfold gc
  dsimp only
  repeat' (first | split | exact ⟨_, _, rfl⟩)
theorem sp_gcX {n : Nat} {F : FD} {vs : List V} {H : Hp} {Q : VK} {E : XK} (h : spX K n (gcFX F) vs H Q E) : spX K n F vs H Q E := by
  obtain ⟨hl, μ, ds, st, h1, h2, h3⟩ := h
  refine ⟨hl, μ, ds, st, h1, h2, ?_⟩
  unfold gcFX at h3
  cases e : F ds st with
  | bad => rw [e] at h3; exact h3
  | ok d st' =>
    rw [e] at h3
    have h4 : PostX K μ H Q E (gc st (.ok d st')) := h3
    obtain ⟨d2, st2, e2⟩ := gc_isOk st d st'
    have h5 : PostF K μ H Q (gc st (.ok d st')) := by rw [e2] at h4 ⊢; exact h4
    exact gc_post h2 h5
  | err x st' =>
    rw [e] at h3
    unfold gcX at h3
    dsimp only at h3
    split at h3
    · rename_i c
      intro C dx v H' μ' g hs' hdx hns hv
      obtain ⟨ν, rfl⟩ := g.pre
      exact h3 C dx v H' μ ⟨⟨[], by simp⟩, g.ext⟩ (h2.back hs' c.1) hdx hns (RepV.down x.fld hv (by rw [h2.len]; exact c.2))
    · exact h3
end
section
variable {X : Cx} {e : Expr} {es : List Expr} {mA : MA} {pos p : Pos} {x : Str} {k : Nat} {f : Addr} {fd : FuncData} {ps : List Str} {F : FD} {dvs : List V} {ds : List Value} {dd : List D}
/-- f(e, ..), where f may raise -/
def callX (F : FD) (dd : List D) (mA : MA) : ME := fun env st => (mA env st).bind fun as st1 => F (as ++ dd) st1
/-- what came back, or what the exception is -/
def xkOf (X : Cx) (μ : List Addr) (H : Hp) (x : Xc) (st : Stor) : XK := fun cv odx H' => ∃ C dx v μ', cv = .ref C ∧ odx = some dx ∧ Grow μ H μ' H' ∧ RepS X.K μ' H' st ∧ H' dx = some (.xd [("at", v)]) ∧ PySem.W.nsIn X.K mainGlobals (x.cls : Str) = some (some (.ref C)) ∧ RepV X.K μ' H' x.fld v
theorem je_callX (G : FnOk X.prog X.w X.K X.mg X.base (CXM X.prog X.w) k f fd ps (spX X.K ps.length F)) (hr : Room k X.A) (hm : X.mg x = some (.ref f)) (hk : PySem.W.keepIn X.K (.ref f) = true) (hb : Binds X.K fd ps ds) (hd : Vals dvs ds)
    (hdd : ∀ μ H, RepVs X.K μ H dd dvs) (ha : JA X (e :: es) mA) (hlen : (e :: es).length + dvs.length = ps.length := by rfl) (hg : Gl X x := by rfl) (hdb : (x == ("__debug__" : Str)) = false := by decide) (he : starEach (e :: es) X.env = (false, eval e X.env) :: starEach es X.env := by rfl) (hpl : (backTo pos (starEach es X.env)).any (·.1) = false := by rfl)
    (hA : ∀ env st as st1, mA env st = .ok as st1 → as.length = (e :: es).length := by intros; rfl) :
    JE X (.Call (.Name x p) (e :: es) [] pos) (callX F dd mA) := by
  rintro pins s σ H Q I ⟨μ, env, st, hE, hs, hp⟩
  refine ev_callX (E' := X.xe) G hr hg hm hk hb hd ha I ⟨μ, env, st, hE, hs, ?_⟩ hdb he hpl
  cases hr : mA env st with
  | bad => unfold callX at hp; rw [hr] at hp; exact hp
  | err y st1 => unfold callX at hp; rw [hr] at hp; exact hp
  | ok as st1 =>
    unfold callX at hp
    rw [hr] at hp
    intro vs H1 μ1 g1 hs1 hv
    have hv' : RepVs X.K μ1 H1 (as ++ dd) (vs ++ dvs) := hv.append (hdd μ1 H1)
    have hl2 : (vs ++ dvs).length = ps.length := by rw [List.length_append, ← hv.length, hA env st as st1 hr]; exact hlen
    have hp2 := Post.mono g1 (show Post X μ H (relV X) Q (F (as ++ dd) st1) from hp)
    cases hF : F (as ++ dd) st1 with
    | bad => rw [hF] at hp2; exact hp2.elim
    | ok d st2 =>
      rw [hF] at hp2
      refine ⟨fun _ _ _ => False, ⟨hl2, μ1, as ++ dd, st1, hv', hs1, by rw [hF]; exact hp2⟩, ?_⟩
      rintro s1 ev s' I1 ⟨_, _, _, _, _, _, _, _, _, _, _, _, z⟩
      exact z.elim
    | err y st2 =>
      rw [hF] at hp2
      refine ⟨xkOf X μ1 H1 y st2, ⟨hl2, μ1, as ++ dd, st1, hv', hs1, by rw [hF]; exact fun C dx v H' μ' g hs' hdx hns hv => ⟨C, dx, v, μ', rfl, rfl, g, hs', hdx, hns, hv⟩⟩, ?_⟩
      rintro s1 ev s' I1 ⟨e, C, dx, v, H', rfl, hos, hb, un, hok, hdx, x, C', dx', v', μ', e1, e2, g, hs', hdx', hns, hv3⟩
      cases e1; cases e2
      exact hp2 pins σ H' μ' (.ref e) s' g hs' (I1.call' (ch := []) hos un hok hb (fun b hb => absurd hb (by simp))) ⟨e, C, dx, _, _, v', rfl, I1.sz, x, hdx', hns, hv3⟩
end
end M
set_option maxHeartbeats 0
namespace L2
open PySem PySem.Spec PyProof.Rows
/-! ### an exception is caught -/
section
variable {X : Cx} {pins : List (Addr × Obj)} {σ : St} {H : Hp} {s : Shared}
/-- the name goes -/
theorem goes_ok {M : Model} {A : Around} {E : Value → Shared → Prop} {i : Nat} {x : Str} {pos : Pos} {Q : Unit → Shared → Prop} (I : Inv X pins σ H s) (hN : X.N.Nodup) (hi : X.N[i]? = some x) (hk : X.env.scope.names.lookup x = some .local)
    (h : ∀ s', Heap.SameBut X.env.locals s.heap s'.heap → Inv X pins (σ.set i none) H s' → Q () s') : wpAny M A (do bindName X.env x .none; unbindBehindTheSuite X.env x pos) Q E s := by
  obtain ⟨m, hn, hl⟩ := id I.loc
  have hcls : (X.env.scope.kind == .class || (X.env.scope.kind == .module && X.env.locals != X.env.globals)) = false := by rw [I.ok.kind]; rfl
  have hiσ : i < σ.length := by rw [I.len]; exact (List.getElem?_eq_some_iff.mp hi).1
  have cne := I.cne
  refine wpAny_nameGoes_keeps hk hn hcls fun h' v hn' hs => ?_
  obtain ⟨oL, _, _, hoL, _⟩ := id hn
  have tracked : HOk X.prog X.w H h' := fun b ob e => by
    refine (I.hok b ob e).stay (fun c w' hc q => (hs.2 c ?_).trans q) (fun _ q => q) fun _ _ q => q
    rintro rfl
    rcases hc with rfl | hc
    · rw [I.free] at e; cases e
    · rw [I.free] at hc; cases hc
  refine h _ hs ⟨I.ok, I.os, I.bare, ⟨fun b o e n hb hx => ?_, fun b o e n hb hx => ?_, I.base.free, fun b o e hx => ?_, I.base.tups, I.base.frzs, I.base.tbls⟩, ⟨_, hn', fun j y v' e1 e2 e3 => ?_⟩, fun y c e => ?_, I.free, I.freeC, fun p hp => ?_, tracked, by simpa using I.len⟩
  · exact (hs.2 b (Nat.ne_of_lt (Nat.lt_of_lt_of_le (Heap.lt_size e) I.ok.above))).trans (I.base.keep b o e n hb hx)
  · obtain ⟨sl, e1⟩ := I.base.slot b o e n hb hx
    exact ⟨sl, (hs.2 b (Nat.ne_of_lt (Nat.lt_of_lt_of_le (Heap.lt_size e) I.ok.above))).trans e1⟩
  · obtain ⟨o', e1⟩ := I.base.there b o e hx
    exact ⟨o', (hs.2 b (Nat.ne_of_lt (Nat.lt_of_lt_of_le (Heap.lt_size e) I.ok.above))).trans e1⟩
  · by_cases hj : j = i
    · subst hj
      rw [List.getElem?_set_self hiσ] at e2
      cases e2
    · rw [List.getElem?_set_ne (Ne.symm hj)] at e2
      obtain ⟨u', r', q⟩ := hl j y v' e1 e2 e3
      refine ⟨u', r', ?_⟩
      rcases q with ⟨k, e⟩ | ⟨k, c, e, z⟩
      · refine .inl ⟨k, ?_⟩
        have : y ≠ x := fun e => hj (nodup_ix hN e1 (e ▸ hi))
        simp [this, e]
      · exact .inr ⟨k, c, e, z.sameBut hs (cne y c e)⟩
  · obtain ⟨w', z⟩ := I.cell y c e
    exact ⟨w', z.sameBut hs (cne y c e)⟩
  · obtain ⟨e, n, ne, nf, d⟩ := I.pin p hp
    exact ⟨(hs.2 p.1 ne).trans e, n, ne, nf, d⟩
/-- the exception is known from now on -/
theorem Inv.tag {lo : Nat} {e dx : Addr} {oe od : Obj} {vs : Array Value} {fs : List (Str × V)} (I : Inv X pins σ H s) (hpn : ∀ p ∈ X.pn ++ pins, p.1 < lo) (hlo : X.s₀.heap.objs.size ≤ lo) (h1 : lo ≤ e) (h2 : H e = none) (ho : s.heap.get? e = some oe) (hd : oe.data = .fields vs)
    (hdx : H dx = some (.xd fs)) (hod : s.heap.get? dx = some od) : Inv X pins σ (upd (upd H dx (.frz od (.xd fs))) e (.frz oe (.own 0))) s := by
  have ne : dx ≠ e := fun z => by rw [z, h2] at hdx; cases hdx
  have val : ∀ b, b ≠ e → b ≠ dx → upd (upd H dx (.frz od (.xd fs))) e (.frz oe (.own 0)) b = H b := fun b q1 q2 => by rw [upd_ne q1, upd_ne q2]
  have some_ : ∀ b u, H b = some u → u ≠ .xd fs → upd (upd H dx (.frz od (.xd fs))) e (.frz oe (.own 0)) b = some u := fun b u q k => by
    rw [val b (fun z => by rw [z, h2] at q; cases q) (fun z => by rw [z, hdx] at q; exact k (Option.some.inj q).symm)]; exact q
  have none_ : ∀ b, b ≠ e → H b = none → upd (upd H dx (.frz od (.xd fs))) e (.frz oe (.own 0)) b = none := fun b q1 q => by
    rw [val b q1 (fun z => by rw [z, hdx] at q; cases q)]; exact q
  have base : Un X.fs X.ex X.H₀ (upd (upd H dx (.frz od (.xd fs))) e (.frz oe (.own 0))) X.s₀.heap s.heap := by
    obtain ⟨k1, k2, k3, k4, k5, k6, k7⟩ := I.base
    refine ⟨k1, k2, fun b o q n hx => none_ b (fun z => ?_) (k3 b o q n hx), k4, fun b xs q => some_ b _ (k5 b xs q) (fun z => by cases z), fun b o u q => some_ b _ (k6 b o u q) (fun z => by cases z), fun b ps q => let ⟨m, z⟩ := k7 b ps q; ⟨m, some_ b _ z (fun z => by cases z)⟩⟩
    have := Heap.lt_size q
    rw [z] at this
    exact Nat.lt_irrefl _ (Nat.lt_of_lt_of_le this (Nat.le_trans hlo h1))
  have ho2 : ∀ a b, H b = some (.own a) → upd (upd H dx (.frz od (.xd fs))) e (.frz oe (.own 0)) b = some (.own a) := fun a b q => some_ b _ q (fun z => by cases z)
  have ht2 : ∀ b xs, H b = some (.tup xs) → upd (upd H dx (.frz od (.xd fs))) e (.frz oe (.own 0)) b = some (.tup xs) := fun b xs q => some_ b _ q (fun z => by cases z)
  have hok : HOk X.prog X.w (upd (upd H dx (.frz od (.xd fs))) e (.frz oe (.own 0))) s.heap := fun b o q => by
    by_cases z : b = e
    · subst z
      rw [upd_same] at q; cases q
      exact ⟨ho, _, ho⟩
    · by_cases z2 : b = dx
      · subst z2
        rw [upd_ne z, upd_same] at q; cases q
        exact ⟨hod, (I.hok b _ hdx).stay (fun _ _ _ z => z) (ho2 b) ht2⟩
      · rw [val b z z2] at q
        exact (I.hok b o q).stay (fun _ _ _ z => z) (ho2 b) ht2
  refine ⟨I.ok, I.os, I.bare, base, I.loc, I.cell, none_ _ (fun z => ?_) I.free, fun x c q => none_ _ (fun z => ?_) (I.freeC x c q), fun p hp => ?_, hok, I.len⟩
  · obtain ⟨m, ⟨o', es, ep, ho', hd', _⟩, _⟩ := I.loc
    rw [z, ho] at ho'; cases ho'; rw [hd] at hd'; cases hd'
  · obtain ⟨v, o', ho', hd'⟩ := I.cell x c q
    rw [z, ho] at ho'; cases ho'; rw [hd] at hd'; cases hd'
  · obtain ⟨a1, a2, a3, a4, a5⟩ := I.pin p hp
    exact ⟨a1, none_ _ (fun z => Nat.lt_irrefl _ (Nat.lt_of_lt_of_le (hpn p hp) (by rw [z]; exact h1))) a2, a3, a4, a5⟩
/-- while an exception is handled -/
abbrev Cx.mark (X : Cx) (v : Value) : Cx := { X with A := X.A.mark (some v), calm := false }
theorem Cx.Ok.mark {X : Cx} (ok : X.Ok) (v : Value) : (X.mark v).Ok :=
  ⟨ok.mod, ok.kind, ok.glob, ok.blt, ok.above, ok.inj, ok.has, ok.cab, (fun z => by cases z), ok.frames, ok.stk, ok.exf, ok.bs, ok.bsz, ok.noex, ok.exfs, ok.funs, ok.frf⟩
theorem Inv.mark (I : Inv X pins σ H s) (v : Value) : Inv (X.mark v) pins σ H s := ⟨I.ok.mark v, I.os, I.bare, I.base, I.loc, I.cell, I.free, I.freeC, I.pin, I.hok, I.len⟩
theorem Inv.unmark {v : Value} (ok : X.Ok) (I : Inv (X.mark v) pins σ H s) : Inv X pins σ H s := ⟨ok, I.os, I.bare, I.base, I.loc, I.cell, I.free, I.freeC, I.pin, I.hok, I.len⟩
end
theorem match2 {prog : Program} {w : World} {A : Around} {E : Value → Shared → Prop} {h : Heap} {g : Array GenState} {d : Drawn} {t : Nat} {os : OsState} {C C1 fI e : Addr} {oe : Obj} {Q : Bool → Shared → Prop}
    (T : Two h C C1 fI) (hB : ∃ nm q N bs bm hd sn sub ab col dd k0 k1 k2 k3 k5 nid, h.get? C1 = some (excClassObj nm q C1 N bs bm hd sn sub ab col dd k0 k1 k2 k3 k5 nid) ∧ bm.contains (.type "BaseException") = true) (he : h.get? e = some oe) (hcls : oe.cls = .ref C)
    (hq : Q true ⟨h, g, d, t, os⟩) : wpAny (model prog w) A (excMatches (.ref e) (.ref C1)) Q E ⟨h, g, d, t, os⟩ := by
  obtain ⟨nm, q, N, bs, sn, sub, ab, col, dd, k0, k1, k2, k3, k5, mN, hC, _, _⟩ := T.c
  obtain ⟨nm', q', N', bs', bm', hd', sn', sub', ab', col', dd', k0', k1', k2', k3', k5', nid, hC1, hbm⟩ := hB
  have hcB : (Value.ref C1 :: bm').contains (.type "BaseException") = true := by rw [List.contains_cons, hbm, Bool.or_true]
  have hcC : (Value.ref C :: [Value.ref C1, .type "ValueError", .type "Exception", .type "BaseException", .type "object"]).contains (.ref C1) = true := by simp
  have f := tc_notTuple
  unfold excMatches
  repeat (first | (with_reducible refine wpAny_loadPart_at he ?_; rw [hcls]) | with_reducible refine wpAny_loadPart_at hC1 ?_ | (with_reducible refine wpAny_isSubtype_exc hC1 ?_; rw [hcB]) | (with_reducible refine wpAny_isSubtype_exc hC ?_; rw [hcC]) | wp_step)
  exact hq
end L2
set_option maxHeartbeats 0
namespace L2
open PySem PySem.Spec PyProof.Rows
/-- a statement that runs a call and keeps its value at most -/
def BodyOf (X : Cx) (st : Stmt) (c : Expr) (i : Option Nat) : Prop := ∀ (E' : Value → Shared → Prop) (pins : List (Addr × Obj)) (s : Shared) (σ : St) (H : Hp) (D : Ends) (Q : VK), Inv X pins σ H s →
  (∀ v H1, Q v H1 → D.nx (match i with | some i => σ.set i (some v) | none => σ) H1) → wpAny (model X.prog X.w) X.A (eval c X.env) (EP X pins σ Q) E' s → wpAny (model X.prog X.w) X.A (execs [st] X.env) (SP X pins D) E' s
section
variable {X : Cx} {c : Expr} {pos : Pos}
theorem bo_expr (hs : swapsWith c none pos.line X.env = pure false := by rfl) : BodyOf X (.Expr c pos) c none := fun E' pins s σ H D Q I hq h =>
  wpAny_execs_cons (wpAny_Expr_any (thn h fun v s1 ⟨x, H1, I1, r1, q1⟩ => wpAny_execs_nil ⟨σ, H1, I1, hq _ _ q1⟩) I.quiet hs)
end
end L2
namespace M
open PySem PySem.Spec L2
def setO (i : Option Nat) (d : D) (env : MEnv) : MEnv := match i with | some i => env.set i (some d) | none => env
/-- try: [x =] f(..)  except C as e: y = e -/
def tryS (i : Option Nat) (ie iy : Nat) (F : FD) (dd : List D) (mA : MA) (ok : String → Bool) : MS := fun env st => match mA env st with
  | .ok as st1 => (match F (as ++ dd) st1 with
    | .ok d st2 => .ok (.nx (setO i d env)) st2
    | .err x st2 => if ok x.cls then .ok (.nx ((env.set iy (some (.loc st2.length))).set ie none)) (st2 ++ [.exc x.cls x.fld]) else .bad
    | .bad => .bad)
  | _ => .bad
section
variable {K : PySem.W.Frag} {μ : List Addr} {H : Hp} {st : Stor} {dx e : Addr} {od oe : Obj} {fs : List (Str × V)}
theorem RepO.notXd {a : Addr} {o : MO} (h : RepO K μ H a o) (hm : o.mut = true) : H a ≠ some (.xd fs) := by
  cases o with
  | lst ds => obtain ⟨xs, h1, _⟩ := h; rw [h1]; intro z; cases z
  | frz ds => cases hm
  | dic kvs => obtain ⟨xs, h1, _⟩ := h; rw [h1]; intro z; cases z
  | dkc kvs => obtain ⟨xs, h1, _⟩ := h; rw [h1]; intro z; cases z
  | dkf kvs => cases hm
  | dtf kvs => cases hm
  | ins c fs => obtain ⟨_, _, _, _, h1, _⟩ := h; rw [h1]; intro z; cases z
  | tab x => obtain ⟨_, _, h1, _⟩ := h; rw [h1]; intro z; cases z
  | clo j l ds => cases hm
  | exc c d => cases hm
  | hid => cases hm
theorem Grow.freeze (hdx : H dx = some (.xd fs)) : Grow μ H μ (upd H dx (.frz od (.xd fs))) :=
  ⟨⟨[], by simp⟩, ⟨fun b xs q => by rw [upd_ne (ne_of q hdx (by intro z; cases z))]; exact q, fun b o u q => by rw [upd_ne (ne_of q hdx (by intro z; cases z))]; exact q⟩⟩
theorem RepS.freeze (h : RepS K μ H st) (hdx : H dx = some (.xd fs)) : RepS K μ (upd H dx (.frz od (.xd fs))) st :=
  ⟨h.len, fun n o e => let ⟨a, h1, h2⟩ := h.at_ n o e; ⟨a, h1, h2.keep (Grow.freeze hdx) fun hm u q => by rw [upd_ne (fun z => h2.notXd hm (by rw [z]; exact hdx))]; exact q⟩, h.uniq⟩
theorem RepS.tag {c : String} {d : D} {v : V} {C : Addr} {vs : Array Value} (h : RepS K μ H st) (he : H e = none) (hdx : H dx = some (.xd [("at", v)])) (hc : oe.cls = .ref C) (hd : oe.dict = some dx) (hf : oe.data = .fields vs) (hn : PySem.W.nsIn K mainGlobals (c : Str) = some (some (.ref C))) (hv : RepV K μ H d v) :
    Grow μ H (μ ++ [e]) (upd (upd H dx (.frz od (.xd [("at", v)]))) e (.frz oe (.own 0))) ∧ RepS K (μ ++ [e]) (upd (upd H dx (.frz od (.xd [("at", v)]))) e (.frz oe (.own 0))) (st ++ [.exc c d]) := by
  have ne : e ≠ dx := fun z => by rw [z, hdx] at he; cases he
  have he1 : upd H dx (.frz od (.xd [("at", v)])) e = none := by rw [upd_ne ne]; exact he
  have g1 : Grow μ H μ (upd H dx (.frz od (.xd [("at", v)]))) := Grow.freeze hdx
  have g2 : Grow μ (upd H dx (.frz od (.xd [("at", v)]))) (μ ++ [e]) (upd (upd H dx (.frz od (.xd [("at", v)]))) e (.frz oe (.own 0))) := Grow.new he1
  refine ⟨g1.trans g2, (h.freeze hdx).new he1 ⟨oe, C, dx, od, v, vs, upd_same, hc, hd, hf, ?_, hn, (hv.mono g1 d).mono g2 d⟩⟩
  rw [upd_ne (Ne.symm ne), upd_same]
end
section
variable {X : Cx} {e : Expr} {es : List Expr} {mA : MA} {pos p p1 p2 p3 p4 p5 p6 : Pos} {x c1 n y : Str} {k : Nat} {f C1 : Addr} {fd : FuncData} {ps : List Str} {F : FD} {dvs : List V} {ds : List Value} {dd : List D} {bst : Stmt} {i : Option Nat} {ie iy : Nat} {ok : String → Bool}
theorem js_try (O : Own X) (G : FnOk X.prog X.w X.K X.mg X.base (CXM X.prog X.w) k f fd ps (spX X.K ps.length F)) (hr : Room k X.A) (hm : X.mg x = some (.ref f)) (hk : PySem.W.keepIn X.K (.ref f) = true) (hb : Binds X.K fd ps ds) (hd : Vals dvs ds)
    (hdd : ∀ μ H, RepVs X.K μ H dd dvs) (ha : JA X.nox (e :: es) mA) (hBo : BodyOf X bst (.Call (.Name x p) (e :: es) [] pos) i) (hN : X.N.Nodup) (hie : X.N[ie]? = some n) (hke : X.env.scope.names.lookup n = some .local) (hiy : X.N[iy]? = some y) (hky : X.env.scope.names.lookup y = some .local)
    (hT : ∀ c C, ok c = true → PySem.W.nsIn X.K mainGlobals (c : Str) = some (some (.ref C)) → ∃ fI, ∀ h, X.K.In h → Two h C C1 fI)
    (hB : ∀ h, X.K.In h → ∃ nm q N bs bm hd sn sub ab col dd k0 k1 k2 k3 k5 nid, h.get? C1 = some (excClassObj nm q C1 N bs bm hd sn sub ab col dd k0 k1 k2 k3 k5 nid) ∧ bm.contains (.type "BaseException") = true)
    (hgc : Gl X c1) (hmc : X.mg c1 = some (.ref C1)) (hlen : (e :: es).length + dvs.length = ps.length := by rfl) (hg : Gl X x := by rfl) (hdb : (x == ("__debug__" : Str)) = false := by decide) (hdb1 : (c1 == ("__debug__" : Str)) = false := by decide)
    (hdn : (n == ("__debug__" : Str)) = false := by decide) (hcn : (n == ("__classdict__" : Str)) = false := by decide)
    (he : starEach (e :: es) X.env = (false, eval e X.env) :: starEach es X.env := by rfl) (hpl : (backTo pos (starEach es X.env)).any (·.1) = false := by rfl)
    (hA : ∀ env st as st1, mA env st = .ok as st1 → as.length = (e :: es).length := by intros; rfl) :
    JS X (.Try [bst] [.ExceptHandler (some (.Name c1 p1)) (some n) [.Assign [.Name y p2] (.Name n p3) p4] p5] [] [] p6) (tryS i ie iy F dd mA ok) := by
  rintro pins s σ H D I ⟨μ, env, st, hE, hs, hp⟩
  unfold tryS at hp
  cases hr2 : mA env st with
  | bad => rw [hr2] at hp; exact hp.elim
  | err y st1 => rw [hr2] at hp; exact hp.elim
  | ok as st1 =>
    rw [hr2] at hp
    dsimp only at hp
    cases hF : F (as ++ dd) st1 with
    | bad => rw [hF] at hp; exact hp.elim
    | ok d st2 =>
      rw [hF] at hp
      have hcall : wpAny (model X.prog X.w) X.A (eval (.Call (.Name x p) (e :: es) [] pos) X.env) (EP X pins σ (fun v H1 => ∃ μ', Grow μ H μ' H1 ∧ RepS X.K μ' H1 st2 ∧ RepV X.K μ' H1 d v)) (fun _ _ => False) s := by
        refine ev_callX (t := tMA X.nox mA) (E' := fun _ _ => False) G hr hg hm hk hb hd (PA.nox (X := X.wish fun _ _ => False) ha) I ⟨μ, env, st, hE, hs, ?_⟩ hdb he hpl
        rw [hr2]
        intro vs H1 μ1 g1 hs1 hv
        have hv' : RepVs X.K μ1 H1 (as ++ dd) (vs ++ dvs) := hv.append (hdd μ1 H1)
        have hl2 : (vs ++ dvs).length = ps.length := by rw [List.length_append, ← hv.length, hA env st as st1 hr2]; exact hlen
        refine ⟨fun _ _ _ => False, ⟨hl2, μ1, as ++ dd, st1, hv', hs1, ?_⟩, ?_⟩
        · rw [hF]; exact fun v H' μ' g hs' hv => ⟨μ', g1.trans g, hs', hv⟩
        · rintro s1 ev s' I1 ⟨_, _, _, _, _, _, _, _, _, _, _, _, z⟩
          exact z.elim
      refine wpAny_Try_except (wpAny_mono (hBo (fun _ _ => False) pins s σ H D _ I ?_ hcall) (fun fl s1 q => ?_) fun _ _ z => z.elim)
      · rintro v H1 ⟨μ', g, hs', hv⟩
        refine hp _ H1 μ' g hs' ?_
        cases i with
        | none => exact hE.mono g
        | some i => exact (hE.mono g).set hv
      · cases fl with
        | next => exact wpAny_execs_nil q
        | ret v => exact q
        | brk => exact q
        | cont => exact q
    | err z st2 =>
      rw [hF] at hp
      dsimp only at hp
      by_cases hok : ok z.cls = true
      · rw [if_pos hok] at hp
        have hcall : wpAny (model X.prog X.w) X.A (eval (.Call (.Name x p) (e :: es) [] pos) X.env) (EP X pins σ (fun v H1 => False)) (fun ev s1 => ∃ a C dx v lo fl H' μ', ev = .ref a ∧ X.s₀.heap.objs.size ≤ lo ∧ (∀ p ∈ X.pn ++ pins, p.1 < lo) ∧ Inv X pins σ H' s1 ∧ Xo lo a C dx fl H' s1.heap ∧ H' dx = some (.xd [("at", v)]) ∧ PySem.W.nsIn X.K mainGlobals (z.cls : Str) = some (some (.ref C)) ∧ RepV X.K μ' H' z.fld v ∧ Grow μ H μ' H' ∧ RepS X.K μ' H' st2) s := by
          refine ev_callX (t := tMA X.nox mA) G hr hg hm hk hb hd (PA.nox (X := X.wish _) ha) I ⟨μ, env, st, hE, hs, ?_⟩ hdb he hpl
          rw [hr2]
          intro vs H1 μ1 g1 hs1 hv
          have hv' : RepVs X.K μ1 H1 (as ++ dd) (vs ++ dvs) := hv.append (hdd μ1 H1)
          have hl2 : (vs ++ dvs).length = ps.length := by rw [List.length_append, ← hv.length, hA env st as st1 hr2]; exact hlen
          refine ⟨xkOf X μ1 H1 z st2, ⟨hl2, μ1, as ++ dd, st1, hv', hs1, by rw [hF]; exact fun C dx v H' μ' g hs' hdx hns hv => ⟨C, dx, v, μ', rfl, rfl, g, hs', hdx, hns, hv⟩⟩, ?_⟩
          rintro s1 ev s' I1 ⟨a, C, dx, v, H', rfl, hos, hb, un, hok, hdx, x, C', dx', v', μ', e1, e2, g, hs', hdx', hns, hv3⟩
          cases e1; cases e2
          exact ⟨a, C, dx, v', _, _, H', μ', rfl, I1.sz, fun p hp => Heap.lt_size (I1.pin p hp).1, I1.call' (ch := []) hos un hok hb (fun b hb => absurd hb (by simp)), x, hdx', hns, hv3, g1.trans g, hs'⟩
        refine wpAny_Try_except (wpAny_mono (hBo _ pins s σ H D _ I (fun _ _ z => z.elim) hcall) (fun fl s1 q => ?_) fun ev s1 q => ?_)
        · cases fl with
          | next => exact wpAny_execs_nil q
          | ret v => exact q
          | brk => exact q
          | cont => exact q
        obtain ⟨a, C, dx, v, lo, fl, H', μ', rfl, hlo, hpp, I1, x, hdx, hns, hv, g, hs'⟩ := q
        refine note_x I1 O hpp hlo x fun h2 I2 x2 => ?_
        refine flight_x (fr := none) I2 O hpp hlo x2 fun h3 I3 x3 => ?_
        obtain ⟨fI, hT2⟩ := hT _ _ hok hns
        obtain ⟨hp1, gn1, d1, t1, os1⟩ := s1
        obtain ⟨_, _, oe, vs, ho, hc, hdx2, hfd, hz, _⟩ := id x3
        have O' : Own (X.mark (.ref a)) := ⟨O.stk, O.frm, O.pn⟩
        refine wpAny_handleBy_cons ?_ (by simp [byPass])
        refine codeAny_handlers_test (ld_glob (X := X.mark (.ref a)) (I3.mark _) hgc hmc ?_ hdb1)
        refine match2 (hT2 h3 I3.kIn) (hB _ I3.kIn) ho hc ?_
        refine codeAny_handlers_suite_as (flight_x (X := X.mark (.ref a)) (fr := none) (I3.mark _) O' hpp hlo x3 fun h4 I4 x4 => ?_)
        obtain ⟨q1, q2, oe4, vs4, ho4, hc4, hdx4, hfd4, hz4, _⟩ := id x4
        obtain ⟨od, hod⟩ : ∃ od, h4.get? dx = some od := by
          obtain ⟨mA, ⟨o, es, ep, h1, h2⟩, _⟩ := (show ObjOk X.prog X.w H' h4 dx (.xd _) from I4.hok dx _ hdx)
          exact ⟨o, h1⟩
        have I5 := I4.tag hpp hlo q1 q2 ho4 hfd4 hdx hod
        obtain ⟨gT, sT⟩ := hs'.tag (oe := oe4) (od := od) (c := z.cls) (d := z.fld) q2 hdx hc4 hdx4 hfd4 hns hv
        refine store_ok (X := X.mark (.ref a)) I5 hN hie (.inl hke) (v := .ref a) rfl (fun s6 I6 => ?_) (.inr hke)
        have hps : PSs (X.mark (.ref a)).nox [.Assign [.Name y p2] (.Name n p3) p4] _ := pss_one (ps_set (X := (X.mark (.ref a)).nox) hN hiy (.inl hky) (pe_var hie (.inl hke) hdn hcn) rfl (.inr hky))
        have hil : ie < σ.length := by rw [I.len]; exact (List.getElem?_eq_some_iff.mp hie).1
        refine wpAny_mono (hps pins s6 _ _ { nx := fun σ' H2 => σ' = (σ.set ie (some (.ref a))).set iy (some (.ref a)) ∧ H2 = upd (upd H' dx (.frz od (.xd [("at", v)]))) a (.frz oe4 (.own 0)), rt := fun _ _ => False } (I6.wish _) ⟨.ref a, by rw [List.getElem?_set_self hil], rfl, rfl⟩) (fun fl s7 q => ?_) fun _ _ z => z.elim
        cases fl with
        | ret v => obtain ⟨_, _, _, _, _, q⟩ := q; exact q.elim
        | brk => obtain ⟨_, _, _, q⟩ := q; exact q.elim
        | cont => obtain ⟨_, _, _, q⟩ := q; exact q.elim
        | next =>
          obtain ⟨σ7, H7, I7, rfl, rfl⟩ := q
          refine goes_ok (X := X) (I7.unwish.unmark I.ok) hN hie hke fun s8 _ I8 => ⟨_, _, I8, ?_⟩
          refine hp _ _ _ (g.trans gT) sT ?_
          have hE2 := hE.mono (g.trans gT)
          refine ⟨by simp [hE2.len], fun j d0 ej => ?_⟩
          by_cases j1 : ie = j
          · subst j1
            rw [List.getElem?_set_self (by simpa [hE2.len] using hil)] at ej; cases ej
          · rw [List.getElem?_set_ne j1] at ej ⊢
            by_cases j2 : iy = j
            · subst j2
              have hl : iy < env.length := by have := (List.getElem?_eq_some_iff.mp ej).1; simpa using this
              rw [List.getElem?_set_self hl] at ej
              cases ej
              refine ⟨.ref a, by rw [List.getElem?_set_self (by simpa [← hE2.len] using hl)], RepV.loc_iff.mpr ⟨a, ?_, rfl⟩⟩
              rw [← hs'.len]; simp
            · rw [List.getElem?_set_ne j2] at ej
              rw [List.getElem?_set_ne j2, List.getElem?_set_ne j1]
              exact hE2.at_ j d0 ej
      · rw [if_neg hok] at hp; exact hp.elim
end
end M
set_option maxHeartbeats 0
namespace L2
open PySem PySem.Spec PyProof.Rows PySem.W
/-! ### classes of exceptions, as the fragment has them -/
def nsOkIn (K : Frag) (N : Addr) (no : List Str) (init : Option Value) : Bool := match K.lookup N with
  | some ⟨_, _, .dict es _, _⟩ => es.toList.all (fun e => match e.key with | .str _ _ => true | _ => false) && no.all (fun x => (nsFind es x).isNone) && (match init with | none => true | some v => nsFind es "__init__" == some v)
  | _ => false
theorem nsOkIn_ok {K : Frag} {h : Heap} {N : Addr} {no : List Str} {init : Option Value} (X : K.In h) (q : nsOkIn K N no init = true) : ∃ mN, h.Ns N mN ∧ (∀ x ∈ no, mN x = none) ∧ ∀ v, init = some v → mN "__init__" = some v := by
  unfold nsOkIn at q
  split at q
  · rename_i cl d es ep sl ho
    simp only [Bool.and_eq_true] at q
    obtain ⟨⟨q1, q2⟩, q3⟩ := q
    refine ⟨nsFind es, ⟨_, es, ep, X _ _ ho, rfl, fun e he => ?_, fun _ => rfl⟩, fun x hx => ?_, fun v hv => ?_⟩
    · have := List.all_eq_true.mp q1 e (by simpa using he)
      split at this
      · rename_i n t hk; exact ⟨n, t, hk⟩
      · cases this
    · simpa using List.all_eq_true.mp q2 x hx
    · subst hv
      simpa using q3
  · cases q
def xcIn (K : Frag) (C : Addr) (bm0 : Option (List Value)) (no : List Str) (init : Option Value) : Bool := match K.lookup C with
  | some ⟨.type "type", _, .cls cd, sl⟩ => (match cd.mro, sl.toList with
    | .ref C' :: bm, [_, _, _, _, some (.builtin n), _] => C' == C && !cd.hasDel && (match bm0 with | none => true | some b => cd.hasDict && n == "ValueError.__new__" && bm == b) && nsOkIn K cd.ns no init
    | _, _ => false)
  | _ => false
theorem xcIn_ok {K : Frag} {h : Heap} {C : Addr} {bm0 : Option (List Value)} {no : List Str} {init : Option Value} (X : K.In h) (q : xcIn K C bm0 no init = true) : ∃ nm qn N bs bm hdct sn sub ab col dd k0 k1 k2 k3 k5 newId mN,
    h.get? C = some (excClassObj nm qn C N bs bm hdct sn sub ab col dd k0 k1 k2 k3 k5 newId) ∧ h.Ns N mN ∧ (∀ x ∈ no, mN x = none) ∧ (∀ v, init = some v → mN "__init__" = some v) ∧ ∀ b, bm0 = some b → bm = b ∧ hdct = true ∧ newId = "ValueError.__new__" := by
  unfold xcIn at q
  split at q
  · rename_i dd cd sl ho
    split at q
    · rename_i C' bm k0 k1 k2 k3 n k5 hm hs
      simp only [Bool.and_eq_true, beq_iff_eq, Bool.not_eq_true'] at q
      obtain ⟨⟨⟨rfl, hdel⟩, hb⟩, hns⟩ := q
      obtain ⟨nm, bs, mro, ns, qn, hd, sn, sub, ab, col, del⟩ := cd
      dsimp only at hm hdel hb hns
      subst hm hdel
      have hsl : sl = #[k0, k1, k2, k3, some (.builtin n), k5] := by
        obtain ⟨l⟩ := sl
        simp only at hs
        rw [hs]
      subst hsl
      obtain ⟨mN, n1, n2, n3⟩ := nsOkIn_ok X hns
      refine ⟨nm, qn, ns, bs, bm, hd, sn, sub, ab, col, dd, k0, k1, k2, k3, k5, n, mN, X _ _ ho, n1, n2, n3, fun b e => ?_⟩
      subst e
      simp only [Bool.and_eq_true, beq_iff_eq] at hb
      exact ⟨hb.2, hb.1.1, hb.1.2⟩
    · cases q
  · cases q
def fnIn (K : Frag) (f : Addr) : Bool := match K.lookup f with
  | some ⟨.type "function", _, _, _⟩ => true
  | _ => false
def twoIn (K : Frag) (C C1 fI : Addr) : Bool :=
  xcIn K C (some [.ref C1, .type "ValueError", .type "Exception", .type "BaseException", .type "object"]) [("__init__" : Str), "at", "__setattr__", "__getattribute__", "__getattr__", "__class__"] none &&
  xcIn K C1 none [("at" : Str), "__setattr__", "__getattribute__", "__getattr__", "__class__"] (some (.ref fI)) && fnIn K fI
theorem two_ok {K : Frag} {h : Heap} {C C1 fI : Addr} (q : twoIn K C C1 fI = true) (X : K.In h) : Two h C C1 fI := by
  unfold twoIn at q
  simp only [Bool.and_eq_true] at q
  obtain ⟨⟨q1, q2⟩, q3⟩ := q
  obtain ⟨nm, qn, N, bs, bm, hd, sn, sub, ab, col, dd, k0, k1, k2, k3, k5, nid, mN, a1, a2, a3, a4, a5⟩ := xcIn_ok X q1
  obtain ⟨rfl, rfl, rfl⟩ := a5 _ rfl
  obtain ⟨nm', qn', N', bs', bm', hd', sn', sub', ab', col', dd', k0', k1', k2', k3', k5', nid', mN', b1, b2, b3, b4, _⟩ := xcIn_ok X q2
  refine ⟨⟨nm, qn, N, bs, sn, sub, ab, col, dd, k0, k1, k2, k3, k5, mN, a1, a2, a3⟩, ⟨nm', qn', N', bs', bm', hd', sn', sub', ab', col', dd', k0', k1', k2', k3', k5', nid', mN', b1, b2, b4 _ rfl, b3⟩, ?_⟩
  unfold fnIn at q3
  split at q3
  · rename_i ho; exact ⟨_, X _ _ ho, rfl⟩
  · cases q3
/-- isinstance of an exception -/
theorem kitx_exc {K : Frag} {a C C1 fI : Addr} {o : Obj} (hT : ∀ h, K.In h → Two h C C1 fI) (hc : o.cls = .ref C) : KitX K (.ref a) (.ref C) (fun h => h.get? a = some o) where
  ty := fun M h _ p => hc ▸ (Looks.ld p).andThen .now
  it := fun _ h X _ => by
    obtain ⟨nm, q, N, bs, sn, sub, ab, col, dd, k0, k1, k2, k3, k5, mN, hC, _⟩ := (hT h X).c
    intro A' Q' E' s' k q
    unfold isType loadHead
    exact wpAny_bind (wpAny_loadPart (k _ _ hC) (wpAny_pure q))
  ne := fun h tp dd its n sl X htp => by
    obtain ⟨nm, q, N, bs, sn, sub, ab, col, dd, k0, k1, k2, k3, k5, mN, hC, _⟩ := (hT h X).c
    refine Bool.eq_false_iff.mpr fun q => ?_
    have e : C = tp := Value.ref.inj (beq_iff_eq.mp q)
    subst e
    have z := congrArg Obj.cls (Option.some.inj (hC.symm.trans htp))
    exact absurd z (by intro w; injection w with w; exact absurd w (by decide))
  ca := fun {prog w A E Q s} X p k => by
    obtain ⟨h, g, d, t, os⟩ := s
    exact cls2 (hT h X) p hc k
end L2
namespace M
open PySem PySem.Spec L2
def exCls (c : String) : Bool := c == "NoProgram" || c == "NoTree"
def subX (c T : String) : Bool := c == T || T == "OneError" || T == "ValueError"
/-- isinstance(e, C), e a caught exception -/
def isXV (T : String) : D → Stor → R D := fun d st => match d with
  | .loc n => (match st[n]? with
    | some (.exc c _) => if exCls c then .ok (.bl (subX c T)) st else .bad
    | _ => .bad)
  | _ => .bad
/-- e.at -/
def atV : D → Stor → R D := fun d st => match d with
  | .loc n => (match st[n]? with
    | some (.exc c (.int i)) => if exCls c then .ok (.int i) st else .bad
    | _ => .bad)
  | _ => .bad
/-- the module's exceptions -/
structure ExcK (K : PySem.W.Frag) (C1 fI CP CT : Addr) : Prop where
  nP : PySem.W.nsIn K mainGlobals (("NoProgram" : String) : Str) = some (some (.ref CP))
  nT : PySem.W.nsIn K mainGlobals (("NoTree" : String) : Str) = some (some (.ref CT))
  tP : twoIn K CP C1 fI = true
  tT : twoIn K CT C1 fI = true
  b1 : PySem.W.ktsIn K C1 "BaseException" = true
  kPT : PySem.W.kitOne K (.ref CP) (.ref CT) = some false
  kTP : PySem.W.kitOne K (.ref CT) (.ref CP) = some false
  kPV : PySem.W.kitOne K (.ref CP) (.type "ValueError") = some true
  kTV : PySem.W.kitOne K (.ref CT) (.type "ValueError") = some true
section
variable {K : PySem.W.Frag} {C1 fI CP CT : Addr}
theorem kit_self {v : Value} : PySem.W.kitOne K v v = some true := by unfold PySem.W.kitOne; rw [if_pos (by simp)]
theorem exCls_cases {c : String} (h : exCls c = true) : c = "NoProgram" ∨ c = "NoTree" := by simpa [exCls] using h
theorem ExcK.two (k : ExcK K C1 fI CP CT) {c : String} {C : Addr} (h : exCls c = true) (hn : PySem.W.nsIn K mainGlobals (c : Str) = some (some (.ref C))) : ∀ h, K.In h → Two h C C1 fI := by
  rcases exCls_cases h with rfl | rfl
  · rw [k.nP] at hn; cases hn; exact fun h X => two_ok k.tP X
  · rw [k.nT] at hn; cases hn; exact fun h X => two_ok k.tT X
theorem ExcK.bse (k : ExcK K C1 fI CP CT) (h : Heap) (X : K.In h) : ∃ nm q N bs bm hd sn sub ab col dd k0 k1 k2 k3 k5 nid, h.get? C1 = some (excClassObj nm q C1 N bs bm hd sn sub ab col dd k0 k1 k2 k3 k5 nid) ∧ bm.contains (.type "BaseException") = true := by
  obtain ⟨nm, qn, N, bs, bm, hdct, sn, sub, ab, col, dd, k0, k1, k2, k3, k5, newId, h1, h2, _⟩ := PySem.W.kts_cls X k.b1
  exact ⟨nm, qn, N, bs, bm, hdct, sn, sub, ab, col, dd, k0, k1, k2, k3, k5, newId, h1, h2⟩
/-- which class is which -/
def KitT (K : PySem.W.Frag) (CP CT : Addr) (T : String) (cv : Value) : Prop := (T = "NoProgram" ∧ cv = .ref CP) ∨ (T = "NoTree" ∧ cv = .ref CT) ∨ (T = "ValueError" ∧ cv = .type "ValueError")
theorem ExcK.kit (k : ExcK K C1 fI CP CT) {c T : String} {C : Addr} {cv : Value} (h : exCls c = true) (hn : PySem.W.nsIn K mainGlobals (c : Str) = some (some (.ref C))) (ht : KitT K CP CT T cv) : PySem.W.kitOne K (.ref C) cv = some (subX c T) := by
  rcases exCls_cases h with rfl | rfl
  · rw [k.nP] at hn; cases hn
    rcases ht with ⟨rfl, rfl⟩ | ⟨rfl, rfl⟩ | ⟨rfl, rfl⟩
    · exact kit_self
    · exact k.kPT
    · exact k.kPV
  · rw [k.nT] at hn; cases hn
    rcases ht with ⟨rfl, rfl⟩ | ⟨rfl, rfl⟩ | ⟨rfl, rfl⟩
    · exact k.kTP
    · exact kit_self
    · exact k.kTV
end
section
variable {X : Cx} {e : Expr} {ma : ME} {p p2 pos : Pos} {C1 fI CP CT : Addr}
def rIx (X : Cx) (T : String) (cv : V) : List V → Hp → VK → Prop := fun xs H Q => ∃ μ st d x, xs = [x, cv] ∧ RepS X.K μ H st ∧ RepV X.K μ H d x ∧ Post X μ H (relV X) Q (isXV T d st)
theorem call_isX {T : String} {cv : V} {cu : Value} (k : ExcK X.K C1 fI CP CT) (ht : KitT X.K CP CT T cu) (hcv : ∀ u, RelV cv u → u = cu) : CallR X (.builtin "isinstance") (rIx X T cv) := by
  rintro pins s σ H xs us Q I hr ⟨μ, st, d, x, rfl, hs, hd, hp⟩
  obtain ⟨u, w', rfl, r1, r2⟩ := vals2 hr
  cases hcv _ r2
  unfold isXV at hp
  split at hp
  · rename_i n
    split at hp
    · rename_i c d2 e1
      split at hp
      · rename_i hc
        obtain ⟨a, q1, rfl⟩ := RepV.loc_iff.mp hd
        obtain ⟨a', r3, oe, C, dx, od, v, fs, h1, h2, h3, h4, h5, h6, h7⟩ := hs.at_ n _ e1
        rw [q1] at r3; cases r3
        cases (show u = Value.ref a from r1)
        have ho : s.heap.get? a = some oe := (show ObjOk X.prog X.w H s.heap a (.frz oe (.own 0)) from I.hok a _ h1).1
        exact PySem.W.kia_one (kitx_exc (k.two hc h6) h2) I.kIn ho (k.kit hc h6 ht) (fun z => nomatch z) fun tk => ⟨.bl (subX c T), H, I.tok tk, rfl, hp.ret hs (RepV.bl_iff.mpr rfl)⟩
      · exact hp.elim
    · exact hp.elim
  · exact hp.elim
theorem je_isX {T : String} {cv : V} {cu : Value} {xT : Str} (k : ExcK X.K C1 fI CP CT) (ht : KitT X.K CP CT T cu) (hcv : ∀ u, RelV cv u → u = cu) (hT : PE X (.Name xT p2) (tC cv)) (h : JE X e ma) (hg : Gl X "isinstance") (hm : X.mg "isinstance" = none)
    (hb : bootBuiltins "isinstance" = some (.builtin "isinstance"))
    (hs1 : starEach [e, .Name xT p2] X.env = [(false, eval e X.env), (false, eval (.Name xT p2) X.env)] := by rfl) (hs2 : starEach [.Name xT p2] X.env = [(false, eval (.Name xT p2) X.env)] := by rfl) (hpl : (backTo pos (starEach [.Name xT p2] X.env)).any (·.1) = false := by rfl) :
    JE X (.Call (.Name "isinstance" p) [e, .Name xT p2] [] pos) (op1 (isXV T) ma) := by
  refine JE.of (pe_callB (call_isX k ht hcv) hg hm hb (pa_cons h (pa_cons hT pa_nil hs2) hs1) (by decide) (by decide) hs1 hpl) fun σ H Q ⟨μ, env, st, hE, hs, hp⟩ => ⟨μ, env, st, hE, hs, (Post.bind hp).imp ?_⟩
  rintro x H1 ⟨μ1, st1, d, g1, hs1, hx, hp1⟩
  exact ⟨μ1, st1, d, x, rfl, hs1, hx, hp1⟩
theorem je_isXc {T : String} {C : Addr} {xT : Str} (k : ExcK X.K C1 fI CP CT) (ht : KitT X.K CP CT T (.ref C)) (hgT : Gl X xT) (hmT : X.mg xT = some (.ref C)) (h : JE X e ma) (hg : Gl X "isinstance") (hm : X.mg "isinstance" = none)
    (hb : bootBuiltins "isinstance" = some (.builtin "isinstance")) (hdT : (xT == ("__debug__" : Str)) = false := by decide)
    (hs1 : starEach [e, .Name xT p2] X.env = [(false, eval e X.env), (false, eval (.Name xT p2) X.env)] := by rfl) (hs2 : starEach [.Name xT p2] X.env = [(false, eval (.Name xT p2) X.env)] := by rfl) (hpl : (backTo pos (starEach [.Name xT p2] X.env)).any (·.1) = false := by rfl) :
    JE X (.Call (.Name "isinstance" p) [e, .Name xT p2] [] pos) (op1 (isXV T) ma) := je_isX (cv := .ref C) k ht (fun u r => r) (pe_glob hgT hmT rfl hdT) h hg hm hb hs1 hs2 hpl
theorem je_isXv {xT : Str} (k : ExcK X.K C1 fI CP CT) (hgT : Gl X xT) (hmT : X.mg xT = none) (hv : bootBuiltins xT = some (.type "ValueError")) (h : JE X e ma) (hg : Gl X "isinstance") (hm : X.mg "isinstance" = none)
    (hb : bootBuiltins "isinstance" = some (.builtin "isinstance")) (hnT : xT ≠ "__name__" := by decide) (hdT : (xT == ("__debug__" : Str)) = false := by decide)
    (hs1 : starEach [e, .Name xT p2] X.env = [(false, eval e X.env), (false, eval (.Name xT p2) X.env)] := by rfl) (hs2 : starEach [.Name xT p2] X.env = [(false, eval (.Name xT p2) X.env)] := by rfl) (hpl : (backTo pos (starEach [.Name xT p2] X.env)).any (·.1) = false := by rfl) :
    JE X (.Call (.Name "isinstance" p) [e, .Name xT p2] [] pos) (op1 (isXV "ValueError") ma) := je_isX (cv := .ty "ValueError") k (.inr (.inr ⟨rfl, rfl⟩)) (fun u r => r) (pe_bltn hgT hmT hv rfl hnT hdT) h hg hm hb hs1 hs2 hpl
theorem je_at (k : ExcK X.K C1 fI CP CT) (he : JE X e ma) (hb : attributeBase e "at" X.env (eval e X.env) = eval e X.env := by rfl) : JE X (.Attribute e "at" pos) (op1 atV ma) := by
  rintro pins s σ H Q I ⟨μ, env, st, hE, hs, hp⟩
  refine attr_of hb (thn (he pins s σ H _ I ⟨μ, env, st, hE, hs, Post.bind hp⟩) fun u s1 ⟨x, H1, I1, rx, μ1, st1, d, g1, hs1, hd, hp1⟩ => ?_)
  unfold atV at hp1
  dsimp only at hp1
  split at hp1
  · rename_i n
    split at hp1
    · rename_i c i e1
      split at hp1
      · rename_i hc
        obtain ⟨a, q1, rfl⟩ := RepV.loc_iff.mp hd
        obtain ⟨a', r3, oe, C, dx, od, v, fs, h1, h2, h3, h4, h5, h6, h7⟩ := hs1.at_ n _ e1
        rw [q1] at r3; cases r3
        cases (show u = Value.ref a from rx)
        rw [RepV.int_iff] at h7; subst h7
        have ho : s1.heap.get? a = some oe := (show ObjOk X.prog X.w H1 s1.heap a (.frz oe (.own 0)) from I1.hok a _ h1).1
        obtain ⟨_, mA, hns, hl⟩ := (show ObjOk X.prog X.w H1 s1.heap dx (.frz od (.xd _)) from I1.hok dx _ h5)
        have hl2 := hl "at"
        obtain ⟨w, hw, rw2⟩ : ∃ w, mA "at" = some w ∧ RelV (.int i) w := by
          cases hm : mA "at" with
          | none => rw [hm] at hl2; exact hl2.elim
          | some w => rw [hm] at hl2; exact ⟨w, rfl, hl2⟩
        obtain ⟨h, g, dd, t, os⟩ := s1
        refine load2 (k.two hc h6 _ I1.kIn) ho h2 h4 h3 hns hw ?_ fun tk => ⟨.int i, H1, I1.tok tk, rw2, hp1.ret hs1 (RepV.int_iff.mpr rfl)⟩
        obtain ⟨tk, rfl⟩ : ∃ tk, w = .int i tk := by
          cases w <;> simp [RelV] at rw2
          exact ⟨_, by rw [rw2]⟩
        rfl
      · exact hp1.elim
    · exact hp1.elim
  · exact hp1.elim
end
end M
namespace L2
open PySem PySem.Spec PyProof.Rows PySem.Calls
section
variable {X : Cx}
end
end L2
namespace M
open PySem PySem.Spec L2
section
variable {X : Cx}
end
end M
namespace M
def mnL : List Int → Int
  | [] => 0
  | [n] => n
  | n :: m :: r => min n (mnL (m :: r))
theorem mnL_mem : ∀ (l : List Int), l ≠ [] → mnL l ∈ l
  | [], h => absurd rfl h
  | [n], _ => by simp [mnL]
  | n :: m :: r, _ => by
    have := mnL_mem (m :: r) (by simp)
    rw [mnL]
    rcases Int.le_total n (mnL (m :: r)) with h | h
    · rw [Int.min_eq_left h]; simp
    · rw [Int.min_eq_right h]; exact List.mem_cons_of_mem _ this
theorem mnL_le : ∀ (l : List Int) (a : Int), a ∈ l → mnL l ≤ a
  | [n], a, h => by simp at h; subst h; exact Int.le_refl _
  | n :: m :: r, a, h => by
    rw [mnL]
    rcases List.mem_cons.mp h with rfl | h
    · exact Int.min_le_left _ _
    · exact Int.le_trans (Int.min_le_right _ _) (mnL_le (m :: r) a h)
end M
namespace L2
open PySem PySem.Spec PyProof.Rows
theorem ints_of_vals : ∀ (ns : List Int) (its : List Value), Vals (ns.map V.int) its → IntsAre its ns := by
  intro ns
  induction ns with
  | nil => intro its h; cases h; exact .nil
  | cons n ns ih =>
    intro its h
    cases h with
    | cons r1 r2 =>
      obtain ⟨t, rfl⟩ := r1
      exact .cons n t (ih _ r2)
section
variable {X : Cx}
theorem call_minL (hc : X.A.handled = none) : CallR X (.builtin "min") (fun xs H Q => ∃ (p : Addr) (ns : List Int), xs = [.ref p] ∧ SqL X.K H p (ns.map V.int) ∧ ns ≠ [] ∧ Q (.int (M.mnL ns)) H) := by
  rintro pins s σ H xs us Q I hr ⟨p, ns, rfl, hq, hne, h⟩
  cases hr with
  | cons r1 r2 =>
    cases r2
    cases r1
    obtain ⟨its, rv, pl, hz⟩ := I.list hq
    have hi := ints_of_vals ns its rv
    have hl : s.heap.IsList p its.toArray := pl.isList
    obtain ⟨xs, hx⟩ := hi.allInts.items
    have hns : ns = xs.toList.map (·.1) := by rw [← hi.numsOf, ← nums_intItems, ← hx]
    have hsz : 0 < xs.size := by
      have : 0 < ns.length := List.length_pos_iff.mpr hne
      rw [hns, List.length_map, Array.length_toList] at this; exact this
    rw [hx] at hl
    refine min_intList hc hl hsz fun v h' tk hv hk => ?_
    obtain ⟨t, rfl⟩ := intItems_at hv
    obtain ⟨h1, h2⟩ := argBest_lt (numAt xs) (xs.size - 1)
    have e : numAt xs (argBest (fun i j => decide (numAt xs i < numAt xs j)) (xs.size - 1)) = M.mnL ns := by
      refine Int.le_antisymm ?_ (M.mnL_le ns _ ?_)
      · have ha := M.mnL_mem ns hne
        generalize M.mnL ns = a at ha
        rw [hns] at ha
        obtain ⟨j, hj, rfl⟩ := mem_getD ha
        rw [List.length_map, Array.length_toList] at hj
        rw [← numAt_eq]; exact h2 j (by omega)
      · rw [hns, numAt_eq]; exact getD_mem (by rw [List.length_map, Array.length_toList]; omega)
    rw [e]
    refine ⟨.int (M.mnL ns), H, I.but (fun b ob hb e => hk b ob e) (fun m' hm' => ?_), ⟨t, rfl⟩, h⟩
    exact ((Att.fr_all hm').keeps hk).ns
end
end L2
namespace M
open PySem PySem.Spec L2
def minW : List D → Stor → R D
  | [.loc n], st => match itemsAt st n with
    | some ds => (match intsOf ds with | some ns => if ns ≠ [] then .ok (.int (mnL ns)) st else .bad | none => .bad)
    | none => .bad
  | ds, st => min2V ds st
theorem call_minW {X : Cx} (hk : X.calm = true) (hc : X.A.handled = none) : CallR X (.builtin "min") (rMC X minW) := by
  rintro pins s σ H xs us Q I rv ⟨μ, st, ds, hs, hv, hp⟩
  unfold minW at hp
  split at hp
  · rename_i n
    cases e1 : itemsAt st n with
    | none => simp only [e1] at hp; exact hp.elim
    | some l =>
      simp only [e1] at hp
      cases e2 : intsOf l with
      | none => simp only [e2] at hp; exact hp.elim
      | some ns =>
        simp only [e2] at hp
        split at hp
        · rename_i hne
          obtain ⟨v, rfl, q⟩ := RepVs.one hv
          obtain ⟨p, q1, rfl⟩ := RepV.loc_iff.mp q
          obtain ⟨p', ys, r1, r2, r3⟩ := hs.items e1
          rw [q1] at r1; cases r1
          rw [ints_are e2 r3] at r2
          exact call_minL hc _ _ _ _ _ _ _ I rv ⟨p, ns, rfl, r2, hne, hp.ret hs (RepV.int_iff.mpr rfl)⟩
        · exact hp.elim
  · exact call_min2V hk _ _ _ _ _ _ _ I rv ⟨μ, st, _, hs, hv, hp⟩
end M
namespace M
open PySem PySem.Spec L2
end M
namespace L2
open PySem PySem.Spec PyProof.Rows
/-! ### tokens never grow fewer -/
theorem runs_toks {M : Model} {Γ : PySem.Ctx} {p : Pos} {t : Sem Fin} {fs : List Frame} {s s' : Shared} {e : End} (h : Runs M Γ p t fs s e s') : s.toks ≤ s'.toks := by
  induction h with
  | done | raise | yield => exact Nat.le_refl _
  | fresh _ ih => exact Nat.le_trans (Nat.le_succ _) ih
  | again _ _ ih | rule _ ih | «at» _ ih | load _ _ ih | update _ _ ih | loadIfAlive _ ih | point _ ih | alloc _ ih | ask _ ih | choose _ _ ih | os _ ih | handled _ ih | genState _ _ ih | stack _ ih | thread _ ih | newGen _ ih => exact ih
  | callSusp _ ih => exact ih
  | call _ _ i1 i2 => exact Nat.le_trans i1 i2
  | resumeFresh _ _ _ _ i1 i2 => exact Nat.le_trans i1 i2
  | resumeSuspended _ _ _ _ i1 i2 => exact Nat.le_trans i1 i2
  | resumeJustStarted _ _ _ ih => exact ih
  | resumeThrowFresh _ _ ih => exact ih
  | resumeRunning _ _ ih => exact ih
  | resumeFinished _ _ ih => exact ih
  | segRet _ _ i1 i2 => exact Nat.le_trans i1 i2
  | segGen _ _ i1 i2 => exact Nat.le_trans i1 i2
  | segSuspOut _ _ ih => exact ih
  | segSuspGen _ _ _ _ i1 i2 => exact Nat.le_trans i1 i2
theorem wakes_toks {M : Model} {Γ : PySem.Ctx} {p : Pos} {g : Nat} {r : Resume} {s s' : Shared} {res : GenResult} (h : Wakes M Γ p g r s res s') : s.toks ≤ s'.toks := by
  unfold Wakes at h
  split at h
  · exact h.elim
  · split at h
    · obtain ⟨_, _, h1, _, _, rfl⟩ := h; have q := runs_toks h1; exact q
    · obtain ⟨_, rfl⟩ := h; exact Nat.le_refl _
    · obtain ⟨_, rfl⟩ := h; exact Nat.le_refl _
  · obtain ⟨_, _, h1, _, _, rfl⟩ := h; have q := runs_toks h1; exact q
  · obtain ⟨_, rfl⟩ := h; exact Nat.le_refl _
  · obtain ⟨_, rfl⟩ := h; exact Nat.le_refl _
theorem wp_toks {α : Type} {M : Model} {Γ : PySem.Ctx} (t : Sem α) {Q : α → Pos → Shared → Prop} {E : Value → Pos → Shared → Prop} (n : Nat) : ∀ (p : Pos) (s : Shared), n ≤ s.toks → Sem.wp M Γ t Q E p s → Sem.wp M Γ t (fun a p' s' => Q a p' s' ∧ n ≤ s'.toks) E p s := by
  induction t with
  | pure a => intro p s h q; exact ⟨q, h⟩
  | raise e => intro p s h q; exact q
  | unsupported | finish | yield | fork | await | register => intro p s h q; exact q.elim
  | fresh k ih => intro p s h q; exact ih _ p _ (Nat.le_succ_of_le h) q
  | rule _ k ih | alloc _ k ih | loadIfAlive _ k ih | point _ k ih | ask k ih | os _ _ k ih | handled _ k ih | newGen _ k ih | stack k ih | thread k ih => intro p s h q; exact ih _ p _ h q
  | «at» p' k ih => intro p s h q; exact ih _ p' _ h q
  | load a _ k ih | genState a k ih => rintro p s h ⟨o, ho, q⟩; exact ⟨o, ho, ih _ p _ h q⟩
  | update a _ f k ih | choose _ _ k ih => rintro p s h ⟨ho, q⟩; exact ⟨ho, ih _ p _ h q⟩
  | call c h' g l k ih => rintro p s h ⟨r, s', hr, q⟩; exact ⟨r, s', hr, ih r p s' (Nat.le_trans h (runs_toks hr)) q⟩
  | resume g r l k ih => rintro p s h ⟨res, s', hw, q⟩; exact ⟨res, s', hw, ih _ p s' (Nat.le_trans h (wakes_toks hw)) q⟩
theorem any_toks {α : Type} {M : Model} {A : Around} {t : Sem α} {Q : α → Shared → Prop} {E : Value → Shared → Prop} {s : Shared} (h : wpAny M A t Q E s) : wpAny M A t (fun a s' => Q a s' ∧ s.toks ≤ s'.toks) E s :=
  fun Γ p hΓ => wp_toks t s.toks p s (Nat.le_refl _) (h Γ p hΓ)
/-! ### behind e there is a token; e where there is one -/
def PEp (X : Cx) (e : Expr) (t : TE) : Prop :=
  ∀ (pins : List (Addr × Obj)) (s : Shared) (σ : St) (H : Hp) (Q : VK), Inv X pins σ H s → t σ H Q → wpAny (model X.prog X.w) X.A (eval e X.env) (fun u s' => EP X pins σ Q u s' ∧ 0 < s'.toks) X.xe s
def PEn (X : Cx) (e : Expr) (t : TE) : Prop :=
  ∀ (pins : List (Addr × Obj)) (s : Shared) (σ : St) (H : Hp) (Q : VK), Inv X pins σ H s → 0 < s.toks → t σ H Q → wpAny (model X.prog X.w) X.A (eval e X.env) (EP X pins σ Q) X.xe s
section
variable {X : Cx} {a b o : Expr} {ta tb to : TE} {pos : Pos}
theorem pp_str {x j pos} : PEp X (.Constant (.str x) j pos) (tC (.str x)) := fun _ _ _ H _ I h => Calls.Constant_str ⟨⟨.str x, H, I.tok _, ⟨_, rfl⟩, h⟩, Nat.succ_pos _⟩
theorem pp_opR {op : Operator} {r : R2} (ho : OpR X (binaryOp op) r) (ha : PE X a ta) (hb : PEp X b tb) : PEp X (.BinOp a op b pos) (tOp r ta tb) := by
  intro pins s σ H Q I h
  refine wpAny_BinOp (thn (ha pins s σ H _ I h) fun v s1 ⟨x, H1, I1, r1, q1⟩ => ?_)
  refine thn (hb pins s1 σ H1 _ I1 q1) fun u s2 ⟨⟨y, H2, I2, r2, q2⟩, hp⟩ => ?_
  exact thn (any_toks (ho pins s2 σ H2 x y v u Q I2 r1 r2 q2)) fun w s3 ⟨q3, le⟩ => ⟨q3, Nat.lt_of_lt_of_le hp le⟩
theorem pp_opL {op : Operator} {r : R2} (ho : OpR X (binaryOp op) r) (ha : PEp X a ta) (hb : PE X b tb) : PEp X (.BinOp a op b pos) (tOp r ta tb) := by
  intro pins s σ H Q I h
  refine wpAny_BinOp (thn (ha pins s σ H _ I h) fun v s1 ⟨⟨x, H1, I1, r1, q1⟩, hp⟩ => ?_)
  refine thn (any_toks (hb pins s1 σ H1 _ I1 q1)) fun u s2 ⟨⟨y, H2, I2, r2, q2⟩, le1⟩ => ?_
  exact thn (any_toks (ho pins s2 σ H2 x y v u Q I2 r1 r2 q2)) fun w s3 ⟨q3, le⟩ => ⟨q3, Nat.lt_of_lt_of_le hp (Nat.le_trans le1 le)⟩
/-- two items of a display, the second one where a token is -/
theorem pa_two (ha : PEp X a ta) (hb : PEn X b tb) (hs : starEach [a, b] X.env = [(false, eval a X.env), (false, eval b X.env)] := by rfl) : PA X [a, b] (tCons ta (tCons tb tNil)) := by
  intro pos pins s σ H Q I h
  rw [hs]
  show wpAny _ _ (spliced ((false, eval a X.env) :: backTo pos [(false, eval b X.env)])) _ _ s
  refine Calls.spliced_cons (thn (ha pins s σ H _ I h) fun u s1 ⟨⟨x, H1, I1, r1, q1⟩, hp⟩ => ?_)
  show wpAny _ _ (spliced ((false, eval b X.env) :: backTo pos [])) _ _ s1
  refine Calls.spliced_cons (thn (hb pins s1 σ H1 _ I1 hp q1) fun u2 s2 ⟨y, H2, I2, r2, q2⟩ => ?_)
  exact wpAny_pure ⟨[x, y], H2, I2, .cons r1 (.cons r2 .nil), q2⟩
/-- o.replace(c, d), two unlike signs -/
def tRep (K : PySem.W.Frag) (c d : Nat) (to : TE) : TE := fun σ H Q => to σ H fun x H1 => tyV K "str" x H1 ∧ ∃ z : Str, x = .str z ∧ z.length ≤ 1000000 ∧ Q (.str (Txt.replace z ⟨#[c]⟩ ⟨#[d]⟩)) H1
theorem pn_rep {c d : Nat} {apos cpos p1 p2 : Pos} {j1 j2} (ho : PE X o to) (hcd : ((⟨#[c]⟩ : Str) == ⟨#[d]⟩) = false)
    (hbase : attributeBase o "replace" X.env (eval o X.env) = eval o X.env := by rfl)
    (hfew : ((backTo cpos (starEach [.Constant (.str ⟨#[c]⟩) j1 p1, .Constant (.str ⟨#[d]⟩) j2 p2] X.env)).all (fun x => !x.1) && (backToKw cpos (keywordEach [] X.env)).all (fun x => x.1.isSome)
      && decide ([Expr.Constant (.str ⟨#[c]⟩) j1 p1, .Constant (.str ⟨#[d]⟩) j2 p2].length + ([] : List Keyword).length + (if ([] : List Keyword).isEmpty then 0 else 1) < 30)) = true := by rfl)
    (hline : (apos.endLine == cpos.line) = true := by rfl) (hs : starEach [.Constant (.str ⟨#[c]⟩) j1 p1, .Constant (.str ⟨#[d]⟩) j2 p2] X.env = [(false, eval (.Constant (.str ⟨#[c]⟩) j1 p1) X.env), (false, eval (.Constant (.str ⟨#[d]⟩) j2 p2) X.env)] := by rfl) :
    PEn X (.Call (.Attribute o "replace" apos) [.Constant (.str ⟨#[c]⟩) j1 p1, .Constant (.str ⟨#[d]⟩) j2 p2] [] cpos) (tRep X.K c d to) := by
  intro pins s σ H Q I hp h
  refine wpAny_Call_method_late hbase hfew hline rfl (thn (any_toks (ho pins s σ H _ I h)) fun v s1 ⟨⟨x, H1, I1, r1, ty, z, ez, hz, q1⟩, le⟩ => ?_)
  obtain ⟨h1, h2⟩ := tyV_is I1 r1 ty
  refine ⟨"str", "str.replace", PySem.F.plainAttrs_str, PySem.F.slot_str_replace, PySem.F.type_str_replace, h1, h2, ?_⟩
  subst ez
  obtain ⟨t, rfl⟩ := r1
  rw [hs]
  refine Calls.callWith_builtin rfl (Calls.evalArgs_plain ?_)
  show wpAny _ _ (spliced ((false, eval _ X.env) :: backTo cpos [(false, eval _ X.env)])) _ _ s1
  refine Calls.spliced_cons (Calls.Constant_str ?_)
  show wpAny _ _ (spliced ((false, eval _ X.env) :: backTo cpos [])) _ _ _
  refine Calls.spliced_cons (Calls.Constant_str ?_)
  refine wpAny_pure ?_
  have hp1 : 0 < s1.toks := Nat.lt_of_lt_of_le hp le
  refine SC.replace (by show s1.toks ≠ 0; omega) (by show s1.toks + 1 ≠ 0; omega) (by show s1.toks ≠ s1.toks + 1; omega) hcd (by
    have : (⟨#[d]⟩ : Str).length = 1 := rfl
    rw [this]; omega) fun t' k => ?_
  exact ⟨.str (Txt.replace z ⟨#[c]⟩ ⟨#[d]⟩), H1, I1.tok _, ⟨t', rfl⟩, q1⟩
/-- x.upper() -/
theorem mt_upperS : MtR X "str.upper" (fun x xs H Q => ∃ z : Str, x = .str z ∧ xs = [] ∧ z.length ≤ 1000000 ∧ Q (.str (Txt.upper z)) H) := by
  rintro pins s σ H x xs v us Q I rx rxs ⟨z, rfl, rfl, hz, h⟩
  obtain ⟨t, rfl⟩ := rx
  cases rxs
  exact SCL.upper (by omega) fun _ => ⟨.str (Txt.upper z), H, I.tok _, ⟨_, rfl⟩, h⟩
end
end L2
namespace L2
open PySem PySem.Spec PyProof.Rows
/-! ### min(l, default=d), l a list of ints -/
theorem dfl_name : (toString "min" ++ toString ".loop" : String) = "min.loop" := by decide
theorem args_minD (a d : Value) : argsOk "min" ⟨[a], [(Str.ofString "default", d)]⟩ := by unfold argsOk; kernel_rfl
section
variable {prog : Program} {w : World} {G : Around} {R : Result → Shared → Prop} {it : Addr} {fp wr : List Addr} {n : Nat} {P : Nat → Value → Prop} {Sx : Nat → Heap → Prop} {dv : Value}
/-- the walk from place j on, vb the best so far -/
theorem minD_go (V : Walks prog w G.in1 it fp wr n P Sx) (bt : Nat → Nat → Bool) (hlt : CmpOf prog w G.in1 .Lt P bt) (B : Addr) (hB : B ∉ fp) (left : Nat) :
    ∀ (j : Nat) (z : Shared) (vb : Value) (c : Nat), n = j + 1 + left → Sx (j + 1) z.heap → P (argBest bt j) vb → z.heap.get? B = some { cls := .type "list", dict := none, data := .seq #[vb, vb] c, slots := #[] } →
    (∀ v g tk, P (argBest bt (n - 1)) v → (∀ b o, b ∉ wr → b ≠ B → z.heap.get? b = some o → g.get? b = some o) → R (.ok (.ret v)) { z with heap := g, toks := tk }) →
    codeAny (model prog w) G (.builtin "min.loop" ⟨[.ref it, .none, .ref B], [(Str.ofString "default", dv)]⟩) R z := by
  have nB : B ∉ wr := fun q => hB (V.sub _ q)
  induction left with
  | zero =>
    intro j z vb c hn hs hp hb done
    refine codeAny_builtin F.entry_min_loop ?_
    rw [Around.under_plainId F.plain_min_loop _]
    show wpAny _ G.in1 (seqItems? (.ref B) >>= _) _ _ z
    refine wpAny_bind (wpAny_seqItems hb rfl ?_)
    show wpAny _ G.in1 (tryCatch (pyNext (.ref it)) _ >>= _) _ _ z
    refine wpAny_bind (wpAny_tryCatch (V.done z _ _ (by rw [hn]; exact hs) fun g tk kp => ?_))
    have hb' := kp B _ nB hb
    show wpAny _ G.in1 (updateSeq B (fun _ => #[]) >>= _) _ _ _
    refine wpAny_bind (wpAny_updateSeq hb' rfl (wpAny_bind (wpAny_letGo (wpAny_pure ?_))))
    exact done vb _ tk (by rw [show n - 1 = j by omega]; exact hp) fun b o h1 h2 e => (Heap.get?_update_other _ _ (Ne.symm h2)).trans (kp b o h1 e)
  | succ left ih =>
    intro j z vb c hn hs hp hb done
    refine codeAny_builtin F.entry_min_loop ?_
    rw [Around.under_plainId F.plain_min_loop _]
    show wpAny _ G.in1 (seqItems? (.ref B) >>= _) _ _ z
    refine wpAny_bind (wpAny_seqItems hb rfl ?_)
    show wpAny _ G.in1 (tryCatch (pyNext (.ref it)) _ >>= _) _ _ z
    refine wpAny_bind (wpAny_tryCatch (V.item (j + 1) z _ _ (by omega) hs fun v g tk hv hs2 kp => ?_))
    have hb' := kp B _ nB hb
    show wpAny _ G.in1 (tryCatch (holding [v, v] (richCompare .Lt v vb >>= _)) _ >>= _) _ _ _
    refine wpAny_bind (wpAny_tryCatch (wpAny_holding (wpAny_bind (hlt (j + 1) (argBest bt j) v vb _ _ _ hv hp ?_))))
    refine wpAny_bind (wpAny_holding (wpAny_truthy_bool (wpAny_bind (wpAny_letGo (wpAny_pure ?_)))))
    by_cases hq : bt (j + 1) (argBest bt j) = true
    · have best : argBest bt (j + 1) = j + 1 := by rw [argBest, if_pos hq]
      rw [if_pos hq]
      refine wpAny_bind (wpAny_updateSeq hb' rfl (wpAny_bind (wpAny_letGo ?_)))
      rw [dfl_name]
      refine wpAny_pure ⟨plainId_quiet F.plain_min_loop _, ih (j + 1) _ v _ (by omega) (V.frame _ _ _ hs2 fun b hf o e => ?_) (by rw [best]; exact hv) (Heap.get?_update_self _ hb' rfl) fun u g2 tk2 hu kp2 => ?_⟩
      · exact (Heap.get?_update_other _ _ (fun q : B = b => hB (q ▸ hf))).trans e
      · exact done u g2 tk2 hu fun b o h1 h2 e => kp2 b o h1 h2 ((Heap.get?_update_other _ _ (Ne.symm h2)).trans (kp b o h1 e))
    · have best : argBest bt (j + 1) = argBest bt j := by rw [argBest, if_neg hq]
      rw [if_neg hq]
      refine wpAny_bind (wpAny_letGo ?_)
      rw [dfl_name]
      refine wpAny_pure ⟨plainId_quiet F.plain_min_loop _, ih (j + 1) _ vb c (by omega) hs2 (by rw [best]; exact hp) hb' fun u g2 tk2 hu kp2 => ?_⟩
      exact done u g2 tk2 hu fun b o h1 h2 e => kp2 b o h1 h2 (kp b o h1 e)
/-- the first turn: nothing there, or one item -/
theorem minD_first (V : Walks prog w G.in1 it fp wr n P Sx) (bt : Nat → Nat → Bool) (hlt : CmpOf prog w G.in1 .Lt P bt) (B : Addr) (hB : B ∉ fp) {z : Shared} {c : Nat} (hs : Sx 0 z.heap)
    (hb : z.heap.get? B = some { cls := .type "list", dict := none, data := .seq #[] c, slots := #[] })
    (none_ : n = 0 → ∀ g tk, (∀ b o, b ∉ wr → b ≠ B → z.heap.get? b = some o → g.get? b = some o) → R (.ok (.ret dv)) { z with heap := g, toks := tk })
    (done : 0 < n → ∀ v g tk, P (argBest bt (n - 1)) v → (∀ b o, b ∉ wr → b ≠ B → z.heap.get? b = some o → g.get? b = some o) → R (.ok (.ret v)) { z with heap := g, toks := tk }) :
    codeAny (model prog w) G (.builtin "min.loop" ⟨[.ref it, .none, .ref B], [(Str.ofString "default", dv)]⟩) R z := by
  have nB : B ∉ wr := fun q => hB (V.sub _ q)
  refine codeAny_builtin F.entry_min_loop ?_
  rw [Around.under_plainId F.plain_min_loop _]
  show wpAny _ G.in1 (seqItems? (.ref B) >>= _) _ _ z
  refine wpAny_bind (wpAny_seqItems hb rfl ?_)
  show wpAny _ G.in1 (tryCatch (pyNext (.ref it)) _ >>= _) _ _ z
  by_cases h0 : n = 0
  · refine wpAny_bind (wpAny_tryCatch (V.done z _ _ (by rw [h0]; exact hs) fun g tk kp => ?_))
    refine wpAny_bind (wpAny_rule (wpAny_pure ?_))
    exact none_ h0 g tk fun b o h1 _ e => kp b o h1 e
  · refine wpAny_bind (wpAny_tryCatch (V.item 0 z _ _ (by omega) hs fun v g tk hv hs2 kp => ?_))
    have hb' := kp B _ nB hb
    show wpAny _ G.in1 (updateSeq B (fun _ => #[v, v]) >>= _) _ _ _
    refine wpAny_bind (wpAny_updateSeq hb' rfl ?_)
    rw [dfl_name]
    refine wpAny_pure ⟨plainId_quiet F.plain_min_loop _, minD_go V bt hlt B hB (n - 1) 0 _ v _ (by omega) (V.frame _ _ _ hs2 fun b hf o e => ?_) hv (Heap.get?_update_self _ hb' rfl) fun u g2 tk2 hu kp2 => ?_⟩
    · exact (Heap.get?_update_other _ _ (fun q : B = b => hB (q ▸ hf))).trans e
    · exact done (by omega) u g2 tk2 hu fun b o h1 h2 e => kp2 b o h1 h2 ((Heap.get?_update_other _ _ (Ne.symm h2)).trans (kp b o h1 e))
end
section
variable {prog : Program} {w : World} {G : Around} {E : Value → Shared → Prop} {z : Shared}
theorem minD_list {l : Addr} {xs : Array (Int × Tok)} {d : Value} {Q : Value → Shared → Prop} (hh : G.handled = none) (hl : z.heap.IsList l (intItems xs))
    (none_ : xs.size = 0 → ∀ g tk, (∀ b o, z.heap.get? b = some o → g.get? b = some o) → Q d { z with heap := g, toks := tk })
    (done : 0 < xs.size → ∀ v g tk, (intItems xs)[argBest (fun i j => decide (numAt xs i < numAt xs j)) (xs.size - 1)]? = some v → (∀ b o, z.heap.get? b = some o → g.get? b = some o) → Q v { z with heap := g, toks := tk }) :
    wpAny (model prog w) G (call (.builtin "min") [.ref l] [(Str.ofString "default", d)]) Q E z := by
  obtain ⟨ol, hol, hcl, cl, hdl⟩ := id hl
  have hne : l ≠ z.heap.objs.size := Nat.ne_of_lt (Heap.lt_size hol)
  have hsz : (intItems xs).size = xs.size := by simp [intItems]
  refine wpAny_call (codeAny_call_builtin F.plain_min F.entry_min ?_)
  have sg := args_minD (.ref l) d
  unfold argsOk at sg
  have body : wpAny (model prog w) G.in1 (Builtin.«min» ⟨[.ref l], [(Str.ofString "default", d)]⟩) (fun fin s' => match fin with
      | .done f => (match (Except.ok f : Result) with | .ok (.ret v) => Q v s' | .ok _ => False | .error e => E e s')
      | .again c' => c'.quiet = true ∧ codeAny (model prog w) G c' (fun r s' => match r with | .ok (.ret v) => Q v s' | .ok _ => False | .error e => E e s') s') E z := by
    show wpAny _ G.in1 (Builtin.Builtins.bindParams "min" ["key", "default"] 0 ⟨[], [(Str.ofString "default", d)]⟩ >>= _) _ _ z
    refine wpAny_bind (wpAny_of_eq (show Builtin.Builtins.bindParams "min" ["key", "default"] 0 ⟨[], [(Str.ofString "default", d)]⟩ = pure [none, some d] from rfl) ?_)
    refine wpAny_bind (wpAny_pure (wpAny_bind ?_))
    refine iter_intList hl fun z2 e st hfp hlI => ?_
    subst e
    refine wpAny_bind (wpAny_newObj_type ?_)
    rw [dfl_name]
    have nf := fun hm => Nat.lt_irrefl _ (hfp _ hm)
    refine wpAny_pure ⟨plainId_quiet F.plain_min_loop _, ?_⟩
    have V := Walks.list (prog := prog) (w := w) (A := G.in1) hh _ l hlI (intItems xs)
    refine minD_first V _ (CmpOf.ints_lt (numAt xs) (fun _ _ => intItems_at)) _ nf (V.frame _ _ _ st fun b _ o e => Heap.get?_push_of_some _ e) (Heap.get?_push_size _ rfl) (fun h0 g tk kp => ?_) (fun h0 v g tk hv kp => ?_)
    · exact none_ (by rw [← hsz]; exact h0) g tk (old_kept fun b o hw e => kp b o hw (Nat.ne_of_lt (Heap.lt_size e)) (Heap.get?_push_of_some _ e))
    · exact done (by rw [← hsz]; exact h0) v g tk (by rw [hsz] at hv; exact hv) (old_kept fun b o hw e => kp b o hw (Nat.ne_of_lt (Heap.lt_size e)) (Heap.get?_push_of_some _ e))
  simp only [checkBuiltinCall, F.kind_min]
  cases hsig : Manifest.signature? "min" with
  | none => exact wpAny_pure body
  | some sig =>
    simp only [hsig] at sg
    have h2 : Bind.checkArgs "min" sig ⟨[.ref l], [(Str.ofString "default", d)]⟩ = pure () := sg
    show wpAny _ G.in1 (Bind.checkArgs "min" sig ⟨[.ref l], [(Str.ofString "default", d)]⟩) _ _ z
    rw [h2]; exact wpAny_pure body
end
end L2
namespace L2
open PySem PySem.Spec PyProof.Rows
section
variable {X : Cx} {a b : Expr} {ta tb : TE} {pos p kp : Pos} {x : Str}
def rMinD (X : Cx) : R2 := fun x y H Q => ∃ (p : Addr) (ns : List Int), x = .ref p ∧ SqL X.K H p (ns.map V.int) ∧ (ns = [] → Q y H) ∧ (ns ≠ [] → Q (.int (M.mnL ns)) H)
theorem pe_minD (hc : X.A.handled = none) (hg : Gl X x) (hm : X.mg x = none) (hv : bootBuiltins x = some (.builtin "min")) (ha : PE X a ta) (hb : PE X b tb) (hn : x ≠ "__name__" := by decide) (hdb : (x == ("__debug__" : Str)) = false := by decide)
    (hs : starEach [a] X.env = [(false, eval a X.env)] := by rfl) : PE X (.Call (.Name x p) [a] [⟨some (Str.ofString "default"), b, kp⟩] pos) (tOp (rMinD X) ta tb) := by
  intro pins s σ H Q I h
  refine wpAny_Call_Name_kw (ld_blt I hg hm hv ?_ hn hdb)
  have hb1 : backTo pos (starEach [a] X.env) = (false, eval a X.env) :: backTo pos (starEach [] X.env) := by rw [hs]; rfl
  refine callWith_kw (e := a) (rest := []) ?_ hb1 (by rw [hs]; rfl) rfl rfl
  rw [hb1]
  refine Calls.spliced_cons (thn (ha pins s σ H _ I h) fun u s1 ⟨y, H1, I1, r1, q1⟩ => ?_)
  refine wpAny_pure ?_
  refine kws_cons (thn (hb pins s1 σ H1 _ I1 q1) fun u2 s2 ⟨y2, H2, I2, r2, q2⟩ => ?_)
  refine evalAll_nil ?_
  obtain ⟨l, ns, rfl, hq, n1, n2⟩ := q2
  cases r1
  obtain ⟨its, rv, pl, hz⟩ := I2.list hq
  have hi := ints_of_vals ns its rv
  have hl : s2.heap.IsList l its.toArray := pl.isList
  obtain ⟨xs, hx⟩ := hi.allInts.items
  have hns : ns = xs.toList.map (·.1) := by rw [← hi.numsOf, ← nums_intItems, ← hx]
  have hlen : ns.length = xs.size := by rw [hns, List.length_map, Array.length_toList]
  rw [hx] at hl
  refine minD_list hc hl (fun h0 g tk kp => ?_) fun h0 v g tk hv kp => ?_
  · have e : ns = [] := List.length_eq_zero_iff.mp (by omega)
    refine ⟨y2, H2, I2.but (fun b ob hb e => kp b ob e) (fun m' hm' => ((Att.fr_all hm').keeps kp).ns), r2, n1 e⟩
  · have hne : ns ≠ [] := fun z => by rw [z] at hlen; simp at hlen; omega
    obtain ⟨t, rfl⟩ := intItems_at hv
    obtain ⟨h1, h2⟩ := argBest_lt (numAt xs) (xs.size - 1)
    have e : numAt xs (argBest (fun i j => decide (numAt xs i < numAt xs j)) (xs.size - 1)) = M.mnL ns := by
      refine Int.le_antisymm ?_ (M.mnL_le ns _ ?_)
      · have hm := M.mnL_mem ns hne
        generalize M.mnL ns = q at hm
        rw [hns] at hm
        obtain ⟨j, hj, rfl⟩ := mem_getD hm
        rw [List.length_map, Array.length_toList] at hj
        rw [← numAt_eq]; exact h2 j (by omega)
      · rw [hns, numAt_eq]; exact getD_mem (by rw [List.length_map, Array.length_toList]; omega)
    rw [e]
    exact ⟨.int (M.mnL ns), H2, I2.but (fun b ob hb e => kp b ob e) (fun m' hm' => ((Att.fr_all hm').keeps kp).ns), ⟨t, rfl⟩, n2 hne⟩
end
end L2
namespace M
open PySem PySem.Spec L2
/-- min(l, default=d) -/
def minDV : D → D → Stor → R D
  | .loc n, d, st => match itemsAt st n with
    | some ds => (match intsOf ds with | some ns => if ns = [] then .ok d st else .ok (.int (mnL ns)) st | none => .bad)
    | none => .bad
  | _, _, _ => .bad
section
variable {X : Cx} {a b o : Expr} {ma mb mo : ME} {pos p kp : Pos} {x : Str}
theorem je_minD (hc : X.A.handled = none) (hg : Gl X x) (hm : X.mg x = none) (hv : bootBuiltins x = some (.builtin "min")) (ha : JE X a ma) (hb : JE X b mb) (hn : x ≠ "__name__" := by decide) (hdb : (x == ("__debug__" : Str)) = false := by decide)
    (hs : starEach [a] X.env = [(false, eval a X.env)] := by rfl) : JE X (.Call (.Name x p) [a] [⟨some (Str.ofString "default"), b, kp⟩] pos) (op2 minDV ma mb) := by
  refine JE.of (pe_minD hc hg hm hv ha hb hn hdb hs) fun σ H Q h => ?_
  obtain ⟨μ, env, st, he, hs, hp⟩ := tM_two h
  refine ⟨μ, env, st, he, hs, hp.imp ?_⟩
  intro y H1 h1
  obtain ⟨μ1, env1, st1, he1, hs1, hp1⟩ := h1
  refine ⟨μ1, env1, st1, he1, hs1, hp1.imp ?_⟩
  rintro y2 H2 ⟨μ2, st2, d1, d2, hs2, hx, hy, hp2⟩
  cases d1 with
  | loc n =>
    unfold minDV at hp2
    cases e1 : itemsAt st2 n with
    | none => simp only [e1] at hp2; exact hp2.elim
    | some l =>
      simp only [e1] at hp2
      cases e2 : intsOf l with
      | none => simp only [e2] at hp2; exact hp2.elim
      | some ns =>
        simp only [e2] at hp2
        obtain ⟨q, q1, rfl⟩ := RepV.loc_iff.mp hx
        obtain ⟨p', ys, r1, r2, r3⟩ := hs2.items e1
        rw [q1] at r1; cases r1
        rw [ints_are e2 r3] at r2
        refine ⟨q, ns, rfl, r2, fun z => ?_, fun z => ?_⟩
        · rw [if_pos z] at hp2; exact hp2.ret hs2 hy
        · rw [if_neg z] at hp2; exact hp2.ret hs2 (RepV.int_iff.mpr rfl)
  | _ => exact hp2.elim
/-- x.upper(), plain signs -/
def upperV : D → List D → Stor → R D
  | .str cs, [], st => if cs.length ≤ 1000000 ∧ cs.all (fun c => decide (c < 128)) = true then .ok (.str (cs.map PyProof.Rows.up1)) st else .bad
  | _, _, _ => .bad
theorem mt_upperV : MtR X "str.upper" (rMM X upperV) := by
  refine MtR.weak mt_upperS ?_
  rintro x xs H Q ⟨μ, st, d, ds, hs, hx, hxs, hp⟩
  unfold upperV at hp
  split at hp
  · rename_i cs
    split at hp
    · rename_i hh
      obtain rfl := RepV.str_iff.mp hx
      cases hxs
      refine ⟨strOf cs, rfl, rfl, by simpa [Str.length, strOf] using hh.1, ?_⟩
      have e : Txt.upper (strOf cs) = strOf (cs.map PyProof.Rows.up1) := by
        rw [PyProof.Rows.upper_ascii (fun c hc => by
          have : c ∈ cs := by simpa [strOf] using hc
          simpa using List.all_eq_true.mp hh.2 c this)]
        simp [strOf]
      rw [e]
      exact hp.ret hs (RepV.str_iff.mpr rfl)
    · exact hp.elim
  · exact hp.elim
/-- x.replace(c, d) -/
def replE (c d : Nat) (m : ME) : ME := fun env st => (m env st).bind fun x st1 => match x with
  | .str cs => if cs.length ≤ 1000000 then .ok (.str (joinL [d] (splitL c cs))) st1 else .bad
  | _ => .bad
def JEp (X : Cx) (e : Expr) (m : ME) : Prop := PEp X e (tM X m)
def JEn (X : Cx) (e : Expr) (m : ME) : Prop := PEn X e (tM X m)
theorem jp_str {y : Str} {j pos} (cs : List Nat) (h : y = strOf cs := by decide +kernel) : JEp X (.Constant (.str y) j pos) (ct (.str cs)) := fun pins s σ H Q I ⟨μ, env, st, he, hs, hp⟩ =>
  pp_str pins s σ H Q I (hp.ret hs (RepV.str_iff.mpr (by rw [h])))
theorem jp_opR {op : Operator} {g : D → D → Stor → R D} (ho : OpR X (binaryOp op) (rM X g)) (ha : JE X a ma) (hb : JEp X b mb) : JEp X (.BinOp a op b pos) (op2 g ma mb) := fun pins s σ H Q I h =>
  pp_opR ho ha hb pins s σ H Q I (tM_two h)
theorem jp_opL {op : Operator} {g : D → D → Stor → R D} (ho : OpR X (binaryOp op) (rM X g)) (ha : JEp X a ma) (hb : JE X b mb) : JEp X (.BinOp a op b pos) (op2 g ma mb) := fun pins s σ H Q I h =>
  pp_opL ho ha hb pins s σ H Q I (tM_two h)
theorem ja_two (ha : JEp X a ma) (hb : JEn X b mb) (hs : starEach [a, b] X.env = [(false, eval a X.env), (false, eval b X.env)] := by rfl) : JA X [a, b] (consA ma (consA mb nilA)) := by
  refine JA.of (pa_two ha hb hs) fun σ H Q ⟨μ, env, st, hE, hs, hp⟩ => ⟨μ, env, st, hE, hs, hp.bind.imp ?_⟩
  rintro x H1 ⟨μ1, st1, d, g1, hs1, hx, hp1⟩
  have hp2 := Post.bind (rel := relA X) (show Post X μ1 H1 (relA X) Q ((consA mb nilA env st1).bind fun xs st2 => R.ok (d :: xs) st2) from hp1)
  have hp3 := Post.bind (rel := relV X) (show Post X μ1 H1 (relA X) _ ((mb env st1).bind fun d2 st2 => (nilA env st2).bind fun ds st3 => R.ok (d2 :: ds) st3) from hp2)
  refine ⟨μ1, env, st1, hE.mono g1, hs1, hp3.imp ?_⟩
  rintro y H2 ⟨μ2, st2, d2, g2, hs2, hy, hp4⟩
  have hp5 : Post X μ2 H2 (relA X) _ (R.ok [d2] st2) := hp4
  obtain ⟨μ3, st3, ds3, g3, hs3, hds, hp6⟩ := hp5 [y] H2 μ2 (Grow.refl _ _) hs2 (RepVs.cons hy .nil)
  exact hp6 [x, y] H2 μ3 (Grow.refl _ _) hs3 (RepVs.cons (hx.mono g3 _) hds)
theorem jn_rep {c d : Nat} {apos cpos p1 p2 : Pos} {j1 j2} (ho : JE X o mo) (hcd : ((⟨#[c]⟩ : Str) == ⟨#[d]⟩) = false)
    (hbase : attributeBase o "replace" X.env (eval o X.env) = eval o X.env := by rfl)
    (hfew : ((backTo cpos (starEach [.Constant (.str ⟨#[c]⟩) j1 p1, .Constant (.str ⟨#[d]⟩) j2 p2] X.env)).all (fun x => !x.1) && (backToKw cpos (keywordEach [] X.env)).all (fun x => x.1.isSome)
      && decide ([Expr.Constant (.str ⟨#[c]⟩) j1 p1, .Constant (.str ⟨#[d]⟩) j2 p2].length + ([] : List Keyword).length + (if ([] : List Keyword).isEmpty then 0 else 1) < 30)) = true := by rfl)
    (hline : (apos.endLine == cpos.line) = true := by rfl) (hs : starEach [.Constant (.str ⟨#[c]⟩) j1 p1, .Constant (.str ⟨#[d]⟩) j2 p2] X.env = [(false, eval (.Constant (.str ⟨#[c]⟩) j1 p1) X.env), (false, eval (.Constant (.str ⟨#[d]⟩) j2 p2) X.env)] := by rfl) :
    JEn X (.Call (.Attribute o "replace" apos) [.Constant (.str ⟨#[c]⟩) j1 p1, .Constant (.str ⟨#[d]⟩) j2 p2] [] cpos) (replE c d mo) := fun pins s σ H Q I hp ⟨μ, env, st, hE, hs', h⟩ => by
  refine pn_rep ho hcd hbase hfew hline hs pins s σ H Q I hp ⟨μ, env, st, hE, hs', h.bind.imp ?_⟩
  rintro x H1 ⟨μ1, st1, q, g1, hs1, hx, hp1⟩
  cases q with
  | str cs =>
    dsimp only at hp1
    split at hp1
    · rename_i hl
      obtain rfl := RepV.str_iff.mp hx
      refine ⟨rfl, strOf cs, rfl, by simpa [Str.length, strOf] using hl, hp1.ret hs1 (RepV.str_iff.mpr ?_)⟩
      rw [PySem.StrLaws.replace_one]
      have e1 := splitM_eq c cs
      unfold splitM at e1
      congr 1
      refine str_ext ?_
      rw [join_toList, show (⟨#[c]⟩ : Str) = strOf [c] from rfl, e1]
    · exact hp1.elim
  | _ => exact hp1.elim
end
end M
set_option maxHeartbeats 0
namespace Law
open PySem PySem.Spec L2 M
def top (i : Nat) : Stmt := PySem.Challenge.pw_oneofall_k15_lines_that_tell_no_row.main.body.getD i (.Pass ⟨0, 0, 0, 0⟩)
abbrev s_p_counter_read : Stmt := top 8
abbrev s_p_row_of_line : Stmt := top 9
abbrev s_p_is_number : Stmt := top 10
abbrev s_l_cell_at : Stmt := top 12
abbrev s_l_mixed : Stmt := top 13
abbrev s_l_line : Stmt := top 14
abbrev s_l_spoilt : Stmt := top 15
abbrev s_l_numbered : Stmt := top 16
abbrev s_l_refused : Stmt := top 17
abbrev s_p_law : Stmt := top 18
abbrev s_init : Stmt := (clsBody (top 1)).getD 0 (.Pass ⟨0, 0, 0, 0⟩)
/-! ### the denotations -/
noncomputable def b_p_is_number : MS :=
    (seqS (ifS (orT (tB1 (op2 (eqV 200) (vr 0) (ct (.str [])))) (tB1 (op2 gtV (callE lenV (consA (vr 0) nilA)) (ct (.int 3))))) (retS (ct (.bl false))) skipS)
    (seqS (ifS (andT (tB1 (op2 (eqV 200) (op2 ixV (vr 0) (ct (.int 0))) (ct (.str [48])))) (tB1 (op2 (neV 200) (vr 0) (ct (.str [48]))))) (retS (ct (.bl false))) skipS)
    (retS (callE (allV fun bs => bs.all fun b => b) (consA (compE [none] (strI (vr 0)) (nameG 0) yesT (op2 inSV (vr 0) (ct (.str [48, 49, 50, 51, 52, 53, 54, 55, 56, 57])))) nilA)))))
noncomputable def F_p_is_number : FD := gcF (fnM 1 b_p_is_number)
noncomputable def b_p_row_of_line : MS :=
    (seqS (setS 1 (methE "str" splitV (vr 0) (consA (ct (.str [32])) nilA)))
    (seqS (ifS (tB1 (op2 (neV 200) (callE lenV (consA (vr 1) nilA)) (tabGE [([117, 112], .int 3), ([100, 111, 119, 110], .int 4)] (op2 ixV (vr 1) (ct (.int 0)))))) (retS (ct .non)) skipS)
    (seqS (ifS (notT (tru (callE (allV fun bs => bs.all fun b => b) (consA (compE [none] (seqI (slE (vr 1) (inP (ct (.int 1))) noP)) (nameG 0) yesT (callF F_p_is_number [] (consA (vr 0) nilA))) nilA)))) (retS (ct .non)) skipS)
    (retS (callE tupleC (consA (op2 addV (slE (vr 1) noP (inP (ct (.int 1)))) (compE [none] (seqI (slE (vr 1) (inP (ct (.int 1))) noP)) (nameG 0) yesT (callE intW (consA (vr 0) nilA)))) nilA))))))
noncomputable def F_p_row_of_line : FD := gcF (fnM 2 b_p_row_of_line)
noncomputable def b_p_counter_read : MS :=
    (seqS (ifS (tB1 (op2 (eqV 200) (vr 0) (ct (.str [])))) (retS (lstE nilA)) skipS)
    (seqS (setS 1 (lstE nilA))
    (seqS (forS (enumI (consA (methE "str" splitV (vr 0) (consA (ct (.str [10])) nilA)) nilA)) (tupG 2 (consG (nameG 2) (consG (nameG 3) nilG))) (seqS (setS 4 (callF F_p_row_of_line [] (consA (vr 3) nilA)))
    (seqS (ifS (tB1 (op2 isNoneV (vr 4) (ct .non))) (raiseS "NoProgram" (consA (vr 2) nilA)) skipS)
    (exprS (methE "list" appendV (vr 1) (consA (vr 4) nilA))))))
    (retS (vr 1)))))
noncomputable def F_p_counter_read : FD := gcFX (fnM 5 b_p_counter_read)
noncomputable def b_l_cell_at : MS :=
    (seqS (ifS (tB1 (op2 ltV (vr 1) (callE lenV (consA (vr 0) nilA)))) (retS (op2 ixV (vr 0) (vr 1))) skipS)
    (retS (ct (.int 0))))
noncomputable def F_l_cell_at : FD := gcF (fnM 2 b_l_cell_at)
noncomputable def b_l_mixed : MS :=
    (seqS (setS 2 (op2 addV (op2 addV (op2 modV (vr 0) (ct (.int 1000000007))) (op2 mulV (ct (.int 7919)) (vr 1))) (ct (.int 13))))
    (retS (op2 fdivV (op2 modV (op2 mulV (vr 2) (vr 2)) (ct (.int 998244353))) (ct (.int 3)))))
noncomputable def F_l_mixed : FD := gcF (fnM 3 b_l_mixed)
noncomputable def b_l_line : MS :=
    (seqS (setS 1 (lstE nilA))
    (seqS (forS (range1I (consA (ct (.int 3)) nilA)) (nameG 2) (seqS (setS 3 (op2 modV (callF F_l_mixed [] (consA (vr 0) (consA (op2 addV (vr 2) (ct (.int 9))) nilA))) (ct (.int 2))))
    (exprS (methE "list" appendV (vr 1) (consA (callE strW (consA (op2 modV (callF F_l_mixed [] (consA (vr 0) (consA (vr 2) nilA))) (op2 ixV (lstE (consA (ct (.int 10)) (consA (ct (.int 1000)) nilA))) (vr 3))) nilA)) nilA)))))
    (seqS (ifS (tB1 (op2 (eqV 200) (op2 modV (callF F_l_mixed [] (consA (vr 0) (consA (ct (.int 5)) nilA))) (ct (.int 2))) (ct (.int 0)))) (retS (op2 addV (op2 addV (op2 addV (ct (.str [117, 112, 32])) (op2 ixV (vr 1) (ct (.int 0)))) (ct (.str [32]))) (op2 ixV (vr 1) (ct (.int 1))))) skipS)
    (retS (op2 addV (ct (.str [100, 111, 119, 110, 32])) (methE "str" joinV (ct (.str [32])) (consA (vr 1) nilA)))))))
noncomputable def F_l_line : FD := gcF (fnM 4 b_l_line)
noncomputable def b_l_spoilt : MS :=
    (seqS (setS 2 (methE "str" splitV (vr 0) (consA (ct (.str [32])) nilA)))
    (seqS (setS 3 (op2 addV (ct (.int 1)) (op2 modV (op2 fdivV (vr 1) (ct (.int 17))) (op2 subV (callE lenV (consA (vr 2) nilA)) (ct (.int 1))))))
    (seqS (setS 4 (op2 ixV (ct (.str [97, 98, 122, 45, 43, 46, 44, 95, 47, 58, 59, 39, 33, 120])) (op2 modV (op2 fdivV (vr 1) (ct (.int 64))) (ct (.int 14)))))
    (seqS (setS 5 (op2 addV (methE "str" joinV (ct (.str [32])) (consA (slE (vr 2) noP (inP (vr 3))) nilA)) (ct (.str [32]))))
    (seqS (setS 6 (methE "str" joinV (ct (.str [])) (consA (compE [none] (seqI (slE (vr 2) (inP (op2 addV (vr 3) (ct (.int 1)))) noP)) (nameG 0) yesT (op2 addV (ct (.str [32])) (vr 0))) nilA)))
    (seqS (setS 7 (lstE (consA (methE "str" joinV (ct (.str [32])) (consA (slE (vr 2) noP (inP (op1 negV (ct (.int 1))))) nilA)) (consA (op2 addV (vr 0) (ct (.str [32, 48]))) (consA (op2 addV (op2 addV (op2 addV (vr 5) (ct (.str [48]))) (op2 ixV (vr 2) (vr 3))) (vr 6)) nilA)))))
    (seqS (setS 8 (op2 addV (ct (.str [49])) (slE (ct (.str [48, 48, 48])) noP (inP (op2 addV (op2 subV (ct (.int 3)) (callE lenV (consA (op2 ixV (vr 2) (vr 3)) nilA))) (op2 modV (op2 fdivV (vr 1) (ct (.int 32))) (ct (.int 2))))))))
    (seqS (setS 7 (op2 addV (vr 7) (lstE (consA (op2 addV (op2 addV (op2 addV (vr 5) (vr 8)) (op2 ixV (vr 2) (vr 3))) (vr 6)) (consA (op2 addV (op2 addV (op2 addV (op2 addV (vr 5) (slE (op2 ixV (vr 2) (vr 3)) noP (inP (ct (.int 1))))) (vr 4)) (op2 ixV (vr 2) (vr 3))) (vr 6)) nilA)))))
    (seqS (setS 7 (op2 addV (vr 7) (lstE (consA (op2 addV (op2 addV (vr 5) (vr 4)) (vr 6)) (consA (op2 addV (op2 addV (op2 addV (vr 5) (op2 ixV (vr 2) (vr 3))) (vr 4)) (vr 6)) nilA)))))
    (seqS (setS 7 (op2 addV (vr 7) (lstE (consA (op2 addV (op2 addV (op2 addV (vr 5) (vr 4)) (op2 ixV (vr 2) (vr 3))) (vr 6)) nilA))))
    (seqS (setS 7 (op2 addV (vr 7) (lstE (consA (op2 addV (ct (.str [111, 110])) (vr 0)) (consA (methE "str" joinV (ct (.str [32])) (consA (slE (vr 2) (inP (ct (.int 1))) noP) nilA)) (consA (op2 addV (ct (.str [32])) (vr 0)) (consA (op2 addV (vr 0) (ct (.str [32]))) nilA)))))))
    (seqS (setS 7 (op2 addV (vr 7) (lstE (consA (op2 addV (op2 addV (op2 addV (vr 5) (ct (.str [32]))) (op2 ixV (vr 2) (vr 3))) (vr 6)) (consA (replE 32 9 (vr 0)) nilA)))))
    (seqS (setS 7 (op2 addV (vr 7) (lstE (consA (ct (.str [])) (consA (meth0E "str" upperV (vr 0)) (consA (op2 ixV (vr 2) (ct (.int 0))) nilA))))))
    (retS (op2 ixV (vr 7) (op2 modV (vr 1) (ct (.int 17))))))))))))))))))
noncomputable def F_l_spoilt : FD := gcF (fnM 9 b_l_spoilt)
noncomputable def b_l_numbered : MS :=
    (seqS (setS 3 (op2 modV (vr 2) (ct (.int 16))))
    (seqS (setS 4 (op2 minDV (vr 1) (callE lenV (consA (vr 0) nilA))))
    (seqS (ifS (tB1 (op2 (eqV 200) (vr 3) (ct (.int 3)))) (retS (tupE (consA (op2 addV (vr 0) (lstE (consA (ct (.str [])) nilA))) (consA (callE minW (consA (vr 4) (consA (callE lenV (consA (vr 0) nilA)) nilA))) nilA)))) skipS)
    (seqS (ifS (tB1 (op2 (eqV 200) (vr 3) (ct (.int 7)))) (retS (tupE (consA (op2 addV (lstE (consA (ct (.str [])) nilA)) (vr 0)) (consA (ct (.int 0)) nilA)))) skipS)
    (seqS (ifS (andT (tB1 (op2 (eqV 200) (vr 3) (ct (.int 11)))) (tB1 (op2 gtV (callE lenV (consA (vr 0) nilA)) (ct (.int 1))))) (seqS (setS 5 (op2 addV (ct (.int 1)) (op2 modV (op2 fdivV (vr 2) (ct (.int 16))) (op2 subV (callE lenV (consA (vr 0) nilA)) (ct (.int 1))))))
    (retS (tupE (consA (op2 addV (op2 addV (slE (vr 0) noP (inP (vr 5))) (lstE (consA (ct (.str [])) nilA))) (slE (vr 0) (inP (vr 5)) noP)) (consA (callE minW (consA (vr 4) (consA (vr 5) nilA))) nilA))))) skipS)
    (seqS (ifS (tB1 (op2 (eqV 200) (vr 1) (lstE nilA))) (setS 4 (ct .non)) skipS)
    (retS (tupE (consA (vr 0) (consA (vr 4) nilA))))))))))
noncomputable def F_l_numbered : FD := gcF (fnM 6 b_l_numbered)
noncomputable def b_l_refused : MS :=
    (seqS (setS 2 (ct .non))
    (seqS (tryS none 3 2 F_p_counter_read [] (consA (vr 0) nilA) exCls)
    (seqS (ifS (orT (notT (tru (op1 (isXV "NoProgram") (vr 2)))) (orT (tru (op1 (isXV "NoTree") (vr 2))) (notT (tru (op1 (isXV "ValueError") (vr 2)))))) (retS (ct (.bl false))) skipS)
    (retS (andV (op1 (isV "int") (op1 atV (vr 2))) (andV (notV (op1 (isV "bool") (op1 atV (vr 2)))) (op2 (eqV 200) (op1 atV (vr 2)) (vr 1))))))))
noncomputable def F_l_refused : FD := gcF (fnM 4 b_l_refused)
noncomputable def b_p_law : MS :=
    (seqS (setS 1 (compE [none] (seqI (slE (vr 0) (inP (ct (.int 2))) (inP (ct (.int 14))))) (nameG 0) yesT (callF F_l_line [] (consA (vr 0) nilA))))
    (seqS (setS 1 (op2 addV (vr 1) (lstE (consA (callF F_l_line [] (consA (callF F_l_cell_at [] (consA (vr 0) (consA (ct (.int 0)) nilA))) nilA)) (consA (callF F_l_line [] (consA (callF F_l_cell_at [] (consA (vr 0) (consA (ct (.int 1)) nilA))) nilA)) nilA)))))
    (seqS (setS 2 (callE listC (consA (vr 1) nilA)))
    (seqS (setS 3 (lstE nilA))
    (seqS (forS (range1I (consA (op2 modV (callF F_l_cell_at [] (consA (vr 0) (consA (ct (.int 0)) nilA))) (ct (.int 4))) nilA)) (nameG 4) (seqS (setS 5 (op2 modV (callF F_l_mixed [] (consA (callF F_l_cell_at [] (consA (vr 0) (consA (ct (.int 0)) nilA))) (consA (op2 addV (ct (.int 20)) (vr 4)) nilA))) (callE lenV (consA (vr 2) nilA))))
    (seqS (asgS (callF F_l_spoilt [] (consA (op2 ixV (vr 1) (vr 5)) (consA (callF F_l_mixed [] (consA (callF F_l_cell_at [] (consA (vr 0) (consA (ct (.int 1)) nilA))) (consA (vr 4) nilA))) nilA))) (subG setV (vr 2) (vr 5)))
    (exprS (methE "list" appendV (vr 3) (consA (vr 5) nilA))))))
    (seqS (asgS (callF F_l_numbered [] (consA (vr 2) (consA (vr 3) (consA (callF F_l_mixed [] (consA (callF F_l_cell_at [] (consA (vr 0) (consA (ct (.int 1)) nilA))) (consA (ct (.int 40)) nilA))) nilA)))) (tupG 2 (consG (nameG 2) (consG (nameG 6) nilG))))
    (seqS (setS 7 (methE "str" joinV (ct (.str [10])) (consA (vr 2) nilA)))
    (seqS (ifS (andT (tB1 (op2 notNoneV (vr 6) (ct .non))) (orT (notT (tru (callF F_l_refused [] (consA (vr 7) (consA (vr 6) nilA))))) (notT (tru (callF F_l_refused [] (consA (vr 7) (consA (vr 6) nilA))))))) (retS (ct (.bl false))) skipS)
    (seqS (ifS (andT (tB1 (op2 isNoneV (vr 6) (ct .non))) (tB1 (op2 (neV 200) (callE lenV (consA (callX F_p_counter_read [] (consA (vr 7) nilA)) nilA)) (callE lenV (consA (vr 2) nilA))))) (retS (ct (.bl false))) skipS)
    (seqS (setS 8 (ct (.str [])))
    (seqS (forS (range1I (consA (op2 addV (ct (.int 1)) (op2 modV (callE lenV (consA (vr 2) nilA)) (ct (.int 4)))) nilA)) (nameG 4) (setS 8 (op2 addV (vr 8) (op2 ixV (ct (.str [32, 10, 9])) (op2 modV (callF F_l_mixed [] (consA (callF F_l_cell_at [] (consA (vr 0) (consA (ct (.int 1)) nilA))) (consA (op2 addV (ct (.int 50)) (vr 4)) nilA))) (ct (.int 3)))))))
    (retS (andV (callF F_l_refused [] (consA (vr 8) (consA (ct (.int 0)) nilA))) (op2 (eqV 200) (callE lenV (consA (callX F_p_counter_read [] (consA (methE "str" joinV (ct (.str [10])) (consA (vr 1) nilA)) nilA)) nilA)) (callE lenV (consA (vr 1) nilA))))))))))))))))
noncomputable def F_p_law : FD := gcF (fnM 9 b_p_law)
/-! ### the text as it stands behind the top -/
structure Adr where
  a_p_counter_read : Addr
  d_p_counter_read : FuncData
  a_p_row_of_line : Addr
  d_p_row_of_line : FuncData
  a_p_is_number : Addr
  d_p_is_number : FuncData
  a_l_cell_at : Addr
  d_l_cell_at : FuncData
  a_l_mixed : Addr
  d_l_mixed : FuncData
  a_l_line : Addr
  d_l_line : FuncData
  a_l_spoilt : Addr
  d_l_spoilt : FuncData
  a_l_numbered : Addr
  d_l_numbered : FuncData
  a_l_refused : Addr
  d_l_refused : FuncData
  a_p_law : Addr
  d_p_law : FuncData
  a_init : Addr
  d_init : FuncData
  c_One : Addr
  c_P : Addr
  c_T : Addr
structure Txt (w : World) (K : PySem.W.Frag) (mg : Str → Option Value) (A : Adr) : Prop where
  f_p_counter_read : Fun K "counter_read" "counter_read" s_p_counter_read A.a_p_counter_read A.d_p_counter_read
  m_p_counter_read : mg "counter_read" = some (.ref A.a_p_counter_read)
  b_p_counter_read : Binds K A.d_p_counter_read ["text"] []
  f_p_row_of_line : Fun K "row_of_line" "row_of_line" s_p_row_of_line A.a_p_row_of_line A.d_p_row_of_line
  m_p_row_of_line : mg "row_of_line" = some (.ref A.a_p_row_of_line)
  b_p_row_of_line : Binds K A.d_p_row_of_line ["line"] []
  f_p_is_number : Fun K "is_number" "is_number" s_p_is_number A.a_p_is_number A.d_p_is_number
  m_p_is_number : mg "is_number" = some (.ref A.a_p_is_number)
  b_p_is_number : Binds K A.d_p_is_number ["word"] []
  f_l_cell_at : Fun K "_law_cell_at" "_law_cell_at" s_l_cell_at A.a_l_cell_at A.d_l_cell_at
  m_l_cell_at : mg "_law_cell_at" = some (.ref A.a_l_cell_at)
  b_l_cell_at : Binds K A.d_l_cell_at ["_law_script", "_law_k"] []
  f_l_mixed : Fun K "_law_mixed" "_law_mixed" s_l_mixed A.a_l_mixed A.d_l_mixed
  m_l_mixed : mg "_law_mixed" = some (.ref A.a_l_mixed)
  b_l_mixed : Binds K A.d_l_mixed ["_law_cell", "_law_k"] []
  f_l_line : Fun K "_law_line" "_law_line" s_l_line A.a_l_line A.d_l_line
  m_l_line : mg "_law_line" = some (.ref A.a_l_line)
  b_l_line : Binds K A.d_l_line ["_law_cell"] []
  f_l_spoilt : Fun K "_law_spoilt" "_law_spoilt" s_l_spoilt A.a_l_spoilt A.d_l_spoilt
  m_l_spoilt : mg "_law_spoilt" = some (.ref A.a_l_spoilt)
  b_l_spoilt : Binds K A.d_l_spoilt ["_law_line_here", "_law_cell"] []
  f_l_numbered : Fun K "_law_numbered" "_law_numbered" s_l_numbered A.a_l_numbered A.d_l_numbered
  m_l_numbered : mg "_law_numbered" = some (.ref A.a_l_numbered)
  b_l_numbered : Binds K A.d_l_numbered ["_law_lines", "_law_bad", "_law_cell"] []
  f_l_refused : Fun K "_law_refused" "_law_refused" s_l_refused A.a_l_refused A.d_l_refused
  m_l_refused : mg "_law_refused" = some (.ref A.a_l_refused)
  b_l_refused : Binds K A.d_l_refused ["_law_text", "_law_at"] []
  f_p_law : Fun K "law" "law" s_p_law A.a_p_law A.d_p_law
  m_p_law : mg "law" = some (.ref A.a_p_law)
  b_p_law : Binds K A.d_p_law ["_law_script"] []
  x_i : Fun K "__init__" "OneError.__init__" s_init A.a_init A.d_init
  x_b : Binds K A.d_init ["self", "at"] []
  x_k : ExcK K A.c_One A.a_init A.c_P A.c_T
  x_m1 : mg "OneError" = some (.ref A.c_One)
  x_mP : mg "NoProgram" = some (.ref A.c_P)
  x_mT : mg "NoTree" = some (.ref A.c_T)
  x_eP : PySem.W.keepIn K (.ref A.c_P) = true
  x_eT : PySem.W.keepIn K (.ref A.c_T) = true
  v_WORDS_IN_LINE : ∃ a, mg "WORDS_IN_LINE" = some (.ref a) ∧ DictK w K a [([117, 112], .int 3), ([100, 111, 119, 110], .int 4)]
  v_FIGURES : ∃ t, mg "FIGURES" = some (.str "0123456789" t)
  v_MOST_FIGURES : ∃ t, mg "MOST_FIGURES" = some (.int 3 t)
  z_ValueError : mg "ValueError" = none
  z_all : mg "all" = none
  z_bool : mg "bool" = none
  z_enumerate : mg "enumerate" = none
  z_int : mg "int" = none
  z_isinstance : mg "isinstance" = none
  z_len : mg "len" = none
  z_list : mg "list" = none
  z_min : mg "min" = none
  z_range : mg "range" = none
  z_str : mg "str" = none
  z_tuple : mg "tuple" = none
section
variable {P : Program} {w : World} {K : PySem.W.Frag} {mg : Str → Option Value} {base : Heap} {Ad : Adr}
theorem sc_init : FnScope ["self", "at"] ["self", "at"] (defScope s_init) := ⟨rfl, rfl, rfl, by decide +kernel, rfl, by decide +kernel, by decide +kernel⟩
theorem ok_init (T : Txt w K mg Ad) {C : Addr} (hT : ∀ h, K.In h → Two h C Ad.c_One Ad.a_init) : FnOk P w K mg base CX0 1 Ad.a_init Ad.d_init ["self", "at"] (spI C) :=
  init_fn T.x_i sc_init fun cdv A outer s H E => pss_cons (ps_expr (pe_base hT rfl T.z_ValueError (pa_cons (pv 0) (pa_cons (pe_fstr (pv 1)) pa_nil)))) (pss_one (ps_at hT (pv 0) (pv 1) rfl))
theorem sc_p_is_number : FnScope ["word"] ["word"] (defScope s_p_is_number) := ⟨rfl, rfl, rfl, by decide +kernel, rfl, by decide +kernel, by decide +kernel⟩
theorem ok_p_is_number (T : Txt w K mg Ad) : FnOk P w K mg base CX0 1 Ad.a_p_is_number Ad.d_p_is_number ["word"] (spM K 1 F_p_is_number) := by
  refine FnOk.imp (fn_ok (m := b_p_is_number) T.f_p_is_number sc_p_is_number fun cdv A outer s H hr => ?_) fun vs H Q E h => sp_gc h
  exact (js_cons (js_if (JW.jt (jw_or (jt_cmp (op_eqV (hu200 hr)) (je_var 0) (je_str []) (nomark _)) (jw_or1 (jt_cmp op_gtV (je_callB call_lenV rfl T.z_len (by decide +kernel) (ja_cons (je_var 0) ja_nil)) (je_globI T.v_MOST_FIGURES) (nomark _))))) (js_one (js_ret je_bl)) js_nil)
    (js_cons (js_if (JW.jt (jw_and (jt_cmp (op_eqV (hu200 hr)) (je_ix (je_var 0) je_int) (je_str [48]) (nomark _)) (jw_and1 (jt_cmp (op_neV (hu200 hr)) (je_var 0) (je_str [48]) (nomark _))))) (js_one (js_ret je_bl)) js_nil)
    (js_one (js_ret (je_callB (call_allV hr.hd) rfl T.z_all (by decide +kernel) (ja_cons (je_comp (N := ["sign"]) (capt := [none]) (sc0 := defScope s_p_is_number) (ji_str (je_var 0)) ⟨rfl, by decide +kernel, by decide +kernel⟩ (by decide +kernel) trivial rfl (fun cl C fp s H => (jg_name 0 (show List.Nodup (["sign"] : List Str) by decide +kernel))) (fun cl C fp s H => jts_nil) (fun cl C fp s H => (je_cmp op_inSV (je_var 0) (je_globS [48, 49, 50, 51, 52, 53, 54, 55, 56, 57] T.v_FIGURES) rfl))) ja_nil))))))
theorem sc_p_row_of_line : FnScope ["line", "words"] ["line"] (defScope s_p_row_of_line) := ⟨rfl, rfl, rfl, by decide +kernel, rfl, by decide +kernel, by decide +kernel⟩
theorem ok_p_row_of_line (T : Txt w K mg Ad) : FnOk P w K mg base CX0 2 Ad.a_p_row_of_line Ad.d_p_row_of_line ["line"] (spM K 1 F_p_row_of_line) := by
  refine FnOk.imp (fn_ok (m := b_p_row_of_line) T.f_p_row_of_line sc_p_row_of_line fun cdv A outer s H hr => ?_) fun vs H Q E h => sp_gc h
  exact (js_cons (js_set 1 (je_meth PySem.F.plainAttrs_str PySem.F.slot_str_split PySem.F.type_str_split mt_splitV (je_var 0) (ja_cons (je_str [32]) ja_nil)) sc_p_row_of_line.nd)
    (js_cons (js_if (jt_cmp (op_neV (hu200 hr)) (je_callB call_lenV rfl T.z_len (by decide +kernel) (ja_cons (je_var 1) ja_nil)) (je_tabGet T.v_WORDS_IN_LINE (je_ix (je_var 1) je_int)) (nomark _)) (js_one (js_ret je_non)) js_nil)
    (js_cons (js_if (jt_not (jt_truth (je_callB (call_allV hr.hd) rfl T.z_all (by decide +kernel) (ja_cons (je_comp (N := ["word"]) (capt := [none]) (sc0 := defScope s_p_row_of_line) (ji_seq (je_slice (je_var 1) (jp_some je_int) jp_none)) ⟨rfl, by decide +kernel, by decide +kernel⟩ (by decide +kernel) trivial rfl (fun cl C fp s H => (jg_name 0 (show List.Nodup (["word"] : List Str) by decide +kernel))) (fun cl C fp s H => jts_nil) (fun cl C fp s H => (je_call ((ok_p_is_number T).mono (by decide)) hr T.m_p_is_number T.f_p_is_number.kp T.b_p_is_number .nil (fun _ _ => RepVs.nil) (ja_cons (je_var 0) ja_nil) rfl rfl (by decide) rfl rfl (lenA_cons lenA_nil)))) ja_nil)))) (js_one (js_ret je_non)) js_nil)
    (js_one (js_ret (je_callTy call_tupleC rfl T.z_tuple (by decide +kernel) (ja_cons (je_op op_addV (je_slice (je_var 1) jp_none (jp_some je_int)) (je_comp (N := ["word"]) (capt := [none]) (sc0 := defScope s_p_row_of_line) (ji_seq (je_slice (je_var 1) (jp_some je_int) jp_none)) ⟨rfl, by decide +kernel, by decide +kernel⟩ (by decide +kernel) trivial rfl (fun cl C fp s H => (jg_name 0 (show List.Nodup (["word"] : List Str) by decide +kernel))) (fun cl C fp s H => jts_nil) (fun cl C fp s H => (je_callTy call_intW rfl T.z_int (by decide +kernel) (ja_cons (je_var 0) ja_nil))))) ja_nil)))))))
theorem sc_p_counter_read : FnScope ["text", "program", "at", "line", "row"] ["text"] (defScope s_p_counter_read) := ⟨rfl, rfl, rfl, by decide +kernel, rfl, by decide +kernel, by decide +kernel⟩
theorem ok_p_counter_read (T : Txt w K mg Ad) : FnOk P w K mg base (CXM P w) 3 Ad.a_p_counter_read Ad.d_p_counter_read ["text"] (spX K 1 F_p_counter_read) := by
  refine FnOk.imp (fn_okX (m := b_p_counter_read) T.f_p_counter_read sc_p_counter_read fun cdv A outer s H E W hr => ?_) fun vs H Q E h => sp_gcX h
  exact (js_cons (js_if (jt_cmp (op_eqV (hu200 hr)) (je_var 0) (je_str []) (nomark _)) (js_one (js_ret (je_lst ja_nil))) js_nil)
    (js_cons (js_set 1 (je_lst ja_nil) sc_p_counter_read.nd)
    (js_cons (js_for (ji_enum (ja_cons (je_meth PySem.F.plainAttrs_str PySem.F.slot_str_split PySem.F.type_str_split mt_splitV (je_var 0) (ja_cons (je_str [10]) ja_nil)) ja_nil) rfl T.z_enumerate) (jg_tup 2 rfl (jgs_cons (jg_name 2 sc_p_counter_read.nd) (jgs_cons (jg_name 3 sc_p_counter_read.nd) jgs_nil))) (js_cons (js_set 4 (je_call ((ok_p_row_of_line T).mono (by decide)) hr T.m_p_row_of_line T.f_p_row_of_line.kp T.b_p_row_of_line .nil (fun _ _ => RepVs.nil) (ja_cons (je_var 3) ja_nil) rfl rfl (by decide) rfl rfl (lenA_cons lenA_nil)) sc_p_counter_read.nd)
    (js_cons (js_if (jt_cmp op_isNoneV (je_var 4) je_non (nomark _)) (js_one (js_raise (ok_init T (fun h X => two_ok T.x_k.tP X)) (fun h X => two_ok T.x_k.tP X) (hr.mono (by decide)) T.x_b T.x_k.nP rfl T.x_mP T.x_eP rfl (ja_cons (je_var 2) ja_nil))) js_nil)
    (js_one (js_expr (je_meth PySem.F.plainAttrs_list PySem.F.slot_list_append PySem.F.type_list_append mt_appendV (je_var 1) (ja_cons (je_var 4) ja_nil)))))) (Rz.passes ⟨rfl, rfl, rfl⟩) rfl)
    (js_one (js_ret (je_var 1))))))
theorem sc_l_cell_at : FnScope ["_law_script", "_law_k"] ["_law_script", "_law_k"] (defScope s_l_cell_at) := ⟨rfl, rfl, rfl, by decide +kernel, rfl, by decide +kernel, by decide +kernel⟩
theorem ok_l_cell_at (T : Txt w K mg Ad) : FnOk P w K mg base CX0 1 Ad.a_l_cell_at Ad.d_l_cell_at ["_law_script", "_law_k"] (spM K 2 F_l_cell_at) := by
  refine FnOk.imp (fn_ok (m := b_l_cell_at) T.f_l_cell_at sc_l_cell_at fun cdv A outer s H hr => ?_) fun vs H Q E h => sp_gc h
  exact (js_cons (js_if (jt_cmp op_ltV (je_var 1) (je_callB call_lenV rfl T.z_len (by decide +kernel) (ja_cons (je_var 0) ja_nil)) (nomark _)) (js_one (js_ret (je_ix (je_var 0) (je_var 1)))) js_nil)
    (js_one (js_ret je_int)))
theorem sc_l_mixed : FnScope ["_law_cell", "_law_k", "_law_number"] ["_law_cell", "_law_k"] (defScope s_l_mixed) := ⟨rfl, rfl, rfl, by decide +kernel, rfl, by decide +kernel, by decide +kernel⟩
theorem ok_l_mixed (T : Txt w K mg Ad) : FnOk P w K mg base CX0 1 Ad.a_l_mixed Ad.d_l_mixed ["_law_cell", "_law_k"] (spM K 2 F_l_mixed) := by
  refine FnOk.imp (fn_ok (m := b_l_mixed) T.f_l_mixed sc_l_mixed fun cdv A outer s H hr => ?_) fun vs H Q E h => sp_gc h
  exact (js_cons (js_set 2 (je_op op_addV (je_op op_addV (je_op op_modV (je_var 0) je_int) (je_op op_mulV je_int (je_var 1))) je_int) sc_l_mixed.nd)
    (js_one (js_ret (je_op op_fdivV (je_op op_modV (je_op op_mulV (je_var 2) (je_var 2)) je_int) je_int))))
theorem sc_l_line : FnScope ["_law_cell", "_law_numbers", "_law_k", "_law_small"] ["_law_cell"] (defScope s_l_line) := ⟨rfl, rfl, rfl, by decide +kernel, rfl, by decide +kernel, by decide +kernel⟩
theorem ok_l_line (T : Txt w K mg Ad) : FnOk P w K mg base CX0 2 Ad.a_l_line Ad.d_l_line ["_law_cell"] (spM K 1 F_l_line) := by
  refine FnOk.imp (fn_ok (m := b_l_line) T.f_l_line sc_l_line fun cdv A outer s H hr => ?_) fun vs H Q E h => sp_gc h
  exact (js_cons (js_set 1 (je_lst ja_nil) sc_l_line.nd)
    (js_cons (js_for (ji_range1 (ja_cons je_int ja_nil) rfl T.z_range) (jg_name 2 sc_l_line.nd) (js_cons (js_set 3 (je_op op_modV (je_call ((ok_l_mixed T).mono (by decide)) hr T.m_l_mixed T.f_l_mixed.kp T.b_l_mixed .nil (fun _ _ => RepVs.nil) (ja_cons (je_var 0) (ja_cons (je_op op_addV (je_var 2) je_int) ja_nil)) rfl rfl (by decide) rfl rfl (lenA_cons (lenA_cons lenA_nil))) je_int) sc_l_line.nd)
    (js_one (js_expr (je_meth PySem.F.plainAttrs_list PySem.F.slot_list_append PySem.F.type_list_append mt_appendV (je_var 1) (ja_cons (je_callTy call_strW rfl T.z_str (by decide +kernel) (ja_cons (je_op op_modV (je_call ((ok_l_mixed T).mono (by decide)) hr T.m_l_mixed T.f_l_mixed.kp T.b_l_mixed .nil (fun _ _ => RepVs.nil) (ja_cons (je_var 0) (ja_cons (je_var 2) ja_nil)) rfl rfl (by decide) rfl rfl (lenA_cons (lenA_cons lenA_nil))) (je_ix (je_lst (ja_cons je_int (ja_cons je_int ja_nil))) (je_var 3))) ja_nil)) ja_nil))))) PassesOwn.never rfl)
    (js_cons (js_if (jt_cmp (op_eqV (hu200 hr)) (je_op op_modV (je_call ((ok_l_mixed T).mono (by decide)) hr T.m_l_mixed T.f_l_mixed.kp T.b_l_mixed .nil (fun _ _ => RepVs.nil) (ja_cons (je_var 0) (ja_cons je_int ja_nil)) rfl rfl (by decide) rfl rfl (lenA_cons (lenA_cons lenA_nil))) je_int) je_int (nomark _)) (js_one (js_ret (je_op op_addV (je_op op_addV (je_op op_addV (je_str [117, 112, 32]) (je_ix (je_var 1) je_int)) (je_str [32])) (je_ix (je_var 1) je_int)))) js_nil)
    (js_one (js_ret (je_op op_addV (je_str [100, 111, 119, 110, 32]) (je_meth PySem.F.plainAttrs_str PySem.F.slot_str_join PySem.F.type_str_join mt_joinV (je_str [32]) (ja_cons (je_var 1) ja_nil))))))))
theorem sc_l_spoilt : FnScope ["_law_line_here", "_law_cell", "_law_words", "_law_at", "_law_sign", "_law_ahead", "_law_behind", "_law_some", "_law_noughts"] ["_law_line_here", "_law_cell"] (defScope s_l_spoilt) := ⟨rfl, rfl, rfl, by decide +kernel, rfl, by decide +kernel, by decide +kernel⟩
theorem ok_l_spoilt (T : Txt w K mg Ad) : FnOk P w K mg base CX0 1 Ad.a_l_spoilt Ad.d_l_spoilt ["_law_line_here", "_law_cell"] (spM K 2 F_l_spoilt) := by
  refine FnOk.imp (fn_ok (m := b_l_spoilt) T.f_l_spoilt sc_l_spoilt fun cdv A outer s H hr => ?_) fun vs H Q E h => sp_gc h
  exact (js_cons (js_set 2 (je_meth PySem.F.plainAttrs_str PySem.F.slot_str_split PySem.F.type_str_split mt_splitV (je_var 0) (ja_cons (je_str [32]) ja_nil)) sc_l_spoilt.nd)
    (js_cons (js_set 3 (je_op op_addV je_int (je_op op_modV (je_op op_fdivV (je_var 1) je_int) (je_op op_subV (je_callB call_lenV rfl T.z_len (by decide +kernel) (ja_cons (je_var 2) ja_nil)) je_int))) sc_l_spoilt.nd)
    (js_cons (js_set 4 (je_ix (je_str [97, 98, 122, 45, 43, 46, 44, 95, 47, 58, 59, 39, 33, 120]) (je_op op_modV (je_op op_fdivV (je_var 1) je_int) je_int)) sc_l_spoilt.nd)
    (js_cons (js_set 5 (je_op op_addV (je_meth PySem.F.plainAttrs_str PySem.F.slot_str_join PySem.F.type_str_join mt_joinV (je_str [32]) (ja_cons (je_slice (je_var 2) jp_none (jp_some (je_var 3))) ja_nil)) (je_str [32])) sc_l_spoilt.nd)
    (js_cons (js_set 6 (je_meth PySem.F.plainAttrs_str PySem.F.slot_str_join PySem.F.type_str_join mt_joinV (je_str []) (ja_cons (je_comp (N := ["_law_word"]) (capt := [none]) (sc0 := defScope s_l_spoilt) (ji_seq (je_slice (je_var 2) (jp_some (je_op op_addV (je_var 3) je_int)) jp_none)) ⟨rfl, by decide +kernel, by decide +kernel⟩ (by decide +kernel) trivial rfl (fun cl C fp s H => (jg_name 0 (show List.Nodup (["_law_word"] : List Str) by decide +kernel))) (fun cl C fp s H => jts_nil) (fun cl C fp s H => (je_op op_addV (je_str [32]) (je_var 0)))) ja_nil)) sc_l_spoilt.nd)
    (js_cons (js_set 7 (je_lst (ja_cons (je_meth PySem.F.plainAttrs_str PySem.F.slot_str_join PySem.F.type_str_join mt_joinV (je_str [32]) (ja_cons (je_slice (je_var 2) jp_none (jp_some (je_un un_negV je_int))) ja_nil)) (ja_cons (je_op op_addV (je_var 0) (je_str [32, 48])) (ja_cons (je_op op_addV (je_op op_addV (je_op op_addV (je_var 5) (je_str [48])) (je_ix (je_var 2) (je_var 3))) (je_var 6)) ja_nil)))) sc_l_spoilt.nd)
    (js_cons (js_set 8 (je_op op_addV (je_str [49]) (je_slice (je_str [48, 48, 48]) jp_none (jp_some (je_op op_addV (je_op op_subV je_int (je_callB call_lenV rfl T.z_len (by decide +kernel) (ja_cons (je_ix (je_var 2) (je_var 3)) ja_nil))) (je_op op_modV (je_op op_fdivV (je_var 1) je_int) je_int))))) sc_l_spoilt.nd)
    (js_cons (js_set 7 (je_op op_addV (je_var 7) (je_lst (ja_cons (je_op op_addV (je_op op_addV (je_op op_addV (je_var 5) (je_var 8)) (je_ix (je_var 2) (je_var 3))) (je_var 6)) (ja_cons (je_op op_addV (je_op op_addV (je_op op_addV (je_op op_addV (je_var 5) (je_slice (je_ix (je_var 2) (je_var 3)) jp_none (jp_some je_int))) (je_var 4)) (je_ix (je_var 2) (je_var 3))) (je_var 6)) ja_nil)))) sc_l_spoilt.nd)
    (js_cons (js_set 7 (je_op op_addV (je_var 7) (je_lst (ja_cons (je_op op_addV (je_op op_addV (je_var 5) (je_var 4)) (je_var 6)) (ja_cons (je_op op_addV (je_op op_addV (je_op op_addV (je_var 5) (je_ix (je_var 2) (je_var 3))) (je_var 4)) (je_var 6)) ja_nil)))) sc_l_spoilt.nd)
    (js_cons (js_set 7 (je_op op_addV (je_var 7) (je_lst (ja_cons (je_op op_addV (je_op op_addV (je_op op_addV (je_var 5) (je_var 4)) (je_ix (je_var 2) (je_var 3))) (je_var 6)) ja_nil))) sc_l_spoilt.nd)
    (js_cons (js_set 7 (je_op op_addV (je_var 7) (je_lst (ja_cons (je_op op_addV (je_str [111, 110]) (je_var 0)) (ja_cons (je_meth PySem.F.plainAttrs_str PySem.F.slot_str_join PySem.F.type_str_join mt_joinV (je_str [32]) (ja_cons (je_slice (je_var 2) (jp_some je_int) jp_none) ja_nil)) (ja_cons (je_op op_addV (je_str [32]) (je_var 0)) (ja_cons (je_op op_addV (je_var 0) (je_str [32])) ja_nil)))))) sc_l_spoilt.nd)
    (js_cons (js_set 7 (je_op op_addV (je_var 7) (je_lst (ja_two (jp_opL op_addV (jp_opL op_addV (jp_opR op_addV (je_var 5) (jp_str [32])) (je_ix (je_var 2) (je_var 3))) (je_var 6)) (jn_rep (je_var 0) (by decide))))) sc_l_spoilt.nd)
    (js_cons (js_set 7 (je_op op_addV (je_var 7) (je_lst (ja_cons (je_str []) (ja_cons (je_meth0 PySem.F.plainAttrs_str PySem.F.slot_str_upper PySem.F.type_str_upper mt_upperV (je_var 0)) (ja_cons (je_ix (je_var 2) je_int) ja_nil))))) sc_l_spoilt.nd)
    (js_one (js_ret (je_ix (je_var 7) (je_op op_modV (je_var 1) je_int)))))))))))))))))
theorem sc_l_numbered : FnScope ["_law_lines", "_law_bad", "_law_cell", "_law_way", "_law_first", "_law_at"] ["_law_lines", "_law_bad", "_law_cell"] (defScope s_l_numbered) := ⟨rfl, rfl, rfl, by decide +kernel, rfl, by decide +kernel, by decide +kernel⟩
theorem ok_l_numbered (T : Txt w K mg Ad) : FnOk P w K mg base CX0 1 Ad.a_l_numbered Ad.d_l_numbered ["_law_lines", "_law_bad", "_law_cell"] (spM K 3 F_l_numbered) := by
  refine FnOk.imp (fn_ok (m := b_l_numbered) T.f_l_numbered sc_l_numbered fun cdv A outer s H hr => ?_) fun vs H Q E h => sp_gc h
  exact (js_cons (js_set 3 (je_op op_modV (je_var 2) je_int) sc_l_numbered.nd)
    (js_cons (js_set 4 (je_minD hr.hd rfl T.z_min (by decide +kernel) (je_var 1) (je_callB call_lenV rfl T.z_len (by decide +kernel) (ja_cons (je_var 0) ja_nil))) sc_l_numbered.nd)
    (js_cons (js_if (jt_cmp (op_eqV (hu200 hr)) (je_var 3) je_int (nomark _)) (js_one (js_ret (je_tup (ja_cons (je_op op_addV (je_var 0) (je_lst (ja_cons (je_str []) ja_nil))) (ja_cons (je_callB (call_minW rfl hr.hd) rfl T.z_min (by decide +kernel) (ja_cons (je_var 4) (ja_cons (je_callB call_lenV rfl T.z_len (by decide +kernel) (ja_cons (je_var 0) ja_nil)) ja_nil))) ja_nil))))) js_nil)
    (js_cons (js_if (jt_cmp (op_eqV (hu200 hr)) (je_var 3) je_int (nomark _)) (js_one (js_ret (je_tup (ja_cons (je_op op_addV (je_lst (ja_cons (je_str []) ja_nil)) (je_var 0)) (ja_cons je_int ja_nil))))) js_nil)
    (js_cons (js_if (JW.jt (jw_and (jt_cmp (op_eqV (hu200 hr)) (je_var 3) je_int (nomark _)) (jw_and1 (jt_cmp op_gtV (je_callB call_lenV rfl T.z_len (by decide +kernel) (ja_cons (je_var 0) ja_nil)) je_int (nomark _))))) (js_cons (js_set 5 (je_op op_addV je_int (je_op op_modV (je_op op_fdivV (je_var 2) je_int) (je_op op_subV (je_callB call_lenV rfl T.z_len (by decide +kernel) (ja_cons (je_var 0) ja_nil)) je_int))) sc_l_numbered.nd)
    (js_one (js_ret (je_tup (ja_cons (je_op op_addV (je_op op_addV (je_slice (je_var 0) jp_none (jp_some (je_var 5))) (je_lst (ja_cons (je_str []) ja_nil))) (je_slice (je_var 0) (jp_some (je_var 5)) jp_none)) (ja_cons (je_callB (call_minW rfl hr.hd) rfl T.z_min (by decide +kernel) (ja_cons (je_var 4) (ja_cons (je_var 5) ja_nil))) ja_nil)))))) js_nil)
    (js_cons (js_if (jt_cmp (op_eqV (hu200 hr)) (je_var 1) (je_lst ja_nil) (nomark _)) (js_one (js_set 4 je_non sc_l_numbered.nd)) js_nil)
    (js_one (js_ret (je_tup (ja_cons (je_var 0) (ja_cons (je_var 4) ja_nil)))))))))))
theorem sc_l_refused : FnScope ["_law_text", "_law_at", "_law_got", "e"] ["_law_text", "_law_at"] (defScope s_l_refused) := ⟨rfl, rfl, rfl, by decide +kernel, rfl, by decide +kernel, by decide +kernel⟩
theorem ok_l_refused (T : Txt w K mg Ad) : FnOk P w K mg base CX0 4 Ad.a_l_refused Ad.d_l_refused ["_law_text", "_law_at"] (spM K 2 F_l_refused) := by
  refine FnOk.imp (fn_ok (m := b_l_refused) T.f_l_refused sc_l_refused fun cdv A outer s H hr => ?_) fun vs H Q E h => sp_gc h
  exact (js_cons (js_set 2 je_non sc_l_refused.nd)
    (js_cons (js_try (ie := 3) (iy := 2) ⟨rfl, rfl, rfl⟩ ((ok_p_counter_read T).mono (by decide)) hr T.m_p_counter_read T.f_p_counter_read.kp T.b_p_counter_read .nil (fun _ _ => RepVs.nil) (ja_cons (je_var 0) ja_nil) bo_expr sc_l_refused.nd rfl rfl rfl rfl (fun c C h hn => ⟨_, T.x_k.two h hn⟩) T.x_k.bse rfl T.x_m1 rfl rfl (by decide) (by decide) (by decide) (by decide) rfl rfl (lenA_cons lenA_nil))
    (js_cons (js_if (JW.jt (jw_or (jt_not (jt_truth (je_isXc T.x_k (.inl ⟨rfl, rfl⟩) rfl T.x_mP (je_var 2) rfl T.z_isinstance (by decide +kernel)))) (jw_or (jt_truth (je_isXc T.x_k (.inr (.inl ⟨rfl, rfl⟩)) rfl T.x_mT (je_var 2) rfl T.z_isinstance (by decide +kernel))) (jw_or1 (jt_not (jt_truth (je_isXv T.x_k rfl T.z_ValueError (by decide +kernel) (je_var 2) rfl T.z_isinstance (by decide +kernel)))))))) (js_one (js_ret je_bl)) js_nil)
    (js_one (js_ret (je_and (je_isV kit_int (je_at T.x_k (je_var 2)) rfl T.z_isinstance rfl T.z_int (by decide +kernel) (by decide +kernel)) (je_and (je_not (je_isV kit_bool (je_at T.x_k (je_var 2)) rfl T.z_isinstance rfl T.z_bool (by decide +kernel) (by decide +kernel))) (je_one (je_cmp (op_eqV (hu200 hr)) (je_at T.x_k (je_var 2)) (je_var 1) (nomark _))))))))))
theorem sc_p_law : FnScope ["_law_script", "_law_good", "_law_lines", "_law_bad", "_law_k", "_law_spot", "_law_at", "_law_text", "_law_nothing"] ["_law_script"] (defScope s_p_law) := ⟨rfl, rfl, rfl, by decide +kernel, rfl, by decide +kernel, by decide +kernel⟩
theorem ok_p_law (T : Txt w K mg Ad) : FnOk P w K mg base CX0 5 Ad.a_p_law Ad.d_p_law ["_law_script"] (spM K 1 F_p_law) := by
  refine FnOk.imp (fn_ok (m := b_p_law) T.f_p_law sc_p_law fun cdv A outer s H hr => ?_) fun vs H Q E h => sp_gc h
  exact (js_cons (js_setComp 1 (N := ["_law_cell"]) (capt := [none]) (sc0 := defScope s_p_law) (ji_seq (je_slice (je_var 0) (jp_some je_int) (jp_some je_int))) ⟨rfl, by decide +kernel, by decide +kernel⟩ (by decide +kernel) trivial rfl (fun cl C fp s H => (jg_name 0 (show List.Nodup (["_law_cell"] : List Str) by decide +kernel))) (fun cl C fp s H => jts_nil) (fun cl C fp s H => (je_call ((ok_l_line T).mono (by decide)) hr T.m_l_line T.f_l_line.kp T.b_l_line .nil (fun _ _ => RepVs.nil) (ja_cons (je_var 0) ja_nil) rfl rfl (by decide) rfl rfl (lenA_cons lenA_nil))) sc_p_law.nd)
    (js_cons (js_set 1 (je_op op_addV (je_var 1) (je_lst (ja_cons (je_call ((ok_l_line T).mono (by decide)) hr T.m_l_line T.f_l_line.kp T.b_l_line .nil (fun _ _ => RepVs.nil) (ja_cons (je_call ((ok_l_cell_at T).mono (by decide)) hr T.m_l_cell_at T.f_l_cell_at.kp T.b_l_cell_at .nil (fun _ _ => RepVs.nil) (ja_cons (je_var 0) (ja_cons je_int ja_nil)) rfl rfl (by decide) rfl rfl (lenA_cons (lenA_cons lenA_nil))) ja_nil) rfl rfl (by decide) rfl rfl (lenA_cons lenA_nil)) (ja_cons (je_call ((ok_l_line T).mono (by decide)) hr T.m_l_line T.f_l_line.kp T.b_l_line .nil (fun _ _ => RepVs.nil) (ja_cons (je_call ((ok_l_cell_at T).mono (by decide)) hr T.m_l_cell_at T.f_l_cell_at.kp T.b_l_cell_at .nil (fun _ _ => RepVs.nil) (ja_cons (je_var 0) (ja_cons je_int ja_nil)) rfl rfl (by decide) rfl rfl (lenA_cons (lenA_cons lenA_nil))) ja_nil) rfl rfl (by decide) rfl rfl (lenA_cons lenA_nil)) ja_nil)))) sc_p_law.nd)
    (js_cons (js_set 2 (je_callTy call_listC rfl T.z_list (by decide +kernel) (ja_cons (je_var 1) ja_nil)) sc_p_law.nd)
    (js_cons (js_set 3 (je_lst ja_nil) sc_p_law.nd)
    (js_cons (js_for (ji_range1 (ja_cons (je_op op_modV (je_call ((ok_l_cell_at T).mono (by decide)) hr T.m_l_cell_at T.f_l_cell_at.kp T.b_l_cell_at .nil (fun _ _ => RepVs.nil) (ja_cons (je_var 0) (ja_cons je_int ja_nil)) rfl rfl (by decide) rfl rfl (lenA_cons (lenA_cons lenA_nil))) je_int) ja_nil) rfl T.z_range) (jg_name 4 sc_p_law.nd) (js_cons (js_set 5 (je_op op_modV (je_call ((ok_l_mixed T).mono (by decide)) hr T.m_l_mixed T.f_l_mixed.kp T.b_l_mixed .nil (fun _ _ => RepVs.nil) (ja_cons (je_call ((ok_l_cell_at T).mono (by decide)) hr T.m_l_cell_at T.f_l_cell_at.kp T.b_l_cell_at .nil (fun _ _ => RepVs.nil) (ja_cons (je_var 0) (ja_cons je_int ja_nil)) rfl rfl (by decide) rfl rfl (lenA_cons (lenA_cons lenA_nil))) (ja_cons (je_op op_addV je_int (je_var 4)) ja_nil)) rfl rfl (by decide) rfl rfl (lenA_cons (lenA_cons lenA_nil))) (je_callB call_lenV rfl T.z_len (by decide +kernel) (ja_cons (je_var 2) ja_nil))) sc_p_law.nd)
    (js_cons (js_asg (je_call ((ok_l_spoilt T).mono (by decide)) hr T.m_l_spoilt T.f_l_spoilt.kp T.b_l_spoilt .nil (fun _ _ => RepVs.nil) (ja_cons (je_ix (je_var 1) (je_var 5)) (ja_cons (je_call ((ok_l_mixed T).mono (by decide)) hr T.m_l_mixed T.f_l_mixed.kp T.b_l_mixed .nil (fun _ _ => RepVs.nil) (ja_cons (je_call ((ok_l_cell_at T).mono (by decide)) hr T.m_l_cell_at T.f_l_cell_at.kp T.b_l_cell_at .nil (fun _ _ => RepVs.nil) (ja_cons (je_var 0) (ja_cons je_int ja_nil)) rfl rfl (by decide) rfl rfl (lenA_cons (lenA_cons lenA_nil))) (ja_cons (je_var 4) ja_nil)) rfl rfl (by decide) rfl rfl (lenA_cons (lenA_cons lenA_nil))) ja_nil)) rfl rfl (by decide) rfl rfl (lenA_cons (lenA_cons lenA_nil))) (jg_sub set_V (je_var 2) (je_var 5)))
    (js_one (js_expr (je_meth PySem.F.plainAttrs_list PySem.F.slot_list_append PySem.F.type_list_append mt_appendV (je_var 3) (ja_cons (je_var 5) ja_nil)))))) PassesOwn.never rfl)
    (js_cons (js_asg (je_call ((ok_l_numbered T).mono (by decide)) hr T.m_l_numbered T.f_l_numbered.kp T.b_l_numbered .nil (fun _ _ => RepVs.nil) (ja_cons (je_var 2) (ja_cons (je_var 3) (ja_cons (je_call ((ok_l_mixed T).mono (by decide)) hr T.m_l_mixed T.f_l_mixed.kp T.b_l_mixed .nil (fun _ _ => RepVs.nil) (ja_cons (je_call ((ok_l_cell_at T).mono (by decide)) hr T.m_l_cell_at T.f_l_cell_at.kp T.b_l_cell_at .nil (fun _ _ => RepVs.nil) (ja_cons (je_var 0) (ja_cons je_int ja_nil)) rfl rfl (by decide) rfl rfl (lenA_cons (lenA_cons lenA_nil))) (ja_cons je_int ja_nil)) rfl rfl (by decide) rfl rfl (lenA_cons (lenA_cons lenA_nil))) ja_nil))) rfl rfl (by decide) rfl rfl (lenA_cons (lenA_cons (lenA_cons lenA_nil)))) (jg_tup 2 rfl (jgs_cons (jg_name 2 sc_p_law.nd) (jgs_cons (jg_name 6 sc_p_law.nd) jgs_nil))))
    (js_cons (js_set 7 (je_meth PySem.F.plainAttrs_str PySem.F.slot_str_join PySem.F.type_str_join mt_joinV (je_str [10]) (ja_cons (je_var 2) ja_nil)) sc_p_law.nd)
    (js_cons (js_if (JW.jt (jw_and (jt_cmp op_notNoneV (je_var 6) je_non (nomark _)) (jw_and1 (JW.jt (jw_or (jt_not (jt_truth (je_call ((ok_l_refused T).mono (by decide)) hr T.m_l_refused T.f_l_refused.kp T.b_l_refused .nil (fun _ _ => RepVs.nil) (ja_cons (je_var 7) (ja_cons (je_var 6) ja_nil)) rfl rfl (by decide) rfl rfl (lenA_cons (lenA_cons lenA_nil))))) (jw_or1 (jt_not (jt_truth (je_call ((ok_l_refused T).mono (by decide)) hr T.m_l_refused T.f_l_refused.kp T.b_l_refused .nil (fun _ _ => RepVs.nil) (ja_cons (je_var 7) (ja_cons (je_var 6) ja_nil)) rfl rfl (by decide) rfl rfl (lenA_cons (lenA_cons lenA_nil))))))))))) (js_one (js_ret je_bl)) js_nil)
    (js_cons (js_if (JW.jt (jw_and (jt_cmp op_isNoneV (je_var 6) je_non (nomark _)) (jw_and1 (jt_cmp (op_neV (hu200 hr)) (je_callB call_lenV rfl T.z_len (by decide +kernel) (ja_cons (je_callX ((ok_p_counter_read T).mono (by decide)) hr T.m_p_counter_read T.f_p_counter_read.kp T.b_p_counter_read .nil (fun _ _ => RepVs.nil) (ja_cons (je_var 7) ja_nil) rfl rfl (by decide) rfl rfl (lenA_cons lenA_nil)) ja_nil)) (je_callB call_lenV rfl T.z_len (by decide +kernel) (ja_cons (je_var 2) ja_nil)) (nomark _))))) (js_one (js_ret je_bl)) js_nil)
    (js_cons (js_set 8 (je_str []) sc_p_law.nd)
    (js_cons (js_for (ji_range1 (ja_cons (je_op op_addV je_int (je_op op_modV (je_callB call_lenV rfl T.z_len (by decide +kernel) (ja_cons (je_var 2) ja_nil)) je_int)) ja_nil) rfl T.z_range) (jg_name 4 sc_p_law.nd) (js_one (js_set 8 (je_op op_addV (je_var 8) (je_ix (je_str [32, 10, 9]) (je_op op_modV (je_call ((ok_l_mixed T).mono (by decide)) hr T.m_l_mixed T.f_l_mixed.kp T.b_l_mixed .nil (fun _ _ => RepVs.nil) (ja_cons (je_call ((ok_l_cell_at T).mono (by decide)) hr T.m_l_cell_at T.f_l_cell_at.kp T.b_l_cell_at .nil (fun _ _ => RepVs.nil) (ja_cons (je_var 0) (ja_cons je_int ja_nil)) rfl rfl (by decide) rfl rfl (lenA_cons (lenA_cons lenA_nil))) (ja_cons (je_op op_addV je_int (je_var 4)) ja_nil)) rfl rfl (by decide) rfl rfl (lenA_cons (lenA_cons lenA_nil))) je_int))) sc_p_law.nd)) PassesOwn.never rfl)
    (js_one (js_ret (je_and (je_call ((ok_l_refused T).mono (by decide)) hr T.m_l_refused T.f_l_refused.kp T.b_l_refused .nil (fun _ _ => RepVs.nil) (ja_cons (je_var 8) (ja_cons je_int ja_nil)) rfl rfl (by decide) rfl rfl (lenA_cons (lenA_cons lenA_nil))) (je_one (je_cmp (op_eqV (hu200 hr)) (je_callB call_lenV rfl T.z_len (by decide +kernel) (ja_cons (je_callX ((ok_p_counter_read T).mono (by decide)) hr T.m_p_counter_read T.f_p_counter_read.kp T.b_p_counter_read .nil (fun _ _ => RepVs.nil) (ja_cons (je_meth PySem.F.plainAttrs_str PySem.F.slot_str_join PySem.F.type_str_join mt_joinV (je_str [10]) (ja_cons (je_var 1) ja_nil)) ja_nil) rfl rfl (by decide) rfl rfl (lenA_cons lenA_nil)) ja_nil)) (je_callB call_lenV rfl T.z_len (by decide +kernel) (ja_cons (je_var 1) ja_nil)) (nomark _)))))))))))))))))
end
theorem all_mk {l : PySem.W.OpenLaw} {w : World} {K : PySem.W.Frag} {h : Heap} {mg : Str → Option Value} {fa f0 f1 f2 f3 f4 f5 f6 f7 f8 f9 : Addr} (X : K.In h) (G : h.Ns mainGlobals mg) (hfa : mg "law" = some (.ref fa))
    {od0 an0 : Option Addr} {sl0 : Array (Option Value)} {oc0 kV0 dc0 pm0 cd0 ct0 : Value}
    {od1 an1 : Option Addr} {sl1 : Array (Option Value)} {oc1 kV1 dc1 pm1 cd1 ct1 : Value}
    {od2 an2 : Option Addr} {sl2 : Array (Option Value)} {oc2 kV2 dc2 pm2 cd2 ct2 : Value}
    {od3 an3 : Option Addr} {sl3 : Array (Option Value)} {oc3 kV3 dc3 pm3 cd3 ct3 : Value}
    {od4 an4 : Option Addr} {sl4 : Array (Option Value)} {oc4 kV4 dc4 pm4 cd4 ct4 : Value}
    {od5 an5 : Option Addr} {sl5 : Array (Option Value)} {oc5 kV5 dc5 pm5 cd5 ct5 : Value}
    {od6 an6 : Option Addr} {sl6 : Array (Option Value)} {oc6 kV6 dc6 pm6 cd6 ct6 : Value}
    {od7 an7 : Option Addr} {sl7 : Array (Option Value)} {oc7 kV7 dc7 pm7 cd7 ct7 : Value}
    {od8 an8 : Option Addr} {sl8 : Array (Option Value)} {oc8 kV8 dc8 pm8 cd8 ct8 : Value}
    {od9 an9 : Option Addr} {sl9 : Array (Option Value)} {oc9 kV9 dc9 pm9 cd9 ct9 : Value}
    {C_One C_P C_T fI : Addr} {odI anI : Option Addr} {slI : Array (Option Value)} {ocI kVI dcI pmI cdI ctI : Value} (x1 : PySem.W.nsIn K mainGlobals "OneError" = some (some (.ref C_One))) (xP : PySem.W.nsIn K mainGlobals "NoProgram" = some (some (.ref C_P))) (xT : PySem.W.nsIn K mainGlobals "NoTree" = some (some (.ref C_T)))
    (xa : PySem.W.findIn K (.ref C_One) "__init__" = some (some (.ref fI))) (xl : K.lookup fI = some ⟨ocI, odI, .func (PySem.W.fnOf "__init__" "OneError.__init__" (defArgs s_init) (defBody s_init) (defScope s_init) .none kVI dcI pmI anI cdI ctI), slI⟩) (xc : PySem.W.codeIn K cdI "OneError.__init__" = true) (xk : PySem.W.keepIn K (.ref fI) = true)
    (xr_tP : twoIn K C_P C_One fI = true) (xr_tT : twoIn K C_T C_One fI = true) (xr_b : PySem.W.ktsIn K C_One "BaseException" = true) (xr_1 : PySem.W.kitOne K (.ref C_P) (.ref C_T) = some false) (xr_2 : PySem.W.kitOne K (.ref C_T) (.ref C_P) = some false) (xr_3 : PySem.W.kitOne K (.ref C_P) (.type "ValueError") = some true) (xr_4 : PySem.W.kitOne K (.ref C_T) (.type "ValueError") = some true) (xeP : PySem.W.keepIn K (.ref C_P) = true) (xeT : PySem.W.keepIn K (.ref C_T) = true)
    (a0 : PySem.W.nsIn K mainGlobals "counter_read" = some (some (.ref f0))) (l0 : K.lookup f0 = some ⟨oc0, od0, .func (PySem.W.fnOf "counter_read" "counter_read" (defArgs s_p_counter_read) (defBody s_p_counter_read) (defScope s_p_counter_read) .none kV0 dc0 pm0 an0 cd0 ct0), sl0⟩) (c0 : PySem.W.codeIn K cd0 "counter_read" = true) (k0 : PySem.W.keepIn K (.ref f0) = true)
    (a1 : PySem.W.nsIn K mainGlobals "row_of_line" = some (some (.ref f1))) (l1 : K.lookup f1 = some ⟨oc1, od1, .func (PySem.W.fnOf "row_of_line" "row_of_line" (defArgs s_p_row_of_line) (defBody s_p_row_of_line) (defScope s_p_row_of_line) .none kV1 dc1 pm1 an1 cd1 ct1), sl1⟩) (c1 : PySem.W.codeIn K cd1 "row_of_line" = true) (k1 : PySem.W.keepIn K (.ref f1) = true)
    (a2 : PySem.W.nsIn K mainGlobals "is_number" = some (some (.ref f2))) (l2 : K.lookup f2 = some ⟨oc2, od2, .func (PySem.W.fnOf "is_number" "is_number" (defArgs s_p_is_number) (defBody s_p_is_number) (defScope s_p_is_number) .none kV2 dc2 pm2 an2 cd2 ct2), sl2⟩) (c2 : PySem.W.codeIn K cd2 "is_number" = true) (k2 : PySem.W.keepIn K (.ref f2) = true)
    (a3 : PySem.W.nsIn K mainGlobals "_law_cell_at" = some (some (.ref f3))) (l3 : K.lookup f3 = some ⟨oc3, od3, .func (PySem.W.fnOf "_law_cell_at" "_law_cell_at" (defArgs s_l_cell_at) (defBody s_l_cell_at) (defScope s_l_cell_at) .none kV3 dc3 pm3 an3 cd3 ct3), sl3⟩) (c3 : PySem.W.codeIn K cd3 "_law_cell_at" = true) (k3 : PySem.W.keepIn K (.ref f3) = true)
    (a4 : PySem.W.nsIn K mainGlobals "_law_mixed" = some (some (.ref f4))) (l4 : K.lookup f4 = some ⟨oc4, od4, .func (PySem.W.fnOf "_law_mixed" "_law_mixed" (defArgs s_l_mixed) (defBody s_l_mixed) (defScope s_l_mixed) .none kV4 dc4 pm4 an4 cd4 ct4), sl4⟩) (c4 : PySem.W.codeIn K cd4 "_law_mixed" = true) (k4 : PySem.W.keepIn K (.ref f4) = true)
    (a5 : PySem.W.nsIn K mainGlobals "_law_line" = some (some (.ref f5))) (l5 : K.lookup f5 = some ⟨oc5, od5, .func (PySem.W.fnOf "_law_line" "_law_line" (defArgs s_l_line) (defBody s_l_line) (defScope s_l_line) .none kV5 dc5 pm5 an5 cd5 ct5), sl5⟩) (c5 : PySem.W.codeIn K cd5 "_law_line" = true) (k5 : PySem.W.keepIn K (.ref f5) = true)
    (a6 : PySem.W.nsIn K mainGlobals "_law_spoilt" = some (some (.ref f6))) (l6 : K.lookup f6 = some ⟨oc6, od6, .func (PySem.W.fnOf "_law_spoilt" "_law_spoilt" (defArgs s_l_spoilt) (defBody s_l_spoilt) (defScope s_l_spoilt) .none kV6 dc6 pm6 an6 cd6 ct6), sl6⟩) (c6 : PySem.W.codeIn K cd6 "_law_spoilt" = true) (k6 : PySem.W.keepIn K (.ref f6) = true)
    (a7 : PySem.W.nsIn K mainGlobals "_law_numbered" = some (some (.ref f7))) (l7 : K.lookup f7 = some ⟨oc7, od7, .func (PySem.W.fnOf "_law_numbered" "_law_numbered" (defArgs s_l_numbered) (defBody s_l_numbered) (defScope s_l_numbered) .none kV7 dc7 pm7 an7 cd7 ct7), sl7⟩) (c7 : PySem.W.codeIn K cd7 "_law_numbered" = true) (k7 : PySem.W.keepIn K (.ref f7) = true)
    (a8 : PySem.W.nsIn K mainGlobals "_law_refused" = some (some (.ref f8))) (l8 : K.lookup f8 = some ⟨oc8, od8, .func (PySem.W.fnOf "_law_refused" "_law_refused" (defArgs s_l_refused) (defBody s_l_refused) (defScope s_l_refused) .none kV8 dc8 pm8 an8 cd8 ct8), sl8⟩) (c8 : PySem.W.codeIn K cd8 "_law_refused" = true) (k8 : PySem.W.keepIn K (.ref f8) = true)
    (a9 : PySem.W.nsIn K mainGlobals "law" = some (some (.ref f9))) (l9 : K.lookup f9 = some ⟨oc9, od9, .func (PySem.W.fnOf "law" "law" (defArgs s_p_law) (defBody s_p_law) (defScope s_p_law) .none kV9 dc9 pm9 an9 cd9 ct9), sl9⟩) (c9 : PySem.W.codeIn K cd9 "law" = true) (k9 : PySem.W.keepIn K (.ref f9) = true)
    {t_WORDS_IN_LINE : Addr} {ep_WORDS_IN_LINE : Nat} {dh_WORDS_IN_LINE_0 : Int} {dk_WORDS_IN_LINE_0 dv_WORDS_IN_LINE_0 : Tok} {dh_WORDS_IN_LINE_1 : Int} {dk_WORDS_IN_LINE_1 dv_WORDS_IN_LINE_1 : Tok}
    (v_WORDS_IN_LINE : PySem.W.nsIn K mainGlobals "WORDS_IN_LINE" = some (some (.ref t_WORDS_IN_LINE)))
    (vl_WORDS_IN_LINE : K.lookup t_WORDS_IN_LINE = some ⟨.type "dict", none, .dict #[⟨dh_WORDS_IN_LINE_0, .str "up" dk_WORDS_IN_LINE_0, .int 3 dv_WORDS_IN_LINE_0⟩, ⟨dh_WORDS_IN_LINE_1, .str "down" dk_WORDS_IN_LINE_1, .int 4 dv_WORDS_IN_LINE_1⟩] ep_WORDS_IN_LINE, #[]⟩)
    (low_WORDS_IN_LINE : (t_WORDS_IN_LINE == sysModules) = false) (dq_WORDS_IN_LINE_0 : dh_WORDS_IN_LINE_0 = keyH w (.inr "up")) (dq_WORDS_IN_LINE_1 : dh_WORDS_IN_LINE_1 = keyH w (.inr "down"))
    {t_FIGURES : Tok} (v_FIGURES : PySem.W.nsIn K mainGlobals "FIGURES" = some (some (.str "0123456789" t_FIGURES)))
    {t_MOST_FIGURES : Tok} (v_MOST_FIGURES : PySem.W.nsIn K mainGlobals "MOST_FIGURES" = some (some (.int 3 t_MOST_FIGURES)))
    (z_ValueError : PySem.W.nsIn K mainGlobals "ValueError" = some none)
    (z_all : PySem.W.nsIn K mainGlobals "all" = some none)
    (z_bool : PySem.W.nsIn K mainGlobals "bool" = some none)
    (z_enumerate : PySem.W.nsIn K mainGlobals "enumerate" = some none)
    (z_int : PySem.W.nsIn K mainGlobals "int" = some none)
    (z_isinstance : PySem.W.nsIn K mainGlobals "isinstance" = some none)
    (z_len : PySem.W.nsIn K mainGlobals "len" = some none)
    (z_list : PySem.W.nsIn K mainGlobals "list" = some none)
    (z_min : PySem.W.nsIn K mainGlobals "min" = some none)
    (z_range : PySem.W.nsIn K mainGlobals "range" = some none)
    (z_str : PySem.W.nsIn K mainGlobals "str" = some none)
    (z_tuple : PySem.W.nsIn K mainGlobals "tuple" = some none)
    : ∃ fd : FuncData, (∀ (s : Shared) (v : Value), BindsTo s fd ⟨[v], []⟩ [("_law_script", v)]) ∧ ∀ base : Heap, K.In base → base.Ns mainGlobals mg → FnOk l.prog w K mg base CX0 5 fa fd ["_law_script"] (spM K 1 F_p_law) := by
  have e := hfa.symm.trans (PySem.W.mg_of X G a9)
  cases e
  have F0 := fun_mk (st := s_p_counter_read) l0 c0 k0
  have F1 := fun_mk (st := s_p_row_of_line) l1 c1 k1
  have F2 := fun_mk (st := s_p_is_number) l2 c2 k2
  have F3 := fun_mk (st := s_l_cell_at) l3 c3 k3
  have F4 := fun_mk (st := s_l_mixed) l4 c4 k4
  have F5 := fun_mk (st := s_l_line) l5 c5 k5
  have F6 := fun_mk (st := s_l_spoilt) l6 c6 k6
  have F7 := fun_mk (st := s_l_numbered) l7 c7 k7
  have F8 := fun_mk (st := s_l_refused) l8 c8 k8
  have F9 := fun_mk (st := s_p_law) l9 c9 k9
  have b0 := F0.binds (ps := ["text"]) fun _ _ _ _ _ _ us hl => match us, hl with | [_], _ => rfl
  have b1 := F1.binds (ps := ["line"]) fun _ _ _ _ _ _ us hl => match us, hl with | [_], _ => rfl
  have b2 := F2.binds (ps := ["word"]) fun _ _ _ _ _ _ us hl => match us, hl with | [_], _ => rfl
  have b3 := F3.binds (ps := ["_law_script", "_law_k"]) fun _ _ _ _ _ _ us hl => match us, hl with | [_, _], _ => rfl
  have b4 := F4.binds (ps := ["_law_cell", "_law_k"]) fun _ _ _ _ _ _ us hl => match us, hl with | [_, _], _ => rfl
  have b5 := F5.binds (ps := ["_law_cell"]) fun _ _ _ _ _ _ us hl => match us, hl with | [_], _ => rfl
  have b6 := F6.binds (ps := ["_law_line_here", "_law_cell"]) fun _ _ _ _ _ _ us hl => match us, hl with | [_, _], _ => rfl
  have b7 := F7.binds (ps := ["_law_lines", "_law_bad", "_law_cell"]) fun _ _ _ _ _ _ us hl => match us, hl with | [_, _, _], _ => rfl
  have b8 := F8.binds (ps := ["_law_text", "_law_at"]) fun _ _ _ _ _ _ us hl => match us, hl with | [_, _], _ => rfl
  have b9 := F9.binds (ps := ["_law_script"]) fun _ _ _ _ _ _ us hl => match us, hl with | [_], _ => rfl
  have FI := fun_mk (st := s_init) xl xc xk
  have bI := FI.binds (ps := ["self", "at"]) fun _ _ _ _ _ _ us hl => match us, hl with | [_, _], _ => rfl
  exact ⟨_, fun s v => .of_eq rfl, fun base _ _ => ok_p_law (Ad := ⟨_, _, _, _, _, _, _, _, _, _, _, _, _, _, _, _, _, _, _, _, _, _, _, _, _⟩) ⟨F0, PySem.W.mg_of X G a0, b0, F1, PySem.W.mg_of X G a1, b1, F2, PySem.W.mg_of X G a2, b2, F3, PySem.W.mg_of X G a3, b3, F4, PySem.W.mg_of X G a4, b4, F5, PySem.W.mg_of X G a5, b5, F6, PySem.W.mg_of X G a6, b6, F7, PySem.W.mg_of X G a7, b7, F8, PySem.W.mg_of X G a8, b8, F9, PySem.W.mg_of X G a9, b9, FI, bI, ⟨xP, xT, xr_tP, xr_tT, xr_b, xr_1, xr_2, xr_3, xr_4⟩, PySem.W.mg_of X G x1, PySem.W.mg_of X G xP, PySem.W.mg_of X G xT, xeP, xeT, ⟨_, PySem.W.mg_of X G v_WORDS_IN_LINE, dictK_mk vl_WORDS_IN_LINE low_WORDS_IN_LINE (.i rfl dq_WORDS_IN_LINE_0 (.i rfl dq_WORDS_IN_LINE_1 .nil)) (by decide)⟩, ⟨_, PySem.W.mg_of X G v_FIGURES⟩, ⟨_, PySem.W.mg_of X G v_MOST_FIGURES⟩, PySem.W.mg_none_of X G z_ValueError, PySem.W.mg_none_of X G z_all, PySem.W.mg_none_of X G z_bool, PySem.W.mg_none_of X G z_enumerate, PySem.W.mg_none_of X G z_int, PySem.W.mg_none_of X G z_isinstance, PySem.W.mg_none_of X G z_len, PySem.W.mg_none_of X G z_list, PySem.W.mg_none_of X G z_min, PySem.W.mg_none_of X G z_range, PySem.W.mg_none_of X G z_str, PySem.W.mg_none_of X G z_tuple⟩⟩
end Law
set_option maxHeartbeats 0
namespace Law
open L2 M
/-! rows, lines, texts -/
structure Rr where
  w : List Nat
  ns : List Nat
def goodR (r : Rr) : Prop := ((r.w = [117, 112] ∧ r.ns.length = 2) ∨ (r.w = [100, 111, 119, 110] ∧ r.ns.length = 3)) ∧ ∀ n ∈ r.ns, n < 1000
def encR (r : Rr) : D := .tup (.str r.w :: r.ns.map fun n => D.int (n : Nat))
def lineR (r : Rr) : List Nat := joinL [32] (r.w :: r.ns.map fig)
theorem joinL_flat (c : Nat) (a : List Nat) (ts : List (List Nat)) : joinL [c] (a :: ts) = a ++ (ts.map fun t => c :: t).flatten := by
  induction ts generalizing a with
  | nil => simp [joinL]
  | cons t ts ih => rw [joinL_cons _ _ _ (by simp), ih]; simp
theorem fig_in (n : Nat) (h : n < 1000) : ∀ c ∈ fig n, 48 ≤ c ∧ c ≤ 57 := by
  unfold fig
  split
  · intro c hc; simp at hc; omega
  · split
    · intro c hc; simp at hc; omega
    · intro c hc; simp at hc; omega
theorem fig_len (n : Nat) : 1 ≤ (fig n).length ∧ (fig n).length ≤ 3 := by
  unfold fig
  split
  · simp
  · split <;> simp
theorem wordsNo {r : Rr} (h : goodR r) (c : Nat) (hc : c = 32 ∨ c = 10) : ∀ t ∈ r.w :: r.ns.map fig, c ∉ t := by
  intro t ht hm
  rcases List.mem_cons.mp ht with rfl | ht
  · rcases h.1 with ⟨e, _⟩ | ⟨e, _⟩ <;> rw [e] at hm <;> simp at hm <;> omega
  · obtain ⟨n, hn, rfl⟩ := List.mem_map.mp ht
    have := fig_in n (h.2 n hn) c hm
    omega
theorem line_no {r : Rr} (h : goodR r) : 10 ∉ lineR r := by
  unfold lineR
  rw [joinL_flat]
  intro hm
  rcases List.mem_append.mp hm with hm | hm
  · exact wordsNo h 10 (.inr rfl) r.w (by simp) hm
  · obtain ⟨t, ht, h2⟩ := List.mem_flatten.mp hm
    obtain ⟨u, hu, rfl⟩ := List.mem_map.mp ht
    rcases List.mem_cons.mp h2 with e | h2
    · omega
    · exact wordsNo h 10 (.inr rfl) u (by simp only [List.mem_cons]; exact .inr hu) h2
theorem line_ne {r : Rr} (h : goodR r) : lineR r ≠ [] := by
  unfold lineR
  rw [joinL_flat]
  rcases h.1 with ⟨e, _⟩ | ⟨e, _⟩ <;> rw [e] <;> simp
theorem line_len {r : Rr} (h : goodR r) : (lineR r).length ≤ 16 := by
  unfold lineR
  rw [joinL_flat]
  have key : ∀ ns : List Nat, ((ns.map fig).map fun t => 32 :: t).flatten.length ≤ 4 * ns.length := by
    intro ns
    induction ns with
    | nil => simp
    | cons n ns ih =>
      have := (fig_len n).2
      simp only [List.map_cons, List.flatten_cons, List.length_append, List.length_cons] at ih ⊢
      omega
  have := key r.ns
  rw [List.length_append]
  rcases h.1 with ⟨e, l⟩ | ⟨e, l⟩ <;> rw [e] <;> simp only [List.length_cons, List.length_nil] <;> omega
/-! the law's numbers and rows -/
theorem under_R (n : Nat) (r : Rr) : under n (encR r) := by
  have : ∀ ns : List Nat, unders n (ns.map fun n => D.int (n : Nat)) := by
    intro ns
    induction ns with
    | nil => simp
    | cons a ns ih => simp [ih]
  simp [encR, this]
theorem forGo_step {g : MG} {b : MS} {gs : List (Nat × MO)} {d : D} {r : List D} {env env1 env2 : MEnv} {st st1 st2 : Stor} (ho : okG gs st) (hg : g d env st = .ok env1 st1) (hb : b env1 st1 = .ok (.nx env2) st2) :
    forGo g b gs (d :: r) env st = forGo g b gs r env2 st2 := by
  rw [forGo, if_pos ho, hg, R.bind_ok, hb, R.bind_ok]
theorem forGo_end {g : MG} {b : MS} {gs : List (Nat × MO)} {env : MEnv} {st : Stor} (ho : okG gs st) : forGo g b gs [] env st = .ok (.nx env) st := by
  rw [forGo, if_pos ho]
def intsD (ns : List Nat) : List D := ns.map fun n => D.int (n : Nat)
theorem cut1 {α : Type} (a : α) (l : List α) : cut (a :: l) (some 1) none = l := by
  have := cut_drop (a :: l) 1
  rw [show ((1 : Nat) : Int) = 1 from rfl] at this
  rw [this]; rfl
theorem cut01 {α : Type} (a : α) (l : List α) : cut (a :: l) none (some 1) = [a] := by
  have := cut_take (a :: l) 1 (by simp)
  rw [show ((1 : Nat) : Int) = 1 from rfl] at this
  rw [this]; rfl
theorem bools_all {α : Type} (l : List α) : boolsOf (l.map fun _ => D.bl true) = some (l.map fun _ => true) := by
  induction l with
  | nil => rfl
  | cons a l ih => simp [boolsOf, ih]
theorem all_true {α : Type} (l : List α) (n : Nat) (st : Stor) (h : itemsAt st n = some (l.map fun _ => D.bl true)) : allV (fun bs => bs.all fun b => b) [.loc n] st = .ok (.bl true) st := by
  simp only [allV, h, Option.bind_some, bools_all]
  congr 2
  simp
theorem is_number_ok (n : Nat) (h : n < 1000) (st : Stor) : F_p_is_number [.str (fig n)] st = .ok (.bl true) st := by
  have fl := fig_len n
  have fi := fig_in n h
  have cm := compE_map (capt := [none]) (mi := strI (vr 0)) (g := nameG 0) (e := op2 inSV (vr 0) (ct (.str [48, 49, 50, 51, 52, 53, 54, 55, 56, 57])))
    (env := [some (.str (fig n))]) (st := st) (st1 := st) (items := (fig n).map fun c => D.str [c]) (gs := []) (fun _ => .bl true) (fun e => ∃ a, e = [a])
    (by
      have : ((fig n).all fun c => decide (c < 128)) = true := List.all_eq_true.mpr fun c hc => decide_eq_true (by have := fi c hc; omega)
      generalize fig n = F at *
      simp only [r_strI, r_vr, List.getElem?_cons_zero, R.bind_ok]
      rw [if_pos this])
    ⟨none, by simp [captE]⟩ (by rw [List.length_map]; omega) (fun ys => by simp) (by
      rintro d hd env' ys ⟨a, rfl⟩
      obtain ⟨c, hc, rfl⟩ := List.mem_map.mp hd
      refine ⟨[some (.str [c])], ⟨_, rfl⟩, by simp, ?_⟩
      have := fi c hc
      have hm : c ∈ [48, 49, 50, 51, 52, 53, 54, 55, 56, 57] := by simp; omega
      have hi : inSV (.str [c]) (.str [48, 49, 50, 51, 52, 53, 54, 55, 56, 57]) (st ++ [.lst ys]) = .ok (.bl true) (st ++ [.lst ys]) := by
        simp only [inSV]
        rw [if_pos (by simp), decide_eq_true hm]
      generalize st ++ [MO.lst ys] = Z at *
      simp [hi])
  have ea : (((fig n).map fun c => D.str [c]).map fun _ => D.bl true) = (fig n).map fun _ => D.bl true := by rw [List.map_map]; rfl
  rw [ea] at cm
  have al := all_true (fig n) st.length (st ++ [.lst ((fig n).map fun _ => D.bl true)]) (by simp)
  have hu : gc st (.ok (.bl true) (st ++ [.lst ((fig n).map fun _ => D.bl true)])) = .ok (.bl true) st := gc_flat (by simp)
  have ln : lenV [.str (fig n)] st = .ok (.int ((fig n).length : Nat)) st := by simp only [lenV]; rw [if_pos (by omega)]
  have l3 : ¬ (3 : Int) < (((fig n).length : Nat) : Int) := by omega
  have ne : fig n ≠ [] := fun z => by rw [z] at fl; simp at fl
  have i0 : ∃ c, ixV (.str (fig n)) (.int 0) st = .ok (.str [c]) st ∧ (c = 48 → fig n = [48]) := by
    unfold fig
    split
    · exact ⟨48 + n, by simp [ixV, atI, ixN], fun e => by rw [e]⟩
    · split
      · exact ⟨48 + n / 10, by simp [ixV, atI, ixN], fun e => by omega⟩
      · exact ⟨48 + n / 100, by simp [ixV, atI, ixN], fun e => by omega⟩
  obtain ⟨c, i0, hc0⟩ := i0
  unfold F_p_is_number gcF fnM b_p_is_number
  rw [show startM 1 [D.str (fig n)] = [some (.str (fig n))] from rfl]
  generalize compE [none] _ _ _ _ = CE at *
  generalize (st ++ [.lst ((fig n).map fun _ => D.bl true)] : Stor) = Z at *
  generalize (((fig n).length : Nat) : Int) = LL at *
  by_cases c4 : c = 48
  · have e48 := hc0 c4
    subst c4
    clear hc0 fi fl
    generalize fig n = F at *
    subst e48
    simp [ln, l3, i0, cm, al]
    exact hu
  · generalize hF : fig n = F at *
    simp [ne, ln, l3, i0, c4, cm, al]
    exact hu
noncomputable abbrev numsE : ME := compE [none] (seqI (slE (vr 1) (inP (ct (.int 1))) noP)) (nameG 0) yesT (callF F_p_is_number [] (consA (vr 0) nilA))
noncomputable abbrev intsE : ME := compE [none] (seqI (slE (vr 1) (inP (ct (.int 1))) noP)) (nameG 0) yesT (callE intW (consA (vr 0) nilA))
theorem slI (w : List Nat) (ts : List (List Nat)) (m : Nat) (st : Stor) (a0 : Option D) (h : itemsAt st m = some ((w :: ts).map D.str)) :
    seqI (slE (vr 1) (inP (ct (.int 1))) noP) [a0, some (.loc m)] st = .ok (ts.map D.str, [(st.length, .lst (ts.map D.str))]) (st ++ [.lst (ts.map D.str)]) := by
  have sl : slV (.loc m) (some 1) none st = .ok (.loc st.length) (st ++ [.lst (ts.map D.str)]) := by
    simp only [slV, h, List.map_cons, cut1]
  have hg : (st ++ [MO.lst (ts.map D.str)])[st.length]? = some (.lst (ts.map D.str)) := by simp
  generalize (st ++ [MO.lst (ts.map D.str)] : Stor) = Z at *
  generalize ts.map D.str = X at *
  simp [inP, noP, sl, hg]
theorem nums_ok (w : List Nat) (ns : List Nat) (hn : ∀ n ∈ ns, n < 1000) (hl : ns.length ≤ 3) (m : Nat) (st : Stor) (a0 : Option D) (h : itemsAt st m = some ((w :: ns.map fig).map D.str)) :
    numsE [a0, some (.loc m)] st = .ok (.loc (st.length + 1)) (st ++ [.lst ((ns.map fig).map D.str), .lst (ns.map fun _ => D.bl true)]) := by
  have cm := compE_map (capt := [none]) (mi := seqI (slE (vr 1) (inP (ct (.int 1))) noP)) (g := nameG 0) (e := callF F_p_is_number [] (consA (vr 0) nilA))
    (env := [a0, some (.loc m)]) (st := st) (st1 := st ++ [.lst ((ns.map fig).map D.str)]) (items := (ns.map fig).map D.str) (gs := [(st.length, .lst ((ns.map fig).map D.str))]) (fun _ => .bl true) (fun e => ∃ a, e = [a])
    (slI w (ns.map fig) m st a0 h) ⟨none, by simp [captE]⟩ (by simp; omega) (fun ys => by simp) (by
      rintro d hd env' ys ⟨a, rfl⟩
      obtain ⟨t, ht, rfl⟩ := List.mem_map.mp hd
      obtain ⟨n, hn1, rfl⟩ := List.mem_map.mp ht
      refine ⟨[some (.str (fig n))], ⟨_, rfl⟩, by simp, ?_⟩
      have := is_number_ok n (hn n hn1) (st ++ [.lst ((ns.map fig).map D.str)] ++ [.lst ys])
      generalize st ++ [MO.lst ((ns.map fig).map D.str)] ++ [.lst ys] = Z at *
      simp [this])
  rw [numsE, cm]
  simp
theorem ints_ok (w : List Nat) (ns : List Nat) (hn : ∀ n ∈ ns, n < 1000) (hl : ns.length ≤ 3) (m : Nat) (st : Stor) (a0 : Option D) (h : itemsAt st m = some ((w :: ns.map fig).map D.str)) :
    intsE [a0, some (.loc m)] st = .ok (.loc (st.length + 1)) (st ++ [.lst ((ns.map fig).map D.str), .lst (intsD ns)]) := by
  have cm := compE_map (capt := [none]) (mi := seqI (slE (vr 1) (inP (ct (.int 1))) noP)) (g := nameG 0) (e := callE intW (consA (vr 0) nilA))
    (env := [a0, some (.loc m)]) (st := st) (st1 := st ++ [.lst ((ns.map fig).map D.str)]) (items := (ns.map fig).map D.str) (gs := [(st.length, .lst ((ns.map fig).map D.str))]) (fun d => match d with | .str cs => (match figV cs with | some k => .int (k : Nat) | none => .non) | _ => .non) (fun e => ∃ a, e = [a])
    (slI w (ns.map fig) m st a0 h) ⟨none, by simp [captE]⟩ (by simp; omega) (fun ys => by simp) (by
      rintro d hd env' ys ⟨a, rfl⟩
      obtain ⟨t, ht, rfl⟩ := List.mem_map.mp hd
      obtain ⟨n, hn1, rfl⟩ := List.mem_map.mp ht
      refine ⟨[some (.str (fig n))], ⟨_, rfl⟩, by simp, ?_⟩
      have := r_intW_s n (st ++ [.lst ((ns.map fig).map D.str)] ++ [.lst ys]) (hn n hn1)
      have fv := figV_fig n (hn n hn1)
      generalize st ++ [MO.lst ((ns.map fig).map D.str)] ++ [.lst ys] = Z at *
      generalize fig n = FN at *
      simp [this, fv])
  have e : (((ns.map fig).map D.str).map fun d => match d with | .str cs => (match figV cs with | some k => D.int (k : Nat) | none => .non) | _ => .non) = intsD ns := by
    unfold intsD
    rw [List.map_map, List.map_map]
    refine List.map_congr_left fun n hm => ?_
    simp [figV_fig n (hn n hm)]
  rw [e] at cm
  rw [intsE, cm]
  simp
theorem row_of_line_ok (r : Rr) (g : goodR r) (st : Stor) : F_p_row_of_line [.str (lineR r)] st = .ok (encR r) st := by
  have ll := line_len g
  have nl : r.ns.length ≤ 3 := by rcases g.1 with ⟨_, e⟩ | ⟨_, e⟩ <;> omega
  have sp : splitV (.str (lineR r)) [.str [32]] st = .ok (.loc st.length) (st ++ [.lst ((r.w :: r.ns.map fig).map D.str)]) := by
    simp only [splitV]
    rw [if_pos ⟨by simp, by omega⟩]
    unfold lineR
    rw [splitM_join 32 _ (by simp) (wordsNo g 32 (.inl rfl))]
  let A : MO := .lst ((r.w :: r.ns.map fig).map D.str)
  let Z0 : Stor := st ++ [A]
  have i0 : itemsAt Z0 st.length = some ((r.w :: r.ns.map fig).map D.str) := by simp [Z0, A]
  have ln : lenV [.loc st.length] Z0 = .ok (.int ((1 + r.ns.length : Nat) : Int)) Z0 := by
    have := r_len_loc Z0 st.length _ i0
    rw [this]; congr 3; simp; omega
  have x0 : ixV (.loc st.length) (.int 0) Z0 = .ok (.str r.w) Z0 := r_ix_loc _ _ _ _ _ i0 (by rw [show (0 : Int) = ((0 : Nat) : Int) from rfl, atI_ofNat]; rfl)
  have lk : (lookT [([117, 112], .int 3), ([100, 111, 119, 110], .int 4)] r.w).getD .non = .int ((1 + r.ns.length : Nat) : Int) := by
    rcases g.1 with ⟨e, l⟩ | ⟨e, l⟩
    · rw [e, l]; simp [lookT]
    · rw [e, l]; simp [lookT]
  have nu := nums_ok r.w r.ns g.2 nl st.length Z0 (some (.str (lineR r))) i0
  let Z2 : Stor := Z0 ++ [.lst ((r.ns.map fig).map D.str), .lst (r.ns.map fun _ => D.bl true)]
  have lz : Z0.length = st.length + 1 := by simp [Z0]
  rw [lz, show Z0 ++ [.lst ((r.ns.map fig).map D.str), .lst (r.ns.map fun _ => D.bl true)] = Z2 from rfl] at nu
  have al := all_true r.ns (st.length + 2) Z2 (by simp [Z2, Z0, itemsAt])
  have i2 : itemsAt Z2 st.length = some ((r.w :: r.ns.map fig).map D.str) := itemsAt_app i0
  let Z3 : Stor := Z2 ++ [.lst [.str r.w]]
  have sl : slV (.loc st.length) none (some 1) Z2 = .ok (.loc (st.length + 3)) Z3 := by
    simp only [slV, i2, List.map_cons, cut01]
    have : Z2.length = st.length + 3 := by simp [Z2, Z0]
    rw [this]
  have i3 : itemsAt Z3 st.length = some ((r.w :: r.ns.map fig).map D.str) := itemsAt_app i2
  have it := ints_ok r.w r.ns g.2 nl st.length Z3 (some (.str (lineR r))) i3
  have lz3 : Z3.length = st.length + 4 := by simp [Z3, Z2, Z0]
  let Z4 : Stor := Z3 ++ [.lst ((r.ns.map fig).map D.str), .lst (intsD r.ns)]
  rw [lz3, show Z3 ++ [.lst ((r.ns.map fig).map D.str), .lst (intsD r.ns)] = Z4 from rfl] at it
  let Z5 : Stor := Z4 ++ [.lst ([.str r.w] ++ intsD r.ns)]
  have ad : addV (.loc (st.length + 3)) (.loc (st.length + 5)) Z4 = .ok (.loc (st.length + 6)) Z5 := by
    have e1 : Z4[st.length + 3]? = some (.lst [.str r.w]) := by simp [Z4, Z3, Z2, Z0]
    have e2 : Z4[st.length + 5]? = some (.lst (intsD r.ns)) := by simp [Z4, Z3, Z2, Z0]
    have e3 : Z4.length = st.length + 6 := by simp [Z4, Z3, Z2, Z0]
    simp only [addV, e1, e2]
    rw [if_pos (by simp [intsD]; omega), e3]
  have tp : tupleC [.loc (st.length + 6)] Z5 = .ok (encR r) Z5 := by
    have : itemsAt Z5 (st.length + 6) = some ([.str r.w] ++ intsD r.ns) := by simp [Z5, Z4, Z3, Z2, Z0, itemsAt]
    simp only [tupleC, this]; rfl
  have hu : gc st (.ok (encR r) Z5) = .ok (encR r) st := by
    have : Z5 = st ++ ([A, .lst ((r.ns.map fig).map D.str), .lst (r.ns.map fun _ => D.bl true), .lst [.str r.w], .lst ((r.ns.map fig).map D.str), .lst (intsD r.ns), .lst ([.str r.w] ++ intsD r.ns)]) := by simp [Z5, Z4, Z3, Z2, Z0]
    rw [this]; exact gc_flat (under_R _ r)
  unfold F_p_row_of_line gcF fnM b_p_row_of_line
  rw [show startM 2 [D.str (lineR r)] = [some (.str (lineR r)), none] from rfl]
  rw [show (st ++ [.lst ((r.w :: r.ns.map fig).map D.str)] : Stor) = Z0 from rfl] at sp
  generalize hNE : numsE = NE at *
  unfold numsE at hNE
  generalize hIE : intsE = IE at *
  unfold intsE at hIE
  rw [hNE, hIE]
  generalize Z5 = Y5 at *
  generalize Z4 = Y4 at *
  generalize Z3 = Y3 at *
  generalize Z2 = Y2 at *
  generalize Z0 = Y0 at *
  generalize encR r = ER at *
  generalize lineR r = LR at *
  generalize ((1 + r.ns.length : Nat) : Int) = LL at *
  simp [isTy, sp, ln, x0, lk, nu, al, truV, inP, noP, sl, it, ad, tp]
  exact hu
theorem enumL_len (k : Nat) (xs : List D) : (enumL k xs).length = xs.length := by
  induction xs generalizing k with
  | nil => rfl
  | cons x xs ih => rw [enumL, List.length_cons, ih, List.length_cons]
theorem none_R (r : Rr) (st : Stor) : isNoneV (encR r) .non st = .ok (.bl false) st := rfl
end Law
set_option maxHeartbeats 0
namespace Law
open L2 M
/-! words and lines that tell no row -/
def dgt (c : Nat) : Bool := decide (c ∈ [48, 49, 50, 51, 52, 53, 54, 55, 56, 57])
def isNum (w : List Nat) : Bool := !w.isEmpty && decide (w.length ≤ 3) && !(decide (w.head? = some 48) && decide (w ≠ [48])) && w.all dgt
theorem bools_map {α : Type} (l : List α) (f : α → Bool) : boolsOf (l.map fun a => D.bl (f a)) = some (l.map f) := by
  induction l with
  | nil => rfl
  | cons a l ih => simp [boolsOf, ih]
theorem all_map {α : Type} (l : List α) (f : α → Bool) (n : Nat) (st : Stor) (h : itemsAt st n = some (l.map fun a => D.bl (f a))) : allV (fun bs => bs.all fun b => b) [.loc n] st = .ok (.bl (l.all f)) st := by
  simp only [allV, h, Option.bind_some, bools_map]
  congr 2
  rw [List.all_map]; rfl
theorem isnum_ok (w : List Nat) (hl : w.length ≤ 1000) (hlo : ∀ c ∈ w, c < 128) (st : Stor) : F_p_is_number [.str w] st = .ok (.bl (isNum w)) st := by
  have ln : lenV [.str w] st = .ok (.int (w.length : Nat)) st := r_len_str st w (by omega)
  unfold F_p_is_number gcF fnM b_p_is_number
  rw [show startM 1 [D.str w] = [some (.str w)] from rfl]
  by_cases h0 : w = []
  · subst h0
    have : isNum [] = false := rfl
    rw [this]
    simp [gc_same]
  · by_cases h3 : 3 < w.length
    · have : isNum w = false := by
        unfold isNum
        rw [decide_eq_false (p := w.length ≤ 3) (by omega)]
        simp
      rw [this]
      have h3' : (3 : Int) < (w.length : Int) := by omega
      have gg : gc st (.ok (.bl false) st) = .ok (.bl false) st := gc_same (by simp)
      generalize compE [none] _ _ _ _ = CE at *
      generalize ((w.length : Nat) : Int) = L at *
      simp [h0, ln, h3']
      exact gg
    · have h3' : ¬ (3 : Int) < (w.length : Int) := by omega
      obtain ⟨x, xs, rfl⟩ : ∃ x xs, w = x :: xs := by
        cases w with
        | nil => exact absurd rfl h0
        | cons x xs => exact ⟨x, xs, rfl⟩
      have i0 : ixV (.str (x :: xs)) (.int 0) st = .ok (.str [x]) st := r_ix_str st _ _ _ (by omega) (by rw [show (0 : Int) = ((0 : Nat) : Int) from rfl, atI_ofNat]; rfl)
      by_cases hz : x = 48 ∧ xs ≠ []
      · have : isNum (x :: xs) = false := by
          unfold isNum
          rw [hz.1]
          have : decide ((48 :: xs) ≠ [48]) = true := decide_eq_true (by simp [hz.2])
          rw [this]; simp
        rw [this]
        have gg : gc st (.ok (.bl false) st) = .ok (.bl false) st := gc_same (by simp)
        have hne : ¬ (x :: xs = [48]) := by simp [hz.2]
        have hx := hz.1
        generalize compE [none] _ _ _ _ = CE at *
        generalize hW : x :: xs = W at *
        generalize ((W.length : Nat) : Int) = L at *
        subst hx
        simp [h0, ln, h3', i0, hne]
        exact gg
      · have cm := compE_map (capt := [none]) (mi := strI (vr 0)) (g := nameG 0) (e := op2 inSV (vr 0) (ct (.str [48, 49, 50, 51, 52, 53, 54, 55, 56, 57])))
          (env := [some (.str (x :: xs))]) (st := st) (st1 := st) (items := (x :: xs).map fun c => D.str [c]) (gs := []) (fun d => match d with | .str [c] => .bl (dgt c) | _ => .non) (fun e => ∃ a, e = [a])
          (by
            have : ((x :: xs).all fun c => decide (c < 128)) = true := List.all_eq_true.mpr fun c hc => decide_eq_true (hlo c hc)
            generalize x :: xs = F at *
            simp only [r_strI, r_vr, List.getElem?_cons_zero, R.bind_ok]
            rw [if_pos this])
          ⟨none, by simp [captE]⟩ (by rw [List.length_map]; omega) (fun ys => by simp) (by
            rintro d hd env' ys ⟨a, rfl⟩
            obtain ⟨c, hc, rfl⟩ := List.mem_map.mp hd
            refine ⟨[some (.str [c])], ⟨_, rfl⟩, by simp, ?_⟩
            have hi : inSV (.str [c]) (.str [48, 49, 50, 51, 52, 53, 54, 55, 56, 57]) (st ++ [.lst ys]) = .ok (.bl (dgt c)) (st ++ [.lst ys]) := by
              simp only [inSV]
              rw [if_pos (by simp)]; rfl
            generalize st ++ [MO.lst ys] = Z at *
            simp [hi])
        have ea : (((x :: xs).map fun c => D.str [c]).map fun d => match d with | .str [c] => D.bl (dgt c) | _ => .non) = (x :: xs).map fun c => D.bl (dgt c) := by rw [List.map_map]; rfl
        rw [ea] at cm
        have al := all_map (x :: xs) dgt st.length (st ++ [.lst ((x :: xs).map fun c => D.bl (dgt c))]) (by simp [itemsAt])
        have hn : isNum (x :: xs) = (x :: xs).all dgt := by
          unfold isNum
          rw [decide_eq_true (p := (x :: xs).length ≤ 3) (by omega)]
          have : (decide ((x :: xs).head? = some 48) && decide (x :: xs ≠ [48])) = false := by
            by_cases hx : x = 48
            · have : xs = [] := Classical.byContradiction fun z => hz ⟨hx, z⟩
              rw [hx, this]; rfl
            · rw [decide_eq_false (p := (x :: xs).head? = some 48) (by simp [hx])]; rfl
          rw [this]; simp
        rw [hn]
        generalize ((x :: xs).all dgt) = RES at *
        have hu : gc st (.ok (.bl RES) (st ++ [.lst ((x :: xs).map fun c => D.bl (dgt c))])) = .ok (.bl RES) st := gc_flat (by simp)
        have tt : andT (tB1 (op2 (eqV 200) (op2 ixV (vr 0) (ct (.int 0))) (ct (.str [48])))) (tB1 (op2 (neV 200) (vr 0) (ct (.str [48])))) [some (.str (x :: xs))] st = .ok false st := by
          by_cases hx : x = 48
          · have hxs : xs = [] := Classical.byContradiction fun z => hz ⟨hx, z⟩
            subst hx hxs
            simp [i0]
          · simp [i0, hx]
        generalize compE [none] _ _ _ _ = CE at *
        generalize hTT : andT (tB1 _) _ = TT at *
        generalize (st ++ [.lst ((x :: xs).map fun c => D.bl (dgt c))] : Stor) = Z at *
        generalize x :: xs = W at *
        generalize ((W.length : Nat) : Int) = L at *
        simp [h0, ln, h3', tt, cm, al]
        exact hu
/-- a line that is no row's -/
def badL (l : List Nat) : Prop := ∀ st, F_p_row_of_line [.str l] st = .ok .non st
/-- words that tell no row: another count or first word, or a word that is no number -/
def badW (w : List Nat) (ts : List (List Nat)) : Prop := ¬ ((w = [117, 112] ∧ ts.length = 2) ∨ (w = [100, 111, 119, 110] ∧ ts.length = 3)) ∨ ∃ t ∈ ts, isNum t = false
theorem bad_line (w : List Nat) (ts : List (List Nat)) (hb : badW w ts) (hno : ∀ t ∈ w :: ts, 32 ∉ t) (hlo : ∀ t ∈ ts, t.length ≤ 100 ∧ ∀ c ∈ t, c < 128) (hlen : ts.length ≤ 10) (hL : (joinL [32] (w :: ts)).length ≤ 10000) : badL (joinL [32] (w :: ts)) := by
  intro st
  have sp : splitV (.str (joinL [32] (w :: ts))) [.str [32]] st = .ok (.loc st.length) (st ++ [.lst ((w :: ts).map D.str)]) := by
    simp only [splitV]
    rw [if_pos ⟨by simp, by omega⟩, splitM_join 32 _ (by simp) hno]
  have i0 : itemsAt (st ++ [MO.lst ((w :: ts).map D.str)]) st.length = some ((w :: ts).map D.str) := by simp [itemsAt]
  have ln : lenV [.loc st.length] (st ++ [MO.lst ((w :: ts).map D.str)]) = .ok (.int ((1 + ts.length : Nat) : Int)) (st ++ [MO.lst ((w :: ts).map D.str)]) := by
    have := r_len_loc _ st.length _ i0
    rw [this]; congr 3; simp; omega
  have x0 : ixV (.loc st.length) (.int 0) (st ++ [MO.lst ((w :: ts).map D.str)]) = .ok (.str w) (st ++ [MO.lst ((w :: ts).map D.str)]) := r_ix_loc _ _ _ _ _ i0 (by rw [show (0 : Int) = ((0 : Nat) : Int) from rfl, atI_ofNat]; rfl)
  unfold F_p_row_of_line gcF fnM b_p_row_of_line
  rw [show startM 2 [D.str (joinL [32] (w :: ts))] = [some (.str (joinL [32] (w :: ts))), none] from rfl]
  by_cases hs : (w = [117, 112] ∧ ts.length = 2) ∨ (w = [100, 111, 119, 110] ∧ ts.length = 3)
  · obtain ⟨t, ht, hn⟩ := hb.resolve_left fun z => z hs
    have lk : (lookT [([117, 112], .int 3), ([100, 111, 119, 110], .int 4)] w).getD .non = .int ((1 + ts.length : Nat) : Int) := by
      rcases hs with ⟨e, l⟩ | ⟨e, l⟩
      · rw [e, l]; simp [lookT]
      · rw [e, l]; simp [lookT]
    have cm := compE_map (capt := [none]) (mi := seqI (slE (vr 1) (inP (ct (.int 1))) noP)) (g := nameG 0) (e := callF F_p_is_number [] (consA (vr 0) nilA))
      (env := [some (.str (joinL [32] (w :: ts))), some (.loc st.length)]) (st := st ++ [MO.lst ((w :: ts).map D.str)]) (st1 := st ++ [MO.lst ((w :: ts).map D.str)] ++ [.lst (ts.map D.str)]) (items := ts.map D.str) (gs := [((st ++ [MO.lst ((w :: ts).map D.str)]).length, .lst (ts.map D.str))]) (fun d => match d with | .str t => .bl (isNum t) | _ => .non) (fun e => ∃ a, e = [a])
      (slI w ts st.length _ _ i0) ⟨none, by simp [captE]⟩ (by simp; omega) (fun ys => by simp) (by
        rintro d hd env' ys ⟨a, rfl⟩
        obtain ⟨t, ht, rfl⟩ := List.mem_map.mp hd
        refine ⟨[some (.str t)], ⟨_, rfl⟩, by simp, ?_⟩
        have := isnum_ok t (by have := (hlo t ht).1; omega) (hlo t ht).2 (st ++ [MO.lst ((w :: ts).map D.str)] ++ [.lst (ts.map D.str)] ++ [.lst ys])
        generalize st ++ [MO.lst ((w :: ts).map D.str)] ++ [.lst (ts.map D.str)] ++ [.lst ys] = Z at *
        simp [this])
    have ea : ((ts.map D.str).map fun d => match d with | .str t => D.bl (isNum t) | _ => .non) = ts.map fun t => D.bl (isNum t) := by rw [List.map_map]; rfl
    rw [ea] at cm
    have al := all_map ts isNum (st ++ [MO.lst ((w :: ts).map D.str)] ++ [MO.lst (ts.map D.str)]).length (st ++ [MO.lst ((w :: ts).map D.str)] ++ [.lst (ts.map D.str)] ++ [.lst (ts.map fun t => D.bl (isNum t))]) (by simp [itemsAt])
    have hall : ts.all isNum = false := by
      rw [Bool.eq_false_iff]; intro z
      have := List.all_eq_true.mp z t ht
      rw [hn] at this; cases this
    rw [hall] at al
    have hu : gc st (.ok .non (st ++ [MO.lst ((w :: ts).map D.str)] ++ [.lst (ts.map D.str)] ++ [.lst (ts.map fun t => D.bl (isNum t))])) = .ok .non st := by
      rw [List.append_assoc, List.append_assoc]; exact gc_flat (by simp)
    generalize compE [none] _ _ _ (callF F_p_is_number [] _) = CE at *
    generalize (st ++ [MO.lst ((w :: ts).map D.str)] ++ [.lst (ts.map D.str)] ++ [.lst (ts.map fun t => D.bl (isNum t))] : Stor) = Z2 at *
    generalize (st ++ [MO.lst ((w :: ts).map D.str)] ++ [MO.lst (ts.map D.str)]).length = z1 at *
    generalize (st ++ [MO.lst ((w :: ts).map D.str)] : Stor) = Z0 at *
    generalize joinL [32] (w :: ts) = LR at *
    generalize ((1 + ts.length : Nat) : Int) = LL at *
    simp [isTy, sp, ln, x0, lk, cm, al, truV]
    exact hu
  · have ne : neV 200 (.int ((1 + ts.length : Nat) : Int)) ((lookT [([117, 112], .int 3), ([100, 111, 119, 110], .int 4)] w).getD .non) (st ++ [MO.lst ((w :: ts).map D.str)]) = .ok (.bl true) (st ++ [MO.lst ((w :: ts).map D.str)]) := by
      by_cases h1 : w = [117, 112]
      · have h2 : ¬ ((1 + ts.length : Nat) : Int) = 3 := fun z => hs (.inl ⟨h1, by omega⟩)
        rw [h1]
        rw [show (lookT [([117, 112], D.int 3), ([100, 111, 119, 110], .int 4)] [117, 112]).getD .non = .int 3 by simp [lookT], r_ne_int, decide_eq_false h2]; rfl
      · by_cases h1' : w = [100, 111, 119, 110]
        · have h2 : ¬ ((1 + ts.length : Nat) : Int) = 4 := fun z => hs (.inr ⟨h1', by omega⟩)
          rw [h1']
          rw [show (lookT [([117, 112], D.int 3), ([100, 111, 119, 110], .int 4)] [100, 111, 119, 110]).getD .non = .int 4 by simp [lookT], r_ne_int, decide_eq_false h2]; rfl
        · have : (lookT [([117, 112], D.int 3), ([100, 111, 119, 110], .int 4)] w).getD .non = .non := by
            simp [lookT, Ne.symm h1, Ne.symm h1', h1, h1']
          rw [this]; rfl
    have hu : gc st (.ok .non (st ++ [MO.lst ((w :: ts).map D.str)])) = .ok .non st := gc_flat (by simp)
    generalize compE [none] _ _ _ (callF F_p_is_number [] _) = CE at *
    generalize (st ++ [MO.lst ((w :: ts).map D.str)] : Stor) = Z0 at *
    generalize joinL [32] (w :: ts) = LR at *
    generalize ((1 + ts.length : Nat) : Int) = LL at *
    generalize hLK : (lookT [([117, 112], D.int 3), ([100, 111, 119, 110], .int 4)] w).getD .non = LK at *
    simp [isTy, sp, ln, x0, hLK, ne]
    exact hu
end Law
set_option maxHeartbeats 0
namespace Law
open L2 M
theorem cell_at (ns : List Int) (n : Nat) (k : Nat) (st : Stor) (h : itemsAt st n = some (ns.map D.int)) : F_l_cell_at [.loc n, .int k] st = .ok (.int (ns.getD k 0)) st := by
  unfold F_l_cell_at gcF fnM b_l_cell_at
  by_cases hk : k < ns.length
  · simp [startM, r_len_loc st n _ h, hk, r_ix_loc st n k _ (.int (ns.getD k 0)) h (by rw [atI_ofNat]; simp [hk]), gc_same]
  · simp [startM, r_len_loc st n _ h, hk, gc_same]
def mixed (c k : Int) : Int := (c % 1000000007 + 7919 * k + 13) * (c % 1000000007 + 7919 * k + 13) % 998244353 / 3
theorem mixed_nonneg (c k : Int) : 0 ≤ mixed c k := by
  unfold mixed
  have := Int.emod_nonneg ((c % 1000000007 + 7919 * k + 13) * (c % 1000000007 + 7919 * k + 13)) (show (998244353 : Int) ≠ 0 by decide)
  omega
theorem mixed_ok (c k : Int) (st : Stor) (h0 : 0 ≤ k) (h1 : k ≤ 1000000) : F_l_mixed [.int c, .int k] st = .ok (.int (mixed c k)) st := by
  have a1 := Int.emod_nonneg c (show (1000000007 : Int) ≠ 0 by decide)
  have a2 := Int.emod_lt_of_pos c (show (0 : Int) < 1000000007 by decide)
  unfold F_l_mixed gcF fnM b_l_mixed mixed
  simp [startM, r_mod_int, r_fdiv_int, r_mul_int st 7919 k (by omega), r_mul_int st (c % 1000000007 + 7919 * k + 13) (c % 1000000007 + 7919 * k + 13) (by omega), gc_same]
def figD (ns : List Nat) : List D := ns.map fun n => D.str (fig n)
def lnK (c : Int) (i : Nat) : Int := if mixed c (0 + (i : Nat) + 9) % 2 = 0 then 10 else 1000
def lnN (c : Int) (i : Nat) : Nat := (mixed c (0 + (i : Nat)) % lnK c i).toNat
def rowOf (c : Int) : Rr := if mixed c 5 % 2 = 0 then ⟨[117, 112], [lnN c 0, lnN c 1]⟩ else ⟨[100, 111, 119, 110], [lnN c 0, lnN c 1, lnN c 2]⟩
theorem lnN_lt (c : Int) (i : Nat) : lnN c i < 1000 := by
  unfold lnN
  have hk : 0 < lnK c i ∧ lnK c i ≤ 1000 := by unfold lnK; split <;> omega
  have := Int.emod_lt_of_pos (mixed c (0 + (i : Nat))) hk.1
  have := Int.emod_nonneg (mixed c (0 + (i : Nat))) (show lnK c i ≠ 0 by omega)
  omega
theorem rowOf_good (c : Int) : goodR (rowOf c) := by
  have h := lnN_lt c
  unfold rowOf
  split
  · exact ⟨.inl ⟨rfl, rfl⟩, fun n hm => by simp at hm; rcases hm with rfl | rfl <;> exact h _⟩
  · exact ⟨.inr ⟨rfl, rfl⟩, fun n hm => by simp at hm; rcases hm with rfl | rfl | rfl <;> exact h _⟩
theorem line_ok (c : Int) (st : Stor) : F_l_line [.int c] st = .ok (.str (lineR (rowOf c))) st := by
  unfold F_l_line gcF fnM b_l_line
  rw [show startM 4 [D.int c] = [some (.int c), none, none, none] from rfl]
  generalize hB : (seqS (setS 3 _) _ : MS) = B
  obtain ⟨env', st', h1, ns, g, a2, a3, hl, rfl, rfl⟩ := forGo_ix (g := nameG 2) (b := B) (gs := []) (items := upto 0 3)
    (fun i env s => ∃ (ns : List Nat) (g : Stor) (a2 a3 : Option D), ns = (List.range i).map (lnN c) ∧ env = [some (.int c), some (.loc st.length), a2, a3] ∧ s = st ++ .lst (figD ns) :: g)
    (env := [some (.int c), some (.loc st.length), none, none]) (st := st ++ [.lst []]) ⟨[], [], none, none, rfl, rfl, rfl⟩ (by
      rintro i d env s hi ⟨ns, g, a2, a3, hl, rfl, rfl⟩
      have hnl : ns.length = i := by rw [hl]; simp
      obtain ⟨hi', rfl⟩ := upto_get hi
      have m9 := fun s => mixed_ok c (0 + (i : Nat) + 9) s (by omega) (by omega)
      have m0 := fun s => mixed_ok c (0 + (i : Nat)) s (by omega) (by omega)
      have n0 := mixed_nonneg c (0 + (i : Nat))
      let S1 : Stor := st ++ .lst (figD ns) :: g
      let S2 : Stor := st ++ .lst (figD ns) :: (g ++ [.lst [.int 10, .int 1000]])
      have e2 : S1 ++ [.lst [.int 10, .int 1000]] = S2 := by simp [S1, S2]
      have ls : ∀ env, lstE (consA (ct (.int 10)) (consA (ct (.int 1000)) nilA)) env S1 = .ok (.loc S1.length) S2 := fun env => by rw [← e2]; simp
      have it : itemsAt S2 S1.length = some [.int 10, .int 1000] := by rw [← e2]; simp [itemsAt]
      have hk : 0 < lnK c i := by unfold lnK; split <;> omega
      have ix : ixV (.loc S1.length) (.int (mixed c (0 + (i : Nat) + 9) % 2)) S2 = .ok (.int (lnK c i)) S2 := by
        have h2 : mixed c (0 + (i : Nat) + 9) % 2 = 0 ∨ mixed c (0 + (i : Nat) + 9) % 2 = 1 := by omega
        unfold lnK
        rcases h2 with h2 | h2
        · rw [if_pos h2, h2]; exact r_ix_loc _ _ _ _ _ it rfl
        · rw [if_neg (by omega), h2]; exact r_ix_loc _ _ _ _ _ it rfl
      have hv2 := lnN_lt c i
      obtain ⟨v, hvd⟩ : ∃ v, lnN c i = v := ⟨_, rfl⟩
      have hv : mixed c (0 + (i : Nat)) % lnK c i = (v : Nat) := by
        have := Int.emod_nonneg (mixed c (0 + (i : Nat))) (show lnK c i ≠ 0 by omega)
        rw [← hvd]; unfold lnN; omega
      rw [hvd] at hv2
      generalize lnK c i = k at *
      have md : modV (.int (mixed c (0 + (i : Nat)))) (.int k) S2 = .ok (.int (v : Nat)) S2 := by rw [r_mod_int S2 _ k hk, hv]
      have sw := r_strW_i v S2 hv2
      have ap : appendV (.loc st.length) [.str (fig v)] S2 = .ok .non (st ++ .lst (figD (ns ++ [v])) :: (g ++ [.lst [.int 10, .int 1000]])) := by
        have hlt : (figD ns).length < 1000000 := by simp [figD]; omega
        rw [show figD (ns ++ [v]) = figD ns ++ [.str (fig v)] by simp [figD]]
        simp [S2, appendV, hlt]
      have ty : isTy "list" (.loc st.length) S1 = true := by simp [S1, isTy]
      refine ⟨by simp, _, _, rfl, [some (.int c), some (.loc st.length), some (.int (0 + (i : Nat))), some (.int (mixed c (0 + (i : Nat) + 9) % 2))], st ++ .lst (figD (ns ++ [v])) :: (g ++ [.lst [.int 10, .int 1000]]), .inl ?_, ns ++ [v], g ++ [.lst [.int 10, .int 1000]], _, _, by rw [List.range_succ, List.map_append, ← hl, ← hvd]; rfl, rfl, rfl⟩
      · rw [← hB]
        change _ = R.ok _ _
        have m9' := m9 S1
        have m0' := m0 S1
        have eS : st ++ MO.lst (figD ns) :: g = S1 := rfl
        rw [eS]
        generalize hLE : lstE (consA (ct (.int 10)) (consA (ct (.int 1000)) nilA)) = LE at *
        generalize st ++ MO.lst (figD (ns ++ [v])) :: (g ++ [.lst [.int 10, .int 1000]]) = Z3 at *
        generalize S1.length = z1 at *
        generalize S2 = Z2 at *
        generalize S1 = Z1 at *
        generalize fig v = FV at *
        generalize (0 + ((i : Nat) : Int)) = I at *
        simp [m9', r_mod_int, ty, m0', ls, ix, md, sw, ap]) (fun _ _ _ => by simp)
  rw [upto_len] at hl
  obtain ⟨n0, e0⟩ : ∃ n0, lnN c 0 = n0 := ⟨_, rfl⟩
  obtain ⟨n1, e1⟩ : ∃ n1, lnN c 1 = n1 := ⟨_, rfl⟩
  obtain ⟨n2, e2⟩ : ∃ n2, lnN c 2 = n2 := ⟨_, rfl⟩
  have hl : ns = [n0, n1, n2] := by rw [hl, ← e0, ← e1, ← e2]; rfl
  subst hl
  unfold rowOf
  rw [e0, e1, e2]
  have l1 : ∀ env, lstE nilA env st = .ok (.loc st.length) (st ++ [.lst []]) := fun env => by simp
  have m5 := fun s => mixed_ok c 5 s (by omega) (by omega)
  have it : itemsAt (st ++ MO.lst (figD [n0, n1, n2]) :: g) st.length = some (figD [n0, n1, n2]) := by simp [itemsAt]
  have hn0 := fig_len n0
  have hn1 := fig_len n1
  have hn2 := fig_len n2
  have h5 : ∃ b : Bool, decide (mixed c 5 % 2 = 0) = b := ⟨_, rfl⟩
  have rg : ∀ env, range1I (consA (ct (.int 3)) nilA) env (st ++ [.lst []]) = .ok (upto 0 3, []) (st ++ [.lst []]) := fun env => by simp
  by_cases hc : mixed c 5 % 2 = 0
  · rw [if_pos hc]
    have x0 : ixV (.loc st.length) (.int 0) (st ++ MO.lst (figD [n0, n1, n2]) :: g) = .ok (.str (fig n0)) (st ++ MO.lst (figD [n0, n1, n2]) :: g) := r_ix_loc _ _ _ _ _ it rfl
    have x1 : ixV (.loc st.length) (.int 1) (st ++ MO.lst (figD [n0, n1, n2]) :: g) = .ok (.str (fig n1)) (st ++ MO.lst (figD [n0, n1, n2]) :: g) := r_ix_loc _ _ _ _ _ it rfl
    have d1 : ∀ s, addV (.str [117, 112, 32]) (.str (fig n0)) s = .ok (.str ([117, 112, 32] ++ fig n0)) s := fun s => r_add_str s _ _ (by simp; omega)
    have d2 : ∀ s, addV (.str ([117, 112, 32] ++ fig n0)) (.str [32]) s = .ok (.str ([117, 112, 32] ++ fig n0 ++ [32])) s := fun s => r_add_str s _ _ (by simp; omega)
    have d3 : ∀ s, addV (.str ([117, 112, 32] ++ fig n0 ++ [32])) (.str (fig n1)) s = .ok (.str (lineR ⟨[117, 112], [n0, n1]⟩)) s := fun s => by
      rw [r_add_str s _ _ (by simp; omega)]
      simp [lineR, joinL]
    have gg : gc st (.ok (.str (lineR ⟨[117, 112], [n0, n1]⟩)) (st ++ MO.lst (figD [n0, n1, n2]) :: g)) = .ok (.str (lineR ⟨[117, 112], [n0, n1]⟩)) st := gc_flat (by simp)
    have m5' := m5 (st ++ MO.lst (figD [n0, n1, n2]) :: g)
    generalize lineR ⟨[117, 112], [n0, n1]⟩ = LN at *
    generalize [117, 112, 32] ++ fig n0 ++ [32] = T2 at *
    generalize [117, 112, 32] ++ fig n0 = T1 at *
    generalize hRG : range1I (consA (ct (.int 3)) nilA) = RG at *
    generalize lstE nilA = LE at *
    generalize st ++ [MO.lst []] = Z0 at *
    generalize st ++ MO.lst (figD [n0, n1, n2]) :: g = Z1 at *
    generalize fig n0 = f0 at *
    generalize fig n1 = f1 at *
    simp [l1, rg, h1, m5', r_mod_int, hc, x0, x1, d1, d2, d3]
    exact gg
  · rw [if_neg hc]
    have jn : joinV (.str [32]) [.loc st.length] (st ++ MO.lst (figD [n0, n1, n2]) :: g) = .ok (.str (joinL [32] [fig n0, fig n1, fig n2])) (st ++ MO.lst (figD [n0, n1, n2]) :: g) := by
      have ht : textsOf (figD [n0, n1, n2]) = some [fig n0, fig n1, fig n2] := rfl
      simp only [joinV, it, Option.bind_some, ht]
      rw [if_pos (by simp; omega), joinM_eq]
    have d1 : ∀ s, addV (.str [100, 111, 119, 110, 32]) (.str (joinL [32] [fig n0, fig n1, fig n2])) s = .ok (.str (lineR ⟨[100, 111, 119, 110], [n0, n1, n2]⟩)) s := fun s => by
      rw [r_add_str s _ _ (by simp [joinL]; omega)]
      simp [lineR, joinL]
    have gg : gc st (.ok (.str (lineR ⟨[100, 111, 119, 110], [n0, n1, n2]⟩)) (st ++ MO.lst (figD [n0, n1, n2]) :: g)) = .ok (.str (lineR ⟨[100, 111, 119, 110], [n0, n1, n2]⟩)) st := gc_flat (by simp)
    have m5' := m5 (st ++ MO.lst (figD [n0, n1, n2]) :: g)
    generalize lineR ⟨[100, 111, 119, 110], [n0, n1, n2]⟩ = LN at *
    generalize joinL [32] [fig n0, fig n1, fig n2] = T2 at *
    generalize hRG : range1I (consA (ct (.int 3)) nilA) = RG at *
    generalize lstE nilA = LE at *
    generalize st ++ [MO.lst []] = Z0 at *
    generalize st ++ MO.lst (figD [n0, n1, n2]) :: g = Z1 at *
    simp [l1, rg, h1, m5', r_mod_int, hc, isTy, jn, d1]
    exact gg
end Law
set_option maxHeartbeats 0
namespace Law
open L2 M
/-! reading lines, good or bad -/
def goodL (l : List Nat) : Prop := ∃ r, goodR r ∧ l = lineR r
structure Lines (ls : List (List Nat)) : Prop where
  ne : ls ≠ []
  txt : joinL [10] ls ≠ []
  no : ∀ l ∈ ls, 10 ∉ l
  len : (joinL [10] ls).length ≤ 100000
  few : ls.length ≤ 100
theorem r_raise {c : String} {mA : MA} {env : MEnv} {st st1 : Stor} {n : Int} (h : mA env st = .ok [.int n] st1) (hn : n.natAbs.log2 < 1920) : raiseS c mA env st = .err ⟨c, .int n⟩ st1 := by
  unfold raiseS
  rw [h, R.bind_ok]
  dsimp only
  rw [if_pos hn]
noncomputable abbrev rdB : MS := (seqS (setS 4 (callF F_p_row_of_line [] (consA (vr 3) nilA)))
    (seqS (ifS (tB1 (op2 isNoneV (vr 4) (ct .non))) (raiseS "NoProgram" (consA (vr 2) nilA)) skipS)
    (exprS (methE "list" appendV (vr 1) (consA (vr 4) nilA)))))
section
variable (st : Stor) (LL : List D) (T : List Nat)
def SR (P : List D) : Stor := st ++ [.lst P, .lst LL]
theorem rd_good (P : List D) (hP : P.length ≤ 1000) (l : List Nat) (hg : goodL l) (k : Nat) (a2 a3 a4 : Option D) :
    ∃ d, (∀ n, under n d) ∧ rdB [some (.str T), some (.loc st.length), some (.int (k : Nat)), some (.str l), a4] (SR st LL P) = .ok (.nx [some (.str T), some (.loc st.length), some (.int (k : Nat)), some (.str l), some d]) (SR st LL (P ++ [d])) := by
  obtain ⟨r, gr, rfl⟩ := hg
  refine ⟨encR r, fun n => under_R n r, ?_⟩
  have ro := row_of_line_ok r gr (SR st LL P)
  have nn := none_R r (SR st LL P)
  have ap : appendV (.loc st.length) [encR r] (SR st LL P) = .ok .non (SR st LL (P ++ [encR r])) := by
    have : P.length < 1000000 := by omega
    simp [SR, appendV, this]
  have ty : isTy "list" (.loc st.length) (SR st LL P) = true := by simp [SR, isTy]
  unfold rdB
  generalize raiseS "NoProgram" (consA (vr 2) nilA) = RZ at *
  generalize SR st LL (P ++ [encR r]) = Z2 at *
  generalize SR st LL P = Z1 at *
  generalize encR r = ER at *
  generalize lineR r = LR at *
  simp [ro, nn, ty, ap]
theorem rd_bad (P : List D) (l : List Nat) (hb : badL l) (k : Nat) (hk : k ≤ 1000) (a4 : Option D) :
    rdB [some (.str T), some (.loc st.length), some (.int (k : Nat)), some (.str l), a4] (SR st LL P) = .err ⟨"NoProgram", .int (k : Nat)⟩ (SR st LL P) := by
  have ro := hb (SR st LL P)
  have hlog : ((k : Nat) : Int).natAbs.log2 < 1920 := by
    have : k < 2 ^ 1920 := Nat.lt_of_lt_of_le (by omega : k < 2 ^ 10) (Nat.pow_le_pow_right (by decide) (by decide))
    by_cases z : k = 0
    · subst z; decide
    · exact (Nat.log2_lt z).mpr this
  have hR := r_raise (c := "NoProgram") (mA := consA (vr 2) nilA) (env := [some (.str T), some (.loc st.length), some (.int (k : Nat)), some (.str l), some .non]) (st := SR st LL P) (st1 := SR st LL P) (n := (k : Nat)) rfl hlog
  have nn : ∀ Z, isNoneV .non .non Z = .ok (.bl true) Z := fun Z => rfl
  unfold rdB
  generalize raiseS "NoProgram" (consA (vr 2) nilA) = RZ at *
  generalize (⟨"NoProgram", .int (k : Nat)⟩ : Xc) = XX at *
  generalize SR st LL P = Z1 at *
  simp [ro, nn, hR]
noncomputable abbrev rdG : MG := tupG 2 (consG (nameG 2) (consG (nameG 3) nilG))
theorem rd_run (hLL : LL.length ≤ 1000) : ∀ (ls : List (List Nat)) (k : Nat) (P : List D) (a2 a3 a4 : Option D), k + ls.length ≤ 200 → P.length + ls.length ≤ 1000 → (∀ n, unders n P) →
    ((∀ l ∈ ls, goodL l) → ∃ P' b2 b3 b4, P'.length = P.length + ls.length ∧ (∀ n, unders n P') ∧ forGo rdG rdB [(st.length + 1, .lst LL)] (enumL k (ls.map D.str)) [some (.str T), some (.loc st.length), a2, a3, a4] (SR st LL P) = .ok (.nx [some (.str T), some (.loc st.length), b2, b3, b4]) (SR st LL P')) ∧
    (∀ j, (∀ i l, i < j → ls[i]? = some l → goodL l) → (∃ l, ls[j]? = some l ∧ badL l) → ∃ P', forGo rdG rdB [(st.length + 1, .lst LL)] (enumL k (ls.map D.str)) [some (.str T), some (.loc st.length), a2, a3, a4] (SR st LL P) = .err ⟨"NoProgram", .int ((k + j : Nat) : Int)⟩ (SR st LL P'))
  | [], k, P, a2, a3, a4, hk, hP, hu => by
    have ok : okG [(st.length + 1, MO.lst LL)] (SR st LL P) := by simp [SR]
    refine ⟨(fun _ => ⟨P, a2, a3, a4, by simp, hu, ?_⟩), (fun j _ ⟨l, hl, _⟩ => by simp at hl)⟩
    exact forGo_end ok
  | l :: ls, k, P, a2, a3, a4, hk, hP, hu => by
    have ok : okG [(st.length + 1, MO.lst LL)] (SR st LL P) := by simp [SR]
    have eG : rdG (.tup [.int (k : Nat), .str l]) [some (.str T), some (.loc st.length), a2, a3, a4] (SR st LL P) = .ok [some (.str T), some (.loc st.length), some (.int (k : Nat)), some (.str l), a4] (SR st LL P) := rfl
    rw [show enumL k ((l :: ls).map D.str) = .tup [.int (k : Nat), .str l] :: enumL (k + 1) (ls.map D.str) from rfl]
    have gd : goodL l → ∃ d, (∀ n, under n d) ∧ forGo rdG rdB [(st.length + 1, .lst LL)] (.tup [.int (k : Nat), .str l] :: enumL (k + 1) (ls.map D.str)) [some (.str T), some (.loc st.length), a2, a3, a4] (SR st LL P) = forGo rdG rdB [(st.length + 1, .lst LL)] (enumL (k + 1) (ls.map D.str)) [some (.str T), some (.loc st.length), some (.int (k : Nat)), some (.str l), some d] (SR st LL (P ++ [d])) := fun hg => by
      obtain ⟨d, hd, e⟩ := rd_good st LL T P (by omega) l hg k a2 a3 a4
      exact ⟨d, hd, forGo_step ok eG e⟩
    have huP : ∀ d, (∀ n, under n d) → ∀ n, unders n (P ++ [d]) := fun d hd n => by
      rw [unders_iff]
      intro x hx
      rcases List.mem_append.mp hx with hx | hx
      · exact (unders_iff _ _).mp (hu n) x hx
      · simp at hx; subst hx; exact hd n
    constructor
    · intro h
      obtain ⟨d, hd, e⟩ := gd (h l (by simp))
      obtain ⟨P', b2, b3, b4, h1, h2, h3⟩ := (rd_run hLL ls (k + 1) (P ++ [d]) (some (.int (k : Nat))) (some (.str l)) (some d) (by simp at hk; omega) (by simp at hP ⊢; omega) (huP d hd)).1 fun x hx => h x (by simp [hx])
      exact ⟨P', b2, b3, b4, by simp at h1 ⊢; omega, h2, by rw [e]; exact h3⟩
    · intro j h1 h2
      cases j with
      | zero =>
        obtain ⟨l', hl', hb⟩ := h2
        simp at hl'; subst hl'
        refine ⟨P, ?_⟩
        rw [forGo, if_pos ok, eG, R.bind_ok, rd_bad st LL T P l hb k (by simp at hk; omega) a4]
        rfl
      | succ j =>
        obtain ⟨d, hd, e⟩ := gd (h1 0 l (by omega) rfl)
        obtain ⟨P', h3⟩ := (rd_run hLL ls (k + 1) (P ++ [d]) (some (.int (k : Nat))) (some (.str l)) (some d) (by simp at hk; omega) (by simp at hP ⊢; omega) (huP d hd)).2 j (fun i x hi hx => h1 (i + 1) x (by omega) (by simpa using hx)) (by obtain ⟨x, hx, hb⟩ := h2; exact ⟨x, by simpa using hx, hb⟩)
        exact ⟨P', by rw [e, h3, show k + 1 + j = k + (j + 1) by omega]⟩
end
section
variable (ls : List (List Nat)) (h : Lines ls) (st : Stor)
include h
theorem rd_head : splitV (.str (joinL [10] ls)) [.str [10]] (st ++ [.lst []]) = .ok (.loc (st.length + 1)) (SR st (ls.map D.str) []) := by
  simp only [splitV]
  rw [if_pos ⟨by simp, by have := h.len; omega⟩, splitM_join 10 _ h.ne h.no]
  simp [SR]
theorem read_good (hg : ∀ l ∈ ls, goodL l) : ∃ P, P.length = ls.length ∧ (∀ n, unders n P) ∧ F_p_counter_read [.str (joinL [10] ls)] st = .ok (.loc st.length) (st ++ [.lst P]) := by
  have sp := rd_head ls h st
  obtain ⟨P, a2, a3, a4, h1, h2, e⟩ := (rd_run st (ls.map D.str) (joinL [10] ls) (by rw [List.length_map]; have := h.few; omega) ls 0 [] none none none (by have := h.few; omega) (by have := h.few; simp; omega) (by simp)).1 hg
  refine ⟨P, by simpa using h1, h2, ?_⟩
  have lg : lstG (SR st (ls.map D.str) []) (st.length + 1) = some (ls.map D.str, .lst (ls.map D.str)) := by simp [SR, lstG]
  have hu : gcX st (.ok (.loc st.length) (SR st (ls.map D.str) P)) = .ok (.loc st.length) (st ++ [.lst P]) := by
    have := gc_new (st := st) (g := []) (g' := [.lst (ls.map D.str)]) (o := .lst P) (h2 _)
    simpa [SR, gcX] using this
  have tne := h.txt
  unfold F_p_counter_read gcFX fnM b_p_counter_read
  rw [show startM 5 [D.str (joinL [10] ls)] = [some (.str (joinL [10] ls)), none, none, none, none] from rfl]
  generalize hRB : rdB = RB at *
  unfold rdB at hRB
  rw [hRB]
  generalize hRG : rdG = RG at *
  unfold rdG at hRG
  rw [hRG]
  have l1 : ∀ env, lstE nilA env st = .ok (.loc st.length) (st ++ [.lst []]) := fun env => by simp
  generalize lstE nilA = LE at *
  generalize SR st (ls.map D.str) P = Z9 at *
  generalize SR st (ls.map D.str) [] = Z1 at *
  generalize st ++ [MO.lst []] = Z0 at *
  generalize joinL [10] ls = T at *
  simp [tne, l1, isTy, sp, lg, e]
  exact hu
theorem read_bad (j : Nat) (h1 : ∀ i l, i < j → ls[i]? = some l → goodL l) (h2 : ∃ l, ls[j]? = some l ∧ badL l) : F_p_counter_read [.str (joinL [10] ls)] st = .err ⟨"NoProgram", .int (j : Nat)⟩ st := by
  have sp := rd_head ls h st
  obtain ⟨P, e⟩ := (rd_run st (ls.map D.str) (joinL [10] ls) (by rw [List.length_map]; have := h.few; omega) ls 0 [] none none none (by have := h.few; omega) (by have := h.few; simp; omega) (by simp)).2 j h1 h2
  rw [Nat.zero_add] at e
  have lg : lstG (SR st (ls.map D.str) []) (st.length + 1) = some (ls.map D.str, .lst (ls.map D.str)) := by simp [SR, lstG]
  have hu : gcX st (.err ⟨"NoProgram", .int (j : Nat)⟩ (SR st (ls.map D.str) P)) = .err ⟨"NoProgram", .int (j : Nat)⟩ st := by
    unfold gcX
    dsimp only
    rw [if_pos ⟨by simp [SR], by simp⟩]
  have tne := h.txt
  unfold F_p_counter_read gcFX fnM b_p_counter_read
  rw [show startM 5 [D.str (joinL [10] ls)] = [some (.str (joinL [10] ls)), none, none, none, none] from rfl]
  generalize hRB : rdB = RB at *
  unfold rdB at hRB
  rw [hRB]
  generalize hRG : rdG = RG at *
  unfold rdG at hRG
  rw [hRG]
  have l1 : ∀ env, lstE nilA env st = .ok (.loc st.length) (st ++ [.lst []]) := fun env => by simp
  generalize (⟨"NoProgram", .int (j : Nat)⟩ : Xc) = XX at *
  generalize lstE nilA = LE at *
  generalize SR st (ls.map D.str) P = Z9 at *
  generalize SR st (ls.map D.str) [] = Z1 at *
  generalize st ++ [MO.lst []] = Z0 at *
  generalize joinL [10] ls = T at *
  simp [tne, l1, isTy, sp, lg, e]
  exact hu
theorem refused_ok (j : Nat) (h1 : ∀ i l, i < j → ls[i]? = some l → goodL l) (h2 : ∃ l, ls[j]? = some l ∧ badL l) : F_l_refused [.str (joinL [10] ls), .int (j : Nat)] st = .ok (.bl true) st := by
  have hr := read_bad ls h st j h1 h2
  unfold F_l_refused gcF fnM b_l_refused
  rw [show startM 4 [D.str (joinL [10] ls), .int (j : Nat)] = [some (.str (joinL [10] ls)), some (.int (j : Nat)), none, none] from rfl]
  generalize hT : tryS none 3 2 F_p_counter_read [] (consA (vr 0) nilA) exCls = TR
  have eT : TR [some (.str (joinL [10] ls)), some (.int (j : Nat)), some .non, none] st = .ok (.nx [some (.str (joinL [10] ls)), some (.int (j : Nat)), some (.loc st.length), none]) (st ++ [.exc "NoProgram" (.int (j : Nat))]) := by
    rw [← hT]
    unfold tryS
    simp only [r_consA, r_vr, List.getElem?_cons_zero, List.getElem?_cons_succ, R.bind_ok, r_nilA, List.append_nil, hr]
    rfl
  have hx : (st ++ [MO.exc "NoProgram" (.int (j : Nat))])[st.length]? = some (.exc "NoProgram" (.int (j : Nat))) := by simp
  have iP : isXV "NoProgram" (.loc st.length) (st ++ [MO.exc "NoProgram" (.int (j : Nat))]) = .ok (.bl true) (st ++ [MO.exc "NoProgram" (.int (j : Nat))]) := by
    unfold isXV; dsimp only; rw [hx]; rfl
  have iT : isXV "NoTree" (.loc st.length) (st ++ [MO.exc "NoProgram" (.int (j : Nat))]) = .ok (.bl false) (st ++ [MO.exc "NoProgram" (.int (j : Nat))]) := by
    unfold isXV; dsimp only; rw [hx]; rfl
  have iV : isXV "ValueError" (.loc st.length) (st ++ [MO.exc "NoProgram" (.int (j : Nat))]) = .ok (.bl true) (st ++ [MO.exc "NoProgram" (.int (j : Nat))]) := by
    unfold isXV; dsimp only; rw [hx]; rfl
  have aV : atV (.loc st.length) (st ++ [MO.exc "NoProgram" (.int (j : Nat))]) = .ok (.int (j : Nat)) (st ++ [MO.exc "NoProgram" (.int (j : Nat))]) := by
    unfold atV; dsimp only; rw [hx]; rfl
  have gg := gc_flat (st := st) (g := [.exc "NoProgram" (.int (j : Nat))]) (d := .bl true) (by simp)
  generalize hX1 : isXV "NoProgram" = X1 at *
  generalize hX2 : isXV "NoTree" = X2 at *
  generalize hX3 : isXV "ValueError" = X3 at *
  generalize hX4 : atV = X4 at *
  generalize st ++ [MO.exc "NoProgram" (.int (j : Nat))] = Z at *
  generalize ((j : Nat) : Int) = J at *
  generalize joinL [10] ls = T at *
  simp [eT, iP, iT, iV, aV, truV, subTy]
  exact gg
end
end Law
set_option maxHeartbeats 0
namespace Law
open L2 M
/-! an expression that comes to a text, whatever lies behind -/
def TxE (P : MEnv → Prop) (S : Stor) (e : ME) (T : List Nat) : Prop := ∀ env, P env → ∀ g, ∃ h, e env (S ++ g) = .ok (.str T) (S ++ g ++ h)
def TAs (P : MEnv → Prop) (S : Stor) (m : MA) (Ts : List (List Nat)) : Prop := ∀ env, P env → ∀ g, ∃ h, m env (S ++ g) = .ok (Ts.map D.str) (S ++ g ++ h)
section
variable {P : MEnv → Prop} {S : Stor} {a b : ME} {A B : List Nat} {m : MA} {Ts : List (List Nat)}
theorem TxE.ct (T : List Nat) : TxE P S (ct (.str T)) T := fun env _ g => ⟨[], by rw [List.append_nil]; rfl⟩
theorem TxE.vr (i : Nat) (T : List Nat) (h : ∀ env, P env → env[i]? = some (some (.str T))) : TxE P S (vr i) T := fun env hp g => ⟨[], by rw [List.append_nil, r_vr, h env hp]⟩
theorem TxE.add (ha : TxE P S a A) (hb : TxE P S b B) (hl : A.length + B.length ≤ 1000000) : TxE P S (op2 addV a b) (A ++ B) := fun env hp g => by
  obtain ⟨h1, e1⟩ := ha env hp g
  obtain ⟨h2, e2⟩ := hb env hp (g ++ h1)
  rw [← List.append_assoc] at e2
  refine ⟨h1 ++ h2, ?_⟩
  unfold op2
  rw [e1, R.bind_ok, e2, R.bind_ok, r_add_str _ _ _ hl, ← List.append_assoc]
theorem TxE.take1 (ha : TxE P S a A) (hl : A.length ≤ 1000000) : TxE P S (slE a noP (inP (M.ct (.int 1)))) (cut A none (some 1)) := fun env hp g => by
  obtain ⟨h1, e1⟩ := ha env hp g
  refine ⟨h1, ?_⟩
  have := r_sl_str (S ++ g ++ h1) A none (some 1) hl
  generalize S ++ g ++ h1 = Z at *
  generalize S ++ g = Z0 at *
  simp [e1, this]
theorem TAs.nil : TAs P S nilA [] := fun env _ g => ⟨[], by rw [List.append_nil]; rfl⟩
theorem TAs.cons (ha : TxE P S a A) (hm : TAs P S m Ts) : TAs P S (consA a m) (A :: Ts) := fun env hp g => by
  obtain ⟨h1, e1⟩ := ha env hp g
  obtain ⟨h2, e2⟩ := hm env hp (g ++ h1)
  rw [← List.append_assoc] at e2
  refine ⟨h1 ++ h2, ?_⟩
  rw [r_consA, e1, R.bind_ok, e2, R.bind_ok, ← List.append_assoc]
  rfl
end
/-- what is there: the line, its words, the place, a sign -/
structure Sit where
  ws : List (List Nat)
  c : Int
  at_ : Nat
  x : List Nat
  sg : Nat
  n : Nat
  st : Stor
namespace Sit
variable (q : Sit)
def L : List Nat := joinL [32] q.ws
def A : List Nat := joinL [32] (q.ws.take q.at_) ++ [32]
def B : List Nat := ((q.ws.drop (q.at_ + 1)).map fun t => 32 :: t).flatten
def S : Stor := q.st ++ [.lst (q.ws.map D.str)]
def EV (a7 a8 : Option D) : MEnv := [some (.str q.L), some (.int q.c), some (.loc q.st.length), some (.int (q.at_ : Nat)), some (.str [q.sg]), some (.str q.A), some (.str q.B), a7, a8]
def P8 (a8 : Option D) : MEnv → Prop := fun env => ∃ a7, env = q.EV a7 a8
structure Ok : Prop where
  x_ : q.ws[q.at_]? = some q.x
  wl : ∀ t ∈ q.ws, t.length ≤ 10
  few : q.ws.length ≤ 10
end Sit
theorem S_items (q : Sit) (g : Stor) : itemsAt (q.S ++ g) q.st.length = some (q.ws.map D.str) := by unfold itemsAt Sit.S; simp
theorem sum_le {ls : List (List Nat)} (h : ∀ t ∈ ls, t.length ≤ 11) : (ls.map List.length).sum ≤ 11 * ls.length := by
  induction ls with
  | nil => simp
  | cons t ls ih => have := h t (by simp); have := ih fun u hu => h u (by simp [hu]); simp; omega
theorem join_len {ls : List (List Nat)} (h : ∀ t ∈ ls, t.length ≤ 10) (c : Nat) : (joinL [c] ls).length ≤ 11 * ls.length := by
  cases ls with
  | nil => simp [joinL]
  | cons t ls =>
    rw [joinL_flat, List.length_append, List.length_flatten, List.map_map]
    have h1 := h t (by simp)
    have h2 : (ls.map (List.length ∘ fun t => c :: t)).sum ≤ 11 * ls.length := by
      have h' : ∀ u ∈ ls, u.length ≤ 10 := fun u hu => h u (by simp [hu])
      clear h h1
      induction ls with
      | nil => simp
      | cons u us ih => have := h' u (by simp); have := ih fun v hv => h' v (by simp [hv]); simp; omega
    simp; omega
section
variable (q : Sit) (h : q.Ok) (a8 : Option D)
include h
theorem tx_x : TxE (q.P8 a8) q.S (op2 ixV (vr 2) (vr 3)) q.x := by
  rintro env ⟨a7, rfl⟩ g
  have := r_ix_loc (q.S ++ g) q.st.length (q.at_ : Nat) _ (.str q.x) (S_items q g) (by rw [atI_ofNat, List.getElem?_map, h.x_]; rfl)
  refine ⟨[], ?_⟩
  rw [List.append_nil]
  generalize q.S ++ g = Z at *
  simp [Sit.EV, this]
theorem tx_join (lo hi : MP) (a b : Option Int) (hlo : ∀ a7 Z, lo (q.EV a7 a8) Z = .ok a Z) (hhi : ∀ a7 Z, hi (q.EV a7 a8) Z = .ok b Z) : TxE (q.P8 a8) q.S (methE "str" joinV (ct (.str [32])) (consA (slE (vr 2) lo hi) nilA)) (joinL [32] (cut q.ws a b)) := by
  rintro env ⟨a7, rfl⟩ g
  have sl : slV (.loc q.st.length) a b (q.S ++ g) = .ok (.loc (q.S ++ g).length) (q.S ++ g ++ [.lst ((cut q.ws a b).map D.str)]) := by
    simp only [slV, S_items]
    rw [cut_map]
  have hcl := cut_len q.ws a b
  have hcm : ∀ t ∈ cut q.ws a b, t.length ≤ 11 := fun t ht => by
    unfold M.cut at ht
    have := h.wl t (List.mem_of_mem_drop (List.mem_of_mem_take ht)); omega
  have hsum := sum_le hcm
  have hf := h.few
  have jn := r_join (q.S ++ g ++ [.lst ((cut q.ws a b).map D.str)]) [32] (q.S ++ g).length (cut q.ws a b) (by unfold itemsAt; simp) (by simp; omega)
  refine ⟨[.lst ((cut q.ws a b).map D.str)], ?_⟩
  have h1 := hlo a7 (q.S ++ g)
  have h2 := hhi a7 (q.S ++ g)
  generalize joinL [32] (cut q.ws a b) = J at *
  generalize q.S ++ g ++ [MO.lst ((cut q.ws a b).map D.str)] = Z1 at *
  generalize (q.S ++ g).length = z at *
  generalize q.S ++ g = Z at *
  have e2 : (q.EV a7 a8)[2]? = some (some (.loc q.st.length)) := rfl
  generalize q.EV a7 a8 = EE at *
  simp [isTy, e2, h1, h2, sl, jn]
end
/-- one more display behind -/
theorem app7 (q : Sit) (a8 : Option D) (mA : MA) (Us Ts : List (List Nat)) (hA : TAs (q.P8 a8) q.S mA Us) (hl : Ts.length + Us.length ≤ 1000) (g : Stor) (m : Nat) (hm : (q.S ++ g)[m]? = some (.lst (Ts.map D.str))) :
    ∃ g' m', setS 7 (op2 addV (vr 7) (lstE mA)) (q.EV (some (.loc m)) a8) (q.S ++ g) = .ok (.nx (q.EV (some (.loc m')) a8)) (q.S ++ g') ∧ (q.S ++ g')[m']? = some (.lst ((Ts ++ Us).map D.str)) := by
  obtain ⟨h, e⟩ := hA (q.EV (some (.loc m)) a8) ⟨_, rfl⟩ g
  let Z1 : Stor := q.S ++ g ++ h
  let Z2 : Stor := Z1 ++ [.lst (Us.map D.str)]
  have ls : lstE mA (q.EV (some (.loc m)) a8) (q.S ++ g) = .ok (.loc Z1.length) Z2 := by
    unfold lstE
    rw [e, R.bind_ok, if_pos (by simp; omega)]
  have m1 : Z2[m]? = some (.lst (Ts.map D.str)) := get_app (get_app hm)
  have m2 : Z2[Z1.length]? = some (.lst (Us.map D.str)) := by simp [Z2]
  have ad : addV (.loc m) (.loc Z1.length) Z2 = .ok (.loc Z2.length) (Z2 ++ [.lst ((Ts ++ Us).map D.str)]) := by
    simp only [addV, m1, m2]
    rw [if_pos (by simp; omega), List.map_append]
  refine ⟨g ++ h ++ [.lst (Us.map D.str)] ++ [.lst ((Ts ++ Us).map D.str)], Z2.length, ?_, ?_⟩
  · have ez : q.S ++ (g ++ h ++ [.lst (Us.map D.str)] ++ [.lst ((Ts ++ Us).map D.str)]) = Z2 ++ [.lst ((Ts ++ Us).map D.str)] := by simp [Z2, Z1]
    rw [ez]
    have e7 : (q.EV (some (.loc m)) a8)[7]? = some (some (.loc m)) := rfl
    have es : (q.EV (some (.loc m)) a8).set 7 (some (.loc Z2.length)) = q.EV (some (.loc Z2.length)) a8 := rfl
    rw [← es]
    generalize Z2 ++ [MO.lst ((Ts ++ Us).map D.str)] = Z3 at *
    generalize Z2.length = z2 at *
    generalize Z2 = Y2 at *
    generalize Z1.length = z1 at *
    generalize q.S ++ g = Z at *
    generalize q.EV (some (.loc m)) a8 = EE at *
    generalize lstE mA = LE at *
    simp [e7, ls, ad]
  · have ez : q.S ++ (g ++ h ++ [.lst (Us.map D.str)] ++ [.lst ((Ts ++ Us).map D.str)]) = Z2 ++ [.lst ((Ts ++ Us).map D.str)] := by simp [Z2, Z1]
    rw [ez]; simp
end Law
set_option maxHeartbeats 0
namespace Law
open L2 M
def Sit.NO (q : Sit) : List Nat := 49 :: List.replicate (3 - q.x.length + (q.c / 32 % 2).toNat) 48
def Sit.T1 (q : Sit) : List (List Nat) := [joinL [32] (cut q.ws none (some (-1))), q.L ++ [32, 48], q.A ++ [48] ++ q.x ++ q.B]
def Sit.T2 (q : Sit) : List (List Nat) := [q.A ++ q.NO ++ q.x ++ q.B, q.A ++ cut q.x none (some 1) ++ [q.sg] ++ q.x ++ q.B]
def Sit.T3 (q : Sit) : List (List Nat) := [q.A ++ [q.sg] ++ q.B, q.A ++ q.x ++ [q.sg] ++ q.B]
def Sit.T4 (q : Sit) : List (List Nat) := [q.A ++ [q.sg] ++ q.x ++ q.B]
def Sit.T5 (q : Sit) : List (List Nat) := [[111, 110] ++ q.L, joinL [32] (cut q.ws (some 1) none), [32] ++ q.L, q.L ++ [32]]
def Sit.T6 (q : Sit) : List (List Nat) := [q.A ++ [32] ++ q.x ++ q.B, joinL [9] (splitL 32 q.L)]
def Sit.T7 (q : Sit) : List (List Nat) := [[], q.L.map PyProof.Rows.up1, q.ws.headD []]
def Sit.TS (q : Sit) : List (List Nat) := q.T1 ++ q.T2 ++ q.T3 ++ q.T4 ++ q.T5 ++ q.T6 ++ q.T7
section
variable (q : Sit) (h : q.Ok)
include h
theorem xl : q.x.length ≤ 10 := h.wl _ (List.mem_of_getElem? h.x_)
theorem Ll : q.L.length ≤ 110 := by have := join_len h.wl 32; have := h.few; unfold Sit.L; omega
theorem Al : q.A.length ≤ 111 := by
  have : (joinL [32] (q.ws.take q.at_)).length ≤ 11 * (q.ws.take q.at_).length := join_len (fun t ht => h.wl t (List.mem_of_mem_take ht)) 32
  have := h.few
  rw [List.length_take] at *
  unfold Sit.A; rw [List.length_append, List.length_singleton]; omega
theorem Bl : q.B.length ≤ 110 := by
  have hh : ∀ ls : List (List Nat), (∀ t ∈ ls, t.length ≤ 10) → ((ls.map fun t => 32 :: t).flatten).length ≤ 11 * ls.length := by
    intro ls hl
    induction ls with
    | nil => simp
    | cons t ts ih =>
      have h1 := hl t (by simp)
      have h2 := ih fun u hu => hl u (by simp [hu])
      rw [List.map_cons, List.flatten_cons, List.length_append, List.length_cons, List.length_cons]
      omega
  have := hh (q.ws.drop (q.at_ + 1)) fun t ht => h.wl t (List.mem_of_mem_drop ht)
  have := h.few
  rw [List.length_drop] at *
  unfold Sit.B; omega
theorem tv0 (a8 : Option D) : TxE (q.P8 a8) q.S (vr 0) q.L := TxE.vr 0 _ (by rintro env ⟨a7, rfl⟩; rfl)
theorem tv4 (a8 : Option D) : TxE (q.P8 a8) q.S (vr 4) [q.sg] := TxE.vr 4 _ (by rintro env ⟨a7, rfl⟩; rfl)
theorem tv5 (a8 : Option D) : TxE (q.P8 a8) q.S (vr 5) q.A := TxE.vr 5 _ (by rintro env ⟨a7, rfl⟩; rfl)
theorem tv6 (a8 : Option D) : TxE (q.P8 a8) q.S (vr 6) q.B := TxE.vr 6 _ (by rintro env ⟨a7, rfl⟩; rfl)
theorem NOl : q.NO.length ≤ 11 := by unfold Sit.NO; simp; omega
theorem ta1 : TAs (q.P8 none) q.S (consA (methE "str" joinV (ct (.str [32])) (consA (slE (vr 2) noP (inP (op1 negV (ct (.int 1))))) nilA)) (consA (op2 addV (vr 0) (ct (.str [32, 48]))) (consA (op2 addV (op2 addV (op2 addV (vr 5) (ct (.str [48]))) (op2 ixV (vr 2) (vr 3))) (vr 6)) nilA))) q.T1 := by
  have := xl q h; have := Ll q h; have := Al q h; have := Bl q h
  refine TAs.cons (tx_join q h none _ _ none (some (-1)) (fun _ _ => rfl) (fun _ _ => rfl)) (TAs.cons ((tv0 q h none).add (TxE.ct _) (by simp; omega)) (TAs.cons ?_ TAs.nil))
  exact (((tv5 q h none).add (TxE.ct _) (by simp; omega)).add (tx_x q h none) (by simp; omega)).add (tv6 q h none) (by simp; omega)
theorem ta2 : TAs (q.P8 (some (.str q.NO))) q.S (consA (op2 addV (op2 addV (op2 addV (vr 5) (vr 8)) (op2 ixV (vr 2) (vr 3))) (vr 6)) (consA (op2 addV (op2 addV (op2 addV (op2 addV (vr 5) (slE (op2 ixV (vr 2) (vr 3)) noP (inP (ct (.int 1))))) (vr 4)) (op2 ixV (vr 2) (vr 3))) (vr 6)) nilA)) q.T2 := by
  have := xl q h; have := Ll q h; have := Al q h; have := Bl q h; have := NOl q h
  have hc := cut_len q.x none (some 1)
  have t8 : TxE (q.P8 (some (.str q.NO))) q.S (vr 8) q.NO := TxE.vr 8 _ (by rintro env ⟨a7, rfl⟩; rfl)
  refine TAs.cons ((((tv5 q h _).add t8 (by omega)).add (tx_x q h _) (by simp; omega)).add (tv6 q h _) (by simp; omega)) (TAs.cons ?_ TAs.nil)
  exact ((((tv5 q h _).add ((tx_x q h _).take1 (by omega)) (by omega)).add (tv4 q h _) (by simp; omega)).add (tx_x q h _) (by simp; omega)).add (tv6 q h _) (by simp; omega)
theorem ta3 (a8 : Option D) : TAs (q.P8 a8) q.S (consA (op2 addV (op2 addV (vr 5) (vr 4)) (vr 6)) (consA (op2 addV (op2 addV (op2 addV (vr 5) (op2 ixV (vr 2) (vr 3))) (vr 4)) (vr 6)) nilA)) q.T3 := by
  have := xl q h; have := Al q h; have := Bl q h
  refine TAs.cons (((tv5 q h _).add (tv4 q h _) (by simp; omega)).add (tv6 q h _) (by simp; omega)) (TAs.cons ?_ TAs.nil)
  exact (((tv5 q h _).add (tx_x q h _) (by omega)).add (tv4 q h _) (by simp; omega)).add (tv6 q h _) (by simp; omega)
theorem ta4 (a8 : Option D) : TAs (q.P8 a8) q.S (consA (op2 addV (op2 addV (op2 addV (vr 5) (vr 4)) (op2 ixV (vr 2) (vr 3))) (vr 6)) nilA) q.T4 := by
  have := xl q h; have := Al q h; have := Bl q h
  exact TAs.cons ((((tv5 q h _).add (tv4 q h _) (by simp; omega)).add (tx_x q h _) (by simp; omega)).add (tv6 q h _) (by simp; omega)) TAs.nil
theorem ta5 (a8 : Option D) : TAs (q.P8 a8) q.S (consA (op2 addV (ct (.str [111, 110])) (vr 0)) (consA (methE "str" joinV (ct (.str [32])) (consA (slE (vr 2) (inP (ct (.int 1))) noP) nilA)) (consA (op2 addV (ct (.str [32])) (vr 0)) (consA (op2 addV (vr 0) (ct (.str [32]))) nilA)))) q.T5 := by
  have := Ll q h
  refine TAs.cons ((TxE.ct _).add (tv0 q h _) (by simp; omega)) (TAs.cons (tx_join q h a8 _ _ (some 1) none (fun _ _ => rfl) (fun _ _ => rfl)) (TAs.cons ((TxE.ct _).add (tv0 q h _) (by simp; omega)) (TAs.cons ((tv0 q h _).add (TxE.ct _) (by simp; omega)) TAs.nil)))
theorem ta6 (a8 : Option D) : TAs (q.P8 a8) q.S (consA (op2 addV (op2 addV (op2 addV (vr 5) (ct (.str [32]))) (op2 ixV (vr 2) (vr 3))) (vr 6)) (consA (replE 32 9 (vr 0)) nilA)) q.T6 := by
  have := xl q h; have := Al q h; have := Bl q h; have hL := Ll q h
  refine TAs.cons ((((tv5 q h _).add (TxE.ct _) (by simp; omega)).add (tx_x q h _) (by simp; omega)).add (tv6 q h _) (by simp; omega)) (TAs.cons ?_ TAs.nil)
  rintro env ⟨a7, rfl⟩ g
  refine ⟨[], ?_⟩
  rw [List.append_nil]
  unfold replE
  rw [show vr 0 (q.EV a7 a8) (q.S ++ g) = .ok (.str q.L) (q.S ++ g) from rfl, R.bind_ok]
  dsimp only
  rw [if_pos (by omega)]
theorem ta7 (a8 : Option D) (hlo : ∀ c ∈ q.L, c < 128) : TAs (q.P8 a8) q.S (consA (ct (.str [])) (consA (meth0E "str" upperV (vr 0)) (consA (op2 ixV (vr 2) (ct (.int 0))) nilA))) q.T7 := by
  have hL := Ll q h
  have hall : q.L.all (fun c => decide (c < 128)) = true := List.all_eq_true.mpr fun c hc => decide_eq_true (hlo c hc)
  refine TAs.cons (TxE.ct _) (TAs.cons ?_ (TAs.cons ?_ TAs.nil))
  · rintro env ⟨a7, rfl⟩ g
    refine ⟨[], ?_⟩
    rw [List.append_nil]
    have uv : upperV (.str q.L) [] (q.S ++ g) = .ok (.str (q.L.map PyProof.Rows.up1)) (q.S ++ g) := by
      unfold upperV
      dsimp only
      rw [if_pos ⟨by omega, hall⟩]
    generalize q.S ++ g = Z at *
    generalize q.L.map PyProof.Rows.up1 = UL at *
    simp [Sit.EV, isTy, uv]
  · rintro env ⟨a7, rfl⟩ g
    refine ⟨[], ?_⟩
    rw [List.append_nil]
    have hne : q.ws ≠ [] := fun z => by have := h.x_; rw [z] at this; simp at this
    have := r_ix_loc (q.S ++ g) q.st.length 0 _ (.str (q.ws.headD [])) (S_items q g) (by
      rw [show (0 : Int) = ((0 : Nat) : Int) from rfl, atI_ofNat]
      cases e : q.ws with
      | nil => exact absurd e hne
      | cons a b => simp)
    generalize q.S ++ g = Z at *
    simp [Sit.EV, this]
end
/-- the run of it all -/
theorem spoilt_run (q : Sit) (h : q.Ok) (h1 : 1 < q.ws.length) (hat : (q.at_ : Int) = 1 + q.c / 17 % ((q.ws.length : Int) - 1)) (hno : ∀ t ∈ q.ws, 32 ∉ t) (hlo : ∀ c ∈ q.L, c < 128) (hx3 : q.x.length ≤ 3) (hx1 : 1 ≤ q.x.length)
    (hsg : ∀ Z : Stor, ixV (.str [97, 98, 122, 45, 43, 46, 44, 95, 47, 58, 59, 39, 33, 120]) (.int (q.c / 64 % 14)) Z = .ok (.str [q.sg]) Z) :
    ∃ T ∈ q.TS, F_l_spoilt [.str q.L, .int q.c] q.st = .ok (.str T) q.st := by
  have hL := Ll q h
  have hA := Al q h
  have hx := xl q h
  have hf := h.few
  unfold F_l_spoilt gcF fnM b_l_spoilt
  rw [show startM 9 [D.str q.L, .int q.c] = [some (.str q.L), some (.int q.c), none, none, none, none, none, none, none] from rfl]
  have hwne : q.ws ≠ [] := fun z => by rw [z] at h1; simp at h1
  have e2 : setS 2 (methE "str" splitV (vr 0) (consA (ct (.str [32])) nilA)) [some (.str q.L), some (.int q.c), none, none, none, none, none, none, none] q.st = .ok (.nx [some (.str q.L), some (.int q.c), some (.loc q.st.length), none, none, none, none, none, none]) q.S := by
    have sp : splitV (.str q.L) [.str [32]] q.st = .ok (.loc q.st.length) q.S := by
      simp only [splitV]
      rw [if_pos ⟨by simp, by omega⟩]
      unfold Sit.L
      rw [splitM_join 32 _ hwne hno]; rfl
    generalize q.S = Z at *
    generalize q.L = LL at *
    simp [isTy, sp]
  have it0 := S_items q []
  rw [List.append_nil] at it0
  have e3 : setS 3 (op2 addV (ct (.int 1)) (op2 modV (op2 fdivV (vr 1) (ct (.int 17))) (op2 subV (callE lenV (consA (vr 2) nilA)) (ct (.int 1))))) [some (.str q.L), some (.int q.c), some (.loc q.st.length), none, none, none, none, none, none] q.S = .ok (.nx [some (.str q.L), some (.int q.c), some (.loc q.st.length), some (.int (q.at_ : Nat)), none, none, none, none, none]) q.S := by
    have ln : lenV [.loc q.st.length] q.S = .ok (.int (q.ws.length : Nat)) q.S := by rw [r_len_loc _ _ _ it0, List.length_map]
    have md := r_mod_int q.S (q.c / 17) ((q.ws.length : Nat) - 1) (by omega)
    rw [hat]
    generalize q.S = Z at *
    generalize q.L = LL at *
    generalize ((q.ws.length : Nat) : Int) = W at *
    simp [r_fdiv_int, ln, md]
  have e4 : setS 4 (op2 ixV (ct (.str [97, 98, 122, 45, 43, 46, 44, 95, 47, 58, 59, 39, 33, 120])) (op2 modV (op2 fdivV (vr 1) (ct (.int 64))) (ct (.int 14)))) [some (.str q.L), some (.int q.c), some (.loc q.st.length), some (.int (q.at_ : Nat)), none, none, none, none, none] q.S = .ok (.nx [some (.str q.L), some (.int q.c), some (.loc q.st.length), some (.int (q.at_ : Nat)), some (.str [q.sg]), none, none, none, none]) q.S := by
    generalize ([97, 98, 122, 45, 43, 46, 44, 95, 47, 58, 59, 39, 33, 120] : List Nat) = SG at *
    generalize q.S = Z at *
    generalize q.L = LL at *
    simp [r_fdiv_int, r_mod_int, hsg]
  have hatl : q.at_ ≤ q.ws.length := Nat.le_of_lt (List.getElem?_eq_some_iff.mp h.x_).1
  have e5 : setS 5 (op2 addV (methE "str" joinV (ct (.str [32])) (consA (slE (vr 2) noP (inP (vr 3))) nilA)) (ct (.str [32]))) [some (.str q.L), some (.int q.c), some (.loc q.st.length), some (.int (q.at_ : Nat)), some (.str [q.sg]), none, none, none, none] q.S = .ok (.nx [some (.str q.L), some (.int q.c), some (.loc q.st.length), some (.int (q.at_ : Nat)), some (.str [q.sg]), some (.str q.A), none, none, none]) (q.S ++ [.lst ((q.ws.take q.at_).map D.str)]) := by
    have sl : slV (.loc q.st.length) none (some (q.at_ : Nat)) q.S = .ok (.loc q.S.length) (q.S ++ [.lst ((q.ws.take q.at_).map D.str)]) := by
      simp only [slV, it0]
      rw [cut_map, cut_take _ _ hatl]
    have hsum := sum_le (ls := q.ws.take q.at_) fun t ht => by have := h.wl t (List.mem_of_mem_take ht); omega
    rw [List.length_take] at hsum
    have jn := r_join (q.S ++ [.lst ((q.ws.take q.at_).map D.str)]) [32] q.S.length (q.ws.take q.at_) (by unfold itemsAt; simp) (by rw [List.length_take]; simp only [List.length_singleton, Nat.mul_one]; omega)
    have ad : ∀ Z, addV (.str (joinL [32] (q.ws.take q.at_))) (.str [32]) Z = .ok (.str q.A) Z := fun Z => by
      rw [r_add_str Z _ _ (by unfold Sit.A at hA; rw [List.length_append] at hA; omega)]; rfl
    generalize q.S ++ [MO.lst ((q.ws.take q.at_).map D.str)] = Z1 at *
    generalize joinL [32] (q.ws.take q.at_) = J at *
    generalize q.S.length = z at *
    generalize q.S = Z at *
    generalize q.L = LL at *
    generalize q.A = AA at *
    simp [isTy, sl, jn, ad]
  let S5 : Stor := q.S ++ [.lst ((q.ws.take q.at_).map D.str)]
  obtain ⟨g6, e6⟩ : ∃ g6, setS 6 (methE "str" joinV (ct (.str [])) (consA (compE [none] (seqI (slE (vr 2) (inP (op2 addV (vr 3) (ct (.int 1)))) noP)) (nameG 0) yesT (op2 addV (ct (.str [32])) (vr 0))) nilA)) [some (.str q.L), some (.int q.c), some (.loc q.st.length), some (.int (q.at_ : Nat)), some (.str [q.sg]), some (.str q.A), none, none, none] S5 = .ok (.nx (q.EV none none)) (q.S ++ g6) := by
    have it5 : itemsAt S5 q.st.length = some (q.ws.map D.str) := S_items q _
    have sl : slV (.loc q.st.length) (some ((q.at_ : Int) + 1)) none S5 = .ok (.loc S5.length) (S5 ++ [.lst ((q.ws.drop (q.at_ + 1)).map D.str)]) := by
      simp only [slV, it5]
      rw [cut_map, show (q.at_ : Int) + 1 = ((q.at_ + 1 : Nat) : Int) by omega, cut_drop]
    have sq : seqI (slE (vr 2) (inP (op2 addV (vr 3) (ct (.int 1)))) noP) [some (.str q.L), some (.int q.c), some (.loc q.st.length), some (.int (q.at_ : Nat)), some (.str [q.sg]), some (.str q.A), none, none, none] S5 = .ok ((q.ws.drop (q.at_ + 1)).map D.str, [(S5.length, .lst ((q.ws.drop (q.at_ + 1)).map D.str))]) (S5 ++ [.lst ((q.ws.drop (q.at_ + 1)).map D.str)]) := by
      have hg : (S5 ++ [MO.lst ((q.ws.drop (q.at_ + 1)).map D.str)])[S5.length]? = some (.lst ((q.ws.drop (q.at_ + 1)).map D.str)) := by simp
      generalize S5 ++ [MO.lst ((q.ws.drop (q.at_ + 1)).map D.str)] = Z1 at *
      generalize S5.length = z5 at *
      generalize S5 = Z5 at *
      generalize q.L = LL at *
      generalize q.A = AA at *
      generalize (q.ws.drop (q.at_ + 1)).map D.str = DD at *
      simp [sl, hg]
    have cm := compE_map (capt := [none]) (mi := seqI (slE (vr 2) (inP (op2 addV (vr 3) (ct (.int 1)))) noP)) (g := nameG 0) (e := op2 addV (ct (.str [32])) (vr 0))
      (env := [some (.str q.L), some (.int q.c), some (.loc q.st.length), some (.int (q.at_ : Nat)), some (.str [q.sg]), some (.str q.A), none, none, none]) (st := S5) (st1 := S5 ++ [.lst ((q.ws.drop (q.at_ + 1)).map D.str)]) (items := (q.ws.drop (q.at_ + 1)).map D.str) (gs := [(S5.length, .lst ((q.ws.drop (q.at_ + 1)).map D.str))]) (fun d => match d with | .str t => .str (32 :: t) | _ => .non) (fun e => ∃ a, e = [a])
      sq ⟨none, by simp [captE]⟩ (by rw [List.length_map, List.length_drop]; omega) (fun ys => by simp) (by
        rintro d hd env' ys ⟨a, rfl⟩
        obtain ⟨t, ht, rfl⟩ := List.mem_map.mp hd
        refine ⟨[some (.str t)], ⟨_, rfl⟩, by simp, ?_⟩
        have ad : ∀ Z, addV (.str [32]) (.str t) Z = .ok (.str (32 :: t)) Z := fun Z => r_add_str Z _ _ (by have := h.wl t (List.mem_of_mem_drop ht); simp; omega)
        generalize S5 ++ [MO.lst ((q.ws.drop (q.at_ + 1)).map D.str)] ++ [.lst ys] = Z at *
        simp [ad])
    have ea : (((q.ws.drop (q.at_ + 1)).map D.str).map fun d => match d with | .str t => D.str (32 :: t) | _ => .non) = ((q.ws.drop (q.at_ + 1)).map fun t => 32 :: t).map D.str := by rw [List.map_map, List.map_map]; rfl
    rw [ea] at cm
    have hsum := sum_le (ls := (q.ws.drop (q.at_ + 1)).map fun t => 32 :: t) fun t ht => by
      obtain ⟨u, hu, rfl⟩ := List.mem_map.mp ht
      have := h.wl u (List.mem_of_mem_drop hu); simp; omega
    rw [List.length_map, List.length_drop] at hsum
    have jn := r_join (S5 ++ [.lst ((q.ws.drop (q.at_ + 1)).map D.str)] ++ [.lst (((q.ws.drop (q.at_ + 1)).map fun t => 32 :: t).map D.str)]) [] (S5 ++ [MO.lst ((q.ws.drop (q.at_ + 1)).map D.str)]).length ((q.ws.drop (q.at_ + 1)).map fun t => 32 :: t) (by unfold itemsAt; simp) (by simp only [List.length_nil, Nat.mul_zero, Nat.add_zero]; omega)
    have jB : joinL [] ((q.ws.drop (q.at_ + 1)).map fun t => 32 :: t) = q.B := by
      unfold Sit.B
      generalize (q.ws.drop (q.at_ + 1)).map (fun t => 32 :: t) = l
      induction l with
      | nil => rfl
      | cons a l ih =>
        cases l with
        | nil => simp [joinL]
        | cons b l => rw [joinL, ih]; simp
    rw [jB] at jn
    refine ⟨[.lst ((q.ws.take q.at_).map D.str), .lst ((q.ws.drop (q.at_ + 1)).map D.str), .lst (((q.ws.drop (q.at_ + 1)).map fun t => 32 :: t).map D.str)], ?_⟩
    have ez : q.S ++ [.lst ((q.ws.take q.at_).map D.str), .lst ((q.ws.drop (q.at_ + 1)).map D.str), .lst (((q.ws.drop (q.at_ + 1)).map fun t => 32 :: t).map D.str)] = S5 ++ [.lst ((q.ws.drop (q.at_ + 1)).map D.str)] ++ [.lst (((q.ws.drop (q.at_ + 1)).map fun t => 32 :: t).map D.str)] := by simp [S5]
    rw [ez]
    have eE : q.EV none none = [some (.str q.L), some (.int q.c), some (.loc q.st.length), some (.int (q.at_ : Nat)), some (.str [q.sg]), some (.str q.A), some (.str q.B), none, none] := rfl
    rw [eE]
    generalize S5 ++ [MO.lst ((q.ws.drop (q.at_ + 1)).map D.str)] ++ [.lst (((q.ws.drop (q.at_ + 1)).map fun t => 32 :: t).map D.str)] = Z2 at *
    generalize (S5 ++ [MO.lst ((q.ws.drop (q.at_ + 1)).map D.str)]).length = z1 at *
    generalize S5 = Z5 at *
    generalize compE [none] _ _ _ _ = CE at *
    generalize q.L = LL at *
    generalize q.A = AA at *
    generalize q.B = BB at *
    simp [isTy, cm, jn]
  -- the first display
  obtain ⟨h7, e7a⟩ := ta1 q h (q.EV none none) ⟨none, rfl⟩ g6
  let Z7 : Stor := q.S ++ g6 ++ h7
  let g7 : Stor := g6 ++ h7 ++ [.lst (q.T1.map D.str)]
  have ez7 : Z7 ++ [.lst (q.T1.map D.str)] = q.S ++ g7 := by simp [Z7, g7]
  have e7 : setS 7 (lstE (consA (methE "str" joinV (ct (.str [32])) (consA (slE (vr 2) noP (inP (op1 negV (ct (.int 1))))) nilA)) (consA (op2 addV (vr 0) (ct (.str [32, 48]))) (consA (op2 addV (op2 addV (op2 addV (vr 5) (ct (.str [48]))) (op2 ixV (vr 2) (vr 3))) (vr 6)) nilA)))) (q.EV none none) (q.S ++ g6) = .ok (.nx (q.EV (some (.loc Z7.length)) none)) (q.S ++ g7) := by
    have ls : lstE (consA (methE "str" joinV (ct (.str [32])) (consA (slE (vr 2) noP (inP (op1 negV (ct (.int 1))))) nilA)) (consA (op2 addV (vr 0) (ct (.str [32, 48]))) (consA (op2 addV (op2 addV (op2 addV (vr 5) (ct (.str [48]))) (op2 ixV (vr 2) (vr 3))) (vr 6)) nilA))) (q.EV none none) (q.S ++ g6) = .ok (.loc Z7.length) (q.S ++ g7) := by
      unfold lstE
      rw [e7a, R.bind_ok, if_pos (by simp [Sit.T1]), ← ez7]
    rw [r_setS, ls, R.bind_ok]; rfl
  have hm7 : (q.S ++ g7)[Z7.length]? = some (.lst (q.T1.map D.str)) := by rw [← ez7]; simp
  -- noughts
  have e8 : ∃ h8, setS 8 (op2 addV (ct (.str [49])) (slE (ct (.str [48, 48, 48])) noP (inP (op2 addV (op2 subV (ct (.int 3)) (callE lenV (consA (op2 ixV (vr 2) (vr 3)) nilA))) (op2 modV (op2 fdivV (vr 1) (ct (.int 32))) (ct (.int 2))))))) (q.EV (some (.loc Z7.length)) none) (q.S ++ g7) = .ok (.nx (q.EV (some (.loc Z7.length)) (some (.str q.NO)))) (q.S ++ g7 ++ h8) := by
    obtain ⟨h8, ex⟩ := tx_x q h none (q.EV (some (.loc Z7.length)) none) ⟨_, rfl⟩ g7
    have lx : lenV [.str q.x] (q.S ++ g7 ++ h8) = .ok (.int (q.x.length : Nat)) (q.S ++ g7 ++ h8) := r_len_str _ _ (by omega)
    have hc2 : 0 ≤ q.c / 32 % 2 ∧ q.c / 32 % 2 < 2 := by omega
    have hk : (3 : Int) - (q.x.length : Nat) + q.c / 32 % 2 = ((3 - q.x.length + (q.c / 32 % 2).toNat : Nat) : Int) := by omega
    have hk3 : 3 - q.x.length + (q.c / 32 % 2).toNat ≤ 3 := by omega
    have sl : slV (.str [48, 48, 48]) none (some ((3 : Int) - (q.x.length : Nat) + q.c / 32 % 2)) (q.S ++ g7 ++ h8) = .ok (.str (List.replicate (3 - q.x.length + (q.c / 32 % 2).toNat) 48)) (q.S ++ g7 ++ h8) := by
      rw [r_sl_str _ _ _ _ (by simp), hk]
      generalize 3 - q.x.length + (q.c / 32 % 2).toNat = k at hk3
      rw [cut_take _ _ (by simpa using hk3)]
      have : k = 0 ∨ k = 1 ∨ k = 2 ∨ k = 3 := by omega
      rcases this with rfl | rfl | rfl | rfl <;> rfl
    have ad : ∀ Z, addV (.str [49]) (.str (List.replicate (3 - q.x.length + (q.c / 32 % 2).toNat) 48)) Z = .ok (.str q.NO) Z := fun Z => by rw [r_add_str Z _ _ (by simp; omega)]; rfl
    have es : (q.EV (some (.loc Z7.length)) none).set 8 (some (.str q.NO)) = q.EV (some (.loc Z7.length)) (some (.str q.NO)) := rfl
    have e1 : (q.EV (some (.loc Z7.length)) none)[1]? = some (some (.int q.c)) := rfl
    refine ⟨h8, ?_⟩
    rw [← es]
    generalize q.EV (some (.loc Z7.length)) none = EE at *
    generalize List.replicate (3 - q.x.length + (q.c / 32 % 2).toNat) 48 = RR at *
    generalize q.NO = NN at *
    generalize q.S ++ g7 ++ h8 = Y8 at *
    generalize q.S ++ g7 = Y7 at *
    generalize op2 ixV (vr 2) (vr 3) = IX at *
    generalize ((q.x.length : Nat) : Int) = XL at *
    generalize hct : (ct (.str [48, 48, 48]) : ME) = CT at *
    have hct' : ∀ env Z, CT env Z = .ok (.str [48, 48, 48]) Z := fun env Z => by rw [← hct]; rfl
    generalize ([48, 48, 48] : List Nat) = C3 at *
    simp [ex, lx, e1, r_fdiv_int, r_mod_int, hct', sl, ad]
  obtain ⟨h8, e8⟩ := e8
  rw [List.append_assoc] at e8
  have hm8 : (q.S ++ (g7 ++ h8))[Z7.length]? = some (.lst (q.T1.map D.str)) := by rw [← List.append_assoc]; exact get_app hm7
  obtain ⟨g9, m9, e9, hm9⟩ := app7 q (some (.str q.NO)) _ q.T2 q.T1 (ta2 q h) (by simp [Sit.T1, Sit.T2]) (g7 ++ h8) Z7.length hm8
  obtain ⟨g10, m10, e10, hm10⟩ := app7 q (some (.str q.NO)) _ q.T3 _ (ta3 q h _) (by simp [Sit.T1, Sit.T2, Sit.T3]) g9 m9 hm9
  obtain ⟨g11, m11, e11, hm11⟩ := app7 q (some (.str q.NO)) _ q.T4 _ (ta4 q h _) (by simp [Sit.T1, Sit.T2, Sit.T3, Sit.T4]) g10 m10 hm10
  obtain ⟨g12, m12, e12, hm12⟩ := app7 q (some (.str q.NO)) _ q.T5 _ (ta5 q h _) (by simp [Sit.T1, Sit.T2, Sit.T3, Sit.T4, Sit.T5]) g11 m11 hm11
  obtain ⟨g13, m13, e13, hm13⟩ := app7 q (some (.str q.NO)) _ q.T6 _ (ta6 q h _) (by simp [Sit.T1, Sit.T2, Sit.T3, Sit.T4, Sit.T5, Sit.T6]) g12 m12 hm12
  obtain ⟨g14, m14, e14, hm14⟩ := app7 q (some (.str q.NO)) _ q.T7 _ (ta7 q h _ hlo) (by simp [Sit.T1, Sit.T2, Sit.T3, Sit.T4, Sit.T5, Sit.T6, Sit.T7]) g13 m13 hm13
  have hTS : (q.S ++ g14)[m14]? = some (.lst (q.TS.map D.str)) := hm14
  have hlen : q.TS.length = 17 := rfl
  obtain ⟨k, hk⟩ : ∃ k : Nat, q.c % 17 = (k : Nat) := Int.eq_ofNat_of_zero_le (by omega)
  have hk17 : k < q.TS.length := by rw [hlen]; omega
  refine ⟨q.TS[k], List.getElem_mem hk17, ?_⟩
  have ix : ixV (.loc m14) (.int (k : Nat)) (q.S ++ g14) = .ok (.str q.TS[k]) (q.S ++ g14) := r_ix_loc _ _ _ _ _ (by unfold itemsAt; rw [hTS]) (by rw [atI_ofNat, List.getElem?_map, List.getElem?_eq_getElem hk17]; rfl)
  have e15 : retS (op2 ixV (vr 7) (op2 modV (vr 1) (ct (.int 17)))) (q.EV (some (.loc m14)) (some (.str q.NO))) (q.S ++ g14) = .ok (.rt (.str q.TS[k])) (q.S ++ g14) := by
    have e1 : (q.EV (some (.loc m14)) (some (.str q.NO)))[1]? = some (some (.int q.c)) := rfl
    have e7 : (q.EV (some (.loc m14)) (some (.str q.NO)))[7]? = some (some (.loc m14)) := rfl
    generalize q.EV (some (.loc m14)) (some (.str q.NO)) = EE at *
    generalize q.TS[k] = TK at *
    generalize q.S ++ g14 = Z at *
    simp [e1, e7, r_mod_int, hk, ix]
  have gg : gc q.st (.ok (.str q.TS[k]) (q.S ++ g14)) = .ok (.str q.TS[k]) q.st := by
    unfold Sit.S; rw [List.append_assoc]; exact gc_flat (by simp)
  have e6' : setS 6 (methE "str" joinV (ct (.str [])) (consA (compE [none] (seqI (slE (vr 2) (inP (op2 addV (vr 3) (ct (.int 1)))) noP)) (nameG 0) yesT (op2 addV (ct (.str [32])) (vr 0))) nilA)) [some (.str q.L), some (.int q.c), some (.loc q.st.length), some (.int (q.at_ : Nat)), some (.str [q.sg]), some (.str q.A), none, none, none] (q.S ++ [.lst ((q.ws.take q.at_).map D.str)]) = .ok (.nx (q.EV none none)) (q.S ++ g6) := e6
  simp only [r_seqS, e2, R.bind_ok, e3, e4, e5, e6', e7, e8, e9, e10, e11, e12, e13, e14, e15]
  exact gg
end Law
set_option maxHeartbeats 0
namespace Law
open L2 M
theorem nn1 {w : List Nat} (h : 3 < w.length) : isNum w = false := by
  unfold isNum
  rw [decide_eq_false (p := w.length ≤ 3) (by omega)]; simp
theorem nn2 {w : List Nat} {c : Nat} (hc : c ∈ w) (hd : dgt c = false) : isNum w = false := by
  unfold isNum
  have : w.all dgt = false := by
    rw [Bool.eq_false_iff]; intro z
    have := List.all_eq_true.mp z c hc
    rw [hd] at this; cases this
  rw [this]; simp
theorem nn3 {x : List Nat} (h : x ≠ []) : isNum (48 :: x) = false := by
  unfold isNum
  have : decide ((48 :: x) ≠ [48]) = true := decide_eq_true (by simp [h])
  rw [this]; simp
/-- signs of words -/
def okC (c : Nat) : Prop := c ≠ 32 ∧ c ≠ 10 ∧ c < 128
def okW (w : List Nat) : Prop := w.length ≤ 10 ∧ ∀ c ∈ w, okC c
def Bad (T : List Nat) : Prop := badL T ∧ 10 ∉ T ∧ T.length ≤ 300
theorem bad_of (w : List Nat) (ts : List (List Nat)) (hb : badW w ts) (hw : w.length ≤ 100 ∧ ∀ c ∈ w, okC c) (hts : ∀ t ∈ ts, okW t) (hl : ts.length ≤ 10) : Bad (joinL [32] (w :: ts)) := by
  have hlen : (joinL [32] (w :: ts)).length ≤ 100 + 11 * ts.length := by
    rw [joinL_flat, List.length_append]
    have : ∀ l : List (List Nat), (∀ t ∈ l, okW t) → ((l.map fun t => 32 :: t).flatten).length ≤ 11 * l.length := by
      intro l hl
      induction l with
      | nil => simp
      | cons t l ih =>
        have h1 := (hl t (by simp)).1
        have h2 := ih fun u hu => hl u (by simp [hu])
        rw [List.map_cons, List.flatten_cons, List.length_append, List.length_cons, List.length_cons]
        omega
    have := this ts hts
    have := hw.1
    omega
  refine ⟨bad_line w ts hb ?_ ?_ hl (by omega), ?_, by omega⟩
  · intro t ht
    rcases List.mem_cons.mp ht with rfl | ht
    · exact fun z => (hw.2 32 z).1 rfl
    · exact fun z => ((hts t ht).2 32 z).1 rfl
  · exact fun t ht => ⟨by have := (hts t ht).1; omega, fun c hc => ((hts t ht).2 c hc).2.2⟩
  · rw [joinL_flat]
    intro hm
    rcases List.mem_append.mp hm with hm | hm
    · exact (hw.2 10 hm).2.1 rfl
    · obtain ⟨t, ht, h2⟩ := List.mem_flatten.mp hm
      obtain ⟨u, hu, rfl⟩ := List.mem_map.mp ht
      rcases List.mem_cons.mp h2 with e | h2
      · omega
      · exact ((hts u hu).2 10 h2).2.1 rfl
def FL (l : List (List Nat)) : List Nat := (l.map fun t => 32 :: t).flatten
theorem FL_app (a b : List (List Nat)) : FL (a ++ b) = FL a ++ FL b := by simp [FL]
theorem FL_cons (t : List Nat) (b : List (List Nat)) : FL (t :: b) = 32 :: t ++ FL b := by simp [FL]
theorem jF (w : List Nat) (ts : List (List Nat)) : joinL [32] (w :: ts) = w ++ FL ts := joinL_flat 32 w ts
section
variable (w0 : List Nat) (fs : List (List Nat)) (k : Nat) (c : Int) (x : List Nat) (sg n : Nat) (st : Stor)
variable (hw : (w0 = [117, 112] ∧ fs.length = 2) ∨ (w0 = [100, 111, 119, 110] ∧ fs.length = 3)) (hf : ∀ t ∈ fs, okW t ∧ t ≠ [] ∧ t.length ≤ 3 ∧ ∀ d ∈ t, 48 ≤ d ∧ d ≤ 57) (hx : fs[k]? = some x) (hs : okC sg) (hsd : dgt sg = false)
include hw hf hx hs hsd
theorem bads : ∀ T ∈ (⟨w0 :: fs, c, k + 1, x, sg, n, st⟩ : Sit).TS, Bad T := by
  have hkl : k < fs.length := (List.getElem?_eq_some_iff.mp hx).1
  have hxm : x ∈ fs := List.mem_of_getElem? hx
  obtain ⟨xo, xne, x3, xd⟩ := hf x hxm
  have hw0 : w0.length ≤ 100 ∧ ∀ c ∈ w0, okC c := by
    rcases hw with ⟨e, _⟩ | ⟨e, _⟩ <;> rw [e] <;> exact ⟨by simp, by unfold okC; decide⟩
  have hw0' : okW w0 := ⟨by rcases hw with ⟨e, _⟩ | ⟨e, _⟩ <;> rw [e] <;> simp, hw0.2⟩
  have hfl : fs.length = 2 ∨ fs.length = 3 := by rcases hw with ⟨_, e⟩ | ⟨_, e⟩ <;> omega
  have hfo : ∀ t ∈ fs, okW t := fun t ht => (hf t ht).1
  have tk : ∀ t ∈ fs.take k, okW t := fun t ht => hfo t (List.mem_of_mem_take ht)
  have dk : ∀ t ∈ fs.drop (k + 1), okW t := fun t ht => hfo t (List.mem_of_mem_drop ht)
  have eA : (⟨w0 :: fs, c, k + 1, x, sg, n, st⟩ : Sit).A = w0 ++ FL (fs.take k) ++ [32] := by
    show joinL [32] ((w0 :: fs).take (k + 1)) ++ [32] = _
    rw [List.take_succ_cons, jF]
  have eB : (⟨w0 :: fs, c, k + 1, x, sg, n, st⟩ : Sit).B = FL (fs.drop (k + 1)) := by
    show ((List.drop (k + 1 + 1) (w0 :: fs)).map fun t => 32 :: t).flatten = _
    rw [List.drop_succ_cons]; rfl
  have eL : (⟨w0 :: fs, c, k + 1, x, sg, n, st⟩ : Sit).L = w0 ++ FL fs := jF w0 fs
  have cnt : ∀ ts : List (List Nat), ts.length ≠ fs.length → badW w0 ts := fun ts hne => .inl fun z => by
    rcases hw with ⟨e, l⟩ | ⟨e, l⟩ <;> rcases z with ⟨e2, l2⟩ | ⟨e2, l2⟩
    · omega
    · rw [e] at e2; simp at e2
    · rw [e] at e2; simp at e2
    · omega
  -- one word in x's place
  have one : ∀ y, okW y → isNum y = false → Bad (w0 ++ FL (fs.take k) ++ [32] ++ y ++ FL (fs.drop (k + 1))) := fun y hy hn => by
    have := bad_of w0 (fs.take k ++ y :: fs.drop (k + 1)) (.inr ⟨y, by simp, hn⟩) hw0 (fun t ht => by
      rcases List.mem_append.mp ht with ht | ht
      · exact tk t ht
      · rcases List.mem_cons.mp ht with rfl | ht
        · exact hy
        · exact dk t ht) (by simp; omega)
    rw [jF, FL_app, FL_cons] at this
    simpa using this
  have okx : ∀ y : List Nat, y.length ≤ 7 → (∀ c ∈ y, okC c) → okW y := fun y h1 h2 => ⟨by omega, h2⟩
  have xok := xo.2
  intro T hT
  unfold Sit.TS Sit.T1 Sit.T2 Sit.T3 Sit.T4 Sit.T5 Sit.T6 Sit.T7 at hT
  rw [eA, eB, eL] at hT
  simp only [List.cons_append, List.nil_append, List.mem_cons, List.not_mem_nil, or_false] at hT
  rcases hT with rfl | rfl | rfl | rfl | rfl | rfl | rfl | rfl | rfl | rfl | rfl | rfl | rfl | rfl | rfl | rfl | rfl
  · -- the last left out
    have e : cut (w0 :: fs) none (some (-1)) = w0 :: fs.take (fs.length - 1) := by
      rcases hfl with l | l
      · obtain ⟨a, b, rfl⟩ : ∃ a b, fs = [a, b] := by match fs, l with | [a, b], _ => exact ⟨a, b, rfl⟩
        rfl
      · obtain ⟨a, b, d, rfl⟩ : ∃ a b d, fs = [a, b, d] := by match fs, l with | [a, b, d], _ => exact ⟨a, b, d, rfl⟩
        rfl
    show Bad (joinL [32] (cut (w0 :: fs) none (some (-1))))
    rw [e]
    exact bad_of _ _ (cnt _ (by rw [List.length_take]; omega)) hw0 (fun t ht => hfo t (List.mem_of_mem_take ht)) (by rw [List.length_take]; omega)
  · have := bad_of w0 (fs ++ [[48]]) (cnt _ (by simp)) hw0 (fun t ht => by
      rcases List.mem_append.mp ht with ht | ht
      · exact hfo t ht
      · simp at ht; subst ht; exact ⟨by simp, by unfold okC; decide⟩) (by simp; omega)
    rw [jF, FL_app] at this
    simpa [FL] using this
  · have := one (48 :: x) (okx _ (by simp; omega) fun c hc => by
      rcases List.mem_cons.mp hc with rfl | hc
      · unfold okC; decide
      · exact xok c hc) (nn3 xne)
    simpa using this
  · have hNO : ∀ d ∈ (⟨w0 :: fs, c, k + 1, x, sg, n, st⟩ : Sit).NO, okC d := by
      intro d hd
      rcases List.mem_cons.mp hd with rfl | hd
      · unfold okC; decide
      · have := List.eq_of_mem_replicate hd; subst this; unfold okC; decide
    have hNl : (⟨w0 :: fs, c, k + 1, x, sg, n, st⟩ : Sit).NO.length = 1 + (3 - x.length + (c / 32 % 2).toNat) := by
      show (49 :: List.replicate _ 48).length = _
      simp; omega
    have x1 : 1 ≤ x.length := List.length_pos_iff.mpr xne
    generalize (⟨w0 :: fs, c, k + 1, x, sg, n, st⟩ : Sit).NO = NO at *
    have := one (NO ++ x) (okx _ (by rw [List.length_append]; omega) fun c hc => by
      rcases List.mem_append.mp hc with hc | hc
      · exact hNO c hc
      · exact xok c hc) (nn1 (by rw [List.length_append]; omega))
    simpa using this
  · have hcl := cut_len x none (some 1)
    have hcm : ∀ c ∈ cut x none (some 1), okC c := fun c hc => by
      unfold M.cut at hc
      exact xok c (List.mem_of_mem_drop (List.mem_of_mem_take hc))
    show Bad (w0 ++ FL (fs.take k) ++ [32] ++ cut x none (some 1) ++ [sg] ++ x ++ FL (fs.drop (k + 1)))
    generalize cut x none (some 1) = x1 at *
    have := one (x1 ++ [sg] ++ x) (okx _ (by simp; omega) fun c hc => by
      rcases List.mem_append.mp hc with hc | hc
      · rcases List.mem_append.mp hc with hc | hc
        · exact hcm c hc
        · simp at hc; subst hc; exact hs
      · exact xok c hc) (nn2 (c := sg) (by simp) hsd)
    simpa using this
  · have := one [sg] (okx _ (by simp) (by simpa using hs)) (nn2 (c := sg) (by simp) hsd)
    simpa using this
  · have := one (x ++ [sg]) (okx _ (by simp; omega) fun c hc => by
      rcases List.mem_append.mp hc with hc | hc
      · exact xok c hc
      · simp at hc; subst hc; exact hs) (nn2 (c := sg) (by simp) hsd)
    simpa using this
  · have := one (sg :: x) (okx _ (by simp; omega) fun c hc => by
      rcases List.mem_cons.mp hc with rfl | hc
      · exact hs
      · exact xok c hc) (nn2 (c := sg) (by simp) hsd)
    simpa using this
  · have := bad_of (111 :: 110 :: w0) fs (.inl fun z => by
      rcases hw with ⟨e, l⟩ | ⟨e, l⟩ <;> rw [e] at z <;> simp at z) ⟨by have := hw0'.1; simp; omega, fun c hc => by
      simp only [List.mem_cons] at hc
      rcases hc with rfl | rfl | hc
      · unfold okC; decide
      · unfold okC; decide
      · exact hw0.2 c hc⟩ hfo (by omega)
    rw [jF] at this
    simpa using this
  · obtain ⟨f0, fr, rfl⟩ : ∃ f0 fr, fs = f0 :: fr := by
      cases fs with
      | nil => simp at hkl
      | cons a b => exact ⟨a, b, rfl⟩
    have e : cut (w0 :: f0 :: fr) (some 1) none = f0 :: fr := cut1 w0 (f0 :: fr)
    show Bad (joinL [32] (cut (w0 :: f0 :: fr) (some 1) none))
    rw [e]
    have h0 := hf f0 (by simp)
    refine bad_of f0 fr (.inl fun z => ?_) ⟨by have := h0.1.1; omega, h0.1.2⟩ (fun t ht => hfo t (by simp [ht])) (by simp at hfl; omega)
    rcases z with ⟨e2, _⟩ | ⟨e2, _⟩
    · have := h0.2.2.2 117 (by rw [e2]; simp); omega
    · have := h0.2.2.2 100 (by rw [e2]; simp); omega
  · have := bad_of [] (w0 :: fs) (.inl fun z => by rcases z with ⟨e, _⟩ | ⟨e, _⟩ <;> simp at e) ⟨by simp, by simp⟩ (fun t ht => by
      rcases List.mem_cons.mp ht with rfl | ht
      · exact hw0'
      · exact hfo t ht) (by simp; omega)
    rw [jF, FL_cons] at this
    simpa using this
  · have := bad_of w0 (fs ++ [[]]) (cnt _ (by simp)) hw0 (fun t ht => by
      rcases List.mem_append.mp ht with ht | ht
      · exact hfo t ht
      · simp at ht; subst ht; exact ⟨by simp, by simp⟩) (by simp; omega)
    rw [jF, FL_app] at this
    simpa [FL] using this
  · have := bad_of w0 (fs.take k ++ [] :: x :: fs.drop (k + 1)) (cnt _ (by simp; omega)) hw0 (fun t ht => by
      rcases List.mem_append.mp ht with ht | ht
      · exact tk t ht
      · simp only [List.mem_cons] at ht
        rcases ht with rfl | rfl | ht
        · exact ⟨by simp, by simp⟩
        · exact xo
        · exact dk t ht) (by simp; omega)
    rw [jF, FL_app, FL_cons, FL_cons] at this
    simpa using this
  · -- tabs
    have hno : ∀ t ∈ w0 :: fs, 32 ∉ t := fun t ht => by
      rcases List.mem_cons.mp ht with rfl | ht
      · exact fun z => (hw0.2 32 z).1 rfl
      · exact fun z => ((hfo t ht).2 32 z).1 rfl
    have e : splitL 32 (w0 ++ FL fs) = w0 :: fs := by rw [← splitM_eq, ← jF, splitM_join 32 _ (by simp) hno]
    show Bad (joinL [9] (splitL 32 (w0 ++ FL fs)))
    rw [e]
    have hj : (joinL [9] (w0 :: fs)).length ≤ 100 := by
      have := join_len (ls := w0 :: fs) (fun t ht => by
        rcases List.mem_cons.mp ht with rfl | ht
        · exact hw0'.1
        · exact (hfo t ht).1) 9
      simp at this; omega
    have hc : ∀ d ∈ joinL [9] (w0 :: fs), okC d := by
      rw [joinL_flat]
      intro d hm
      rcases List.mem_append.mp hm with hm | hm
      · exact hw0.2 d hm
      · obtain ⟨t, ht, h2⟩ := List.mem_flatten.mp hm
        obtain ⟨u, hu, rfl⟩ := List.mem_map.mp ht
        rcases List.mem_cons.mp h2 with rfl | h2
        · unfold okC; decide
        · exact (hfo u hu).2 d h2
    exact bad_of (joinL [9] (w0 :: fs)) [] (.inl fun z => by rcases z with ⟨_, e⟩ | ⟨_, e⟩ <;> simp at e) ⟨hj, hc⟩ (by simp) (by simp)
  · exact bad_of [] [] (.inl fun z => by rcases z with ⟨_, e⟩ | ⟨_, e⟩ <;> simp at e) ⟨by simp, by simp⟩ (by simp) (by simp)
  · -- great letters
    have e : (w0 ++ FL fs).map PyProof.Rows.up1 = joinL [32] (w0.map PyProof.Rows.up1 :: fs.map fun t => t.map PyProof.Rows.up1) := by
      rw [jF, List.map_append]
      congr 1
      unfold FL
      rw [List.map_flatten, List.map_map, List.map_map]
      rfl
    rw [e]
    have up0 : ∀ c, okC c → okC (PyProof.Rows.up1 c) := fun c hc => by
      unfold PyProof.Rows.up1
      split
      · unfold okC at *; omega
      · exact hc
    refine bad_of _ _ (.inl fun z => ?_) ⟨by simp; have := hw0'.1; omega, fun c hc => ?_⟩ (fun t ht => ?_) (by simp; omega)
    · rcases hw with ⟨e, l⟩ | ⟨e, l⟩ <;> rw [e] at z <;> simp [PyProof.Rows.up1] at z
    · obtain ⟨d, hd, rfl⟩ := List.mem_map.mp hc
      exact up0 d (hw0.2 d hd)
    · obtain ⟨u, hu, rfl⟩ := List.mem_map.mp ht
      refine ⟨by simp; exact (hfo u hu).1, fun c hc => ?_⟩
      obtain ⟨d, hd, rfl⟩ := List.mem_map.mp hc
      exact up0 d ((hfo u hu).2 d hd)
  · show Bad T
    have eT : T = joinL [32] [T] := rfl
    rw [eT]
    exact bad_of T [] (cnt _ (by simp; omega)) hw0 (by simp) (by simp)
end
end Law
set_option maxHeartbeats 0
namespace Law
open L2 M
theorem fig_ok (n : Nat) (hn : n < 1000) : okW (fig n) ∧ fig n ≠ [] ∧ (fig n).length ≤ 3 ∧ ∀ d ∈ fig n, 48 ≤ d ∧ d ≤ 57 := by
  have h1 := fig_in n hn
  have h2 := fig_len n
  exact ⟨⟨by omega, fun c hc => by have := h1 c hc; unfold okC; omega⟩, fun z => by rw [z] at h2; simp at h2, h2.2, h1⟩
theorem spoilt_ok (r : Rr) (hg : goodR r) (c : Int) (st : Stor) : ∃ T, Bad T ∧ F_l_spoilt [.str (lineR r), .int c] st = .ok (.str T) st := by
  have hns : r.ns.length = 2 ∨ r.ns.length = 3 := by rcases hg.1 with ⟨_, e⟩ | ⟨_, e⟩ <;> omega
  have hlen : (r.w :: r.ns.map fig).length = r.ns.length + 1 := by simp
  obtain ⟨k, hk⟩ : ∃ k : Nat, c / 17 % (((r.w :: r.ns.map fig).length : Nat) - 1 : Int) = (k : Nat) := Int.eq_ofNat_of_zero_le (Int.emod_nonneg _ (by rw [hlen]; omega))
  have hkl : k < r.ns.length := by
    have := Int.emod_lt_of_pos (c / 17) (show (0 : Int) < (((r.w :: r.ns.map fig).length : Nat) - 1 : Int) by rw [hlen]; omega)
    rw [hk, hlen] at this; omega
  obtain ⟨sg, hsg, hpk⟩ := pickS [97, 98, 122, 45, 43, 46, 44, 95, 47, 58, 59, 39, 33, 120] (c / 64 % 14) (by omega) (by show _ < (14 : Int); omega) (by decide)
  have hx : (r.ns.map fig)[k]? = some (fig r.ns[k]) := by rw [List.getElem?_map, List.getElem?_eq_getElem hkl]; rfl
  have hxg := fig_ok r.ns[k] (hg.2 _ (List.getElem_mem hkl))
  have hww : (r.w = [117, 112] ∧ (r.ns.map fig).length = 2) ∨ (r.w = [100, 111, 119, 110] ∧ (r.ns.map fig).length = 3) := by simpa using hg.1
  have hf : ∀ t ∈ r.ns.map fig, okW t ∧ t ≠ [] ∧ t.length ≤ 3 ∧ ∀ d ∈ t, 48 ≤ d ∧ d ≤ 57 := fun t ht => by
    obtain ⟨n, hn, rfl⟩ := List.mem_map.mp ht
    exact fig_ok n (hg.2 n hn)
  have hw0 : okW r.w := by rcases hg.1 with ⟨e, _⟩ | ⟨e, _⟩ <;> rw [e] <;> exact ⟨by simp, by unfold okC; decide⟩
  have hall : ∀ t ∈ r.w :: r.ns.map fig, okW t := fun t ht => by
    rcases List.mem_cons.mp ht with rfl | ht
    · exact hw0
    · exact (hf t ht).1
  have hsok : okC sg ∧ dgt sg = false := by
    have : ∀ s ∈ [97, 98, 122, 45, 43, 46, 44, 95, 47, 58, 59, 39, 33, 120], (s ≠ 32 ∧ s ≠ 10 ∧ s < 128) ∧ dgt s = false := by decide
    exact this sg hsg
  let q : Sit := ⟨r.w :: r.ns.map fig, c, k + 1, fig r.ns[k], sg, 0, st⟩
  have ok : q.Ok := ⟨by show (r.w :: r.ns.map fig)[k + 1]? = _; rw [List.getElem?_cons_succ]; exact hx, fun t ht => (hall t ht).1, by show (r.w :: r.ns.map fig).length ≤ 10; rw [hlen]; omega⟩
  obtain ⟨T, hT, e⟩ := spoilt_run q ok (by show 1 < (r.w :: r.ns.map fig).length; rw [hlen]; omega) (by
    show ((k + 1 : Nat) : Int) = 1 + c / 17 % (((r.w :: r.ns.map fig).length : Nat) - 1 : Int)
    rw [hk]; omega) (fun t ht z => ((hall t ht).2 32 z).1 rfl) (by
    show ∀ d ∈ joinL [32] (r.w :: r.ns.map fig), d < 128
    rw [jF]
    intro d hd
    rcases List.mem_append.mp hd with hd | hd
    · exact (hw0.2 d hd).2.2
    · obtain ⟨t, ht, h2⟩ := List.mem_flatten.mp hd
      obtain ⟨u, hu, rfl⟩ := List.mem_map.mp ht
      rcases List.mem_cons.mp h2 with rfl | h2
      · decide
      · exact ((hf u hu).1.2 d h2).2.2) hxg.2.2.1 (List.length_pos_iff.mpr hxg.2.1) hpk
  exact ⟨T, bads r.w (r.ns.map fig) k c (fig r.ns[k]) sg 0 st hww hf hx hsok.1 hsok.2 T hT, e⟩
/-! texts that are parted and joined again -/
theorem split_join (c : Nat) : ∀ cs : List Nat, joinL [c] (splitL c cs) = cs ∧ (∀ t ∈ splitL c cs, c ∉ t) ∧ (∀ t ∈ splitL c cs, ∀ x ∈ t, x ∈ cs) ∧ (splitL c cs).length ≤ cs.length + 1
  | [] => ⟨rfl, by simp [splitL], by simp [splitL], by simp [splitL]⟩
  | x :: xs => by
    obtain ⟨h1, h2, h3, h4⟩ := split_join c xs
    have hne := splitL_ne c xs
    rw [splitL]
    by_cases hx : x = c
    · subst hx
      rw [if_pos rfl]
      refine ⟨?_, ?_, ?_, by simp; omega⟩
      · cases hq : splitL x xs with
        | nil => exact absurd hq hne
        | cons t ts => rw [hq] at h1; rw [joinL, h1]; rfl
      · intro t ht
        rcases List.mem_cons.mp ht with rfl | ht
        · simp
        · exact h2 t ht
      · intro t ht y hy
        rcases List.mem_cons.mp ht with rfl | ht
        · simp at hy
        · exact List.mem_cons_of_mem _ (h3 t ht y hy)
    · rw [if_neg hx]
      cases hq : splitL c xs with
      | nil => exact absurd hq hne
      | cons t ts =>
        rw [hq] at h1 h2 h3 h4
        dsimp only
        refine ⟨?_, ?_, ?_, by simp at h4 ⊢; omega⟩
        · rw [joinL_flat] at h1 ⊢
          rw [List.cons_append, h1]
        · intro u hu
          rcases List.mem_cons.mp hu with rfl | hu
          · intro z
            rcases List.mem_cons.mp z with z | z
            · exact hx z.symm
            · exact h2 t (by simp) z
          · exact h2 u (by simp [hu])
        · intro u hu y hy
          rcases List.mem_cons.mp hu with rfl | hu
          · rcases List.mem_cons.mp hy with rfl | hy
            · simp
            · exact List.mem_cons_of_mem _ (h3 t (by simp) y hy)
          · exact List.mem_cons_of_mem _ (h3 u (by simp [hu]) y hy)
/-- blanks and tabs tell no row -/
theorem bad_blank (t : List Nat) (hl : t.length ≤ 5) (hc : ∀ c ∈ t, c = 32 ∨ c = 9) : badL t := by
  obtain ⟨h1, h2, h3, h4⟩ := split_join 32 t
  cases hq : splitL 32 t with
  | nil => exact absurd hq (splitL_ne _ _)
  | cons w ts =>
    rw [hq] at h1 h2 h3 h4
    have hw9 : ∀ u ∈ w :: ts, ∀ c ∈ u, c = 9 := fun u hu c hcu => by
      rcases hc c (h3 u hu c hcu) with e | e
      · subst e; exact absurd hcu (h2 u hu)
      · exact e
    have hul : ∀ u ∈ w :: ts, u.length ≤ 5 := by
      intro u hu
      have : u.length ≤ (joinL [32] (w :: ts)).length := by
        rw [joinL_flat, List.length_append]
        rcases List.mem_cons.mp hu with rfl | hu
        · omega
        · have : u.length ≤ ((ts.map fun t => 32 :: t).flatten).length := by
            clear h1 h2 h3 h4 hw9 hq
            induction ts with
            | nil => simp at hu
            | cons a ts ih =>
              rw [List.map_cons, List.flatten_cons, List.length_append, List.length_cons]
              rcases List.mem_cons.mp hu with rfl | hu
              · omega
              · have := ih (by simp [hu]) hu; omega
          omega
      rw [h1] at this; omega
    have ho : ∀ u ∈ w :: ts, ∀ c ∈ u, okC c := fun u hu c hcu => by rw [hw9 u hu c hcu]; unfold okC; decide
    have := bad_of w ts (.inl fun z => by
      rcases z with ⟨e, _⟩ | ⟨e, _⟩
      · have := hw9 w (by simp) 117 (by rw [e]; simp); omega
      · have := hw9 w (by simp) 100 (by rw [e]; simp); omega) ⟨by have := hul w (by simp); omega, ho w (by simp)⟩ (fun u hu => ⟨by have := hul u (by simp [hu]); omega, ho u (by simp [hu])⟩) (by simp at h4; omega)
    rw [h1] at this
    exact this.1
/-- nothing but blanks, tabs and line feeds is refused at 0 -/
theorem nothing_ok (N : List Nat) (hne : N ≠ []) (hl : N.length ≤ 5) (hc : ∀ c ∈ N, c = 32 ∨ c = 10 ∨ c = 9) (st : Stor) : F_l_refused [.str N, .int 0] st = .ok (.bl true) st := by
  obtain ⟨h1, h2, h3, h4⟩ := split_join 10 N
  have ln : Lines (splitL 10 N) := ⟨splitL_ne _ _, by rw [h1]; exact hne, h2, by rw [h1]; omega, by omega⟩
  cases hq : splitL 10 N with
  | nil => exact absurd hq (splitL_ne _ _)
  | cons w ts =>
    have hb : badL w := by
      refine bad_blank w ?_ fun c hcw => ?_
      · rw [hq, joinL_flat] at h1
        have := congrArg List.length h1
        rw [List.length_append] at this; omega
      · rcases hc c (h3 w (by rw [hq]; simp) c hcw) with e | e | e
        · exact .inl e
        · subst e; exact absurd hcw (h2 w (by rw [hq]; simp))
        · exact .inr e
    have := refused_ok (splitL 10 N) ln st 0 (fun i l hi _ => by omega) ⟨w, by rw [hq]; rfl, hb⟩
    rw [h1] at this
    exact this
end Law
set_option maxHeartbeats 0
namespace Law
open L2 M
def spI (sp : List Nat) : List D := sp.map fun i => D.int ((i : Nat) : Int)
/-- lines: good ones, but for the spots -/
structure Sp (G BL : List (List Nat)) (sp : List Nat) : Prop where
  len : BL.length = G.length
  spl : ∀ s ∈ sp, s < G.length
  row : ∀ k l, BL[k]? = some l → l.length ≤ 300 ∧ 10 ∉ l ∧ (k ∈ sp → badL l) ∧ (k ∉ sp → G[k]? = some l)
theorem Sp.put {G BL : List (List Nat)} {sp : List Nat} (h : Sp G BL sp) {k : Nat} {T : List Nat} (hk : k < G.length) (hT : Bad T) : Sp G (BL.set k T) (sp ++ [k]) := by
  refine ⟨by simpa using h.len, fun s hs => ?_, fun j q hq => ?_⟩
  · rcases List.mem_append.mp hs with hs | hs
    · exact h.spl s hs
    · simp at hs; omega
  · rw [List.getElem?_set] at hq
    by_cases e : k = j
    · subst e
      rw [if_pos rfl] at hq
      split at hq
      · cases hq
        exact ⟨hT.2.2, hT.2.1, fun _ => hT.1, fun hn => absurd (by simp) hn⟩
      · cases hq
    · rw [if_neg e] at hq
      obtain ⟨h0, h1, h2, h3⟩ := h.row j q hq
      refine ⟨h0, h1, fun hm => h2 ?_, fun hn => h3 fun hm => hn (by simp [hm])⟩
      rcases List.mem_append.mp hm with hm | hm
      · exact hm
      · simp at hm; exact absurd hm.symm e
theorem mnL_nat : ∀ (l : List Nat), l ≠ [] → ∃ j : Nat, j ∈ l ∧ mnL (l.map fun i => ((i : Nat) : Int)) = ((j : Nat) : Int) ∧ ∀ i ∈ l, j ≤ i := fun l hl => by
  have h1 := mnL_mem (l.map fun i => ((i : Nat) : Int)) (by simpa using hl)
  obtain ⟨j, hj, e⟩ := List.mem_map.mp h1
  refine ⟨j, hj, e.symm, fun i hi => ?_⟩
  have := mnL_le (l.map fun i => ((i : Nat) : Int)) ((i : Nat) : Int) (List.mem_map.mpr ⟨i, hi, rfl⟩)
  rw [← e] at this; omega
/-- what the law waits for -/
def Due (ls : List (List Nat)) (d : D) : Prop := (d = .non ∧ ∀ l ∈ ls, goodL l) ∨ ∃ j : Nat, d = .int (j : Nat) ∧ (∀ i l, i < j → ls[i]? = some l → goodL l) ∧ ∃ l, ls[j]? = some l ∧ badL l
theorem gc_keep {st Z : Stor} {d : D} (h : ¬ under st.length d) (hl : ∀ p, d ≠ .loc p) : gc st (.ok d Z) = .ok d Z := by
  unfold gc
  dsimp only
  rw [if_neg (fun z => h z.2)]
  cases d with
  | loc p => exact absurd rfl (hl p)
  | _ => rfl
theorem bad_empty : badL [] := (bad_of [] [] (.inl fun z => by rcases z with ⟨_, e⟩ | ⟨_, e⟩ <;> simp at e) ⟨by simp, by simp⟩ (by simp) (by simp)).1
section
variable (G BL : List (List Nat)) (sp : List Nat) (hsp : Sp G BL sp) (hG : ∀ l ∈ G, goodL l) (h2 : 2 ≤ G.length) (hl : G.length ≤ 50)
include hsp hG h2 hl
theorem first_ok (F : Nat) (hF : (sp = [] ∧ F = G.length) ∨ (F ∈ sp ∧ ∀ i ∈ sp, F ≤ i)) : (∀ i l, i < F → BL[i]? = some l → goodL l) ∧ (sp ≠ [] → ∃ l, BL[F]? = some l ∧ badL l) ∧ F ≤ G.length := by
  refine ⟨fun i l hi he => ?_, fun hne => ?_, ?_⟩
  · refine hG l (List.mem_of_getElem? ((hsp.row i l he).2.2.2 fun hm => ?_))
    rcases hF with ⟨e, _⟩ | ⟨_, h⟩
    · rw [e] at hm; simp at hm
    · have := h i hm; omega
  · rcases hF with ⟨e, _⟩ | ⟨hm, _⟩
    · exact absurd e hne
    · have hlt : F < BL.length := by rw [hsp.len]; exact hsp.spl F hm
      exact ⟨BL[F], List.getElem?_eq_getElem hlt, (hsp.row F _ (List.getElem?_eq_getElem hlt)).2.2.1 hm⟩
  · rcases hF with ⟨_, e⟩ | ⟨hm, _⟩
    · omega
    · have := hsp.spl F hm; omega
theorem numbered_ok (a b : Nat) (c : Int) (st : Stor) (ha : st[a]? = some (.lst (BL.map D.str))) (hb : st[b]? = some (.lst (spI sp))) :
    ∃ (ls : List (List Nat)) (d : D) (a' : Nat) (g : Stor), F_l_numbered [.loc a, .loc b, .int c] st = .ok (.tup [.loc a', d]) (st ++ g) ∧ (st ++ g)[a']? = some (.lst (ls.map D.str)) ∧ Due ls d ∧ (ls.length = G.length ∨ ls.length = G.length + 1) ∧ (∀ l ∈ ls, l.length ≤ 300 ∧ 10 ∉ l) ∧ (d = .non → ls.length = G.length) := by
  have hlen := hsp.len
  have hBL : ∀ l ∈ BL, l.length ≤ 300 ∧ 10 ∉ l := fun l hm => by
    obtain ⟨k, hk, e⟩ := List.getElem_of_mem hm
    have := hsp.row k l (by rw [List.getElem?_eq_getElem hk, e])
    exact ⟨this.1, this.2.1⟩
  have hal : a < st.length := (List.getElem?_eq_some_iff.mp ha).1
  have ia : ∀ g, itemsAt (st ++ g) a = some (BL.map D.str) := fun g => by unfold itemsAt; rw [get_app ha]
  have ia0 : itemsAt st a = some (BL.map D.str) := by unfold itemsAt; rw [ha]
  have ln : ∀ g, lenV [.loc a] (st ++ g) = .ok (.int (BL.length : Nat)) (st ++ g) := fun g => by rw [r_len_loc _ _ _ (ia g), List.length_map]
  have ln0 : lenV [.loc a] st = .ok (.int (BL.length : Nat)) st := by rw [r_len_loc _ _ _ ia0, List.length_map]
  obtain ⟨F, hF, mn⟩ : ∃ F : Nat, ((sp = [] ∧ F = G.length) ∨ (F ∈ sp ∧ ∀ i ∈ sp, F ≤ i)) ∧ minDV (.loc b) (.int (BL.length : Nat)) st = .ok (.int (F : Nat)) st := by
    have ib : itemsAt st b = some ((sp.map fun i => ((i : Nat) : Int)).map D.int) := by unfold itemsAt; rw [hb]; simp [spI]
    unfold minDV
    simp only [ib, intsOf_map]
    by_cases hz : sp = []
    · subst hz
      exact ⟨G.length, .inl ⟨rfl, rfl⟩, by simp [hlen]⟩
    · obtain ⟨j, hj, e, hle⟩ := mnL_nat sp hz
      exact ⟨j, .inr ⟨hj, hle⟩, by rw [if_neg (by simpa using hz), e]⟩
  obtain ⟨f1, f2, f3⟩ := first_ok G BL sp hsp hG h2 hl F hF
  have mi : ∀ (x y : Nat) Z, minW [.int (x : Nat), .int (y : Nat)] Z = .ok (.int ((min x y : Nat) : Int)) Z := fun x y Z => by
    show min2V [.int (x : Nat), .int (y : Nat)] Z = _
    rw [r_min2]
    congr 2
    split <;> omega
  unfold F_l_numbered gcF fnM b_l_numbered
  rw [show startM 6 [D.loc a, .loc b, .int c] = [some (.loc a), some (.loc b), some (.int c), none, none, none] from rfl]
  have hw : 0 ≤ c % 16 := Int.emod_nonneg _ (by decide)
  have le1 : ∀ Z : Stor, ∀ env, lstE (consA (ct (.str [])) nilA) env Z = .ok (.loc Z.length) (Z ++ [.lst [.str []]]) := fun Z env => by simp
  by_cases w3 : c % 16 = 3
  · -- one more at the end
    let Z1 : Stor := st ++ [.lst [.str []]]
    have ad : addV (.loc a) (.loc st.length) Z1 = .ok (.loc Z1.length) (Z1 ++ [.lst ((BL ++ [[]]).map D.str)]) := by
      have e1 : Z1[a]? = some (.lst (BL.map D.str)) := get_app ha
      have e2 : Z1[st.length]? = some (.lst [.str []]) := by simp [Z1]
      simp only [addV, e1, e2]
      rw [if_pos (by simp; omega), List.map_append]; rfl
    let Z2 : Stor := Z1 ++ [.lst ((BL ++ [[]]).map D.str)]
    have l2 : lenV [.loc a] Z2 = .ok (.int (BL.length : Nat)) Z2 := by
      have := ln ([.lst [.str []]] ++ [.lst ((BL ++ [[]]).map D.str)])
      rwa [← List.append_assoc] at this
    have m2 := mi F BL.length Z2
    have hz1 : Z1.length = st.length + 1 := by simp [Z1]
    refine ⟨BL ++ [[]], .int ((min F BL.length : Nat) : Int), st.length + 1, [.lst [.str []], .lst ((BL ++ [[]]).map D.str)], ?_, by simp, ?_, ?_, ?_, by simp⟩
    · have ez : st ++ [MO.lst [.str []], .lst ((BL ++ [[]]).map D.str)] = Z2 := by simp [Z2, Z1]
      rw [ez, ← hz1]
      have gg : gc st (.ok (.tup [.loc Z1.length, .int ((min F BL.length : Nat) : Int)]) Z2) = .ok (.tup [.loc Z1.length, .int ((min F BL.length : Nat) : Int)]) Z2 := gc_keep (by simp [hz1]) (by simp)
      have le := le1 st
      change ∀ env, _ = R.ok _ Z1 at le
      change addV _ _ _ = R.ok _ Z2 at ad
      generalize lstE (consA (ct (.str [])) nilA) = LE at *
      generalize Z2 = Y2 at *
      generalize Z1.length = z1 at *
      generalize Z1 = Y1 at *
      generalize ((min F BL.length : Nat) : Int) = MF at *
      generalize ((BL.length : Nat) : Int) = BL' at *
      generalize ((F : Nat) : Int) = F' at *
      simp [r_mod_int, w3, ln0, mn, le, ad, l2, m2]
      exact gg
    · refine .inr ⟨min F BL.length, rfl, fun i l hi he => ?_, ?_⟩
      · rw [List.getElem?_append_left (by omega)] at he
        exact f1 i l (by omega) he
      · by_cases hz : sp = []
        · have : F = G.length := by
            rcases hF with ⟨_, e⟩ | ⟨hm, _⟩
            · exact e
            · rw [hz] at hm; simp at hm
          refine ⟨[], ?_, bad_empty⟩
          rw [this, hlen, Nat.min_self, ← hlen]; simp
        · obtain ⟨l, h3, h4⟩ := f2 hz
          have hlt := (List.getElem?_eq_some_iff.mp h3).1
          exact ⟨l, by rw [Nat.min_eq_left (by omega), List.getElem?_append_left hlt]; exact h3, h4⟩
    · right; simp; omega
    · intro l hm
      rcases List.mem_append.mp hm with hm | hm
      · exact hBL l hm
      · simp at hm; subst hm; simp
  · by_cases w7 : c % 16 = 7
    · let Z1 : Stor := st ++ [.lst [.str []]]
      have ad : addV (.loc st.length) (.loc a) Z1 = .ok (.loc Z1.length) (Z1 ++ [.lst (([] :: BL).map D.str)]) := by
        have e1 : Z1[a]? = some (.lst (BL.map D.str)) := get_app ha
        have e2 : Z1[st.length]? = some (.lst [.str []]) := by simp [Z1]
        simp only [addV, e1, e2]
        rw [if_pos (by simp; omega)]; rfl
      let Z2 : Stor := Z1 ++ [.lst (([] :: BL).map D.str)]
      have hz1 : Z1.length = st.length + 1 := by simp [Z1]
      refine ⟨[] :: BL, .int ((0 : Nat) : Int), st.length + 1, [.lst [.str []], .lst (([] :: BL).map D.str)], ?_, by simp, ?_, ?_, ?_, by simp⟩
      · have ez : st ++ [MO.lst [.str []], .lst (([] :: BL).map D.str)] = Z2 := by simp [Z2, Z1]
        rw [ez, ← hz1]
        have gg : gc st (.ok (.tup [.loc Z1.length, .int 0]) Z2) = .ok (.tup [.loc Z1.length, .int ((0 : Nat) : Int)]) Z2 := gc_keep (by simp [hz1]) (by simp)
        have le := le1 st
        change ∀ env, _ = R.ok _ Z1 at le
        change addV _ _ _ = R.ok _ Z2 at ad
        generalize lstE (consA (ct (.str [])) nilA) = LE at *
        generalize Z2 = Y2 at *
        generalize Z1.length = z1 at *
        generalize Z1 = Y1 at *
        generalize ((BL.length : Nat) : Int) = BL' at *
        generalize ((F : Nat) : Int) = F' at *
        simp [r_mod_int, w3, w7, ln0, mn, le, ad]
        exact gg
      · exact .inr ⟨0, rfl, fun i l hi _ => by omega, [], rfl, bad_empty⟩
      · right; simp; omega
      · intro l hm
        rcases List.mem_cons.mp hm with rfl | hm
        · simp
        · exact hBL l hm
    · by_cases w11 : c % 16 = 11
      · have hgt : (1 : Int) < (BL.length : Nat) := by omega
        obtain ⟨k, hk⟩ : ∃ k : Nat, c / 16 % ((BL.length : Nat) - 1 : Int) = (k : Nat) := Int.eq_ofNat_of_zero_le (Int.emod_nonneg _ (by omega))
        have hkl : k < BL.length - 1 := by
          have := Int.emod_lt_of_pos (c / 16) (show (0 : Int) < ((BL.length : Nat) - 1 : Int) by omega)
          rw [hk] at this; omega
        have md := r_mod_int st (c / 16) ((BL.length : Nat) - 1) (by omega)
        rw [hk] at md
        have hat : (1 : Int) + (k : Nat) = ((k + 1 : Nat) : Int) := by omega
        let Z1 : Stor := st ++ [.lst ((BL.take (k + 1)).map D.str)]
        let Z2 : Stor := Z1 ++ [.lst [.str []]]
        let Z3 : Stor := Z2 ++ [.lst ((BL.take (k + 1) ++ [[]]).map D.str)]
        let Z4 : Stor := Z3 ++ [.lst ((BL.drop (k + 1)).map D.str)]
        let Z5 : Stor := Z4 ++ [.lst ((BL.take (k + 1) ++ [[]] ++ BL.drop (k + 1)).map D.str)]
        have s1 : slV (.loc a) none (some ((k + 1 : Nat) : Int)) st = .ok (.loc st.length) Z1 := by
          simp only [slV, ia0]
          rw [cut_map, cut_take _ _ (by omega)]
        have le : ∀ env, lstE (consA (ct (.str [])) nilA) env Z1 = .ok (.loc Z1.length) Z2 := fun env => le1 Z1 env
        have a1 : addV (.loc st.length) (.loc Z1.length) Z2 = .ok (.loc Z2.length) Z3 := by
          have e1 : Z2[st.length]? = some (.lst ((BL.take (k + 1)).map D.str)) := by simp [Z2, Z1]
          have e2 : Z2[Z1.length]? = some (.lst [.str []]) := by simp [Z2]
          simp only [addV, e1, e2]
          rw [if_pos (by rw [List.length_map, List.length_take]; simp; omega)]
          simp [Z3]
        have i3 : itemsAt Z3 a = some (BL.map D.str) := by
          have := ia ([.lst ((BL.take (k + 1)).map D.str)] ++ [.lst [.str []]] ++ [.lst ((BL.take (k + 1) ++ [[]]).map D.str)])
          rwa [← List.append_assoc, ← List.append_assoc] at this
        have s2 : slV (.loc a) (some ((k + 1 : Nat) : Int)) none Z3 = .ok (.loc Z3.length) Z4 := by
          simp only [slV, i3]
          rw [cut_map, cut_drop]
        have a2 : addV (.loc Z2.length) (.loc Z3.length) Z4 = .ok (.loc Z4.length) Z5 := by
          have e1 : Z4[Z2.length]? = some (.lst ((BL.take (k + 1) ++ [[]]).map D.str)) := by
            show (Z2 ++ [.lst ((BL.take (k + 1) ++ [[]]).map D.str)] ++ [.lst ((BL.drop (k + 1)).map D.str)])[Z2.length]? = _
            rw [List.append_assoc]; simp
          have e2 : Z4[Z3.length]? = some (.lst ((BL.drop (k + 1)).map D.str)) := by simp [Z4]
          simp only [addV, e1, e2]
          rw [if_pos (by rw [List.length_map, List.length_map, List.length_append, List.length_take, List.length_drop]; simp; omega), ← List.map_append]
        have m5 := mi F (k + 1) Z5
        have hz4 : Z4.length = st.length + 4 := by simp [Z4, Z3, Z2, Z1]
        have htl : (BL.take (k + 1)).length = k + 1 := by rw [List.length_take]; omega
        refine ⟨BL.take (k + 1) ++ [[]] ++ BL.drop (k + 1), .int ((min F (k + 1) : Nat) : Int), st.length + 4, [.lst ((BL.take (k + 1)).map D.str), .lst [.str []], .lst ((BL.take (k + 1) ++ [[]]).map D.str), .lst ((BL.drop (k + 1)).map D.str), .lst ((BL.take (k + 1) ++ [[]] ++ BL.drop (k + 1)).map D.str)], ?_, by simp, ?_, ?_, ?_, by simp⟩
        · have ez : st ++ [MO.lst ((BL.take (k + 1)).map D.str), .lst [.str []], .lst ((BL.take (k + 1) ++ [[]]).map D.str), .lst ((BL.drop (k + 1)).map D.str), .lst ((BL.take (k + 1) ++ [[]] ++ BL.drop (k + 1)).map D.str)] = Z5 := by simp only [Z5, Z4, Z3, Z2, Z1, List.append_assoc, List.cons_append, List.nil_append]
          rw [ez, ← hz4]
          have gg : gc st (.ok (.tup [.loc Z4.length, .int ((min F (k + 1) : Nat) : Int)]) Z5) = .ok (.tup [.loc Z4.length, .int ((min F (k + 1) : Nat) : Int)]) Z5 := gc_keep (by simp [hz4]) (by simp)
          generalize lstE (consA (ct (.str [])) nilA) = LE at *
          generalize Z5 = Y5 at *
          generalize Z4.length = z4 at *
          generalize Z4 = Y4 at *
          generalize Z3.length = z3 at *
          generalize Z3 = Y3 at *
          generalize Z2.length = z2 at *
          generalize Z2 = Y2 at *
          generalize Z1.length = z1 at *
          generalize Z1 = Y1 at *
          generalize ((min F (k + 1) : Nat) : Int) = MF at *
          generalize ((k + 1 : Nat) : Int) = K1 at *
          generalize ((BL.length : Nat) : Int) = BL' at *
          generalize ((F : Nat) : Int) = F' at *
          generalize ((k : Nat) : Int) = K0 at *
          simp [r_mod_int, r_fdiv_int, w3, w7, w11, ln0, mn, hgt, md, hat, s1, le, a1, s2, a2, m5]
          exact gg
        · refine .inr ⟨min F (k + 1), rfl, fun i l hi he => ?_, ?_⟩
          · rw [List.append_assoc, List.getElem?_append_left (by omega), List.getElem?_take_of_lt (by omega)] at he
            exact f1 i l (by omega) he
          · by_cases hFk : F < k + 1
            · have hz : sp ≠ [] := fun z => by
                rcases hF with ⟨_, e⟩ | ⟨hm, _⟩
                · omega
                · rw [z] at hm; simp at hm
              obtain ⟨l, h3, h4⟩ := f2 hz
              refine ⟨l, ?_, h4⟩
              rw [Nat.min_eq_left (by omega), List.append_assoc, List.getElem?_append_left (by omega), List.getElem?_take_of_lt (by omega)]
              exact h3
            · refine ⟨[], ?_, bad_empty⟩
              rw [Nat.min_eq_right (by omega), List.append_assoc, List.getElem?_append_right (by omega), htl]
              simp
        · right; simp; omega
        · intro l hm
          rcases List.mem_append.mp hm with hm | hm
          · rcases List.mem_append.mp hm with hm | hm
            · exact hBL l (List.mem_of_mem_take hm)
            · simp at hm; subst hm; simp
          · exact hBL l (List.mem_of_mem_drop hm)
      · -- as they are
        have tt : ∀ Z env, env[3]? = some (some (.int (c % 16))) → andT (tB1 (op2 (eqV 200) (vr 3) (ct (.int 11)))) (tB1 (op2 gtV (callE lenV (consA (vr 0) nilA)) (ct (.int 1)))) env Z = .ok false Z := fun Z env he => by simp [he, w11]
        have nl : ∀ env, lstE nilA env st = .ok (.loc st.length) (st ++ [.lst []]) := fun env => by simp
        have hspI : flats (spI sp) = true := by
          unfold spI
          clear hsp mn hF f1 f2 f3 hb
          induction sp with
          | nil => simp
          | cons a l ih => rw [List.map_cons, flats_cons, ih]; simp
        have ib : itemsAt (st ++ [MO.lst []]) b = some (spI sp) := by unfold itemsAt; rw [get_app hb]
        have eq : eqV 200 (.loc b) (.loc st.length) (st ++ [MO.lst []]) = .ok (.bl (spI sp).isEmpty) (st ++ [MO.lst []]) := by
          have i2 : itemsAt (st ++ [MO.lst []]) st.length = some [] := by simp [itemsAt]
          have e : eqR 200 (.loc b) (.loc st.length) (st ++ [MO.lst []]) = some (spI sp).isEmpty := by
            simp only [eqR, ib, i2]
            rw [if_pos ⟨hspI, by simp, by simp⟩]
            cases spI sp <;> simp [eqDs]
          unfold M.eqV; rw [e]
        by_cases hz : sp = []
        · refine ⟨BL, .non, a, [], ?_, by rw [List.append_nil]; exact ha, .inl ⟨rfl, fun l hm => ?_⟩, .inl hlen, hBL, fun _ => hlen⟩
          · have eq2 : eqV 200 (.loc b) (.loc st.length) (st ++ [MO.lst []]) = .ok (.bl true) (st ++ [MO.lst []]) := by rw [eq, hz]; rfl
            have gg : gc st (.ok (.tup [.loc a, .non]) (st ++ [MO.lst []])) = .ok (.tup [.loc a, .non]) (st ++ []) := by rw [List.append_nil]; exact gc_flat (by simp [hal])
            generalize hTT : andT (tB1 _) _ = TT at *
            generalize lstE (consA (ct (.str [])) nilA) = LE1 at *
            generalize lstE nilA = LE at *
            generalize st ++ [MO.lst []] = Y1 at *
            generalize ((BL.length : Nat) : Int) = BL' at *
            generalize ((F : Nat) : Int) = F' at *
            simp [r_mod_int, w3, w7, tt, ln0, mn, nl, eq2]
            rw [List.append_nil] at gg; exact gg
          · obtain ⟨k, hk, e⟩ := List.getElem_of_mem hm
            exact hG l (List.mem_of_getElem? ((hsp.row k l (by rw [List.getElem?_eq_getElem hk, e])).2.2.2 (by rw [hz]; simp)))
        · refine ⟨BL, .int (F : Nat), a, [], ?_, by rw [List.append_nil]; exact ha, .inr ⟨F, rfl, f1, f2 hz⟩, .inl hlen, hBL, fun z => by cases z⟩
          have eq2 : eqV 200 (.loc b) (.loc st.length) (st ++ [MO.lst []]) = .ok (.bl false) (st ++ [MO.lst []]) := by
            rw [eq]
            cases sp with
            | nil => exact absurd rfl hz
            | cons x y => rfl
          have gg : gc st (.ok (.tup [.loc a, .int (F : Nat)]) (st ++ [MO.lst []])) = .ok (.tup [.loc a, .int (F : Nat)]) (st ++ []) := by rw [List.append_nil]; exact gc_flat (by simp [hal])
          generalize hTT : andT (tB1 _) _ = TT at *
          generalize lstE (consA (ct (.str [])) nilA) = LE1 at *
          generalize lstE nilA = LE at *
          generalize st ++ [MO.lst []] = Y1 at *
          generalize ((BL.length : Nat) : Int) = BL' at *
          generalize ((F : Nat) : Int) = F' at *
          simp [r_mod_int, w3, w7, tt, ln0, mn, nl, eq2]
          rw [List.append_nil] at gg; exact gg
end
end Law
set_option maxHeartbeats 0
namespace Law
open L2 M
theorem r_callX' (F : FD) (dd : List D) (mA : MA) (env : MEnv) (st : Stor) : callX F dd mA env st = (mA env st).bind fun as st1 => F (as ++ dd) st1 := rfl
theorem goodL_lines {l : List Nat} (h : goodL l) : l ≠ [] ∧ l.length ≤ 300 ∧ 10 ∉ l := by
  obtain ⟨r, g, rfl⟩ := h
  exact ⟨line_ne g, by have := line_len g; omega, line_no g⟩
theorem lines_of {ls : List (List Nat)} (h2 : 2 ≤ ls.length) (hl : ls.length ≤ 60) (h : ∀ l ∈ ls, l.length ≤ 300 ∧ 10 ∉ l) : Lines ls := by
  have hne : ls ≠ [] := fun z => by rw [z] at h2; simp at h2
  have hj : (joinL [10] ls).length ≤ 301 * ls.length := by
    cases ls with
    | nil => simp [joinL]
    | cons t ts =>
      rw [joinL_flat, List.length_append]
      have h1 := (h t (by simp)).1
      have hh : ∀ l : List (List Nat), (∀ t ∈ l, t.length ≤ 300) → ((l.map fun t => 10 :: t).flatten).length ≤ 301 * l.length := by
        intro l hl
        induction l with
        | nil => simp
        | cons u l ih =>
          have a1 := hl u (by simp)
          have a2 := ih fun v hv => hl v (by simp [hv])
          rw [List.map_cons, List.flatten_cons, List.length_append, List.length_cons, List.length_cons]
          omega
      have := hh ts fun u hu => (h u (by simp [hu])).1
      rw [List.length_cons]; omega
  refine ⟨hne, ?_, fun l hm => (h l hm).2, by omega, by omega⟩
  match ls, h2 with
  | a :: b :: r, _ =>
    rw [joinL_flat]
    simp
section
variable (N C : List D) (G : List (List Nat))
/-- the store while the lines are spoilt: the script, what was cut out, the lines as they came first, two more, the good ones, those to be spoilt, the spots -/
def SS (A1 A2 : List D) (BL : List (List Nat)) (sp : List Nat) (g : Stor) : Stor := .frz N :: .lst C :: .lst A1 :: .lst A2 :: .lst (G.map D.str) :: .lst (BL.map D.str) :: .lst (spI sp) :: g
end
theorem step_ok (ns : List Int) (C A1 A2 : List D) (G BL : List (List Nat)) (sp : List Nat) (h : Sp G BL sp) (hG : ∀ l ∈ G, goodL l) (hG2 : 2 ≤ G.length) (hl : G.length ≤ 50) (hs : sp.length ≤ 100) (i : Nat) (hi : i ≤ 100) (a5 a6 a7 a8 : Option D) (B : MS)
    (hB : B = (seqS (setS 5 (op2 modV (callF F_l_mixed [] (consA (callF F_l_cell_at [] (consA (vr 0) (consA (ct (.int 0)) nilA))) (consA (op2 addV (ct (.int 20)) (vr 4)) nilA))) (callE lenV (consA (vr 2) nilA))))
    (seqS (asgS (callF F_l_spoilt [] (consA (op2 ixV (vr 1) (vr 5)) (consA (callF F_l_mixed [] (consA (callF F_l_cell_at [] (consA (vr 0) (consA (ct (.int 1)) nilA))) (consA (vr 4) nilA))) nilA))) (subG setV (vr 2) (vr 5)))
    (exprS (methE "list" appendV (vr 3) (consA (vr 5) nilA)))))) :
    ∃ (BL' : List (List Nat)) (k : Nat), Sp G BL' (sp ++ [k]) ∧
      B [some (.loc 0), some (.loc 4), some (.loc 5), some (.loc 6), some (.int (i : Nat)), a5, a6, a7, a8] (SS (ns.map D.int) C G A1 A2 BL sp []) =
      .ok (.nx [some (.loc 0), some (.loc 4), some (.loc 5), some (.loc 6), some (.int (i : Nat)), some (.int (k : Nat)), a6, a7, a8]) (SS (ns.map D.int) C G A1 A2 BL' (sp ++ [k]) []) := by
  let S0 : Stor := SS (ns.map D.int) C G A1 A2 BL sp []
  have c0 : F_l_cell_at [.loc 0, .int 0] S0 = .ok (.int (ns.getD 0 0)) S0 := cell_at ns 0 0 _ rfl
  have c1 : F_l_cell_at [.loc 0, .int 1] S0 = .ok (.int (ns.getD 1 0)) S0 := cell_at ns 0 1 _ rfl
  generalize ns.getD 0 0 = n0 at *
  generalize ns.getD 1 0 = n1 at *
  have m1 := mixed_ok n0 (20 + (i : Nat)) S0 (by omega) (by omega)
  have m2 := mixed_ok n1 (i : Nat) S0 (by omega) (by omega)
  have ln : lenV [.loc 5] S0 = .ok (.int (BL.length : Nat)) S0 := by rw [r_len_loc S0 5 (BL.map D.str) rfl, List.length_map]
  have hlen := h.len
  have md := r_mod_int S0 (mixed n0 (20 + (i : Nat))) (BL.length : Nat) (by omega)
  have p0 := Int.emod_nonneg (mixed n0 (20 + (i : Nat))) (show ((BL.length : Nat) : Int) ≠ 0 by omega)
  have p1 := Int.emod_lt_of_pos (mixed n0 (20 + (i : Nat))) (show (0 : Int) < ((BL.length : Nat) : Int) by omega)
  obtain ⟨k, hk⟩ := Int.eq_ofNat_of_zero_le p0
  rw [hk] at md p1
  have hkl : k < G.length := by omega
  have hbl : k < BL.length := by omega
  obtain ⟨r, hr, hre⟩ := hG G[k] (List.getElem_mem hkl)
  obtain ⟨T, hT, sp1⟩ := spoilt_ok r hr (mixed n1 (i : Nat)) S0
  rw [← hre] at sp1
  refine ⟨BL.set k T, k, h.put hkl hT, ?_⟩
  have ix : ixV (.loc 4) (.int (k : Nat)) S0 = .ok (.str G[k]) S0 := r_ix_loc _ 4 (k : Nat) (G.map D.str) _ rfl (by rw [atI_ofNat]; simp [hkl])
  have st1 : setV (.loc 5) (.int (k : Nat)) (.str T) S0 = .ok () (SS (ns.map D.int) C G A1 A2 (BL.set k T) sp []) := by
    have e : ixN (BL.map D.str).length (k : Nat) = some k := by
      have hh : k < (BL.map D.str).length := by simpa using hbl
      unfold ixN
      rw [if_pos (by omega), if_pos (by omega), Int.toNat_natCast]
    show (match ixN (BL.map D.str).length (k : Nat) with | some j => R.ok () (S0.set 5 (.lst ((BL.map D.str).set j (.str T)))) | none => R.bad) = _
    rw [e]
    simp only [S0, SS, List.map_set, List.set_cons_succ, List.set_cons_zero]
  have ap : appendV (.loc 6) [.int (k : Nat)] (SS (ns.map D.int) C G A1 A2 (BL.set k T) sp []) = .ok .non (SS (ns.map D.int) C G A1 A2 (BL.set k T) (sp ++ [k]) []) := by
    have : (spI sp).length < 1000000 := by simp [spI]; omega
    have e : spI (sp ++ [k]) = spI sp ++ [.int (k : Nat)] := by simp [spI]
    show (if (spI sp).length < 1000000 then R.ok D.non ((SS (ns.map D.int) C G A1 A2 (BL.set k T) sp []).set 6 (.lst (spI sp ++ [.int (k : Nat)]))) else R.bad) = _
    rw [if_pos this, ← e]; rfl
  have ty : isTy "list" (.loc 6) (SS (ns.map D.int) C G A1 A2 (BL.set k T) sp []) = true := rfl
  show B [some (.loc 0), some (.loc 4), some (.loc 5), some (.loc 6), some (.int (i : Nat)), a5, a6, a7, a8] S0 = _
  rw [hB]
  generalize SS (ns.map D.int) C G A1 A2 (BL.set k T) (sp ++ [k]) [] = Z2 at *
  generalize SS (ns.map D.int) C G A1 A2 (BL.set k T) sp [] = Z1 at *
  generalize S0 = Z0 at *
  generalize G[k] = GK at *
  generalize mixed n0 (20 + (i : Nat)) = x1 at *
  generalize mixed n1 (i : Nat) = x2 at *
  generalize ((BL.length : Nat) : Int) = RL at *
  generalize ((i : Nat) : Int) = I at *
  generalize ((k : Nat) : Int) = KK at *
  simp [c0, c1, m1, m2, ln, md, ix, sp1, st1, ap, ty]
end Law
set_option maxHeartbeats 0
namespace Law
open L2 M
theorem cut_le (ns : List Int) : (cut ns (some 2) (some 14)).length ≤ 12 := by
  rw [show (2 : Int) = ((2 : Nat) : Int) from rfl, show (14 : Int) = ((14 : Nat) : Int) from rfl]
  unfold cut
  rw [HT.sIx_nat, HT.sIx_nat, List.length_take, List.length_drop]
  omega
def lnD : D → D
  | .int c => .str (lineR (rowOf c))
  | _ => .non
theorem law_true : ∀ ns : List Int, ns.length ≤ 63 → ∃ st, F_p_law [.loc 0] [.frz (ns.map D.int)] = .ok (.bl true) st := by
  intro ns _
  have hcl := cut_le ns
  have hcut : cut (ns.map D.int) (some 2) (some 14) = (cut ns (some 2) (some 14)).map D.int := cut_map _ _ _ _
  generalize cut ns (some 2) (some 14) = cs at *
  obtain ⟨n0, hn0⟩ : ∃ n0, ns.getD 0 0 = n0 := ⟨_, rfl⟩
  obtain ⟨n1, hn1⟩ : ∃ n1, ns.getD 1 0 = n1 := ⟨_, rfl⟩
  let N : List D := ns.map D.int
  let C : List D := cs.map D.int
  let L1 : List (List Nat) := cs.map fun c => lineR (rowOf c)
  let L2' : List (List Nat) := [lineR (rowOf n0), lineR (rowOf n1)]
  let G : List (List Nat) := L1 ++ L2'
  have hGl : G.length = cs.length + 2 := by simp [G, L1, L2']
  have hGg : ∀ l ∈ G, goodL l := fun l hl => by
    rcases List.mem_append.mp hl with hl | hl
    · obtain ⟨c, _, rfl⟩ := List.mem_map.mp hl
      exact ⟨_, rowOf_good c, rfl⟩
    · simp only [L2', List.mem_cons, List.not_mem_nil, or_false] at hl
      rcases hl with rfl | rfl
      · exact ⟨_, rowOf_good n0, rfl⟩
      · exact ⟨_, rowOf_good n1, rfl⟩
  have hGb : ∀ l ∈ G, l.length ≤ 300 ∧ 10 ∉ l := fun l hl => (goodL_lines (hGg l hl)).2
  have cl0 : ∀ Z : Stor, itemsAt Z 0 = some (ns.map D.int) → F_l_cell_at [.loc 0, .int 0] Z = .ok (.int n0) Z := fun Z hZ => by rw [← hn0]; exact cell_at ns 0 0 Z hZ
  have cl1 : ∀ Z : Stor, itemsAt Z 0 = some (ns.map D.int) → F_l_cell_at [.loc 0, .int 1] Z = .ok (.int n1) Z := fun Z hZ => by rw [← hn1]; exact cell_at ns 0 1 Z hZ
  unfold F_p_law gcF fnM b_p_law
  rw [show startM 9 [D.loc 0] = [some (.loc 0), none, none, none, none, none, none, none, none] from rfl]
  generalize hB : (seqS (setS 5 _) _ : MS) = B
  generalize hB8 : (setS 8 (op2 addV (vr 8) _) : MS) = B8
  -- the good lines
  have e1 : setS 1 (compE [none] (seqI (slE (vr 0) (inP (ct (.int 2))) (inP (ct (.int 14))))) (nameG 0) yesT (callF F_l_line [] (consA (vr 0) nilA))) [some (.loc 0), none, none, none, none, none, none, none, none] [.frz N] = .ok (.nx [some (.loc 0), some (.loc 2), none, none, none, none, none, none, none]) [.frz N, .lst C, .lst (L1.map D.str)] := by
    have sq : seqI (slE (vr 0) (inP (ct (.int 2))) (inP (ct (.int 14)))) [some (.loc 0), none, none, none, none, none, none, none, none] [.frz N] = .ok (C, [(1, .lst C)]) [.frz N, .lst C] := by
      have sl : slV (.loc 0) (some 2) (some 14) [.frz N] = .ok (.loc 1) [.frz N, .lst C] := by
        show R.ok (D.loc 1) [.frz N, .lst (cut (ns.map D.int) (some 2) (some 14))] = _
        rw [hcut]
      have hg : ([.frz N, .lst C] : Stor)[1]? = some (.lst C) := rfl
      generalize ([.frz N, .lst C] : Stor) = Z1 at *
      generalize ([.frz N] : Stor) = Z0 at *
      generalize C = CC at *
      simp [sl, hg]
    have cm := compE_map (capt := [none]) (mi := seqI (slE (vr 0) (inP (ct (.int 2))) (inP (ct (.int 14))))) (g := nameG 0) (e := callF F_l_line [] (consA (vr 0) nilA))
      (env := [some (.loc 0), none, none, none, none, none, none, none, none]) (st := [.frz N]) (st1 := [.frz N, .lst C]) (items := C) (gs := [(1, .lst C)]) lnD (fun e => ∃ a, e = [a])
      sq ⟨none, by simp [captE]⟩ (by simp [C]; omega) (fun ys => by simp) (by
        rintro d hd env' ys ⟨a, rfl⟩
        obtain ⟨c, _, rfl⟩ := List.mem_map.mp hd
        refine ⟨[some (.int c)], ⟨_, rfl⟩, by simp, ?_⟩
        have := line_ok c ([.frz N, .lst C] ++ [.lst ys])
        show _ = R.ok (D.str (lineR (rowOf c))) _
        generalize ([.frz N, .lst C] ++ [.lst ys] : Stor) = Z at *
        generalize lineR (rowOf c) = LL at *
        simp [this])
    have em : C.map lnD = L1.map D.str := by simp only [C, L1, List.map_map]; rfl
    rw [em] at cm
    have cm' : compE [none] (seqI (slE (vr 0) (inP (ct (.int 2))) (inP (ct (.int 14))))) (nameG 0) yesT (callF F_l_line [] (consA (vr 0) nilA)) [some (.loc 0), none, none, none, none, none, none, none, none] [.frz N] = .ok (.loc 2) [.frz N, .lst C, .lst (L1.map D.str)] := cm
    rw [r_setS, cm', R.bind_ok]; rfl
  have e2 : setS 1 (op2 addV (vr 1) (lstE (consA (callF F_l_line [] (consA (callF F_l_cell_at [] (consA (vr 0) (consA (ct (.int 0)) nilA))) nilA)) (consA (callF F_l_line [] (consA (callF F_l_cell_at [] (consA (vr 0) (consA (ct (.int 1)) nilA))) nilA)) nilA)))) [some (.loc 0), some (.loc 2), none, none, none, none, none, none, none] [.frz N, .lst C, .lst (L1.map D.str)] = .ok (.nx [some (.loc 0), some (.loc 4), none, none, none, none, none, none, none]) [.frz N, .lst C, .lst (L1.map D.str), .lst (L2'.map D.str), .lst (G.map D.str)] := by
    have q0 := cl0 [.frz N, .lst C, .lst (L1.map D.str)] rfl
    have q1 := cl1 [.frz N, .lst C, .lst (L1.map D.str)] rfl
    have p0 := line_ok n0 [.frz N, .lst C, .lst (L1.map D.str)]
    have p1 := line_ok n1 [.frz N, .lst C, .lst (L1.map D.str)]
    have ls : ∀ env, env[0]? = some (some (.loc 0)) → lstE (consA (callF F_l_line [] (consA (callF F_l_cell_at [] (consA (vr 0) (consA (ct (.int 0)) nilA))) nilA)) (consA (callF F_l_line [] (consA (callF F_l_cell_at [] (consA (vr 0) (consA (ct (.int 1)) nilA))) nilA)) nilA)) env [.frz N, .lst C, .lst (L1.map D.str)] = .ok (.loc 3) [.frz N, .lst C, .lst (L1.map D.str), .lst (L2'.map D.str)] := fun env he => by
      have : lstE (consA (callF F_l_line [] (consA (callF F_l_cell_at [] (consA (vr 0) (consA (ct (.int 0)) nilA))) nilA)) (consA (callF F_l_line [] (consA (callF F_l_cell_at [] (consA (vr 0) (consA (ct (.int 1)) nilA))) nilA)) nilA)) env [.frz N, .lst C, .lst (L1.map D.str)] = .ok (.loc ([.frz N, .lst C, .lst (L1.map D.str)] : Stor).length) ([.frz N, .lst C, .lst (L1.map D.str)] ++ [.lst (L2'.map D.str)]) := by
        simp only [L2', List.map_cons, List.map_nil]
        generalize ([.frz N, .lst C, .lst (L1.map D.str)] : Stor) = Z at *
        generalize lineR (rowOf n0) = X0 at *
        generalize lineR (rowOf n1) = X1 at *
        simp [he, q0, q1, p0, p1]
      exact this
    have ad : addV (.loc 2) (.loc 3) [.frz N, .lst C, .lst (L1.map D.str), .lst (L2'.map D.str)] = .ok (.loc 4) [.frz N, .lst C, .lst (L1.map D.str), .lst (L2'.map D.str), .lst (G.map D.str)] := by
      show (if (L1.map D.str).length + (L2'.map D.str).length ≤ 1000000 then R.ok (D.loc 4) [.frz N, .lst C, .lst (L1.map D.str), .lst (L2'.map D.str), .lst (L1.map D.str ++ L2'.map D.str)] else R.bad) = _
      rw [if_pos (by simp [L1, L2']; omega), ← List.map_append]
    generalize hLE : lstE (consA (callF F_l_line [] (consA (callF F_l_cell_at [] _) nilA)) _) = LE at *
    generalize ([.frz N, .lst C, .lst (L1.map D.str), .lst (L2'.map D.str), .lst (G.map D.str)] : Stor) = Z2 at *
    generalize ([.frz N, .lst C, .lst (L1.map D.str), .lst (L2'.map D.str)] : Stor) = Z1 at *
    generalize ([.frz N, .lst C, .lst (L1.map D.str)] : Stor) = Z0 at *
    simp [ls, ad]
  let A1 : List D := L1.map D.str
  let A2 : List D := L2'.map D.str
  have e3 : setS 2 (callE listC (consA (vr 1) nilA)) [some (.loc 0), some (.loc 4), none, none, none, none, none, none, none] [.frz N, .lst C, .lst A1, .lst A2, .lst (G.map D.str)] = .ok (.nx [some (.loc 0), some (.loc 4), some (.loc 5), none, none, none, none, none, none]) [.frz N, .lst C, .lst A1, .lst A2, .lst (G.map D.str), .lst (G.map D.str)] := by
    have lc : listC [.loc 4] [.frz N, .lst C, .lst A1, .lst A2, .lst (G.map D.str)] = .ok (.loc 5) [.frz N, .lst C, .lst A1, .lst A2, .lst (G.map D.str), .lst (G.map D.str)] := rfl
    generalize ([.frz N, .lst C, .lst A1, .lst A2, .lst (G.map D.str), .lst (G.map D.str)] : Stor) = Z1 at *
    generalize ([.frz N, .lst C, .lst A1, .lst A2, .lst (G.map D.str)] : Stor) = Z0 at *
    simp [lc]
  have e4 : setS 3 (lstE nilA) [some (.loc 0), some (.loc 4), some (.loc 5), none, none, none, none, none, none] [.frz N, .lst C, .lst A1, .lst A2, .lst (G.map D.str), .lst (G.map D.str)] = .ok (.nx [some (.loc 0), some (.loc 4), some (.loc 5), some (.loc 6), none, none, none, none, none]) (SS N C G A1 A2 G [] []) := rfl
  -- spoilt
  have hm4 : 0 ≤ n0 % 4 ∧ n0 % 4 < 4 := by omega
  obtain ⟨m, hm⟩ : ∃ m : Nat, n0 % 4 = (m : Nat) := Int.eq_ofNat_of_zero_le hm4.1
  have sp0 : Sp G G [] := ⟨rfl, by simp, fun k l hk => ⟨(hGb l (List.mem_of_getElem? hk)).1, (hGb l (List.mem_of_getElem? hk)).2, by simp, fun _ => hk⟩⟩
  obtain ⟨BL, sp, a4, a5, hsp, e5⟩ : ∃ (BL : List (List Nat)) (sp : List Nat) (a4 a5 : Option D), Sp G BL sp ∧ forS (range1I (consA (op2 modV (callF F_l_cell_at [] (consA (vr 0) (consA (ct (.int 0)) nilA))) (ct (.int 4))) nilA)) (nameG 4) B [some (.loc 0), some (.loc 4), some (.loc 5), some (.loc 6), none, none, none, none, none] (SS N C G A1 A2 G [] []) = .ok (.nx [some (.loc 0), some (.loc 4), some (.loc 5), some (.loc 6), a4, a5, none, none, none]) (SS N C G A1 A2 BL sp []) := by
    obtain ⟨env', st', h1, BL, sp, a4, a5, h2, h3, rfl, rfl⟩ := forGo_ix (g := nameG 4) (b := B) (gs := []) (items := upto 0 m)
      (fun i env st => ∃ BL sp a4 a5, Sp G BL sp ∧ sp.length = i ∧ env = [some (.loc 0), some (.loc 4), some (.loc 5), some (.loc 6), a4, a5, none, none, none] ∧ st = SS N C G A1 A2 BL sp [])
      (env := [some (.loc 0), some (.loc 4), some (.loc 5), some (.loc 6), none, none, none, none, none]) (st := SS N C G A1 A2 G [] [])
      ⟨G, [], none, none, sp0, rfl, rfl, rfl⟩ (by
        rintro i d env st hd ⟨BL, sp, a4, a5, h2, h3, rfl, rfl⟩
        obtain ⟨hi, rfl⟩ := upto_get hd
        obtain ⟨BL', k, h4, h5⟩ := step_ok ns C A1 A2 G BL sp h2 hGg (by omega) (by omega) (by omega) i (by omega) a5 none none none B hB.symm
        refine ⟨by simp, _, _, rfl, _, _, .inl (by rw [Int.zero_add]; exact h5), BL', sp ++ [k], _, _, h4, by simp [h3], rfl, rfl⟩) (fun env st _ => by simp)
    refine ⟨BL, sp, a4, a5, h2, ?_⟩
    have q0 := cl0 (SS N C G A1 A2 G [] []) rfl
    have hr1 : -4611686018427387904 ≤ (m : Int) := by omega
    have hr2 : (m : Int) < 4611686018427387904 := by omega
    have rg : ∀ env, env[0]? = some (some (.loc 0)) → range1I (consA (op2 modV (callF F_l_cell_at [] (consA (vr 0) (consA (ct (.int 0)) nilA))) (ct (.int 4))) nilA) env (SS N C G A1 A2 G [] []) = .ok (upto 0 m, []) (SS N C G A1 A2 G [] []) := fun env he => by
      generalize SS N C G A1 A2 G [] [] = Z at *
      simp [he, q0, r_mod_int, hm, hr1, hr2]
    rw [r_forS, rg _ rfl, R.bind_ok]
    exact h1
  -- numbered
  let S1 : Stor := SS N C G A1 A2 BL sp []
  have q1 := cl1 S1 rfl
  have m40 := mixed_ok n1 40 S1 (by omega) (by omega)
  obtain ⟨ls, d, a', g, nu, ha', hdue, hlsl, hlsb, hnon⟩ := numbered_ok G BL sp hsp hGg (by omega) (by omega) 5 6 (mixed n1 40) S1 rfl rfl
  let S2 : Stor := S1 ++ g
  have e6 : asgS (callF F_l_numbered [] (consA (vr 2) (consA (vr 3) (consA (callF F_l_mixed [] (consA (callF F_l_cell_at [] (consA (vr 0) (consA (ct (.int 1)) nilA))) (consA (ct (.int 40)) nilA))) nilA)))) (tupG 2 (consG (nameG 2) (consG (nameG 6) nilG))) [some (.loc 0), some (.loc 4), some (.loc 5), some (.loc 6), a4, a5, none, none, none] S1 = .ok (.nx [some (.loc 0), some (.loc 4), some (.loc a'), some (.loc 6), a4, a5, some d, none, none]) S2 := by
    change _ = R.ok _ S2 at nu
    generalize S2 = Z2 at *
    generalize S1 = Z1 at *
    generalize mixed n1 40 = M4 at *
    simp [q1, m40, nu]
  have hls2 : 2 ≤ ls.length ∧ ls.length ≤ 60 := by omega
  have LN := lines_of hls2.1 hls2.2 hlsb
  have ils : ∀ h, itemsAt (S2 ++ h) a' = some (ls.map D.str) := fun h => by unfold itemsAt; rw [get_app ha']
  have ils0 : itemsAt S2 a' = some (ls.map D.str) := by unfold itemsAt; rw [ha']
  have jlen : ∀ l : List (List Nat), l.length ≤ 60 → (∀ t ∈ l, t.length ≤ 300 ∧ 10 ∉ t) → (l.map List.length).sum + l.length * [10].length ≤ 1000000 := fun l hl hh => by
    have : (l.map List.length).sum ≤ 300 * l.length := by
      clear hl
      induction l with
      | nil => simp
      | cons t l ih => have := (hh t (by simp)).1; have := ih fun u hu => hh u (by simp [hu]); simp; omega
    simp; omega
  have e7 : setS 7 (methE "str" joinV (ct (.str [10])) (consA (vr 2) nilA)) [some (.loc 0), some (.loc 4), some (.loc a'), some (.loc 6), a4, a5, some d, none, none] S2 = .ok (.nx [some (.loc 0), some (.loc 4), some (.loc a'), some (.loc 6), a4, a5, some d, some (.str (joinL [10] ls)), none]) S2 := by
    have jn := r_join S2 [10] a' ls ils0 (jlen ls hls2.2 hlsb)
    generalize joinL [10] ls = T at *
    generalize S2 = Z2 at *
    simp [isTy, jn]
  have e8 : (ifS (andT (tB1 (op2 notNoneV (vr 6) (ct .non))) (orT (notT (tru (callF F_l_refused [] (consA (vr 7) (consA (vr 6) nilA))))) (notT (tru (callF F_l_refused [] (consA (vr 7) (consA (vr 6) nilA))))))) (retS (ct (.bl false))) skipS) [some (.loc 0), some (.loc 4), some (.loc a'), some (.loc 6), a4, a5, some d, some (.str (joinL [10] ls)), none] S2 = .ok (.nx [some (.loc 0), some (.loc 4), some (.loc a'), some (.loc 6), a4, a5, some d, some (.str (joinL [10] ls)), none]) S2 := by
    rcases hdue with ⟨rfl, _⟩ | ⟨j, rfl, h1, h2⟩
    · have nn : ∀ Z, notNoneV .non .non Z = .ok (.bl false) Z := fun Z => rfl
      generalize S2 = Z2 at *
      generalize joinL [10] ls = T at *
      simp [nn]
    · have rf := refused_ok ls LN S2 j h1 h2
      have nn : ∀ Z, notNoneV (.int (j : Nat)) .non Z = .ok (.bl true) Z := fun Z => rfl
      generalize S2 = Z2 at *
      generalize joinL [10] ls = T at *
      generalize ((j : Nat) : Int) = J at *
      simp [nn, rf, truV]
  obtain ⟨h9, e9⟩ : ∃ h9, (ifS (andT (tB1 (op2 isNoneV (vr 6) (ct .non))) (tB1 (op2 (neV 200) (callE lenV (consA (callX F_p_counter_read [] (consA (vr 7) nilA)) nilA)) (callE lenV (consA (vr 2) nilA))))) (retS (ct (.bl false))) skipS) [some (.loc 0), some (.loc 4), some (.loc a'), some (.loc 6), a4, a5, some d, some (.str (joinL [10] ls)), none] S2 = .ok (.nx [some (.loc 0), some (.loc 4), some (.loc a'), some (.loc 6), a4, a5, some d, some (.str (joinL [10] ls)), none]) (S2 ++ h9) := by
    rcases hdue with ⟨rfl, hg⟩ | ⟨j, rfl, h1, h2⟩
    · obtain ⟨P, hP, _, rd⟩ := read_good ls LN S2 hg
      refine ⟨[.lst P], ?_⟩
      have nn : ∀ Z, isNoneV .non .non Z = .ok (.bl true) Z := fun Z => rfl
      have l1 : lenV [.loc S2.length] (S2 ++ [.lst P]) = .ok (.int (ls.length : Nat)) (S2 ++ [.lst P]) := by rw [r_len_loc _ _ P (by unfold itemsAt; simp), hP]
      have l2 : lenV [.loc a'] (S2 ++ [.lst P]) = .ok (.int (ls.length : Nat)) (S2 ++ [.lst P]) := by rw [r_len_loc _ _ _ (ils _), List.length_map]
      generalize S2 ++ [MO.lst P] = Z3 at *
      generalize S2.length = z2 at *
      generalize S2 = Z2 at *
      generalize joinL [10] ls = T at *
      generalize ((ls.length : Nat) : Int) = LL at *
      simp [nn, r_callX', rd, l1, l2]
    · refine ⟨[], ?_⟩
      rw [List.append_nil]
      have nn : ∀ Z, isNoneV (.int (j : Nat)) .non Z = .ok (.bl false) Z := fun Z => rfl
      generalize S2 = Z2 at *
      generalize joinL [10] ls = T at *
      generalize ((j : Nat) : Int) = J at *
      simp [nn]
  let S3 : Stor := S2 ++ h9
  have iN : itemsAt S3 0 = some (ns.map D.int) := rfl
  have e10 : setS 8 (ct (.str [])) [some (.loc 0), some (.loc 4), some (.loc a'), some (.loc 6), a4, a5, some d, some (.str (joinL [10] ls)), none] S3 = .ok (.nx [some (.loc 0), some (.loc 4), some (.loc a'), some (.loc 6), a4, a5, some d, some (.str (joinL [10] ls)), some (.str [])]) S3 := rfl
  obtain ⟨b4, NT, hNl, hNc, e11⟩ : ∃ (b4 : Option D) (NT : List Nat), (1 ≤ NT.length ∧ NT.length ≤ 5) ∧ (∀ c ∈ NT, c = 32 ∨ c = 10 ∨ c = 9) ∧ forS (range1I (consA (op2 addV (ct (.int 1)) (op2 modV (callE lenV (consA (vr 2) nilA)) (ct (.int 4)))) nilA)) (nameG 4) B8 [some (.loc 0), some (.loc 4), some (.loc a'), some (.loc 6), a4, a5, some d, some (.str (joinL [10] ls)), some (.str [])] S3 = .ok (.nx [some (.loc 0), some (.loc 4), some (.loc a'), some (.loc 6), b4, a5, some d, some (.str (joinL [10] ls)), some (.str NT)]) S3 := by
    obtain ⟨q, hq⟩ : ∃ q : Nat, (1 : Int) + (ls.length : Nat) % 4 = (q : Nat) := Int.eq_ofNat_of_zero_le (by omega)
    have hq4 : 1 ≤ q ∧ q ≤ 4 := by omega
    have q1' := cl1 S3 iN
    obtain ⟨env', st', h1, b4, NT, h2, h3, rfl, rfl⟩ := forGo_ix (g := nameG 4) (b := B8) (gs := []) (items := upto 0 q)
      (fun i env st => ∃ (b4 : Option D) (NT : List Nat), NT.length = i ∧ (∀ c ∈ NT, c = 32 ∨ c = 10 ∨ c = 9) ∧ env = [some (.loc 0), some (.loc 4), some (.loc a'), some (.loc 6), b4, a5, some d, some (.str (joinL [10] ls)), some (.str NT)] ∧ st = S3)
      (env := [some (.loc 0), some (.loc 4), some (.loc a'), some (.loc 6), a4, a5, some d, some (.str (joinL [10] ls)), some (.str [])]) (st := S3)
      ⟨a4, [], rfl, by simp, rfl, rfl⟩ (by
        rintro i dd env st hd ⟨b4, NT, h2, h3, rfl, rfl⟩
        obtain ⟨hi, rfl⟩ := upto_get hd
        have mx := mixed_ok n1 (50 + (0 + (i : Nat))) S3 (by omega) (by omega)
        obtain ⟨y, hy, py⟩ := pickS [32, 10, 9] (mixed n1 (50 + (0 + (i : Nat))) % 3) (by omega) (by show _ < (3 : Int); omega) (by decide)
        have ad : ∀ Z, addV (.str NT) (.str [y]) Z = .ok (.str (NT ++ [y])) Z := fun Z => r_add_str Z _ _ (by simp; omega)
        refine ⟨by simp, _, _, rfl, [some (.loc 0), some (.loc 4), some (.loc a'), some (.loc 6), some (.int (0 + (i : Nat))), a5, some d, some (.str (joinL [10] ls)), some (.str (NT ++ [y]))], S3, .inl ?_, _, NT ++ [y], by simp [h2], fun c hc => ?_, rfl, rfl⟩
        · rw [← hB8]
          generalize S3 = Z3 at *
          generalize joinL [10] ls = T at *
          generalize NT ++ [y] = NY at *
          generalize (0 + ((i : Nat) : Int)) = I at *
          generalize mixed n1 (50 + I) = MX at *
          simp [q1', mx, r_mod_int, py, ad]
        · rcases List.mem_append.mp hc with hc | hc
          · exact h3 c hc
          · simp at hc; subst hc; simpa using hy) (fun env st _ => by simp)
    rw [upto_len] at h2
    refine ⟨b4, NT, by omega, h3, ?_⟩
    have l2 : lenV [.loc a'] S3 = .ok (.int (ls.length : Nat)) S3 := by rw [r_len_loc _ _ _ (ils _), List.length_map]
    have hr1 : -4611686018427387904 ≤ (q : Int) := by omega
    have hr2 : (q : Int) < 4611686018427387904 := by omega
    have rg : ∀ env, env[2]? = some (some (.loc a')) → range1I (consA (op2 addV (ct (.int 1)) (op2 modV (callE lenV (consA (vr 2) nilA)) (ct (.int 4)))) nilA) env S3 = .ok (upto 0 q, []) S3 := fun env he => by
      generalize S3 = Z at *
      generalize ((ls.length : Nat) : Int) = LL at *
      simp [he, l2, r_mod_int, hq, hr1, hr2]
    rw [r_forS, rg _ rfl, R.bind_ok]
    exact h1
  have nt := nothing_ok NT (fun z => by rw [z] at hNl; simp at hNl) hNl.2 hNc S3
  have LG := lines_of (ls := G) (by omega) (by omega) hGb
  obtain ⟨P, hP, _, rd⟩ := read_good G LG S3 hGg
  have iG : itemsAt S3 4 = some (G.map D.str) := rfl
  have e12 : retS (andV (callF F_l_refused [] (consA (vr 8) (consA (ct (.int 0)) nilA))) (op2 (eqV 200) (callE lenV (consA (callX F_p_counter_read [] (consA (methE "str" joinV (ct (.str [10])) (consA (vr 1) nilA)) nilA)) nilA)) (callE lenV (consA (vr 1) nilA)))) [some (.loc 0), some (.loc 4), some (.loc a'), some (.loc 6), b4, a5, some d, some (.str (joinL [10] ls)), some (.str NT)] S3 = .ok (.rt (.bl true)) (S3 ++ [.lst P]) := by
    have jn := r_join S3 [10] 4 G iG (jlen G (by omega) hGb)
    have l1 : lenV [.loc S3.length] (S3 ++ [.lst P]) = .ok (.int (G.length : Nat)) (S3 ++ [.lst P]) := by rw [r_len_loc _ _ P (by unfold itemsAt; simp), hP]
    have l2 : lenV [.loc 4] (S3 ++ [.lst P]) = .ok (.int (G.length : Nat)) (S3 ++ [.lst P]) := by rw [r_len_loc _ 4 (G.map D.str) rfl, List.length_map]
    generalize S3 ++ [MO.lst P] = Z4 at *
    generalize S3.length = z3 at *
    generalize S3 = Z3 at *
    generalize joinL [10] ls = T at *
    generalize joinL [10] G = TG at *
    generalize ((G.length : Nat) : Int) = GL at *
    simp [nt, truV, isTy, jn, r_callX', rd, l1, l2]
  have e9' : (ifS (andT (tB1 (op2 isNoneV (vr 6) (ct .non))) (tB1 (op2 (neV 200) (callE lenV (consA (callX F_p_counter_read [] (consA (vr 7) nilA)) nilA)) (callE lenV (consA (vr 2) nilA))))) (retS (ct (.bl false))) skipS) [some (.loc 0), some (.loc 4), some (.loc a'), some (.loc 6), a4, a5, some d, some (.str (joinL [10] ls)), none] S2 = .ok (.nx [some (.loc 0), some (.loc 4), some (.loc a'), some (.loc 6), a4, a5, some d, some (.str (joinL [10] ls)), none]) S3 := e9
  have e5' : forS (range1I (consA (op2 modV (callF F_l_cell_at [] (consA (vr 0) (consA (ct (.int 0)) nilA))) (ct (.int 4))) nilA)) (nameG 4) B [some (.loc 0), some (.loc 4), some (.loc 5), some (.loc 6), none, none, none, none, none] (SS N C G A1 A2 G [] []) = .ok (.nx [some (.loc 0), some (.loc 4), some (.loc 5), some (.loc 6), a4, a5, none, none, none]) S1 := e5
  have fin : ∃ st, gc [.frz N] (.ok (.bl true) (S3 ++ [.lst P])) = .ok (.bl true) st := ⟨[.frz N], gc_flat (st := [.frz N]) (g := .lst C :: .lst A1 :: .lst A2 :: .lst (G.map D.str) :: .lst (BL.map D.str) :: .lst (spI sp) :: ([] ++ g ++ h9 ++ [.lst P])) (by simp)⟩
  have e2' : setS 1 (op2 addV (vr 1) (lstE (consA (callF F_l_line [] (consA (callF F_l_cell_at [] (consA (vr 0) (consA (ct (.int 0)) nilA))) nilA)) (consA (callF F_l_line [] (consA (callF F_l_cell_at [] (consA (vr 0) (consA (ct (.int 1)) nilA))) nilA)) nilA)))) [some (.loc 0), some (.loc 2), none, none, none, none, none, none, none] [.frz N, .lst C, .lst (L1.map D.str)] = .ok (.nx [some (.loc 0), some (.loc 4), none, none, none, none, none, none, none]) [.frz N, .lst C, .lst A1, .lst A2, .lst (G.map D.str)] := e2
  have e1' : setS 1 (compE [none] (seqI (slE (vr 0) (inP (ct (.int 2))) (inP (ct (.int 14))))) (nameG 0) yesT (callF F_l_line [] (consA (vr 0) nilA))) [some (.loc 0), none, none, none, none, none, none, none, none] [.frz (ns.map D.int)] = .ok (.nx [some (.loc 0), some (.loc 2), none, none, none, none, none, none, none]) [.frz N, .lst C, .lst (L1.map D.str)] := e1
  simp only [r_seqS, e1', R.bind_ok, e2', e3, e4, e5', e6, e7, e8, e9', e10, e11, e12]
  exact fin
end Law
open PySem PySem.W PyProof.Rows
set_option maxRecDepth 100000 in
set_option maxHeartbeats 0 in
theorem PySem.Challenge.cw_oneofall_k15_lines_that_tell_no_row_holds : PySem.Challenge.rw_oneofall_k15_lines_that_tell_no_row.Holds := by
  w_on; o_law; k_head; (case hw => w_witness2)
  k_fill
  refine M.holds_of (F := Law.F_p_law) (k := 5) (x := "_law_script") rfl rfl ⟨rfl, by decide, by decide⟩ (fun w h Y => PySem.W.kIn_of Y) ?F Law.law_true
  case F =>
    intro w mg fa h KX G hmg
    refine' Law.all_mk KX G hmg ?x1 ?xP ?xT ?xa ?xl ?xc ?xk ?xr_tP ?xr_tT ?xr_b ?xr_1 ?xr_2 ?xr_3 ?xr_4 ?xeP ?xeT ?a0 ?l0 ?c0 ?k0 ?a1 ?l1 ?c1 ?k1 ?a2 ?l2 ?c2 ?k2 ?a3 ?l3 ?c3 ?k3 ?a4 ?l4 ?c4 ?k4 ?a5 ?l5 ?c5 ?k5 ?a6 ?l6 ?c6 ?k6 ?a7 ?l7 ?c7 ?k7 ?a8 ?l8 ?c8 ?k8 ?a9 ?l9 ?c9 ?k9 ?v_WORDS_IN_LINE ?vl_WORDS_IN_LINE ?low_WORDS_IN_LINE ?dq_WORDS_IN_LINE_0 ?dq_WORDS_IN_LINE_1 ?v_FIGURES ?v_MOST_FIGURES ?z_ValueError ?z_all ?z_bool ?z_enumerate ?z_int ?z_isinstance ?z_len ?z_list ?z_min ?z_range ?z_str ?z_tuple
    (case x1 => k_is)
    (case xP => k_is)
    (case xT => k_is)
    (case xa => k_is)
    (case xl => k_is)
    (case xc => k_is)
    (case xk => k_is)
    (case xr_tP => first | k_is | kernel_rfl)
    (case xr_tT => first | k_is | kernel_rfl)
    (case xr_b => first | k_is | kernel_rfl)
    (case xr_1 => first | k_is | kernel_rfl)
    (case xr_2 => first | k_is | kernel_rfl)
    (case xr_3 => first | k_is | kernel_rfl)
    (case xr_4 => first | k_is | kernel_rfl)
    (case xeP => k_is)
    (case xeT => k_is)
    (case a0 => k_is)
    (case l0 => k_is)
    (case c0 => k_is)
    (case k0 => k_is)
    (case a1 => k_is)
    (case l1 => k_is)
    (case c1 => k_is)
    (case k1 => k_is)
    (case a2 => k_is)
    (case l2 => k_is)
    (case c2 => k_is)
    (case k2 => k_is)
    (case a3 => k_is)
    (case l3 => k_is)
    (case c3 => k_is)
    (case k3 => k_is)
    (case a4 => k_is)
    (case l4 => k_is)
    (case c4 => k_is)
    (case k4 => k_is)
    (case a5 => k_is)
    (case l5 => k_is)
    (case c5 => k_is)
    (case k5 => k_is)
    (case a6 => k_is)
    (case l6 => k_is)
    (case c6 => k_is)
    (case k6 => k_is)
    (case a7 => k_is)
    (case l7 => k_is)
    (case c7 => k_is)
    (case k7 => k_is)
    (case a8 => k_is)
    (case l8 => k_is)
    (case c8 => k_is)
    (case k8 => k_is)
    (case a9 => k_is)
    (case l9 => k_is)
    (case c9 => k_is)
    (case k9 => k_is)
    (case v_WORDS_IN_LINE => k_is)
    (case vl_WORDS_IN_LINE => k_is)
    (case low_WORDS_IN_LINE => kernel_rfl)
    (case dq_WORDS_IN_LINE_0 => rfl)
    (case dq_WORDS_IN_LINE_1 => rfl)
    (case v_FIGURES => k_is)
    (case v_MOST_FIGURES => k_is)
    (case z_ValueError => k_is)
    (case z_all => k_is)
    (case z_bool => k_is)
    (case z_enumerate => k_is)
    (case z_int => k_is)
    (case z_isinstance => k_is)
    (case z_len => k_is)
    (case z_list => k_is)
    (case z_min => k_is)
    (case z_range => k_is)
    (case z_str => k_is)
    (case z_tuple => k_is)
