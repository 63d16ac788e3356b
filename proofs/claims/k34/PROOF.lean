import PyProof.Rows.All
import Wide.All
import OpenK.AllK
import Wide.FinOn
import Lean
import PyProof.EqAt
import PyProof.EqKinds
import PyProof.TupleCall
import PyProof.DictWalks
import KE.KEqDict
import KE.KIntText
import PyProof.CallStr
import PyProof.DictTruth
import KE.KTupSum
import KE.KListMore
import PyProof.Rows.MinMaxN
import PySem.SetOps
import PyProof.SetKind
import PyProof.TupleKey
import PyProof.Rows.SetFrom
import PySem.Challenge.RW_oneofall_k34_rules_that_are_made
set_option Elab.async false
set_option linter.all false
set_option maxRecDepth 100000
-- CHANGE: your row's module here, as the last of these rows
/-! THE HAND LAYER, for ints, bools, texts, own classes, LISTS and tuples (index, slices, in, append, pop ..), calls, loops. Paste it whole ahead of your own text; what your proof does not reach may be deleted. -/
namespace L2
open PySem PySem.Spec PyProof.Rows
/-- a key: an int or a str -/
abbrev Key := Sum Int Str
def keyIs : Key → Value → Bool
  | .inl k, v => Value.isInt k v
  | .inr x, v => Value.isStrOf x v
def keyH (w : World) : Key → Int
  | .inl k => hashInt k
  | .inr x => hashStr w x
theorem keyIs_shape : ∀ {k : Key} {v : Value}, keyIs k v = true → (∃ i t, k = Sum.inl i ∧ v = Value.int i t) ∨ (∃ x t, k = Sum.inr x ∧ v = Value.str x t)
  | .inl i, v, h => by
    obtain ⟨t, e⟩ := Value.isInt_shape (k := i) (v := v) h
    exact .inl ⟨i, t, rfl, e⟩
  | .inr x, v, h => by
    obtain ⟨t, e⟩ := Value.isStrOf_shape (x := x) (v := v) h
    exact .inr ⟨x, t, rfl, e⟩
theorem keyIs_int (i : Int) (t : Tok) : keyIs (.inl i) (.int i t) = true := by simp [keyIs, Value.isInt]
theorem keyIs_str (x : Str) (t : Tok) : keyIs (.inr x) (.str x t) = true := by simp [keyIs, Value.isStrOf]
theorem key_ll (a b : Int) : decide ((Sum.inl a : Key) = Sum.inl b) = (a == b) := by
  by_cases e : a = b
  · subst e; simp
  · have h : ¬ (Sum.inl a : Key) = Sum.inl b := fun q => e (Sum.inl.inj q)
    rw [decide_eq_false h]
    exact (beq_eq_false_iff_ne.mpr e).symm
theorem key_rr (a b : Str) : decide ((Sum.inr a : Key) = Sum.inr b) = decide (a = b) := by
  by_cases e : a = b
  · subst e; simp
  · have h : ¬ (Sum.inr a : Key) = Sum.inr b := fun q => e (Sum.inr.inj q)
    rw [decide_eq_false h, decide_eq_false e]
theorem key_lr (a : Int) (b : Str) : decide ((Sum.inl a : Key) = Sum.inr b) = false := decide_eq_false (fun q => nomatch q)
theorem key_rl (a : Str) (b : Int) : decide ((Sum.inr a : Key) = Sum.inl b) = false := decide_eq_false (fun q => nomatch q)
def mixKind (prog : Program) (w : World) : PySem.KeyKind prog w Key where
  is := keyIs
  hash := keyH w
  inj := fun v a b ha hb => by
    rcases keyIs_shape ha with ⟨i, t, rfl, rfl⟩ | ⟨x, t, rfl, rfl⟩
    · rcases keyIs_shape hb with ⟨j, u, rfl, e⟩ | ⟨y, u, rfl, e⟩
      · injection e with e1 _; rw [e1]
      · exact nomatch e
    · rcases keyIs_shape hb with ⟨j, u, rfl, e⟩ | ⟨y, u, rfl, e⟩
      · exact nomatch e
      · injection e with e1 _; rw [e1]
  byValue := fun k v h => by
    rcases keyIs_shape h with ⟨i, t, rfl, rfl⟩ | ⟨x, t, rfl, rfl⟩ <;> rfl
  pyHash := fun hv h => by
    rcases keyIs_shape hv with ⟨i, t, rfl, rfl⟩ | ⟨x, t, rfl, rfl⟩
    · exact wpAny_pyHash_int h
    · exact wpAny_pyHash_str h
  eqBool := fun hu hv h => by
    rcases keyIs_shape hu with ⟨i, t, rfl, rfl⟩ | ⟨x, t, rfl, rfl⟩
    · rcases keyIs_shape hv with ⟨j, u, rfl, rfl⟩ | ⟨y, u, rfl, rfl⟩
      · rw [key_ll] at h; exact wpAny_eqBool_int h
      · rw [key_lr] at h; exact SeqAt.EqAt.int_str i t y u _ _ _ _ h
    · rcases keyIs_shape hv with ⟨j, u, rfl, rfl⟩ | ⟨y, u, rfl, rfl⟩
      · rw [key_rl] at h; exact SeqAt.EqAt.str_int x t j u _ _ _ _ h
      · rw [key_rr] at h; exact wpAny_eqBool_str h
  «strs» := fun k x t v h => by
    rcases keyIs_shape h with ⟨i, u, rfl, e⟩ | ⟨y, u, rfl, e⟩
    · exact nomatch e
    · injection e with e1 _
      subst e1
      cases v <;> rfl
theorem mixKind_is (prog : Program) (w : World) (k : Key) (v : Value) : (mixKind prog w).is k v = keyIs k v := rfl
theorem mixKind_int (prog : Program) (w : World) (i : Int) (t : Tok) : (mixKind prog w).is (.inl i) (.int i t) = true := keyIs_int i t
theorem mixKind_str (prog : Program) (w : World) (x : Str) (t : Tok) : (mixKind prog w).is (.inr x) (.str x t) = true := keyIs_str x t
end L2
namespace L2
open PySem PySem.Spec PyProof.Rows
/-- a value, without the heap -/
inductive V where
  | non | bl (b : Bool) | int (i : Int) | str (x : Str) | byt (b : Array UInt8) | flt (b : UInt64) | ref (a : Addr) | ty (n : String)
  deriving DecidableEq
def RelV : V → Value → Prop
  | .non, u => u = Value.none
  | .bl b, u => u = Value.bool b
  | .int i, u => ∃ t, u = Value.int i t
  | .str x, u => ∃ t, u = Value.str x t
  | .byt b, u => ∃ t, u = Value.bytes b t
  | .flt b, u => ∃ t, u = Value.float b t
  | .ref a, u => u = Value.ref a
  | .ty n, u => u = Value.type n
abbrev Vals : List V → List Value → Prop := Paired RelV
theorem Vals.length {xs : List V} {us : List Value} (r : Vals xs us) : xs.length = us.length := Paired.length r
theorem Vals.get : ∀ {xs : List V} {us : List Value} {i : Nat} {x : V}, Vals xs us → xs[i]? = some x → ∃ u, us[i]? = some u ∧ RelV x u
  | _, _, _, _, .nil, e => by simp at e
  | _, _, 0, _, .cons r _, e => by simp at e; subst e; exact ⟨_, rfl, r⟩
  | _, _, i + 1, x, .cons _ t, e => by
    obtain ⟨u, h1, h2⟩ := Vals.get (i := i) (x := x) t (by simpa using e)
    exact ⟨u, by simpa using h1, h2⟩
theorem Vals.set {x : V} {u : Value} (r : RelV x u) : ∀ {xs : List V} {us : List Value} (i : Nat), Vals xs us → Vals (xs.set i x) (us.set i u)
  | _, _, _, .nil => .nil
  | _, _, 0, .cons _ t => .cons r t
  | _, _, i + 1, .cons q t => .cons q (Vals.set r i t)
theorem Vals.append : ∀ {xs ys : List V} {us ws : List Value}, Vals xs us → Vals ys ws → Vals (xs ++ ys) (us ++ ws)
  | _, _, _, _, .nil, s => s
  | _, _, _, _, .cons r t, s => .cons r (Vals.append t s)
theorem Vals.take : ∀ {xs : List V} {us : List Value} (n : Nat), Vals xs us → Vals (xs.take n) (us.take n)
  | _, _, 0, _ => .nil
  | _, _, _ + 1, .nil => .nil
  | _, _, n + 1, .cons r t => .cons r (Vals.take n t)
theorem Vals.drop : ∀ {xs : List V} {us : List Value} (n : Nat), Vals xs us → Vals (xs.drop n) (us.drop n)
  | _, _, 0, r => r
  | _, _, _ + 1, .nil => .nil
  | _, _, n + 1, .cons _ t => Vals.drop n t
def RelO : Option V → Option Value → Prop
  | some v, some u => RelV v u
  | none, none => True
  | _, _ => False
def KV {κ : Type} : List (κ × V) → List (κ × Value) → Prop := Paired fun (p : κ × V) (q : κ × Value) => p.1 = q.1 ∧ RelV p.2 q.2
/-- a key of a dict (00_mix): an int or a text -/
def kV : Key → V
  | .inl i => .int i
  | .inr x => .str x
/-- what stands at a tracked address -/
inductive HO where
  /-- a list -/
  | lst (xs : List V)
  /-- a tuple (never changes) -/
  | tup (xs : List V)
  /-- a dict whose keys are ints and texts; one whose keys are tuples of ints and texts (the empty one is both) -/
  | dK (kvs : List (Key × V)) | dT (kvs : List (List Key × V))
  /-- a set of ints: its members, its size -/
  | set (S : Int → Bool) (n : Nat)
  /-- an instance of the class at C, its dict at dx, its attributes -/
  | ins (C dx : Addr) (fs : List (Str × V))
  /-- the dict of the instance at x -/
  | own (x : Addr)
  /-- the dict of an exception -/
  | xd (fs : List (Str × V))
  /-- a bound method, f of x -/
  | met (f x : Addr)
  /-- a range object lo, lo + 1, .. below hi -/
  | rng (lo hi : Int)
  /-- a thing that is known to the object (the script; a dict while a loop walks it): read, never written while it is so -/
  | frz (o : Obj) (u : HO)
  /-- a code object's table -/
  | tbl (ps : Array Value)
  /-- any other thing, by what is true of its one object (a def of one's own: SetO a S n := HO.ext fun h => ..) -/
  | ext (φ : Heap → Prop)
abbrev Hp := Addr → Option HO
def upd (H : Hp) (a : Addr) (o : HO) : Hp := fun b => if b = a then some o else H b
theorem upd_same {H : Hp} {a : Addr} {o : HO} : upd H a o a = some o := by unfold upd; rw [if_pos rfl]
theorem upd_ne {H : Hp} {a b : Addr} {o : HO} (h : b ≠ a) : upd H a o b = H b := by unfold upd; rw [if_neg h]
/-- two objects of different content stand apart -/
theorem ne_of {H : Hp} {a b : Addr} {o u : HO} (h : H a = some o) (h' : H b = some u) (d : o ≠ u) : a ≠ b := by
  intro e; subst e; rw [h] at h'; exact d (Option.some.inj h')
theorem ne_of_none {H : Hp} {a b : Addr} {o : HO} (h : H a = some o) (h' : H b = none) : a ≠ b := by
  intro e; subst e; rw [h] at h'; cases h'
section
variable (P : Program) (w : World)
def ObjOk (H : Hp) (h : Heap) (a : Addr) : HO → Prop
  | .lst xs => xs.length ≤ sizeLine ∧ ∃ (its : List Value) (n : Nat), Vals xs its ∧ h.get? a = some { cls := .type "list", data := .seq its.toArray n }
  | .tup xs => xs.length ≤ sizeLine ∧ ∃ its : List Value, Vals xs its ∧ IsTup h a its.toArray
  | .dK kvs => kvs.length ≤ sizeLine ∧ (a == sysModules) = false ∧ ∃ vs, KV kvs vs ∧ h.DictOf (mixKind P w) a vs
  | .dT kvs => kvs.length ≤ sizeLine ∧ (a == sysModules) = false ∧ ∃ xs : List (List Key × Addr × Value),
      Paired (fun (p : List Key × V) (q : List Key × Addr × Value) => p.1 = q.1 ∧ H q.2.1 = some (.tup (p.1.map kV)) ∧ RelV p.2 q.2.2) kvs xs ∧
      ∃ o es ep, h.get? a = some o ∧ o.ExactDict ∧ o.data = .dict es ep ∧ es.toList = xs.map (entryOfKey (tupleKind (mixKind P w))) ∧ (xs.map (·.1)).Nodup
  | .set S n => h.SetOf (intKind P w) a S n
  | .ins C dx fs => H dx = some (.own a) ∧ fs.length ≤ 1000 ∧ dx ≠ a ∧ h.get? a = some (PySem.W.instObj C dx) ∧
      ∃ mA, h.Ns1 dx mA ∧ (∀ f, RelO (fs.lookup f) (mA f)) ∧ PySem.Within mA (fs.map (·.1))
  | .own _ => ∃ o, h.get? a = some o
  | .xd fs => ∃ mA, h.Ns1 a mA ∧ ∀ f, RelO (fs.lookup f) (mA f)
  | .rng lo hi => ∃ t u v, h.get? a = some { cls := .type "range", data := .fields #[.int lo t, .int hi u, .int 1 v] }
  | .frz o u => h.get? a = some o ∧ ObjOk H h a u
  | .tbl ps => h.get? a = some { cls := .none, data := .fields ps }
  | .met f x => h.get? a = some (PySem.W.methodObj (.ref f) (.ref x))
  | .ext φ => φ h ∧ (∃ o, h.get? a = some o) ∧ ∀ h1 h2 : Heap, φ h1 → (∀ o, h1.get? a = some o → h2.get? a = some o) → φ h2
/-- the abstract heap is held -/
def HOk (H : Hp) (h : Heap) : Prop := ∀ a o, H a = some o → ObjOk P w H h a o
end
section
variable {P : Program} {w : World} {H H' : Hp} {h h' : Heap} {a : Addr} {o : HO}
theorem ObjOk.lt (x : ObjOk P w H h a o) : a < h.objs.size := by
  cases o with
  | lst xs => obtain ⟨_, _, _, _, e⟩ := x; exact Heap.lt_size e
  | tup xs => obtain ⟨_, _, _, p⟩ := x; exact p.lt
  | dK kvs => obtain ⟨_, _, _, _, o, _, _, e, _⟩ := x; exact Heap.lt_size e
  | dT kvs => obtain ⟨_, _, _, _, o, _, _, e, _⟩ := x; exact Heap.lt_size e
  | set S n => obtain ⟨o, _, _, _, e, _⟩ := x; exact Heap.lt_size e
  | ins C dx fs => obtain ⟨_, _, _, e, _⟩ := x; exact Heap.lt_size e
  | own y => obtain ⟨_, e⟩ := x; exact Heap.lt_size e
  | xd fs => obtain ⟨_, ⟨_, _, _, e, _⟩, _⟩ := x; exact Heap.lt_size e
  | rng lo hi => obtain ⟨_, _, _, e⟩ := x; exact Heap.lt_size e
  | frz ob u => obtain ⟨e, _⟩ := x; exact Heap.lt_size e
  | tbl ps => exact Heap.lt_size (show h.get? a = some _ from x)
  | met f y => exact Heap.lt_size (show h.get? a = some _ from x)
  | ext φ => obtain ⟨_, ⟨_, e⟩, _⟩ := x; exact Heap.lt_size e
theorem Paired.mapP {α β : Type} {F G : α → β → Prop} : ∀ {l₁ : List α} {l₂ : List β}, Paired F l₁ l₂ → (∀ a b, F a b → G a b) → Paired G l₁ l₂
  | _, _, .nil, _ => .nil
  | _, _, .cons r t, f => .cons (f _ _ r) (Paired.mapP t f)
/-- what an object's description leans on: its own object, its own dict, the tuples -/
theorem ObjOk.stay (x : ObjOk P w H h a o) (k : ∀ b u, (b = a ∨ H b = some (.own a)) → h.get? b = some u → h'.get? b = some u)
    (ho : ∀ b, H b = some (.own a) → H' b = some (.own a)) (ht : ∀ b xs, H b = some (.tup xs) → H' b = some (.tup xs)) : ObjOk P w H' h' a o := by
  induction o with
  | lst xs => obtain ⟨z, its, n, r, e⟩ := x; exact ⟨z, its, n, r, k _ _ (.inl rfl) e⟩
  | tup xs => obtain ⟨z, its, r, ob, e, c⟩ := x; exact ⟨z, its, r, ob, k _ _ (.inl rfl) e, c⟩
  | dK kvs => obtain ⟨z, y, vs, r, ob, es, ep, e, c⟩ := x; exact ⟨z, y, vs, r, ob, es, ep, k _ _ (.inl rfl) e, c⟩
  | dT kvs =>
    obtain ⟨z, y, xs, r, ob, es, ep, e, c⟩ := x
    exact ⟨z, y, xs, Paired.mapP r fun p q z => ⟨z.1, ht _ _ z.2.1, z.2.2⟩, ob, es, ep, k _ _ (.inl rfl) e, c⟩
  | set S n => obtain ⟨ob, es, ep, t, e, c⟩ := x; exact ⟨ob, es, ep, t, k _ _ (.inl rfl) e, c⟩
  | ins C dx fs =>
    obtain ⟨d, z, ne, e, mA, ⟨od, es, ep, e2, c⟩, r⟩ := x
    exact ⟨ho _ d, z, ne, k _ _ (.inl rfl) e, mA, ⟨od, es, ep, k _ _ (.inr d) e2, c⟩, r⟩
  | own y => obtain ⟨ob, e⟩ := x; exact ⟨ob, k _ _ (.inl rfl) e⟩
  | xd fs => obtain ⟨mA, ⟨od, es, ep, e, c⟩, r⟩ := x; exact ⟨mA, ⟨od, es, ep, k _ _ (.inl rfl) e, c⟩, r⟩
  | rng lo hi => obtain ⟨t, u, v, e⟩ := x; exact ⟨t, u, v, k _ _ (.inl rfl) e⟩
  | frz ob u ih => obtain ⟨e, q⟩ := x; exact ⟨k _ _ (.inl rfl) e, ih q⟩
  | tbl ps =>
    have e : h.get? a = some { cls := .none, data := .fields ps } := x
    show h'.get? a = some { cls := .none, data := .fields ps }
    exact k a _ (.inl rfl) e
  | met f y =>
    have e : h.get? a = some (PySem.W.methodObj (.ref f) (.ref y)) := x
    show h'.get? a = some (PySem.W.methodObj (.ref f) (.ref y))
    exact k a _ (.inl rfl) e
  | ext φ => obtain ⟨p, ⟨o, e⟩, st⟩ := x; exact ⟨st _ _ p fun o q => k _ _ (.inl rfl) q, ⟨o, k _ _ (.inl rfl) e⟩, st⟩
theorem HOk.lt (x : HOk P w H h) (e : H a = some o) : a < h.objs.size := (x a o e).lt
theorem HOk.fresh (x : HOk P w H h) (e : h.objs.size ≤ a) : H a = none := by
  cases q : H a with
  | none => rfl
  | some u => exact absurd (Nat.lt_of_lt_of_le (x.lt q) e) (Nat.lt_irrefl _)
/-- every object of the heap is kept -/
theorem HOk.kept (x : HOk P w H h) (k : ∀ b u, h.get? b = some u → h'.get? b = some u) : HOk P w H h' := fun a o e =>
  (x a o e).stay (fun b u _ q => k b u q) (fun _ q => q) fun _ _ q => q
/-- a new object is laid and tracked -/
theorem HOk.laid (x : HOk P w H h) (k : ∀ b u, h.get? b = some u → h'.get? b = some u) (hp : h.objs.size ≤ a) (new : ObjOk P w (upd H a o) h' a o) : HOk P w (upd H a o) h' := fun b u e => by
  have hn := x.fresh hp
  by_cases hb : b = a
  · subst hb; rw [upd_same] at e; cases e; exact new
  · rw [upd_ne hb] at e
    exact (x b u e).stay (fun c v _ q => k c v q) (fun c q => by rw [upd_ne (ne_of_none q hn)]; exact q) fun c xs q => by rw [upd_ne (ne_of_none q hn)]; exact q
end
/-- what may be read as u: it is u, or a known u -/
def Rd (H : Hp) (a : Addr) (u : HO) : Prop := H a = some u ∨ ∃ o, H a = some (.frz o u)
theorem Rd.ok {P : Program} {w : World} {H : Hp} {h : Heap} {a : Addr} {u : HO} (r : Rd H a u) (x : HOk P w H h) : ObjOk P w H h a u := by
  rcases r with r | ⟨o, r⟩
  · exact x a u r
  · obtain ⟨_, q⟩ := x a _ r
    exact q
/-- what may be written -/
def Mut : Option HO → Prop
  | some (.lst _) => True
  | some (.dK _) => True
  | some (.dT _) => True
  | some (.set _ _) => True
  | some (.ins _ _ _) => True
  | some (.ext _) => True
  | _ => False
section
variable {P : Program} {w : World} {H : Hp} {h h' : Heap} {x e : Addr} {o' : HO}
/-- the object at e is changed: x itself, or the dict of the instance x -/
theorem HOk.write (ok : HOk P w H h) (mu : Mut (H x)) (he : e = x ∨ H e = some (.own x)) (k : ∀ b u, b ≠ e → h.get? b = some u → h'.get? b = some u) (heo : ∃ u, h'.get? e = some u)
    (new : ObjOk P w (upd H x o') h' x o') : HOk P w (upd H x o') h' := fun b u q => by
  have nown : ∀ c y, H c = some (.own y) → c ≠ x := fun c y r z => by subst z; rw [r] at mu; exact mu
  have ntup : ∀ c xs, H c = some (.tup xs) → c ≠ x := fun c xs r z => by subst z; rw [r] at mu; exact mu
  by_cases hb : b = x
  · subst hb; rw [upd_same] at q; cases q; exact new
  · rw [upd_ne hb] at q
    by_cases hbe : b = e
    · have q' : H b = some (.own x) := by
        rcases he with z | z
        · exact absurd (hbe.trans z) hb
        · rw [hbe]; exact z
      rw [q] at q'; cases q'
      obtain ⟨v, hv⟩ := heo
      exact ⟨v, by rw [hbe]; exact hv⟩
    · refine (ok b u q).stay (fun c v hc r => k c v ?_ r) (fun c r => by rw [upd_ne (nown c b r)]; exact r) fun c xs r => by rw [upd_ne (ntup c xs r)]; exact r
      rcases hc with rfl | hc
      · exact hbe
      · rintro rfl
        rcases he with z | z
        · exact nown c b hc z
        · rw [hc] at z; cases z; exact hb rfl
end
/-! ### kept unless tracked; of the frames at fs (the callers') the slots may change (an exception that passes writes there); of the records at ex (iterators) nothing is said -/
structure Un (fs ex : List Addr) (H H' : Hp) (h h' : Heap) : Prop where
  keep : ∀ b o, h.get? b = some o → H b = none → b ∉ fs → b ∉ ex → h'.get? b = some o
  slot : ∀ b o, h.get? b = some o → H b = none → b ∈ fs → b ∉ ex → ∃ sl, h'.get? b = some { o with slots := sl }
  free : ∀ b o, h.get? b = some o → H b = none → b ∉ ex → H' b = none
  there : ∀ b o, h.get? b = some o → b ∉ ex → ∃ o', h'.get? b = some o'
  tups : ∀ b xs, H b = some (.tup xs) → H' b = some (.tup xs)
  frzs : ∀ b o u, H b = some (.frz o u) → H' b = some (.frz o u)
  tbls : ∀ b ps, H b = some (.tbl ps) → ∃ more, H' b = some (.tbl (ps ++ more))
section
variable {fs fs' ex ex' : List Addr} {H H1 H2 : Hp} {h h1 h2 h' : Heap} {a x e : Addr} {o : HO}
theorem Un.any (u : Un fs ex H H1 h h1) {b : Addr} {ob : Obj} (q : h.get? b = some ob) (n : H b = none) (hx : b ∉ ex) : ∃ sl, h1.get? b = some { ob with slots := sl } := by
  by_cases hb : b ∈ fs
  · exact u.slot b ob q n hb hx
  · exact ⟨ob.slots, u.keep b ob q n hb hx⟩
theorem Un.kept (k : ∀ b u, h.get? b = some u → h'.get? b = some u) : Un fs ex H H h h' :=
  ⟨fun b ob q _ _ _ => k b ob q, fun b ob q _ _ _ => ⟨ob.slots, k b ob q⟩, fun _ _ _ n _ => n, fun b ob q _ => ⟨ob, k b ob q⟩, fun _ _ q => q, fun _ _ _ q => q, fun _ ps q => ⟨#[], by rw [q]; simp⟩⟩
theorem Un.refl : Un fs ex H H h h := Un.kept fun _ _ q => q
theorem Un.laid (k : ∀ b u, h.get? b = some u → h'.get? b = some u) (hp : h.objs.size ≤ a) (hn : H a = none) : Un fs ex H (upd H a o) h h' where
  keep := fun b u q _ _ _ => k b u q
  slot := fun b u q _ _ _ => ⟨u.slots, k b u q⟩
  free := fun b u q n _ => by rw [upd_ne (Nat.ne_of_lt (Nat.lt_of_lt_of_le (Heap.lt_size q) hp))]; exact n
  there := fun b u q _ => ⟨u, k b u q⟩
  tups := fun b xs q => by rw [upd_ne (ne_of_none q hn)]; exact q
  frzs := fun b u xs q => by rw [upd_ne (ne_of_none q hn)]; exact q
  tbls := fun b ps q => ⟨#[], by rw [upd_ne (ne_of_none q hn), q]; simp⟩
theorem Un.write (mu : Mut (H x)) (he : e = x ∨ H e = some (.own x)) (k : ∀ b u, b ≠ e → h.get? b = some u → h'.get? b = some u) (heo : ∃ u, h'.get? e = some u) : Un fs ex H (upd H x o) h h' := by
  have hx : ∀ b, H b = none → b ≠ x := fun b n z => by subst z; rw [n] at mu; exact mu
  have hb : ∀ b, H b = none → b ≠ e := fun b n z => by
    subst z
    rcases he with r | r
    · exact hx b n r
    · rw [n] at r; cases r
  have hm : ∀ b u, H b = some u → ¬ Mut (some u) → b ≠ x := fun b u q nm z => by subst z; rw [q] at mu; exact nm mu
  refine ⟨fun b u q n _ _ => k b u (hb b n) q, fun b u q n _ _ => ⟨u.slots, k b u (hb b n) q⟩, fun b u q n _ => by rw [upd_ne (hx b n)]; exact n, fun b u q _ => ?_,
    fun b xs q => by rw [upd_ne (hm b _ q fun z => z)]; exact q, fun b u xs q => by rw [upd_ne (hm b _ q fun z => z)]; exact q, fun b ps q => ⟨#[], by rw [upd_ne (hm b _ q fun z => z), q]; simp⟩⟩
  by_cases hbe : b = e
  · subst hbe; exact heo
  · exact ⟨u, k b u hbe q⟩
end
/-! ### the heap without what is tracked -/
def trk (h : Heap) (H : Hp) : List Addr := (List.range h.objs.size).filter fun a => (H a).isSome
def hidT (h : Heap) (H : Hp) : Heap := PySem.W.hideAll h (trk h H)
theorem hidT_size (h : Heap) (H : Hp) : (hidT h H).objs.size = h.objs.size := PySem.W.hideAll_size _ _
theorem hidT_get {h : Heap} {H : Hp} {b : Addr} {o : Obj} (e : h.get? b = some o) (n : H b = none) : (hidT h H).get? b = some o :=
  PySem.W.hideAll_get _ e fun hm => by
    have q : (H b).isSome = true := (List.mem_filter.mp hm).2
    rw [n] at q; simp at q
theorem of_hidT {h : Heap} {H : Hp} {b : Addr} {o : Obj} (e : (hidT h H).get? b = some o) : h.get? b = some o ∧ H b = none := by
  have e' : h.get? b = some o := PySem.W.of_hideAll (trk h H) e
  refine ⟨e', ?_⟩
  cases q : H b with
  | none => rfl
  | some x =>
    have hm : b ∈ trk h H := List.mem_filter.mpr ⟨List.mem_range.mpr (Heap.lt_size e'), by simp [q]⟩
    have z : (hidT h H).get? b = none := PySem.W.hideAll_none (trk h H) hm
    rw [z] at e; cases e
/-! ### OpenK's ledger, filled with every new object but one -/
def allNews (g h : Heap) (L : Addr) : List (Addr × Obj) := (List.range h.objs.size).filterMap fun a => if a = L ∨ (g.get? a).isSome = true then none else (h.get? a).map fun o => (a, o)
def rest (g h : Heap) (L d : Addr) : List (Addr × Obj) := (allNews g h L).filter fun p => decide (p.1 ≠ d)
end L2
namespace L2
open PySem PySem.Spec PyProof.Rows
/-- the module's facts, over the base: the heap at the law's entry without what is tracked there -/
structure Mod (K : PySem.W.Frag) (mg : Str → Option Value) (base : Heap) : Prop where
  kin : K.In base
  glob : base.Ns mainGlobals mg
  blt : ∃ mb, base.Ns builtinsNs mb ∧ ∀ x : Str, x ≠ "__name__" → mb x = bootBuiltins x
  nolimit : base.NoLimit
/-- the context: a def's body (or a comprehension's block) running. base: fixed through the whole law; s₀, H₀: the entry; outer: the frames whose slots others may change (a def's callers); stack: all frames that run;
   ex: iterators that were made ahead of the entry and are walked here (a comprehension's); fn: the names whose cells were made at the entry (a def: all; a comprehension's block: its own); calm: not within an except suite; pn: pins that every state bears; xe: what is wanted of an exception that leaves the code -/
structure Cx where
  prog : Program
  w : World
  K : PySem.W.Frag
  mg : Str → Option Value
  base : Heap
  A : Around
  N : List Str
  s₀ : Shared
  H₀ : Hp
  env : Env
  outer : List Env
  stack : List Env
  ex : List Addr
  fn : Str → Bool
  calm : Bool
  pn : List (Addr × Obj)
  xe : Value → Shared → Prop
/-- the callers' frames -/
def frs (l : List Env) : List Addr := l.filterMap (·.frame)
abbrev Cx.fs (X : Cx) : List Addr := frs X.outer
def Vis (sc : Scope) (x : Str) : Prop := sc.names.lookup x = some .local ∨ sc.names.lookup x = some .cell ∨ sc.names.lookup x = some .free
def Loc (sc : Scope) (x : Str) : Prop := sc.names.lookup x = some .local ∨ sc.names.lookup x = some .cell
def Look (env : Env) (h : Heap) (m : Str → Option Value) (x : Str) (u : Value) : Prop :=
  (env.kindOf x = some .local ∧ m x = some u) ∨ ((env.kindOf x = some .cell ∨ env.kindOf x = some .free) ∧ ∃ c, env.cells.lookup x = some c ∧ h.IsCell c (some u))
structure Cx.Ok (X : Cx) : Prop where
  mod : Mod X.K X.mg X.base
  kind : X.env.scope.kind = .function
  glob : X.env.globals = mainGlobals
  blt : X.env.builtins = builtinsNs
  above : X.s₀.heap.objs.size ≤ X.env.locals
  inj : ∀ x y c, X.env.cells.lookup x = some c → X.env.cells.lookup y = some c → x = y
  has : ∀ x, (X.env.kindOf x = some .cell ∨ X.env.kindOf x = some .free) → ∃ c, X.env.cells.lookup x = some c
  cab : ∀ x c, X.fn x = true → X.env.cells.lookup x = some c → X.s₀.heap.objs.size ≤ c
  hd : X.calm = true → X.A.handled = none
  frames : X.A.frames = some X.stack
  stk : X.stack = X.outer ∨ (X.stack = X.env :: X.outer ∧ X.env.frame = some X.env.locals)
  exf : ∀ b ∈ X.ex, b ≠ X.env.locals ∧ ∀ x c, X.env.cells.lookup x = some c → c ≠ b
  bs : ∀ b o, X.base.get? b = some o → X.s₀.heap.get? b = some o ∧ X.H₀ b = none
  bsz : X.base.objs.size ≤ X.s₀.heap.objs.size
  noex : ∀ b o, X.base.get? b = some o → b ∉ X.ex
  exfs : ∀ b ∈ X.ex, b ∉ X.fs
  funs : X.s₀.heap.FunFrames X.base X.outer
  frf : ∀ b ∈ X.fs, X.H₀ b = none
structure Inv (X : Cx) (pins : List (Addr × Obj)) (σ : List (Option V)) (H : Hp) (s : Shared) : Prop where
  ok : X.Ok
  os : s.os = X.s₀.os
  bare : AllBare s.gens
  base : Un X.fs X.ex X.H₀ H X.s₀.heap s.heap
  loc : ∃ m, s.heap.Ns X.env.locals m ∧ ∀ (i : Nat) (x : Str) (v : V), X.N[i]? = some x → σ[i]? = some (some v) → Vis X.env.scope x → ∃ u, RelV v u ∧ Look X.env s.heap m x u
  cell : ∀ x c, X.env.cells.lookup x = some c → ∃ v, s.heap.IsCell c v
  free : H X.env.locals = none
  freeC : ∀ x c, X.env.cells.lookup x = some c → H c = none
  pin : ∀ p ∈ X.pn ++ pins, s.heap.get? p.1 = some p.2 ∧ H p.1 = none ∧ p.1 ≠ X.env.locals ∧ p.1 ∉ X.fs ∧ ∀ v, p.2.data ≠ .cell v
  hok : HOk X.prog X.w H s.heap
  len : σ.length = X.N.length
section
variable {X : Cx} {pins : List (Addr × Obj)} {σ : List (Option V)} {H H' : Hp} {s : Shared} {h' : Heap}
theorem Cx.Ok.nofr (ok : X.Ok) {b : Addr} {o : Obj} (e : X.base.get? b = some o) : b ∉ X.fs := fun hb => by
  have := (ok.funs.mem hb).1
  rw [e] at this; cases this
theorem Inv.bs (I : Inv X pins σ H s) : ∀ b o, X.base.get? b = some o → s.heap.get? b = some o ∧ H b = none := fun b o e =>
  ⟨I.base.keep b o (I.ok.bs b o e).1 (I.ok.bs b o e).2 (I.ok.nofr e) (I.ok.noex b o e), I.base.free b o (I.ok.bs b o e).1 (I.ok.bs b o e).2 (I.ok.noex b o e)⟩
theorem Inv.bk (I : Inv X pins σ H s) : ∀ b o, X.base.get? b = some o → s.heap.get? b = some o := fun b o e => (I.bs b o e).1
theorem Inv.mod (I : Inv X pins σ H s) : Mod X.K X.mg X.base := I.ok.mod
theorem Inv.kIn (I : Inv X pins σ H s) : X.K.In s.heap := I.ok.mod.kin.keeps I.bk
theorem Inv.lt (I : Inv X pins σ H s) : X.env.locals < s.heap.objs.size := let ⟨_, hn, _⟩ := I.loc; hn.lt
theorem Inv.sz (I : Inv X pins σ H s) : X.s₀.heap.objs.size ≤ s.heap.objs.size := Nat.le_trans I.ok.above (Nat.le_of_lt I.lt)
theorem Inv.nofs (I : Inv X pins σ H s) {a : Addr} (h : s.heap.objs.size ≤ a) : a ∉ X.fs := fun hb => by
  obtain ⟨_, o, ho, _⟩ := I.ok.funs.mem hb
  exact absurd (Nat.lt_of_lt_of_le (Heap.lt_size ho) (Nat.le_trans I.sz h)) (Nat.lt_irrefl _)
theorem Inv.cne (I : Inv X pins σ H s) : ∀ x c, X.env.cells.lookup x = some c → c ≠ X.env.locals := fun x c e z => by
  obtain ⟨v, o, ho, hd⟩ := I.cell x c e
  obtain ⟨m, ⟨o', es, ep, ho', hd', _⟩, _⟩ := I.loc
  rw [z, ho'] at ho; cases ho; rw [hd'] at hd; cases hd
theorem Inv.funs (I : Inv X pins σ H s) : s.heap.FunFrames X.base X.outer := by
  have all : ∀ (l : List Env), (∀ b ∈ frs l, b ∈ X.fs) → X.s₀.heap.FunFrames X.base l → s.heap.FunFrames X.base l := by
    intro l
    induction l with
    | nil => intro _ _; trivial
    | cons env r ih =>
      intro hs hl
      obtain ⟨hk, ⟨L, o, hf, hn, ho, hd⟩, hr⟩ := hl
      have hL : L ∈ X.fs := hs L (by unfold frs; rw [List.filterMap_cons, hf]; exact List.mem_cons_self)
      obtain ⟨sl, e⟩ := I.base.slot L o ho (I.ok.frf L hL) hL fun z => I.ok.exfs L z hL
      exact ⟨hk, ⟨L, _, hf, hn, e, hd⟩, ih (fun b hb => hs b (by unfold frs; rw [List.filterMap_cons, hf]; exact List.mem_cons_of_mem _ hb)) hr⟩
  exact all X.outer (fun _ hb => hb) I.ok.funs
/-- the frames that run, for a call -/
theorem Inv.stack (I : Inv X pins σ H s) : s.heap.FunFrames X.base X.stack := by
  rcases I.ok.stk with e | ⟨e, hf⟩
  · rw [e]; exact I.funs
  · rw [e]
    obtain ⟨m, hn, _⟩ := I.loc
    refine .cons (by rw [I.ok.kind]; decide) hf hn ?_ I.funs
    exact Heap.get?_none_of_le (Nat.le_trans I.ok.bsz I.ok.above)
theorem Inv.stkSub (I : Inv X pins σ H s) : ∀ b ∈ frs X.stack, b ∈ X.env.locals :: X.fs := fun b hb => by
  rcases I.ok.stk with e | ⟨e, hf⟩
  · rw [e] at hb; exact List.mem_cons_of_mem _ hb
  · rw [e] at hb
    unfold frs at hb
    rw [List.filterMap_cons, hf] at hb
    exact hb
theorem Inv.stkFree (I : Inv X pins σ H s) : ∀ b ∈ frs X.stack, H b = none := fun b hb => by
  rcases List.mem_cons.mp (I.stkSub b hb) with e | hb
  · rw [e]; exact I.free
  · obtain ⟨_, o, ho, _⟩ := I.ok.funs.mem hb
    exact I.base.free b o ho (I.ok.frf b hb) fun z => I.ok.exfs b z hb
/-- THE STEP: the untracked objects but the frame and the records at ch are kept (the callers' frames up to slots), the frame's map is kept, the new abstract heap is held -/
theorem Inv.step {g' : Array GenState} {t' : Nat} {d' : Drawn} {ch : List Addr} (I : Inv X pins σ H s)
    (hch : ∀ b ∈ ch, (b ∈ X.ex ∨ X.s₀.heap.objs.size ≤ b) ∧ b ≠ X.env.locals ∧ (∀ x c, X.env.cells.lookup x = some c → c ≠ b) ∧ ∀ p ∈ X.pn ++ pins, p.1 ≠ b)
    (keep : ∀ b o, b ≠ X.env.locals → b ∉ X.fs → b ∉ ch → s.heap.get? b = some o → H b = none → h'.get? b = some o)
    (slot : ∀ b o, b ≠ X.env.locals → b ∈ X.fs → b ∉ ch → s.heap.get? b = some o → H b = none → ∃ sl, h'.get? b = some { o with slots := sl }) (free : ∀ b o, b ∉ ch → s.heap.get? b = some o → H b = none → H' b = none)
    (there : ∀ b o, b ∉ ch → s.heap.get? b = some o → ∃ o', h'.get? b = some o')
    (tups : ∀ b xs, H b = some (.tup xs) → H' b = some (.tup xs)) (frzs : ∀ b o u, H b = some (.frz o u) → H' b = some (.frz o u)) (tbls : ∀ b ps, H b = some (.tbl ps) → ∃ more, H' b = some (.tbl (ps ++ more)))
    (ns : ∀ m, s.heap.Ns X.env.locals m → h'.Ns X.env.locals m) (hok : HOk X.prog X.w H' h') (hg : AllBare g') :
    Inv X pins σ H' { s with heap := h', gens := g', drawn := d', toks := t' } := by
  have neL : ∀ b o, X.s₀.heap.get? b = some o → b ≠ X.env.locals := fun b o e => Nat.ne_of_lt (Nat.lt_of_lt_of_le (Heap.lt_size e) I.ok.above)
  have neC : ∀ b o, X.s₀.heap.get? b = some o → b ∉ X.ex → b ∉ ch := fun b o e hx hb => by
    rcases (hch b hb).1 with z | z
    · exact hx z
    · exact absurd (Nat.lt_of_lt_of_le (Heap.lt_size e) z) (Nat.lt_irrefl _)
  have cellK : ∀ x c, X.env.cells.lookup x = some c → ∀ v, s.heap.IsCell c v → h'.IsCell c v := fun x c e v ⟨o, ho, hd⟩ => by
    have nch : c ∉ ch := fun z => (hch c z).2.2.1 x c e rfl
    by_cases hc : c ∈ X.fs
    · obtain ⟨sl, q⟩ := slot c o (I.cne x c e) hc nch ho (I.freeC x c e)
      exact ⟨_, q, hd⟩
    · exact ⟨o, keep c o (I.cne x c e) hc nch ho (I.freeC x c e), hd⟩
  refine ⟨I.ok, I.os, hg, ⟨fun b o e n hb hx => ?_, fun b o e n hb hx => ?_, fun b o e n hx => ?_, fun b o e hx => ?_, fun b xs e => tups b xs (I.base.tups b xs e), fun b o xs e => frzs b o xs (I.base.frzs b o xs e), fun b ps e => ?_⟩, ?_, fun x c e => ?_, ?_, fun x c e => ?_, fun p hp => ?_, hok, I.len⟩
  · exact keep b o (neL b o e) hb (neC b o e hx) (I.base.keep b o e n hb hx) (I.base.free b o e n hx)
  · obtain ⟨sl, e1⟩ := I.base.slot b o e n hb hx
    obtain ⟨sl', e2⟩ := slot b _ (neL b o e) hb (neC b o e hx) e1 (I.base.free b o e n hx)
    exact ⟨sl', e2⟩
  · obtain ⟨o', e1⟩ := I.base.there b o e hx
    exact free b o' (neC b o e hx) e1 (I.base.free b o e n hx)
  · obtain ⟨o', e1⟩ := I.base.there b o e hx
    exact there b o' (neC b o e hx) e1
  · obtain ⟨m1, e1⟩ := I.base.tbls b ps e
    obtain ⟨m2, e2⟩ := tbls b _ e1
    exact ⟨m1 ++ m2, by rw [e2, Array.append_assoc]⟩
  · obtain ⟨m, hn, hl⟩ := I.loc
    refine ⟨m, ns m hn, fun i x v e1 e2 e3 => ?_⟩
    obtain ⟨u, r, l⟩ := hl i x v e1 e2 e3
    refine ⟨u, r, ?_⟩
    rcases l with l | ⟨k, c, e, z⟩
    · exact .inl l
    · exact .inr ⟨k, c, e, cellK x c e _ z⟩
  · obtain ⟨v, z⟩ := I.cell x c e
    exact ⟨v, cellK x c e v z⟩
  · obtain ⟨m, ⟨o, _, _, ho, _⟩, _⟩ := I.loc
    exact free _ o (fun z => (hch _ z).2.1 rfl) ho I.free
  · obtain ⟨v, o, ho, hd⟩ := I.cell x c e
    exact free c o (fun z => (hch c z).2.2.1 x c e rfl) ho (I.freeC x c e)
  · obtain ⟨e, n, ne, nf, d⟩ := I.pin p hp
    have nch : p.1 ∉ ch := fun z => (hch p.1 z).2.2.2 p hp rfl
    exact ⟨keep p.1 p.2 ne nf nch e n, free p.1 p.2 nch e n, ne, nf, d⟩
/-- .. where the frame's own object is kept too -/
theorem Inv.un {t' : Nat} (I : Inv X pins σ H s) (u : Un X.fs [] H H' s.heap h') (hok : HOk X.prog X.w H' h') : Inv X pins σ H' { s with heap := h', toks := t' } := by
  obtain ⟨m, ⟨o, es, ep, ho, r⟩, _⟩ := id I.loc
  obtain ⟨sl, hL⟩ := u.any ho I.free (by simp)
  exact I.step (g' := s.gens) (d' := s.drawn) (ch := []) (fun _ z => nomatch z) (fun b o _ hb _ e n => u.keep b o e n hb (by simp)) (fun b o _ hb _ e n => u.slot b o e n hb (by simp)) (fun b o _ e n => u.free b o e n (by simp)) (fun b o _ e => u.there b o e (by simp)) u.tups u.frzs u.tbls (fun m' hm => by
    obtain ⟨o', es', ep', ho', r'⟩ := hm
    rw [ho] at ho'; cases ho'
    exact ⟨_, es', ep', hL, r'⟩) hok I.bare
/-- behind a call (or a comprehension's block): the slots of this frame may have changed too, the records at ch may have turned -/
theorem Inv.call {g' : Array GenState} {t' : Nat} {d' : Drawn} {ch : List Addr} (I : Inv X pins σ H s) (u : Un (frs X.stack) ch H H' s.heap h') (hok : HOk X.prog X.w H' h') (hg : AllBare g')
    (hch : ∀ b ∈ ch, (b ∈ X.ex ∨ X.s₀.heap.objs.size ≤ b) ∧ b ≠ X.env.locals ∧ (∀ x c, X.env.cells.lookup x = some c → c ≠ b) ∧ ∀ p ∈ X.pn ++ pins, p.1 ≠ b) :
    Inv X pins σ H' { s with heap := h', gens := g', drawn := d', toks := t' } := by
  obtain ⟨m, ⟨o, es, ep, ho, r⟩, _⟩ := id I.loc
  obtain ⟨sl, hL⟩ := u.any ho I.free fun z => (hch _ z).2.1 rfl
  exact I.step (ch := ch) hch (fun b o hL hb hc e n => u.keep b o e n (fun z => (List.mem_cons.mp (I.stkSub b z)).elim hL hb) hc) (fun b o _ _ hc e n => u.any e n hc) (fun b o hc e n => u.free b o e n hc) (fun b o hc e => u.there b o e hc) u.tups u.frzs u.tbls (fun m' hm => by
    obtain ⟨o', es', ep', ho', r'⟩ := hm
    rw [ho] at ho'; cases ho'
    exact ⟨_, es', ep', hL, r'⟩) hok hg
/-- an untracked record of ours (an iterator) has turned -/
theorem Inv.turned {t' : Nat} {it : Addr} (I : Inv X pins σ H s) (k : ∀ b o, b ≠ it → s.heap.get? b = some o → h'.get? b = some o) (hn : H it = none) (hL : it ≠ X.env.locals)
    (h1 : it ∈ X.ex ∨ X.s₀.heap.objs.size ≤ it) (h2 : ∀ x c, X.env.cells.lookup x = some c → c ≠ it) (h3 : ∀ p ∈ X.pn ++ pins, p.1 ≠ it) : Inv X pins σ H { s with heap := h', toks := t' } := by
  have nit : ∀ b u, H b = some u → b ≠ it := fun b u e z => by rw [z, hn] at e; cases e
  refine I.step (g' := s.gens) (d' := s.drawn) (ch := [it]) (fun b hb => ?_) (fun b o _ _ hc e _ => k b o (fun z => hc (by simp [z])) e) (fun b o _ _ hc e _ => ⟨o.slots, k b o (fun z => hc (by simp [z])) e⟩) (fun _ _ _ _ n => n)
    (fun b o hc e => ⟨o, k b o (fun z => hc (by simp [z])) e⟩) (fun _ _ e => e) (fun _ _ _ e => e) (fun b ps e => ⟨#[], by rw [e]; simp⟩) (fun m hm => ?_) (fun b u e => ?_) I.bare
  · have e : b = it := by simpa using hb
    subst e
    exact ⟨h1, hL, h2, h3⟩
  · obtain ⟨o, es, ep, ho, r⟩ := hm
    exact ⟨o, es, ep, k _ o (Ne.symm hL) ho, r⟩
  · refine (I.hok b u e).stay (fun c v hc q => k c v ?_ q) (fun _ q => q) fun _ _ q => q
    rcases hc with z | z
    · rw [z]; exact nit b u e
    · exact nit c _ z
theorem Inv.tok (I : Inv X pins σ H s) (t : Nat) : Inv X pins σ H { s with toks := t } := I.un (h' := s.heap) (t' := t) Un.refl I.hok
/-- all objects kept -/
theorem Inv.kept {t' : Nat} (I : Inv X pins σ H s) (k : ∀ b u, s.heap.get? b = some u → h'.get? b = some u) : Inv X pins σ H { s with heap := h', toks := t' } := I.un (Un.kept k) (I.hok.kept k)
/-- a new object laid and tracked -/
theorem Inv.laid {a : Addr} {o : HO} {t' : Nat} (I : Inv X pins σ H s) (k : ∀ b u, s.heap.get? b = some u → h'.get? b = some u) (hp : s.heap.objs.size ≤ a) (new : ObjOk X.prog X.w (upd H a o) h' a o) :
    Inv X pins σ (upd H a o) { s with heap := h', toks := t' } := I.un (Un.laid k hp (I.hok.fresh hp)) (I.hok.laid k hp new)
/-- an object written -/
theorem Inv.write {x e : Addr} {o : HO} {t' : Nat} (I : Inv X pins σ H s) (mu : Mut (H x)) (he : e = x ∨ H e = some (.own x)) (k : ∀ b u, b ≠ e → s.heap.get? b = some u → h'.get? b = some u) (heo : ∃ u, h'.get? e = some u)
    (new : ObjOk X.prog X.w (upd H x o) h' x o) : Inv X pins σ (upd H x o) { s with heap := h', toks := t' } := I.un (Un.write mu he k heo) (I.hok.write mu he k heo new)
theorem Inv.pins_of {pins' : List (Addr × Obj)} (I : Inv X pins σ H s) (h : ∀ p ∈ pins', s.heap.get? p.1 = some p.2 ∧ H p.1 = none ∧ p.1 ≠ X.env.locals ∧ p.1 ∉ X.fs ∧ ∀ v, p.2.data ≠ .cell v) : Inv X pins' σ H s :=
  ⟨I.ok, I.os, I.bare, I.base, I.loc, I.cell, I.free, I.freeC, fun p hp => (List.mem_append.mp hp).elim (fun z => I.pin p (List.mem_append_left _ z)) (h p), I.hok, I.len⟩
theorem nodup_ix {N : List Str} (hN : N.Nodup) {i j : Nat} {x : Str} (a : N[i]? = some x) (b : N[j]? = some x) : i = j := by
  obtain ⟨h1, e1⟩ := List.getElem?_eq_some_iff.mp a
  obtain ⟨h2, e2⟩ := List.getElem?_eq_some_iff.mp b
  exact (List.getElem_inj hN).mp (e1.trans e2.symm)
/-- a name is stored; what changed -/
theorem store_ok2 {M : Model} {A : Around} {E : Value → Shared → Prop} {i : Nat} {x : Str} {v : V} {u : Value} {Q : Unit → Shared → Prop} (I : Inv X pins σ H s) (hN : X.N.Nodup) (hi : X.N[i]? = some x) (hx : Loc X.env.scope x) (r : RelV v u)
    (h : ∀ s', Inv X pins (σ.set i (some v)) H s' → (∃ a, Heap.SameBut a s.heap s'.heap ∧ (a = X.env.locals ∨ X.env.cells.lookup x = some a)) → Q () s') (hf : X.fn x = true ∨ X.env.scope.names.lookup x = some .local := by first | exact .inl rfl | exact .inr rfl | assumption) : wpAny M A (storeName X.env x u) Q E s := by
  obtain ⟨m, hn, hl⟩ := id I.loc
  have hcls : (X.env.scope.kind == .class || (X.env.scope.kind == .module && X.env.locals != X.env.globals)) = false := by rw [I.ok.kind]; rfl
  have hiσ : i < σ.length := by rw [I.len]; exact (List.getElem?_eq_some_iff.mp hi).1
  have cne := I.cne
  have tracked : ∀ {a : Addr} {h' : Heap}, (∃ o, s.heap.get? a = some o ∧ H a = none) → Heap.SameBut a s.heap h' → HOk X.prog X.w H h' := fun {a h'} ha hs b ob e => by
    obtain ⟨_, _, hfree⟩ := ha
    refine (I.hok b ob e).stay (fun c w' hc q => (hs.2 c ?_).trans q) (fun _ q => q) fun _ _ q => q
    rintro rfl
    rcases hc with rfl | hc
    · rw [hfree] at e; cases e
    · rw [hfree] at hc; cases hc
  rcases hx with hk | hk
  · refine wpAny_storeName_local hk hn (fun h' hn' hs => ?_) hcls
    obtain ⟨oL, _, _, hoL, _⟩ := id hn
    refine h _ ⟨I.ok, I.os, I.bare, ⟨fun b o e n hb hx => ?_, fun b o e n hb hx => ?_, I.base.free, fun b o e hx => ?_, I.base.tups, I.base.frzs, I.base.tbls⟩, ⟨_, hn', fun j y v' e1 e2 e3 => ?_⟩, fun y c e => ?_, I.free, I.freeC, fun p hp => ?_, tracked ⟨oL, hoL, I.free⟩ hs, by simpa using I.len⟩ ⟨_, hs, .inl rfl⟩
    · exact (hs.2 b (Nat.ne_of_lt (Nat.lt_of_lt_of_le (Heap.lt_size e) I.ok.above))).trans (I.base.keep b o e n hb hx)
    · obtain ⟨sl, e1⟩ := I.base.slot b o e n hb hx
      exact ⟨sl, (hs.2 b (Nat.ne_of_lt (Nat.lt_of_lt_of_le (Heap.lt_size e) I.ok.above))).trans e1⟩
    · obtain ⟨o', e1⟩ := I.base.there b o e hx
      exact ⟨o', (hs.2 b (Nat.ne_of_lt (Nat.lt_of_lt_of_le (Heap.lt_size e) I.ok.above))).trans e1⟩
    · by_cases hj : j = i
      · subst hj
        rw [hi] at e1; cases e1
        rw [List.getElem?_set_self hiσ] at e2
        cases e2
        exact ⟨u, r, .inl ⟨hk, by simp⟩⟩
      · rw [List.getElem?_set_ne (Ne.symm hj)] at e2
        obtain ⟨u', r', q⟩ := hl j y v' e1 e2 e3
        refine ⟨u', r', ?_⟩
        rcases q with ⟨k, e⟩ | ⟨k, c, e, z⟩
        · refine .inl ⟨k, ?_⟩
          have : y ≠ x := fun e => hj (nodup_ix hN e1 (e ▸ hi))
          simp [this, e]
        · exact .inr ⟨k, c, e, z.sameBut hs (cne y c e)⟩
    · obtain ⟨w', z⟩ := I.cell y c e
      exact ⟨w', z.sameBut hs (cne y c e)⟩
    · obtain ⟨e, n, ne, nf, d⟩ := I.pin p hp
      exact ⟨(hs.2 p.1 ne).trans e, n, ne, nf, d⟩
  · have hfn : X.fn x = true := by
      rcases hf with z | z
      · exact z
      · rw [z] at hk; cases hk
    obtain ⟨c, hc⟩ := I.ok.has x (.inl hk)
    obtain ⟨w', z⟩ := I.cell x c hc
    refine wpAny_storeName_cell I.ok.kind hk hc z (fun h' hc' hs => ?_)
    obtain ⟨oc, hoc, hocd⟩ := id z
    refine h { s with heap := h' } ⟨I.ok, I.os, I.bare, ⟨fun b o e n hb hx => ?_, fun b o e n hb hx => ?_, I.base.free, fun b o e hx => ?_, I.base.tups, I.base.frzs, I.base.tbls⟩, ⟨m, hn.sameBut hs (Ne.symm (cne x c hc)), fun j y v' e1 e2 e3 => ?_⟩, fun y c' e => ?_, I.free, I.freeC, fun p hp => ?_, tracked ⟨oc, hoc, I.freeC x c hc⟩ hs, by simpa using I.len⟩ ⟨c, hs, .inr hc⟩
    · exact (hs.2 b (Nat.ne_of_lt (Nat.lt_of_lt_of_le (Heap.lt_size e) (I.ok.cab x c hfn hc)))).trans (I.base.keep b o e n hb hx)
    · obtain ⟨sl, e1⟩ := I.base.slot b o e n hb hx
      exact ⟨sl, (hs.2 b (Nat.ne_of_lt (Nat.lt_of_lt_of_le (Heap.lt_size e) (I.ok.cab x c hfn hc)))).trans e1⟩
    · obtain ⟨o', e1⟩ := I.base.there b o e hx
      exact ⟨o', (hs.2 b (Nat.ne_of_lt (Nat.lt_of_lt_of_le (Heap.lt_size e) (I.ok.cab x c hfn hc)))).trans e1⟩
    · by_cases hj : j = i
      · subst hj
        rw [hi] at e1; cases e1
        rw [List.getElem?_set_self hiσ] at e2
        cases e2
        exact ⟨u, r, .inr ⟨.inl hk, c, hc, hc'⟩⟩
      · rw [List.getElem?_set_ne (Ne.symm hj)] at e2
        obtain ⟨u', r', q⟩ := hl j y v' e1 e2 e3
        refine ⟨u', r', ?_⟩
        rcases q with q | ⟨k, c', e, z'⟩
        · exact .inl q
        · refine .inr ⟨k, c', e, z'.sameBut hs ?_⟩
          rintro rfl
          exact hj (nodup_ix hN e1 (I.ok.inj _ _ _ e hc ▸ hi))
    · by_cases hcc : c' = c
      · subst hcc; exact ⟨_, hc'⟩
      · obtain ⟨w2, z2⟩ := I.cell y c' e
        exact ⟨w2, z2.sameBut hs hcc⟩
    · obtain ⟨e, n, ne, nf, d⟩ := I.pin p hp
      refine ⟨(hs.2 p.1 ?_).trans e, n, ne, nf, d⟩
      intro q
      rw [q, hoc] at e
      have q' : oc = p.2 := Option.some.inj e
      exact d w' (by rw [← q']; exact hocd)
theorem store_ok {M : Model} {A : Around} {E : Value → Shared → Prop} {i : Nat} {x : Str} {v : V} {u : Value} {Q : Unit → Shared → Prop} (I : Inv X pins σ H s) (hN : X.N.Nodup) (hi : X.N[i]? = some x) (hx : Loc X.env.scope x) (r : RelV v u)
    (h : ∀ s', Inv X pins (σ.set i (some v)) H s' → Q () s') (hf : X.fn x = true ∨ X.env.scope.names.lookup x = some .local := by first | exact .inl rfl | exact .inr rfl | assumption) : wpAny M A (storeName X.env x u) Q E s :=
  store_ok2 I hN hi hx r (fun s' I' _ => h s' I') hf
/-- behind a call or a block, the state as it is -/
theorem Inv.call' {s' : Shared} {ch : List Addr} (I : Inv X pins σ H s) (ho : s'.os = s.os) (u : Un (frs X.stack) ch H H' s.heap s'.heap) (hok : HOk X.prog X.w H' s'.heap) (hg : AllBare s'.gens)
    (hch : ∀ b ∈ ch, (b ∈ X.ex ∨ X.s₀.heap.objs.size ≤ b) ∧ b ≠ X.env.locals ∧ (∀ x c, X.env.cells.lookup x = some c → c ≠ b) ∧ ∀ p ∈ X.pn ++ pins, p.1 ≠ b) : Inv X pins σ H' s' := by
  obtain ⟨h', g', d', t', o'⟩ := s'
  have e : o' = s.os := ho
  subst e
  exact I.call (g' := g') (t' := t') (d' := d') u hok hg hch
end
/-! ### the judgements -/
/-- an exception: its class, its own dict's address (where it has one), the abstract heap behind it -/
abbrev XK := Value → Option Addr → Hp → Prop
abbrev St := List (Option V)
abbrev VK := V → Hp → Prop
/-- an expression's reading; a test's; an argument list's -/
abbrev TE := St → Hp → VK → Prop
abbrev TT := St → Hp → (Bool → Hp → Prop) → Prop
abbrev TA := St → Hp → (List V → Hp → Prop) → Prop
/-- what is wanted behind a statement -/
structure Ends where
  nx : St → Hp → Prop
  rt : VK
  bk : St → Hp → Prop := fun _ _ => False
  ct : St → Hp → Prop := fun _ _ => False
abbrev TS := Ends → St → Hp → Prop
def EP (X : Cx) (pins : List (Addr × Obj)) (σ : St) (Q : VK) (u : Value) (s' : Shared) : Prop := ∃ v H', Inv X pins σ H' s' ∧ RelV v u ∧ Q v H'
def TP (X : Cx) (pins : List (Addr × Obj)) (σ : St) (Q : Bool → Hp → Prop) (b : Bool) (s' : Shared) : Prop := ∃ H', Inv X pins σ H' s' ∧ Q b H'
def AP (X : Cx) (pins : List (Addr × Obj)) (σ : St) (Q : List V → Hp → Prop) (us : List Value) (s' : Shared) : Prop := ∃ vs H', Inv X pins σ H' s' ∧ Vals vs us ∧ Q vs H'
def SP (X : Cx) (pins : List (Addr × Obj)) (D : Ends) (f : Flow) (s' : Shared) : Prop :=
  match f with
  | .next => ∃ σ' H', Inv X pins σ' H' s' ∧ D.nx σ' H'
  | .brk => ∃ σ' H', Inv X pins σ' H' s' ∧ D.bk σ' H'
  | .cont => ∃ σ' H', Inv X pins σ' H' s' ∧ D.ct σ' H'
  | .ret u => ∃ v σ' H', Inv X pins σ' H' s' ∧ RelV v u ∧ D.rt v H'
def PE (X : Cx) (e : Expr) (t : TE) : Prop :=
  ∀ (pins : List (Addr × Obj)) (s : Shared) (σ : St) (H : Hp) (Q : VK), Inv X pins σ H s → t σ H Q → wpAny (model X.prog X.w) X.A (eval e X.env) (EP X pins σ Q) X.xe s
def PT (X : Cx) (e : Expr) (t : TT) : Prop :=
  ∀ (pins : List (Addr × Obj)) (s : Shared) (σ : St) (H : Hp) (Q : Bool → Hp → Prop), Inv X pins σ H s → t σ H Q → wpAny (model X.prog X.w) X.A (isTrue e X.env (eval e X.env)) (TP X pins σ Q) X.xe s
/-- a test whatever its 'whole' is (and, or) -/
def PW (X : Cx) (e : Expr) (t : TT) : Prop :=
  ∀ (whole : Sem Value) (pins : List (Addr × Obj)) (s : Shared) (σ : St) (H : Hp) (Q : Bool → Hp → Prop), Inv X pins σ H s → t σ H Q → wpAny (model X.prog X.w) X.A (isTrue e X.env whole) (TP X pins σ Q) X.xe s
theorem PW.pt {X : Cx} {e : Expr} {t : TT} (h : PW X e t) : PT X e t := h _
/-- an argument list (no star), from the left -/
def PA (X : Cx) (es : List Expr) (t : TA) : Prop :=
  ∀ (pos : Pos) (pins : List (Addr × Obj)) (s : Shared) (σ : St) (H : Hp) (Q : List V → Hp → Prop), Inv X pins σ H s → t σ H Q → wpAny (model X.prog X.w) X.A (spliced (backTo pos (starEach es X.env))) (AP X pins σ Q) X.xe s
def PS (X : Cx) (st : Stmt) (t : TS) : Prop :=
  ∀ (pins : List (Addr × Obj)) (s : Shared) (σ : St) (H : Hp) (D : Ends), Inv X pins σ H s → t D σ H → wpAny (model X.prog X.w) X.A (exec st X.env) (SP X pins D) X.xe s
def PSs (X : Cx) (st : List Stmt) (t : TS) : Prop :=
  ∀ (pins : List (Addr × Obj)) (s : Shared) (σ : St) (H : Hp) (D : Ends), Inv X pins σ H s → t D σ H → wpAny (model X.prog X.w) X.A (execs st X.env) (SP X pins D) X.xe s
/-- weaken the end -/
theorem thn {α : Type} {t : Sem α} {Q Q' : α → Shared → Prop} {M : Model} {A : Around} {E : Value → Shared → Prop} {s : Shared} (h : wpAny M A t Q E s) (hQ : ∀ a s, Q a s → Q' a s) : wpAny M A t Q' E s := wpAny_mono h hQ fun _ _ x => x
end L2
namespace L2
open PySem PySem.Spec PyProof.Rows
section
variable {X : Cx}
/-! ### names and constants -/
def tVar (i : Nat) : TE := fun σ H Q => ∃ v, σ[i]? = some (some v) ∧ Q v H
def tC (v : V) : TE := fun _ H Q => Q v H
theorem pe_var {i : Nat} {x : Str} {pos : Pos} (hN : X.N[i]? = some x) (hv : Vis X.env.scope x) (hd : (x == ("__debug__" : Str)) = false := by decide) (hcd : (x == ("__classdict__" : Str)) = false := by decide) : PE X (.Name x pos) (tVar i) := by
  intro pins s σ H Q I h
  obtain ⟨v, e, h⟩ := h
  obtain ⟨m, hn, hl⟩ := I.loc
  obtain ⟨u, r, l⟩ := hl i x v hN e hv
  have fin : EP X pins σ Q u s := ⟨v, H, I, r, h⟩
  rcases l with ⟨hk, hm⟩ | ⟨hk, c, hc, hcell⟩
  · exact wpAny_Name (wpAny_loadName_local I.ok.kind hk hn hm fin) hd
  · rcases hk with hk | hk
    · exact wpAny_Name (wpAny_loadName_cell I.ok.kind hk hc hcell fin) hd
    · exact wpAny_Name (wpAny_loadName_free I.ok.kind hk hc hcell fin hcd) hd
theorem pe_int {i j pos} : PE X (.Constant (.int i) j pos) (tC (.int i)) := fun _ _ _ H _ I h => wpAny_Constant_int ⟨.int i, H, I.tok _, ⟨_, rfl⟩, h⟩
theorem pe_bl {b j pos} : PE X (.Constant (.bool b) j pos) (tC (.bl b)) := fun _ _ _ H _ I h => Constant_bool ⟨.bl b, H, I, rfl, h⟩
theorem pe_str {x j pos} : PE X (.Constant (.str x) j pos) (tC (.str x)) := fun _ _ _ H _ I h => Calls.Constant_str ⟨.str x, H, I.tok _, ⟨_, rfl⟩, h⟩
/-- a global name of the def -/
def Gl (X : Cx) (x : Str) : Prop := X.env.kindOf x = some .globalImplicit
theorem ld_glob {E : Value → Shared → Prop} {pins : List (Addr × Obj)} {s : Shared} {σ : St} {H : Hp} {x : Str} {u : Value} {pos : Pos} {Q : Value → Shared → Prop} (I : Inv X pins σ H s) (hg : Gl X x) (hm : X.mg x = some u) (h : Q u s)
    (hd : (x == ("__debug__" : Str)) = false := by decide) : wpAny (model X.prog X.w) X.A (eval (.Name x pos) X.env) Q E s :=
  Calls.Name_function_global I.ok.kind hg (Calls.loadGlobal_global (by rw [I.ok.glob]; exact I.mod.glob.keeps I.bk) hm h) hd
theorem ld_blt {E : Value → Shared → Prop} {pins : List (Addr × Obj)} {s : Shared} {σ : St} {H : Hp} {x : Str} {u : Value} {pos : Pos} {Q : Value → Shared → Prop} (I : Inv X pins σ H s) (hg : Gl X x) (hm : X.mg x = none) (hv : bootBuiltins x = some u) (h : Q u s)
    (hn : x ≠ "__name__" := by decide) (hd : (x == ("__debug__" : Str)) = false := by decide) : wpAny (model X.prog X.w) X.A (eval (.Name x pos) X.env) Q E s := by
  obtain ⟨mb, h1, h2⟩ := I.mod.blt
  exact Calls.Name_function_global I.ok.kind hg (Calls.loadGlobal_builtin (by rw [I.ok.glob]; exact I.mod.glob.keeps I.bk) hm (by rw [I.ok.blt]; exact h1.keeps I.bk) ((h2 x hn).trans hv) h) hd
theorem pe_bltn {x : Str} {v : V} {u : Value} {pos : Pos} (hg : Gl X x) (hm : X.mg x = none) (hv : bootBuiltins x = some u) (r : RelV v u) (hn : x ≠ "__name__" := by decide) (hd : (x == ("__debug__" : Str)) = false := by decide) : PE X (.Name x pos) (tC v) :=
  fun _ _ _ H _ I h => ld_blt I hg hm hv ⟨v, H, I, r, h⟩ hn hd
/-! ### arithmetic -/
variable {a b : Expr} {ta tb : TE} {pos : Pos}
/-! ### comparisons -/
/-! ### and, or, not -/
variable {tA tB' : TT} {rest : List Expr}
def tOr (t u : TT) : TT := fun σ H Q => t σ H fun c H1 => if c = true then Q true H1 else u σ H1 Q
def tNot (t : TT) : TT := fun σ H Q => t σ H fun c H1 => Q (!c) H1
theorem pw_or1 (ha : PT X a tA) : PW X (.BoolOp .Or [a] pos) tA := by
  intro wh pins s σ H Q I h
  refine isTrue_or (thn (ha pins s σ H Q I h) fun c s1 e => ?_)
  cases c with
  | false => exact isTrue_or_nil e
  | true => exact e
theorem pw_or (ha : PT X a tA) (hb : PW X (.BoolOp .Or (b :: rest) pos) tB') : PW X (.BoolOp .Or (a :: b :: rest) pos) (tOr tA tB') := by
  intro wh pins s σ H Q I h
  refine isTrue_or (thn (ha pins s σ H _ I h) fun c s1 ⟨H1, I1, q1⟩ => ?_)
  cases c with
  | true => exact ⟨H1, I1, q1⟩
  | false => exact hb wh pins s1 σ H1 Q I1 q1
theorem pt_not (ha : PT X a tA) : PT X (.UnaryOp .Not a pos) (tNot tA) := by
  intro pins s σ H Q I h
  exact isTrue_not (ha pins s σ H (fun c H1 => Q (!c) H1) I h)
/-- .. as values (bools) -/
def tAndV (ta tb : TE) : TE := fun σ H Q => ta σ H fun x H1 => ∃ c, x = .bl c ∧ if c = true then tb σ H1 Q else Q (.bl false) H1
def tNotV (ta : TE) : TE := fun σ H Q => ta σ H fun x H1 => ∃ c, x = .bl c ∧ Q (.bl (!c)) H1
theorem pe_one {op} {t : TE} (h : PE X a t) : PE X (.BoolOp op [a] pos) t := fun pins s σ H Q I hw => BoolOp_one (h pins s σ H Q I hw)
theorem pe_and (ha : PE X a ta) (hb : PE X (.BoolOp .And (b :: rest) pos) tb) : PE X (.BoolOp .And (a :: b :: rest) pos) (tAndV ta tb) := by
  intro pins s σ H Q I h
  refine BoolOp_and (thn (ha pins s σ H _ I h) fun v s1 ⟨x, H1, I1, r1, q1⟩ => ?_)
  obtain ⟨c, rfl, q1⟩ := q1
  cases r1
  refine wpAny_truthy_bool ?_
  cases c with
  | true => exact hb pins s1 σ H1 Q I1 q1
  | false => exact ⟨.bl false, H1, I1, rfl, q1⟩
theorem pe_not (ha : PE X a ta) : PE X (.UnaryOp .Not a pos) (tNotV ta) := by
  intro pins s σ H Q I h
  refine UnaryOp_ (thn (ha pins s σ H _ I h) fun v s1 ⟨x, H1, I1, r1, q1⟩ => ?_)
  obtain ⟨c, rfl, q1⟩ := q1
  cases r1
  exact not_of (wpAny_truthy_bool ⟨.bl (!c), H1, I1, rfl, q1⟩)
end
end L2
namespace L2
open PySem PySem.Spec PyProof.Rows
/-! ### a list, a tuple that is read: tracked, frozen, or an object of the module -/
def SqL (K : PySem.W.Frag) (H : Hp) (a : Addr) (xs : List V) : Prop :=
  Rd H a (.lst xs) ∨
    ∃ (o : Obj) (its : Array Value) (n : Nat), K.lookup a = some o ∧ o.cls = .type "list" ∧ o.dict = none ∧ o.data = .seq its n ∧ its.size ≤ sizeLine ∧ Vals xs its.toList
def SqT (K : PySem.W.Frag) (H : Hp) (a : Addr) (xs : List V) : Prop :=
  Rd H a (.tup xs) ∨
    ∃ (o : Obj) (its : Array Value) (n : Nat), K.lookup a = some o ∧ o.cls = .type "tuple" ∧ o.data = .seq its n ∧ its.size ≤ sizeLine ∧ Vals xs its.toList
def absV : Value → Option V
  | .none => some .non
  | .bool b => some (.bl b)
  | .int i _ => some (.int i)
  | .str x _ => some (.str x)
  | .bytes b _ => some (.byt b)
  | .float b _ => some (.flt b)
  | .ref a => some (.ref a)
  | .type n => some (.ty n)
  | _ => none
theorem RelV.abs {x : V} {u : Value} (r : RelV x u) : absV u = some x := by
  cases x with
  | non => cases r; rfl
  | bl _ => cases r; rfl
  | int _ => obtain ⟨t, rfl⟩ := r; rfl
  | str _ => obtain ⟨t, rfl⟩ := r; rfl
  | byt _ => obtain ⟨t, rfl⟩ := r; rfl
  | flt _ => obtain ⟨t, rfl⟩ := r; rfl
  | ref _ => cases r; rfl
  | ty _ => cases r; rfl
theorem RelV.inj {x y : V} {u : Value} (r : RelV x u) (q : RelV y u) : x = y := Option.some.inj (r.abs.symm.trans q.abs)
theorem Vals.inj : ∀ {xs ys : List V} {us : List Value}, Vals xs us → Vals ys us → xs = ys
  | _, _, _, .nil, .nil => rfl
  | _, _, _, .cons r t, .cons r' t' => by rw [r.inj r', Vals.inj t t']
section
variable {X : Cx} {pins : List (Addr × Obj)} {σ : St} {H : Hp} {s : Shared} {a : Addr} {xs ys : List V}
theorem SqL.of {K : PySem.W.Frag} (h : H a = some (.lst xs)) : SqL K H a xs := .inl (.inl h)
theorem SqT.of {K : PySem.W.Frag} (h : H a = some (.tup xs)) : SqT K H a xs := .inl (.inl h)
theorem Inv.list (I : Inv X pins σ H s) (h : SqL X.K H a xs) : ∃ its : List Value, Vals xs its ∧ PlainL s.heap a its.toArray ∧ xs.length ≤ sizeLine := by
  rcases h with h | ⟨o, its, n, hk, hc, hd, hs, hz, r⟩
  · obtain ⟨z, its, n, r, e⟩ := h.ok I.hok
    exact ⟨its, r, ⟨_, n, e, rfl, rfl, rfl⟩, z⟩
  · refine ⟨its.toList, r, ⟨o, n, I.kIn a o hk, hc, hd, by simpa using hs⟩, ?_⟩
    have e := r.length
    simp only [Array.length_toList] at e
    omega
theorem Inv.tuple (I : Inv X pins σ H s) (h : SqT X.K H a xs) : ∃ its : List Value, Vals xs its ∧ IsTup s.heap a its.toArray ∧ xs.length ≤ sizeLine := by
  rcases h with h | ⟨o, its, n, hk, hc, hs, hz, r⟩
  · obtain ⟨z, its, r, p⟩ := h.ok I.hok
    exact ⟨its, r, p, z⟩
  · refine ⟨its.toList, r, ⟨o, I.kIn a o hk, hc, n, by simpa using hs⟩, ?_⟩
    have e := r.length
    simp only [Array.length_toList] at e
    omega
theorem Inv.list_inj (I : Inv X pins σ H s) (h : SqL X.K H a xs) (h' : SqL X.K H a ys) : xs = ys := by
  obtain ⟨its, r, ⟨o, n, e, _, _, d⟩, _⟩ := I.list h
  obtain ⟨its', r', ⟨o', n', e', _, _, d'⟩, _⟩ := I.list h'
  rw [e] at e'; cases e'
  rw [d] at d'
  injection d' with d1 _
  have : its = its' := by simpa using congrArg Array.toList d1
  subst this
  exact r.inj r'
theorem Inv.tuple_inj (I : Inv X pins σ H s) (h : SqT X.K H a xs) (h' : SqT X.K H a ys) : xs = ys := by
  obtain ⟨its, r, ⟨o, e, _, n, d⟩, _⟩ := I.tuple h
  obtain ⟨its', r', ⟨o', e', _, n', d'⟩, _⟩ := I.tuple h'
  rw [e] at e'; cases e'
  rw [d] at d'
  injection d' with d1 _
  have : its = its' := by simpa using congrArg Array.toList d1
  subst this
  exact r.inj r'
end
/-! ### another wish about exceptions -/
abbrev Cx.wish (X : Cx) (E : Value → Shared → Prop) : Cx := { X with xe := E }
/-- no exception leaves -/
abbrev Cx.nox (X : Cx) : Cx := X.wish fun _ _ => False
theorem Cx.Ok.wish {X : Cx} (ok : X.Ok) (E : Value → Shared → Prop) : (X.wish E).Ok :=
  ⟨ok.mod, ok.kind, ok.glob, ok.blt, ok.above, ok.inj, ok.has, ok.cab, ok.hd, ok.frames, ok.stk, ok.exf, ok.bs, ok.bsz, ok.noex, ok.exfs, ok.funs, ok.frf⟩
theorem Cx.Ok.unwish {X : Cx} {E : Value → Shared → Prop} (ok : (X.wish E).Ok) : X.Ok :=
  ⟨ok.mod, ok.kind, ok.glob, ok.blt, ok.above, ok.inj, ok.has, ok.cab, ok.hd, ok.frames, ok.stk, ok.exf, ok.bs, ok.bsz, ok.noex, ok.exfs, ok.funs, ok.frf⟩
section
variable {X : Cx} {pins : List (Addr × Obj)} {σ : St} {H : Hp} {s : Shared} {E : Value → Shared → Prop}
theorem Inv.wish (I : Inv X pins σ H s) (E : Value → Shared → Prop) : Inv (X.wish E) pins σ H s := ⟨I.ok.wish E, I.os, I.bare, I.base, I.loc, I.cell, I.free, I.freeC, I.pin, I.hok, I.len⟩
theorem Inv.unwish (I : Inv (X.wish E) pins σ H s) : Inv X pins σ H s := ⟨I.ok.unwish, I.os, I.bare, I.base, I.loc, I.cell, I.free, I.freeC, I.pin, I.hok, I.len⟩
theorem SP.unwish {D : Ends} {f : Flow} {s' : Shared} (h : SP (X.wish E) pins D f s') : SP X pins D f s' := by
  cases f with
  | next => obtain ⟨σ', H', I, q⟩ := h; exact ⟨σ', H', I.unwish, q⟩
  | brk => obtain ⟨σ', H', I, q⟩ := h; exact ⟨σ', H', I.unwish, q⟩
  | cont => obtain ⟨σ', H', I, q⟩ := h; exact ⟨σ', H', I.unwish, q⟩
  | ret u => obtain ⟨v, σ', H', I, r, q⟩ := h; exact ⟨v, σ', H', I.unwish, r, q⟩
theorem PSs.nox {st : List Stmt} {t : TS} (h : PSs X.nox st t) : PSs X st t := fun pins s σ H D I hw =>
  wpAny_mono (h pins s σ H D (I.wish _) hw) (fun _ _ q => q.unwish) fun _ _ z => False.elim z
end
/-! ### blocks and small statements -/
section
variable {X : Cx} {st : Stmt} {rest : List Stmt} {t u : TS} {e : Expr} {te : TE} {pos : Pos}
def tNext : TS := fun D σ H => D.nx σ H
def tSeq (t u : TS) : TS := fun D σ H => t { D with nx := u D } σ H
theorem pss_nil : PSs X [] tNext := fun _ _ σ H _ I h => wpAny_execs_nil ⟨σ, H, I, h⟩
theorem pss_cons (h1 : PS X st t) (h2 : PSs X rest u) : PSs X (st :: rest) (tSeq t u) := by
  intro pins s σ H D I h
  refine wpAny_execs_cons (thn (h1 pins s σ H { D with nx := u D } I h) fun f s1 q => ?_)
  cases f with
  | next =>
    obtain ⟨σ', H', I', q⟩ := q
    exact h2 pins s1 σ' H' D I' q
  | ret v => exact q
  | brk => exact q
  | cont => exact q
theorem pss_one (h1 : PS X st t) : PSs X [st] t := by
  intro pins s σ H D I h
  refine wpAny_execs_cons (thn (h1 pins s σ H D I h) fun f s1 q => ?_)
  cases f with
  | next => exact wpAny_execs_nil q
  | ret v => exact q
  | brk => exact q
  | cont => exact q
/-- in a def's body nothing is shown -/
theorem Inv.quiet {pins : List (Addr × Obj)} {σ : St} {H : Hp} {s : Shared} (I : Inv X pins σ H s) : interactive X.env = false := by simp [interactive, I.ok.kind]
/-- an expression whose value is dropped -/
def tDrop (te : TE) : TS := fun D σ H => te σ H fun _ H1 => D.nx σ H1
theorem ps_expr (he : PE X e te) (hs : swapsWith e none pos.line X.env = pure false := by rfl) : PS X (.Expr e pos) (tDrop te) := by
  intro pins s σ H D I h
  exact wpAny_Expr_any (thn (he pins s σ H _ I h) fun v s1 ⟨x, H1, I1, r1, q1⟩ => ⟨σ, H1, I1, q1⟩) I.quiet hs
def tRet (te : TE) : TS := fun D σ H => te σ H D.rt
theorem ps_ret (he : PE X e te) : PS X (.Return (some e) pos) (tRet te) := by
  intro pins s σ H D I h
  exact wpAny_Return_some (thn (he pins s σ H _ I h) fun v s1 ⟨x, H1, I1, r1, q1⟩ => ⟨x, σ, H1, I1, r1, q1⟩)
def tIfS (c : TT) (t u : TS) : TS := fun D σ H => c σ H fun b H1 => if b = true then t D σ H1 else u D σ H1
theorem ps_if {c : Expr} {a b : List Stmt} {tc : TT} (hc : PT X c tc) (ha : PSs X a t) (hb : PSs X b u) : PS X (.If c a b pos) (tIfS tc t u) := by
  intro pins s σ H D I h
  refine wpAny_If (thn (hc pins s σ H _ I h) fun d s1 ⟨H1, I1, q1⟩ => ?_)
  cases d with
  | true => exact ha pins s1 σ H1 D I1 q1
  | false => exact hb pins s1 σ H1 D I1 q1
end
/-! ### targets -/
abbrev TG := V → St → Hp → (St → Hp → Prop) → Prop
abbrev TGs := List V → St → Hp → (St → Hp → Prop) → Prop
def PG (X : Cx) (target : Expr) (t : TG) : Prop :=
  ∀ (pins : List (Addr × Obj)) (s : Shared) (σ : St) (H : Hp) (v : V) (u : Value) (Q : St → Hp → Prop), Inv X pins σ H s → RelV v u → t v σ H Q →
    wpAny (model X.prog X.w) X.A (assign target X.env u) (fun _ s' => ∃ σ' H', Inv X pins σ' H' s' ∧ Q σ' H') X.xe s
/-- several targets, one after another -/
def PGs (X : Cx) (ts : List Expr) (t : TGs) : Prop :=
  ∀ (pins : List (Addr × Obj)) (s : Shared) (σ : St) (H : Hp) (vs : List V) (us : List Value) (Q : St → Hp → Prop), Inv X pins σ H s → Vals vs us → t vs σ H Q →
    wpAny (model X.prog X.w) X.A (assignInOrder ((assignEach ts X.env).map (·.2)) us) (fun _ s' => ∃ σ' H', Inv X pins σ' H' s' ∧ Q σ' H') X.xe s
/-- o[i] = v, by values -/
abbrev TSet := V → V → V → Hp → (Hp → Prop) → Prop
def PSet (X : Cx) (t : TSet) : Prop :=
  ∀ (pins : List (Addr × Obj)) (s : Shared) (σ : St) (H : Hp) (o i v : V) (ov iv u : Value) (Q : Hp → Prop), Inv X pins σ H s → RelV o ov → RelV i iv → RelV v u → t o i v H Q →
    wpAny (model X.prog X.w) X.A (setItem ov iv u) (fun _ s' => ∃ H', Inv X pins σ H' s' ∧ Q H') X.xe s
section
variable {X : Cx} {pos : Pos}
def gName (i : Nat) : TG := fun v σ H Q => Q (σ.set i (some v)) H
theorem pg_name {i : Nat} {x : Str} (hN : X.N.Nodup) (hi : X.N[i]? = some x) (hx : Loc X.env.scope x) (hf : X.fn x = true ∨ X.env.scope.names.lookup x = some .local := by first | exact .inl rfl | exact .inr rfl | assumption) : PG X (.Name x pos) (gName i) := by
  intro pins s σ H v u Q I r h
  exact wpAny_assign_Name (store_ok I hN hi hx r (fun s' I' => ⟨_, H, I', h⟩) hf)
def gNil : TGs := fun vs σ H Q => vs = [] ∧ Q σ H
def gCons (t : TG) (u : TGs) : TGs := fun vs σ H Q => ∃ v r, vs = v :: r ∧ t v σ H fun σ' H' => u r σ' H' Q
theorem pgs_nil : PGs X [] gNil := by
  intro pins s σ H vs us Q I r h
  obtain ⟨e, h⟩ := h
  subst e
  cases r
  exact assignInOrder_nil ⟨σ, H, I, h⟩
theorem pgs_cons {e : Expr} {es : List Expr} {t : TG} {u : TGs} (h1 : PG X e t) (h2 : PGs X es u)
    (hs : (assignEach (e :: es) X.env).map (·.2) = assign e X.env :: (assignEach es X.env).map (·.2) := by rfl) : PGs X (e :: es) (gCons t u) := by
  intro pins s σ H vs us Q I r h
  obtain ⟨v, vr, e1, h⟩ := h
  subst e1
  cases r with
  | cons r rr =>
    rw [hs]
    refine assignInOrder_cons (thn (h1 pins s σ H _ _ _ I r h) fun _ s1 ⟨σ1, H1, I1, q1⟩ => ?_)
    exact h2 pins s1 σ1 H1 _ _ Q I1 rr q1
/-- (a, b, ..) = a tuple of that length -/
def gTup (K : PySem.W.Frag) (n : Nat) (t : TGs) : TG := fun v σ H Q => ∃ a xs, v = .ref a ∧ SqT K H a xs ∧ xs.length = n ∧ t xs σ H Q
theorem pg_tup {es : List Expr} {k : Nat} {t : TGs} {n : Nat} (hc : X.calm = true) (h : PGs X es t)
    (hn : (assignEach es X.env).length = n := by rfl) (hst : (assignEach es X.env).findIdx? (·.1) = none := by rfl) : PG X (.Tuple es k pos) (gTup X.K n t) := by
  intro pins s σ H v u Q I r hw
  obtain ⟨a, xs, e1, hq, hl, hw⟩ := hw
  subst e1
  cases r
  obtain ⟨its, rv, ht, hz⟩ := I.tuple hq
  refine assign_Tuple_tuple (I.ok.hd hc) ht (by simp [hn, ← hl, rv.length]) hst fun h' hx => ?_
  have I1 : Inv X pins σ H { s with heap := h' } := I.kept (t' := s.toks) fun b o e => hx b o (Nat.ne_of_lt (Heap.lt_size e)) e
  exact h pins _ σ H xs _ Q I1 (by simpa using rv) hw
/-- o[i] = .. -/
def gSub (to ti : TE) (t : TSet) : TG := fun v σ H Q => to σ H fun o H1 => ti σ H1 fun i H2 => t o i v H2 fun H3 => Q σ H3
theorem pg_sub {o i : Expr} {to ti : TE} {t : TSet} (ho : PE X o to) (hi : PE X i ti) (hs : PSet X t)
    (ha : ∀ v, assign (.Subscript o i pos) X.env v = (do
      let ov ← holding [v] (eval o X.env)
      let iv ← holding [v, ov] (eval i X.env)
      standAt pos
      holding [v, ov, iv] (setItem ov iv v)
      release [v, ov, iv] []) := by intro _; rfl) : PG X (.Subscript o i pos) (gSub to ti t) := by
  intro pins s σ H v u Q I r h
  rw [ha]
  refine wpAny_bind (wpAny_holding (thn (ho pins s σ H _ I h) fun ov s1 ⟨x, H1, I1, r1, q1⟩ => ?_))
  refine wpAny_bind (wpAny_holding (thn (hi pins s1 σ H1 _ I1 q1) fun iv s2 ⟨y, H2, I2, r2, q2⟩ => ?_))
  refine wpAny_bind (wpAny_standAt (wpAny_bind (wpAny_holding (thn (hs pins s2 σ H2 x y v ov iv u _ I2 r1 r2 r q2) fun _ s3 ⟨H3, I3, q3⟩ => ?_))))
  exact wpAny_release ⟨σ, H3, I3, q3⟩
/-- target = value -/
def tAsg (te : TE) (g : TG) : TS := fun D σ H => te σ H fun x H1 => g x σ H1 D.nx
theorem ps_asg {tg e : Expr} {te : TE} {g : TG} (he : PE X e te) (hg : PG X tg g) (hs : swapsWithSole [tg] e pos.line X.env = pure false := by rfl) (hw : swappedStores [tg] e X.env = pure none := by rfl)
    (h1 : (assignEach [tg] X.env).map (·.2) = [assign tg X.env] := by rfl) : PS X (.Assign [tg] e pos) (tAsg te g) := by
  intro pins s σ H D I h
  refine wpAny_Assign_stores (thn (he pins s σ H _ I h) fun v s1 ⟨x, H1, I1, r1, q1⟩ => ?_) hs hw
  rw [h1]
  exact thn (hg pins s1 σ H1 x v _ I1 r1 q1) fun _ s2 q => q
/-- name = value -/
theorem ps_set {i : Nat} {x : Str} {e : Expr} {te : TE} {pos' : Pos} (hN : X.N.Nodup) (hi : X.N[i]? = some x) (hx : Loc X.env.scope x) (he : PE X e te) (hs : swapsWith e (some (.Name x pos')) pos.line X.env = pure false := by rfl) (hf : X.fn x = true ∨ X.env.scope.names.lookup x = some .local := by first | exact .inl rfl | exact .inr rfl | assumption) :
    PS X (.Assign [.Name x pos'] e pos) (tAsg te (gName i)) := by
  intro pins s σ H D I h
  refine wpAny_Assign_Name (thn (he pins s σ H _ I h) fun v s1 ⟨y, H1, I1, r1, q1⟩ => ?_) hs
  exact store_ok I1 hN hi hx r1 (fun s2 I2 => ⟨_, H1, I2, q1⟩) hf
end
/-! ### while -/
section
variable {X : Cx} {pos : Pos}
end
/-! ### what a loop or a comprehension walks -/
/-- at turn i: it yields x (the heap may grow), or it stops -/
structure It where
  go : Nat → Hp → Prop
  yld : Nat → Hp → V → Hp → Prop
  stop : Nat → Hp → Prop
/-- the iterator's own objects may turn: they are not the frame's, not pinned, younger than the entry (or a comprehension's own) -/
def FpOk (X : Cx) (pins : List (Addr × Obj)) (H : Hp) (b : Addr) : Prop :=
  H b = none ∧ b ≠ X.env.locals ∧ b ∉ X.fs ∧ (b ∈ X.ex ∨ X.s₀.heap.objs.size ≤ b) ∧ (∀ x c, X.env.cells.lookup x = some c → c ≠ b) ∧ ∀ p ∈ X.pn ++ pins, p.1 ≠ b
theorem Inv.fpOk {X : Cx} {pins : List (Addr × Obj)} {σ : St} {H H' : Hp} {s : Shared} {b : Addr} (I : Inv X pins σ H s) (hb : s.heap.objs.size ≤ b) (hn : H' b = none) : FpOk X pins H' b := by
  refine ⟨hn, Nat.ne_of_gt (Nat.lt_of_lt_of_le I.lt hb), I.nofs hb, .inr (Nat.le_trans I.sz hb), fun x c e z => ?_, fun p hp z => ?_⟩
  · obtain ⟨v, q⟩ := I.cell x c e
    exact absurd (Nat.lt_of_lt_of_le q.lt (by rw [z]; exact hb)) (Nat.lt_irrefl _)
  · exact absurd (Nat.lt_of_lt_of_le (Heap.lt_size (I.pin p hp).1) (by rw [z]; exact hb)) (Nat.lt_irrefl _)
structure Turn (P : Program) (w : World) (K : PySem.W.Frag) (tg : Expr) (J : It) (fp : List Addr) (it : Addr) (tn : Nat → Heap → Prop) : Prop where
  mem : it ∈ fp
  obj : ∀ i h, tn i h → ∀ b ∈ fp, ∃ o, h.get? b = some o ∧ ∀ v, o.data ≠ .cell v
  keep : ∀ i h h', tn i h → (∀ b ∈ fp, ∀ o, h.get? b = some o → h'.get? b = some o) → tn i h'
  item : ∀ (X : Cx), X.prog = P → X.w = w → X.K = K → X.calm = true → ∀ (i : Nat) (pins : List (Addr × Obj)) (s : Shared) (σ : St) (H : Hp) (E : Value → Shared → Prop), Inv X pins σ H s → (∀ b ∈ fp, FpOk X pins H b) → tn i s.heap → J.go i H →
    wpAny (model P w) X.A (pyNext (.ref it)) (fun r s1 => ∃ u, r = some u ∧
      wpAny (model P w) X.A (letOwnedTupleGo tg (.ref it) u) (fun _ s2 => ∃ x H', Inv X pins σ H' s2 ∧ RelV x u ∧ J.yld i H x H' ∧ tn (i + 1) s2.heap ∧ ∀ b ∈ fp, H' b = none) E s1) E s
  done : ∀ (X : Cx), X.prog = P → X.w = w → X.K = K → X.calm = true → ∀ (i : Nat) (pins : List (Addr × Obj)) (s : Shared) (σ : St) (H : Hp) (E : Value → Shared → Prop), Inv X pins σ H s → (∀ b ∈ fp, FpOk X pins H b) → tn i s.heap → J.stop i H →
    wpAny (model P w) X.A (pyNext (.ref it)) (fun r s1 => r = none ∧ Inv X pins σ H s1) E s
  self : ∀ (A : Around) (i : Nat) (s : Shared) (Q : Value → Shared → Prop) (E : Value → Shared → Prop), tn i s.heap → Q (.ref it) s → wpAny (model P w) A (pyIter (.ref it)) Q E s
abbrev TI := St → Hp → (It → Hp → Prop) → Prop
/-- an iterator has come -/
def PIE (X : Cx) (pins : List (Addr × Obj)) (σ : St) (tg : Expr) (R : It → Hp → Prop) (itv : Value) (s2 : Shared) : Prop :=
  ∃ (it : Addr) (fp : List Addr) (tn : Nat → Heap → Prop) (J : It) (H' : Hp), itv = .ref it ∧ Inv X pins σ H' s2 ∧ Turn X.prog X.w X.K tg J fp it tn ∧ tn 0 s2.heap ∧ (∀ b ∈ fp, FpOk X pins H' b) ∧ R J H'
def PI (X : Cx) (tg iter : Expr) (wi : TI) : Prop :=
  ∀ (pins : List (Addr × Obj)) (s : Shared) (σ : St) (H : Hp) (R : It → Hp → Prop), Inv X pins σ H s → wi σ H R →
    wpAny (model X.prog X.w) X.A (eval iter X.env) (fun v s1 => wpAny (model X.prog X.w) X.A (pyIter v) (PIE X pins σ tg R) X.xe s1) X.xe s
/-- the step ahead of the store is nothing for an iterator that keeps no tuple -/
theorem go_of {M : Model} {A : Around} {E : Value → Shared → Prop} {s : Shared} {tg : Expr} {it : Addr} {u : Value} {o : Obj} {n : String} {vs : Array Value} {Q : Unit → Shared → Prop} (ho : s.heap.get? it = some o) (hc : o.cls = .type n) (hd : o.data = .fields vs)
    (hn : ["enumerate", "zip", "dict_itemiterator", "dict_reverseitemiterator", "odict_iterator", "itertools.zip_longest", "itertools.pairwise"].contains n = false) (hQ : Q () s) : wpAny M A (letOwnedTupleGo tg (.ref it) u) Q E s := by
  unfold letOwnedTupleGo
  cases tg <;> first
    | exact wpAny_pure hQ
    | (cases u <;> first
        | exact wpAny_pure hQ
        | (refine wpAny_bind (wpAny_load ho ?_)
           rw [hc, hd]
           show wpAny M A (if (["enumerate", "zip", "dict_itemiterator", "dict_reverseitemiterator", "odict_iterator", "itertools.zip_longest", "itertools.pairwise"].contains n && vs[0]? == some (rawInt _)) = true then _ else _) Q E s
           rw [if_neg (by intro h; rw [hn, Bool.false_and] at h; cases h)]
           exact wpAny_pure hQ))
/-- the list at a, as it stands at each turn (a loop may append to it) -/
def Itl (K : PySem.W.Frag) (a : Addr) : It :=
  ⟨fun i H => ∃ xs x, SqL K H a xs ∧ xs[i]? = some x, fun i H x H' => H' = H ∧ ∀ xs, SqL K H a xs → xs[i]? = some x, fun i H => ∃ xs, SqL K H a xs ∧ xs.length ≤ i⟩
def Itt (K : PySem.W.Frag) (a : Addr) : It :=
  ⟨fun i H => ∃ xs x, SqT K H a xs ∧ xs[i]? = some x, fun i H x H' => H' = H ∧ ∀ xs, SqT K H a xs → xs[i]? = some x, fun i H => ∃ xs, SqT K H a xs ∧ xs.length ≤ i⟩
/-- lo, lo + 1, .. (n of them) -/
def Itr (lo : Int) (n : Nat) : It := ⟨fun i _ => i < n, fun i H x H' => H' = H ∧ x = .int (lo + i), fun i _ => n ≤ i⟩
theorem turn_list {P : Program} {w : World} {K : PySem.W.Frag} {tg : Expr} (a it : Addr) : Turn P w K tg (Itl K a) [it] it (fun i h => h.IsListIter it a i) where
  mem := by simp
  obj := fun i h st b hb => by
    have e : b = it := by simpa using hb
    subst e
    obtain ⟨o, e, c, d⟩ := st
    exact ⟨o, e, fun v z => by rw [d] at z; cases z⟩
  keep := fun i h h' st k => st.at fun o e => k it (by simp) o e
  item := by
    intro X hP hw hK hc i pins s σ H E I hf st hg
    subst hP hw hK
    obtain ⟨xs, x, hq, hx⟩ := hg
    obtain ⟨its, rv, p, hz⟩ := I.list hq
    obtain ⟨u, hu, ru⟩ := rv.get hx
    obtain ⟨f0, f1, f2, f3, f4, f5⟩ := hf it (by simp)
    refine wpAny_pyNext_list_item st p.isList (x := u) (by simpa using hu) fun h' st' sb => ?_
    have I1 : Inv X pins σ H { s with heap := h' } := I.turned (t' := s.toks) (fun b o hb e => (sb.2 b hb).trans e) f0 f1 f3 f4 f5
    obtain ⟨o, e, c, d⟩ := id st'
    exact ⟨u, rfl, go_of (s := { s with heap := h' }) e c d (by decide) ⟨x, H, I1, ru, ⟨rfl, fun ys hy => by rw [I.list_inj hy hq]; exact hx⟩, st', fun b hb => (hf b hb).1⟩⟩
  done := by
    intro X hP hw hK hc i pins s σ H E I hf st hg
    subst hP hw hK
    obtain ⟨xs, hq, hx⟩ := hg
    obtain ⟨its, rv, p, hz⟩ := I.list hq
    obtain ⟨f0, f1, f2, f3, f4, f5⟩ := hf it (by simp)
    have hl := rv.length
    exact wpAny_pyNext_list_end (I.ok.hd hc) st p.isList (by simp; omega) fun h' eb => ⟨rfl, I.turned (t' := s.toks) (fun b o hb e => eb b o hb e) f0 f1 f3 f4 f5⟩
  self := fun _ _ _ _ _ st h => wpAny_pyIter_listiter st h
theorem turn_tuple {P : Program} {w : World} {K : PySem.W.Frag} {tg : Expr} (a it : Addr) : Turn P w K tg (Itt K a) [it] it (fun i h => h.IsTupleIter it a i) where
  mem := by simp
  obj := fun i h st b hb => by
    have e : b = it := by simpa using hb
    subst e
    obtain ⟨o, e, c, d⟩ := st
    exact ⟨o, e, fun v z => by rw [d] at z; cases z⟩
  keep := fun i h h' st k => st.at fun o e => k it (by simp) o e
  item := by
    intro X hP hw hK hc i pins s σ H E I hf st hg
    subst hP hw hK
    obtain ⟨xs, x, hq, hx⟩ := hg
    obtain ⟨its, rv, p, hz⟩ := I.tuple hq
    obtain ⟨u, hu, ru⟩ := rv.get hx
    obtain ⟨f0, f1, f2, f3, f4, f5⟩ := hf it (by simp)
    refine wpAny_pyNext_tuple_item st (show s.heap.IsTuple a its.toArray from p) (x := u) (by simpa using hu) fun h' st' sb => ?_
    have I1 : Inv X pins σ H { s with heap := h' } := I.turned (t' := s.toks) (fun b o hb e => (sb.2 b hb).trans e) f0 f1 f3 f4 f5
    obtain ⟨o, e, c, d⟩ := id st'
    exact ⟨u, rfl, go_of (s := { s with heap := h' }) e c d (by decide) ⟨x, H, I1, ru, ⟨rfl, fun ys hy => by rw [I.tuple_inj hy hq]; exact hx⟩, st', fun b hb => (hf b hb).1⟩⟩
  done := by
    intro X hP hw hK hc i pins s σ H E I hf st hg
    subst hP hw hK
    obtain ⟨xs, hq, hx⟩ := hg
    obtain ⟨its, rv, p, hz⟩ := I.tuple hq
    obtain ⟨f0, f1, f2, f3, f4, f5⟩ := hf it (by simp)
    have hl := rv.length
    exact wpAny_pyNext_tuple_end (I.ok.hd hc) st (show s.heap.IsTuple a its.toArray from p) (by simp; omega) fun h' eb => ⟨rfl, I.turned (t' := s.toks) (fun b o hb e => eb b o hb e) f0 f1 f3 f4 f5⟩
  self := fun _ _ _ _ _ st h => wpAny_pyIter_tupleiter st h
theorem turn_range {P : Program} {w : World} {K : PySem.W.Frag} {tg : Expr} (it : Addr) (lo : Int) (n : Nat) : Turn P w K tg (Itr lo n) [it] it (fun i h => IsRangeIter h it (lo + (i : Nat) * 1) ((n : Int) - (i : Nat)) 1) where
  mem := by simp
  obj := fun i h st b hb => by
    have e : b = it := by simpa using hb
    subst e
    exact ⟨_, st, fun v z => by
      have z' : Data.fields _ = Data.cell v := z
      cases z'⟩
  keep := fun i h h' st k => k it (by simp) _ st
  item := by
    intro X hP hw hK hc i pins s σ H E I hf st hg
    subst hP hw hK
    obtain ⟨f0, f1, f2, f3, f4, f5⟩ := hf it (by simp)
    have W := Walks.range (prog := X.prog) (w := X.w) (I.ok.hd hc) it lo 1 n
    refine W.item i s _ _ hg st fun v h' tk hv st' kk => ?_
    obtain ⟨t, rfl⟩ := hv
    have I1 : Inv X pins σ H { s with heap := h', toks := tk } := I.turned (fun b o hb e => kk b o (by simpa using hb) e) f0 f1 f3 f4 f5
    refine ⟨_, rfl, go_of (s := { s with heap := h', toks := tk }) (n := "range_iterator") st' rfl rfl (by decide) ⟨.int (lo + i), H, I1, ⟨t, ?_⟩, ⟨rfl, rfl⟩, st', fun b hb => (hf b hb).1⟩⟩
    rw [Int.mul_one]
  done := by
    intro X hP hw hK hc i pins s σ H E I hf st hg
    subst hP hw hK
    obtain ⟨f0, f1, f2, f3, f4, f5⟩ := hf it (by simp)
    exact wpAny_pyNext_range_end (I.ok.hd hc) st (by have : n ≤ i := hg; omega) fun h' eb => ⟨rfl, I.turned (t' := s.toks) (fun b o hb e => eb b o hb e) f0 f1 f3 f4 f5⟩
  self := fun _ _ _ _ _ st h => wpAny_pyIter_rangeiter st h
end L2
namespace L2
open PySem PySem.Spec PyProof.Rows
section
variable {X : Cx} {tg : Expr}
def iList (K : PySem.W.Frag) (tl : TE) : TI := fun σ H R => tl σ H fun x H1 => ∃ a, x = .ref a ∧ (∃ xs, SqL K H1 a xs) ∧ R (Itl K a) H1
def iTup (K : PySem.W.Frag) (tl : TE) : TI := fun σ H R => tl σ H fun x H1 => ∃ a, x = .ref a ∧ (∃ xs, SqT K H1 a xs) ∧ R (Itt K a) H1
theorem pi_list {l : Expr} {tl : TE} (hl : PE X l tl) : PI X tg l (iList X.K tl) := by
  intro pins s σ H R I h
  refine thn (hl pins s σ H _ I h) fun v s1 ⟨x, H1, I1, r1, q1⟩ => ?_
  obtain ⟨a, e, ⟨xs, hq⟩, q⟩ := q1
  subst e
  cases r1
  obtain ⟨its, rv, p, hz⟩ := I1.list hq
  refine wpAny_pyIter_list p.isList ?_
  refine ⟨s1.heap.objs.size, [s1.heap.objs.size], _, _, H1, rfl, I1.kept (t' := s1.toks) fun b o e => Heap.get?_push_of_some _ e, turn_list a _, ⟨_, Heap.get?_push_size _ rfl, rfl, rfl⟩, fun b hb => ?_, q⟩
  have e : b = s1.heap.objs.size := by simpa using hb
  subst e
  exact I1.fpOk (Nat.le_refl _) (I1.hok.fresh (Nat.le_refl _))
theorem pi_tup {l : Expr} {tl : TE} (hl : PE X l tl) : PI X tg l (iTup X.K tl) := by
  intro pins s σ H R I h
  refine thn (hl pins s σ H _ I h) fun v s1 ⟨x, H1, I1, r1, q1⟩ => ?_
  obtain ⟨a, e, ⟨xs, hq⟩, q⟩ := q1
  subst e
  cases r1
  obtain ⟨its, rv, p, hz⟩ := I1.tuple hq
  refine wpAny_pyIter_tuple (show s1.heap.IsTuple a its.toArray from p) ?_
  refine ⟨s1.heap.objs.size, [s1.heap.objs.size], _, _, H1, rfl, I1.kept (t' := s1.toks) fun b o e => Heap.get?_push_of_some _ e, turn_tuple a _, ⟨_, Heap.get?_push_size _ rfl, rfl, rfl⟩, fun b hb => ?_, q⟩
  have e : b = s1.heap.objs.size := by simpa using hb
  subst e
  exact I1.fpOk (Nat.le_refl _) (I1.hok.fresh (Nat.le_refl _))
/-- a range object just made, walked -/
theorem range_it {pins : List (Addr × Obj)} {σ : St} {H : Hp} {s : Shared} {R : It → Hp → Prop} {E : Value → Shared → Prop} {lo hi : Int} {t u v : Tok} {tk : Nat} (I : Inv X pins σ H s) (h1 : -(2 ^ 62) ≤ lo) (h2 : lo < 2 ^ 62) (h3 : -(2 ^ 62) ≤ hi) (h4 : hi < 2 ^ 62)
    (q : R (Itr lo (hi - lo).toNat) H) : wpAny (model X.prog X.w) X.A (pyIter (.ref s.heap.objs.size)) (PIE X pins σ tg R) E { s with heap := s.heap.push { cls := .type "range", data := .fields #[.int lo t, .int hi u, .int 1 v] }, toks := tk } := by
  refine wpAny_pyIter_range (IsRange.new ..) (small_one h1 h2 h3 h4) ?_
  have I1 : Inv X pins σ H { s with heap := s.heap.push { cls := .type "range", data := .fields #[.int lo t, .int hi u, .int 1 v] }, toks := tk } := I.kept fun b o e => Heap.get?_push_of_some _ e
  refine ⟨(s.heap.push { cls := .type "range", data := .fields #[.int lo t, .int hi u, .int 1 v] }).objs.size, [(s.heap.push { cls := .type "range", data := .fields #[.int lo t, .int hi u, .int 1 v] }).objs.size], _, _, H, rfl,
    I1.kept (t' := tk) fun b o e => Heap.get?_push_of_some _ e, turn_range _ lo (hi - lo).toNat, ?_, fun b hb => ?_, q⟩
  · have e1 : lo + ((0 : Nat) : Int) * 1 = lo := by simp
    have e2 : (((hi - lo).toNat : Nat) : Int) - ((0 : Nat) : Int) = Builtin.Range.rangeSize lo hi 1 := by rw [rangeSize_one]; split <;> omega
    show IsRangeIter _ _ (lo + ((0 : Nat) : Int) * 1) ((((hi - lo).toNat : Nat) : Int) - ((0 : Nat) : Int)) 1
    rw [e1, e2]
    exact Heap.get?_push_size _ rfl
  · have e : b = (s.heap.push { cls := .type "range", data := .fields #[.int lo t, .int hi u, .int 1 v] }).objs.size := by simpa using hb
    subst e
    exact I1.fpOk (Nat.le_refl _) (I1.hok.fresh (Nat.le_refl _))
def iRng1 (ta : TA) : TI := fun σ H R => ta σ H fun vs H1 => ∃ j : Int, vs = [.int j] ∧ -(2 ^ 62) ≤ j ∧ j < 2 ^ 62 ∧ R (Itr 0 j.toNat) H1
def iRng2 (ta : TA) : TI := fun σ H R => ta σ H fun vs H1 => ∃ i j : Int, vs = [.int i, .int j] ∧ (-(2 ^ 62) ≤ i ∧ i < 2 ^ 62 ∧ -(2 ^ 62) ≤ j ∧ j < 2 ^ 62) ∧ R (Itr i (j - i).toNat) H1
theorem pi_range1 {a : Expr} {ta : TA} {p pos : Pos} (hg : Gl X "range") (hm : X.mg "range" = none) (ha : PA X [a] ta) (hs : starEach [a] X.env = [(false, eval a X.env)] := by rfl) : PI X tg (.Call (.Name "range" p) [a] [] pos) (iRng1 ta) := by
  intro pins s σ H R I h
  refine Call_ (ld_blt I hg hm boot_range (PyProof.Rows.callWith_type1 (thn (ha pos pins s σ H _ I h) fun us s1 ⟨vs, H1, I1, r1, q1⟩ => ?_) hs rfl))
  obtain ⟨j, e, q1, q2, q⟩ := q1
  subst e
  cases r1 with
  | cons r rr =>
    cases rr
    obtain ⟨t, rfl⟩ := r
    exact call_range_1 (range_it I1 (by omega) (by omega) q1 q2 (by simpa using q))
theorem pi_range2 {a b : Expr} {ta : TA} {p pos : Pos} (hg : Gl X "range") (hm : X.mg "range" = none) (ha : PA X [a, b] ta) (hs : starEach [a, b] X.env = [(false, eval a X.env), (false, eval b X.env)] := by rfl) (hs2 : starEach [b] X.env = [(false, eval b X.env)] := by rfl) :
    PI X tg (.Call (.Name "range" p) [a, b] [] pos) (iRng2 ta) := by
  intro pins s σ H R I h
  refine Call_ (ld_blt I hg hm boot_range (PyProof.Rows.callWith_type1 (thn (ha pos pins s σ H _ I h) fun us s1 ⟨vs, H1, I1, r1, q1⟩ => ?_) (by rw [hs, hs2]) (by rw [hs2]; rfl)))
  obtain ⟨i, j, e, ⟨q1, q2, q3, q4⟩, q⟩ := q1
  subst e
  cases r1 with
  | cons r rr =>
    cases rr with
    | cons r' rr =>
      cases rr
      obtain ⟨t, rfl⟩ := r
      obtain ⟨t', rfl⟩ := r'
      exact call_range_2 (range_it I1 q1 q2 q3 q4 q)
/-! ### for -/
/-- W: the invariant by the turn and a measure; N: what the body is to reach -/
def tFor (wi : TI) (g : TG) (tb : TS) : TS := fun D σ H => wi σ H fun J H1 => ∃ W : Nat → Nat → St → Hp → Prop, (∃ m, W 0 m σ H1) ∧ ∀ i m σ H, W i m σ H →
  (J.stop i H ∧ D.nx σ H) ∨ (J.go i H ∧ ∃ N : St → Hp → Prop, (∀ σ' H', N σ' H' → ∃ m', m' < m ∧ W (i + 1) m' σ' H') ∧ ∀ x H', J.yld i H x H' → g x σ H' fun σ2 H2 => tb { D with nx := N, ct := N, bk := D.nx } σ2 H2)
/-- the records at fp as they stand -/
def pinsAt (fp : List Addr) (h : Heap) : List (Addr × Obj) := fp.filterMap fun b => (h.get? b).map fun o => (b, o)
theorem mem_pinsAt {fp : List Addr} {h : Heap} {b : Addr} {o : Obj} (hb : b ∈ fp) (e : h.get? b = some o) : (b, o) ∈ pinsAt fp h := List.mem_filterMap.mpr ⟨b, hb, by rw [e]; rfl⟩
theorem of_pinsAt {fp : List Addr} {h : Heap} {p : Addr × Obj} (hp : p ∈ pinsAt fp h) : p.1 ∈ fp ∧ h.get? p.1 = some p.2 := by
  obtain ⟨b, hb, e⟩ := List.mem_filterMap.mp hp
  cases q : h.get? b with
  | none => rw [q] at e; cases e
  | some o =>
    rw [q] at e
    have e' : (b, o) = p := Option.some.inj e
    subst e'
    exact ⟨hb, q⟩
theorem Inv.pinned {pins : List (Addr × Obj)} {σ : St} {H : Hp} {s : Shared} {fp : List Addr} (I : Inv X pins σ H s) (hf : ∀ b ∈ fp, FpOk X pins H b) (ho : ∀ b ∈ fp, ∃ o, s.heap.get? b = some o ∧ ∀ v, o.data ≠ .cell v) : Inv X (pins ++ pinsAt fp s.heap) σ H s :=
  I.pins_of fun p hp => (List.mem_append.mp hp).elim (fun z => I.pin p (List.mem_append_right _ z)) fun z => by
    obtain ⟨hb, e⟩ := of_pinsAt z
    obtain ⟨f0, f1, f2, _⟩ := hf p.1 hb
    obtain ⟨o, e', d⟩ := ho p.1 hb
    rw [e] at e'; cases e'
    exact ⟨e, f0, f1, f2, d⟩
theorem Inv.unpinned {pins pl : List (Addr × Obj)} {σ : St} {H : Hp} {s : Shared} (I : Inv X (pins ++ pl) σ H s) : Inv X pins σ H s := I.pins_of fun p hp => I.pin p (List.mem_append_right _ (List.mem_append_left _ hp))
theorem ps_for {iter : Expr} {body : List Stmt} {wi : TI} {g : TG} {tb : TS} {pos : Pos} (hp : PassesOwn (model X.prog X.w) X.A X.env X.xe) (hc : X.calm = true) (hi : PI X tg iter wi) (hg : PG X tg g) (hb : PSs X body tb)
    (hs : ∀ x, foldedSetIterable iter X.env x = pure x := by intro _; rfl) : PS X (.For tg iter body [] pos) (tFor wi g tb) := by
  intro pins s σ H D I h
  refine wpAny_For (thn (hi pins s σ H _ I h) fun v s1 h1 => thn h1 fun itv s2 h2 => ?_) hs
  obtain ⟨it, fp, tn, J, H2, e, I2, T, st2, f2, W, ⟨m0, w0⟩, turn⟩ := h2
  subst e
  -- what stays true of the iterator's objects through the loop
  have stat : ∀ {H' : Hp}, (∀ b ∈ fp, H' b = none) → ∀ b ∈ fp, FpOk X pins H' b := fun hn b hb => ⟨hn b hb, (f2 b hb).2⟩
  refine codeAny_forLoop_any (fun n s' => ∃ i σ' H', Inv X pins σ' H' s' ∧ tn i s'.heap ∧ (∀ b ∈ fp, H' b = none) ∧ W i n σ' H') ?_ m0 ⟨0, σ, H2, I2, st2, fun b hb => (f2 b hb).1, w0⟩
  rintro n s3 ⟨i, σ3, H3, I3, st3, fr3, w3⟩
  rcases turn i n σ3 H3 w3 with ⟨stop, qn⟩ | ⟨go, N, hN, step⟩
  · refine wpAny_passesOwn hp (thn (T.done X rfl rfl rfl hc i pins s3 σ3 H3 X.xe I3 (stat fr3) st3 stop) fun r s4 ⟨hr, I4⟩ => ?_)
    subst hr
    exact wpAny_execs_nil ⟨σ3, H3, I4, qn⟩
  · refine wpAny_passesOwn hp (thn (T.item X rfl rfl rfl hc i pins s3 σ3 H3 X.xe I3 (stat fr3) st3 go) fun r s4 ⟨u, hr, h4⟩ => ?_)
    subst hr
    refine wpAny_passesOwn hp (thn h4 fun _ s5 ⟨x, H5, I5, r5, y5, st5, fr5⟩ => ?_)
    have I5' := I5.pinned (stat fr5) (T.obj _ _ st5)
    refine wpAny_passesOwn hp (thn (hg _ s5 σ3 H5 x u _ I5' r5 (step x H5 y5)) fun _ s6 ⟨σ6, H6, I6, q6⟩ => ?_)
    refine wpAny_passesOwn hp (thn (hb _ s6 σ6 H6 _ I6 q6) fun f s7 q7 => ?_)
    have again : ∀ {σ7 : St} {H7 : Hp}, Inv X (pins ++ pinsAt fp s5.heap) σ7 H7 s7 → N σ7 H7 → ∃ m, m < n ∧ ∃ i σ' H', Inv X pins σ' H' s7 ∧ tn i s7.heap ∧ (∀ b ∈ fp, H' b = none) ∧ W i m σ' H' := fun {σ7 H7} I7 n7 => by
      obtain ⟨m', hm, w7⟩ := hN σ7 H7 n7
      refine ⟨m', hm, i + 1, σ7, H7, I7.unpinned, T.keep _ _ _ st5 fun b hb o e => (I7.pin (b, o) (List.mem_append_right _ (List.mem_append_right _ (mem_pinsAt hb e)))).1, fun b hb => ?_, w7⟩
      obtain ⟨o, e, d⟩ := T.obj _ _ st5 b hb
      exact (I7.pin (b, o) (List.mem_append_right _ (List.mem_append_right _ (mem_pinsAt hb e)))).2.1
    cases f with
    | next => obtain ⟨σ7, H7, I7, n7⟩ := q7; exact again I7 n7
    | cont => obtain ⟨σ7, H7, I7, n7⟩ := q7; exact again I7 n7
    | brk => obtain ⟨σ7, H7, I7, q7⟩ := q7; exact ⟨σ7, H7, I7.unpinned, q7⟩
    | ret v => obtain ⟨x7, σ7, H7, I7, r7, q7⟩ := q7; exact ⟨x7, σ7, H7, I7.unpinned, r7, q7⟩
end
/-! ### the forms one uses -/
end L2
namespace L2
open PySem PySem.Spec PyProof.Rows
abbrev R2 := V → V → Hp → VK → Prop
/-- a two-place operation on values: f is binaryOp op, inplaceOp op or compareOp op -/
def OpR (X : Cx) (f : Value → Value → Sem Value) (r : R2) : Prop :=
  ∀ (pins : List (Addr × Obj)) (s : Shared) (σ : St) (H : Hp) (x y : V) (v u : Value) (Q : VK), Inv X pins σ H s → RelV x v → RelV y u → r x y H Q →
    wpAny (model X.prog X.w) X.A (f v u) (EP X pins σ Q) X.xe s
/-- a call of a value that is known (a builtin, a type) with values -/
def CallR (X : Cx) (f : Value) (r : List V → Hp → VK → Prop) : Prop :=
  ∀ (pins : List (Addr × Obj)) (s : Shared) (σ : St) (H : Hp) (xs : List V) (us : List Value) (Q : VK), Inv X pins σ H s → Vals xs us → r xs H Q →
    wpAny (model X.prog X.w) X.A (call f us) (EP X pins σ Q) X.xe s
/-- a value's truth -/
def TruR (X : Cx) (r : V → Hp → (Bool → Hp → Prop) → Prop) : Prop :=
  ∀ (pins : List (Addr × Obj)) (s : Shared) (σ : St) (H : Hp) (x : V) (v : Value) (Q : Bool → Hp → Prop), Inv X pins σ H s → RelV x v → r x H Q →
    wpAny (model X.prog X.w) X.A (truthy v) (TP X pins σ Q) X.xe s
def tOp (r : R2) (ta tb : TE) : TE := fun σ H Q => ta σ H fun x H1 => tb σ H1 fun y H2 => r x y H2 Q
def tUn (r : V → Hp → VK → Prop) (ta : TE) : TE := fun σ H Q => ta σ H fun x H1 => r x H1 Q
/-- ints in, under C, and a value out -/
def rI (C : Int → Int → Prop) (g : Int → Int → V) : R2 := fun x y H Q => ∃ i j, x = .int i ∧ y = .int j ∧ C i j ∧ Q (g i j) H
def rI0 (g : Int → Int → V) : R2 := fun x y H Q => ∃ i j, x = .int i ∧ y = .int j ∧ Q (g i j) H
section
variable {X : Cx} {a b c : Expr} {ta tb tc : TE} {pos : Pos}
theorem binT (ha : PE X a ta) (hb : PE X b tb) {pins : List (Addr × Obj)} {s : Shared} {σ : St} {H : Hp} {R : V → V → Hp → Prop} (I : Inv X pins σ H s)
    (h : ta σ H fun x H1 => tb σ H1 fun y H2 => R x y H2) {Q : Value → Shared → Prop} {f : Value → Value → Sem Value}
    (hf : ∀ v u s2 x y H2, Inv X pins σ H2 s2 → RelV x v → RelV y u → R x y H2 → wpAny (model X.prog X.w) X.A (f v u) Q X.xe s2) :
    wpAny (model X.prog X.w) X.A (eval a X.env) (fun v s₁ => wpAny (model X.prog X.w) X.A (eval b X.env) (fun u s₂ => wpAny (model X.prog X.w) X.A (f v u) Q X.xe s₂) X.xe s₁) X.xe s := by
  refine thn (ha pins s σ H _ I h) fun v s1 ⟨x, H1, I1, r1, q1⟩ => ?_
  refine thn (hb pins s1 σ H1 _ I1 q1) fun u s2 ⟨y, H2, I2, r2, q2⟩ => ?_
  exact hf v u s2 x y H2 I2 r1 r2 q2
theorem pe_op {op : Operator} {r : R2} (ho : OpR X (binaryOp op) r) (ha : PE X a ta) (hb : PE X b tb) : PE X (.BinOp a op b pos) (tOp r ta tb) := by
  intro pins s σ H Q I h
  exact wpAny_BinOp (binT ha hb I h fun v u s2 x y H2 I2 rx ry q => ho pins s2 σ H2 x y v u Q I2 rx ry q)
/-! ### ints -/
theorem opI {f : Value → Value → Sem Value} {C : Int → Int → Prop} {g : Int → Int → Int}
    (rule : ∀ (i j : Int) (t u : Tok) (s : Shared) (Q : Value → Shared → Prop) (E : Value → Shared → Prop), C i j → Q (.int (g i j) s.toks) { s with toks := s.toks + 1 } → wpAny (model X.prog X.w) X.A (f (.int i t) (.int j u)) Q E s) :
    OpR X f (rI C fun i j => .int (g i j)) := by
  intro pins s σ H x y v u Q I rx ry h
  obtain ⟨i, j, rfl, rfl, hc, q⟩ := h
  obtain ⟨t, rfl⟩ := rx
  obtain ⟨t', rfl⟩ := ry
  exact rule i j t t' s _ _ hc ⟨.int (g i j), H, I.tok _, ⟨_, rfl⟩, q⟩
theorem opI0 {f : Value → Value → Sem Value} {g : Int → Int → Int}
    (rule : ∀ (i j : Int) (t u : Tok) (s : Shared) (Q : Value → Shared → Prop) (E : Value → Shared → Prop), Q (.int (g i j) s.toks) { s with toks := s.toks + 1 } → wpAny (model X.prog X.w) X.A (f (.int i t) (.int j u)) Q E s) :
    OpR X f (rI0 fun i j => .int (g i j)) := by
  intro pins s σ H x y v u Q I rx ry h
  obtain ⟨i, j, rfl, rfl, q⟩ := h
  obtain ⟨t, rfl⟩ := rx
  obtain ⟨t', rfl⟩ := ry
  exact rule i j t t' s _ _ ⟨.int (g i j), H, I.tok _, ⟨_, rfl⟩, q⟩
theorem opB0 {f : Value → Value → Sem Value} {g : Int → Int → Bool}
    (rule : ∀ (i j : Int) (t u : Tok) (s : Shared) (Q : Value → Shared → Prop) (E : Value → Shared → Prop), Q (.bool (g i j)) s → wpAny (model X.prog X.w) X.A (f (.int i t) (.int j u)) Q E s) :
    OpR X f (rI0 fun i j => .bl (g i j)) := by
  intro pins s σ H x y v u Q I rx ry h
  obtain ⟨i, j, rfl, rfl, q⟩ := h
  obtain ⟨t, rfl⟩ := rx
  obtain ⟨t', rfl⟩ := ry
  exact rule i j t t' s _ _ ⟨.bl (g i j), H, I, rfl, q⟩
def CMul (i j : Int) : Prop := (-(2 ^ 64) < i ∧ i < 2 ^ 64) ∨ (-(2 ^ 64) < j ∧ j < 2 ^ 64)
theorem CMul.ok {i j : Int} (h : CMul i j) : IntMulOk i j := by
  rcases h with ⟨h1, h2⟩ | ⟨h1, h2⟩
  · exact .of_left (intBits_le_64 h1 h2)
  · exact .of_right (intBits_le_64 h1 h2)
theorem op_add : OpR X (binaryOp .Add) (rI0 fun i j => .int (i + j)) := opI0 fun _ _ _ _ _ _ _ q => add_int q
theorem op_mul : OpR X (binaryOp .Mult) (rI CMul fun i j => .int (i * j)) := opI fun _ _ _ _ _ _ _ hc q => mul_int q hc.ok
/-- % by a positive divisor of any size -/
theorem op_mod : OpR X (binaryOp .Mod) (rI (fun _ j => 0 < j) fun i j => .int (i % j)) := opI fun i j _ _ _ _ _ hc q => by
  have h1 : (0 : Int) < j := hc
  exact mod_int' (by omega) (by rw [Int.fmod_eq_emod_of_nonneg i (by omega)]; exact q)
/-! ### bools among ints: n += (a < b) -/
end
/-! ### comparisons -/
section
variable {X : Cx} {a b c : Expr} {ta tb tc : TE} {pos : Pos}
theorem op_lt : OpR X (compareOp .Lt) (rI0 fun i j => .bl (decide (i < j))) := opB0 fun _ _ _ _ _ _ _ q => lt_int q
theorem op_le : OpR X (compareOp .LtE) (rI0 fun i j => .bl (decide (i ≤ j))) := opB0 fun _ _ _ _ _ _ _ q => le_int q
theorem op_gt : OpR X (compareOp .Gt) (rI0 fun i j => .bl (decide (j < i))) := opB0 fun _ _ _ _ _ _ _ q => gt_int q
/-- two rules for one operation: by cases -/
theorem OpR.or {f : Value → Value → Sem Value} {r r' : R2} (h : OpR X f r) (h' : OpR X f r') : OpR X f (fun x y H Q => r x y H Q ∨ r' x y H Q) := by
  intro pins s σ H x y v u Q I rx ry q
  rcases q with q | q
  · exact h pins s σ H x y v u Q I rx ry q
  · exact h' pins s σ H x y v u Q I rx ry q
theorem nomark (b : Expr) {op : CmpOp} (h : op ≠ .In := by decide) (h2 : op ≠ .NotIn := by decide) : behindInMarks op b = false := by
  have e1 : (op == CmpOp.In) = false := by cases op <;> first | rfl | exact absurd rfl h
  have e2 : (op == CmpOp.NotIn) = false := by cases op <;> first | rfl | exact absurd rfl h2
  cases b <;> simp [behindInMarks, e1, e2]
/-- a comparison as a value; hm: nomark b, or (for in, not in) by with_unfolding_all rfl -/
theorem pe_cmpR {op : CmpOp} {r : R2} (ho : OpR X (compareOp op) r) (ha : PE X a ta) (hb : PE X b tb) (hm : behindInMarks op b = false) : PE X (.Compare a [op] [b] pos) (tOp r ta tb) := by
  intro pins s σ H Q I h
  exact wpAny_Compare1 (binT ha hb I h fun v u s2 x y H2 I2 rx ry q => ho pins s2 σ H2 x y v u Q I2 rx ry q) hm
/-- a reading of a value as a test -/
def tTest (t : TE) : TT := fun σ H Q => t σ H fun x H' => ∃ k, x = .bl k ∧ Q k H'
theorem pt_cmpR {op : CmpOp} {r : R2} (ho : OpR X (compareOp op) r) (ha : PE X a ta) (hb : PE X b tb) (hm : behindInMarks op b = false) : PT X (.Compare a [op] [b] pos) (tTest (tOp r ta tb)) := by
  intro pins s σ H Q I h
  refine wpAny_isTrue_Compare1 (thn (ha pins s σ H _ I h) fun v s1 ⟨x, H1, I1, r1, q1⟩ => thn (hb pins s1 σ H1 _ I1 q1) fun u s2 ⟨y, H2, I2, r2, q2⟩ =>
    thn (ho pins s2 σ H2 x y v u _ I2 r1 r2 q2) fun c s3 ⟨z, H3, I3, r3, k, e, q3⟩ => ?_) hm
  subst e
  cases r3
  exact wpAny_truthy_bool ⟨H3, I3, q3⟩
/-! ### truth -/
/-- a value's truth by the abstract heap -/
def TruV (K : PySem.W.Frag) (x : V) (H : Hp) (k : Bool) : Prop :=
  match x with
  | .non => k = false
  | .bl b => k = b
  | .int i => k = (i != 0)
  | .str y => y.length ≤ sizeLine ∧ k = ((y.length : Int) != 0)
  | .byt y => y.size ≤ sizeLine ∧ k = ((y.size : Int) != 0)
  | .ref p => (∃ xs, SqL K H p xs ∧ k = !xs.isEmpty) ∨ (∃ xs, SqT K H p xs ∧ k = !xs.isEmpty) ∨ ∃ kvs, H p = some (.dK kvs) ∧ k = !kvs.isEmpty
  | _ => False
theorem isEmpty_kv {κ : Type} {kvs : List (κ × V)} {vs : List (κ × Value)} (r : KV kvs vs) : (!vs.isEmpty) = !kvs.isEmpty := by
  cases r <;> rfl
theorem isEmpty_of {xs : List V} {its : List Value} (r : Vals xs its) : (!its.toArray.isEmpty) = !xs.isEmpty := by
  cases r <;> simp
theorem line63 : (sizeLine : Nat) < 2 ^ 63 := by rw [sizeLine_eq]; decide
theorem tru_ok : TruR X (fun x H Q => ∃ k, TruV X.K x H k ∧ Q k H) := by
  intro pins s σ H x v Q I rx h
  obtain ⟨k, e, q⟩ := h
  have hl := line63
  have hs : sizeLine = 16777216 := sizeLine_eq
  cases x with
  | non =>
    cases rx
    have e' : k = false := e
    subst e'
    exact truthy_none ⟨H, I, q⟩
  | bl b =>
    cases rx
    have e' : k = b := e
    subst e'
    exact wpAny_truthy_bool ⟨H, I, q⟩
  | int i =>
    obtain ⟨t, rfl⟩ := rx
    have e' : k = (i != 0) := e
    subst e'
    exact PySem.P.truthy_int ⟨H, I, q⟩
  | str y =>
    obtain ⟨t, rfl⟩ := rx
    obtain ⟨hy, e'⟩ : y.length ≤ sizeLine ∧ k = ((y.length : Int) != 0) := e
    subst e'
    exact PySem.P.truthy_str (by omega) ⟨H, I.tok _, q⟩
  | byt y =>
    obtain ⟨t, rfl⟩ := rx
    obtain ⟨hy, e'⟩ : y.size ≤ sizeLine ∧ k = ((y.size : Int) != 0) := e
    subst e'
    exact PySem.W.truthy_bytes (by omega) ⟨H, I.tok _, q⟩
  | ref p =>
    cases rx
    have e' : (∃ xs, SqL X.K H p xs ∧ k = !xs.isEmpty) ∨ (∃ xs, SqT X.K H p xs ∧ k = !xs.isEmpty) ∨ ∃ kvs, H p = some (.dK kvs) ∧ k = !kvs.isEmpty := e
    rcases e' with ⟨xs, hx, e'⟩ | ⟨xs, hx, e'⟩ | ⟨kvs, hx, e'⟩
    · subst e'
      obtain ⟨its, r, pl, hz⟩ := I.list hx
      have hlen := r.length
      exact wpAny_truthy_list pl.isList (by simp only [List.size_toArray]; omega) ⟨H, I.tok _, by rw [isEmpty_of r]; exact q⟩
    · subst e'
      obtain ⟨its, r, pl, hz⟩ := I.tuple hx
      have hlen := r.length
      exact truthy_tuple pl (by simp only [List.size_toArray]; omega) ⟨H, I.tok _, by rw [isEmpty_of r]; exact q⟩
    · subst e'
      obtain ⟨hz, hS, vs, r, m⟩ : kvs.length ≤ sizeLine ∧ (p == sysModules) = false ∧ ∃ vs, KV kvs vs ∧ s.heap.DictOf (mixKind X.prog X.w) p vs := I.hok p _ hx
      have hlen : kvs.length = vs.length := Paired.length r
      exact wpAny_truthy_dict hS m (by omega) ⟨H, I.tok _, by rw [isEmpty_kv r]; exact q⟩
  | _ => exact (show False from e).elim
/-- any expression whose test is its value's truth (a name, a call, a subscript, a field ..: he by fun _ => rfl) -/
theorem pt_truth (ha : PE X a ta) (he : ∀ whole, isTrue a X.env whole = (do let v ← whole; standAt a.pos; holding [v] (truthy v))) :
    PT X a (fun σ H Q => ta σ H fun x H' => ∃ k, TruV X.K x H' k ∧ Q k H') := by
  intro pins s σ H Q I h
  exact isTrue_plain (thn (ha pins s σ H _ I h) fun v s1 ⟨x, H1, I1, r1, q1⟩ => tru_ok pins s1 σ H1 x v Q I1 r1 q1) (he _)
/-! ### strs and bytes -/
theorem op_add_str : OpR X (binaryOp .Add) (fun x y H Q => ∃ i j, x = .str i ∧ y = .str j ∧ i.length + j.length ≤ sizeLine ∧ Q (.str (i ++ j)) H) := by
  intro pins s σ H x y v u Q I rx ry h
  obtain ⟨i, j, rfl, rfl, hz, q⟩ := h
  obtain ⟨t, rfl⟩ := rx
  obtain ⟨t', rfl⟩ := ry
  exact add_str (fun t' tk => ⟨.str (i ++ j), H, I.tok _, ⟨_, rfl⟩, q⟩) hz
/-! ### scalar builtins, by CallR -/
theorem vals1 {x : V} {us : List Value} (r : Vals [x] us) : ∃ u, us = [u] ∧ RelV x u := by
  cases r with
  | cons r1 r2 => cases r2; exact ⟨_, rfl, r1⟩
theorem vals2 {x y : V} {us : List Value} (r : Vals [x, y] us) : ∃ u w', us = [u, w'] ∧ RelV x u ∧ RelV y w' := by
  cases r with
  | cons r1 r2 =>
    cases r2 with
    | cons r3 r4 => cases r4; exact ⟨_, _, rfl, r1, r3⟩
theorem call_min2 (hc : X.calm = true) : CallR X (.builtin "min") (fun xs H Q => ∃ i j, xs = [.int i, .int j] ∧ Q (.int (if j < i then j else i)) H) := by
  intro pins s σ H xs us Q I r h
  obtain ⟨i, j, rfl, q⟩ := h
  obtain ⟨u, w', rfl, ⟨t, rfl⟩, ⟨t', rfl⟩⟩ := vals2 r
  refine min_two_ints (I.ok.hd hc) fun h' tk k => ⟨_, H, I.kept k, ?_, q⟩
  by_cases hj : j < i
  · rw [if_pos hj, if_pos hj]; exact ⟨_, rfl⟩
  · rw [if_neg hj, if_neg hj]; exact ⟨_, rfl⟩
theorem call_int1 : CallR X (.type "int") (fun xs H Q => (∃ i, xs = [.int i] ∧ Q (.int i) H) ∨ ∃ k, xs = [.bl k] ∧ Q (.int (if k then 1 else 0)) H) := by
  intro pins s σ H xs us Q I r h
  rcases h with ⟨i, rfl, q⟩ | ⟨k, rfl, q⟩
  · obtain ⟨u, rfl, t, rfl⟩ := vals1 r
    exact call_int_int ⟨.int i, H, I, ⟨_, rfl⟩, q⟩
  · obtain ⟨u, rfl, r1⟩ := vals1 r
    cases r1
    exact call_int_bool ⟨.int (if k then 1 else 0), H, I.tok _, ⟨_, rfl⟩, q⟩
end
end L2
namespace L2
open PySem PySem.Spec PyProof.Rows
/-! ### an instance, its attributes a map -/
structure ObjM (h : Heap) (x dx C : Addr) (mA : Str → Option Value) : Prop where
  obj : h.get? x = some (PySem.W.instObj C dx)
  ns : h.Ns1 dx mA
  ne : dx ≠ x
theorem lookIn_ns {h : Heap} {dx : Addr} {mA : Str → Option Value} (n : h.Ns1 dx mA) : ∃ od, h.get? dx = some od ∧ ∀ name, PySem.W.lookIn name od = some (mA name) := by
  obtain ⟨o, es, ep, ho, hd, hk, _, hm⟩ := n
  refine ⟨o, ho, fun name => ?_⟩
  have e := hm name
  unfold nsFind findBy at e
  rw [← Array.find?_toList] at e
  unfold PySem.W.lookIn
  rw [hd]
  dsimp only
  split
  · rename_i y q
    rw [q] at e
    exact congrArg some e
  · rename_i q
    rw [q] at e
    have a : es.toList.any (·.refKey) = false := by
      rw [List.any_eq_false]
      intro y hy
      obtain ⟨z, t, hkey⟩ := hk y (Array.mem_toList_iff.mp hy)
      simp [DictEntry.refKey, hkey]
    have a' : ¬ es.toList.any (·.refKey) = true := by rw [a]; exact Bool.false_ne_true
    rw [if_neg a']
    exact congrArg some e
theorem ObjM.look {h : Heap} {x dx C : Addr} {mA : Str → Option Value} (I : ObjM h x dx C mA) : ∃ od, PySem.W.InstAt h x (PySem.W.instObj C dx) C (some od) ∧ ∀ name, PySem.W.lookIn name od = some (mA name) :=
  let ⟨od, ho, hl⟩ := lookIn_ns I.ns
  ⟨od, ⟨I.obj, rfl, rfl, ho⟩, hl⟩
section
variable {prog : Program} {w : World} {A : Around} {E : Value → Shared → Prop} {s : Shared} {K : PySem.W.Frag} {x dx C f : Addr} {mA : Str → Option Value} {name : Str} {v : Value}
theorem get_map {expr : Bool} {Q : Value → Shared → Prop} (X : K.In s.heap) (I : ObjM s.heap x dx C mA) (hg : PySem.W.plainGet K C name = true) (hh : PySem.W.hasDictIn K C = true)
    (ha : PySem.W.findIn K (.ref C) name = some none) (hv : mA name = some v) (hv' : PySem.W.handedIn v = true) (h : Q v { s with toks := s.toks + 1 }) :
    wpAny (model prog w) A (getAttr (.ref x) name expr) Q E s := by
  obtain ⟨od, J, hl⟩ := I.look
  exact PySem.W.get_value X J (PySem.W.plainGet_of hg).1 (PySem.W.findObj_own hh ha rfl (by rw [hl, hv])) hv' h
theorem get_meth {pl : Sem Bool} {Q : Value × List Value → Shared → Prop} (X : K.In s.heap) (I : ObjM s.heap x dx C mA) (hg : PySem.W.plainGet K C name = true)
    (hf : PySem.W.findIn K (.ref C) name = some (some (.ref f))) (ht : PySem.W.isFn K (.ref f) = true) (hv : mA name = none) (h : Q (.ref f, [.ref x]) s) :
    wpAny (model prog w) A (getMethod (.ref x) name pl) Q E s := by
  obtain ⟨od, J, hl⟩ := I.look
  exact PySem.W.method_fn X J (PySem.W.plainGet_of hg).1 (PySem.W.plainGet_of hg).2 hf (beq_iff_eq.mp ht) (by show (PySem.W.lookIn name od).map (·.isSome) = some false; rw [hl, hv]; rfl) h
theorem set_map {ns : List Str} {Q : Unit → Shared → Prop} (X : K.In s.heap) (I : ObjM s.heap x dx C mA)
    (hs : PySem.W.findIn K (.ref C) "__setattr__" = some (some (.builtin "object.__setattr__"))) (hp : PySem.W.plainOver K C = true) (ht : PySem.W.takerIn K C name = some none) (hh : PySem.W.hasDictIn K C = true)
    (hw : PySem.Within mA ns) (hsz : ns.length ≤ sizeLine)
    (h : ∀ h', ObjM h' x dx C (fun y => if y = name then some v else mA y) → Heap.SameBut dx s.heap h' → Q () { s with heap := h', toks := s.toks + 2 }) :
    wpAny (model prog w) A (setAttr (.ref x) name v) Q E s := by
  obtain ⟨od, J, hl⟩ := I.look
  refine PySem.W.set_plain X J hs (PySem.W.osa_open (s := { s with toks := s.toks + 1 }) (r := none) X J hp ht fun b => ?_)
  obtain ⟨cd, hc, hd'⟩ := PySem.W.any_some hh
  have hx : s.heap.get? x = some ⟨.ref C, some dx, .plain, #[]⟩ := I.obj
  refine wpAny_bind (wpAny_pure (wpAny_bind (wpAny_bind (wpAny_loadPart hx (wpAny_bind (PySem.W.Looks.here (s := { s with toks := s.toks + 1 }) (PySem.W.looks_clsIn X hc) ?_))))))
  rw [hd']
  refine wpAny_pure (a := some dx) (wpAny_bind (wpAny_pure (wpAny_bind ?_)))
  refine wpAny_nsSet1 (s := { s with toks := s.toks + 1 }) I.ns fun h' hn2 hs2 => ?_
  obtain ⟨oD, esD, epD, hoD, hdD, hcD⟩ := hn2.count (PySem.Within.cons name v hw)
  refine wpAny_bind (wpAny_lookBehind hoD (by rw [hdD]; exact pastItsLine_dict (Nat.le_trans hcD (by rw [List.length_cons]; omega))) ?_)
  exact wpAny_pure (h _ ⟨(hs2.2 _ (Ne.symm I.ne)).trans I.obj, hn2, I.ne⟩ hs2)
/-- C(..): the dict at the heap's end, the instance behind it; then its __init__ -/
theorem make_map {R : Result → Shared → Prop} {vs : List Value} {kw : List (Str × Value)} (X : K.In s.heap) (hm : PySem.W.makesIn K C = true)
    (hi : PySem.W.findIn K (.ref C) "__init__" = some (some (.ref f))) (hf : PySem.W.typeIn K (.ref f) = some (.type "function"))
    (h : codeAny (model prog w) (A.under (.builtin "type.__call__" ⟨.ref C :: vs, kw⟩)) (.call (.ref f) ⟨.ref (s.heap.objs.size + 1) :: vs, kw⟩) (PySem.W.InitBack (s.heap.objs.size + 1) R)
      { s with heap := (s.heap.push PySem.W.emptyDict).push (PySem.W.instObj C s.heap.objs.size) }) :
    codeAny (model prog w) A (.call (.ref C) ⟨vs, kw⟩) R s := by
  obtain ⟨hh, g, d, t, os⟩ := s
  exact PySem.W.make_core (PySem.W.makes_of X hm) (PySem.W.looks_findIn X hi) (fun self => PySem.W.bind_fn X self hf) (.inl rfl) h
end
/-! ### the attributes as a list of pairs -/
def putF (f : Str) (v : V) : List (Str × V) → List (Str × V)
  | [] => [(f, v)]
  | (g, x) :: r => if g = f then (g, v) :: r else (g, x) :: putF f v r
theorem lookup_putF (f g : Str) (v : V) : ∀ fs : List (Str × V), (putF f v fs).lookup g = if g = f then some v else fs.lookup g
  | [] => by
    show List.lookup g [(f, v)] = _
    by_cases h : g = f
    · have hb : (g == f) = true := beq_iff_eq.mpr h
      simp only [List.lookup, hb, if_pos h]
    · have hb : (g == f) = false := beq_eq_false_iff_ne.mpr h
      simp only [List.lookup, hb, if_neg h]
  | (k, x) :: r => by
    have ih := lookup_putF f g v r
    rw [show putF f v ((k, x) :: r) = (if k = f then (k, v) :: r else (k, x) :: putF f v r) from rfl]
    by_cases hk : k = f
    · rw [if_pos hk]
      by_cases h : g = k
      · have hb : (g == k) = true := beq_iff_eq.mpr h
        simp only [List.lookup, hb, if_pos (h.trans hk)]
      · have hb : (g == k) = false := beq_eq_false_iff_ne.mpr h
        simp only [List.lookup, hb, if_neg (fun e : g = f => h (e.trans hk.symm))]
    · rw [if_neg hk]
      by_cases h : g = k
      · have hb : (g == k) = true := beq_iff_eq.mpr h
        simp only [List.lookup, hb, if_neg (fun e : g = f => hk (h.symm.trans e))]
      · have hb : (g == k) = false := beq_eq_false_iff_ne.mpr h
        simp only [List.lookup, hb]
        exact ih
theorem keys_putF (f : Str) (v : V) : ∀ fs : List (Str × V), f ∈ (putF f v fs).map (·.1) ∧ ∀ g, g ∈ fs.map (·.1) → g ∈ (putF f v fs).map (·.1)
  | [] => ⟨by simp [putF], fun g h => by simp at h⟩
  | (k, x) :: r => by
    obtain ⟨i1, i2⟩ := keys_putF f v r
    rw [show putF f v ((k, x) :: r) = (if k = f then (k, v) :: r else (k, x) :: putF f v r) from rfl]
    by_cases hk : k = f
    · rw [if_pos hk]
      subst hk
      exact ⟨by simp, fun g h => by simpa using h⟩
    · rw [if_neg hk]
      refine ⟨?_, fun g h => ?_⟩
      · rw [List.map_cons]
        exact List.mem_cons_of_mem _ i1
      · rw [List.map_cons] at h ⊢
        rcases List.mem_cons.mp h with e | e
        · exact List.mem_cons.mpr (.inl e)
        · exact List.mem_cons_of_mem _ (i2 g e)
theorem length_putF (f : Str) (v : V) : ∀ fs : List (Str × V), (putF f v fs).length ≤ fs.length + 1
  | [] => by simp [putF]
  | (k, x) :: r => by
    have ih := length_putF f v r
    rw [show putF f v ((k, x) :: r) = (if k = f then (k, v) :: r else (k, x) :: putF f v r) from rfl]
    by_cases hk : k = f
    · rw [if_pos hk, List.length_cons, List.length_cons]; omega
    · rw [if_neg hk, List.length_cons, List.length_cons]; omega
theorem RelO.some_of {v : V} {o : Option Value} (r : RelO (some v) o) : ∃ u, o = some u ∧ RelV v u := by
  cases o with
  | none => exact (show False from r).elim
  | some u => exact ⟨u, rfl, r⟩
theorem RelO.none_of {o : Option Value} (r : RelO none o) : o = none := by
  cases o with
  | none => rfl
  | some u => exact (show False from r).elim
theorem handed_of {v : V} {u : Value} (r : RelV v u) : PySem.W.handedIn u = true := by
  cases v with
  | non => cases (show u = Value.none from r); rfl
  | bl b => cases (show u = Value.bool b from r); rfl
  | int i => obtain ⟨t, e⟩ := (show ∃ t, u = Value.int i t from r); cases e; rfl
  | str x => obtain ⟨t, e⟩ := (show ∃ t, u = Value.str x t from r); cases e; rfl
  | byt b => obtain ⟨t, e⟩ := (show ∃ t, u = Value.bytes b t from r); cases e; rfl
  | flt b => obtain ⟨t, e⟩ := (show ∃ t, u = Value.float b t from r); cases e; rfl
  | ref a => cases (show u = Value.ref a from r); rfl
  | ty n => cases (show u = Value.type n from r); rfl
section
variable {P : Program} {w : World} {H H' : Hp} {h h' : Heap} {a C dx : Addr} {fs fs' : List (Str × V)}
theorem ins_get (hok : HOk P w H h) (e : H a = some (.ins C dx fs)) : ∃ mA, ObjM h a dx C mA ∧ (∀ f, RelO (fs.lookup f) (mA f)) ∧ PySem.Within mA (fs.map (·.1)) ∧ fs.length ≤ 1000 ∧ H dx = some (.own a) := by
  obtain ⟨d, z, ne, ob, mA, n, r, q⟩ := (show ObjOk P w H h a (.ins C dx fs) from hok a _ e)
  exact ⟨mA, ⟨ob, n, ne⟩, r, q, z, d⟩
end
/-! ### what of the text a class must have -/
structure Cls (K : PySem.W.Frag) (C : Addr) : Prop where
  pg : PySem.W.plainGet K C Str.empty = true
  hd : PySem.W.hasDictIn K C = true
  po : PySem.W.plainOver K C = true
  sa : PySem.W.findIn K (.ref C) "__setattr__" = some (some (.builtin "object.__setattr__"))
theorem Cls.get {K : PySem.W.Frag} {C : Addr} (c : Cls K C) (f : Str) : PySem.W.plainGet K C f = true := c.pg
/-- no class of it has the name -/
def NoAttr (K : PySem.W.Frag) (C : Addr) (f : Str) : Prop := PySem.W.findIn K (.ref C) f = some none
theorem NoAttr.taker {K : PySem.W.Frag} {C : Addr} {f : Str} (n : NoAttr K C f) : PySem.W.takerIn K C f = some none := by
  unfold PySem.W.takerIn
  rw [show PySem.W.findIn K (.ref C) f = some none from n]
  rfl
/-- a constant of the class -/
structure Con (K : PySem.W.Frag) (C : Addr) (f : Str) (v : V) (u : Value) : Prop where
  at_ : PySem.W.findIn K (.ref C) f = some (some u)
  rel : RelV v u
  get : PySem.W.specialIn K u "__get__" = some none
  cp : PySem.W.copiedNames.contains f = false
/-- a method: a plain def of the class or of one above it -/
structure Meth (K : PySem.W.Frag) (C : Addr) (m : Str) (f : Addr) : Prop where
  at_ : PySem.W.findIn K (.ref C) m = some (some (.ref f))
  fn : PySem.W.isFn K (.ref f) = true
  kp : PySem.W.keepIn K (.ref f) = true
section
variable {X : Cx} {pins : List (Addr × Obj)} {σ : St} {H : Hp} {s : Shared} {a C dx : Addr} {fs : List (Str × V)} {f : Str} {v : V} {A : Around} {E : Value → Shared → Prop}
theorem getattr_ok {b : Bool} {Q : Value → Shared → Prop} (I : Inv X pins σ H s) (e : H a = some (.ins C dx fs)) (c : Cls X.K C) (n : NoAttr X.K C f) (l : fs.lookup f = some v)
    (h : ∀ u s', Inv X pins σ H s' → RelV v u → Q u s') : wpAny (model X.prog X.w) A (getAttr (.ref a) f b) Q E s := by
  obtain ⟨mA, O, r, _, _, _⟩ := ins_get I.hok e
  obtain ⟨u, hu, ru⟩ := RelO.some_of (v := v) (o := mA f) (by rw [← l]; exact r f)
  exact get_map I.kIn O (c.get f) c.hd n hu (handed_of ru) (h u _ (I.tok _) ru)
theorem getmeth_ok {m : Str} {g : Addr} {pl : Sem Bool} {Q : Value × List Value → Shared → Prop} (I : Inv X pins σ H s) (e : H a = some (.ins C dx fs)) (c : Cls X.K C) (k : Meth X.K C m g) (l : fs.lookup m = none)
    (h : Q (.ref g, [.ref a]) s) : wpAny (model X.prog X.w) A (getMethod (.ref a) m pl) Q E s := by
  obtain ⟨mA, O, r, _, _, _⟩ := ins_get I.hok e
  have hn : mA m = none := RelO.none_of (by rw [← l]; exact r m)
  exact get_meth I.kIn O (c.get m) k.at_ k.fn hn h
theorem setattr_ok {y : V} {u : Value} {Q : Unit → Shared → Prop} (I : Inv X pins σ H s) (e : H a = some (.ins C dx fs)) (c : Cls X.K C) (n : NoAttr X.K C f) (hl : fs.length < 1000) (ry : RelV y u)
    (h : ∀ s', Inv X pins σ (upd H a (.ins C dx (putF f y fs))) s' → Q () s') : wpAny (model X.prog X.w) A (setAttr (.ref a) f u) Q E s := by
  obtain ⟨mA, O, r, wi, _, ho⟩ := ins_get I.hok e
  have hz : (fs.map (·.1)).length ≤ sizeLine := by rw [List.length_map, sizeLine_eq]; omega
  refine set_map I.kIn O c.sa c.po n.taker c.hd wi hz fun h' O' sb => h _ ?_
  have hd : ∃ o, h'.get? dx = some o := let ⟨o, _, _, e', _⟩ := O'.ns; ⟨o, e'⟩
  refine I.write (x := a) (e := dx) (by rw [e]; exact True.intro) (.inr ho) (fun b q hb z => (sb.2 b hb).trans z) hd ?_
  refine ⟨by rw [upd_ne O.ne]; exact ho, ?_, O.ne, O'.obj, _, O'.ns, fun g => ?_, fun g hg => ?_⟩
  · have := length_putF f y fs; omega
  · show RelO ((putF f y fs).lookup g) (if g = f then some u else mA g)
    rw [lookup_putF]
    by_cases q : g = f
    · rw [if_pos q, if_pos q]; exact ry
    · rw [if_neg q, if_neg q]; exact r g
  · by_cases q : g = f
    · rw [q]; exact (keys_putF f y fs).1
    · refine (keys_putF f y fs).2 g (wi g fun z => hg ?_)
      show (if g = f then some u else mA g) = none
      rw [if_neg q]; exact z
/-- a new instance, tracked, without attributes -/
theorem Inv.made (I : Inv X pins σ H s) : Inv X pins σ (upd (upd H s.heap.objs.size (.own (s.heap.objs.size + 1))) (s.heap.objs.size + 1) (.ins C s.heap.objs.size []))
    { s with heap := (s.heap.push PySem.W.emptyDict).push (PySem.W.instObj C s.heap.objs.size) } := by
  have e1 : (s.heap.push PySem.W.emptyDict).get? s.heap.objs.size = some PySem.W.emptyDict := Heap.get?_push_size s.heap rfl
  have e2 : ((s.heap.push PySem.W.emptyDict).push (PySem.W.instObj C s.heap.objs.size)).get? (s.heap.objs.size + 1) = some (PySem.W.instObj C s.heap.objs.size) := by
    have := Heap.get?_push_size (s.heap.push PySem.W.emptyDict) (o := PySem.W.instObj C s.heap.objs.size) rfl
    rwa [Heap.size_push] at this
  have e3 : (s.heap.push PySem.W.emptyDict).Ns s.heap.objs.size (fun _ => none) := ⟨PySem.W.emptyDict, #[], _, e1, rfl, (fun e he => absurd he (by simp)), fun _ => rfl⟩
  have I1 := I.laid (a := s.heap.objs.size) (o := .own (s.heap.objs.size + 1)) (h' := s.heap.push PySem.W.emptyDict) (t' := s.toks) (fun b u q => Heap.get?_push_of_some _ q) (Nat.le_refl _) ⟨_, e1⟩
  refine I1.laid (a := s.heap.objs.size + 1) (o := .ins C s.heap.objs.size []) (t' := s.toks) (fun b u q => Heap.get?_push_of_some _ q) (Nat.le_of_eq (Heap.size_push _ _)) ?_
  have ne : s.heap.objs.size ≠ s.heap.objs.size + 1 := Nat.ne_of_lt (Nat.lt_succ_self _)
  refine ⟨by rw [upd_ne ne, upd_same], Nat.zero_le _, ne, e2, fun _ => none, (Heap.Ns1.of_empty e3).at fun o q => Heap.get?_push_of_some _ q, fun _ => True.intro, fun y hy => absurd rfl hy⟩
/-- e.f where nothing but the object is asked: through attributeBase (super) and the last hold -/
theorem attr_of {prog : Program} {w : World} {env : Env} {e : Expr} {f : Str} {pos : Pos} {s : Shared} {Q : Value → Shared → Prop} (hb : attributeBase e f env (eval e env) = eval e env)
    (h : wpAny (model prog w) A (eval e env) (fun o s₁ => wpAny (model prog w) A (getAttr o f true) Q E s₁) E s) : wpAny (model prog w) A (eval (.Attribute e f pos) env) Q E s :=
  Attribute_any_ h (by rw [arm_eval_Attribute, hb])
end
/-! ### readings and rules -/
/-- e.f, an attribute of the instance -/
def tFld (K : PySem.W.Frag) (ta : TE) (f : Str) : TE := fun σ H Q => ta σ H fun x H1 => ∃ a C dx fs v, x = .ref a ∧ H1 a = some (.ins C dx fs) ∧ Cls K C ∧ NoAttr K C f ∧ fs.lookup f = some v ∧ Q v H1
/-- e.f = value -/
def sFld (K : PySem.W.Frag) (ta tv : TE) (f : Str) : TS := fun D σ H => tv σ H fun y H1 => ta σ H1 fun x H2 => ∃ a C dx fs, x = .ref a ∧ H2 a = some (.ins C dx fs) ∧ Cls K C ∧ NoAttr K C f ∧ fs.length < 1000 ∧
  D.nx σ (upd H2 a (.ins C dx (putF f y fs)))
section
variable {X : Cx} {o e value : Expr} {f : Str} {pos pos' tpos : Pos} {ta tv : TE}
theorem pe_fld (he : PE X e ta) (hb : attributeBase e f X.env (eval e X.env) = eval e X.env) : PE X (.Attribute e f pos) (tFld X.K ta f) := by
  intro pins s σ H Q I h
  refine attr_of hb (thn (he pins s σ H _ I h) fun u s1 ⟨x, H1, I1, rx, a, C, dx, fs, v, ex, ea, c, n, l, q⟩ => ?_)
  subst ex
  obtain rfl : u = Value.ref a := rx
  exact getattr_ok I1 ea c n l fun u' s2 I2 ru => ⟨v, H1, I2, ru, q⟩
theorem ps_fld (ha : PE X o ta) (hv : PE X value tv) (hs : swapsWith value (some (.Attribute o f pos')) pos.line X.env = pure false) : PS X (.Assign [.Attribute o f pos'] value pos) (sFld X.K ta tv f) := by
  intro pins s σ H D I h
  refine plainObj_wpAny_Assign_Attribute (thn (hv pins s σ H _ I h) fun u s1 ⟨y, H1, I1, ry, q⟩ => thn (ha pins s1 σ H1 _ I1 q) fun ov s2 ⟨x, H2, I2, rx, a, C, dx, fs, ex, ea, c, n, l, q2⟩ => ?_) hs
  subst ex
  obtain rfl : ov = Value.ref a := rx
  exact setattr_ok I2 ea c n l ry fun s3 I3 => ⟨σ, _, I3, q2⟩
end
/-! ### isinstance -/
section
variable {X : Cx} {pins : List (Addr × Obj)} {σ : St} {H : Hp} {s : Shared} {A : Around} {E : Value → Shared → Prop} {Q : Value → Shared → Prop} {c : Value} {b : Bool}
/-- the type of a value, as the fragment's deciders take it; for an instance its class -/
inductive TyOf (K : PySem.W.Frag) (H : Hp) : V → Value → Prop where
  | non : TyOf K H .non (.type "NoneType")
  | bl (x : Bool) : TyOf K H (.bl x) (.type "bool")
  | int (i : Int) : TyOf K H (.int i) (.type "int")
  | str (x : Str) : TyOf K H (.str x) (.type "str")
  | flt (x : UInt64) : TyOf K H (.flt x) (.type "float")
  | lst {a : Addr} {xs : List V} (e : H a = some (.lst xs)) : TyOf K H (.ref a) (.type "list")
  | frz {a : Addr} {o : Obj} {xs : List V} (e : H a = some (.frz o (.lst xs))) : TyOf K H (.ref a) (.type "list")
  | tup {a : Addr} {xs : List V} (e : H a = some (.tup xs)) : TyOf K H (.ref a) (.type "tuple")
  | dK {a : Addr} {kvs : List (Key × V)} (e : H a = some (.dK kvs)) : TyOf K H (.ref a) (.type "dict")
  | dT {a : Addr} {kvs : List (List Key × V)} (e : H a = some (.dT kvs)) : TyOf K H (.ref a) (.type "dict")
  | ins {a C dx : Addr} {fs : List (Str × V)} (e : H a = some (.ins C dx fs)) (cl : Cls K C) (ha : PySem.W.findIn K (.ref C) "__class__" = some (some (.builtin "object.__class__")))
      (hn : PySem.W.specialIn K (.builtin "object.__class__") "__get__" = some (some (.builtin "getset_descriptor.__get__"))) (htk : PySem.W.takesIn K (.builtin "object.__class__") = some true)
      (hm : PySem.W.mroIn K C (.type "object") = some true) : TyOf K H (.ref a) (.ref C)
/-- isinstance(x, c) for one class c, a built-in or an own one: kitOne's answer -/
theorem isinst_ok {x : V} {u t : Value} (I : Inv X pins σ H s) (rx : RelV x u) (ty : TyOf X.K H x t) (e : PySem.W.kitOne X.K t c = some b) (h : ∀ tk, Q (.bool b) { s with toks := tk }) :
    wpAny (model X.prog X.w) A (call (.builtin "isinstance") [u, c]) Q E s := by
  cases ty with
  | non => cases (show u = Value.none from rx); exact PySem.W.kia_one PySem.W.kitx_none I.kIn True.intro e (fun z => nomatch z) h
  | bl y => cases (show u = Value.bool y from rx); exact PySem.W.kia_one PySem.W.kitx_bool I.kIn True.intro e (fun z => nomatch z) h
  | int i => obtain ⟨t, q⟩ := (show ∃ t, u = Value.int i t from rx); cases q; exact PySem.W.kia_one PySem.W.kitx_int I.kIn True.intro e (fun z => nomatch z) h
  | str y => obtain ⟨t, q⟩ := (show ∃ t, u = Value.str y t from rx); cases q; exact PySem.W.kia_one PySem.W.kitx_str I.kIn True.intro e (fun z => nomatch z) h
  | flt y => obtain ⟨t, q⟩ := (show ∃ t, u = Value.float y t from rx); cases q; exact PySem.W.kia_one PySem.W.kitx_float I.kIn True.intro e (fun z => nomatch z) h
  | @lst a xs ea =>
    cases (show u = Value.ref a from rx)
    obtain ⟨_, _, n, _, h1⟩ := (show ObjOk X.prog X.w H s.heap a (.lst xs) from I.hok a _ ea)
    exact PySem.W.kia_one PySem.W.kitx_list I.kIn ⟨_, h1, rfl⟩ e (fun z => nomatch z) h
  | @frz a ob xs ea =>
    cases (show u = Value.ref a from rx)
    obtain ⟨_, _, _, n, _, h1⟩ := (show ObjOk X.prog X.w H s.heap a (.frz ob (.lst xs)) from I.hok a _ ea)
    exact PySem.W.kia_one PySem.W.kitx_list I.kIn ⟨_, h1, rfl⟩ e (fun z => nomatch z) h
  | @tup a xs ea =>
    cases (show u = Value.ref a from rx)
    obtain ⟨_, _, _, p⟩ := (show ObjOk X.prog X.w H s.heap a (.tup xs) from I.hok a _ ea)
    obtain ⟨o, h1, h2, _⟩ := p
    exact PySem.W.kia_one PySem.W.kitx_tuple I.kIn ⟨o, h1, h2⟩ e (fun z => nomatch z) h
  | @dK a kvs ea =>
    cases (show u = Value.ref a from rx)
    obtain ⟨_, _, vs, _, p⟩ := (show ObjOk X.prog X.w H s.heap a (.dK kvs) from I.hok a _ ea)
    obtain ⟨o, es, ep, h1, h2, _⟩ := p
    exact PySem.W.kia_one PySem.W.kitx_dict I.kIn ⟨o, h1, h2.1⟩ e (fun z => nomatch z) h
  | @dT a kvs ea =>
    cases (show u = Value.ref a from rx)
    obtain ⟨_, _, xs, _, o, es, ep, h1, h2, _⟩ := (show ObjOk X.prog X.w H s.heap a (.dT kvs) from I.hok a _ ea)
    exact PySem.W.kia_one PySem.W.kitx_dict I.kIn ⟨o, h1, h2.1⟩ e (fun z => nomatch z) h
  | @ins a C dx fs ea cl ha hn htk hm =>
    cases (show u = Value.ref a from rx)
    obtain ⟨mA, O, _⟩ := ins_get I.hok ea
    obtain ⟨od, J, _⟩ := O.look
    exact PySem.W.kia_one (PySem.W.kitx_own (cl.get _) cl.hd ha hn htk hm) I.kIn J e (fun z => nomatch z) h
end
end L2
namespace L2
open PySem PySem.Spec PyProof.Rows
/-! ### room -/
structure Room (k : Nat) (A : Around) : Prop where
  hd : A.handled = none
  dp : A.depth + 3 * k + 5 < recursionLimit
  un : A.units + 16 * k + 200 < cLine
theorem Room.mono {j k : Nat} {A : Around} (r : Room k A) (h : j ≤ k) : Room j A := ⟨r.hd, by have := r.dp; omega, by have := r.un; omega⟩
theorem Room.deeper {k : Nat} {A : Around} (r : Room (k + 1) A) (env : Env) : Room k (A.deeper env) :=
  ⟨r.hd, by have := r.dp; show A.depth + 1 + 3 * k + 5 < _; omega, by have := r.un; show A.units + 3 + 16 * k + 200 < _; omega⟩
theorem make_depth {A : Around} {C : Addr} {us : List Value} {kw : List (Str × Value)} : (A.under (.builtin "type.__call__" ⟨.ref C :: us, kw⟩)).depth = A.depth + 1 := by
  first | rfl | simp [Around.under, Code.weight, Code.isCreation, Code.isGuard, Code.isCaller, Code.frames, Code.isFrame, guardIds]
theorem make_units {A : Around} {C : Addr} {us : List Value} {kw : List (Str × Value)} : (A.under (.builtin "type.__call__" ⟨.ref C :: us, kw⟩)).units = A.units + 1 := by
  first | rfl | simp [Around.under, Code.cUnits, Code.frames, Code.isFrame]
theorem Room.make {k : Nat} {A : Around} (r : Room (k + 1) A) (C : Addr) (us : List Value) (kw : List (Str × Value)) : Room k (A.under (.builtin "type.__call__" ⟨.ref C :: us, kw⟩)) :=
  ⟨r.hd, by have := r.dp; rw [make_depth]; omega, by have := r.un; rw [make_units]; omega⟩
theorem Room.depth {k : Nat} {A : Around} (r : Room k A) : A.depth < recursionLimit := by have := r.dp; omega
theorem Room.units {k : Nat} {A : Around} (r : Room k A) : A.units + 64 < cLine := by have := r.un; omega
/-! ### argument lists and displays -/
def tNil : TA := fun _ H Q => Q [] H
def tCons (ta : TE) (tr : TA) : TA := fun σ H Q => ta σ H fun x H1 => tr σ H1 fun xs H2 => Q (x :: xs) H2
section
variable {X : Cx} {e : Expr} {es : List Expr} {te : TE} {t : TA} {pos : Pos}
theorem pa_nil : PA X [] tNil := fun _ _ _ _ H Q I h => Calls.spliced_nil ⟨[], H, I, .nil, h⟩
theorem pa_cons (ha : PE X e te) (hr : PA X es t) (hs : starEach (e :: es) X.env = (false, eval e X.env) :: starEach es X.env := by rfl) : PA X (e :: es) (tCons te t) := by
  intro pos pins s σ H Q I h
  rw [hs]
  show wpAny _ _ (spliced ((false, eval e X.env) :: backTo pos (starEach es X.env))) _ _ s
  refine Calls.spliced_cons (thn (ha pins s σ H _ I h) fun u s1 ⟨x, H1, I1, r1, q1⟩ => ?_)
  exact thn (hr pos pins s1 σ H1 _ I1 q1) fun us s2 ⟨xs, H2, I2, r2, q2⟩ => ⟨x :: xs, H2, I2, .cons r1 r2, q2⟩
/-- a tuple, a list of written items -/
def tTup (t : TA) : TE := fun σ H Q => t σ H fun xs H1 => xs.length ≤ sizeLine ∧ ∀ p, H1 p = none → Q (.ref p) (upd H1 p (.tup xs))
def tLst (t : TA) : TE := fun σ H Q => t σ H fun xs H1 => xs.length ≤ sizeLine ∧ ∀ p, H1 p = none → Q (.ref p) (upd H1 p (.lst xs))
theorem pe_tup {x1} (h : PA X es t) : PE X (.Tuple es x1 pos) (tTup t) := by
  intro pins s σ H Q I hq
  refine wpAny_Tuple_spliced (thn (h pos pins s σ H _ I hq) fun us s1 ⟨xs, H1, I1, r, z, q⟩ => ⟨by rw [← r.length]; exact z, ?_⟩)
  have hf : H1 s1.heap.objs.size = none := I1.hok.fresh (Nat.le_refl _)
  refine ⟨.ref s1.heap.objs.size, upd H1 s1.heap.objs.size (.tup xs), I1.laid (t' := s1.toks) (fun b u e => Heap.get?_push_of_some _ e) (Nat.le_refl _) ?_, rfl, q _ hf⟩
  exact ⟨z, us, r, ⟨_, Heap.get?_push_size _ rfl, rfl, _, rfl⟩⟩
theorem pe_lst (h : PA X es t) : PE X (.List es pos) (tLst t) := by
  intro pins s σ H Q I hq
  refine wpAny_List_spliced (thn (h pos pins s σ H _ I hq) fun us s1 ⟨xs, H1, I1, r, z, q⟩ => ⟨by rw [← r.length]; exact z, ?_⟩)
  have hf : H1 s1.heap.objs.size = none := I1.hok.fresh (Nat.le_refl _)
  refine ⟨.ref s1.heap.objs.size, upd H1 s1.heap.objs.size (.lst xs), I1.laid (t' := s1.toks) (fun b u e => Heap.get?_push_of_some _ e) (Nat.le_refl _) ?_, rfl, q _ hf⟩
  exact ⟨z, us, 0, r, Heap.get?_push_size _ rfl⟩
end
/-! ### what a def promises -/
/-- a def's promise: the bound arguments in the parameters' order, the heap, the wanted end, the wanted exception -/
abbrev Sp := List V → Hp → VK → XK → Prop
/-- how an exception lies behind a call (file 08 gives it): the callers' frames, abstract heap and state ahead of the call, the wish, the exception, the state -/
abbrev CXT := List Env → Hp → Shared → XK → Value → Shared → Prop
/-- the state at a call -/
structure Env0 (P : Program) (w : World) (K : PySem.W.Frag) (mg : Str → Option Value) (base : Heap) (A : Around) (outer : List Env) (s : Shared) (H : Hp) : Prop where
  frames : A.frames = some outer
  mod : Mod K mg base
  bs : ∀ b o, base.get? b = some o → s.heap.get? b = some o ∧ H b = none
  bsz : base.objs.size ≤ s.heap.objs.size
  funs : s.heap.FunFrames base outer
  frf : ∀ b ∈ frs outer, H b = none
  hok : HOk P w H s.heap
  bare : AllBare s.gens
/-- a call's end -/
def CE (outer : List Env) (P : Program) (w : World) (H : Hp) (s : Shared) (Q : VK) (u : Value) (s' : Shared) : Prop :=
  ∃ v H', s'.os = s.os ∧ AllBare s'.gens ∧ Un (frs outer) [] H H' s.heap s'.heap ∧ HOk P w H' s'.heap ∧ RelV v u ∧ Q v H'
def CR (CX : CXT) (outer : List Env) (P : Program) (w : World) (H : Hp) (s : Shared) (Q : VK) (E : XK) (r : Result) (s' : Shared) : Prop :=
  match r with
  | .ok (.ret u) => CE outer P w H s Q u s'
  | .ok _ => False
  | .error e => CX outer H s E e s'
structure FnOk (P : Program) (w : World) (K : PySem.W.Frag) (mg : Str → Option Value) (base : Heap) (CX : CXT) (k : Nat) (f : Addr) (fd : FuncData) (ps : List Str) (sp : Sp) : Prop where
  len : ∀ vs H Q E, sp vs H Q E → vs.length = ps.length
  run : ∀ (A : Around) (outer : List Env) (s : Shared) (H : Hp) (args : Args) (us : List Value) (vs : List V) (Q : VK) (E : XK), Room k A → Env0 P w K mg base A outer s H → BindsTo s fd args (ps.zip us) → Vals vs us → sp vs H Q E →
    codeAny (model P w) A (.call (.ref f) args) (CR CX outer P w H s Q E) s
theorem FnOk.mono {P : Program} {w : World} {K : PySem.W.Frag} {mg : Str → Option Value} {base : Heap} {CX : CXT} {j k : Nat} {f : Addr} {fd : FuncData} {ps : List Str} {sp : Sp} (F : FnOk P w K mg base CX j f fd ps sp) (h : j ≤ k) :
    FnOk P w K mg base CX k f fd ps sp := ⟨F.len, fun A outer s H args us vs Q E hr => F.run A outer s H args us vs Q E (hr.mono h)⟩
/-- a weaker promise -/
theorem FnOk.imp {P : Program} {w : World} {K : PySem.W.Frag} {mg : Str → Option Value} {base : Heap} {CX : CXT} {k : Nat} {f : Addr} {fd : FuncData} {ps : List Str} {sp sp' : Sp} (F : FnOk P w K mg base CX k f fd ps sp)
    (h : ∀ vs H Q E, sp' vs H Q E → sp vs H Q E) : FnOk P w K mg base CX k f fd ps sp' :=
  ⟨fun vs H Q E q => F.len vs H Q E (h _ _ _ _ q), fun A outer s H args us vs Q E hr he hb hv hs => F.run A outer s H args us vs Q E hr he hb hv (h _ _ _ _ hs)⟩
theorem Env0.make {P : Program} {w : World} {K : PySem.W.Frag} {mg : Str → Option Value} {base : Heap} {A : Around} {outer : List Env} {s : Shared} {H : Hp} (e : Env0 P w K mg base A outer s H) (C : Addr) (us : List Value) (kw : List (Str × Value)) :
    Env0 P w K mg base (A.under (.builtin "type.__call__" ⟨.ref C :: us, kw⟩)) outer s H := ⟨by first | exact e.frames | (simpa [Around.under, Code.envs, Code.isFrame, pushEnvs] using e.frames), e.mod, e.bs, e.bsz, e.funs, e.frf, e.hok, e.bare⟩
section
variable {X : Cx} {pins : List (Addr × Obj)} {σ : St} {H : Hp} {s s' : Shared}
/-- from a body: what a callee wants -/
theorem Inv.env0 (I : Inv X pins σ H s) : Env0 X.prog X.w X.K X.mg X.base X.A X.stack s H :=
  ⟨I.ok.frames, I.ok.mod, I.bs, Nat.le_trans I.ok.bsz I.sz, I.stack, I.stkFree, I.hok, I.bare⟩
/-- behind a call -/
theorem Inv.after {Q : VK} {u : Value} (I : Inv X pins σ H s) (h : CE X.stack X.prog X.w H s Q u s') : EP X pins σ Q u s' := by
  obtain ⟨v, H', os, bare, un, hok, r, q⟩ := h
  obtain ⟨hh, g, d, t, os'⟩ := s'
  obtain rfl : os' = s.os := os
  exact ⟨v, H', I.call (h' := hh) (g' := g) (d' := d) (t' := t) (ch := []) un hok bare (fun b z => absurd z (by simp)), r, q⟩
end
/-! ### calls -/
/-- f(..): the written arguments, then the defaults dvs; E: what is wanted of an exception -/
def tCall (sp : Sp) (dvs : List V) (E : XK) (t : TA) : TE := fun σ H Q => t σ H fun vs H1 => sp (vs ++ dvs) H1 Q E
/-- o.m(..) of an instance of the class at C -/
def tMeth (C : Addr) (m : Str) (sp : Sp) (dvs : List V) (E : XK) (ta : TE) (t : TA) : TE := fun σ H Q => ta σ H fun x H1 => ∃ a dx fs, x = .ref a ∧ H1 a = some (.ins C dx fs) ∧ fs.lookup m = none ∧
  t σ H1 fun vs H2 => sp (x :: (vs ++ dvs)) H2 Q E
/-- C(..): a new instance and its dict, then __init__ -/
def tMake (C : Addr) (sp : Sp) (dvs : List V) (E : XK) (t : TA) : TE := fun σ H Q => t σ H fun vs H1 => ∀ x dx, H1 x = none → H1 dx = none → dx ≠ x →
  sp (.ref x :: (vs ++ dvs)) (upd (upd H1 dx (.own x)) x (.ins C dx [])) (fun v H2 => v = .non ∧ Q (.ref x) H2) E
/-- how the parameters are bound: us the positional arguments, kw the keywords' values by name, ds the defaults that fill up -/
def Binds (K : PySem.W.Frag) (fd : FuncData) (ps : List Str) (ds : List Value) : Prop :=
  ∀ (s : Shared) (us : List Value), K.In s.heap → (us ++ ds).length = ps.length → BindsTo s fd ⟨us, []⟩ (ps.zip (us ++ ds))
/-- every parameter is given -/
theorem Binds.all {K : PySem.W.Frag} {fd : FuncData} {ps : List Str} (h : ∀ us : List Value, us.length = ps.length → bindArgs fd ⟨us, []⟩ = pure (ps.zip us)) : Binds K fd ps [] := fun s us _ hl => by
  rw [List.append_nil] at hl ⊢
  exact .of_eq (h us hl)
/-- an exception of a callee reaches what this body wants of exceptions -/
def Passes (CX : CXT) (X : Cx) (E : XK) : Prop := ∀ (pins : List (Addr × Obj)) (σ : St) (H : Hp) (s : Shared) (e : Value) (s' : Shared), Inv X pins σ H s → CX X.stack H s E e s' → X.xe e s'
section
variable {X : Cx} {CX : CXT} {k : Nat} {f C : Addr} {fd : FuncData} {ps : List Str} {sp : Sp} {dvs : List V} {ds : List Value} {E : XK} {x m : Str} {p pos apos : Pos} {e o : Expr} {es : List Expr} {ta : TE} {t : TA}
/-- the callee runs -/
theorem run_fn {pins : List (Addr × Obj)} {σ : St} {H : Hp} {s : Shared} {Q : VK} {us : List Value} {vs : List V} (F : FnOk X.prog X.w X.K X.mg X.base CX k f fd ps sp) (hr : Room k X.A) (hb : Binds X.K fd ps ds) (hd : Vals dvs ds) (hx : Passes CX X E)
    (I : Inv X pins σ H s) (r : Vals vs us) (h : sp (vs ++ dvs) H Q E) : wpAny (model X.prog X.w) X.A (call (.ref f) us) (EP X pins σ Q) X.xe s := by
  have r2 : Vals (vs ++ dvs) (us ++ ds) := r.append hd
  have hl : (us ++ ds).length = ps.length := by rw [← r2.length]; exact F.len _ _ _ _ h
  refine wpAny_call (codeAny_mono (F.run X.A X.stack s H ⟨us, []⟩ (us ++ ds) (vs ++ dvs) Q E hr I.env0 (hb s us I.kIn hl) r2 h) fun r s' hq => ?_)
  cases r with
  | error e => exact hx pins σ H s e s' I hq
  | ok fl =>
    cases fl with
    | ret u => exact I.after hq
    | next => exact False.elim hq
    | brk => exact False.elim hq
    | cont => exact False.elim hq
theorem pe_call (F : FnOk X.prog X.w X.K X.mg X.base CX k f fd ps sp) (hr : Room k X.A) (hg : Gl X x) (hm : X.mg x = some (.ref f)) (hk : PySem.W.keepIn X.K (.ref f) = true) (hb : Binds X.K fd ps ds) (hd : Vals dvs ds) (hx : Passes CX X E)
    (ha : PA X (e :: es) t) (hdb : (x == ("__debug__" : Str)) = false := by decide) (he : starEach (e :: es) X.env = (false, eval e X.env) :: starEach es X.env := by rfl) (hpl : (backTo pos (starEach es X.env)).any (·.1) = false := by rfl) :
    PE X (.Call (.Name x p) (e :: es) [] pos) (tCall sp dvs E t) := by
  intro pins s σ H Q I h
  refine wpAny_Call_Name_kw (ld_glob I hg hm ?_ hdb)
  refine PySem.W.callWith_K (h₀ := X.base) I.ok.mod.kin hk (thn (ha pos pins s σ H _ I h) fun us s1 ⟨vs, H1, I1, r, q⟩ => ⟨I1.kIn, ?_⟩) he hpl
  exact run_fn F hr hb hd hx I1 r q
/-- o.m(e, ..) -/
theorem pe_meth {pl : Sem Bool} (he : PE X o ta) (c : Cls X.K C) (hm : Meth X.K C m f) (F : FnOk X.prog X.w X.K X.mg X.base CX k f fd ps sp) (hr : Room k X.A) (hb : Binds X.K fd ps ds) (hd : Vals dvs ds) (hx : Passes CX X E) (ha : PA X (e :: es) t)
    (hst : starEach (e :: es) X.env = (false, eval e X.env) :: starEach es X.env := by rfl) (hpl : (backTo pos (starEach es X.env)).any (·.1) = false := by rfl)
    (ht : eval (.Call (.Attribute o m apos) (e :: es) [] pos) X.env = (do
      let ov ← eval o X.env
      standAt apos.atName
      let (f, first) ← holding [ov] (getMethod ov m pl)
      callWith pos f first (backTo pos (starEach (e :: es) X.env)) (backToKw pos (keywordEach [] X.env))) := by rfl) :
    PE X (.Call (.Attribute o m apos) (e :: es) [] pos) (tMeth C m sp dvs E ta t) := by
  intro pins s σ H Q I h
  refine PySem.W.methodCall_KW (pl := pl) (thn (he pins s σ H _ I h) fun u s1 ⟨x, H1, I1, rx, a, dx, fs, ex, ea, l, q⟩ => ?_) ht
  subst ex
  obtain rfl : u = Value.ref a := rx
  refine getmeth_ok I1 ea c hm l ?_
  refine PySem.W.callWith_K (first := [.ref a]) (h₀ := X.base) I.ok.mod.kin hm.kp (thn (ha pos pins s1 σ H1 _ I1 q) fun us s2 ⟨vs, H2, I2, r, q2⟩ => ⟨I2.kIn, ?_⟩) hst hpl
  exact run_fn (us := .ref a :: us) (vs := .ref a :: vs) F hr hb hd hx I2 (.cons rfl r) q2
/-- what a class must have to be made -/
structure Mk (K : PySem.W.Frag) (C f : Addr) : Prop where
  makes : PySem.W.makesIn K C = true
  init : PySem.W.findIn K (.ref C) "__init__" = some (some (.ref f))
  fn : PySem.W.isFn K (.ref f) = true
  kp : PySem.W.keepIn K (.ref C) = true
theorem run_make {pins : List (Addr × Obj)} {σ : St} {H : Hp} {s : Shared} {Q : VK} {us : List Value} {vs : List V} (M : Mk X.K C f) (F : FnOk X.prog X.w X.K X.mg X.base CX k f fd ps sp) (hr : Room (k + 1) X.A) (hb : Binds X.K fd ps ds) (hd : Vals dvs ds)
    (hx : Passes CX X E) (I : Inv X pins σ H s) (r : Vals vs us)
    (h : ∀ x dx, H x = none → H dx = none → dx ≠ x → sp (.ref x :: (vs ++ dvs)) (upd (upd H dx (.own x)) x (.ins C dx [])) (fun v H2 => v = .non ∧ Q (.ref x) H2) E) :
    wpAny (model X.prog X.w) X.A (call (.ref C) us) (EP X pins σ Q) X.xe s := by
  have hq := h (s.heap.objs.size + 1) s.heap.objs.size (I.hok.fresh (Nat.le_succ _)) (I.hok.fresh (Nat.le_refl _)) (Nat.ne_of_lt (Nat.lt_succ_self _))
  have I2 := Inv.made (C := C) I
  have r2 : Vals (V.ref (s.heap.objs.size + 1) :: (vs ++ dvs)) (Value.ref (s.heap.objs.size + 1) :: (us ++ ds)) := .cons rfl (r.append hd)
  have hl : (Value.ref (s.heap.objs.size + 1) :: us ++ ds).length = ps.length := by
    have e := r2.length
    rw [F.len _ _ _ _ hq] at e
    exact e.symm
  refine wpAny_call (make_map (f := f) I.kIn M.makes M.init (beq_iff_eq.mp M.fn) (codeAny_mono (F.run _ X.stack _ _ ⟨Value.ref (s.heap.objs.size + 1) :: us, []⟩ (Value.ref (s.heap.objs.size + 1) :: (us ++ ds)) _ _ E (hr.make C us [])
    (I2.env0.make C us []) (hb _ (Value.ref (s.heap.objs.size + 1) :: us) I2.kIn hl) r2 hq) fun r s' hq' => ?_))
  cases r with
  | error e => exact hx pins σ _ _ e s' I2 hq'
  | ok fl =>
    cases fl with
    | ret u =>
      obtain ⟨v, H', I3, rv, ev, q3⟩ := I2.after hq'
      subst ev
      exact ⟨rv, ⟨V.ref (s.heap.objs.size + 1), H', I3, rfl, q3⟩⟩
    | next => exact False.elim hq'
    | brk => exact False.elim hq'
    | cont => exact False.elim hq'
theorem pe_make (M : Mk X.K C f) (F : FnOk X.prog X.w X.K X.mg X.base CX k f fd ps sp) (hr : Room (k + 1) X.A) (hg : Gl X x) (hm : X.mg x = some (.ref C)) (hb : Binds X.K fd ps ds) (hd : Vals dvs ds) (hx : Passes CX X E)
    (ha : PA X (e :: es) t) (hdb : (x == ("__debug__" : Str)) = false := by decide) (he : starEach (e :: es) X.env = (false, eval e X.env) :: starEach es X.env := by rfl) (hpl : (backTo pos (starEach es X.env)).any (·.1) = false := by rfl) :
    PE X (.Call (.Name x p) (e :: es) [] pos) (tMake C sp dvs E t) := by
  intro pins s σ H Q I h
  refine wpAny_Call_Name_kw (ld_glob I hg hm ?_ hdb)
  refine PySem.W.callWith_K (h₀ := X.base) I.ok.mod.kin M.kp (thn (ha pos pins s σ H _ I h) fun us s1 ⟨vs, H1, I1, r, q⟩ => ⟨I1.kIn, ?_⟩) he hpl
  exact run_make M F hr hb hd hx I1 r q
end
/-! ### keywords -/
section
variable {X : Cx} {CX : CXT} {k : Nat} {f C : Addr} {fd : FuncData} {ps ks : List Str} {sp : Sp} {E : XK} {x m : Str} {p pos apos kpos : Pos} {e o : Expr} {es : List Expr} {kws : List Keyword} {te ta : TE} {t tk : TA} {nm : Option Str}
/-- how a call with keywords binds: g puts the positional values us and the keywords' values ws (names ks) in the parameters' order, defaults among them -/
structure KBinds (K : PySem.W.Frag) (fd : FuncData) (ps ks : List Str) (g : List Value → List Value → List Value) (gV : List V → List V → List V) : Prop where
  to : ∀ (s : Shared) (us ws : List Value), K.In s.heap → (g us ws).length = ps.length → BindsTo s fd ⟨us, ks.zip ws⟩ (ps.zip (g us ws))
  rel : ∀ {vs : List V} {us : List Value} {zs : List V} {ws : List Value}, Vals vs us → Vals zs ws → Vals (gV vs zs) (g us ws)
variable {g : List Value → List Value → List Value} {gV : List V → List V → List V}
end
/-! ### a def's body keeps its promise -/
/-- names: the parameters first -/
structure FnScope (N P : List Str) (sc : Scope) : Prop where
  kind : sc.kind = .function
  co : sc.isCoroutine = false
  gen : sc.isGenerator = false
  nd : N.Nodup
  pre : N.take P.length = P
  par : ∀ x ∈ P, sc.names.lookup x = some .local ∨ sc.names.lookup x = some .cell
  nofree : ∀ y ∈ sc.names, y.2 ≠ .free
theorem bindL_out {kindOf : Str → Option NameKind} {x : Str} : ∀ {binds : List (Str × Value)} {m : Str → Option Value}, (∀ v, (x, v) ∉ binds) → bindL kindOf binds m x = m x
  | [], _, _ => rfl
  | (n, v) :: r, m, h => by
    unfold bindL
    rw [bindL_out fun w hw => h w (List.mem_cons_of_mem _ hw)]
    split
    · have : x ≠ n := by rintro rfl; exact h v List.mem_cons_self
      simp [this]
    · rfl
theorem bindC_out {kindOf : Str → Option NameKind} {x : Str} : ∀ {binds : List (Str × Value)} {m : Str → Option Value}, (∀ v, (x, v) ∉ binds) → bindC kindOf binds m x = m x
  | [], _, _ => rfl
  | (n, v) :: r, m, h => by
    unfold bindC
    rw [bindC_out fun w hw => h w (List.mem_cons_of_mem _ hw)]
    split
    · rfl
    · have : x ≠ n := by rintro rfl; exact h v List.mem_cons_self
      simp [this]
theorem bindL_get {kindOf : Str → Option NameKind} {x : Str} {v : Value} : ∀ {P : List Str} {vs : List Value} {i : Nat} {m : Str → Option Value}, P.Nodup → P[i]? = some x → vs[i]? = some v → kindOf x = some .local →
    bindL kindOf (P.zip vs) m x = some v
  | [], _, _, _, _, h, _, _ => by simp at h
  | _ :: _, [], _, _, _, _, h, _ => by simp at h
  | p :: P, w :: vs, 0, m, nd, h1, h2, hk => by
    simp at h1 h2; subst h1; subst h2
    show bindL kindOf ((p, w) :: P.zip vs) m p = _
    unfold bindL
    rw [bindL_out fun v hv => (List.nodup_cons.mp nd).1 (List.of_mem_zip hv).1, if_pos hk]
    simp
  | p :: P, w :: vs, i + 1, m, nd, h1, h2, hk => by
    show bindL kindOf ((p, w) :: P.zip vs) m x = _
    unfold bindL
    exact bindL_get (i := i) (List.nodup_cons.mp nd).2 (by simpa using h1) (by simpa using h2) hk
theorem bindC_get {kindOf : Str → Option NameKind} {x : Str} {v : Value} : ∀ {P : List Str} {vs : List Value} {i : Nat} {m : Str → Option Value}, P.Nodup → P[i]? = some x → vs[i]? = some v → kindOf x ≠ some .local →
    bindC kindOf (P.zip vs) m x = some v
  | [], _, _, _, _, h, _, _ => by simp at h
  | _ :: _, [], _, _, _, _, h, _ => by simp at h
  | p :: P, w :: vs, 0, m, nd, h1, h2, hk => by
    simp at h1 h2; subst h1; subst h2
    show bindC kindOf ((p, w) :: P.zip vs) m p = _
    unfold bindC
    rw [bindC_out fun v hv => (List.nodup_cons.mp nd).1 (List.of_mem_zip hv).1, if_neg hk]
    simp
  | p :: P, w :: vs, i + 1, m, nd, h1, h2, hk => by
    show bindC kindOf ((p, w) :: P.zip vs) m x = _
    unfold bindC
    exact bindC_get (i := i) (List.nodup_cons.mp nd).2 (by simpa using h1) (by simpa using h2) hk
/-- the names' values at the entry -/
def start (N : List Str) (vs : List V) : St := vs.map some ++ List.replicate (N.length - vs.length) none
/-- the context of a def's body, at its entry; an exception leaves the frame, then lies as CX says -/
def cxOf (CX : CXT) (P : Program) (w : World) (K : PySem.W.Frag) (mg : Str → Option Value) (base : Heap) (N : List Str) (qual : Str) (scope : Scope) (f : Addr) (cd : Value) (A : Around) (outer : List Env) (s : Shared) (H : Hp) (E : XK) : Cx where
  prog := P
  w := w
  K := K
  mg := mg
  base := base
  A := A.deeper (envOfC qual scope s.heap.objs.size f cd)
  N := N
  s₀ := s
  H₀ := H
  env := envOfC qual scope s.heap.objs.size f cd
  outer := outer
  stack := envOfC qual scope s.heap.objs.size f cd :: outer
  ex := []
  calm := true
  fn := fun _ => true
  pn := []
  xe := fun e s' => wpAny (model P w) (A.deeper (envOfC qual scope s.heap.objs.size f cd)) (leaving (envOfC qual scope s.heap.objs.size f cd) e) (fun _ s'' => CX outer H s E e s'') (fun e' s'' => CX outer H s E e' s'') s'
theorem cell_has {sc : Scope} {n : Nat} {x : Str} (h : sc.names.lookup x = some .cell) : ∃ c, (cellsFrom n sc.names []).lookup x = some c := by
  have q := PySem.W.cellsFrom_some sc.names n [] (.inl h)
  exact Option.isSome_iff_exists.mp q
theorem inv_start {CX : CXT} {P : Program} {w : World} {K : PySem.W.Frag} {mg : Str → Option Value} {base : Heap} {N ps : List Str} {qual : Str} {scope : Scope} {f : Addr} {cd : Value} {A : Around} {outer : List Env} {s s1 : Shared} {H : Hp} {E : XK} {us : List Value} {vs : List V}
    (S : FnScope N ps scope) (hd : A.handled = none) (e0 : Env0 P w K mg base A outer s H) (hl : vs.length = ps.length) (r : Vals vs us)
    (x : InCallC s s.heap.objs.size (bindL (envOfC qual scope s.heap.objs.size f cd).kindOf (ps.zip us) fun _ => none) (cellsFrom (s.heap.objs.size + 1) scope.names []) (bindC (envOfC qual scope s.heap.objs.size f cd).kindOf (ps.zip us) fun _ => none) s1) :
    Inv (cxOf CX P w K mg base N qual scope f cd A outer s H E) [] (start N vs) H s1 := by
  have hpl : ps.length ≤ N.length := by have := congrArg List.length S.pre; rw [List.length_take] at this; omega
  obtain ⟨h1, tk, rfl, hk⟩ := x.done
  have noA : ∀ b : Addr, b ∉ (cxOf CX P w K mg base N qual scope f cd A outer s H E).ex := fun b z => absurd (show b ∈ ([] : List Addr) from z) (by simp)
  refine ⟨⟨e0.mod, S.kind, rfl, rfl, Nat.le_refl _, fun y z c h1 h2 => ?_, fun y hy => ?_, fun y c _ h => ?_, fun _ => hd, Around.frames_deeper e0.frames, .inr ⟨rfl, rfl⟩, fun b z => absurd z (noA b), e0.bs, e0.bsz, fun b _ _ => noA b, fun b z => absurd z (noA b), e0.funs, e0.frf⟩,
    rfl, e0.bare, Un.kept hk, ⟨_, x.toInCall.ns, fun i y v h1 h2 h3 => ?_⟩, fun y c h => ⟨_, x.cell y c h⟩, e0.hok.fresh (Nat.le_refl _), fun y c h => ?_, fun p hp => absurd (show p ∈ ([] : List (Addr × Obj)) from hp) (by simp), e0.hok.kept hk, ?_⟩
  · exact name_of_addr x.apart (PySem.mem_of_lookup h1) (PySem.mem_of_lookup h2)
  · have hy : scope.names.lookup y = some .cell ∨ scope.names.lookup y = some .free := hy
    rcases hy with hy | hy
    · exact cell_has hy
    · exact absurd rfl (S.nofree _ (PySem.mem_of_lookup hy))
  · exact Nat.le_of_lt (x.above y c (PySem.mem_of_lookup h))
  · have hi : i < vs.length := by
      unfold start at h2
      by_cases hi : i < vs.length
      · exact hi
      · rw [List.getElem?_append_right (by simpa using hi)] at h2
        rw [List.getElem?_replicate] at h2
        split at h2 <;> cases h2
    have ha : vs[i]? = some v := by
      unfold start at h2
      rw [List.getElem?_append_left (by simpa using hi), List.getElem?_map] at h2
      cases e : vs[i]? with
      | none => rw [e] at h2; cases h2
      | some a => rw [e] at h2; cases h2; rfl
    obtain ⟨u, hu, rv⟩ := r.get ha
    have hp : ps[i]? = some y := by
      rw [← S.pre, List.getElem?_take_of_lt (by omega)]; exact h1
    have ndP : ps.Nodup := by rw [← S.pre]; exact S.nd.sublist (List.take_sublist _ _)
    refine ⟨u, rv, ?_⟩
    rcases S.par y (List.mem_of_getElem? hp) with k | k
    · exact .inl ⟨k, bindL_get ndP hp hu k⟩
    · obtain ⟨c, e⟩ := cell_has (n := s.heap.objs.size + 1) k
      refine .inr ⟨.inl k, c, e, ?_⟩
      have q := x.cell y c e
      rw [bindC_get ndP hp hu (by show scope.names.lookup y ≠ _; rw [k]; decide)] at q
      exact q
  · exact e0.hok.fresh (Nat.le_of_lt (x.above y c (PySem.mem_of_lookup h)))
  · unfold start
    show _ = N.length
    rw [List.length_append, List.length_map, List.length_replicate]
    omega
/-- THE RULE: a def (or a method) of the text, by its body. The body's reading t is chosen for each entry; it is run at the parameters' values -/
theorem fn_of {CX : CXT} {P : Program} {w : World} {K : PySem.W.Frag} {mg : Str → Option Value} {base : Heap} {k : Nat} {f : Addr} {name qual : Str} {params : Arguments} {body : List Stmt} {scope : Scope} {dV kV doc pm cdv ct oc : Value} {an od : Option Addr}
    {osl : Array (Option Value)} {N ps : List Str} {sp : Sp} (lk : K.lookup f = some ⟨oc, od, .func (PySem.W.fnOf name qual params body scope dV kV doc pm an cdv ct), osl⟩) (hcd : PySem.W.codeIn K cdv qual = true) (S : FnScope N ps scope)
    (len : ∀ vs H Q E, sp vs H Q E → vs.length = ps.length)
    (hbody : ∀ (A : Around) (outer : List Env) (s : Shared) (H : Hp) (vs : List V) (Q : VK) (E : XK), Room k (A.deeper (envOfC qual scope s.heap.objs.size f cdv)) → sp vs H Q E →
      ∃ t, PSs (cxOf CX P w K mg base N qual scope f cdv A outer s H E) body t ∧ t { nx := fun _ H' => Q .non H', rt := Q } (start N vs) H) :
    FnOk P w K mg base CX (k + 1) f (PySem.W.fnOf name qual params body scope dV kV doc pm an cdv ct) ps sp := by
  refine ⟨len, fun A outer s H args us vs Q E hr e0 hb r hsp => ?_⟩
  have hl := len _ _ _ _ hsp
  have KX : K.In s.heap := e0.mod.kin.keeps fun b o e => (e0.bs b o e).1
  have lim : s.heap.NoLimit := e0.mod.nolimit.keeps fun b o e => (e0.bs b o e).1
  have hkind : ∀ y ∈ ps.zip us, scope.names.lookup y.1 = some .local ∨ (scope.names.lookup y.1 = some .cell ∧ ((cellsFrom (s.heap.objs.size + 1) scope.names []).lookup y.1).isSome = true) := fun ⟨n, v⟩ hy => by
    rcases S.par n (List.of_mem_zip hy).1 with q | q
    · exact .inl q
    · exact .inr ⟨q, PySem.W.cellsFrom_some _ _ _ (.inl q)⟩
  refine codeAny_call_function hr.depth (KX _ _ lk) rfl S.co S.gen rfl (PySem.W.codeRec_of KX hcd) (hb _ _ _ _ ?_)
  refine wpAny_newFunctionEnv_cells S.kind hkind fun env he s1 x => ?_
  subst he
  refine ⟨lim.keeps x.toInCall.keep, codeAny_func ?_⟩
  obtain ⟨t, ht, hq⟩ := hbody A outer s H vs Q E (hr.deeper _) hsp
  have I : Inv (cxOf CX P w K mg base N qual scope f cdv A outer s H E) [] (start N vs) H s1 := inv_start S hr.hd e0 hl r x
  refine wpAny_mono (ht [] s1 (start N vs) H _ I hq) (fun fl s' hs => ?_) fun e s' hs => hs
  have fin : ∀ {σ' : St} {H' : Hp} {v : V} {u : Value}, Inv (cxOf CX P w K mg base N qual scope f cdv A outer s H E) [] σ' H' s' → RelV v u → Q v H' → CE outer P w H s Q u s' :=
    fun {σ' H' v u} J rv q => ⟨v, H', J.os, J.bare, J.base, J.hok, rv, q⟩
  cases fl with
  | ret u =>
    obtain ⟨v, σ', H', J, rv, q⟩ := hs
    exact fin J rv q
  | next =>
    obtain ⟨σ', H', J, q⟩ := hs
    exact fin (v := V.non) (u := Value.none) J rfl q
  | brk =>
    obtain ⟨_, _, _, q⟩ := hs
    exact False.elim q
  | cont =>
    obtain ⟨_, _, _, q⟩ := hs
    exact False.elim q
end L2
namespace L2
open PySem PySem.Spec PyProof.Rows
section
variable {X : Cx} {x : Str} {p pos : Pos} {e : Expr} {es : List Expr} {t : TA} {id T : String} {r : List V → Hp → VK → Prop}
def tCB (r : List V → Hp → VK → Prop) (t : TA) : TE := fun σ H Q => t σ H fun vs H1 => r vs H1 Q
/-- f(e, ..), f a built-in function -/
theorem pe_callB (hc : CallR X (.builtin id) r) (hg : Gl X x) (hm : X.mg x = none) (hv : bootBuiltins x = some (.builtin id)) (ha : PA X (e :: es) t) (hn : x ≠ "__name__" := by decide) (hdb : (x == ("__debug__" : Str)) = false := by decide)
    (he : starEach (e :: es) X.env = (false, eval e X.env) :: starEach es X.env := by rfl) (hpl : (backTo pos (starEach es X.env)).any (·.1) = false := by rfl) : PE X (.Call (.Name x p) (e :: es) [] pos) (tCB r t) := by
  intro pins s σ H Q I h
  refine wpAny_Call_Name_kw (ld_blt I hg hm hv ?_ hn hdb)
  exact PyProof.Rows.callWith_builtin1 (thn (ha pos pins s σ H _ I h) fun us s1 ⟨vs, H1, I1, r1, q1⟩ => hc pins s1 σ H1 vs us Q I1 r1 q1) he hpl
/-- T(e, ..), T a built-in type -/
theorem pe_callTy (hc : CallR X (.type T) r) (hg : Gl X x) (hm : X.mg x = none) (hv : bootBuiltins x = some (.type T)) (ha : PA X (e :: es) t) (hn : x ≠ "__name__" := by decide) (hdb : (x == ("__debug__" : Str)) = false := by decide)
    (he : starEach (e :: es) X.env = (false, eval e X.env) :: starEach es X.env := by rfl) (hpl : (backTo pos (starEach es X.env)).any (·.1) = false := by rfl) : PE X (.Call (.Name x p) (e :: es) [] pos) (tCB r t) := by
  intro pins s σ H Q I h
  refine wpAny_Call_Name_kw (ld_blt I hg hm hv ?_ hn hdb)
  exact PyProof.Rows.callWith_type1 (thn (ha pos pins s σ H _ I h) fun us s1 ⟨vs, H1, I1, r1, q1⟩ => hc pins s1 σ H1 vs us Q I1 r1 q1) he hpl
end
end L2
namespace HT
open PySem PyProof.Rows
section
open PySem.SeqAt
open PySem.AutoSeq1 (wpAny_loadPart')
open PySem.MeetsSeq PySem.MeetsSeq2 PySem.MeetsSeq3
end
section
variable {prog : Program} {w : World} {A : Around} {E : Value → Shared → Prop} {s : Shared}
/-- t + u, t not empty -/
theorem cat_tup {t b : Addr} {vs ws : List Value} {Q : Value → Shared → Prop} (ht : IsTup s.heap t vs.toArray) (hb : IsTup s.heap b ws.toArray) (hv : vs ≠ [])
    (h1 : ws = [] → Q (.ref t) s) (h2 : ws ≠ [] → Q (.ref s.heap.objs.size) { s with heap := s.heap.push { cls := .type "tuple", data := .seq (vs ++ ws).toArray } })
    (hsz : vs.length + ws.length ≤ sizeLine) : wpAny (model prog w) A (binaryOp .Add (.ref t) (.ref b)) Q E s := by
  obtain ⟨⟨cls, dd, data, sl⟩, ho, hc, n, hd⟩ := id ht
  obtain ⟨⟨cls2, dd2, data2, sl2⟩, ho2, hc2, n2, hd2⟩ := id hb
  simp only at hc hd hc2 hd2
  subst hc hd hc2 hd2
  have e : vs.toArray ++ ws.toArray = (vs ++ ws).toArray := by simp
  by_cases hw : ws = []
  · exact concat_meets ⟨_, ho, rfl⟩ ⟨_, ho2, rfl⟩ noFill_tuple_add seq_tuple_add PySem.F.slot_tuple_add PySem.F.entry_tuple_add (PySem.F.args_tuple_add_2 _ _)
      (tuple_addW1 t b vs.toArray ws.toArray n n2 dd dd2 sl sl2 (by simpa using hv) (by simp [hw])) ⟨ho, ho2, h1 hw⟩
  · refine concat_meets ⟨_, ho, rfl⟩ ⟨_, ho2, rfl⟩ noFill_tuple_add seq_tuple_add PySem.F.slot_tuple_add PySem.F.entry_tuple_add (PySem.F.args_tuple_add_2 _ _)
      (tuple_addW2 t b vs.toArray ws.toArray n n2 dd dd2 sl sl2 (by simpa using hv) (by simpa using hw) (by rw [List.size_toArray, List.size_toArray]; exact hsz)) ⟨ho, ho2, ?_⟩
    rw [e]
    exact h2 hw
/-! ### t[a:b], not the whole -/
/-- a slice's bound as a place among n (d where it is left out) -/
def sIx (n d : Nat) : Option Int → Nat
  | none => d
  | some v => if v < 0 then (v + (n : Int)).toNat else min v.toNat n
theorem sIx_nat (n d k : Nat) : sIx n d (some (k : Int)) = min k n := by
  show (if (k : Int) < 0 then ((k : Int) + (n : Int)).toNat else min (k : Int).toNat n) = min k n
  rw [if_neg (by omega), Int.toNat_natCast]
theorem sIx_le (n d : Nat) (hd : d ≤ n) (o : Option Int) : sIx n d o ≤ n := by
  cases o with
  | none => exact hd
  | some v =>
    show (if v < 0 then (v + (n : Int)).toNat else min v.toNat n) ≤ n
    by_cases hv : v < 0
    · rw [if_pos hv]; omega
    · rw [if_neg hv]; exact Nat.min_le_right _ _
theorem clip_eq (v : Int) (n d : Nat) : (if v < 0 then max (v + (n : Int)) 0 else min v (n : Int)) = ((sIx n d (some v) : Nat) : Int) := by
  show (if v < 0 then max (v + (n : Int)) 0 else min v (n : Int)) = (((if v < 0 then (v + (n : Int)).toNat else min v.toNat n) : Nat) : Int)
  by_cases hv : v < 0
  · simp only [if_pos hv]; omega
  · simp only [if_neg hv]; omega
theorem adjust_gen (lo hi : Option Int) (n : Nat) : Builtin.Slice.sliceAdjust lo hi 1 (n : Int) = (((sIx n 0 lo : Nat) : Int), ((sIx n n hi : Nat) : Int)) := by
  have h1 : ¬ ((1 : Int) < 0) := by omega
  unfold Builtin.Slice.sliceAdjust
  simp only [h1, if_false]
  refine Prod.ext ?_ ?_
  · cases lo with
    | none => rfl
    | some v => exact clip_eq v n 0
  · cases hi with
    | none => rfl
    | some v => exact clip_eq v n n
theorem places_gen (i j : Nat) : Builtin.Slice.slicePlaces (i : Int) (j : Int) 1 = j - i := by
  unfold Builtin.Slice.slicePlaces
  have h1 : (1 : Int) > 0 := by omega
  simp only [h1, if_true, Int.ediv_one]
  split <;> omega
theorem slicePart_ {v : Value} {o : Option Int} {Q : Option Int → Shared → Prop} (p : IsPart v o) (h : Q o s) : wpAny (model prog w) A (Builtin.Slice.slicePartIndex v) Q E s := by
  cases p with
  | none => exact slicePart_none h
  | int i t => exact slicePart_int h
theorem sliceApplied_gen {sl : Addr} {vl vu : Value} {lo hi : Option Int} {n : Nat} {Q : Int × Int × Nat → Shared → Prop} (hs : s.heap.IsSliceOf sl vl vu .none) (pl : IsPart vl lo) (pu : IsPart vu hi)
    (h : Q (((sIx n 0 lo : Nat) : Int), 1, sIx n n hi - sIx n 0 lo) s) : wpAny (model prog w) A (Builtin.Slice.sliceApplied (.ref sl) (pure (n : Int))) Q E s := by
  obtain ⟨os, hos, hcs, hds⟩ := id hs
  unfold Builtin.Slice.sliceApplied Builtin.Slice.sliceFields
  refine wpAny_bind (wpAny_bind (wpAny_field hos hds (x := vl) rfl (wpAny_bind (wpAny_field hos hds (x := vu) rfl (wpAny_bind (wpAny_field hos hds (x := .none) rfl (wpAny_pure ?_)))))))
  refine wpAny_bind (slicePart_none ?_)
  show wpAny _ _ (if ((1 : Int) == 0) = true then _ else _) _ _ s
  rw [if_neg (by decide)]
  refine wpAny_bind (slicePart_ pl (wpAny_bind (slicePart_ pu (wpAny_bind (wpAny_pure ?_)))))
  show wpAny _ _ (match Builtin.Slice.sliceAdjust lo hi 1 (n : Int) with | (lo, hi) => pure (lo, (1 : Int), Builtin.Slice.slicePlaces lo hi 1)) _ _ s
  rw [adjust_gen lo hi n]
  show wpAny _ _ (pure (((sIx n 0 lo : Nat) : Int), (1 : Int), Builtin.Slice.slicePlaces ((sIx n 0 lo : Nat) : Int) ((sIx n n hi : Nat) : Int) 1)) _ _ s
  rw [places_gen]
  exact wpAny_pure h
theorem pick_gen (xs : Array Value) (i k : Nat) : ((List.range k).filterMap fun (m : Nat) => xs[((i : Int) + (m : Int) * 1).toNat]?).toArray = ((xs.toList.drop i).take k).toArray := by
  have e : (fun (m : Nat) => xs[((i : Int) + (m : Int) * 1).toNat]?) = fun m => xs[i + m]? := by
    funext m
    have : ((i : Int) + (m : Int) * 1).toNat = i + m := by omega
    rw [this]
  rw [e]
  have := pick_run xs i k
  rw [List.filterMap_map] at this
  have e2 : ((fun x => xs[x]?) ∘ fun x => i + x) = fun m => xs[i + m]? := rfl
  rw [e2] at this
  rw [this]
theorem getItem_tuple_cut {t sl : Addr} {items : Array Value} {vl vu : Value} {lo hi : Option Int} {Q : Value → Shared → Prop} (ht : IsTup s.heap t items) (hs : s.heap.IsSliceOf sl vl vu .none) (pl : IsPart vl lo) (pu : IsPart vu hi)
    (hw : ¬ (sIx items.size 0 lo = 0 ∧ sIx items.size items.size hi = items.size))
    (h : Q (.ref s.heap.objs.size) { s with heap := s.heap.push { cls := .type "tuple", data := .seq ((items.toList.drop (sIx items.size 0 lo)).take (sIx items.size items.size hi - sIx items.size 0 lo)).toArray } })
    (hsz : items.size ≤ sizeLine) : wpAny (model prog w) A (getItem (.ref t) (.ref sl)) Q E s := by
  have htake : sizeOk (.seq ((items.toList.drop (sIx items.size 0 lo)).take (sIx items.size items.size hi - sIx items.size 0 lo)).toArray) := by
    show ((items.toList.drop (sIx items.size 0 lo)).take (sIx items.size items.size hi - sIx items.size 0 lo)).toArray.size ≤ sizeLine
    rw [List.size_toArray, List.length_take, List.length_drop, Array.length_toList]
    omega
  have hj : sIx items.size items.size hi ≤ items.size := sIx_le _ _ (Nat.le_refl _) hi
  obtain ⟨os, hos, hcs, hds⟩ := id hs
  have hTs : s.TypeIs (.ref sl) "slice" := ⟨os, hos, hcs⟩
  unfold getItem
  try with_reducible refine wpAny_holding ?_
  first | refine wpAny_bind (wpAny_pure ?_) | skip
  refine wpAny_bind (wpAny_sequenceKey ht.typeIs (by decide) ?_)
  refine wpAny_bind (wpAny_callSpecial?_slot (name := Str.ofString "__getitem__") ht.typeIs PyProof.Rows.slot_tuple_getitem
    (wpAny_call_entry PyProof.Rows.slot_tuple_getitem ht.typeIs entry_tuple_getitem ?_ (args_tuple_getitem _ _)))
  show wpAny _ _ (Builtin.Tuple.tupleItemsOf (.ref t) >>= _) _ _ s
  refine wpAny_bind (tupleItemsOf_ ht ?_)
  refine wpAny_bind (wpAny_typeOf hTs ?_)
  rw [if_pos (by decide)]
  refine wpAny_bind (sliceApplied_gen hs pl pu ?_)
  have hno : ¬ ((((sIx items.size 0 lo : Nat) : Int) == 0 && (1 : Int) == 1 && (sIx items.size items.size hi - sIx items.size 0 lo) == items.size) = true) := by
    intro q
    rw [Bool.and_eq_true, Bool.and_eq_true] at q
    have q1 : ((sIx items.size 0 lo : Nat) : Int) = 0 := eq_of_beq q.1.1
    have q2 : sIx items.size items.size hi - sIx items.size 0 lo = items.size := eq_of_beq q.2
    exact hw ⟨by omega, by omega⟩
  show wpAny _ _ (if (((sIx items.size 0 lo : Nat) : Int) == 0 && (1 : Int) == 1 && (sIx items.size items.size hi - sIx items.size 0 lo) == items.size) = true then _ else _) _ _ s
  rw [if_neg hno, pick_gen]
  first
    | exact wpAny_bind (m := Builtin.Tuple.tupleExact _) (wpAny_newObj_type (wpAny_pure ⟨_, rfl, wpAny_pure h⟩) htake)
    | exact wpAny_bind (m := Builtin.Tuple.tupleExact _) (wpAny_newObj_type (wpAny_bind (wpAny_pure (wpAny_pure ⟨_, rfl, wpAny_pure h⟩))) htake)
    | exact wpAny_bind (wpAny_bind (m := Builtin.Tuple.tupleExact _) (wpAny_newObj_type (wpAny_pure (wpAny_pure ⟨_, rfl, wpAny_pure h⟩)) htake))
    | exact wpAny_bind (wpAny_bind (m := Builtin.Tuple.tupleExact _) (wpAny_newObj_type (wpAny_pure ⟨_, rfl, wpAny_pure h⟩) htake))
end
end HT
namespace L2
open PySem PySem.Spec PyProof.Rows
/-! ### the parts of a slice -/
abbrev TO := St → Hp → (Option Int → Hp → Prop) → Prop
/-- a slice's part (left out, or an int) -/
def PO (X : Cx) (e : Option Expr) (t : TO) : Prop :=
  ∀ (pins : List (Addr × Obj)) (s : Shared) (σ : St) (H : Hp) (Q : Option Int → Hp → Prop), Inv X pins σ H s → t σ H Q →
    wpAny (model X.prog X.w) X.A (evalPart e X.env) (fun u s' => ∃ o H', Inv X pins σ H' s' ∧ IsPart u o ∧ Q o H') X.xe s
def tPart (t : TE) : TO := fun σ H Q => t σ H fun x H1 => ∃ i, x = .int i ∧ Q (some i) H1
section
variable {X : Cx} {e : Expr} {te : TE} {lo hi : Option Expr} {tl th : TO} {pos p2 : Pos}
theorem po_some (h : PE X e te) : PO X (some e) (tPart te) := by
  intro pins s σ H Q I hw
  rw [evalPart_some]
  refine thn (h pins s σ H _ I hw) fun u s1 ⟨x, H1, I1, r1, q1⟩ => ?_
  obtain ⟨i, rfl, q⟩ := q1
  obtain ⟨t, rfl⟩ := r1
  exact ⟨some i, H1, I1, .int i t, q⟩
/-- what a slice of a value is, by values: the slice object stands at sl -/
def SlR (X : Cx) (r : V → Option Int → Option Int → Hp → VK → Prop) : Prop :=
  ∀ (pins : List (Addr × Obj)) (s : Shared) (σ : St) (H : Hp) (x : V) (v vl vu : Value) (lo hi : Option Int) (sl : Addr) (Q : VK), Inv X pins σ H s → RelV x v → s.heap.IsSliceOf sl vl vu .none → IsPart vl lo → IsPart vu hi → r x lo hi H Q →
    ∃ T id, typeLookup (.type T) "__getitem__" = pure (some (.builtin id)) ∧ s.TypeIs v T ∧ wpAny (model X.prog X.w) X.A (getItem v (.ref sl)) (EP X pins σ Q) X.xe s
theorem SlR.or {r r' : V → Option Int → Option Int → Hp → VK → Prop} (h : SlR X r) (h' : SlR X r') : SlR X (fun x lo hi H Q => r x lo hi H Q ∨ r' x lo hi H Q) := by
  intro pins s σ H x v vl vu lo hi sl Q I rx hs pl pu q
  rcases q with q | q
  · exact h pins s σ H x v vl vu lo hi sl Q I rx hs pl pu q
  · exact h' pins s σ H x v vl vu lo hi sl Q I rx hs pl pu q
def tSl (r : V → Option Int → Option Int → Hp → VK → Prop) (te : TE) (tl th : TO) : TE := fun σ H Q => te σ H fun x H1 => tl σ H1 fun l H2 => th σ H2 fun u H3 => r x l u H3 Q
/-- a[lo:hi], any a -/
theorem pe_slice {r : V → Option Int → Option Int → Hp → VK → Prop} (hr : SlR X r) (he : PE X e te) (hl : PO X lo tl) (hu : PO X hi th) : PE X (.Subscript e (.Slice lo hi none p2) pos) (tSl r te tl th) := by
  intro pins s σ H Q I h
  refine Subscript_ (thn (he pins s σ H _ I h) fun v s1 ⟨x, H1, I1, r1, q1⟩ => ?_)
  refine wpAny_Slice (thn (hl pins s1 σ H1 _ I1 q1) fun vl s2 ⟨l, H2, I2, pl, q2⟩ => thn (hu pins s2 σ H2 _ I2 q2) fun vu s3 ⟨u, H3, I3, pu, q3⟩ => ?_)
  rw [evalPart_none]
  refine wpAny_pure ?_
  have I4 : Inv X pins σ H3 { s3 with heap := s3.heap.push { cls := .type "slice", data := .fields #[vl, vu, .none] } } := I3.kept (t' := s3.toks) fun b ob q => Heap.get?_push_of_some _ q
  obtain ⟨T, id, hT, ht, hg⟩ := hr pins { s3 with heap := s3.heap.push { cls := .type "slice", data := .fields #[vl, vu, .none] } } σ H3 x v vl vu l u s3.heap.objs.size Q I4 r1 (Heap.IsSliceOf.new ..) pl pu q3
  show wpAny (model X.prog X.w) X.A (subscriptTail e (.Slice lo hi none p2) v (.ref s3.heap.objs.size)) (EP X pins σ Q) X.xe { s3 with heap := s3.heap.push { cls := .type "slice", data := .fields #[vl, vu, .none] } }
  exact tail_any (ops := [.ref s3.heap.objs.size, v]) ht hT hg (by with_unfolding_all rfl)
/-- the items of xs[lo:hi] -/
def cutV (xs : List V) (lo hi : Option Int) : List V := (xs.drop (HT.sIx xs.length 0 lo)).take (HT.sIx xs.length xs.length hi - HT.sIx xs.length 0 lo)
theorem cutV_length (xs : List V) (lo hi : Option Int) : (cutV xs lo hi).length ≤ xs.length := by
  unfold cutV
  rw [List.length_take, List.length_drop]
  omega
/-- t[lo:hi], not the whole of it (the whole would be t itself) -/
def rSlT (K : PySem.W.Frag) : V → Option Int → Option Int → Hp → VK → Prop := fun x lo hi H Q => ∃ a xs, x = .ref a ∧ SqT K H a xs ∧
  ¬ (HT.sIx xs.length 0 lo = 0 ∧ HT.sIx xs.length xs.length hi = xs.length) ∧ ∀ p, H p = none → Q (.ref p) (upd H p (.tup (cutV xs lo hi)))
theorem sl_tup : SlR X (rSlT X.K) := by
  intro pins s σ H x v vl vu lo hi sl Q I rx hs pl pu h
  obtain ⟨a, xs, rfl, hx, hw, q⟩ := h
  cases rx
  obtain ⟨its, r, ht, hz⟩ := I.tuple hx
  have hlen : its.toArray.size = xs.length := by rw [List.size_toArray]; exact r.length.symm
  refine ⟨"tuple", _, PyProof.Rows.slot_tuple_getitem.lookup, ht.typeIs, ?_⟩
  refine HT.getItem_tuple_cut ht hs pl pu (by rw [hlen]; exact hw) ?_ (by rw [hlen]; exact hz)
  rw [hlen]
  refine ⟨.ref s.heap.objs.size, _, I.laid (t' := s.toks) (o := .tup (cutV xs lo hi)) (fun b ob q => Heap.get?_push_of_some _ q) (Nat.le_refl _) ?_, rfl, q _ (I.hok.fresh (Nat.le_refl _))⟩
  exact ⟨Nat.le_trans (cutV_length xs lo hi) hz, _, (r.drop (HT.sIx xs.length 0 lo)).take (HT.sIx xs.length xs.length hi - HT.sIx xs.length 0 lo), IsTup.new _ _⟩
/-! ### t < u, t + u -/
/-- t + u, t not empty: u empty gives t itself -/
def rCatT (K : PySem.W.Frag) : R2 := fun x y H Q => ∃ a b xs ys, x = .ref a ∧ y = .ref b ∧ SqT K H a xs ∧ SqT K H b ys ∧ xs ≠ [] ∧ xs.length + ys.length ≤ sizeLine ∧
  (ys = [] → Q (.ref a) H) ∧ (ys ≠ [] → ∀ p, H p = none → Q (.ref p) (upd H p (.tup (xs ++ ys))))
theorem Vals.nil_iff {xs : List V} {us : List Value} (r : Vals xs us) : us = [] ↔ xs = [] := by
  cases r with
  | nil => simp
  | cons _ _ => simp
theorem op_catT : OpR X (binaryOp .Add) (rCatT X.K) := by
  intro pins s σ H x y v u Q I rx ry h
  obtain ⟨a, b, xs, ys, rfl, rfl, ha, hb, hx, hz, q1, q2⟩ := h
  cases rx
  cases ry
  obtain ⟨its, r1, p1, _⟩ := I.tuple ha
  obtain ⟨its2, r2, p2, _⟩ := I.tuple hb
  refine HT.cat_tup p1 p2 (fun z => hx (r1.nil_iff.mp z)) (fun z => ⟨.ref a, H, I, rfl, q1 (r2.nil_iff.mp z)⟩) (fun z => ?_) (by rw [← r1.length, ← r2.length]; exact hz)
  refine ⟨.ref s.heap.objs.size, _, I.laid (t' := s.toks) (o := .tup (xs ++ ys)) (fun b ob q => Heap.get?_push_of_some _ q) (Nat.le_refl _) ?_, rfl, q2 (fun w => z (r2.nil_iff.mpr w)) _ (I.hok.fresh (Nat.le_refl _))⟩
  exact ⟨by rw [List.length_append]; exact hz, _, r1.append r2, IsTup.new _ _⟩
end
end L2
namespace L2
open PySem PySem.Spec PyProof.Rows
/-! ### places -/
/-- the place that an index of any sign means -/
def ixN (n : Nat) (i : Int) : Option Nat := if 0 ≤ i then (if i < n then some i.toNat else none) else if -(n : Int) ≤ i then some (i + n).toNat else none
def atI {α : Type} (xs : List α) (i : Int) : Option α := (ixN xs.length i).bind fun j => xs[j]?
theorem ixN_seq {n : Nat} {i : Int} {j : Nat} (h : ixN n i = some j) : seqIndex? i n = some j ∧ j < n ∧ -(n : Int) ≤ i ∧ i < n := by
  unfold ixN at h
  by_cases h0 : 0 ≤ i
  · rw [if_pos h0] at h
    by_cases h1 : i < n
    · rw [if_pos h1] at h
      have e : i.toNat = j := Option.some.inj h
      exact ⟨by rw [seqIndex_of h0 h1, e], by omega, by omega, h1⟩
    · rw [if_neg h1] at h; cases h
  · rw [if_neg h0] at h
    by_cases h1 : -(n : Int) ≤ i
    · rw [if_pos h1] at h
      have e : (i + n).toNat = j := Option.some.inj h
      exact ⟨by rw [seqIndex_neg (by omega) h1, e], by omega, h1, by omega⟩
    · rw [if_neg h1] at h; cases h
theorem atI_get {α : Type} {xs : List α} {i : Int} {v : α} (h : atI xs i = some v) : ∃ j, seqIndex? i xs.length = some j ∧ xs[j]? = some v ∧ j < xs.length ∧ -(xs.length : Int) ≤ i ∧ i < xs.length := by
  unfold atI at h
  cases e : ixN xs.length i with
  | none => rw [e] at h; cases h
  | some j =>
    rw [e] at h
    obtain ⟨h1, h2, h3, h4⟩ := ixN_seq e
    exact ⟨j, h1, h, h2, h3, h4⟩
/-! ### what may be subscripted -/
/-- what stands as an index of a plain subscript -/
def PlainIx (b : Expr) : Prop := ∀ o i, subscripted b false o i = operate [o, i] (getItem o i)
/-- a subscript by values -/
def IxR (X : Cx) (r : R2) : Prop :=
  ∀ (value slice : Expr) (pins : List (Addr × Obj)) (s : Shared) (σ : St) (H : Hp) (x y : V) (v u : Value) (Q : VK), Inv X pins σ H s → RelV x v → RelV y u → r x y H Q →
    subscripted slice false v u = operate [v, u] (getItem v u) → wpAny (model X.prog X.w) X.A (subscriptTail value slice v u) (EP X pins σ Q) X.xe s
/-- a call of a builtin's method by values: the receiver, the arguments -/
def MtR (X : Cx) (id : String) (r : V → List V → Hp → VK → Prop) : Prop :=
  ∀ (pins : List (Addr × Obj)) (s : Shared) (σ : St) (H : Hp) (x : V) (xs : List V) (v : Value) (us : List Value) (Q : VK), Inv X pins σ H s → RelV x v → Vals xs us → r x xs H Q →
    wpAny (model X.prog X.w) X.A (call (.builtin id) (v :: us)) (EP X pins σ Q) X.xe s
section
variable {X : Cx} {a b : Expr} {ta tb : TE} {pos : Pos}
theorem IxR.or {r r' : R2} (h : IxR X r) (h' : IxR X r') : IxR X (fun x y H Q => r x y H Q ∨ r' x y H Q) := by
  intro value slice pins s σ H x y v u Q I rx ry q hs
  rcases q with q | q
  · exact h value slice pins s σ H x y v u Q I rx ry q hs
  · exact h' value slice pins s σ H x y v u Q I rx ry q hs
/-- a[b] -/
theorem pe_ix {r : R2} (hr : IxR X r) (ha : PE X a ta) (hb : PE X b tb) (hs : PlainIx b) : PE X (.Subscript a b pos) (tOp r ta tb) := by
  intro pins s σ H Q I h
  exact Subscript_ (binT ha hb I h fun v u s2 x y H2 I2 rx ry q => hr a b pins s2 σ H2 x y v u Q I2 rx ry q (hs _ _))
def rIxL (K : PySem.W.Frag) : R2 := fun x y H Q => ∃ p xs i v, x = .ref p ∧ y = .int i ∧ SqL K H p xs ∧ atI xs i = some v ∧ Q v H
def rIxT (K : PySem.W.Frag) : R2 := fun x y H Q => ∃ p xs i v, x = .ref p ∧ y = .int i ∧ SqT K H p xs ∧ atI xs i = some v ∧ Q v H
def rIxS : R2 := fun x y H Q => ∃ z i c, x = .str z ∧ y = .int i ∧ z.length ≤ sizeLine ∧ atI z.cps.toList i = some c ∧ Q (.str ⟨#[c]⟩) H
theorem ix_list : IxR X (rIxL X.K) := by
  intro value slice pins s σ H x y v u Q I rx ry h hs
  obtain ⟨p, xs, i, z, rfl, rfl, hq, he, q⟩ := h
  cases rx
  obtain ⟨t, rfl⟩ := ry
  obtain ⟨its, r, pl, hz⟩ := I.list hq
  obtain ⟨j, h1, h2, h3, h4, h5⟩ := atI_get he
  obtain ⟨w, ew, rw'⟩ := r.get h2
  have hl := r.length
  have hn := line63
  have fin : EP X pins σ Q w s := ⟨z, H, I, rw', q⟩
  by_cases h0 : 0 ≤ i
  · have hj : i.toNat = j := by
      rw [seqIndex_of h0 h5] at h1
      exact Option.some.inj h1
    exact item_listR pl.isList h0 (by omega) (by rw [hj]; simpa using ew) fin hs
  · have hj : (i + (its.toArray.size : Int)).toNat = j := by
      rw [seqIndex_neg (by omega) h4] at h1
      rw [List.size_toArray, ← hl]
      exact Option.some.inj h1
    exact subscriptTail_builtinR (x := w) pl.isList.typeIs slot_list_getitem.lookup
      (wpAny_getItem_list_neg (Q := fun r s' => r = w ∧ EP X pins σ Q r s') pl.isList (by omega) (by rw [List.size_toArray] <;> omega) (by omega) (by rw [hj]; simpa using ew) ⟨rfl, fin⟩) hs
theorem ix_tup : IxR X (rIxT X.K) := by
  intro value slice pins s σ H x y v u Q I rx ry h hs
  obtain ⟨p, xs, i, z, rfl, rfl, hq, he, q⟩ := h
  cases rx
  obtain ⟨t, rfl⟩ := ry
  obtain ⟨its, r, pl, hz⟩ := I.tuple hq
  obtain ⟨j, h1, h2, h3, h4, h5⟩ := atI_get he
  obtain ⟨w, ew, rw'⟩ := r.get h2
  have hl := r.length
  have hn := line63
  have fin : EP X pins σ Q w s := ⟨z, H, I, rw', q⟩
  exact subscriptTail_builtinR (x := w) pl.typeIs slot_tuple_getitem.lookup
    (getItem_tuple (j := j) (Q := fun r s' => r = w ∧ EP X pins σ Q r s') pl (by omega) (by omega) (by rw [List.size_toArray, ← hl]; exact h1) (by simpa using ew) ⟨rfl, fin⟩) hs
theorem ix_str : IxR X rIxS := by
  intro value slice pins s σ H x y v u Q I rx ry h hs
  obtain ⟨z, i, c, rfl, rfl, hz, he, q⟩ := h
  obtain ⟨t, rfl⟩ := rx
  obtain ⟨t', rfl⟩ := ry
  obtain ⟨j, h1, h2, h3, h4, h5⟩ := atI_get he
  have hl : z.cps.toList.length = z.length := by simp [Str.length]
  rw [hl] at h1 h4 h5
  have hn := line63
  exact tail_any (typeIs_str s z t) slot_str_getitem.lookup (getItem_str (c := c) (by
    have e1 : decide (i < -(2 ^ 63 : Int)) = false := decide_eq_false (by omega)
    have e2 : decide (i ≥ 2 ^ 63) = false := decide_eq_false (by omega)
    rw [e1, e2, Bool.or_false]) (by rw [h1]; simpa using h2) ⟨.str ⟨#[c]⟩, H, I.tok _, ⟨_, rfl⟩, q⟩) hs
/-- list, tuple or str -/
def rIx (K : PySem.W.Frag) : R2 := fun x y H Q => rIxL K x y H Q ∨ rIxT K x y H Q ∨ rIxS x y H Q
theorem ix_seq : IxR X (rIx X.K) := ix_list.or (ix_tup.or ix_str)
/-! ### xs[i] = v, any sign -/
/-- the list's object behind a store -/
theorem mapSeq_set (its : List Value) (n j : Nat) (u : Value) : Obj.mapSeq (·.setIfInBounds j u) { cls := .type "list", data := .seq its.toArray n } = { cls := .type "list", data := .seq (its.set j u).toArray n } := by
  simp [Obj.mapSeq]
theorem Inv.lst {pins : List (Addr × Obj)} {σ : St} {H : Hp} {s : Shared} {p : Addr} {xs : List V} (I : Inv X pins σ H s) (h : H p = some (.lst xs)) :
    ∃ (its : List Value) (n : Nat), Vals xs its ∧ s.heap.get? p = some { cls := .type "list", data := .seq its.toArray n } ∧ xs.length ≤ sizeLine := by
  obtain ⟨z, its, n, r, e⟩ := I.hok p _ h
  exact ⟨its, n, r, e, z⟩
/-- the list at p is written by an update of its object -/
theorem Inv.lstUpd {pins : List (Addr × Obj)} {σ : St} {H : Hp} {s : Shared} {p : Addr} {xs ys : List V} {its its' : List Value} {n n' : Nat} {f : Obj → Obj} (I : Inv X pins σ H s) (h : H p = some (.lst xs))
    (ho : s.heap.get? p = some { cls := .type "list", data := .seq its.toArray n }) (hf : f { cls := .type "list", data := .seq its.toArray n } = { cls := .type "list", data := .seq its'.toArray n' }) (r : Vals ys its') (hz : ys.length ≤ sizeLine) (t : Nat) :
    Inv X pins σ (upd H p (.lst ys)) { s with heap := s.heap.update p f, toks := t } := by
  have e : (s.heap.update p f).get? p = some { cls := .type "list", data := .seq its'.toArray n' } := by
    rw [Heap.get?_update_self f ho (by rw [hf] <;> rfl), hf]
  refine I.write (x := p) (e := p) (by rw [h]; trivial) (.inl rfl) (fun b u hb q => (Heap.get?_update_other _ _ (Ne.symm hb)).trans q) ⟨_, e⟩ ?_
  exact ⟨hz, its', n', r, e⟩
def rSetL : V → V → V → Hp → (Hp → Prop) → Prop := fun o i v H Q => ∃ p xs k j, o = .ref p ∧ i = .int k ∧ H p = some (.lst xs) ∧ ixN xs.length k = some j ∧ Q (upd H p (.lst (xs.set j v)))
theorem set_list : PSet X rSetL := by
  intro pins s σ H o i v ov iv u Q I ro ri rv h
  obtain ⟨p, xs, k, j, rfl, rfl, hp, hj, q⟩ := h
  cases ro
  obtain ⟨t, rfl⟩ := ri
  obtain ⟨its, n, r, ho, hz⟩ := I.lst hp
  obtain ⟨h1, h2, h3, h4⟩ := ixN_seq hj
  have hl := r.length
  have hn := line63
  have I' : Inv X pins σ (upd H p (.lst (xs.set j v))) { s with heap := s.heap.update p (Obj.mapSeq (·.setIfInBounds j u)) } :=
    I.lstUpd hp ho (mapSeq_set its n j u) (r.set rv j) (by rw [List.length_set]; exact hz) s.toks
  by_cases h0 : 0 ≤ k
  · have hk : k.toNat = j := by
      rw [seqIndex_of h0 h4] at h1
      exact Option.some.inj h1
    exact PySem.W.ki_setAt ho h0 (by omega) (by rw [List.size_toArray, ← hl]; exact h4) (by rw [hk]; exact ⟨_, I', q⟩)
  · have hk : (k + (its.toArray.size : Int)).toNat = j := by
      rw [seqIndex_neg (by omega) h3] at h1
      rw [List.size_toArray, ← hl]
      exact Option.some.inj h1
    exact PySem.W.ki_setBack ho (by omega) (by rw [List.size_toArray, ← hl]; exact h3) (by omega) (by rw [hk]; exact ⟨_, I', q⟩)
/-! ### slices -/
theorem slice_bounds (lo hi : Option Int) (n : Nat) : (sliceBounds lo hi none n).1 = ((HT.sIx n 0 lo : Nat) : Int) ∧ (sliceBounds lo hi none n).2.1 = ((HT.sIx n n hi : Nat) : Int) ∧ (sliceBounds lo hi none n).2.2 = 1 := by
  refine ⟨?_, ?_, rfl⟩
  · cases lo with
    | none => simp [sliceBounds, HT.sIx]
    | some i =>
      simp only [sliceBounds, HT.sIx, Option.getD_none, show (1 : Int) > 0 by decide, if_true]
      by_cases h : i < 0
      · simp only [h, if_true] <;> omega
      · simp only [h, if_false] <;> omega
  · cases hi with
    | none => simp [sliceBounds, HT.sIx]
    | some i =>
      simp only [sliceBounds, HT.sIx, Option.getD_none, show (1 : Int) > 0 by decide, if_true]
      by_cases h : i < 0
      · simp only [h, if_true] <;> omega
      · simp only [h, if_false] <;> omega
theorem slicePick_cut (its : List Value) (lo hi : Option Int) : slicePick its.toArray lo hi none = ((its.drop (HT.sIx its.length 0 lo)).take (HT.sIx its.length its.length hi - HT.sIx its.length 0 lo)).toArray := by
  obtain ⟨h1, h2, h3⟩ := slice_bounds lo hi its.toArray.size
  unfold slicePick
  rw [h1, h2, h3]
  simp only [sliceRange_one, pick_run, List.size_toArray] <;> rfl
/-- xs[lo:hi] of a list: a new list -/
def rSlL (K : PySem.W.Frag) : V → Option Int → Option Int → Hp → VK → Prop := fun x lo hi H Q => ∃ a xs, x = .ref a ∧ SqL K H a xs ∧ ∀ p, H p = none → Q (.ref p) (upd H p (.lst (cutV xs lo hi)))
theorem sl_list : SlR X (rSlL X.K) := by
  intro pins s σ H x v vl vu lo hi sl Q I rx hs pl pu h
  obtain ⟨a, xs, rfl, hx, q⟩ := h
  cases rx
  obtain ⟨its, r, ht, hz⟩ := I.list hx
  have hlen := r.length
  refine ⟨"list", _, slot_list_getitem.lookup, ht.isList.typeIs, ?_⟩
  refine wpAny_getItem_list_slice ht.isList hs pl pu .none (by simp) ?_ (by rw [List.size_toArray] <;> omega)
  rw [slicePick_cut, ← hlen]
  refine ⟨.ref s.heap.objs.size, _, I.laid (t' := s.toks) (o := .lst (cutV xs lo hi)) (fun b ob q => Heap.get?_push_of_some _ q) (Nat.le_refl _) ?_, rfl, q _ (I.hok.fresh (Nat.le_refl _))⟩
  exact ⟨Nat.le_trans (cutV_length xs lo hi) hz, _, 0, (r.drop (HT.sIx xs.length 0 lo)).take (HT.sIx xs.length xs.length hi - HT.sIx xs.length 0 lo), Heap.get?_push_size _ rfl⟩
/-! ### in, not in: flat items -/
/-- == of flat values -/
def eqV : V → V → Bool
  | .non, .non => true
  | .bl a, .bl b => a == b
  | .bl a, .int b => (if a then 1 else 0) == b
  | .int a, .bl b => a == (if b then 1 else 0)
  | .int a, .int b => a == b
  | .str a, .str b => a == b
  | _, _ => false
theorem op_notIn_str : OpR X (compareOp .NotIn) (fun x y H Q => ∃ i j, x = .str i ∧ y = .str j ∧ Q (.bl (!(!(Builtin.Str.occurrences j i 0 j.length 1).isEmpty))) H) := by
  intro pins s σ H x y v u Q I rx ry h
  obtain ⟨i, j, rfl, rfl, q⟩ := h
  obtain ⟨t, rfl⟩ := rx
  obtain ⟨t', rfl⟩ := ry
  exact notIn_str ⟨.bl _, H, I, rfl, q⟩
/-! ### len, list(x), tuple(x) of any list or tuple that is read -/
theorem call_len_seq : CallR X (.builtin "len") (fun xs H Q => ∃ p ys, xs = [.ref p] ∧ (SqL X.K H p ys ∨ SqT X.K H p ys) ∧ Q (.int ys.length) H) := by
  intro pins s σ H xs us Q I r h
  obtain ⟨p, ys, rfl, hq, q⟩ := h
  obtain ⟨u, rfl, rx⟩ := vals1 r
  cases rx
  have hn := line63
  rcases hq with hq | hq
  · obtain ⟨its, r', pl, hz⟩ := I.list hq
    have hlen := r'.length
    exact Calls.call_len_list pl.isList (by simp only [List.size_toArray] <;> omega) ⟨.int ys.length, H, I.tok _, ⟨s.toks + 1, by rw [List.size_toArray, hlen]⟩, q⟩
  · obtain ⟨its, r', pl, hz⟩ := I.tuple hq
    have hlen := r'.length
    exact len_tuple pl (by simp only [List.size_toArray] <;> omega) ⟨.int ys.length, H, I.tok _, ⟨s.toks + 1, by rw [List.size_toArray, hlen]⟩, q⟩
theorem call_len_str : CallR X (.builtin "len") (fun xs H Q => ∃ z, xs = [.str z] ∧ z.length ≤ sizeLine ∧ Q (.int z.length) H) := by
  intro pins s σ H xs us Q I r h
  obtain ⟨z, rfl, hz, q⟩ := h
  obtain ⟨u, rfl, t, rfl⟩ := vals1 r
  have hn := line63
  exact len_str (by omega) ⟨.int z.length, H, I.tok _, ⟨_, rfl⟩, q⟩
theorem CallR.or {f : Value} {r r' : List V → Hp → VK → Prop} (h : CallR X f r) (h' : CallR X f r') : CallR X f (fun xs H Q => r xs H Q ∨ r' xs H Q) := by
  intro pins s σ H xs us Q I rs q
  rcases q with q | q
  · exact h pins s σ H xs us Q I rs q
  · exact h' pins s σ H xs us Q I rs q
theorem call_list_of : CallR X (.type "list") (fun xs H Q => ∃ p ys, xs = [.ref p] ∧ (SqL X.K H p ys ∨ SqT X.K H p ys) ∧ ∀ l, H l = none → Q (.ref l) (upd H l (.lst ys))) := by
  intro pins s σ H xs us Q I r h
  obtain ⟨p, ys, rfl, hq, q⟩ := h
  obtain ⟨u, rfl, rx⟩ := vals1 r
  cases rx
  have fin : ∀ (its : List Value), Vals ys its → ys.length ≤ sizeLine → ∀ (h' : Heap) (c' : Nat), (∀ b o', s.heap.get? b = some o' → h'.get? b = some o') →
      h'.get? s.heap.objs.size = some { cls := .type "list", dict := none, data := .seq its.toArray c', slots := #[] } → EP X pins σ Q (.ref s.heap.objs.size) { s with heap := h' } := fun its r' hz h' c' kp e =>
    ⟨.ref s.heap.objs.size, _, I.laid (t' := s.toks) kp (Nat.le_refl _) (show ObjOk X.prog X.w _ h' _ (.lst ys) from ⟨hz, its, c', r', e⟩), rfl, q _ (I.hok.fresh (Nat.le_refl _))⟩
  rcases hq with hq | hq
  · obtain ⟨its, r', pl, hz⟩ := I.list hq
    have hlen := r'.length
    obtain ⟨o, ho, hc, n, hd⟩ := pl.isList
    exact call_list_seq p (.inl rfl) ho hc hd (fun h' c' kp e => fin its r' hz h' c' kp e) (by simp only [List.size_toArray] <;> omega)
  · obtain ⟨its, r', pl, hz⟩ := I.tuple hq
    have hlen := r'.length
    obtain ⟨o, ho, hc, n, hd⟩ := pl
    exact call_list_seq p (.inr rfl) ho hc hd (fun h' c' kp e => fin its r' hz h' c' kp e) (by simp only [List.size_toArray] <;> omega)
/-! ### the call of a builtin's method: o.m(..) -/
/-- the value is of that builtin type -/
def tyV (K : PySem.W.Frag) (T : String) (x : V) (H : Hp) : Prop := match x with
  | .str _ => T = "str"
  | .int _ => T = "int"
  | .ref p => (T = "list" ∧ ∃ xs, SqL K H p xs) ∨ (T = "tuple" ∧ ∃ o, K.lookup p = some o ∧ o.cls = .type "tuple" ∧ o.dict = none) ∨
      (T = "dict" ∧ ((∃ kvs, H p = some (.dK kvs)) ∨ ∃ kvs, H p = some (.dT kvs))) ∨ (T = "set" ∧ ∃ S n, H p = some (.set S n))
  | _ => False
theorem tyV_is {pins : List (Addr × Obj)} {σ : St} {H : Hp} {s : Shared} {T : String} {x : V} {v : Value} (I : Inv X pins σ H s) (r : RelV x v) (ty : tyV X.K T x H) :
    s.TypeIs v T ∧ ∀ a, v = .ref a → ∃ ob, s.heap.get? a = some ob ∧ ob.dict = none := by
  cases x with
  | str z =>
    obtain ⟨t, rfl⟩ := r
    cases (show T = "str" from ty)
    exact ⟨typeIs_str s z t, fun _ e => nomatch e⟩
  | int i =>
    obtain ⟨t, rfl⟩ := r
    cases (show T = "int" from ty)
    exact ⟨typeIs_int s i t, fun _ e => nomatch e⟩
  | ref p =>
    cases r
    rcases ty with ⟨rfl, xs, hq⟩ | ⟨rfl, o, hk, hc, hd⟩ | ⟨rfl, hk⟩ | ⟨rfl, S, n, hk⟩
    · obtain ⟨its, _, pl, _⟩ := I.list hq
      refine ⟨pl.isList.typeIs, fun a e => ?_⟩
      cases e
      obtain ⟨o, n, e, c, hd, _⟩ := pl
      exact ⟨o, e, hd⟩
    · refine ⟨⟨o, I.kIn p o hk, hc⟩, fun a e => ?_⟩
      cases e
      exact ⟨o, I.kIn _ o hk, hd⟩
    · have z : ∃ o, s.heap.get? p = some o ∧ o.ExactDict := by
        rcases hk with ⟨kvs, hk⟩ | ⟨kvs, hk⟩
        · obtain ⟨_, _, _, _, o, _, _, e, ex, _⟩ := I.hok p _ hk
          exact ⟨o, e, ex⟩
        · obtain ⟨_, _, _, _, o, _, _, e, ex, _⟩ := I.hok p _ hk
          exact ⟨o, e, ex⟩
      obtain ⟨o, e, ex⟩ := z
      refine ⟨⟨o, e, ex.1⟩, fun a e2 => ?_⟩
      cases e2
      exact ⟨o, e, ex.2.1⟩
    · obtain ⟨o, _, _, _, e, ex, _⟩ := I.hok p _ hk
      refine ⟨⟨o, e, ex.1⟩, fun a e2 => ?_⟩
      cases e2
      exact ⟨o, e, ex.2.1⟩
  | _ => exact False.elim ty
def tBM0 (K : PySem.W.Frag) (T : String) (r : V → List V → Hp → VK → Prop) (to : TE) : TE := fun σ H Q => to σ H fun x H1 => tyV K T x H1 ∧ r x [] H1 Q
def tBM (K : PySem.W.Frag) (T : String) (r : V → List V → Hp → VK → Prop) (to : TE) (t : TA) : TE := fun σ H Q => to σ H fun x H1 => tyV K T x H1 ∧ t σ H1 fun xs H2 => r x xs H2 Q
variable {o e : Expr} {es : List Expr} {to : TE} {t : TA} {name : Str} {apos cpos : Pos} {T id : String} {r : V → List V → Hp → VK → Prop}
theorem pe_bm0 (pa : PlainAttrs T) (slot : Slot T name id) (hty : typeOf (.builtin id) = pure (.type "method_descriptor")) (hm : MtR X id r) (ho : PE X o to)
    (hbase : attributeBase o name X.env (eval o X.env) = eval o X.env := by rfl) (hline : (apos.endLine == cpos.line) = true := by rfl) : PE X (.Call (.Attribute o name apos) [] [] cpos) (tBM0 X.K T r to) := by
  intro pins s σ H Q I h
  refine wpAny_Call_method0_late hbase hline (thn (ho pins s σ H _ I h) fun v s1 ⟨x, H1, I1, r1, ty, q1⟩ => ?_)
  obtain ⟨h1, h2⟩ := tyV_is I1 r1 ty
  exact ⟨T, id, pa, slot, hty, h1, h2, Calls.callWith_builtin rfl (PySem.evalArgs_none (hm pins s1 σ H1 x [] v [] Q I1 r1 .nil q1))⟩
theorem pe_bm (pa : PlainAttrs T) (slot : Slot T name id) (hty : typeOf (.builtin id) = pure (.type "method_descriptor")) (hm : MtR X id r) (ho : PE X o to) (ha : PA X (e :: es) t)
    (hbase : attributeBase o name X.env (eval o X.env) = eval o X.env := by rfl)
    (hfew : ((backTo cpos (starEach (e :: es) X.env)).all (fun x => !x.1) && (backToKw cpos (keywordEach [] X.env)).all (fun x => x.1.isSome)
      && decide ((e :: es).length + ([] : List Keyword).length + (if ([] : List Keyword).isEmpty then 0 else 1) < 30)) = true := by rfl)
    (hline : (apos.endLine == cpos.line) = true := by rfl) (hs : starEach (e :: es) X.env = (false, eval e X.env) :: starEach es X.env := by rfl) (hplain : (backTo cpos (starEach es X.env)).any (·.1) = false := by rfl) :
    PE X (.Call (.Attribute o name apos) (e :: es) [] cpos) (tBM X.K T r to t) := by
  intro pins s σ H Q I h
  refine wpAny_Call_method_late hbase hfew hline rfl (thn (ho pins s σ H _ I h) fun v s1 ⟨x, H1, I1, r1, ty, q1⟩ => ?_)
  obtain ⟨h1, h2⟩ := tyV_is I1 r1 ty
  refine ⟨T, id, pa, slot, hty, h1, h2, ?_⟩
  have hA := ha cpos pins s1 σ H1 _ I1 q1
  rw [hs] at hA ⊢
  refine Calls.callWith_builtin (by show (false || (backTo cpos (starEach es X.env)).any (·.1)) = false; rw [hplain] <;> rfl) (Calls.evalArgs_plain ?_)
  exact thn hA fun us s2 ⟨vs, H2, I2, r2, q2⟩ => hm pins s2 σ H2 x vs v us Q I2 r1 r2 q2
/- xs.append(e), list.index on a module's tuple .. are MtR facts of 06m -/
end
end L2
namespace L2
open PySem PySem.Spec PyProof.Rows
def MtM (X : Cx) (id : String) (r : V → List V → Hp → VK → Prop) : Prop :=
  ∀ (pins : List (Addr × Obj)) (s : Shared) (σ : St) (H : Hp) (x : V) (xs : List V) (v : Value) (us : List Value) (Q : VK), Inv X pins σ H s → RelV x v → Vals xs us → r x xs H Q →
    wpAny (model X.prog X.w) X.A (call (.builtin id) (v :: us)) (EP X pins σ Q) X.xe s
/-! ### lists of values -/
theorem Vals.one : ∀ {x : V} {us : List Value}, Vals [x] us → ∃ u, us = [u] ∧ RelV x u
  | _, _, .cons r .nil => ⟨_, rfl, r⟩
theorem Vals.zero : ∀ {us : List Value}, Vals [] us → us = []
  | _, .nil => rfl
section
variable {X : Cx} {pins : List (Addr × Obj)} {σ : St} {H : Hp} {s : Shared} {l b : Addr} {xs ys zs : List V}
/-! ### the two steps: a tracked list is rewritten, a new list is laid -/
theorem Inv.lset {its its' : List Value} {n : Nat} {f : Array Value → Array Value} {t' : Nat} (I : Inv X pins σ H s) (hH : H l = some (.lst xs))
    (e : s.heap.get? l = some { cls := .type "list", data := .seq its.toArray n }) (hf : f its.toArray = its'.toArray) (hv : Vals ys its') (hz : ys.length ≤ sizeLine) :
    Inv X pins σ (upd H l (.lst ys)) { s with heap := s.heap.update l (Obj.mapSeq f), toks := t' } := by
  have q := PySem.IsL.update e f
  rw [hf] at q
  refine I.write (x := l) (e := l) (by rw [hH]; exact trivial) (.inl rfl) (fun b' u hb hu => (Heap.get?_update_other s.heap (Obj.mapSeq f) (Ne.symm hb)).trans hu) ⟨_, q⟩ ?_
  exact ⟨hz, its', _, hv, q⟩
theorem Inv.lnew {its : List Value} {t' : Nat} (I : Inv X pins σ H s) (hv : Vals ys its) (hz : ys.length ≤ sizeLine) :
    Inv X pins σ (upd H s.heap.objs.size (.lst ys)) { s with heap := s.heap.push { cls := .type "list", data := .seq its.toArray }, toks := t' } :=
  I.laid (fun _ _ q => Heap.get?_push_of_some _ q) (Nat.le_refl _) ⟨hz, its, 0, hv, Heap.get?_push_size _ rfl⟩
theorem Inv.fresh (I : Inv X pins σ H s) : H s.heap.objs.size = none := I.hok.fresh (Nat.le_refl _)
theorem Inv.lstM (I : Inv X pins σ H s) (hH : H l = some (.lst xs)) : xs.length ≤ sizeLine ∧ ∃ (its : List Value) (n : Nat), Vals xs its ∧ xs.length = its.length ∧ s.heap.get? l = some { cls := .type "list", data := .seq its.toArray n } := by
  obtain ⟨z, its, n, r, e⟩ := I.hok l _ hH
  exact ⟨z, its, n, r, r.length, e⟩
theorem notLongL {n : Nat} (h : n ≤ sizeLine) : Builtin.List.listTooLong n = false := by
  unfold Builtin.List.listTooLong
  exact decide_eq_false (by omega)
end
section
variable {X : Cx}
/-! ### methods -/
def rAppend : V → List V → Hp → VK → Prop := fun x vs H Q => ∃ l xs y, x = .ref l ∧ vs = [y] ∧ H l = some (.lst xs) ∧ xs.length < sizeLine ∧ Q .non (upd H l (.lst (xs ++ [y])))
theorem mt_append : MtM X "list.append" rAppend := by
  intro pins s σ H x vs v us Q I rx rv h
  obtain ⟨l, xs, y, rfl, rfl, hH, hz, q⟩ := h
  cases rx
  obtain ⟨u, rfl, ru⟩ := rv.one
  obtain ⟨z, its, n, r, hl, e⟩ := I.lstM hH
  refine call_meets F.slot_list_append ⟨_, e, rfl⟩ F.entry_list_append (F.args_list_append_2 _ _) (PySem.list_append l its.toArray n u (by rw [List.size_toArray]; omega)) ⟨e, ?_⟩
  refine ⟨.non, _, I.lset (its' := its ++ [u]) hH e (by simp) (r.append (.cons ru .nil)) ?_, rfl, q⟩
  rw [List.length_append, List.length_singleton]
  omega
def rExtend : V → List V → Hp → VK → Prop := fun x vs H Q => ∃ l b xs zs, x = .ref l ∧ vs = [.ref b] ∧ H l = some (.lst xs) ∧ H b = some (.lst zs) ∧ xs.length + zs.length ≤ sizeLine ∧ Q .non (upd H l (.lst (xs ++ zs)))
theorem mt_extend : MtM X "list.extend" rExtend := by
  intro pins s σ H x vs v us Q I rx rv h
  obtain ⟨l, b, xs, zs, rfl, rfl, hH, hB, hz, q⟩ := h
  cases rx
  obtain ⟨u, rfl, ru⟩ := rv.one
  cases ru
  obtain ⟨z, its, n, r, hl, e⟩ := I.lstM hH
  obtain ⟨z2, its2, n2, r2, hl2, e2⟩ := I.lstM hB
  have hsz : its.toArray.size + its2.toArray.size ≤ sizeLine := by rw [List.size_toArray, List.size_toArray]; omega
  have hlong : ¬ (!its.toArray.isEmpty && Builtin.List.listTooLong (its.toArray.size + its2.toArray.size)) = true := by
    rw [notLongL hsz, Bool.and_false]
    exact Bool.false_ne_true
  refine call_meets F.slot_list_extend ⟨_, e, rfl⟩ F.entry_list_extend (F.args_list_extend_2 _ _)
    (AutoSeq1.list_extend_list_list_0 l its.toArray n b its2.toArray n2 hlong (by rw [List.size_toArray]; omega) (by omega)) ⟨e, e2, ?_⟩
  refine ⟨.non, _, I.lset (its' := its ++ its2) hH e (by simp) (r.append r2) ?_, rfl, q⟩
  rw [List.length_append]
  omega
def rClear : V → List V → Hp → VK → Prop := fun x vs H Q => ∃ l xs, x = .ref l ∧ vs = [] ∧ H l = some (.lst xs) ∧ Q .non (upd H l (.lst []))
theorem mt_clear : MtM X "list.clear" rClear := by
  intro pins s σ H x vs v us Q I rx rv h
  obtain ⟨l, xs, rfl, rfl, hH, q⟩ := h
  cases rx
  have hus := rv.zero
  subst hus
  obtain ⟨z, its, n, r, hl, e⟩ := I.lstM hH
  refine call_meets F.slot_list_clear ⟨_, e, rfl⟩ F.entry_list_clear (F.args_list_clear_1 _) (AutoSeq1.list_clear_list_0 l its.toArray n (by rw [List.size_toArray]; omega)) ⟨e, ?_⟩
  exact ⟨.non, _, I.lset (its' := []) (ys := []) hH e rfl .nil (Nat.zero_le _), rfl, q⟩
/-! ### list + list, list += list, list * int -/
def rCat : R2 := fun x y H Q => ∃ l b xs zs, x = .ref l ∧ y = .ref b ∧ H l = some (.lst xs) ∧ H b = some (.lst zs) ∧ xs.length + zs.length ≤ sizeLine ∧ ∀ p, H p = none → Q (.ref p) (upd H p (.lst (xs ++ zs)))
theorem op_cat : OpR X (binaryOp .Add) rCat := by
  intro pins s σ H x y v u Q I rx ry h
  obtain ⟨l, b, xs, zs, rfl, rfl, hH, hB, hz, q⟩ := h
  cases rx
  cases ry
  obtain ⟨z, its, n, r, hl, e⟩ := I.lstM hH
  obtain ⟨z2, its2, n2, r2, hl2, e2⟩ := I.lstM hB
  refine PySem.P.add_list e e2 ?_ (by rw [List.size_toArray, List.size_toArray]; omega)
  have ea : its.toArray ++ its2.toArray = (its ++ its2).toArray := by simp
  rw [ea]
  exact ⟨.ref _, _, I.lnew (t' := s.toks) (r.append r2) (by rw [List.length_append]; omega), rfl, q _ I.fresh⟩
/-! ### del xs[i] -/
end
/-! ### xs[a:b] = ys -/
section
variable {prog : Program} {w : World} {A : Around} {E : Value → Shared → Prop} {s : Shared}
set_option maxRecDepth 100000 in
end
section
variable {X : Cx}
end
end L2
namespace Att
open PySem PySem.W PySem.Calls PyProof.Rows
/-! ### the script -/
theorem ints_of_wellAll {P : Params} {h : Heap} : ∀ (ns : List Int) (vs : List Value), WellAll P h vs (ns.map WData.int) → IntsAre vs ns := by
  intro ns
  induction ns with
  | nil =>
    intro vs w
    rw [List.map_nil] at w
    cases w
    exact .nil
  | cons n ns ih =>
    intro vs w
    rw [List.map_cons] at w
    cases w with
    | cons a b =>
      cases a
      exact .cons _ _ (ih _ b)
theorem script_of {l : OpenLaw} {n : Nat} (hn : l.most = some n) {P : Params} {h : Heap} {args : List WData} {vals : List Value}
    (hpre : l.row.toRowW.claim.pre args = true) (hwl : WellAll P h vals args) :
    ∃ a vs ns, vals = [Value.ref a] ∧ args = [WData.list (ns.map WData.int)] ∧ h.get? a = some { cls := .type "list", data := .seq vs.toArray } ∧ IntsAre vs ns ∧ ns.length ≤ n := by
  have hsh : WShape.hasAll [] args [.list .int] = true := (pre_splitW hpre).1
  have hc : l.pre.holds [] { args := args } = true := (pre_splitW hpre).2
  obtain ⟨d, r, rfl, h1, h2⟩ := hasAllW_cons hsh
  obtain rfl := hasAllW_nil h2
  obtain ⟨xs, rfl, h3⟩ := hasW_list h1
  obtain ⟨ns, rfl⟩ := items_int h3
  have hlen : ns.length ≤ n := by
    unfold OpenLaw.pre at hc
    have h4 : (WTm.not (.lt (.lit (.int (n : Int))) (.len (.arg 0)))).holds [] { args := [.list (ns.map .int)] } = true := by
      have h4 := (holds_andW hc).1
      rw [hn] at h4
      exact h4
    have h5 := condW_of h4 (w_not (w_lt w_lit (w_len_list (w_arg rfl))))
    rw [List.length_map] at h5
    refine Nat.le_of_not_lt fun q => ?_
    have q' : (n : Int) < ((ns.length : Nat) : Int) := by omega
    first
      | (rw [decide_eq_true q'] at h5; exact absurd h5 (by decide))
      | (simp at h5; omega)
  cases hwl with
  | cons w1 w2 =>
    cases w2
    cases w1 with
    | list ho hall => exact ⟨_, _, ns, rfl, rfl, ho, ints_of_wellAll ns _ hall, hlen⟩
theorem post_true (l : OpenLaw) (args : List WData) : l.row.toRowW.claim.post args (.bool true) args = true :=
  postW_of (r := l.row.toRowW) (X := (true == true))
    (show WShape.has [] (.bool true) .bool = true by first | rfl | decide | simp [WShape.has, WShape.arms, WShape.armsAll])
    (show (WTm.eq .res (.lit (.bool true))).value [] { args := args, res := some (.bool true), after := args } = some (.bool (true == true)) from w_eq_bool (w_res rfl) w_lit) rfl
/-! ### the attachment: holds_open's last premise (the goal 'hc' behind k_head) from a wpAny of the law's body -/
/-- the same from a codeAny of the CALL (for a layer whose function contracts speak of calls) -/
theorem attach_call {l : OpenLaw} {n : Nat} {q : Program} {loose : List Str} {XP : (Str → Option Value) → Heap → Prop} {YP : World → Heap → Prop} {d : DefRec}
    (hn : l.most = some n) (hdf : d.params.defaults = [])
    (call : ∀ (w : World) (s₀ s₁ : Shared) (mg mb : Str → Option Value) (fa : Addr) (o : Obj) (pm cd doc : Value) (a : Addr) (vs : List Value) (ns : List Int),
      Ground q loose [] XP w s₀ mg mb s₁.heap → YP w s₁.heap →
      s₁.heap.get? fa = some o → o.data = .func (docDef d.name d.params d.body d.scope pm cd doc) → s₁.heap.CodeRec cd d.name → mg d.name = some (.ref fa) →
      s₁.heap.get? a = some { cls := .type "list", data := .seq vs.toArray } → IntsAre vs ns → ns.length ≤ n → s₁.gens = #[] →
      codeAny (model l.prog w) callerA (.call (.ref fa) ⟨[.ref a], []⟩) (fun r s' => r = .ok (.ret (.bool true)) ∧ OldK s₁.heap s'.heap ∧ s'.os = s₁.os ∧ AllBare s'.gens) s₁) :
    WalkO q loose XP YP l.row.toRowW d [] (fun f vs => PySem.call f vs) := by
  intro w s₀ s₁ mg mb G Y fa o pm cd doc dV kV ho hd hcd hD hmg hg args vals as hpre hlay hrd hwl hlo
  obtain rfl : dV = .none := Dflts.none hD hdf
  obtain rfl : kV = .none := Dflts.noKw hD
  obtain ⟨a, vs, ns, rfl, rfl, hobj, hints, hlen⟩ := script_of hn hpre hwl
  refine enter_call (codeAny_mono (call w s₀ s₁ mg mb fa o pm cd doc a vs ns G Y ho (fd_plain hd) hcd hmg hobj hints hlen hg) fun r s' hq => ?_)
  obtain ⟨rfl, h2, h3, h4⟩ := hq
  exact ⟨.inl ⟨.bool true, .bool true, [], rfl, fun _ => rfl, .bool true, post_true l _, fun _ => ⟨List.Pairwise.nil, fun _ hm => (nomatch hm)⟩⟩, h2, h3, h4⟩
/-! ### rules over ANY heap (no ledger) from facts about the written part K: the library's own take a ledger (News) for what they write -/
section
variable {prog : Program} {w : World} {A : Around} {E : Value → Shared → Prop} {s : Shared} {K : Frag}
/-! the whole heap as the ledger: makes every rule that writes through a ledger a rule over any heap -/
def ledger (h : Heap) (L d : Addr) : List (Addr × Obj) := (List.range h.objs.size).filterMap fun a => if a = L ∨ a = d then none else (h.get? a).map fun o => (a, o)
end
end Att
namespace L2
open PySem PySem.Spec PyProof.Rows
theorem vals_ints : ∀ {vs : List Value} {ns : List Int}, IntsAre vs ns → Vals (ns.map V.int) vs
  | _, _, .nil => .nil
  | _, _, .cons n t h => .cons ⟨t, rfl⟩ (vals_ints h)
/-- nothing is tracked but the script, known to the object (or it is an object of the module) -/
def Only (H : Hp) : Prop := ∀ b, H b = none ∨ ∃ o xs, H b = some (.frz o (.lst xs))
/-- THE HEAD: the law's promise, at the heap behind the top. F, the promise of the law's def, may use that base is part of the heap (so K.In base, base.Ns mainGlobals mg stand in Mod) -/
theorem law_call {P : Program} {w : World} {K : PySem.W.Frag} {mg mb : Str → Option Value} {CX : CXT} {k : Nat} {fa a : Addr} {fd : FuncData} {x : Str} {sp : Sp} {s₁ : Shared} {vs : List Value} {ns : List Int}
    (KX : K.In s₁.heap) (hns : s₁.heap.Ns mainGlobals mg) (hb : s₁.heap.Ns builtinsNs mb) (hbb : ∀ x : Str, x ≠ "__name__" → mb x = bootBuiltins x) (hlim : s₁.heap.NoLimit) (hg : s₁.gens = #[])
    (ha : s₁.heap.get? a = some { cls := .type "list", data := .seq vs.toArray }) (hi : IntsAre vs ns) (hl : ns.length ≤ sizeLine) (hr : Room k callerA)
    (F : ∀ base : Heap, K.In base → base.Ns mainGlobals mg → FnOk P w K mg base CX k fa fd [x] sp) (hbind : ∀ (s : Shared) (u : Value), BindsTo s fd ⟨[u], []⟩ [(x, u)])
    (hsp : ∀ H : Hp, Only H → SqL K H a (ns.map V.int) → sp [.ref a] H (fun v _ => v = .bl true) fun _ _ _ => False)
    (hCX : ∀ H e s', CX [] H s₁ (fun _ _ _ => False) e s' → False) :
    codeAny (model P w) callerA (.call (.ref fa) ⟨[.ref a], []⟩) (fun r s' => r = .ok (.ret (.bool true)) ∧ OldK s₁.heap s'.heap ∧ s'.os = s₁.os ∧ AllBare s'.gens) s₁ := by
  have rv := vals_ints hi
  have lenV := hi.length
  -- from an abstract heap in which nothing but the script may be tracked
  have core : ∀ H : Hp, Only H → SqL K H a (ns.map V.int) → HOk P w H s₁.heap → (∀ b, H b ≠ none → b = a) → (H a ≠ none → K.lookup a = none) →
      codeAny (model P w) callerA (.call (.ref fa) ⟨[.ref a], []⟩) (fun r s' => r = .ok (.ret (.bool true)) ∧ OldK s₁.heap s'.heap ∧ s'.os = s₁.os ∧ AllBare s'.gens) s₁ := by
    intro H hO hS hok hA hK
    have base_of : ∀ {b : Addr} {o : Obj}, s₁.heap.get? b = some o → H b = none → (hidT s₁.heap H).get? b = some o := fun e n => hidT_get e n
    have noA : ∀ {b : Addr} {o : Obj} {es : Array DictEntry} {ep : Nat}, s₁.heap.get? b = some o → o.data = .dict es ep → H b = none := fun {b o es ep} e d => by
      cases q : H b with
      | none => rfl
      | some u =>
        have e' : b = a := hA b (by rw [q]; simp)
        subst e'
        rw [ha] at e; cases e
        have d' : Data.seq vs.toArray _ = Data.dict es ep := d
        cases d'
    have nsK : ∀ {b : Addr} {m : Str → Option Value}, s₁.heap.Ns b m → (hidT s₁.heap H).Ns b m := fun {b m} ⟨o, es, ep, e, d, r⟩ => ⟨o, es, ep, base_of e (noA e d), d, r⟩
    have hKb : K.In (hidT s₁.heap H) := fun b o e => base_of (KX b o e) (by
      cases q : H b with
      | none => rfl
      | some u =>
        have e' : b = a := hA b (by rw [q]; simp)
        subst e'
        rw [hK (by rw [q]; simp)] at e; cases e)
    have hM : Mod K mg (hidT s₁.heap H) := ⟨hKb, nsK hns, ⟨mb, nsK hb, hbb⟩, let ⟨mc, h1, h2⟩ := hlim; ⟨mc, nsK h1, h2⟩⟩
    have e0 : Env0 P w K mg (hidT s₁.heap H) callerA [] s₁ H := ⟨rfl, hM, fun b o e => of_hidT e, Nat.le_of_eq (hidT_size _ _), trivial, fun b hb => absurd (show b ∈ ([] : List Addr) from hb) (by simp), hok, .of_eq hg⟩
    refine codeAny_mono ((F _ hKb (nsK hns)).run callerA [] s₁ H ⟨[.ref a], []⟩ [.ref a] [.ref a] _ _ hr e0 (hbind s₁ (.ref a)) (.cons rfl .nil) (hsp H hO hS)) fun r s' h => ?_
    cases r with
    | error e => exact (hCX H e s' h).elim
    | ok fl =>
      cases fl with
      | next => exact False.elim h
      | brk => exact False.elim h
      | cont => exact False.elim h
      | ret u =>
        obtain ⟨v, H', os, bare, un, hok', r', q⟩ := h
        have q' : v = .bl true := q
        subst q'
        obtain rfl : u = Value.bool true := r'
        refine ⟨rfl, OldK.of_keep fun b o e => ?_, os, bare⟩
        cases q : H b with
        | none => exact un.keep b o e q (by intro z; exact absurd (show b ∈ ([] : List Addr) from z) (by simp)) (by simp)
        | some u =>
          rcases hO b with z | ⟨ob, xs, z⟩
          · rw [q] at z; cases z
          · have z2 := un.frzs b ob _ z
            obtain ⟨e1, _⟩ := hok b _ z
            obtain ⟨e2, _⟩ := hok' b _ z2
            rw [e] at e1; cases e1
            exact e2
  cases hk : K.lookup a with
  | some o =>
    -- the script is one of the module's own objects
    have e := KX a o hk
    rw [ha] at e
    cases e
    refine core (fun _ => none) (fun _ => .inl rfl) (.inr ⟨_, vs.toArray, _, hk, rfl, rfl, rfl, by rw [List.size_toArray, lenV]; exact hl, by simpa using rv⟩) (fun b u z => by have z' : (none : Option HO) = some u := z; cases z') (fun b z => absurd rfl z) fun z => absurd rfl z
  | none =>
    refine core (fun b => if b = a then some (.frz { cls := .type "list", data := .seq vs.toArray } (.lst (ns.map V.int))) else none) (fun b => ?_) (.inl (.inr ⟨{ cls := .type "list", data := .seq vs.toArray }, if_pos rfl⟩)) (fun b u z => ?_) (fun b z => ?_) fun _ => hk
    · by_cases hb : b = a
      · exact .inr ⟨_, _, if_pos hb⟩
      · exact .inl (if_neg hb)
    · by_cases hb : b = a
      · have z' := (if_pos hb).symm.trans z
        cases z'
        subst hb
        exact ⟨ha, by rw [List.length_map]; exact hl, vs, _, rv, ha⟩
      · have z' := (if_neg hb).symm.trans z
        cases z'
    · by_cases hb : b = a
      · exact hb
      · exact absurd (if_neg hb) z
end L2
namespace L2
open PySem PySem.Spec PyProof.Rows
abbrev KOf {K : PySem.W.Frag} {h : Heap} (_ : K.In h) : PySem.W.Frag := K
/-- the goal that k_head leaves (case hc), from the law's promise. F gives the function object fd (K's own) once, then the promise over every base -/
theorem walk_of {l : PySem.W.OpenLaw} {n k : Nat} {q : Program} {loose : List Str} {XP : (Str → Option Value) → Heap → Prop} {YP : World → Heap → Prop} {d : DefRec} {K : Params → PySem.W.Frag} {CX : World → CXT} {sp : World → Sp} {x : Str}
    (hn : l.most = some n) (hn2 : n ≤ sizeLine) (hdf : d.params.defaults = []) (hr : Room k callerA)
    (hY : ∀ (w : World) (h : Heap), YP w h → (K w.params).In h)
    (F : ∀ (w : World) (mg : Str → Option Value) (fa : Addr) (h : Heap), (K w.params).In h → h.Ns mainGlobals mg → mg d.name = some (.ref fa) →
      ∃ fd : FuncData, (∀ (s : Shared) (u : Value), BindsTo s fd ⟨[u], []⟩ [(x, u)]) ∧
        ∀ base : Heap, (K w.params).In base → base.Ns mainGlobals mg → FnOk l.prog w (K w.params) mg base (CX w) k fa fd [x] (sp w))
    (hsp : ∀ (w : World) (H : Hp) (a : Addr) (ns : List Int), ns.length ≤ n → Only H → SqL (K w.params) H a (ns.map V.int) → sp w [.ref a] H (fun v _ => v = .bl true) fun _ _ _ => False)
    (hCX : ∀ (w : World) (H : Hp) (s : Shared) (e : Value) (s' : Shared), CX w [] H s (fun _ _ _ => False) e s' → False) :
    PySem.W.WalkO q loose XP YP l.row.toRowW d [] (fun f vs => PySem.call f vs) := by
  refine Att.attach_call hn hdf fun w s₀ s₁ mg mb fa o pm cd doc a vs ns G Y ho hd hcd hmg hobj hints hlen hg => ?_
  have KX := hY w _ Y
  obtain ⟨fd, hb, hF⟩ := F w mg fa _ KX G.T.g hmg
  exact law_call KX G.T.g G.T.b G.T.builtins G.T.nolimit hg hobj hints (Nat.le_trans hlen hn2) hr hF hb (fun H hO hS => hsp w H a ns hlen hO hS) fun H e s' => hCX w H s₁ e s'
end L2
/- THE LAST THEOREM (shape; LID, My.* are yours):
   My.Adr: a structure of the addresses that your layer names (classes, functions); My.Txt K t: a structure (Prop) of the equations over K;
   My.txt_mk : {K} {implicit addresses ..} (e1 : nsIn K mainGlobals "law" = some (some (.ref f))) (e2 : K.lookup f = some ⟨oc, od, .func (fnOf "law" "law" params body scope dV kV doc pm an cdv ct), sl⟩) (e3 : codeIn K cdv "law" = true) .. : ∃ t, My.Txt K t
set_option maxRecDepth 100000 in
set_option maxHeartbeats 0 in
theorem PySem.Challenge.cw_LID_holds : PySem.Challenge.rw_LID.Holds := by
  w_on; o_law; k_head; (case hw => w_witness2)
  k_fill
  refine L2.walk_of (l := PySem.Challenge.rw_LID) (n := 63) (k := 40) (x := "script") (CX := fun w => ..) (sp := fun _ => My.sp_law) rfl (by decide) rfl ⟨rfl, by decide, by decide⟩ (fun w h Y => PySem.W.kIn_of Y) ?F ?S ?C
  case F =>
    intro w mg fa h KX G hmg
    have T : ∃ t, My.Txt (L2.KOf KX) t := by
      dsimp only [L2.KOf]                          -- K must stand as «<heap const> w.params» for k_is
      refine' My.txt_mk ?e1 ?e2 ?e3 ..
      (case e1 => PySem.W.k_is)                    -- in the order: a name -> its address -> its object -> its parts
      (case e2 => PySem.W.k_is)
      ..
    obtain ⟨t, T⟩ := T
    have e0 := hmg.symm.trans (PySem.W.mg_of KX G T.law)
    cases e0                                       -- fa is the law's own address
    exact ⟨_, fun s u => .of_eq rfl, fun base kb nb => My.law_fn T kb nb⟩     -- if «.of_eq rfl» comes too early: refine' ⟨_, ?b, fun base kb nb => My.law_fn T kb nb⟩; exact fun s u => .of_eq rfl
  case S => exact fun w H a ns hl hO hS => ..
  case C => exact ..
(the tactic k_is has no namespace: write k_is) -/
/-! SHORT WORDS over the layer: a def of the text, its body, what a loop and a test want. -/
namespace L2
open PySem PySem.Spec PyProof.Rows
/-! ### the text by places -/
def defArgs (s : Stmt) : Arguments := match s with
  | .FunctionDef _ a _ _ _ _ _ _ _ _ => a
  | _ => { posonlyargs := [], args := [], vararg := none, kwonlyargs := [], kw_defaults := [], kwarg := none, defaults := [] }
def defBody (s : Stmt) : List Stmt := match s with
  | .FunctionDef _ _ b _ _ _ _ _ _ _ => b
  | _ => []
def defScope (s : Stmt) : Scope := match s with
  | .FunctionDef _ _ _ _ _ _ sc _ _ _ => sc
  | _ => { kind := .function, names := [], isGenerator := false, isCoroutine := false }
/-! ### no exception leaves a def -/
abbrev CX0 : CXT := fun _ _ _ _ _ _ => False
abbrev E0 : XK := fun _ _ _ => False
theorem pass0 {X : Cx} : Passes CX0 X E0 := fun _ _ _ _ _ _ _ h => h.elim
/-! ### a def (or method) of the text as it stands behind the top -/
structure Fun (K : PySem.W.Frag) (x qual : Str) (st : Stmt) (f : Addr) (fd : FuncData) : Prop where
  ex : ∃ (oc : Value) (od : Option Addr) (kV doc pm : Value) (an : Option Addr) (cdv ct : Value) (osl : Array (Option Value)),
    fd = PySem.W.fnOf x qual (defArgs st) (defBody st) (defScope st) .none kV doc pm an cdv ct ∧ K.lookup f = some ⟨oc, od, .func fd, osl⟩ ∧ PySem.W.codeIn K cdv qual = true
  kp : PySem.W.keepIn K (.ref f) = true
section
variable {P : Program} {w : World} {K : PySem.W.Frag} {mg : Str → Option Value} {base : Heap}
/-- THE RULE for a def: its body as a term of rules, and the reading of that term -/
theorem Fun.ok {x qual : Str} {st : Stmt} {f : Addr} {fd : FuncData} {N ps : List Str} {k : Nat} {sp : Sp} (F : Fun K x qual st f fd) (S : FnScope N ps (defScope st)) (len : ∀ vs H Q E, sp vs H Q E → vs.length = ps.length)
    (hbody : ∀ (cdv : Value) (A : Around) (outer : List Env) (s : Shared) (H : Hp) (vs : List V) (Q : VK) (E : XK), Room k (A.deeper (envOfC qual (defScope st) s.heap.objs.size f cdv)) → sp vs H Q E →
      ∃ t, PSs (cxOf CX0 P w K mg base N qual (defScope st) f cdv A outer s H E).nox (defBody st) t ∧ t { nx := fun _ H' => Q .non H', rt := Q } (start N vs) H) : FnOk P w K mg base CX0 (k + 1) f fd ps sp := by
  obtain ⟨oc, od, kV, doc, pm, an, cdv, ct, osl, rfl, lk, hcd⟩ := F.ex
  refine fn_of lk hcd S len fun A outer s H vs Q E hr hsp => ?_
  obtain ⟨t, h, q⟩ := hbody cdv A outer s H vs Q E hr hsp
  exact ⟨t, h.nox, q⟩
/-- how its arguments bind (no defaults): h is «fun _ _ _ _ _ _ us hl => match us, hl with | [_, _], _ => rfl», one _ a parameter -/
theorem Fun.binds {x qual : Str} {st : Stmt} {f : Addr} {fd : FuncData} {ps : List Str} (F : Fun K x qual st f fd)
    (h : ∀ (kV doc pm : Value) (an : Option Addr) (cdv ct : Value) (us : List Value), us.length = ps.length → bindArgs (PySem.W.fnOf x qual (defArgs st) (defBody st) (defScope st) .none kV doc pm an cdv ct) ⟨us, []⟩ = pure (ps.zip us)) : Binds K fd ps [] := by
  obtain ⟨oc, od, kV, doc, pm, an, cdv, ct, osl, rfl, lk, hcd⟩ := F.ex
  exact .all (h kV doc pm an cdv ct)
theorem fun_mk {x qual : Str} {st : Stmt} {f : Addr} {oc : Value} {od an : Option Addr} {osl : Array (Option Value)} {kV doc pm cdv ct : Value} (l : K.lookup f = some ⟨oc, od, .func (PySem.W.fnOf x qual (defArgs st) (defBody st) (defScope st) .none kV doc pm an cdv ct), osl⟩)
    (c : PySem.W.codeIn K cdv qual = true) (k : PySem.W.keepIn K (.ref f) = true) : Fun K x qual st f (PySem.W.fnOf x qual (defArgs st) (defBody st) (defScope st) .none kV doc pm an cdv ct) := ⟨⟨oc, od, kV, doc, pm, an, cdv, ct, osl, rfl, l, c⟩, k⟩
end
theorem hu_of {A : Around} {k : Nat} (hr : Room k A) : A.units + 1 < cLine := Nat.lt_of_le_of_lt (Nat.add_le_add_left (by decide : 1 ≤ 64) _) hr.units
/-! ### expressions in short: the name that stands in the i-th slot -/
section
variable {X : Cx}
end
/-! ### tests -/
theorem iteF {A B : Prop} (h : B) : if false = true then A else B := by
  rw [if_neg Bool.false_ne_true]
  exact h
theorem iteT {A B : Prop} (h : A) : if true = true then A else B := by
  rw [if_pos rfl]
  exact h
/-! ### heaps -/
end L2
namespace L2
open PySem PySem.Spec PyProof.Rows
def Xo (lo : Nat) (e C dx : Addr) (fl : Option Value) (H : Hp) (h : Heap) : Prop :=
  lo ≤ e ∧ H e = none ∧ ∃ oe vs, h.get? e = some oe ∧ oe.cls = .ref C ∧ oe.dict = some dx ∧ oe.data = .fields vs ∧ 1 < vs.size ∧
    match fl with
    | none => vs[1]? = some .none
    | some v => ∃ T oT ts, vs[1]? = some (.ref T) ∧ lo ≤ T ∧ T ≠ e ∧ H T = none ∧ h.get? T = some oT ∧ oT.data = .fields ts ∧ ts[3]? = some v
end L2
namespace L2
open PySem PySem.Spec PyProof.Rows
section
variable {X : Cx}
/-- // by a positive divisor below 2^64 -/
theorem op_fdivW : OpR X (binaryOp .FloorDiv) (rI (fun _ j => 0 < j ∧ j < 2 ^ 64) fun i j => .int (i / j)) := by
  refine opI fun i j t u s Q E hc h => ?_
  obtain ⟨h0, h1⟩ := hc
  have e : i.fdiv j = i / j := Int.fdiv_eq_ediv_of_nonneg i (Int.le_of_lt h0)
  refine floordiv_int (by omega) (by rw [e]; exact h) (.inl (PyProof.noPylong_of_log2 ?_))
  have h2 : j.natAbs < 2 ^ 64 := by omega
  have h3 : j.natAbs ≠ 0 := by omega
  have := (Nat.log2_lt h3).mpr h2
  omega
/-- t + u of tuples, whatever -/
theorem cat_tup0 {prog : Program} {w : World} {A : Around} {E : Value → Shared → Prop} {s : Shared} {t b : Addr} {ws : List Value} {Q : Value → Shared → Prop} (ht : IsTup s.heap t #[]) (hb : IsTup s.heap b ws.toArray)
    (h1 : Q (.ref b) s) : wpAny (model prog w) A (binaryOp .Add (.ref t) (.ref b)) Q E s := by
  obtain ⟨⟨cls, dd, data, sl⟩, ho, hc, n, hd⟩ := id ht
  obtain ⟨⟨cls2, dd2, data2, sl2⟩, ho2, hc2, n2, hd2⟩ := id hb
  simp only at hc hd hc2 hd2
  subst hc hd hc2 hd2
  exact concat_meets ⟨_, ho, rfl⟩ ⟨_, ho2, rfl⟩ noFill_tuple_add seq_tuple_add PySem.F.slot_tuple_add PySem.F.entry_tuple_add (PySem.F.args_tuple_add_2 _ _)
      (tuple_addW0 t b #[] ws.toArray n n2 dd dd2 sl sl2 (by simp)) ⟨ho, ho2, h1⟩
def rCatT0 (K : PySem.W.Frag) : R2 := fun x y H Q => ∃ a b ys, x = .ref a ∧ y = .ref b ∧ SqT K H a [] ∧ SqT K H b ys ∧ Q (.ref b) H
theorem op_catT0 : OpR X (binaryOp .Add) (rCatT0 X.K) := by
  intro pins s σ H x y v u Q I rx ry h
  obtain ⟨a, b, ys, rfl, rfl, ha, hb, q⟩ := h
  cases rx
  cases ry
  obtain ⟨its, r1, p1, _⟩ := I.tuple ha
  obtain ⟨its2, r2, p2, _⟩ := I.tuple hb
  cases r1
  exact cat_tup0 p1 p2 ⟨.ref b, H, I, rfl, q⟩
end
end L2
namespace HT
open PySem PyProof.Rows
section
variable {prog : Program} {w : World} {A : Around} {E : Value → Shared → Prop} {s : Shared}
theorem getItem_tuple_whole {t sl : Addr} {items : Array Value} {vl vu : Value} {lo hi : Option Int} {Q : Value → Shared → Prop} (ht : IsTup s.heap t items) (hs : s.heap.IsSliceOf sl vl vu .none) (pl : IsPart vl lo) (pu : IsPart vu hi)
    (hw : sIx items.size 0 lo = 0 ∧ sIx items.size items.size hi = items.size)
    (h : Q (.ref t) s) : wpAny (model prog w) A (getItem (.ref t) (.ref sl)) Q E s := by
  obtain ⟨os, hos, hcs, hds⟩ := id hs
  have hTs : s.TypeIs (.ref sl) "slice" := ⟨os, hos, hcs⟩
  unfold getItem
  try with_reducible refine wpAny_holding ?_
  first | refine wpAny_bind (wpAny_pure ?_) | skip
  refine wpAny_bind (wpAny_sequenceKey ht.typeIs (by decide) ?_)
  refine wpAny_bind (wpAny_callSpecial?_slot (name := Str.ofString "__getitem__") ht.typeIs PyProof.Rows.slot_tuple_getitem
    (wpAny_call_entry PyProof.Rows.slot_tuple_getitem ht.typeIs entry_tuple_getitem ?_ (args_tuple_getitem _ _)))
  show wpAny _ _ (Builtin.Tuple.tupleItemsOf (.ref t) >>= _) _ _ s
  refine wpAny_bind (tupleItemsOf_ ht ?_)
  refine wpAny_bind (wpAny_typeOf hTs ?_)
  rw [if_pos (by decide)]
  refine wpAny_bind (sliceApplied_gen hs pl pu ?_)
  have hno : ((((sIx items.size 0 lo : Nat) : Int) == 0 && (1 : Int) == 1 && (sIx items.size items.size hi - sIx items.size 0 lo) == items.size) = true) := by
    rw [hw.1, hw.2]; simp
  show wpAny _ _ (if (((sIx items.size 0 lo : Nat) : Int) == 0 && (1 : Int) == 1 && (sIx items.size items.size hi - sIx items.size 0 lo) == items.size) = true then _ else _) _ _ s
  rw [if_pos hno]
  unfold Builtin.Tuple.tupleIsExact
  refine wpAny_bind (wpAny_bind (wpAny_typeOf ht.typeIs ?_))
  refine wpAny_pure ?_
  rw [if_pos (by decide)]
  exact wpAny_bind (wpAny_rule (wpAny_pure ⟨_, rfl, wpAny_pure h⟩))
end
end HT
namespace L2
open PySem PySem.Spec PyProof.Rows
section
variable {X : Cx}
/-- t[lo:hi], the whole of it: t itself -/
def rSlTW (K : PySem.W.Frag) : V → Option Int → Option Int → Hp → VK → Prop := fun x lo hi H Q => ∃ a xs, x = .ref a ∧ SqT K H a xs ∧
  (HT.sIx xs.length 0 lo = 0 ∧ HT.sIx xs.length xs.length hi = xs.length) ∧ Q (.ref a) H
theorem sl_tupW : SlR X (rSlTW X.K) := by
  intro pins s σ H x v vl vu lo hi sl Q I rx hs pl pu h
  obtain ⟨a, xs, rfl, hx, hw, q⟩ := h
  cases rx
  obtain ⟨its, r, ht, hz⟩ := I.tuple hx
  have hlen : its.toArray.size = xs.length := by rw [List.size_toArray]; exact r.length.symm
  refine ⟨"tuple", _, PyProof.Rows.slot_tuple_getitem.lookup, ht.typeIs, ?_⟩
  exact HT.getItem_tuple_whole ht hs pl pu (by rw [hlen]; exact hw) ⟨.ref a, H, I, rfl, q⟩
end
end L2
namespace L2
open PySem PySem.Spec PyProof.Rows
section
variable {X : Cx} {pins : List (Addr × Obj)} {σ : St} {H : Hp} {s : Shared} {h' : Heap} {t' : Nat}
/-- several untracked records of ours have turned, and a new object is laid and tracked -/
theorem Inv.turnLay {ch : List Addr} {a : Addr} {o : HO} (I : Inv X pins σ H s) (hf : ∀ b ∈ ch, FpOk X pins H b) (k : ∀ b ob, b ∉ ch → s.heap.get? b = some ob → h'.get? b = some ob) (hp : s.heap.objs.size ≤ a)
    (new : ObjOk X.prog X.w (upd H a o) h' a o) : Inv X pins σ (upd H a o) { s with heap := h', toks := t' } := by
  have hn : H a = none := I.hok.fresh hp
  have nch : ∀ b u, H b = some u → b ∉ ch := fun b u e hb => by rw [(hf b hb).1] at e; cases e
  have na : ∀ b u, H b = some u → b ≠ a := fun b u e => ne_of_none e hn
  refine I.step (g' := s.gens) (d' := s.drawn) (ch := ch) (fun b hb => ?_) (fun b o _ _ hc e _ => k b o hc e) (fun b o _ _ hc e _ => ⟨o.slots, k b o hc e⟩)
    (fun b o _ e n => by rw [upd_ne (Nat.ne_of_lt (Nat.lt_of_lt_of_le (Heap.lt_size e) hp))]; exact n)
    (fun b o hc e => ⟨o, k b o hc e⟩) (fun b xs e => by rw [upd_ne (na b _ e)]; exact e) (fun b o u e => by rw [upd_ne (na b _ e)]; exact e) (fun b ps e => ⟨#[], by rw [upd_ne (na b _ e), e]; simp⟩) (fun m hm => ?_) (fun b u e => ?_) I.bare
  · obtain ⟨f0, f1, f2, f3, f4, f5⟩ := hf b hb
    exact ⟨f3, f1, f4, f5⟩
  · obtain ⟨ob, es, ep, ho, r⟩ := hm
    exact ⟨ob, es, ep, k _ ob (fun z => (hf _ z).2.1 rfl) ho, r⟩
  · by_cases hb : b = a
    · subst hb; rw [upd_same] at e; cases e; exact new
    · rw [upd_ne hb] at e
      refine (I.hok b u e).stay (fun c v hc q => k c v ?_ q) (fun c q => by rw [upd_ne (na c _ q)]; exact q) fun c xs q => by rw [upd_ne (na c _ q)]; exact q
      rcases hc with z | z
      · rw [z]; exact nch b u e
      · exact nch c _ z
/-- several untracked records of ours have turned -/
theorem Inv.turns {ch : List Addr} (I : Inv X pins σ H s) (hf : ∀ b ∈ ch, FpOk X pins H b) (k : ∀ b ob, b ∉ ch → s.heap.get? b = some ob → h'.get? b = some ob) : Inv X pins σ H { s with heap := h', toks := t' } := by
  have nch : ∀ b u, H b = some u → b ∉ ch := fun b u e hb => by rw [(hf b hb).1] at e; cases e
  refine I.step (g' := s.gens) (d' := s.drawn) (ch := ch) (fun b hb => ?_) (fun b o _ _ hc e _ => k b o hc e) (fun b o _ _ hc e _ => ⟨o.slots, k b o hc e⟩)
    (fun b o _ e n => n) (fun b o hc e => ⟨o, k b o hc e⟩) (fun b xs e => e) (fun b o u e => e) (fun b ps e => ⟨#[], by rw [e]; simp⟩) (fun m hm => ?_) (fun b u e => ?_) I.bare
  · obtain ⟨f0, f1, f2, f3, f4, f5⟩ := hf b hb
    exact ⟨f3, f1, f4, f5⟩
  · obtain ⟨ob, es, ep, ho, r⟩ := hm
    exact ⟨ob, es, ep, k _ ob (fun z => (hf _ z).2.1 rfl) ho, r⟩
  · refine (I.hok b u e).stay (fun c v hc q => k c v ?_ q) (fun c q => q) fun c xs q => q
    rcases hc with z | z
    · rw [z]; exact nch b u e
    · exact nch c _ z
end
/-! ### enumerate(list) -/
def Ite (K : PySem.W.Frag) (a : Addr) : It :=
  ⟨fun i H => ∃ xs x, SqL K H a xs ∧ xs[i]? = some x,
   fun i H y H' => ∃ p x, H p = none ∧ y = .ref p ∧ H' = upd H p (.tup [.int i, x]) ∧ ∀ xs, SqL K H a xs → xs[i]? = some x,
   fun i H => ∃ xs, SqL K H a xs ∧ xs.length ≤ i⟩
theorem turn_enum {P : Program} {w : World} {K : PySem.W.Frag} {elts : List Expr} {x1 : Nat} {pos : Pos} (a e it : Addr) (hne : e ≠ it) :
    Turn P w K (.Tuple elts x1 pos) (Ite K a) [e, it] e (fun i h => ∃ old, IsEnum h e it (i : Int) old ∧ h.IsListIter it a i) where
  mem := by simp
  obj := fun i h st b hb => by
    obtain ⟨old, h1, h2⟩ := st
    rcases List.mem_cons.mp hb with rfl | hb
    · exact ⟨_, h1, fun v z => by cases z⟩
    · have e : b = it := by simpa using hb
      subst e
      obtain ⟨o, q, c, d⟩ := h2
      exact ⟨o, q, fun v z => by rw [d] at z; cases z⟩
  keep := fun i h h' st k => by
    obtain ⟨old, h1, h2⟩ := st
    exact ⟨old, k e (by simp) _ h1, h2.at fun o q => k it (by simp) o q⟩
  item := by
    intro X hP hw hK hc i pins s σ H E I hf st hg
    subst hP hw hK
    obtain ⟨xs, x, hq, hx⟩ := hg
    obtain ⟨old, h1, h2⟩ := st
    obtain ⟨its, rv, p, hz⟩ := I.list hq
    obtain ⟨u, hu, ru⟩ := rv.get hx
    refine wpAny_pyNext_enum_item h1 h2 p.isList (x := u) (by simpa using hu) hne fun h₁ heo hit ht hsz hk => ?_
    refine ⟨_, rfl, wpAny_letOwnedTupleGo_enum heo fun h₂ he₂ hs₂ => ?_⟩
    replace hs₂ : Heap.SameBut e h₁ h₂ := hs₂
    have hlt : e < s.heap.objs.size := Heap.lt_size h1
    have itlt : it < s.heap.objs.size := by obtain ⟨o, q, _⟩ := h2; exact Heap.lt_size q
    have ht2 : h₂.get? s.heap.objs.size = some { cls := .type "tuple", data := .seq #[.int i s.toks, u] } := by rw [hs₂.2 _ (Nat.ne_of_gt hlt)]; exact ht
    have kk : ∀ b ob, b ∉ [e, it] → s.heap.get? b = some ob → h₂.get? b = some ob := fun b ob hb q => by
      have b1 : b ≠ e := fun z => hb (by simp [z])
      have b2 : b ≠ it := fun z => hb (by simp [z])
      exact hs₂.extBut b ob b1 (hk b ob b1 b2 q)
    refine ⟨.ref s.heap.objs.size, upd H s.heap.objs.size (.tup [.int i, x]), I.turnLay hf kk (Nat.le_refl _) ?_, rfl, ⟨_, x, I.hok.fresh (Nat.le_refl _), rfl, rfl, fun ys hy => by rw [I.list_inj hy hq]; exact hx⟩, ?_, fun b hb => ?_⟩
    · refine ⟨by show 2 ≤ sizeLine; decide, [.int i s.toks, u], .cons ⟨_, rfl⟩ (.cons ru .nil), ?_⟩
      exact ⟨_, ht2, rfl, _, rfl⟩
    · refine ⟨u, ?_, hit.extBut hs₂.extBut (Ne.symm hne)⟩
      have : ((i : Nat) : Int) + 1 = ((i + 1 : Nat) : Int) := by omega
      rw [← this]; exact he₂
    · rw [upd_ne]
      · exact (hf b hb).1
      · intro z; subst z
        rcases List.mem_cons.mp hb with z | z
        · exact Nat.ne_of_gt hlt z
        · exact Nat.ne_of_gt itlt (by simpa using z)
  done := by
    intro X hP hw hK hc i pins s σ H E I hf st hg
    subst hP hw hK
    obtain ⟨xs, hq, hx⟩ := hg
    obtain ⟨old, h1, h2⟩ := st
    obtain ⟨its, rv, p, hz⟩ := I.list hq
    have hl := rv.length
    exact wpAny_pyNext_enum_end (I.ok.hd hc) h1 h2 p.isList (by simp; omega) fun h' eb => ⟨rfl, I.turns (t' := s.toks) (ch := [e, it]) hf fun b o hb q => eb b o (fun z => hb (by simp [z])) q⟩
  self := fun _ _ _ _ _ st h => by
    obtain ⟨old, h1, h2⟩ := st
    exact wpAny_pyIter_enum h1 h
def iEnum (K : PySem.W.Frag) (ta : TA) : TI := fun σ H R => ta σ H fun vs H1 => ∃ a, vs = [.ref a] ∧ (∃ xs, SqL K H1 a xs) ∧ R (Ite K a) H1
theorem boot_enum : bootBuiltins "enumerate" = some (.type "enumerate") := by decide +kernel
theorem pi_enum {X : Cx} {elts : List Expr} {x1 : Nat} {tpos : Pos} {a : Expr} {ta : TA} {p pos : Pos} (hg : Gl X "enumerate") (hm : X.mg "enumerate" = none) (ha : PA X [a] ta) (hs : starEach [a] X.env = [(false, eval a X.env)] := by rfl) :
    PI X (.Tuple elts x1 tpos) (.Call (.Name "enumerate" p) [a] [] pos) (iEnum X.K ta) := by
  intro pins s σ H R I h
  refine Call_ (ld_blt I hg hm boot_enum (PyProof.Rows.callWith_type1 (thn (ha pos pins s σ H _ I h) fun us s1 ⟨vs, H1, I1, r1, q1⟩ => ?_) hs rfl))
  obtain ⟨l, e, ⟨xs, hq⟩, q⟩ := q1
  subst e
  cases r1 with
  | cons r rr =>
    cases rr
    cases r
    obtain ⟨its, rv, pl, hz⟩ := I1.list hq
    refine call_enumerate_list pl.isList fun h' he hit hsz hk => ?_
    refine wpAny_pyIter_enum he ?_
    have I2 : Inv X pins σ H1 { s1 with heap := h' } := I1.kept (t' := s1.toks) hk
    refine ⟨s1.heap.objs.size + 1, [s1.heap.objs.size + 1, s1.heap.objs.size], _, _, H1, rfl, I2, turn_enum l _ _ (Nat.ne_of_gt (Nat.lt_succ_self _)), ⟨.none, he, hit⟩, fun b hb => ?_, q⟩
    have hb' : s1.heap.objs.size ≤ b := by
      rcases List.mem_cons.mp hb with z | z
      · rw [z]; exact Nat.le_succ _
      · have : b = s1.heap.objs.size := by simpa using z
        rw [this]; exact Nat.le_refl _
    exact I1.fpOk hb' (I1.hok.fresh hb')
/-! ### reversed(list) -/
/-! ### zip(list, list) -/
end L2
namespace L2
open PySem PySem.Spec PyProof.Rows
/-! ### [e for t in it if c] -/
/-- the cells that a block takes along -/
theorem closureFor_ex {scope : Scope} {env : Env} (h : ∀ x ∈ scope.names, x.2 = .free → ∃ c, env.cells.lookup x.1 = some c) :
    ∃ cl, closureFor scope env = pure cl ∧ (∀ x c, cl.lookup x = some c → env.cells.lookup x = some c) ∧ ∀ x, (x, NameKind.free) ∈ scope.names → ∃ c, cl.lookup x = some c := by
  have key : ∀ (names : List (Str × NameKind)) (acc : List (Str × Addr)), (∀ x ∈ names, x.2 = .free → ∃ c, env.cells.lookup x.1 = some c) → (∀ x c, acc.lookup x = some c → env.cells.lookup x = some c) →
      ∃ cl, (forIn names acc fun (x : Str × NameKind) (cs : List (Str × Addr)) => (if x.2 == .free then do let a ← cellOf env x.1; pure (ForInStep.yield ((x.1, a) :: cs)) else pure (ForInStep.yield cs) : Sem _)) = pure cl ∧ (∀ x c, cl.lookup x = some c → env.cells.lookup x = some c) ∧
        (∀ x, (x, NameKind.free) ∈ names → ∃ c, cl.lookup x = some c) ∧ ∀ x c, acc.lookup x = some c → ∃ c', cl.lookup x = some c' := by
    intro names
    induction names with
    | nil => intro acc _ ha; exact ⟨acc, rfl, ha, ⟨(fun x hx => nomatch hx), fun x c q => ⟨c, q⟩⟩⟩
    | cons y r ih =>
      intro acc hn ha
      obtain ⟨n, k⟩ := y
      have hr : ∀ x ∈ r, x.2 = .free → ∃ c, env.cells.lookup x.1 = some c := fun x hx => hn x (List.mem_cons_of_mem _ hx)
      by_cases hk : k = .free
      · subst hk
        obtain ⟨c, hc⟩ := hn (n, .free) (by simp) rfl
        have ha' : ∀ x c', ((n, c) :: acc).lookup x = some c' → env.cells.lookup x = some c' := fun x c' q => by
          rw [List.lookup_cons] at q
          cases e : x == n with
          | true => rw [e] at q; cases q; rw [eq_of_beq e]; exact hc
          | false => rw [e] at q; exact ha x c' q
        obtain ⟨cl, h1, h2, h3, h4⟩ := ih ((n, c) :: acc) hr ha'
        refine ⟨cl, ?_, h2, fun x hx => ?_, fun x c' q => ?_⟩
        · rw [List.forIn_cons]
          simp only [beq_self_eq_true, if_true, cellOf, hc]
          exact h1
        · rcases List.mem_cons.mp hx with e | hx
          · cases e
            exact h4 n c (by simp)
          · exact h3 x hx
        · cases e : x == n with
          | true => exact h4 x c (by rw [List.lookup_cons, e])
          | false => exact h4 x c' (by rw [List.lookup_cons, e]; exact q)
      · have hb : (k == NameKind.free) = false := by simpa using hk
        obtain ⟨cl, h1, h2, h3, h4⟩ := ih acc hr ha
        refine ⟨cl, ?_, h2, fun x hx => ?_, h4⟩
        · rw [List.forIn_cons]
          simp only [hb, Bool.false_eq_true, if_false]
          exact h1
        · rcases List.mem_cons.mp hx with e | hx
          · cases e; exact absurd rfl hk
          · exact h3 x hx
  obtain ⟨cl, h1, h2, h3, _⟩ := key scope.names [] h (fun x c q => by simp at q)
  refine ⟨cl, ?_, h2, h3⟩
  unfold closureFor
  show (forIn scope.names [] (fun (x : Str × NameKind) (cs : List (Str × Addr)) => (if x.2 == .free then do let a ← cellOf env x.1; pure (ForInStep.yield ((x.1, a) :: cs)) else pure (ForInStep.yield cs) : Sem _)) >>= fun cs => pure cs) = pure cl
  rw [h1]
  rfl
theorem lookup_map_kind {f : Str × NameKind → Str × NameKind} (h1 : ∀ p, (f p).1 = p.1) : ∀ {names : List (Str × NameKind)} {x : Str}, (names.map f).lookup x = (names.lookup x).map fun k => (f (x, k)).2
  | [], _ => rfl
  | (n, j) :: r, x => by
    rw [List.map_cons]
    have e : f (n, j) = (n, (f (n, j)).2) := by
      have := h1 (n, j)
      exact Prod.ext this rfl
    rw [e, List.lookup_cons, List.lookup_cons]
    cases hx : x == n with
    | true => rw [eq_of_beq hx]; rfl
    | false => exact lookup_map_kind h1
def rlab (env : Env) (p : Str × NameKind) : Str × NameKind := if (p.2 == .free && env.scope.kind == .function && env.kindOf p.1 == some .cell) = true then (p.1, .cell) else (p.1, p.2)
theorem rlab_fst (env : Env) (p : Str × NameKind) : (rlab env p).1 = p.1 := by unfold rlab; split <;> rfl
theorem rlab_snd (env : Env) (p : Str × NameKind) : (rlab env p).2 = p.2 ∨ (p.2 = .free ∧ (rlab env p).2 = .cell) := by
  unfold rlab
  split
  · rename_i h
    rw [Bool.and_eq_true, Bool.and_eq_true] at h
    exact .inr ⟨eq_of_beq h.1.1, rfl⟩
  · exact .inl rfl
theorem relabel_names (scope : Scope) (env : Env) : (relabel scope env).names = scope.names.map (rlab env) := rfl
theorem lookup_relabel {scope : Scope} {env : Env} {x : Str} {k : NameKind} (h : (relabel scope env).names.lookup x = some k) : scope.names.lookup x = some k ∨ (scope.names.lookup x = some .free ∧ k = .cell) := by
  rw [relabel_names, lookup_map_kind (rlab_fst env)] at h
  cases e : scope.names.lookup x with
  | none => rw [e] at h; cases h
  | some j =>
    rw [e] at h
    have h' : (rlab env (x, j)).2 = k := Option.some.inj h
    rcases rlab_snd env (x, j) with q | ⟨q1, q2⟩
    · rw [q] at h'; exact .inl (by rw [← h'])
    · rw [q2] at h'; exact .inr ⟨by rw [show j = NameKind.free from q1], h'.symm⟩
theorem lookup_relabel_free {scope : Scope} {env : Env} {x : Str} (h : scope.names.lookup x = some .free) : (relabel scope env).names.lookup x = some .cell ∨ (relabel scope env).names.lookup x = some .free := by
  rw [relabel_names, lookup_map_kind (rlab_fst env), h]
  rcases rlab_snd env (x, .free) with q | ⟨_, q⟩
  · exact .inr (by rw [Option.map_some, q])
  · exact .inl (by rw [Option.map_some, q])
theorem mem_of_lookup {α β : Type} [BEq α] [LawfulBEq α] {x : α} {k : β} : ∀ {l : List (α × β)}, l.lookup x = some k → (x, k) ∈ l
  | [], h => by simp at h
  | (n, j) :: r, h => by
    rw [List.lookup_cons] at h
    cases e : x == n with
    | true => rw [e] at h; cases h; rw [eq_of_beq e]; simp
    | false => rw [e] at h; exact List.mem_cons_of_mem _ (mem_of_lookup h)
/-- the block's context: its own names N (its targets, and what it takes from around), the iterator's records fp -/
def compCx (X : Cx) (N : List Str) (scope : Scope) (cl : List (Str × Addr)) (C : Addr) (fp : List Addr) (s : Shared) (H : Hp) : Cx :=
  { X with N := N, s₀ := s, H₀ := H, env := compEnvC scope cl C X.env, outer := X.stack, stack := X.stack, ex := fp, fn := fun _ => false, pn := [], xe := fun _ _ => False }
/-- what of the text a block must have -/
structure CompScope (scope : Scope) : Prop where
  kind : scope.kind = .function
  cell : ∀ y ∈ scope.names, y.2 ≠ .cell
  names : ∀ y ∈ scope.names, y.2 = .local → scope.names.lookup y.1 = some .local
/-- which of the names stand around it, and where -/
def Capt (X : Cx) (scope : Scope) : List (Option Nat) → List Str → Prop
  | [], [] => True
  | none :: r, _ :: xs => Capt X scope r xs
  | some j :: r, x :: xs => (X.N[j]? = some x ∧ (X.env.kindOf x = some .cell ∨ X.env.kindOf x = some .free) ∧ scope.names.lookup x = some .free) ∧ Capt X scope r xs
  | _, _ => False
def captSt (capt : List (Option Nat)) (σ : St) : St := capt.map fun o => o.bind fun j => (σ[j]?).join
theorem Capt.len {X : Cx} {scope : Scope} : ∀ {capt : List (Option Nat)} {N : List Str}, Capt X scope capt N → capt.length = N.length
  | [], [], _ => rfl
  | none :: r, _ :: xs, h => by simp [Capt.len (show Capt X scope r xs from h)]
  | some j :: r, x :: xs, h => by simp [Capt.len h.2]
  | [], _ :: _, h => h.elim
  | none :: _, [], h => h.elim
  | some _ :: _, [], h => h.elim
theorem Capt.at_ {X : Cx} {scope : Scope} : ∀ {capt : List (Option Nat)} {N : List Str} {i j : Nat} {x : Str}, Capt X scope capt N → capt[i]? = some (some j) → N[i]? = some x →
    X.N[j]? = some x ∧ (X.env.kindOf x = some .cell ∨ X.env.kindOf x = some .free) ∧ scope.names.lookup x = some .free
  | [], [], _, _, _, _, e, _ => by simp at e
  | none :: r, y :: xs, 0, _, _, _, e, _ => by simp at e
  | none :: r, y :: xs, i + 1, _, _, h, e, e2 => Capt.at_ (i := i) (show Capt X scope r xs from h) (by simpa using e) (by simpa using e2)
  | some k :: r, y :: xs, 0, _, _, h, e, e2 => by
    simp at e e2; subst e e2; exact h.1
  | some k :: r, y :: xs, i + 1, _, _, h, e, e2 => Capt.at_ (i := i) h.2 (by simpa using e) (by simpa using e2)
  | [], _ :: _, _, _, _, h, _, _ => h.elim
  | none :: _, [], _, _, _, h, _, _ => h.elim
  | some _ :: _, [], _, _, _, h, _, _ => h.elim
section
variable {X : Cx} {pins : List (Addr × Obj)} {σ : St} {H : Hp} {s : Shared} {N : List Str} {scope : Scope} {cl : List (Str × Addr)} {C : Addr} {fp : List Addr} {capt : List (Option Nat)}
theorem comp_ok (I : Inv X pins σ H s) (S : CompScope scope) (hcl : ∀ x c, cl.lookup x = some c → X.env.cells.lookup x = some c) (hall : ∀ x, (x, NameKind.free) ∈ scope.names → ∃ c, cl.lookup x = some c)
    (hC : s.heap.objs.size ≤ C) (hf : ∀ b ∈ fp, FpOk X pins H b) (hb : ∀ b ∈ fp, b < s.heap.objs.size) : (compCx X N scope cl C fp s H).Ok where
  mod := I.ok.mod
  kind := S.kind
  glob := I.ok.glob
  blt := I.ok.blt
  above := hC
  inj := fun x y c h1 h2 => I.ok.inj x y c (hcl x c h1) (hcl y c h2)
  has := fun x hx => by
    have q : scope.names.lookup x = some .free := by
      rcases hx with hx | hx
      · rcases lookup_relabel hx with e | ⟨e, _⟩
        · exact absurd rfl (S.cell _ (mem_of_lookup e))
        · exact e
      · rcases lookup_relabel hx with e | ⟨e, _⟩
        · exact e
        · exact e
    exact hall x (mem_of_lookup q)
  cab := fun x c h => by cases h
  hd := I.ok.hd
  frames := I.ok.frames
  stk := .inl rfl
  exf := fun b hb' => ⟨Nat.ne_of_lt (Nat.lt_of_lt_of_le (hb b hb') hC), fun x c h => (hf b hb').2.2.2.2.1 x c (hcl x c h)⟩
  bs := I.bs
  bsz := Nat.le_trans I.ok.bsz I.sz
  noex := fun b o e hb' => by
    rcases (hf b hb').2.2.2.1 with z | z
    · exact I.ok.noex b o e z
    · exact absurd (Heap.lt_size e) (Nat.not_lt.mpr (Nat.le_trans I.ok.bsz z))
  exfs := fun b hb' z => by
    rcases List.mem_cons.mp (I.stkSub b z) with e | e
    · exact (hf b hb').2.1 e
    · exact (hf b hb').2.2.1 e
  funs := I.stack
  frf := I.stkFree
theorem comp_inv {h' : Heap} {t' : Nat} {m : Str → Option Value} (I : Inv X pins σ H s) (S : CompScope scope) (hcl : ∀ x c, cl.lookup x = some c → X.env.cells.lookup x = some c) (hall : ∀ x, (x, NameKind.free) ∈ scope.names → ∃ c, cl.lookup x = some c)
    (hC : s.heap.objs.size ≤ C) (hf : ∀ b ∈ fp, FpOk X pins H b) (hb : ∀ b ∈ fp, b < s.heap.objs.size) (hcap : Capt X scope capt N) (hn : h'.Ns C m) (hk : ∀ b o, s.heap.get? b = some o → h'.get? b = some o) :
    Inv (compCx X N scope cl C fp s H) [] (captSt capt σ) H { s with heap := h', toks := t' } where
  ok := comp_ok I S hcl hall hC hf hb
  os := rfl
  bare := I.bare
  base := Un.kept hk
  loc := by
    refine ⟨m, hn, fun i x v hN hv hvis => ?_⟩
    have hN' : N[i]? = some x := hN
    unfold captSt at hv
    rw [List.getElem?_map] at hv
    cases e : capt[i]? with
    | none => rw [e] at hv; cases hv
    | some o =>
      rw [e] at hv
      cases o with
      | none => cases hv
      | some j =>
        have hv' : (σ[j]?).join = some v := by simpa using hv
        have hv2 : σ[j]? = some (some v) := by
          cases q : σ[j]? with
          | none => rw [q] at hv'; cases hv'
          | some z => rw [q] at hv'; cases hv'; rfl
        obtain ⟨h1, h2, h3⟩ := hcap.at_ e hN'
        obtain ⟨m0, hm0, hl⟩ := I.loc
        have hvx : Vis X.env.scope x := by
          rcases h2 with h2 | h2
          · exact .inr (.inl h2)
          · exact .inr (.inr h2)
        obtain ⟨u, r, lk⟩ := hl j x v h1 hv2 hvx
        refine ⟨u, r, ?_⟩
        rcases lk with ⟨k1, _⟩ | ⟨_, c, k2, k3⟩
        · rcases h2 with h2 | h2 <;> (rw [h2] at k1; cases k1)
        · obtain ⟨c', hc'⟩ := hall x (mem_of_lookup h3)
          have := hcl x c' hc'
          rw [k2] at this; cases this
          refine .inr ⟨lookup_relabel_free h3, c, hc', ?_⟩
          obtain ⟨o, e1, e2⟩ := k3
          exact ⟨o, hk c o e1, e2⟩
  cell := fun x c h => by
    obtain ⟨v, o, e1, e2⟩ := I.cell x c (hcl x c h)
    exact ⟨v, o, hk c o e1, e2⟩
  free := I.hok.fresh hC
  freeC := fun x c h => I.freeC x c (hcl x c h)
  pin := fun p hp => by simp [compCx] at hp
  hok := I.hok.kept hk
  len := by show (captSt capt σ).length = N.length; unfold captSt; rw [List.length_map]; exact hcap.len
end
end L2
namespace L2
open PySem PySem.Spec PyProof.Rows
abbrev testsOf (ifs : List Expr) (env : Env) : Sem Bool := forIn ifs true fun c r => if r = true then do let ok ← isTrue c env (eval c env); pure (ForInStep.yield ok) else pure (ForInStep.yield r)
theorem compLoop_gen {prog : Program} {w : World} {A : Around} {R : Result → Shared → Prop} {s : Shared} {elt target iter : Expr} {ifs : List Expr} {scope : Scope} {pos : Pos} {it acc : Value} {env : Env} (I : Nat → Shared → Prop)
    (turn : ∀ n s, I n s → wpAny (model prog w) A (pyNext it) (fun r s₁ => match r with
      | none => R (.ok .next) s₁
      | some v => wpAny (model prog w) A (letOwnedTupleGo target it v) (fun _ s₁' => wpAny (model prog w) A (assign target env v) (fun _ s₂ =>
          wpAny (model prog w) A (testsOf ifs env) (fun ok s₃ =>
            if ok = true then wpAny (model prog w) A (eval elt env) (fun x s₄ =>
              wpAny (model prog w) A (call (.builtin "list.append") [acc, x]) (fun _ s₅ => ∃ m, m < n ∧ I m s₅) (fun _ _ => False) s₄) (fun _ _ => False) s₃
            else ∃ m, m < n ∧ I m s₃) (fun _ _ => False) s₂) (fun _ _ => False) s₁') (fun _ _ => False) s₁) (fun _ _ => False) s)
    (n : Nat) (h : I n s) :
    codeAny (model prog w) A (.compLoop (.ListComp elt [⟨target, iter, ifs, 0⟩] scope pos) 0 it acc env) R s := by
  refine codeAny_loop rfl I (fun n s hI => ?_) n h
  show wpAny _ A ((compTurn (.ListComp elt [⟨target, iter, ifs, 0⟩] scope pos) 0 it acc env).onRaise (fun x => do noteFrame x env; theTreesLotGoes x)) _ _ s
  refine wpAny_noted ?_
  rw [compTurn_list]
  refine wpAny_bind (wpAny_standAt (wpAny_bind (wpAny_mono (turn n s hI) (fun r s₁ h₁ => ?_) fun _ _ h' => h'.elim)))
  cases r with
  | none => exact wpAny_pure h₁
  | some v =>
    refine wpAny_bind (wpAny_mono h₁ (fun _ s₁' h₁' => ?_) fun _ _ h' => h'.elim)
    refine wpAny_bind (wpAny_mono h₁' (fun _ s₂ h₂ => wpAny_bind (wpAny_mono h₂ (fun ok s₃ h₃ => ?_) fun _ _ h' => h'.elim)) fun _ _ h' => h'.elim)
    cases ok with
    | false => exact wpAny_pure ⟨rfl, h₃⟩
    | true =>
      exact wpAny_bind (wpAny_bind (wpAny_mono h₃ (fun x s₄ h₄ => wpAny_bind (wpAny_mono h₄ (fun _ s₅ h₅ => wpAny_pure (wpAny_pure ⟨rfl, h₅⟩)) fun _ _ h' => h'.elim)) fun _ _ h' => h'.elim))
/-- the tests of a block -/
def PTs (X : Cx) (ifs : List Expr) (t : TT) : Prop :=
  ∀ (pins : List (Addr × Obj)) (s : Shared) (σ : St) (H : Hp) (Q : Bool → Hp → Prop), Inv X pins σ H s → t σ H Q → wpAny (model X.prog X.w) X.A (testsOf ifs X.env) (TP X pins σ Q) X.xe s
theorem pts_nil {X : Cx} : PTs X [] (fun σ H Q => Q true H) := fun pins s σ H Q I h => wpAny_tests_nil ⟨H, I, h⟩
/-- the reading of a block -/
def tComp (capt : List (Option Nat)) (wi : TI) (g : TG) (tt : TT) (te : TE) : TE := fun σ H Q => wi σ H fun J H1 => ∀ D, H1 D = none → ∃ W : Nat → Nat → St → Hp → Prop, (∃ m, W 0 m (captSt capt σ) (upd H1 D (.lst []))) ∧
  ∀ i m σ' H', W i m σ' H' → (J.stop i H' ∧ Q (.ref D) H') ∨ (J.go i H' ∧ ∃ N : St → Hp → Prop, (∀ σ2 H2, N σ2 H2 → ∃ m', m' < m ∧ W (i + 1) m' σ2 H2) ∧
    ∀ x H2, J.yld i H' x H2 → g x σ' H2 fun σ3 H3 => tt σ3 H3 fun ok H4 => if ok = true then te σ3 H4 fun y H5 => ∃ xs, H5 D = some (.lst xs) ∧ xs.length < sizeLine ∧ N σ3 (upd H5 D (.lst (xs ++ [y]))) else N σ3 H4)
section
variable {X : Cx} {elt tg iter : Expr} {ifs : List Expr} {scope : Scope} {pos : Pos} {N : List Str} {capt : List (Option Nat)} {wi : TI} {g : TG} {tt : TT} {te : TE}
/-- the block, from the iterator on; E: what is wanted of its end, by the list's address, the block's own namespace, and the state -/
theorem comp_block {pins : List (Addr × Obj)} {σ : St} {H : Hp} {s : Shared} {it : Addr} {fp : List Addr} {tn : Nat → Heap → Prop} {J : It} {cl : List (Str × Addr)} {Q : VK} {E : Value → Shared → Prop} {RR : Value → Addr → Result → Shared → Prop}
    (I : Inv X pins σ H s) (T : Turn X.prog X.w X.K tg J fp it tn) (st : tn 0 s.heap) (hf : ∀ b ∈ fp, FpOk X pins H b)
    (S : CompScope scope) (hcl : ∀ x c, cl.lookup x = some c → X.env.cells.lookup x = some c) (hall : ∀ x, (x, NameKind.free) ∈ scope.names → ∃ c, cl.lookup x = some c) (hcap : Capt X scope capt N) (hc : X.calm = true)
    (hg : ∀ cl C fp s H, PG (compCx X N scope cl C fp s H) tg g) (ht : ∀ cl C fp s H, PTs (compCx X N scope cl C fp s H) ifs tt) (he : ∀ cl C fp s H, PE (compCx X N scope cl C fp s H) elt te)
    (h : ∀ D, H D = none → ∃ W : Nat → Nat → St → Hp → Prop, (∃ m, W 0 m (captSt capt σ) (upd H D (.lst []))) ∧
      ∀ i m σ' H', W i m σ' H' → (J.stop i H' ∧ Q (.ref D) H') ∨ (J.go i H' ∧ ∃ N : St → Hp → Prop, (∀ σ2 H2, N σ2 H2 → ∃ m', m' < m ∧ W (i + 1) m' σ2 H2) ∧
        ∀ x H2, J.yld i H' x H2 → g x σ' H2 fun σ3 H3 => tt σ3 H3 fun ok H4 => if ok = true then te σ3 H4 fun y H5 => ∃ xs, H5 D = some (.lst xs) ∧ xs.length < sizeLine ∧ N σ3 (upd H5 D (.lst (xs ++ [y]))) else N σ3 H4))
    (hRR : ∀ (D C : Addr) (H' : Hp) (s' : Shared) (m : Str → Option Value), s'.heap.Ns C m → Inv X pins σ H' s' → FpOk X pins H' C → Q (.ref D) H' → RR (.ref D) C (.ok .next) s') :
    wpAny (model X.prog X.w) X.A (newList []) (fun acc s₃ => wpAny (model X.prog X.w) X.A (newFunctionEnv scope X.env.globals cl [] X.env.qual none .none (some X.env)) (fun cenv s₄ =>
      codeAny (model X.prog X.w) X.A (.compStart (.ListComp elt [⟨tg, iter, ifs, 0⟩] scope pos) 0 (.ref it) acc { cenv with scope := relabel scope X.env }) (RR acc cenv.locals) s₄) E s₃) E s := by
  have hD : H s.heap.objs.size = none := I.hok.fresh (Nat.le_refl _)
  have I3 : Inv X pins σ (upd H s.heap.objs.size (.lst [])) { s with heap := s.heap.push { cls := .type "list", dict := none, data := .seq ([] : List Value).toArray } } :=
    I.laid (t' := s.toks) (fun b o q => Heap.get?_push_of_some _ q) (Nat.le_refl _) ⟨by show 0 ≤ sizeLine; decide, [], 0, .nil, Heap.get?_push_size _ rfl⟩
  obtain ⟨W, ⟨m0, w0⟩, turn⟩ := h _ hD
  refine wpAny_newObj_type (wpAny_newFunctionEnv S.cell (by intro y hy; simp at hy) (fun h₁ hns₁ hsb₁ => ?_) S.kind)
  dsimp only at hns₁ hsb₁ ⊢
  generalize hH2 : s.heap.push { cls := .type "list", dict := none, data := .seq ([] : List Value).toArray } = Hh at hns₁ hsb₁ I3 ⊢
  have fplt0 : ∀ b ∈ fp, b < s.heap.objs.size := fun b hb => by
    obtain ⟨o, e, _⟩ := T.obj 0 s.heap st b hb
    exact Heap.lt_size e
  have szH : Hh.objs.size = s.heap.objs.size + 1 := by rw [← hH2, Heap.size_push]
  have fplt : ∀ b ∈ fp, b < Hh.objs.size := fun b hb => by rw [szH]; exact Nat.lt_succ_of_lt (fplt0 b hb)
  have hf3 : ∀ b ∈ fp, FpOk X pins (upd H s.heap.objs.size (.lst [])) b := fun b hb => by
    obtain ⟨f0, fr⟩ := hf b hb
    exact ⟨by rw [upd_ne (Nat.ne_of_lt (fplt0 b hb))]; exact f0, fr⟩
  have hk1 : ∀ b o, Hh.get? b = some o → h₁.get? b = some o := fun b o e => hsb₁.extBut b o (Nat.ne_of_lt (Heap.lt_size e)) (Heap.get?_push_of_some _ e)
  have st1 : tn 0 h₁ := T.keep 0 _ _ st fun b hb o e => hk1 b o (by rw [← hH2]; exact Heap.get?_push_of_some _ e)
  generalize hX : compCx X N scope cl Hh.objs.size fp { s with heap := Hh } (upd H s.heap.objs.size (.lst [])) = X'
  have I4 : Inv X' [] (captSt capt σ) (upd H s.heap.objs.size (.lst [])) { s with heap := h₁, toks := s.toks + ([] : List (Str × Value)).length } := by
    rw [← hX]
    exact comp_inv (capt := capt) I3 S hcl hall (Nat.le_refl _) hf3 fplt hcap hns₁ hk1
  have eP : X'.prog = X.prog := by rw [← hX]; rfl
  have ew : X'.w = X.w := by rw [← hX]; rfl
  have eK : X'.K = X.K := by rw [← hX]; rfl
  have eA : X'.A = X.A := by rw [← hX]; rfl
  have eC : X'.calm = true := by rw [← hX]; exact hc
  have eE : X'.env = compEnvC scope cl Hh.objs.size X.env := by rw [← hX]; rfl
  have eX : X'.xe = fun _ _ => False := by rw [← hX]; rfl
  have ePn : X'.pn = [] := by rw [← hX]; rfl
  have hg' : PG X' tg g := by rw [← hX]; exact hg _ _ _ _ _
  have ht' : PTs X' ifs tt := by rw [← hX]; exact ht _ _ _ _ _
  have he' : PE X' elt te := by rw [← hX]; exact he _ _ _ _ _
  have stat : ∀ {H' : Hp}, (∀ b ∈ fp, H' b = none) → ∀ b ∈ fp, FpOk X' [] H' b := fun {H'} hn b hb => by
    rw [← hX]
    refine ⟨hn b hb, Nat.ne_of_lt (fplt b hb), fun z => ?_, .inl hb, fun x c q => (hf b hb).2.2.2.2.1 x c (hcl x c q), fun p hp => by simp [compCx] at hp⟩
    rcases List.mem_cons.mp (I3.stkSub b z) with e | e
    · exact (hf b hb).2.1 e
    · exact (hf b hb).2.2.1 e
  have back : ∀ {σ' : St} {H' : Hp} {s' : Shared}, Inv X' [] σ' H' s' → ∀ h'', Heap.SameBut Hh.objs.size s'.heap h'' → Inv X pins σ H' { s' with heap := h'' } := fun {σ' H' s'} I' h'' sb => by
    have u := I'.base
    rw [← hX] at u
    have neC : ∀ b o, Hh.get? b = some o → b ≠ Hh.objs.size := fun b o e => Nat.ne_of_lt (Heap.lt_size e)
    have nC : H' Hh.objs.size = none := by have := I'.free; rw [eE] at this; exact this
    refine I3.call' (s' := { s' with heap := h'' }) (ch := fp) (by have := I'.os; rw [← hX] at this; exact this) ?_ ?_ I'.bare (fun b hb => ⟨(hf3 b hb).2.2.2.1, (hf3 b hb).2.1, (hf3 b hb).2.2.2.2.1, (hf3 b hb).2.2.2.2.2⟩)
    · exact ⟨fun b o e n hb hx => sb.extBut b _ (neC b o e) (u.keep b o e n hb hx), fun b o e n hb hx => let ⟨sl, q⟩ := u.slot b o e n hb hx; ⟨sl, sb.extBut b _ (neC b o e) q⟩, u.free,
        fun b o e hx => let ⟨o', q⟩ := u.there b o e hx; ⟨o', sb.extBut b _ (neC b o e) q⟩, u.tups, u.frzs, u.tbls⟩
    · have hk := I'.hok
      rw [eP, ew] at hk
      intro b ob e
      have nb : ∀ c v, H' c = some v → c ≠ Hh.objs.size := fun c v q => ne_of_none q nC
      refine (hk b ob e).stay (fun c v hc q => sb.extBut c v ?_ q) (fun _ q => q) fun _ _ q => q
      rcases hc with z | z
      · rw [z]; exact nb b _ e
      · exact nb c _ z
  have loop : ∀ s₃ : Shared, s₃ = { s with heap := h₁, toks := s.toks + ([] : List (Str × Value)).length } →
      codeAny (model X.prog X.w) X.A (.compLoop (.ListComp elt [⟨tg, iter, ifs, 0⟩] scope pos) 0 (.ref it) (.ref s.heap.objs.size) (compEnvC scope cl Hh.objs.size X.env)) (RR (.ref s.heap.objs.size) Hh.objs.size) s₃ := by
    rintro s₃ rfl
    refine compLoop_gen (fun n s' => ∃ i σ' H', Inv X' [] σ' H' s' ∧ tn i s'.heap ∧ (∀ b ∈ fp, H' b = none) ∧ W i n σ' H') ?_ m0 ⟨0, _, _, I4, st1, fun b hb => (hf3 b hb).1, w0⟩
    rintro n s3 ⟨i, σ3, H3, I5, st3, fr3, w3⟩
    rw [← eP, ← ew, ← eA, ← eE]
    rcases turn i n σ3 H3 w3 with ⟨stop, qn⟩ | ⟨go, Nn, hN, step⟩
    · have d := T.done X' eP ew eK eC i [] s3 σ3 H3 (fun _ _ => False) I5 (stat fr3) st3 stop
      rw [← eP, ← ew] at d
      refine thn d fun r s4 ⟨hr, I6⟩ => ?_
      subst hr
      obtain ⟨mm, hns, _⟩ := I6.loc
      rw [eE] at hns
      have nC : H3 Hh.objs.size = none := by have := I6.free; rw [eE] at this; exact this
      exact hRR _ _ H3 s4 mm hns (back I6 s4.heap (.refl ..)) (I3.fpOk (Nat.le_refl _) nC) qn
    · have d := T.item X' eP ew eK eC i [] s3 σ3 H3 (fun _ _ => False) I5 (stat fr3) st3 go
      rw [← eP, ← ew] at d
      refine thn d fun r s4 ⟨u, hr, h4⟩ => ?_
      subst hr
      refine thn h4 fun _ s5 ⟨x, H5, I6, r5, y5, st5, fr5⟩ => ?_
      have I6' := I6.pinned (stat fr5) (T.obj _ _ st5)
      have dg := hg' _ s5 σ3 H5 x u _ I6' r5 (step x H5 y5)
      rw [eX] at dg
      refine thn dg fun _ s6 ⟨σ6, H6, I7, q6⟩ => ?_
      have dt := ht' _ s6 σ6 H6 _ I7 q6
      rw [eX] at dt
      refine thn dt fun ok s7 ⟨H7, I8, q7⟩ => ?_
      have again : ∀ {σ9 : St} {H9 : Hp} {s9 : Shared}, Inv X' ([] ++ pinsAt fp s5.heap) σ9 H9 s9 → Nn σ9 H9 → ∃ m, m < n ∧ ∃ i σ' H', Inv X' [] σ' H' s9 ∧ tn i s9.heap ∧ (∀ b ∈ fp, H' b = none) ∧ W i m σ' H' := fun {σ9 H9 s9} I9 n9 => by
        obtain ⟨m', hm, w9⟩ := hN σ9 H9 n9
        refine ⟨m', hm, i + 1, σ9, H9, I9.unpinned, T.keep _ _ _ st5 fun b hb o e => (I9.pin (b, o) (List.mem_append_right _ (List.mem_append_right _ (mem_pinsAt hb e)))).1, fun b hb => ?_, w9⟩
        obtain ⟨o, e, d⟩ := T.obj _ _ st5 b hb
        exact (I9.pin (b, o) (List.mem_append_right _ (List.mem_append_right _ (mem_pinsAt hb e)))).2.1
      cases ok with
      | false => exact again I8 q7
      | true =>
        have de := he' _ s7 σ6 H7 _ I8 q7
        rw [eX] at de
        refine thn de fun y s8 ⟨v, H8, I9, r8, q8⟩ => ?_
        obtain ⟨xs, hx, hz, nn⟩ := q8
        have da := mt_append (X := X') _ s8 σ6 H8 (.ref s.heap.objs.size) [v] (.ref s.heap.objs.size) [y] (fun _ H9 => Nn σ6 H9) I9 rfl (.cons r8 .nil) ⟨_, xs, v, rfl, rfl, hx, hz, nn⟩
        rw [eX] at da
        refine thn da fun _ s9 ⟨_, H9, I10, _, n9⟩ => ?_
        exact again I10 n9
  exact codeAny_compStart_list (loop _ rfl) (T.self _ 0 _ _ _ st1 (loop _ rfl))
theorem comp_cells {pins : List (Addr × Obj)} {σ : St} {H : Hp} {s : Shared} (I : Inv X pins σ H s) (hfr : ∀ x ∈ scope.names, x.2 = .free → X.env.kindOf x.1 = some .cell ∨ X.env.kindOf x.1 = some .free) :
    ∃ cl, closureFor scope X.env = pure cl ∧ (∀ x c, cl.lookup x = some c → X.env.cells.lookup x = some c) ∧ ∀ x, (x, NameKind.free) ∈ scope.names → ∃ c, cl.lookup x = some c :=
  closureFor_ex fun x hx hk => I.ok.has x.1 (hfr x hx hk)
/-- a change of the block's own namespace -/
theorem Inv.blockGone {pins : List (Addr × Obj)} {σ : St} {H : Hp} {s : Shared} {C : Addr} {h' : Heap} (I : Inv X pins σ H s) (f : FpOk X pins H C) (sb : Heap.SameBut C s.heap h') : Inv X pins σ H { s with heap := h' } :=
  I.turned (t' := s.toks) (fun b o hb e => sb.extBut b o hb e) f.1 f.2.1 f.2.2.2.1 f.2.2.2.2.1 f.2.2.2.2.2
theorem pe_comp (hi : PI X tg iter wi) (S : CompScope scope) (hfr : ∀ x ∈ scope.names, x.2 = .free → X.env.kindOf x.1 = some .cell ∨ X.env.kindOf x.1 = some .free) (hcap : Capt X scope capt N) (hc : X.calm = true)
    (hg : ∀ cl C fp s H, PG (compCx X N scope cl C fp s H) tg g) (ht : ∀ cl C fp s H, PTs (compCx X N scope cl C fp s H) ifs tt) (he : ∀ cl C fp s H, PE (compCx X N scope cl C fp s H) elt te)
    (hs : ∀ x, foldedSetIterable iter X.env x = pure x := by intro _; rfl) : PE X (.ListComp elt [⟨tg, iter, ifs, 0⟩] scope pos) (tComp capt wi g tt te) := by
  intro pins s σ H Q I h
  obtain ⟨cl, hcl, h1, h2⟩ := comp_cells I hfr
  rw [eval_ListComp]
  refine wpAny_comprehension_free (use := none) rfl hs hcl S.kind S.names (thn (hi pins s σ H _ I h) fun v s1 q1 => thn q1 fun itv s2 q2 => ?_)
  obtain ⟨it, fp, tn, J, H2, e, I2, T, st2, f2, q⟩ := q2
  subst e
  refine comp_block (RR := fun acc C => compPost (model X.prog X.w) X.A X.xe none (EP X pins σ Q) acc C) I2 T st2 f2 S h1 h2 hcap hc hg ht he q ?_
  intro D C H' s' m hn I' f' q'
  exact ⟨m, hn, fun h'' sb => ⟨.ref D, H', I'.blockGone f' sb, rfl, q'⟩⟩
/-- name = [..] -/
theorem ps_setComp {i : Nat} {y : Str} {py spos : Pos} (hN : X.N.Nodup) (hy : X.N[i]? = some y) (hx : Loc X.env.scope y) (hsw : swapsWith (.ListComp elt [⟨tg, iter, ifs, 0⟩] scope pos) (some (.Name y py)) spos.line X.env = pure true)
    (hi : PI X tg iter wi) (S : CompScope scope) (hfr : ∀ x ∈ scope.names, x.2 = .free → X.env.kindOf x.1 = some .cell ∨ X.env.kindOf x.1 = some .free) (hcap : Capt X scope capt N) (hc : X.calm = true)
    (hg : ∀ cl C fp s H, PG (compCx X N scope cl C fp s H) tg g) (ht : ∀ cl C fp s H, PTs (compCx X N scope cl C fp s H) ifs tt) (he : ∀ cl C fp s H, PE (compCx X N scope cl C fp s H) elt te)
    (hs : ∀ x, foldedSetIterable iter X.env x = pure x := by intro _; rfl) (hf : X.fn y = true ∨ X.env.scope.names.lookup y = some .local := by first | exact .inl rfl | exact .inr rfl | assumption) :
    PS X (.Assign [.Name y py] (.ListComp elt [⟨tg, iter, ifs, 0⟩] scope pos) spos) (tAsg (tComp capt wi g tt te) (gName i)) := by
  intro pins s σ H D I h
  obtain ⟨cl, hcl, h1, h2⟩ := comp_cells I hfr
  rw [exec_Assign_Name_used _ _ _ _ hsw]
  refine wpAny_bind (wpAny_standAt (wpAny_bind ?_))
  show wpAny _ X.A (do let _ ← comprehension (.ListComp elt [⟨tg, iter, ifs, 0⟩] scope pos) scope X.env _ (newList []) false (eval iter X.env) (some (assign (.Name y py) X.env))) _ _ s
  refine wpAny_bind (wpAny_mono (wpAny_comprehension_free (use := some (assign (.Name y py) X.env)) (Q := fun _ s' => SP X pins D .next s') rfl hs hcl S.kind S.names
    (thn (hi pins s σ H _ I h) fun v s1 q1 => thn q1 fun itv s2 q2 => ?_)) (fun _ s' hq => wpAny_pure (wpAny_pure hq)) fun _ _ e => e)
  obtain ⟨it, fp, tn, J, H2, e, I2, T, st2, f2, q⟩ := q2
  subst e
  refine comp_block (Q := fun x H1 => gName i x σ H1 D.nx) (RR := fun acc C => compPost (model X.prog X.w) X.A X.xe (some (assign (.Name y py) X.env)) (fun _ s' => SP X pins D .next s') acc C) I2 T st2 f2 S h1 h2 hcap hc hg ht he q ?_
  intro D' C H' s' m hn I' f' q'
  show wpAny _ X.A (assign (.Name y py) X.env (.ref D')) _ _ _
  refine wpAny_assign_Name (store_ok2 I' hN hy hx (v := .ref D') rfl (fun s'' I'' ⟨a, sb, ha⟩ => ?_) hf)
  have neC : C ≠ a := by
    rcases ha with e | e
    · rw [e]; exact f'.2.1
    · exact Ne.symm (f'.2.2.2.2.1 _ _ e)
  obtain ⟨o, es, ep, ho, r⟩ := hn
  exact ⟨m, ⟨o, es, ep, sb.extBut C o neC ho, r⟩, fun h'' sb' => ⟨_, H', I''.blockGone f' sb', q'⟩⟩
end
end L2
namespace M
open PySem PySem.Spec L2
/-! ### data, store, results -/
/-- data: texts are their codes, tuples are trees, a list or dict is a place of the store -/
inductive D where
  | non | bl (b : Bool) | int (i : Int) | str (cs : List Nat) | tup (xs : List D) | loc (n : Nat)
instance : Inhabited D := ⟨.non⟩
/-- a lambda's text: its qualified name, its parts, the names that it takes from around -/
structure LamS where
  qual : Str
  params : Arguments
  body : Expr
  scope : Scope
  caps : List Str
inductive MO where
  | lst (xs : List D) | frz (xs : List D) | dic (kvs : List (List Key × D)) | dkc (kvs : List (Key × D))
  /-- a dict with plain keys that is only read -/
  | dkf (kvs : List (Key × D))
  /-- a dict with tuples as keys that is only read -/
  | dtf (kvs : List (List Key × D))
  /-- an instance of a class of the module -/
  | ins (c : Str) (fs : List (Str × D))
  /-- the table of the code of a def of the module that makes lambdas -/
  | tab (x : Str)
  /-- a lambda, the j-th of the text, and what it took from around -/
  | clo (j : Nat) (l : LamS) (ds : List D)
  /-- an exception that was caught: its class's name and its field -/
  | exc (c : String) (d : D)
  /-- a place of which nothing is told -/
  | hid
abbrev Stor := List MO
abbrev MEnv := List (Option D)
/-- an exception: its class's name and its field -/
structure Xc where
  cls : String
  fld : D
inductive R (α : Type) where
  | ok (a : α) (st : Stor) | err (x : Xc) (st : Stor) | bad
/-- so that the simplifier rewrites by it, and leaves nothing for the kernel to unfold -/
theorem by_rfl {α : Sort u} {a b : α} (h : a = b) : a = b := h
def R.bind {α β : Type} (r : R α) (f : α → Stor → R β) : R β := match r with
  | .ok a st => f a st
  | .err x st => .err x st
  | .bad => .bad
@[simp] theorem R.bind_ok {α β : Type} (a : α) (st : Stor) (f : α → Stor → R β) : (R.ok a st).bind f = f a st := by_rfl rfl
abbrev strOf (cs : List Nat) : Str := ⟨cs.toArray⟩
/-! ### how the abstract heap bears them -/
/-- a made tuple may stand where a tuple is asked -/
instance sqTOf {K : PySem.W.Frag} {H : Hp} {a : Addr} {xs : List V} : CoeTail (H a = some (.tup xs)) (SqT K H a xs) := ⟨SqT.of⟩
/-- items that make no key of a dict -/
def noKey : List D → Bool
  | [] => false
  | .int _ :: r => noKey r
  | .str _ :: r => noKey r
  | _ :: _ => true
/-- a tuple: a made one, or, where it is no key, one of the module -/
def TupA (K : PySem.W.Frag) (H : Hp) (a : Addr) (xs : List V) (ds : List D) : Prop :=
  H a = some (.tup xs) ∨ (noKey ds = true ∧ ∃ (o : Obj) (its : Array Value) (n : Nat), K.lookup a = some o ∧ o.cls = .type "tuple" ∧ o.data = .seq its n ∧ its.size ≤ sizeLine ∧ Vals xs its.toList)
theorem TupA.sqT {K : PySem.W.Frag} {H : Hp} {a : Addr} {xs : List V} {ds : List D} (h : TupA K H a xs ds) : SqT K H a xs := by
  rcases h with h | ⟨_, h⟩
  · exact SqT.of h
  · exact .inr h
mutual
def RepV (K : PySem.W.Frag) (μ : List Addr) (H : Hp) : D → V → Prop
  | .non, v => v = .non
  | .bl b, v => v = .bl b
  | .int i, v => v = .int i
  | .str cs, v => v = .str (strOf cs)
  | .tup ds, v => ∃ a xs, v = .ref a ∧ TupA K H a xs ds ∧ RepVs K μ H ds xs
  | .loc n, v => ∃ a, μ[n]? = some a ∧ v = .ref a
def RepVs (K : PySem.W.Frag) (μ : List Addr) (H : Hp) : List D → List V → Prop
  | [], vs => vs = []
  | d :: ds, vs => ∃ v r, vs = v :: r ∧ RepV K μ H d v ∧ RepVs K μ H ds r
end
/-- tuples and known things stay -/
structure Ext (H H' : Hp) : Prop where
  tup : ∀ b xs, H b = some (.tup xs) → H' b = some (.tup xs)
  frz : ∀ b o u, H b = some (.frz o u) → H' b = some (.frz o u)
theorem Ext.refl (H : Hp) : Ext H H := ⟨fun _ _ h => h, fun _ _ _ h => h⟩
theorem Ext.trans {H H1 H2 : Hp} (a : Ext H H1) (b : Ext H1 H2) : Ext H H2 := ⟨fun c xs h => b.tup c xs (a.tup c xs h), fun c o u h => b.frz c o u (a.frz c o u h)⟩
theorem Ext.sqT {K : PySem.W.Frag} {H H' : Hp} {a : Addr} {xs : List V} (e : Ext H H') (h : SqT K H a xs) : SqT K H' a xs := by
  rcases h with (h | ⟨o, h⟩) | h
  · exact .inl (.inl (e.tup _ _ h))
  · exact .inl (.inr ⟨o, e.frz _ _ _ h⟩)
  · exact .inr h
theorem Ext.tupA {K : PySem.W.Frag} {H H' : Hp} {a : Addr} {xs : List V} {ds : List D} (e : Ext H H') (h : TupA K H a xs ds) : TupA K H' a xs ds := by
  rcases h with h | h
  · exact .inl (e.tup _ _ h)
  · exact .inr h
theorem Ext.new {H : Hp} {p : Addr} {o : HO} (h : H p = none) : Ext H (upd H p o) :=
  ⟨fun b xs q => by rw [upd_ne (ne_of_none q h)]; exact q, fun b o' u q => by rw [upd_ne (ne_of_none q h)]; exact q⟩
structure Grow (μ : List Addr) (H : Hp) (μ' : List Addr) (H' : Hp) : Prop where
  pre : ∃ ν, μ' = μ ++ ν
  ext : Ext H H'
theorem Grow.refl (μ : List Addr) (H : Hp) : Grow μ H μ H := ⟨⟨[], by simp⟩, .refl H⟩
theorem Grow.trans {μ μ1 μ2 : List Addr} {H H1 H2 : Hp} (a : Grow μ H μ1 H1) (b : Grow μ1 H1 μ2 H2) : Grow μ H μ2 H2 := by
  obtain ⟨ν1, rfl⟩ := a.pre
  obtain ⟨ν2, rfl⟩ := b.pre
  exact ⟨⟨ν1 ++ ν2, by simp⟩, a.ext.trans b.ext⟩
theorem Grow.get {μ μ' : List Addr} {H H' : Hp} (g : Grow μ H μ' H') {n : Nat} {a : Addr} (h : μ[n]? = some a) : μ'[n]? = some a := by
  obtain ⟨ν, rfl⟩ := g.pre
  rw [List.getElem?_append_left (List.getElem?_eq_some_iff.mp h).1]; exact h
mutual
theorem RepV.mono {K : PySem.W.Frag} {μ μ' : List Addr} {H H' : Hp} (g : Grow μ H μ' H') : ∀ (d : D) {v : V}, RepV K μ H d v → RepV K μ' H' d v
  | .non, _, h => by simpa [RepV] using h
  | .bl _, _, h => by simpa [RepV] using h
  | .int _, _, h => by simpa [RepV] using h
  | .str _, _, h => by simpa [RepV] using h
  | .tup ds, _, h => by
    rw [RepV] at h ⊢
    obtain ⟨a, xs, rfl, h1, h2⟩ := h
    exact ⟨a, xs, rfl, g.ext.tupA h1, RepVs.mono g ds h2⟩
  | .loc n, _, h => by
    rw [RepV] at h ⊢
    obtain ⟨a, h1, rfl⟩ := h
    exact ⟨a, g.get h1, rfl⟩
theorem RepVs.mono {K : PySem.W.Frag} {μ μ' : List Addr} {H H' : Hp} (g : Grow μ H μ' H') : ∀ (ds : List D) {vs : List V}, RepVs K μ H ds vs → RepVs K μ' H' ds vs
  | [], _, h => by simpa [RepVs] using h
  | d :: ds, _, h => by
    rw [RepVs] at h ⊢
    obtain ⟨v, r, rfl, h1, h2⟩ := h
    exact ⟨v, r, rfl, RepV.mono g d h1, RepVs.mono g ds h2⟩
end
section
variable {K : PySem.W.Frag} {μ : List Addr} {H : Hp}
theorem RepVs.length : ∀ {ds : List D} {vs : List V}, RepVs K μ H ds vs → ds.length = vs.length
  | [], _, h => by rw [RepVs] at h; subst h; rfl
  | d :: ds, _, h => by
    rw [RepVs] at h
    obtain ⟨v, r, rfl, _, h2⟩ := h
    rw [List.length_cons, List.length_cons, RepVs.length h2]
theorem RepVs.get : ∀ {ds : List D} {vs : List V} {i : Nat} {d : D}, RepVs K μ H ds vs → ds[i]? = some d → ∃ v, vs[i]? = some v ∧ RepV K μ H d v
  | [], _, _, _, _, e => by simp at e
  | d :: ds, _, 0, _, h, e => by
    rw [RepVs] at h
    obtain ⟨v, r, rfl, h1, _⟩ := h
    simp at e; subst e
    exact ⟨v, rfl, h1⟩
  | d :: ds, _, i + 1, x, h, e => by
    rw [RepVs] at h
    obtain ⟨v, r, rfl, _, h2⟩ := h
    obtain ⟨u, h3, h4⟩ := RepVs.get (i := i) h2 (by simpa using e)
    exact ⟨u, by simpa using h3, h4⟩
theorem RepVs.append : ∀ {ds es : List D} {vs ws : List V}, RepVs K μ H ds vs → RepVs K μ H es ws → RepVs K μ H (ds ++ es) (vs ++ ws)
  | [], _, _, _, h, k => by rw [RepVs] at h; subst h; exact k
  | d :: ds, es, _, ws, h, k => by
    rw [RepVs] at h
    obtain ⟨v, r, rfl, h1, h2⟩ := h
    show RepVs K μ H (d :: (ds ++ es)) (v :: (r ++ ws))
    rw [RepVs]
    exact ⟨v, r ++ ws, rfl, h1, RepVs.append h2 k⟩
theorem RepVs.nil : RepVs K μ H [] [] := by rw [RepVs]
theorem RepVs.cons {d : D} {ds : List D} {v : V} {vs : List V} (h : RepV K μ H d v) (k : RepVs K μ H ds vs) : RepVs K μ H (d :: ds) (v :: vs) := by rw [RepVs]; exact ⟨v, vs, rfl, h, k⟩
theorem RepVs.take : ∀ {ds : List D} {vs : List V} (n : Nat), RepVs K μ H ds vs → RepVs K μ H (ds.take n) (vs.take n)
  | _, _, 0, _ => by simp [RepVs]
  | [], _, n + 1, h => by rw [RepVs] at h; subst h; simp [RepVs]
  | d :: ds, _, n + 1, h => by
    rw [RepVs] at h
    obtain ⟨v, r, rfl, h1, h2⟩ := h
    exact RepVs.cons h1 (RepVs.take n h2)
theorem RepVs.drop : ∀ {ds : List D} {vs : List V} (n : Nat), RepVs K μ H ds vs → RepVs K μ H (ds.drop n) (vs.drop n)
  | _, _, 0, h => h
  | [], _, n + 1, h => by rw [RepVs] at h; subst h; simp [RepVs]
  | d :: ds, _, n + 1, h => by
    rw [RepVs] at h
    obtain ⟨v, r, rfl, h1, h2⟩ := h
    exact RepVs.drop n h2
theorem RepVs.set {d : D} {v : V} (hd : RepV K μ H d v) : ∀ {ds : List D} {vs : List V} (i : Nat), RepVs K μ H ds vs → RepVs K μ H (ds.set i d) (vs.set i v)
  | [], _, _, h => by rw [RepVs] at h; subst h; simp [RepVs]
  | x :: ds, _, 0, h => by
    rw [RepVs] at h
    obtain ⟨w, r, rfl, h1, h2⟩ := h
    exact RepVs.cons hd h2
  | x :: ds, _, i + 1, h => by
    rw [RepVs] at h
    obtain ⟨w, r, rfl, h1, h2⟩ := h
    exact RepVs.cons h1 (RepVs.set hd i h2)
theorem RepV.int_iff {i : Int} {v : V} : RepV K μ H (.int i) v ↔ v = .int i := by rw [RepV]
theorem RepV.bl_iff {b : Bool} {v : V} : RepV K μ H (.bl b) v ↔ v = .bl b := by rw [RepV]
theorem RepV.non_iff {v : V} : RepV K μ H .non v ↔ v = .non := by rw [RepV]
theorem RepV.str_iff {cs : List Nat} {v : V} : RepV K μ H (.str cs) v ↔ v = .str (strOf cs) := by rw [RepV]
theorem RepV.tup_iff {ds : List D} {v : V} : RepV K μ H (.tup ds) v ↔ ∃ a xs, v = .ref a ∧ TupA K H a xs ds ∧ RepVs K μ H ds xs := by rw [RepV]
theorem RepV.loc_iff {n : Nat} {v : V} : RepV K μ H (.loc n) v ↔ ∃ a, μ[n]? = some a ∧ v = .ref a := by rw [RepV]
end
/-! ### the store -/
/-- pairs of a dict -/
def RepKV {κ : Type} (K : PySem.W.Frag) (μ : List Addr) (H : Hp) : List (κ × D) → List (κ × V) → Prop
  | [], vs => vs = []
  | (k, d) :: ds, vs => ∃ v r, vs = (k, v) :: r ∧ RepV K μ H d v ∧ RepKV K μ H ds r
theorem RepKV.mono {κ : Type} {K : PySem.W.Frag} {μ μ' : List Addr} {H H' : Hp} (g : Grow μ H μ' H') : ∀ {ds : List (κ × D)} {vs : List (κ × V)}, RepKV K μ H ds vs → RepKV K μ' H' ds vs
  | [], _, h => h
  | (k, d) :: ds, _, ⟨v, r, e, h1, h2⟩ => ⟨v, r, e, h1.mono g d, RepKV.mono g h2⟩
/-- a list that is only read: known to the object, or the module's own -/
def FrzL (K : PySem.W.Frag) (H : Hp) (a : Addr) (xs : List V) : Prop :=
  (∃ o, H a = some (.frz o (.lst xs))) ∨ ∃ (o : Obj) (its : Array Value) (n : Nat), K.lookup a = some o ∧ o.cls = .type "list" ∧ o.dict = none ∧ o.data = .seq its n ∧ its.size ≤ sizeLine ∧ Vals xs its.toList
theorem FrzL.sqL {K : PySem.W.Frag} {H : Hp} {a : Addr} {xs : List V} (h : FrzL K H a xs) : SqL K H a xs := by
  rcases h with h | h
  · exact .inl (.inr h)
  · exact .inr h
theorem FrzL.ext {K : PySem.W.Frag} {H H' : Hp} {a : Addr} {xs : List V} (e : Ext H H') (h : FrzL K H a xs) : FrzL K H' a xs := by
  rcases h with ⟨o, h⟩ | h
  · exact .inl ⟨o, e.frz _ _ _ h⟩
  · exact .inr h
def MO.mut : MO → Bool
  | .frz _ => false
  | .clo _ _ _ => false
  | .hid => false
  | .dkf _ => false
  | .dtf _ => false
  | .exc _ _ => false
  | _ => true
/-- a code object that is known -/
def CodeF (H : Hp) (c : Addr) (q : Str) : Prop := ∃ oc vs t, H c = some (.frz oc (.own 0)) ∧ oc.data = .fields vs ∧ vs[1]? = some (.str q t)
/-- cells that are known, and what they hold -/
def CellsF (H : Hp) : List (Str × Addr) → List V → Prop
  | [], vs => vs = []
  | (_, c) :: cl, vs => ∃ v r o u, vs = v :: r ∧ H c = some (.frz o (.own 0)) ∧ o.data = .cell (some u) ∧ RelV v u ∧ CellsF H cl r
theorem CodeF.ext {H H' : Hp} {c : Addr} {q : Str} (e : Ext H H') (h : CodeF H c q) : CodeF H' c q :=
  let ⟨oc, vs, t, h1, h2⟩ := h; ⟨oc, vs, t, e.frz _ _ _ h1, h2⟩
theorem CellsF.ext {H H' : Hp} (e : Ext H H') : ∀ {cl : List (Str × Addr)} {vs : List V}, CellsF H cl vs → CellsF H' cl vs
  | [], _, h => h
  | (_, c) :: cl, _, ⟨v, r, o, u, h1, h2, h3, h4, h5⟩ => ⟨v, r, o, u, h1, e.frz _ _ _ h2, h3, h4, CellsF.ext e h5⟩
def lamQual (x : Str) : Str := x ++ ".<locals>." ++ "<lambda>"
def RepO (K : PySem.W.Frag) (μ : List Addr) (H : Hp) (a : Addr) : MO → Prop
  | .lst ds => ∃ xs, H a = some (.lst xs) ∧ RepVs K μ H ds xs
  | .frz ds => ∃ xs, FrzL K H a xs ∧ RepVs K μ H ds xs
  | .dic kvs => ∃ ws, H a = some (.dT ws) ∧ RepKV K μ H kvs ws
  | .dkc kvs => ∃ ws, H a = some (.dK ws) ∧ RepKV K μ H kvs ws
  | .dkf kvs => ∃ ws o, H a = some (.frz o (.dK ws)) ∧ RepKV K μ H kvs ws
  | .dtf kvs => ∃ ws o, H a = some (.frz o (.dT ws)) ∧ RepKV K μ H kvs ws
  | .ins c fs => ∃ C dx ws, PySem.W.nsIn K mainGlobals c = some (some (.ref C)) ∧ H a = some (.ins C dx ws) ∧ RepKV K μ H fs ws
  | .tab x => (∃ (fa : Addr) (o : Obj) (fd : FuncData) (c : Addr), PySem.W.nsIn K mainGlobals x = some (some (.ref fa)) ∧ K.lookup fa = some o ∧ o.data = .func fd ∧ fd.code = .ref c ∧ PySem.W.codeHdIn K c a = true) ∧
      ∃ ps : Array Value, H a = some (.tbl ps) ∧ TriplesOk ps.toList ∧ ∀ pos cv, codeAmong pos ps.toList = some cv → ∃ c', cv = .ref c' ∧ CodeF H c' (lamQual x)
  | .clo _ l ds => ∃ (cl : List (Str × Addr)) (pm : Value) (c' : Addr) (ctv : Value) (vs : List V), H a = some (.frz (PySem.W.kla_obj "<lambda>" l.qual l.params l.body l.scope cl pm c' ctv) (.own 0)) ∧ CodeF H c' l.qual ∧
      cl.map (·.1) = l.caps ∧ (cl.map (·.2)).Nodup ∧ CellsF H cl vs ∧ RepVs K μ H ds vs
  | .exc c d => ∃ oe C dx od v fs, H a = some (.frz oe (.own 0)) ∧ oe.cls = .ref C ∧ oe.dict = some dx ∧ oe.data = .fields fs ∧ H dx = some (.frz od (.xd [("at", v)])) ∧ PySem.W.nsIn K mainGlobals (c : Str) = some (some (.ref C)) ∧ RepV K μ H d v
  | .hid => True
structure RepS (K : PySem.W.Frag) (μ : List Addr) (H : Hp) (st : Stor) : Prop where
  len : μ.length = st.length
  at_ : ∀ (n : Nat) (o : MO), st[n]? = some o → ∃ a, μ[n]? = some a ∧ RepO K μ H a o
  uniq : ∀ (i j : Nat) (a : Addr) (oi oj : MO), st[i]? = some oi → st[j]? = some oj → oi.mut = true → oj.mut = true → μ[i]? = some a → μ[j]? = some a → i = j
structure RepE (K : PySem.W.Frag) (μ : List Addr) (H : Hp) (env : MEnv) (σ : St) : Prop where
  len : env.length = σ.length
  at_ : ∀ (i : Nat) (d : D), env[i]? = some (some d) → ∃ v, σ[i]? = some (some v) ∧ RepV K μ H d v
theorem RepE.mono {K : PySem.W.Frag} {μ μ' : List Addr} {H H' : Hp} {env : MEnv} {σ : St} (g : Grow μ H μ' H') (h : RepE K μ H env σ) : RepE K μ' H' env σ :=
  ⟨h.len, fun i d e => let ⟨v, h1, h2⟩ := h.at_ i d e; ⟨v, h1, h2.mono g d⟩⟩
theorem RepE.set {K : PySem.W.Frag} {μ : List Addr} {H : Hp} {env : MEnv} {σ : St} {i : Nat} {d : D} {v : V} (h : RepE K μ H env σ) (r : RepV K μ H d v) : RepE K μ H (env.set i (some d)) (σ.set i (some v)) := by
  refine ⟨by simp [h.len], fun j e hj => ?_⟩
  by_cases hij : i = j
  · subst hij
    have hl : i < env.length := by
      have := (List.getElem?_eq_some_iff.mp hj).1; simpa using this
    rw [List.getElem?_set_self hl] at hj
    cases hj
    exact ⟨v, by rw [List.getElem?_set_self (by rw [← h.len]; exact hl)], r⟩
  · rw [List.getElem?_set_ne hij] at hj
    rw [List.getElem?_set_ne hij]
    exact h.at_ j e hj
/-- a new object of the store -/
theorem RepO.some_of {K : PySem.W.Frag} {μ : List Addr} {H : Hp} {a : Addr} {o : MO} (h : RepO K μ H a o) (hm : o.mut = true) : ∃ u, H a = some u := by
  cases o with
  | lst ds => obtain ⟨xs, h1, _⟩ := h; exact ⟨_, h1⟩
  | frz ds => cases hm
  | dic kvs => obtain ⟨xs, h1, _⟩ := h; exact ⟨_, h1⟩
  | dkc kvs => obtain ⟨xs, h1, _⟩ := h; exact ⟨_, h1⟩
  | dkf kvs => cases hm
  | dtf kvs => cases hm
  | ins c fs => obtain ⟨_, _, _, _, h1, _⟩ := h; exact ⟨_, h1⟩
  | tab x => obtain ⟨_, _, h1, _⟩ := h; exact ⟨_, h1⟩
  | clo j l ds => cases hm
  | exc c d => cases hm
  | hid => cases hm
theorem RepO.keep {K : PySem.W.Frag} {μ μ' : List Addr} {H H' : Hp} {a : Addr} {o : MO} (g : Grow μ H μ' H') (hk : o.mut = true → ∀ u, H a = some u → H' a = some u) (h : RepO K μ H a o) : RepO K μ' H' a o := by
  cases o with
  | lst ds => obtain ⟨xs, h1, h2⟩ := h; exact ⟨xs, hk rfl _ h1, h2.mono g ds⟩
  | frz ds => obtain ⟨xs, h1, h2⟩ := h; exact ⟨xs, h1.ext g.ext, h2.mono g ds⟩
  | dic kvs => obtain ⟨ws, h1, h2⟩ := h; exact ⟨ws, hk rfl _ h1, h2.mono g⟩
  | dkc kvs => obtain ⟨ws, h1, h2⟩ := h; exact ⟨ws, hk rfl _ h1, h2.mono g⟩
  | dkf kvs => obtain ⟨ws, o, h1, h2⟩ := h; exact ⟨ws, o, g.ext.frz _ _ _ h1, h2.mono g⟩
  | dtf kvs => obtain ⟨ws, o, h1, h2⟩ := h; exact ⟨ws, o, g.ext.frz _ _ _ h1, h2.mono g⟩
  | exc c d => obtain ⟨oe, C, dx, od, v, fs, h1, h2, h3, h4, h5, h6, h7⟩ := h; exact ⟨oe, C, dx, od, v, fs, g.ext.frz _ _ _ h1, h2, h3, h4, g.ext.frz _ _ _ h5, h6, h7.mono g d⟩
  | ins c fs => obtain ⟨C, dx, ws, h0, h1, h2⟩ := h; exact ⟨C, dx, ws, h0, hk rfl _ h1, h2.mono g⟩
  | tab x => obtain ⟨h0, ps, h1, h2, h3⟩ := h; exact ⟨h0, ps, hk rfl _ h1, h2, fun pos cv e => let ⟨c', e1, e2⟩ := h3 pos cv e; ⟨c', e1, e2.ext g.ext⟩⟩
  | clo j l ds => obtain ⟨cl, pm, c', ctv, vs, h1, h2, h3, h4, h5, h6⟩ := h; exact ⟨cl, pm, c', ctv, vs, g.ext.frz _ _ _ h1, h2.ext g.ext, h3, h4, h5.ext g.ext, h6.mono g ds⟩
  | hid => trivial
section
variable {K : PySem.W.Frag} {μ : List Addr} {H : Hp} {st : Stor} {p a : Addr} {xs : List V} {n : Nat} {mo mo' : MO} {o o' : HO}
/-- an object that the store does not name is laid (a tuple) -/
theorem RepS.lay (h : RepS K μ H st) (hp : H p = none) : RepS K μ (upd H p o) st :=
  ⟨h.len, fun n mo e => let ⟨a, h1, h2⟩ := h.at_ n mo e; ⟨a, h1, h2.keep ⟨⟨[], by simp⟩, .new hp⟩ fun _ u q => by rw [upd_ne (ne_of_none q hp)]; exact q⟩, h.uniq⟩
theorem Grow.lay (hp : H p = none) : Grow μ H μ (upd H p o) := ⟨⟨[], by simp⟩, .new hp⟩
theorem Grow.new (hp : H p = none) : Grow μ H (μ ++ [p]) (upd H p o) := ⟨⟨[p], rfl⟩, .new hp⟩
/-- a new object of the store -/
theorem RepS.new (h : RepS K μ H st) (hp : H p = none) (hn : RepO K (μ ++ [p]) (upd H p o) p mo) : RepS K (μ ++ [p]) (upd H p o) (st ++ [mo]) := by
  refine ⟨by simp [h.len], fun n mo1 e => ?_, fun i j b oi oj ei ej mi mj hi hj => ?_⟩
  · by_cases hl : n < st.length
    · rw [List.getElem?_append_left hl] at e
      obtain ⟨b, h1, h2⟩ := h.at_ n mo1 e
      exact ⟨b, by rw [List.getElem?_append_left (by rw [h.len]; exact hl)]; exact h1, h2.keep (Grow.new hp) fun _ u q => by rw [upd_ne (ne_of_none q hp)]; exact q⟩
    · have hl2 := (List.getElem?_eq_some_iff.mp e).1
      rw [List.length_append, List.length_singleton] at hl2
      have e2 : n = st.length := by omega
      subst e2
      rw [List.getElem?_append_right (Nat.le_refl _)] at e
      simp at e; subst e
      exact ⟨p, by rw [← h.len]; simp, hn⟩
  · have key : ∀ (k : Nat) (ok : MO), (st ++ [mo])[k]? = some ok → ok.mut = true → (μ ++ [p])[k]? = some b → (k < st.length ∧ st[k]? = some ok ∧ μ[k]? = some b ∧ b ≠ p) ∨ (k = st.length ∧ b = p) := fun k ok ek mk hk => by
      by_cases hl : k < st.length
      · rw [List.getElem?_append_left hl] at ek
        rw [List.getElem?_append_left (by rw [h.len]; exact hl)] at hk
        obtain ⟨c, h1, h2⟩ := h.at_ k ok ek
        rw [hk] at h1; cases h1
        obtain ⟨u, hu⟩ := h2.some_of mk
        exact .inl ⟨hl, ek, hk, ne_of_none hu hp⟩
      · have hl2 := (List.getElem?_eq_some_iff.mp ek).1
        rw [List.length_append, List.length_singleton] at hl2
        have e2 : k = st.length := by omega
        subst e2
        rw [← h.len] at hk
        simp at hk
        exact .inr ⟨rfl, hk.symm⟩
    rcases key i oi ei mi hi with ⟨_, a1, a2, a3⟩ | ⟨a1, a2⟩
    · rcases key j oj ej mj hj with ⟨_, b1, b2, b3⟩ | ⟨b1, b2⟩
      · exact h.uniq i j b oi oj a1 b1 mi mj a2 b2
      · exact absurd b2 a3
    · rcases key j oj ej mj hj with ⟨_, b1, b2, b3⟩ | ⟨b1, b2⟩
      · exact absurd a2 b3
      · rw [a1, b1]
theorem Ext.mut (h : H a = some o) (ht : ∀ ys, o ≠ .tup ys) (hf : ∀ w u, o ≠ .frz w u) : Ext H (upd H a o') :=
  ⟨fun b ys q => by rw [upd_ne (fun e => by subst e; rw [h] at q; exact ht _ (Option.some.inj q))]; exact q,
   fun b w u q => by rw [upd_ne (fun e => by subst e; rw [h] at q; exact hf _ _ (Option.some.inj q))]; exact q⟩
/-- an object of the store is written -/
theorem RepS.put (h : RepS K μ H st) (hn : st[n]? = some mo) (hm : mo.mut = true) (hm' : mo'.mut = true) (ha : μ[n]? = some a) (g : Ext H (upd H a o')) (new : RepO K μ (upd H a o') a mo') : RepS K μ (upd H a o') (st.set n mo') := by
  have hl := (List.getElem?_eq_some_iff.mp hn).1
  refine ⟨by simp [h.len], fun k ok e => ?_, fun i j b oi oj ei ej mi mj hi hj => ?_⟩
  · by_cases hk : n = k
    · subst hk
      rw [List.getElem?_set_self hl] at e; cases e
      exact ⟨a, ha, new⟩
    · rw [List.getElem?_set_ne hk] at e
      obtain ⟨b, h1, h2⟩ := h.at_ k ok e
      refine ⟨b, h1, h2.keep ⟨⟨[], by simp⟩, g⟩ fun hmk u q => ?_⟩
      rw [upd_ne (fun e2 => ?_)]
      · exact q
      · subst e2; exact hk (h.uniq n k b mo ok hn e hm hmk ha h1)
  · have key : ∀ (k : Nat) (ok : MO), (st.set n mo')[k]? = some ok → ok.mut = true → ∃ ok', st[k]? = some ok' ∧ ok'.mut = true := fun k ok ek mk => by
      by_cases hk : n = k
      · subst hk; exact ⟨mo, hn, hm⟩
      · rw [List.getElem?_set_ne hk] at ek; exact ⟨ok, ek, mk⟩
    obtain ⟨oi', ei', mi'⟩ := key i oi ei mi
    obtain ⟨oj', ej', mj'⟩ := key j oj ej mj
    exact h.uniq i j b oi' oj' ei' ej' mi' mj' hi hj
end
end M
namespace M
open PySem PySem.Spec L2
/-! ### what is wanted behind a denotation -/
/-- how an exception lies there -/
def ExcAt (X : Cx) (μ : List Addr) (H : Hp) (x : Xc) (e : Value) (s : Shared) : Prop :=
  ∃ a C dx lo fl v, e = .ref a ∧ X.s₀.heap.objs.size ≤ lo ∧ Xo lo a C dx fl H s.heap ∧ H dx = some (.xd [("at", v)]) ∧ PySem.W.nsIn X.K mainGlobals (x.cls : Str) = some (some (.ref C)) ∧ RepV X.K μ H x.fld v
def ErrOK (X : Cx) (μ : List Addr) (H : Hp) (x : Xc) (st : Stor) : Prop :=
  ∀ (pins : List (Addr × Obj)) (σ' : L2.St) (H' : Hp) (μ' : List Addr) (e : Value) (s' : Shared), Grow μ H μ' H' → RepS X.K μ' H' st → Inv X pins σ' H' s' → ExcAt X μ' H' x e s' → X.xe e s'
theorem ErrOK.mono {X : Cx} {μ μ1 : List Addr} {H H1 : Hp} {x : Xc} {st : Stor} (g : Grow μ H μ1 H1) (h : ErrOK X μ H x st) : ErrOK X μ1 H1 x st :=
  fun pins σ' H' μ' e s' g' => h pins σ' H' μ' e s' (g.trans g')
abbrev Rel (α β : Type) := List Addr → Hp → α → β → Prop
def Post {α β : Type} (X : Cx) (μ : List Addr) (H : Hp) (rel : Rel α β) (Q : β → Hp → Prop) (r : R α) : Prop := match r with
  | .ok a st => ∀ (b : β) (H' : Hp) (μ' : List Addr), Grow μ H μ' H' → RepS X.K μ' H' st → rel μ' H' a b → Q b H'
  | .err x st => ErrOK X μ H x st
  | .bad => False
section
variable {α β γ δ : Type} {X : Cx} {μ μ1 : List Addr} {H H1 : Hp} {rel : Rel α β} {rel2 : Rel γ δ} {Q Q' : β → Hp → Prop} {r : R α}
theorem Post.mono (g : Grow μ H μ1 H1) (h : Post X μ H rel Q r) : Post X μ1 H1 rel Q r := by
  cases r with
  | ok a st => exact fun b H' μ' g' => h b H' μ' (g.trans g')
  | err x st => exact ErrOK.mono g h
  | bad => exact h
theorem Post.imp (h : Post X μ H rel Q r) (k : ∀ b H', Q b H' → Q' b H') : Post X μ H rel Q' r := by
  cases r with
  | ok a st => exact fun b H' μ' g' h1 h2 => k b H' (h b H' μ' g' h1 h2)
  | err x st => exact h
  | bad => exact h
/-- the first of two: what it hands on -/
def Then (X : Cx) (μ : List Addr) (H : Hp) (rel : Rel α β) (rel2 : Rel γ δ) (Q2 : δ → Hp → Prop) (f : α → Stor → R γ) : β → Hp → Prop :=
  fun b H1 => ∃ μ1 st1 a, Grow μ H μ1 H1 ∧ RepS X.K μ1 H1 st1 ∧ rel μ1 H1 a b ∧ Post X μ1 H1 rel2 Q2 (f a st1)
theorem Post.bind {Q2 : δ → Hp → Prop} {f : α → Stor → R γ} (h : Post X μ H rel2 Q2 (r.bind f)) : Post X μ H rel (Then X μ H rel rel2 Q2 f) r := by
  cases r with
  | ok a st => exact fun b H' μ' g h1 h2 => ⟨μ', st, a, g, h1, h2, Post.mono g h⟩
  | err x st => exact h
  | bad => exact h
/-- a result that changes nothing -/
theorem Post.ret {a : α} {b : β} {st : Stor} (h : Post X μ H rel Q (.ok a st)) (hs : RepS X.K μ H st) (hr : rel μ H a b) : Q b H := h b H μ (.refl _ _) hs hr
end
abbrev relV (X : Cx) : Rel D V := fun μ H d v => RepV X.K μ H d v
abbrev relA (X : Cx) : Rel (List D) (List V) := fun μ H d v => RepVs X.K μ H d v
abbrev relB : Rel Bool Bool := fun _ _ a b => a = b
abbrev relO : Rel (Option Int) (Option Int) := fun _ _ a b => a = b
abbrev ME := MEnv → Stor → R D
abbrev MA := MEnv → Stor → R (List D)
abbrev MT := MEnv → Stor → R Bool
abbrev MP := MEnv → Stor → R (Option Int)
def tM (X : Cx) (m : ME) : TE := fun σ H Q => ∃ μ env st, RepE X.K μ H env σ ∧ RepS X.K μ H st ∧ Post X μ H (relV X) Q (m env st)
def tMA (X : Cx) (m : MA) : TA := fun σ H Q => ∃ μ env st, RepE X.K μ H env σ ∧ RepS X.K μ H st ∧ Post X μ H (relA X) Q (m env st)
def tMT (X : Cx) (m : MT) : TT := fun σ H Q => ∃ μ env st, RepE X.K μ H env σ ∧ RepS X.K μ H st ∧ Post X μ H relB Q (m env st)
def tMP (X : Cx) (m : MP) : TO := fun σ H Q => ∃ μ env st, RepE X.K μ H env σ ∧ RepS X.K μ H st ∧ Post X μ H relO Q (m env st)
def JE (X : Cx) (e : Expr) (m : ME) : Prop := PE X e (tM X m)
def JT (X : Cx) (e : Expr) (m : MT) : Prop := PT X e (tMT X m)
def JA (X : Cx) (es : List Expr) (m : MA) : Prop := PA X es (tMA X m)
def JP (X : Cx) (e : Option Expr) (m : MP) : Prop := PO X e (tMP X m)
section
variable {X : Cx} {e a b c : Expr} {es : List Expr} {t : TE} {ma mb mc : ME} {mA : MA} {pos : Pos}
theorem JE.of {m : ME} (h : PE X e t) (k : ∀ σ H Q, tM X m σ H Q → t σ H Q) : JE X e m := fun pins s σ H Q I q => h pins s σ H Q I (k σ H Q q)
theorem JT.of {t : TT} {m : MT} (h : PT X e t) (k : ∀ σ H Q, tMT X m σ H Q → t σ H Q) : JT X e m := fun pins s σ H Q I q => h pins s σ H Q I (k σ H Q q)
theorem JA.of {t : TA} {m : MA} (h : PA X es t) (k : ∀ σ H Q, tMA X m σ H Q → t σ H Q) : JA X es m := fun pos pins s σ H Q I q => h pos pins s σ H Q I (k σ H Q q)
theorem JP.of {o : Option Expr} {t : TO} {m : MP} (h : PO X o t) (k : ∀ σ H Q, tMP X m σ H Q → t σ H Q) : JP X o m := fun pins s σ H Q I q => h pins s σ H Q I (k σ H Q q)
/-! ### names and constants -/
def vr (i : Nat) : ME := fun env st => match env[i]? with | some (some d) => .ok d st | _ => .bad
def ct (d : D) : ME := fun _ st => .ok d st
theorem je_var (i : Nat) {x : Str} {pos : Pos} (hN : X.N[i]? = some x := by rfl) (hv : Vis X.env.scope x := by first | exact Or.inl rfl | exact Or.inr (Or.inl rfl) | exact Or.inr (Or.inr rfl)) (hd : (x == ("__debug__" : Str)) = false := by decide)
    (hcd : (x == ("__classdict__" : Str)) = false := by decide) : JE X (.Name x pos) (vr i) := JE.of (pe_var hN hv hd hcd) fun σ H Q ⟨μ, env, st, he, hs, hp⟩ => by
  unfold vr at hp
  split at hp
  · rename_i d e
    obtain ⟨v, h1, h2⟩ := he.at_ i d e
    exact ⟨v, h1, hp.ret hs h2⟩
  · exact hp.elim
theorem je_int {i j pos} : JE X (.Constant (.int i) j pos) (ct (.int i)) := JE.of pe_int fun σ H Q ⟨μ, env, st, he, hs, hp⟩ => hp.ret hs (RepV.int_iff.mpr rfl)
theorem je_bl {b j pos} : JE X (.Constant (.bool b) j pos) (ct (.bl b)) := JE.of pe_bl fun σ H Q ⟨μ, env, st, he, hs, hp⟩ => hp.ret hs (RepV.bl_iff.mpr rfl)
theorem je_str {x : Str} {j pos} (cs : List Nat) (h : x = strOf cs := by decide +kernel) : JE X (.Constant (.str x) j pos) (ct (.str cs)) := JE.of pe_str fun σ H Q ⟨μ, env, st, he, hs, hp⟩ => hp.ret hs (RepV.str_iff.mpr (by rw [h]))
/-! ### operations on values -/
def op2 (g : D → D → Stor → R D) (a b : ME) : ME := fun env st => (a env st).bind fun x st1 => (b env st1).bind fun y st2 => g x y st2
def op1 (g : D → Stor → R D) (a : ME) : ME := fun env st => (a env st).bind fun x st1 => g x st1
def rM (X : Cx) (g : D → D → Stor → R D) : R2 := fun x y H Q => ∃ μ st dx dy, RepS X.K μ H st ∧ RepV X.K μ H dx x ∧ RepV X.K μ H dy y ∧ Post X μ H (relV X) Q (g dx dy st)
def rMC (X : Cx) (g : List D → Stor → R D) : List V → Hp → VK → Prop := fun xs H Q => ∃ μ st ds, RepS X.K μ H st ∧ RepVs X.K μ H ds xs ∧ Post X μ H (relV X) Q (g ds st)
def rMM (X : Cx) (g : D → List D → Stor → R D) : V → List V → Hp → VK → Prop := fun x xs H Q => ∃ μ st d ds, RepS X.K μ H st ∧ RepV X.K μ H d x ∧ RepVs X.K μ H ds xs ∧ Post X μ H (relV X) Q (g d ds st)
theorem OpR.weak {f : Value → Value → Sem Value} {r r' : R2} (h : OpR X f r) (k : ∀ x y H Q, r' x y H Q → r x y H Q) : OpR X f r' := fun pins s σ H x y v u Q I rx ry q => h pins s σ H x y v u Q I rx ry (k x y H Q q)
theorem CallR.weak {f : Value} {r r' : List V → Hp → VK → Prop} (h : CallR X f r) (k : ∀ x H Q, r' x H Q → r x H Q) : CallR X f r' := fun pins s σ H x v Q I rx q => h pins s σ H x v Q I rx (k x H Q q)
theorem MtR.weak {id : String} {r r' : V → List V → Hp → VK → Prop} (h : MtR X id r) (k : ∀ x xs H Q, r' x xs H Q → r x xs H Q) : MtR X id r' := fun pins s σ H x xs v us Q I rx rs q => h pins s σ H x xs v us Q I rx rs (k x xs H Q q)
theorem IxR.weak {r r' : R2} (h : IxR X r) (k : ∀ x y H Q, r' x y H Q → r x y H Q) : IxR X r' := fun va sl pins s σ H x y v u Q I rx ry q => h va sl pins s σ H x y v u Q I rx ry (k x y H Q q)
theorem SlR.weak {r r' : V → Option Int → Option Int → Hp → VK → Prop} (h : SlR X r) (k : ∀ x l u H Q, r' x l u H Q → r x l u H Q) : SlR X r' := fun pins s σ H x v vl vu lo hi sl Q I rx hs pl pu q => h pins s σ H x v vl vu lo hi sl Q I rx hs pl pu (k x lo hi H Q q)
theorem PSet.weak {t t' : TSet} (h : PSet X t) (k : ∀ o i v H Q, t' o i v H Q → t o i v H Q) : PSet X t' := fun pins s σ H o i v ov iv u Q I ro ri rv q => h pins s σ H o i v ov iv u Q I ro ri rv (k o i v H Q q)
theorem tM_two {g : D → D → Stor → R D} {σ : L2.St} {H : Hp} {Q : VK} (h : tM X (op2 g ma mb) σ H Q) : tM X ma σ H fun x H1 => tM X mb σ H1 fun y H2 => rM X g x y H2 Q := by
  obtain ⟨μ, env, st, he, hs, hp⟩ := h
  refine ⟨μ, env, st, he, hs, hp.bind.imp ?_⟩
  rintro x H1 ⟨μ1, st1, d, g1, hs1, hx, hp1⟩
  refine ⟨μ1, env, st1, he.mono g1, hs1, hp1.bind.imp ?_⟩
  rintro y H2 ⟨μ2, st2, d2, g2, hs2, hy, hp2⟩
  exact ⟨μ2, st2, d, d2, hs2, hx.mono g2 _, hy, hp2⟩
theorem je_op {op : Operator} {g : D → D → Stor → R D} (ho : OpR X (binaryOp op) (rM X g)) (ha : JE X a ma) (hb : JE X b mb) : JE X (.BinOp a op b pos) (op2 g ma mb) :=
  JE.of (pe_op ho ha hb) fun σ H Q h => tM_two h
theorem je_cmp {op : CmpOp} {g : D → D → Stor → R D} (ho : OpR X (compareOp op) (rM X g)) (ha : JE X a ma) (hb : JE X b mb) (hm : behindInMarks op b = false) : JE X (.Compare a [op] [b] pos) (op2 g ma mb) :=
  JE.of (pe_cmpR ho ha hb hm) fun σ H Q h => tM_two h
/-! ### tests -/
/-- a bool -/
def tB1 (a : ME) : MT := fun env st => (a env st).bind fun x st1 => match x with | .bl b => .ok b st1 | _ => .bad
theorem jt_cmp {op : CmpOp} {g : D → D → Stor → R D} (ho : OpR X (compareOp op) (rM X g)) (ha : JE X a ma) (hb : JE X b mb) (hm : behindInMarks op b = false) : JT X (.Compare a [op] [b] pos) (tB1 (op2 g ma mb)) := by
  refine JT.of (pt_cmpR ho ha hb hm) fun σ H Q ⟨μ, env, st, he, hs, hp⟩ => ?_
  refine tM_two ⟨μ, env, st, he, hs, hp.bind.imp ?_⟩
  rintro x H1 ⟨μ1, st1, d, g1, hs1, hx, hp1⟩
  cases d with
  | bl b => exact ⟨b, RepV.bl_iff.mp hx, hp1.ret hs1 rfl⟩
  | _ => exact hp1.elim
/-- truth -/
def truV : D → Stor → Option Bool
  | .non, _ => some false
  | .bl b, _ => some b
  | .int i, _ => some (i != 0)
  | .str cs, _ => if cs.length ≤ 1000000 then some (!cs.isEmpty) else none
  | .tup ds, _ => some (!ds.isEmpty)
  | .loc n, st => match st[n]? with
    | some (.lst ds) => some (!ds.isEmpty)
    | some (.frz ds) => some (!ds.isEmpty)
    | _ => none
def tru (a : ME) : MT := fun env st => (a env st).bind fun x st1 => match truV x st1 with | some b => .ok b st1 | none => .bad
theorem lim_ok {n : Nat} (h : n ≤ 1000000) : n ≤ sizeLine := Nat.le_trans h (by decide)
theorem RepS.lst {K : PySem.W.Frag} {μ : List Addr} {H : Hp} {st : Stor} {n : Nat} {ds : List D} (h : RepS K μ H st) (e : st[n]? = some (.lst ds)) : ∃ p xs, μ[n]? = some p ∧ H p = some (.lst xs) ∧ RepVs K μ H ds xs := by
  obtain ⟨p, h1, xs, h2, h3⟩ := h.at_ n _ e
  exact ⟨p, xs, h1, h2, h3⟩
/-- the items of a list that is read -/
def itemsAt (st : Stor) (n : Nat) : Option (List D) := match st[n]? with
  | some (.lst ds) => some ds
  | some (.frz ds) => some ds
  | _ => none
theorem RepS.items {K : PySem.W.Frag} {μ : List Addr} {H : Hp} {st : Stor} {n : Nat} {ds : List D} (h : RepS K μ H st) (e : itemsAt st n = some ds) : ∃ p xs, μ[n]? = some p ∧ SqL K H p xs ∧ RepVs K μ H ds xs := by
  unfold itemsAt at e
  split at e
  · rename_i es q
    cases e
    obtain ⟨p, xs, h1, h2, h3⟩ := h.lst q
    exact ⟨p, xs, h1, SqL.of h2, h3⟩
  · rename_i es q
    cases e
    obtain ⟨p, h1, xs, h2, h3⟩ := h.at_ n _ q
    exact ⟨p, xs, h1, h2.sqL, h3⟩
  · cases e
theorem RepVs.isEmpty {K : PySem.W.Frag} {μ : List Addr} {H : Hp} {ds : List D} {xs : List V} (h : RepVs K μ H ds xs) : ds.isEmpty = xs.isEmpty := by
  have := h.length
  cases ds <;> cases xs <;> simp_all
theorem truV_ok {d : D} {st : Stor} {b : Bool} {μ : List Addr} {H : Hp} {v : V} (h : truV d st = some b) (hs : RepS X.K μ H st) (hv : RepV X.K μ H d v) : TruV X.K v H b := by
  cases d with
  | non => rw [RepV.non_iff] at hv; subst hv; cases h; rfl
  | bl c => rw [RepV.bl_iff] at hv; subst hv; cases h; rfl
  | int i => rw [RepV.int_iff] at hv; subst hv; cases h; rfl
  | str cs =>
    rw [RepV.str_iff] at hv; subst hv
    simp only [truV] at h
    split at h
    · rename_i hl
      cases h
      have e : (strOf cs).length = cs.length := by simp [Str.length, strOf]
      refine ⟨by rw [e]; exact lim_ok hl, ?_⟩
      rw [e]
      cases cs <;> simp
      omega
    · cases h
  | tup ds =>
    rw [RepV.tup_iff] at hv
    obtain ⟨a, xs, rfl, h1, h2⟩ := hv
    cases h
    exact .inr (.inl ⟨xs, h1.sqT, by rw [h2.isEmpty]⟩)
  | loc n =>
    rw [RepV.loc_iff] at hv
    obtain ⟨a, h1, rfl⟩ := hv
    have key : ∃ ds, itemsAt st n = some ds ∧ b = !ds.isEmpty := by
      unfold itemsAt
      simp only [truV] at h
      split at h
      · rename_i q; cases h; exact ⟨_, rfl, rfl⟩
      · rename_i q; cases h; exact ⟨_, rfl, rfl⟩
      · cases h
    obtain ⟨ds, q, rfl⟩ := key
    obtain ⟨p, xs, h3, h4, h5⟩ := hs.items q
    rw [h1] at h3; cases h3
    exact .inl ⟨xs, h4, by rw [h5.isEmpty]⟩
theorem jt_truth (ha : JE X a ma) (he : ∀ whole, isTrue a X.env whole = (do let v ← whole; standAt a.pos; holding [v] (truthy v)) := by intro _; rfl) : JT X a (tru ma) := by
  refine JT.of (pt_truth ha he) fun σ H Q ⟨μ, env, st, hE, hs, hp⟩ => ⟨μ, env, st, hE, hs, hp.bind.imp ?_⟩
  rintro x H1 ⟨μ1, st1, d, g1, hs1, hx, hp1⟩
  cases e : truV d st1 with
  | none => simp only [e] at hp1; exact hp1.elim
  | some b => simp only [e] at hp1; exact ⟨b, truV_ok e hs1 hx, hp1.ret hs1 rfl⟩
def JW (X : Cx) (e : Expr) (m : MT) : Prop := PW X e (tMT X m)
theorem JW.jt {m : MT} (h : JW X e m) : JT X e m := PW.pt h
theorem JW.of {t : TT} {m : MT} (h : PW X e t) (k : ∀ σ H Q, tMT X m σ H Q → t σ H Q) : JW X e m := fun w pins s σ H Q I q => h w pins s σ H Q I (k σ H Q q)
def orT (a b : MT) : MT := fun env st => (a env st).bind fun x st1 => if x then .ok true st1 else b env st1
def notT (a : MT) : MT := fun env st => (a env st).bind fun x st1 => .ok (!x) st1
variable {ta tb tc : MT} {rest : List Expr}
theorem jw_or1 (ha : JT X a ta) : JW X (.BoolOp .Or [a] pos) ta := pw_or1 ha
theorem jw_or (ha : JT X a ta) (hb : JW X (.BoolOp .Or (b :: rest) pos) tb) : JW X (.BoolOp .Or (a :: b :: rest) pos) (orT ta tb) := by
  refine JW.of (pw_or ha hb) fun σ H Q ⟨μ, env, st, hE, hs, hp⟩ => ⟨μ, env, st, hE, hs, hp.bind.imp ?_⟩
  rintro x H1 ⟨μ1, st1, d, g1, hs1, rfl, hp1⟩
  cases d with
  | true => exact iteT (hp1.ret hs1 rfl)
  | false => exact iteF ⟨μ1, env, st1, hE.mono g1, hs1, hp1⟩
theorem jt_not (ha : JT X a ta) : JT X (.UnaryOp .Not a pos) (notT ta) := by
  refine JT.of (pt_not ha) fun σ H Q ⟨μ, env, st, hE, hs, hp⟩ => ⟨μ, env, st, hE, hs, hp.bind.imp ?_⟩
  rintro x H1 ⟨μ1, st1, d, g1, hs1, rfl, hp1⟩
  exact hp1.ret hs1 rfl
/-! ### and, or, not as values: bools -/
def andV (a b : ME) : ME := fun env st => (a env st).bind fun x st1 => match x with | .bl true => b env st1 | .bl false => .ok (.bl false) st1 | _ => .bad
def notV (a : ME) : ME := fun env st => (a env st).bind fun x st1 => match x with | .bl c => .ok (.bl (!c)) st1 | _ => .bad
theorem je_one {op} {m : ME} (h : JE X a m) : JE X (.BoolOp op [a] pos) m := pe_one h
theorem je_and (ha : JE X a ma) (hb : JE X (.BoolOp .And (b :: rest) pos) mb) : JE X (.BoolOp .And (a :: b :: rest) pos) (andV ma mb) := by
  refine JE.of (pe_and ha hb) fun σ H Q ⟨μ, env, st, hE, hs, hp⟩ => ⟨μ, env, st, hE, hs, hp.bind.imp ?_⟩
  rintro x H1 ⟨μ1, st1, d, g1, hs1, hx, hp1⟩
  cases d with
  | bl c =>
    refine ⟨c, RepV.bl_iff.mp hx, ?_⟩
    cases c with
    | true => exact iteT ⟨μ1, env, st1, hE.mono g1, hs1, hp1⟩
    | false => exact iteF (hp1.ret hs1 (RepV.bl_iff.mpr rfl))
  | _ => exact hp1.elim
theorem je_not (ha : JE X a ma) : JE X (.UnaryOp .Not a pos) (notV ma) := by
  refine JE.of (pe_not ha) fun σ H Q ⟨μ, env, st, hE, hs, hp⟩ => ⟨μ, env, st, hE, hs, hp.bind.imp ?_⟩
  rintro x H1 ⟨μ1, st1, d, g1, hs1, hx, hp1⟩
  cases d with
  | bl c => exact ⟨c, RepV.bl_iff.mp hx, hp1.ret hs1 (RepV.bl_iff.mpr rfl)⟩
  | _ => exact hp1.elim
/-! ### argument lists, displays -/
def nilA : MA := fun _ st => .ok [] st
def consA (a : ME) (r : MA) : MA := fun env st => (a env st).bind fun x st1 => (r env st1).bind fun xs st2 => .ok (x :: xs) st2
theorem ja_nil : JA X [] nilA := JA.of pa_nil fun σ H Q ⟨μ, env, st, hE, hs, hp⟩ => hp.ret hs RepVs.nil
theorem ja_cons {e : Expr} {es : List Expr} {m : ME} {mA : MA} (h : JE X e m) (hr : JA X es mA) (hs : starEach (e :: es) X.env = (false, eval e X.env) :: starEach es X.env := by rfl) : JA X (e :: es) (consA m mA) := by
  refine JA.of (pa_cons h hr hs) fun σ H Q ⟨μ, env, st, hE, hs, hp⟩ => ⟨μ, env, st, hE, hs, hp.bind.imp ?_⟩
  rintro x H1 ⟨μ1, st1, d, g1, hs1, hx, hp1⟩
  refine ⟨μ1, env, st1, hE.mono g1, hs1, hp1.bind.imp ?_⟩
  rintro xs H2 ⟨μ2, st2, ds, g2, hs2, hxs, hp2⟩
  exact hp2.ret hs2 (RepVs.cons (hx.mono g2 _) hxs)
def tupE (m : MA) : ME := fun env st => (m env st).bind fun ds st1 => if ds.length ≤ 1000000 then .ok (.tup ds) st1 else .bad
def lstE (m : MA) : ME := fun env st => (m env st).bind fun ds st1 => if ds.length ≤ 1000000 then .ok (.loc st1.length) (st1 ++ [.lst ds]) else .bad
theorem je_tup {es : List Expr} {mA : MA} {x1} (h : JA X es mA) : JE X (.Tuple es x1 pos) (tupE mA) := by
  refine JE.of (pe_tup h) fun σ H Q ⟨μ, env, st, hE, hs, hp⟩ => ⟨μ, env, st, hE, hs, hp.bind.imp ?_⟩
  rintro xs H1 ⟨μ1, st1, ds, g1, hs1, hxs, hp1⟩
  dsimp only at hp1
  split at hp1
  · rename_i hl
    refine ⟨by rw [← hxs.length]; exact lim_ok hl, fun p hn => ?_⟩
    exact hp1 _ _ μ1 (Grow.lay hn) (hs1.lay hn) (RepV.tup_iff.mpr ⟨p, xs, rfl, .inl upd_same, hxs.mono (Grow.lay hn) _⟩)
  · exact hp1.elim
/-- a new list -/
theorem Post.newList {μ : List Addr} {H : Hp} {st : Stor} {ds : List D} {xs : List V} {p : Addr} {Q : VK} (h : Post X μ H (relV X) Q (.ok (.loc st.length) (st ++ [.lst ds]))) (hs : RepS X.K μ H st) (hx : RepVs X.K μ H ds xs) (hn : H p = none) :
    Q (.ref p) (upd H p (.lst xs)) := by
  have g : Grow μ H (μ ++ [p]) (upd H p (.lst xs)) := Grow.new hn
  refine h _ _ (μ ++ [p]) g (hs.new hn ⟨xs, upd_same, hx.mono g _⟩) (RepV.loc_iff.mpr ⟨p, ?_, rfl⟩)
  rw [← hs.len]; simp
theorem je_lst {es : List Expr} {mA : MA} (h : JA X es mA) : JE X (.List es pos) (lstE mA) := by
  refine JE.of (pe_lst h) fun σ H Q ⟨μ, env, st, hE, hs, hp⟩ => ⟨μ, env, st, hE, hs, hp.bind.imp ?_⟩
  rintro xs H1 ⟨μ1, st1, ds, g1, hs1, hxs, hp1⟩
  dsimp only at hp1
  split at hp1
  · rename_i hl
    exact ⟨by rw [← hxs.length]; exact lim_ok hl, fun p hn => hp1.newList hs1 hxs hn⟩
  · exact hp1.elim
end
end M
namespace M
open PySem PySem.Spec L2
section
variable {X : Cx} {e a b c : Expr} {es : List Expr} {t : TE} {ma mb mc : ME} {mA : MA} {pos : Pos}
theorem strOf_len (cs : List Nat) : (strOf cs).length = cs.length := by simp [Str.length, strOf]
theorem strOf_app (a b : List Nat) : strOf a ++ strOf b = strOf (a ++ b) := by
  show Str.append _ _ = _
  simp [Str.append, strOf]
theorem strOf_inj {a b : List Nat} : strOf a = strOf b ↔ a = b := by
  constructor
  · intro h
    have := congrArg (fun s : Str => s.cps.toList) h
    simpa [strOf] using this
  · intro h; rw [h]
/-! ### + - * // % ** -/
def addV : D → D → Stor → R D
  | .int i, .int j, st => .ok (.int (i + j)) st
  | .str a, .str b, st => if a.length + b.length ≤ 1000000 then .ok (.str (a ++ b)) st else .bad
  | .tup a, .tup b, st => if a.length + b.length ≤ 1000000 then .ok (.tup (a ++ b)) st else .bad
  | .loc m, .loc n, st => match st[m]?, st[n]? with
    | some (.lst a), some (.lst b) => if a.length + b.length ≤ 1000000 then .ok (.loc st.length) (st ++ [.lst (a ++ b)]) else .bad
    | _, _ => .bad
  | _, _, _ => .bad
theorem op_addV : OpR X (binaryOp .Add) (rM X addV) := by
  refine OpR.weak (OpR.or op_add (OpR.or op_add_str (OpR.or op_catT (OpR.or op_catT0 op_cat)))) ?_
  rintro x y H Q ⟨μ, st, dx, dy, hs, hx, hy, hp⟩
  cases dx with
  | int i =>
    cases dy with
    | int j =>
      rw [RepV.int_iff] at hx hy; subst hx hy
      exact .inl ⟨i, j, rfl, rfl, hp.ret hs (RepV.int_iff.mpr rfl)⟩
    | _ => exact hp.elim
  | str i =>
    cases dy with
    | str j =>
      rw [RepV.str_iff] at hx hy; subst hx hy
      simp only [addV] at hp
      split at hp
      · rename_i hl
        refine .inr (.inl ⟨_, _, rfl, rfl, ?_, ?_⟩)
        · rw [strOf_len, strOf_len]; exact lim_ok hl
        · rw [strOf_app]; exact hp.ret hs (RepV.str_iff.mpr rfl)
      · exact hp.elim
    | _ => exact hp.elim
  | tup i =>
    cases dy with
    | tup j =>
      rw [RepV.tup_iff] at hx hy
      obtain ⟨p, xs, rfl, h1, h2⟩ := hx
      obtain ⟨q, ys, rfl, h3, h4⟩ := hy
      simp only [addV] at hp
      split at hp
      · rename_i hl
        by_cases hx0 : xs = []
        · subst hx0
          have hi : i = [] := by have := h2.length; simpa using this
          subst hi
          exact .inr (.inr (.inr (.inl ⟨p, q, ys, rfl, rfl, h1.sqT, h3.sqT, hp.ret hs (RepV.tup_iff.mpr ⟨q, ys, rfl, h3, h4⟩)⟩)))
        · refine .inr (.inr (.inl ⟨p, q, xs, ys, rfl, rfl, h1.sqT, h3.sqT, hx0, by rw [← h2.length, ← h4.length]; exact lim_ok hl, fun hy0 => ?_, fun _ r hr => ?_⟩))
          · subst hy0
            have hj : j = [] := by have := h4.length; simpa using this
            subst hj
            exact hp.ret hs (RepV.tup_iff.mpr ⟨p, xs, rfl, by rw [List.append_nil]; exact h1, by rw [List.append_nil]; exact h2⟩)
          · exact hp _ _ μ (Grow.lay hr) (hs.lay hr) (RepV.tup_iff.mpr ⟨r, _, rfl, .inl upd_same, (h2.append h4).mono (Grow.lay hr) _⟩)
      · exact hp.elim
    | _ => exact hp.elim
  | loc m =>
    cases dy with
    | loc n =>
      rw [RepV.loc_iff] at hx hy
      obtain ⟨p, h1, rfl⟩ := hx
      obtain ⟨q, h2, rfl⟩ := hy
      simp only [addV] at hp
      split at hp
      · rename_i da db e1 e2
        split at hp
        · rename_i hl
          obtain ⟨p', xs, h3, h4, h5⟩ := hs.lst e1
          obtain ⟨q', ys, h6, h7, h8⟩ := hs.lst e2
          rw [h1] at h3; cases h3
          rw [h2] at h6; cases h6
          exact .inr (.inr (.inr (.inr ⟨p, q, xs, ys, rfl, rfl, h4, h7, by rw [← h5.length, ← h8.length]; exact lim_ok hl, fun r hr => hp.newList hs (h5.append h8) hr⟩)))
        · exact hp.elim
      · exact hp.elim
    | _ => exact hp.elim
  | _ => exact hp.elim
/-- two ints -/
def intV (C : Int → Int → Prop) [∀ i j, Decidable (C i j)] (g : Int → Int → D) : D → D → Stor → R D
  | .int i, .int j, st => if C i j then .ok (g i j) st else .bad
  | _, _, _ => .bad
theorem op_intV {f : Value → Value → Sem Value} {C : Int → Int → Prop} [∀ i j, Decidable (C i j)] {g : Int → Int → D} {gv : Int → Int → V} (h : OpR X f (rI C gv)) (hg : ∀ i j μ H, RepV X.K μ H (g i j) (gv i j)) : OpR X f (rM X (intV C g)) := by
  refine OpR.weak h ?_
  rintro x y H Q ⟨μ, st, dx, dy, hs, hx, hy, hp⟩
  cases dx with
  | int i =>
    cases dy with
    | int j =>
      rw [RepV.int_iff] at hx hy; subst hx hy
      simp only [intV] at hp
      split at hp
      · rename_i hc
        exact ⟨i, j, rfl, rfl, hc, hp.ret hs (hg i j μ H)⟩
      · exact hp.elim
    | _ => exact hp.elim
  | _ => exact hp.elim
theorem OpR.top {f : Value → Value → Sem Value} {gv : Int → Int → V} (h : OpR X f (rI0 gv)) : OpR X f (rI (fun _ _ => True) gv) := OpR.weak h fun x y H Q ⟨i, j, a, b, _, q⟩ => ⟨i, j, a, b, q⟩
def mulV : D → D → Stor → R D := intV (fun i j => (-(2 ^ 64) < i ∧ i < 2 ^ 64) ∨ (-(2 ^ 64) < j ∧ j < 2 ^ 64)) fun i j => .int (i * j)
theorem op_mulV : OpR X (binaryOp .Mult) (rM X mulV) := op_intV (OpR.weak op_mul fun x y H Q h => h) fun i j μ H => RepV.int_iff.mpr rfl
def fdivV : D → D → Stor → R D := intV (fun _ j => 0 < j ∧ j < 2 ^ 64) fun i j => .int (i / j)
theorem op_fdivV : OpR X (binaryOp .FloorDiv) (rM X fdivV) := op_intV op_fdivW fun i j μ H => RepV.int_iff.mpr rfl
def modV : D → D → Stor → R D := intV (fun _ j => 0 < j) fun i j => .int (i % j)
theorem op_modV : OpR X (binaryOp .Mod) (rM X modV) := op_intV op_mod fun i j μ H => RepV.int_iff.mpr rfl
def ltV : D → D → Stor → R D := intV (fun _ _ => True) fun i j => .bl (decide (i < j))
theorem op_ltV : OpR X (compareOp .Lt) (rM X ltV) := op_intV (OpR.top op_lt) fun i j μ H => RepV.bl_iff.mpr rfl
def leV : D → D → Stor → R D := intV (fun _ _ => True) fun i j => .bl (decide (i ≤ j))
theorem op_leV : OpR X (compareOp .LtE) (rM X leV) := op_intV (OpR.top op_le) fun i j μ H => RepV.bl_iff.mpr rfl
def gtV : D → D → Stor → R D := intV (fun _ _ => True) fun i j => .bl (decide (j < i))
theorem op_gtV : OpR X (compareOp .Gt) (rM X gtV) := op_intV (OpR.top op_gt) fun i j μ H => RepV.bl_iff.mpr rfl
/-! ### a[b] -/
def ixV : D → D → Stor → R D
  | .loc n, .int i, st => match (itemsAt st n).bind fun ds => atI ds i with | some d => .ok d st | none => .bad
  | .tup ds, .int i, st => match atI ds i with | some d => .ok d st | none => .bad
  | .str cs, .int i, st => if cs.length ≤ 1000000 then (match atI cs i with | some c => .ok (.str [c]) st | none => .bad) else .bad
  | _, _, _ => .bad
theorem RepVs.atI {K : PySem.W.Frag} {μ : List Addr} {H : Hp} {ds : List D} {xs : List V} {i : Int} {d : D} (h : RepVs K μ H ds xs) (e : L2.atI ds i = some d) : ∃ v, L2.atI xs i = some v ∧ RepV K μ H d v := by
  unfold L2.atI at e ⊢
  rw [← h.length]
  cases q : ixN ds.length i with
  | none => rw [q] at e; cases e
  | some j =>
    rw [q] at e
    exact h.get (by simpa using e)
theorem ix_V : IxR X (rM X ixV) := by
  refine IxR.weak ix_seq ?_
  rintro x y H Q ⟨μ, st, dx, dy, hs, hx, hy, hp⟩
  cases dy with
  | int i =>
    rw [RepV.int_iff] at hy; subst hy
    cases dx with
    | loc n =>
      rw [RepV.loc_iff] at hx
      obtain ⟨p, h1, rfl⟩ := hx
      simp only [ixV] at hp
      cases e : itemsAt st n with
      | none => rw [e] at hp; exact hp.elim
      | some ds =>
        rw [e] at hp
        cases e2 : L2.atI ds i with
        | none => simp only [Option.bind_some, e2] at hp; exact hp.elim
        | some d =>
          simp only [Option.bind_some, e2] at hp
          obtain ⟨p', xs, h3, h4, h5⟩ := hs.items e
          rw [h1] at h3; cases h3
          obtain ⟨v, h6, h7⟩ := h5.atI e2
          exact .inl ⟨p, xs, i, v, rfl, rfl, h4, h6, hp.ret hs h7⟩
    | tup ds =>
      rw [RepV.tup_iff] at hx
      obtain ⟨p, xs, rfl, h1, h2⟩ := hx
      simp only [ixV] at hp
      cases e2 : L2.atI ds i with
      | none => simp only [e2] at hp; exact hp.elim
      | some d =>
        simp only [e2] at hp
        obtain ⟨v, h6, h7⟩ := h2.atI e2
        exact .inr (.inl ⟨p, xs, i, v, rfl, rfl, h1.sqT, h6, hp.ret hs h7⟩)
    | str cs =>
      rw [RepV.str_iff] at hx; subst hx
      simp only [ixV] at hp
      split at hp
      · rename_i hl
        cases e2 : L2.atI cs i with
        | none => simp only [e2] at hp; exact hp.elim
        | some c =>
          simp only [e2] at hp
          exact .inr (.inr ⟨_, i, c, rfl, rfl, by rw [strOf_len]; exact lim_ok hl, by simpa [strOf] using e2, hp.ret hs (RepV.str_iff.mpr rfl)⟩)
      · exact hp.elim
    | _ => exact hp.elim
  | _ => cases dx <;> exact hp.elim
theorem je_ix (ha : JE X a ma) (hb : JE X b mb) (hs : PlainIx b := by exact fun _ _ => rfl) : JE X (.Subscript a b pos) (op2 ixV ma mb) :=
  JE.of (pe_ix ix_V ha hb hs) fun σ H Q h => tM_two h
end
end M
namespace M
open PySem PySem.Spec L2
section
variable {X : Cx} {e a b c : Expr} {es : List Expr} {t : TE} {ma mb mc : ME} {mA : MA} {pos p2 : Pos}
/-! ### slices -/
def cut {α : Type} (xs : List α) (lo hi : Option Int) : List α := (xs.drop (HT.sIx xs.length 0 lo)).take (HT.sIx xs.length xs.length hi - HT.sIx xs.length 0 lo)
theorem RepVs.cut {K : PySem.W.Frag} {μ : List Addr} {H : Hp} {ds : List D} {xs : List V} (h : RepVs K μ H ds xs) (lo hi : Option Int) : RepVs K μ H (M.cut ds lo hi) (cutV xs lo hi) := by
  unfold M.cut cutV
  rw [← h.length]
  exact (h.drop _).take _
theorem cut_whole {α : Type} {xs : List α} {lo hi : Option Int} (h : HT.sIx xs.length 0 lo = 0 ∧ HT.sIx xs.length xs.length hi = xs.length) : cut xs lo hi = xs := by
  unfold cut
  rw [h.1, h.2]
  simp
theorem sRange_eq (i j : Nat) : sliceRange (i : Int) (j : Int) 1 = (List.range (j - i)).map fun k => i + k := by
  unfold sliceRange
  simp only [show (1 : Int) > 0 by decide, if_true]
  have e : (if (i : Int) < (j : Int) then ((j : Int) - (i : Int) + 1 - 1) / 1 else 0).toNat = j - i := by
    split
    · rw [Int.ediv_one]; omega
    · omega
  rw [e]
  refine List.map_congr_left fun k _ => ?_
  omega
theorem sIdx_eq (lo hi : Option Int) (n : Nat) : Builtin.Str.strSliceIndices lo hi 1 n = (List.range (HT.sIx n n hi - HT.sIx n 0 lo)).map fun k => HT.sIx n 0 lo + k := by
  rw [← sRange_eq]
  unfold Builtin.Str.strSliceIndices
  simp only [show (1 : Int) > 0 by decide, if_true]
  congr 1
  · cases lo with
    | none => rfl
    | some v =>
      show max 0 (min (if v < 0 then v + (n : Int) else v) (n : Int)) = ((if v < 0 then (v + (n : Int)).toNat else min v.toNat n : Nat) : Int)
      split <;> omega
  · cases hi with
    | none => rfl
    | some v =>
      show max 0 (min (if v < 0 then v + (n : Int) else v) (n : Int)) = ((if v < 0 then (v + (n : Int)).toNat else min v.toNat n : Nat) : Int)
      split <;> omega
theorem pick_cut (cs : List Nat) (i k : Nat) : ((List.range k).map fun m => i + m).filterMap (fun m => cs[m]?) = (cs.drop i).take k := by
  induction k generalizing i with
  | zero => simp
  | succ k ih =>
    rw [List.range_succ_eq_map, List.map_cons, List.filterMap_cons, List.map_map]
    have e : ((fun m => i + m) ∘ Nat.succ) = fun m => (i + 1) + m := by funext m; simp; omega
    rw [e, ih (i + 1)]
    cases q : cs[i]? with
    | none =>
      have hl : cs.length ≤ i := List.getElem?_eq_none_iff.mp q
      simp [q, List.drop_eq_nil_of_le hl, List.drop_eq_nil_of_le (Nat.le_succ_of_le hl)]
    | some c =>
      have hl := (List.getElem?_eq_some_iff.mp q).1
      have hc := (List.getElem?_eq_some_iff.mp q).2
      simp [q, List.drop_eq_getElem_cons hl, hc]
theorem slice_str (cs : List Nat) (lo hi : Option Int) : Txt.slice (strOf cs) lo hi = strOf (cut cs lo hi) := by
  have e : (strOf cs).length = cs.length := by simp [Str.length, strOf]
  unfold Txt.slice
  rw [e, sIdx_eq]
  have hj : HT.sIx cs.length cs.length hi ≤ cs.length := HT.sIx_le _ _ (Nat.le_refl _) hi
  have q : ((List.range (HT.sIx cs.length cs.length hi - HT.sIx cs.length 0 lo)).map fun k => HT.sIx cs.length 0 lo + k).filterMap (fun m => (strOf cs).cps[m]?) = cut cs lo hi := by
    have : (fun (m : Nat) => (strOf cs).cps[m]?) = fun (m : Nat) => cs[m]? := by funext m; simp [strOf]
    rw [this, pick_cut]; rfl
  split
  · rename_i h
    rw [Bool.and_eq_true] at h
    have h2 : HT.sIx cs.length cs.length hi - HT.sIx cs.length 0 lo = cs.length := by simpa using h.2
    have h3 : cut cs lo hi = cs := by
      unfold cut
      rw [h2]
      by_cases hz : cs.length = 0
      · have : cs = [] := List.length_eq_zero_iff.mp hz
        subst this; simp
      · have : HT.sIx cs.length 0 lo = 0 := by omega
        rw [this]; simp
    rw [h3]
  · rw [q]
def slV : D → Option Int → Option Int → Stor → R D
  | .loc n, lo, hi, st => match itemsAt st n with | some ds => .ok (.loc st.length) (st ++ [.lst (cut ds lo hi)]) | none => .bad
  | .tup ds, lo, hi, st => .ok (.tup (cut ds lo hi)) st
  | .str cs, lo, hi, st => if cs.length ≤ 1000000 then .ok (.str (cut cs lo hi)) st else .bad
  | _, _, _, _ => .bad
def rMS (X : Cx) (g : D → Option Int → Option Int → Stor → R D) : V → Option Int → Option Int → Hp → VK → Prop := fun x lo hi H Q => ∃ μ st dx, RepS X.K μ H st ∧ RepV X.K μ H dx x ∧ Post X μ H (relV X) Q (g dx lo hi st)
def rSlS : V → Option Int → Option Int → Hp → VK → Prop := fun x lo hi H Q => ∃ cs, x = .str (strOf cs) ∧ cs.length ≤ sizeLine ∧ Q (.str (strOf (cut cs lo hi))) H
theorem sl_str : SlR X rSlS := by
  intro pins s σ H x v vl vu lo hi sl Q I rx hs pl pu h
  obtain ⟨cs, rfl, hz, q⟩ := h
  obtain ⟨t, rfl⟩ := rx
  obtain ⟨l, el, ml⟩ : ∃ l : Option (Int × Tok), vl = partValue l ∧ l.map (·.1) = lo := by
    cases pl with
    | none => exact ⟨none, rfl, rfl⟩
    | int i u => exact ⟨some (i, u), rfl, rfl⟩
  obtain ⟨u, eu, mu⟩ : ∃ l : Option (Int × Tok), vu = partValue l ∧ l.map (·.1) = hi := by
    cases pu with
    | none => exact ⟨none, rfl, rfl⟩
    | int i u => exact ⟨some (i, u), rfl, rfl⟩
  subst el eu
  have hs' : s.heap.IsSlice sl l u none := hs
  refine ⟨"str", _, F.slot_str_getitem.lookup, typeIs_str _ _ _, wpAny_getItem_str_slice (l := l) (u := u) (st := none) hs' rfl ?_⟩
  have e : Txt.slice (strOf cs) lo hi = strOf (cut cs lo hi) := slice_str cs lo hi
  unfold Txt.slice at e
  unfold sliceMade slicePicked
  rw [ml, mu]
  split
  · rename_i h
    have h' : ((1 : Int) == 1 && (Builtin.Str.strSliceIndices lo hi 1 (strOf cs).length).length == (strOf cs).length) = true := h
    rw [if_pos h'] at e
    exact ⟨.str (strOf cs), H, I, ⟨t, rfl⟩, by rw [← e] at q; exact q⟩
  · rename_i h
    have h' : ¬ ((1 : Int) == 1 && (Builtin.Str.strSliceIndices lo hi 1 (strOf cs).length).length == (strOf cs).length) = true := h
    rw [if_neg h'] at e
    have e' : ({ cps := ((Builtin.Str.strSliceIndices lo hi ((Option.map (·.1) (none : Option (Int × Tok))).getD 1) (strOf cs).length).filterMap fun x => (strOf cs).cps[x]?).toArray } : Str) = strOf (cut cs lo hi) := e
    rw [e']
    refine ⟨?_, .str (strOf (cut cs lo hi)), H, I.tok _, ⟨_, rfl⟩, q⟩
    have : (strOf (cut cs lo hi)).length = (cut cs lo hi).length := by simp [Str.length, strOf]
    rw [this]
    refine Nat.le_trans ?_ hz
    unfold cut
    rw [List.length_take, List.length_drop]
    omega
theorem sl_V : SlR X (rMS X slV) := by
  refine SlR.weak (SlR.or sl_list (SlR.or sl_tup (SlR.or sl_tupW sl_str))) ?_
  rintro x lo hi H Q ⟨μ, st, dx, hs, hx, hp⟩
  cases dx with
  | loc n =>
    rw [RepV.loc_iff] at hx
    obtain ⟨p, h1, rfl⟩ := hx
    simp only [slV] at hp
    cases e : itemsAt st n with
    | none => rw [e] at hp; exact hp.elim
    | some ds =>
      rw [e] at hp
      obtain ⟨p', xs, h3, h4, h5⟩ := hs.items e
      rw [h1] at h3; cases h3
      exact .inl ⟨p, xs, rfl, h4, fun q hq => hp.newList hs (h5.cut lo hi) hq⟩
  | tup ds =>
    rw [RepV.tup_iff] at hx
    obtain ⟨p, xs, rfl, h1, h2⟩ := hx
    by_cases hw : HT.sIx xs.length 0 lo = 0 ∧ HT.sIx xs.length xs.length hi = xs.length
    · refine .inr (.inr (.inl ⟨p, xs, rfl, h1.sqT, hw, hp.ret hs ?_⟩))
      rw [← h2.length] at hw
      rw [cut_whole hw]; exact RepV.tup_iff.mpr ⟨p, xs, rfl, h1, h2⟩
    · exact .inr (.inl ⟨p, xs, rfl, h1.sqT, hw, fun q hq => hp _ _ μ (Grow.lay hq) (hs.lay hq) (RepV.tup_iff.mpr ⟨q, _, rfl, .inl upd_same, (h2.cut lo hi).mono (Grow.lay hq) _⟩)⟩)
  | str cs =>
    rw [RepV.str_iff] at hx; subst hx
    simp only [slV] at hp
    split at hp
    · rename_i hl
      exact .inr (.inr (.inr ⟨cs, rfl, lim_ok hl, hp.ret hs (RepV.str_iff.mpr rfl)⟩))
    · exact hp.elim
  | _ => exact hp.elim
def inP (m : ME) : MP := fun env st => (m env st).bind fun x st1 => match x with | .int i => .ok (some i) st1 | _ => .bad
theorem jp_some {m : ME} (h : JE X e m) : JP X (some e) (inP m) := by
  refine JP.of (po_some h) fun σ H Q ⟨μ, env, st, hE, hs, hp⟩ => ⟨μ, env, st, hE, hs, hp.bind.imp ?_⟩
  rintro x H1 ⟨μ1, st1, d, g1, hs1, hx, hp1⟩
  cases d with
  | int i => exact ⟨i, RepV.int_iff.mp hx, hp1.ret hs1 rfl⟩
  | _ => exact hp1.elim
def slE (a : ME) (l h : MP) : ME := fun env st => (a env st).bind fun x st1 => (l env st1).bind fun lo st2 => (h env st2).bind fun hi st3 => slV x lo hi st3
theorem je_slice {lo hi : Option Expr} {ml mh : MP} (he : JE X e ma) (hl : JP X lo ml) (hu : JP X hi mh) : JE X (.Subscript e (.Slice lo hi none p2) pos) (slE ma ml mh) := by
  refine JE.of (pe_slice sl_V he hl hu) fun σ H Q ⟨μ, env, st, hE, hs, hp⟩ => ⟨μ, env, st, hE, hs, hp.bind.imp ?_⟩
  rintro x H1 ⟨μ1, st1, d, g1, hs1, hx, hp1⟩
  refine ⟨μ1, env, st1, hE.mono g1, hs1, hp1.bind.imp ?_⟩
  rintro l H2 ⟨μ2, st2, l', g2, hs2, rfl, hp2⟩
  refine ⟨μ2, env, st2, (hE.mono g1).mono g2, hs2, hp2.bind.imp ?_⟩
  rintro u H3 ⟨μ3, st3, u', g3, hs3, rfl, hp3⟩
  exact ⟨μ3, st3, d, hs3, hx.mono (g2.trans g3) _, hp3⟩
/-! ### calls of built-ins and their methods -/
def callE (g : List D → Stor → R D) (mA : MA) : ME := fun env st => (mA env st).bind fun ds st1 => g ds st1
theorem tMA_call {g : List D → Stor → R D} {σ : L2.St} {H : Hp} {Q : VK} (h : tM X (callE g mA) σ H Q) : tMA X mA σ H fun vs H1 => rMC X g vs H1 Q := by
  obtain ⟨μ, env, st, hE, hs, hp⟩ := h
  refine ⟨μ, env, st, hE, hs, hp.bind.imp ?_⟩
  rintro xs H1 ⟨μ1, st1, ds, g1, hs1, hx, hp1⟩
  exact ⟨μ1, st1, ds, hs1, hx, hp1⟩
theorem je_callB {x : Str} {p : Pos} {id : String} {g : List D → Stor → R D} (hc : CallR X (.builtin id) (rMC X g)) (hg : Gl X x) (hm : X.mg x = none) (hv : bootBuiltins x = some (.builtin id)) (ha : JA X (e :: es) mA) (hn : x ≠ "__name__" := by decide) (hdb : (x == ("__debug__" : Str)) = false := by decide)
    (he : starEach (e :: es) X.env = (false, eval e X.env) :: starEach es X.env := by rfl) (hpl : (backTo pos (starEach es X.env)).any (·.1) = false := by rfl) : JE X (.Call (.Name x p) (e :: es) [] pos) (callE g mA) :=
  JE.of (pe_callB hc hg hm hv ha hn hdb he hpl) fun σ H Q h => tMA_call h
theorem je_callTy {x : Str} {p : Pos} {T : String} {g : List D → Stor → R D} (hc : CallR X (.type T) (rMC X g)) (hg : Gl X x) (hm : X.mg x = none) (hv : bootBuiltins x = some (.type T)) (ha : JA X (e :: es) mA) (hn : x ≠ "__name__" := by decide) (hdb : (x == ("__debug__" : Str)) = false := by decide)
    (he : starEach (e :: es) X.env = (false, eval e X.env) :: starEach es X.env := by rfl) (hpl : (backTo pos (starEach es X.env)).any (·.1) = false := by rfl) : JE X (.Call (.Name x p) (e :: es) [] pos) (callE g mA) :=
  JE.of (pe_callTy hc hg hm hv ha hn hdb he hpl) fun σ H Q h => tMA_call h
end
end M
namespace M
open PySem PySem.Spec L2
/-! ### statements -/
inductive Out where
  | nx (env : MEnv) | rt (d : D) | bk (env : MEnv) | cn (env : MEnv)
abbrev MS := MEnv → Stor → R Out
def PostS (X : Cx) (μ : List Addr) (H : Hp) (E : Ends) (r : R Out) : Prop := match r with
  | .ok (.nx env) st => ∀ (σ' : L2.St) (H' : Hp) (μ' : List Addr), Grow μ H μ' H' → RepS X.K μ' H' st → RepE X.K μ' H' env σ' → E.nx σ' H'
  | .ok (.rt d) st => ∀ (v : V) (H' : Hp) (μ' : List Addr), Grow μ H μ' H' → RepS X.K μ' H' st → RepV X.K μ' H' d v → E.rt v H'
  | .ok (.bk env) st => ∀ (σ' : L2.St) (H' : Hp) (μ' : List Addr), Grow μ H μ' H' → RepS X.K μ' H' st → RepE X.K μ' H' env σ' → E.bk σ' H'
  | .ok (.cn env) st => ∀ (σ' : L2.St) (H' : Hp) (μ' : List Addr), Grow μ H μ' H' → RepS X.K μ' H' st → RepE X.K μ' H' env σ' → E.ct σ' H'
  | .err x st => ErrOK X μ H x st
  | .bad => False
def tMS (X : Cx) (m : MS) : TS := fun E σ H => ∃ μ env st, RepE X.K μ H env σ ∧ RepS X.K μ H st ∧ PostS X μ H E (m env st)
def JS (X : Cx) (s : Stmt) (m : MS) : Prop := PS X s (tMS X m)
def JSs (X : Cx) (s : List Stmt) (m : MS) : Prop := PSs X s (tMS X m)
section
variable {X : Cx} {e a b c : Expr} {es : List Expr} {t : TE} {ma mb mc : ME} {mA : MA} {pos p2 : Pos} {s : Stmt} {ss : List Stmt} {m m1 m2 : MS} {μ μ1 : List Addr} {H H1 : Hp} {E E' : Ends} {r : R Out}
theorem PostS.mono (g : Grow μ H μ1 H1) (h : PostS X μ H E r) : PostS X μ1 H1 E r := by
  match r, h with
  | .ok (.nx _) _, h => exact fun σ' H' μ' g' => h σ' H' μ' (g.trans g')
  | .ok (.rt _) _, h => exact fun σ' H' μ' g' => h σ' H' μ' (g.trans g')
  | .ok (.bk _) _, h => exact fun σ' H' μ' g' => h σ' H' μ' (g.trans g')
  | .ok (.cn _) _, h => exact fun σ' H' μ' g' => h σ' H' μ' (g.trans g')
  | .err _ _, h => exact ErrOK.mono g h
  | .bad, h => exact h
theorem JS.of {t : TS} (h : PS X s t) (k : ∀ E σ H, tMS X m E σ H → t E σ H) : JS X s m := fun pins s σ H D I q => h pins s σ H D I (k D σ H q)
theorem JSs.of {t : TS} (h : PSs X ss t) (k : ∀ E σ H, tMS X m E σ H → t E σ H) : JSs X ss m := fun pins s σ H D I q => h pins s σ H D I (k D σ H q)
theorem PostS.nx {env : MEnv} {st : Stor} {σ : L2.St} (h : PostS X μ H E (.ok (.nx env) st)) (hs : RepS X.K μ H st) (hE : RepE X.K μ H env σ) : E.nx σ H := h σ H μ (.refl _ _) hs hE
def skipS : MS := fun env st => .ok (.nx env) st
def seqS (a b : MS) : MS := fun env st => (a env st).bind fun o st1 => match o with | .nx env1 => b env1 st1 | o => .ok o st1
def retS (m : ME) : MS := fun env st => (m env st).bind fun d st1 => .ok (.rt d) st1
def exprS (m : ME) : MS := fun env st => (m env st).bind fun _ st1 => .ok (.nx env) st1
def ifS (c : MT) (a b : MS) : MS := fun env st => (c env st).bind fun x st1 => if x then a env st1 else b env st1
theorem js_nil : JSs X [] skipS := JSs.of pss_nil fun E σ H ⟨μ, env, st, hE, hs, hp⟩ => hp.nx hs hE
theorem js_one (h : JS X s m) : JSs X [s] m := pss_one h
theorem PostS.seq (h : PostS X μ H E (r.bind fun o st1 => match o with | .nx env1 => m2 env1 st1 | o => .ok o st1)) : PostS X μ H { E with nx := tMS X m2 E } r := by
  match r, h with
  | .ok (.nx env1) st1, h => exact fun σ' H' μ' g hs hE => ⟨μ', env1, st1, hE, hs, PostS.mono g h⟩
  | .ok (.rt _) _, h => exact h
  | .ok (.bk _) _, h => exact h
  | .ok (.cn _) _, h => exact h
  | .err _ _, h => exact h
  | .bad, h => exact h
theorem js_cons (h1 : JS X s m1) (h2 : JSs X ss m2) : JSs X (s :: ss) (seqS m1 m2) :=
  JSs.of (pss_cons h1 h2) fun E σ H ⟨μ, env, st, hE, hs, hp⟩ => ⟨μ, env, st, hE, hs, PostS.seq hp⟩
/-- an expression's value handed to a statement's rest -/
theorem PostS.val {α β : Type} {rel : Rel α β} {r : R α} {f : α → Stor → R Out} (h : PostS X μ H E (r.bind f)) : Post X μ H rel (fun b H1 => ∃ μ1 st1 a, Grow μ H μ1 H1 ∧ RepS X.K μ1 H1 st1 ∧ rel μ1 H1 a b ∧ PostS X μ1 H1 E (f a st1)) r := by
  cases r with
  | ok a st => exact fun b H' μ' g h1 h2 => ⟨μ', st, a, g, h1, h2, PostS.mono g h⟩
  | err x st => exact h
  | bad => exact h
theorem js_ret (h : JE X e ma) : JS X (.Return (some e) pos) (retS ma) := by
  refine JS.of (ps_ret h) fun E σ H ⟨μ, env, st, hE, hs, hp⟩ => ⟨μ, env, st, hE, hs, hp.val.imp ?_⟩
  rintro v H1 ⟨μ1, st1, d, g1, hs1, hv, hp1⟩
  exact hp1 v H1 μ1 (.refl _ _) hs1 hv
theorem js_expr (h : JE X e ma) (hs : swapsWith e none pos.line X.env = pure false := by rfl) : JS X (.Expr e pos) (exprS ma) := by
  refine JS.of (ps_expr h hs) fun E σ H ⟨μ, env, st, hE, hs, hp⟩ => ⟨μ, env, st, hE, hs, hp.val.imp ?_⟩
  rintro v H1 ⟨μ1, st1, d, g1, hs1, hv, hp1⟩
  exact hp1.nx hs1 (hE.mono g1)
theorem js_if {sa sb : List Stmt} {tc : MT} (hc : JT X c tc) (ha : JSs X sa m1) (hb : JSs X sb m2) : JS X (.If c sa sb pos) (ifS tc m1 m2) := by
  refine JS.of (ps_if hc ha hb) fun E σ H ⟨μ, env, st, hE, hs, hp⟩ => ⟨μ, env, st, hE, hs, hp.val.imp ?_⟩
  rintro v H1 ⟨μ1, st1, d, g1, hs1, rfl, hp1⟩
  cases d with
  | true => exact iteT ⟨μ1, env, st1, hE.mono g1, hs1, hp1⟩
  | false => exact iteF ⟨μ1, env, st1, hE.mono g1, hs1, hp1⟩
/-! ### targets -/
abbrev MG := D → MEnv → Stor → R MEnv
abbrev MGs := List D → MEnv → Stor → R MEnv
abbrev relE (X : Cx) : Rel MEnv L2.St := fun μ H env σ => RepE X.K μ H env σ
def tMG (X : Cx) (m : MG) : TG := fun v σ H Q => ∃ μ env st d, RepE X.K μ H env σ ∧ RepS X.K μ H st ∧ RepV X.K μ H d v ∧ Post X μ H (relE X) Q (m d env st)
def tMGs (X : Cx) (m : MGs) : TGs := fun vs σ H Q => ∃ μ env st ds, RepE X.K μ H env σ ∧ RepS X.K μ H st ∧ RepVs X.K μ H ds vs ∧ Post X μ H (relE X) Q (m ds env st)
def JG (X : Cx) (t : Expr) (m : MG) : Prop := PG X t (tMG X m)
def JGs (X : Cx) (ts : List Expr) (m : MGs) : Prop := PGs X ts (tMGs X m)
theorem JG.of {g : TG} {m : MG} (h : PG X e g) (k : ∀ v σ H Q, tMG X m v σ H Q → g v σ H Q) : JG X e m := fun pins s σ H v u Q I r q => h pins s σ H v u Q I r (k v σ H Q q)
theorem JGs.of {g : TGs} {m : MGs} (h : PGs X es g) (k : ∀ v σ H Q, tMGs X m v σ H Q → g v σ H Q) : JGs X es m := fun pins s σ H v u Q I r q => h pins s σ H v u Q I r (k v σ H Q q)
def nameG (i : Nat) : MG := fun d env st => .ok (env.set i (some d)) st
theorem jg_name (i : Nat) {x : Str} (hN : X.N.Nodup) (hi : X.N[i]? = some x := by rfl) (hx : Loc X.env.scope x := by first | exact Or.inl rfl | exact Or.inr rfl) (hf : X.fn x = true ∨ X.env.scope.names.lookup x = some .local := by first | exact .inl rfl | exact .inr rfl | assumption) : JG X (.Name x pos) (nameG i) :=
  JG.of (pg_name hN hi hx hf) fun v σ H Q ⟨μ, env, st, d, hE, hs, hv, hp⟩ => hp.ret hs (hE.set hv)
def nilG : MGs := fun ds env st => match ds with | [] => .ok env st | _ => .bad
def consG (g : MG) (r : MGs) : MGs := fun ds env st => match ds with | d :: ds => (g d env st).bind fun env1 st1 => r ds env1 st1 | _ => .bad
theorem jgs_nil : JGs X [] nilG := JGs.of pgs_nil fun vs σ H Q ⟨μ, env, st, ds, hE, hs, hv, hp⟩ => by
  cases ds with
  | nil => rw [RepVs] at hv; exact ⟨hv, hp.ret hs hE⟩
  | cons _ _ => exact hp.elim
theorem jgs_cons {g : MG} {gs : MGs} (h1 : JG X e g) (h2 : JGs X es gs) (hs : (assignEach (e :: es) X.env).map (·.2) = assign e X.env :: (assignEach es X.env).map (·.2) := by rfl) : JGs X (e :: es) (consG g gs) :=
  JGs.of (pgs_cons h1 h2 hs) fun vs σ H Q ⟨μ, env, st, ds, hE, hs, hv, hp⟩ => by
  cases ds with
  | nil => exact hp.elim
  | cons d ds =>
    rw [RepVs] at hv
    obtain ⟨v, r, rfl, h3, h4⟩ := hv
    refine ⟨v, r, rfl, μ, env, st, d, hE, hs, h3, (Post.bind hp).imp ?_⟩
    rintro σ1 H1 ⟨μ1, st1, env1, g1, hs1, hE1, hp1⟩
    exact ⟨μ1, env1, st1, ds, hE1, hs1, h4.mono g1 _, hp1⟩
def tupG (n : Nat) (g : MGs) : MG := fun d env st => match d with | .tup ds => if ds.length = n then g ds env st else .bad | _ => .bad
theorem jg_tup {gs : MGs} {k : Nat} (n : Nat) (hc : X.calm = true) (h : JGs X es gs) (hn : (assignEach es X.env).length = n := by rfl) (hst : (assignEach es X.env).findIdx? (·.1) = none := by rfl) : JG X (.Tuple es k pos) (tupG n gs) :=
  JG.of (pg_tup hc h hn hst) fun v σ H Q ⟨μ, env, st, d, hE, hs, hv, hp⟩ => by
  cases d with
  | tup ds =>
    rw [RepV.tup_iff] at hv
    obtain ⟨p, xs, rfl, h1, h2⟩ := hv
    simp only [tupG] at hp
    split at hp
    · rename_i hl
      exact ⟨p, xs, rfl, h1.sqT, by rw [← h2.length]; exact hl, μ, env, st, ds, hE, hs, h2, hp⟩
    · exact hp.elim
  | _ => exact hp.elim
/-- o[i] = v of a list -/
def setV : D → D → D → Stor → R Unit
  | .loc n, .int i, d, st => match st[n]? with
    | some (.lst ds) => (match ixN ds.length i with | some j => .ok () (st.set n (.lst (ds.set j d))) | none => .bad)
    | _ => .bad
  | _, _, _, _ => .bad
abbrev relU : Rel Unit Unit := fun _ _ _ _ => True
def rMSet (X : Cx) (g : D → D → D → Stor → R Unit) : TSet := fun o i v H Q => ∃ μ st d1 d2 d3, RepS X.K μ H st ∧ RepV X.K μ H d1 o ∧ RepV X.K μ H d2 i ∧ RepV X.K μ H d3 v ∧ Post X μ H relU (fun _ => Q) (g d1 d2 d3 st)
/-- a list of the store is written -/
theorem putLst {st : Stor} {n : Nat} {ds ds' : List D} {p : Addr} {xs ys : List V} (hs : RepS X.K μ H st) (e : st[n]? = some (.lst ds)) (hp : μ[n]? = some p) (hx : H p = some (.lst xs)) (hy : RepVs X.K μ H ds' ys) :
    Grow μ H μ (upd H p (.lst ys)) ∧ RepS X.K μ (upd H p (.lst ys)) (st.set n (.lst ds')) := by
  have g : Ext H (upd H p (.lst ys)) := Ext.mut hx (fun _ z => nomatch z) (fun _ _ z => nomatch z)
  have g' : Grow μ H μ (upd H p (.lst ys)) := ⟨⟨[], by simp⟩, g⟩
  exact ⟨g', hs.put e rfl rfl hp g ⟨ys, upd_same, hy.mono g' _⟩⟩
theorem set_V : PSet X (rMSet X setV) := by
  refine PSet.weak set_list ?_
  rintro o i v H Q ⟨μ, st, d1, d2, d3, hs, h1, h2, h3, hp⟩
  cases d1 with
  | loc n =>
    cases d2 with
    | int k =>
      rw [RepV.loc_iff] at h1
      rw [RepV.int_iff] at h2
      obtain ⟨p, hn, rfl⟩ := h1
      subst h2
      simp only [setV] at hp
      cases e : st[n]? with
      | none => rw [e] at hp; exact hp.elim
      | some mo =>
        cases mo with
        | lst ds =>
          rw [e] at hp
          simp only at hp
          obtain ⟨p', xs, q1, q2, q3⟩ := hs.lst e
          rw [hn] at q1; cases q1
          cases e2 : ixN ds.length k with
          | none => rw [e2] at hp; exact hp.elim
          | some j =>
            rw [e2] at hp
            obtain ⟨g, hs'⟩ := putLst hs e hn q2 (RepVs.set h3 j q3)
            exact ⟨p, xs, k, j, rfl, rfl, q2, by rw [← q3.length]; exact e2, hp () _ μ g hs' trivial⟩
        | _ => rw [e] at hp; exact hp.elim
    | _ => exact hp.elim
  | _ => exact hp.elim
def subG (g : D → D → D → Stor → R Unit) (o i : ME) : MG := fun d env st => (o env st).bind fun x st1 => (i env st1).bind fun y st2 => (g x y d st2).bind fun _ st3 => .ok env st3
theorem jg_sub {o i : Expr} {mo mi : ME} {g : D → D → D → Stor → R Unit} (hset : PSet X (rMSet X g)) (ho : JE X o mo) (hi : JE X i mi)
    (ha : ∀ v, assign (.Subscript o i pos) X.env v = (do
      let ov ← holding [v] (eval o X.env)
      let iv ← holding [v, ov] (eval i X.env)
      standAt pos
      holding [v, ov, iv] (setItem ov iv v)
      release [v, ov, iv] []) := by intro _; rfl) : JG X (.Subscript o i pos) (subG g mo mi) := by
  refine JG.of (pg_sub ho hi hset ha) fun v σ H Q ⟨μ, env, st, d, hE, hs, hv, hp⟩ => ⟨μ, env, st, hE, hs, (Post.bind hp).imp ?_⟩
  rintro x H1 ⟨μ1, st1, dx, g1, hs1, hx, hp1⟩
  refine ⟨μ1, env, st1, hE.mono g1, hs1, (Post.bind hp1).imp ?_⟩
  rintro y H2 ⟨μ2, st2, dy, g2, hs2, hy, hp2⟩
  refine ⟨μ2, st2, dx, dy, d, hs2, hx.mono g2 _, hy, (hv.mono g1 _).mono g2 _, (Post.bind hp2).imp ?_⟩
  rintro _ H3 ⟨μ3, st3, _, g3, hs3, _, hp3⟩
  exact hp3.ret hs3 (((hE.mono g1).mono g2).mono g3)
def asgS (m : ME) (g : MG) : MS := fun env st => (m env st).bind fun d st1 => (g d env st1).bind fun env1 st2 => .ok (.nx env1) st2
theorem js_asg {tg : Expr} {g : MG} (he : JE X e ma) (hg : JG X tg g) (hs : swapsWithSole [tg] e pos.line X.env = pure false := by rfl) (hw : swappedStores [tg] e X.env = pure none := by rfl) (h1 : (assignEach [tg] X.env).map (·.2) = [assign tg X.env] := by rfl) : JS X (.Assign [tg] e pos) (asgS ma g) := by
  refine JS.of (ps_asg he hg hs hw h1) fun E σ H ⟨μ, env, st, hE, hs, hp⟩ => ⟨μ, env, st, hE, hs, hp.val.imp ?_⟩
  rintro x H1 ⟨μ1, st1, d, g1, hs1, hx, hp1⟩
  refine ⟨μ1, env, st1, d, hE.mono g1, hs1, hx, hp1.val.imp ?_⟩
  rintro σ2 H2 ⟨μ2, st2, env2, g2, hs2, hE2, hp2⟩
  exact hp2.nx hs2 hE2
def setS (i : Nat) (m : ME) : MS := asgS m (nameG i)
/-- name = value -/
theorem js_set (i : Nat) {x : Str} {pos' : Pos} (he : JE X e ma) (hN : X.N.Nodup) (hi : X.N[i]? = some x := by rfl) (hx : Loc X.env.scope x := by first | exact Or.inl rfl | exact Or.inr rfl) (hs : swapsWith e (some (.Name x pos')) pos.line X.env = pure false := by rfl)
    (hf : X.fn x = true ∨ X.env.scope.names.lookup x = some .local := by first | exact .inl rfl | exact .inr rfl | assumption) : JS X (.Assign [.Name x pos'] e pos) (setS i ma) := by
  refine JS.of (ps_set hN hi hx he hs hf) fun E σ H ⟨μ, env, st, hE, hs, hp⟩ => ⟨μ, env, st, hE, hs, hp.val.imp ?_⟩
  rintro x H1 ⟨μ1, st1, d, g1, hs1, hx, hp1⟩
  exact hp1.nx hs1 ((hE.mono g1).set hx)
end
end M
namespace M
open PySem PySem.Spec L2
/-! ### while -/
section
variable {X : Cx} {e a b c : Expr} {es : List Expr} {t : TE} {ma mb mc : ME} {mA : MA} {pos p2 : Pos} {s : Stmt} {ss body : List Stmt} {m m1 m2 mb : MS} {μ μ1 : List Addr} {H H1 : Hp} {E E' : Ends} {r : R Out} {tc : MT}
/-- what a loop's body hands on -/
theorem PostS.loop {nxt : MEnv → Stor → R Out} {N : L2.St → Hp → Prop}
    (h : PostS X μ H E (r.bind fun o st2 => (match o with
      | .nx env2 => nxt env2 st2
      | .cn env2 => nxt env2 st2
      | .bk env2 => .ok (.nx env2) st2
      | .rt d => .ok (.rt d) st2)))
    (hN : ∀ env2 st2 σ' H' μ', Grow μ H μ' H' → RepS X.K μ' H' st2 → RepE X.K μ' H' env2 σ' → PostS X μ' H' E (nxt env2 st2) → N σ' H') :
    PostS X μ H { E with nx := N, ct := N, bk := E.nx } r := by
  match r, h with
  | .ok (.nx env1) st1, h => exact fun σ' H' μ' g hs hE => hN env1 st1 σ' H' μ' g hs hE (PostS.mono g h)
  | .ok (.cn env1) st1, h => exact fun σ' H' μ' g hs hE => hN env1 st1 σ' H' μ' g hs hE (PostS.mono g h)
  | .ok (.rt _) _, h => exact h
  | .ok (.bk _) _, h => exact h
  | .err _ _, h => exact h
  | .bad, h => exact h
/-! ### what is walked -/
/-- the items, and the objects of the store that must stay as they are meanwhile -/
abbrev Src := List D × List (Nat × MO)
abbrev MI := MEnv → Stor → R Src
def okG (gs : List (Nat × MO)) (st : Stor) : Prop := ∀ g ∈ gs, st[g.1]? = some g.2
@[simp] theorem okG_nil (st : Stor) : okG [] st := fun _ h => nomatch h
@[simp] theorem okG_cons (g : Nat × MO) (gs : List (Nat × MO)) (st : Stor) : okG (g :: gs) st ↔ st[g.1]? = some g.2 ∧ okG gs st := by simp [okG]
def ItRep (X : Cx) (μ : List Addr) (H : Hp) (J : It) (s : Src) : Prop := ∀ (H' : Hp) (μ' : List Addr) (st' : Stor), Grow μ H μ' H' → RepS X.K μ' H' st' → okG s.2 st' →
  (∀ (i : Nat) (d : D), s.1[i]? = some d → J.go i H' ∧ ∀ x H'', J.yld i H' x H'' → Grow μ' H' μ' H'' ∧ RepS X.K μ' H'' st' ∧ RepV X.K μ' H'' d x) ∧ J.stop s.1.length H'
abbrev relI (X : Cx) : Rel Src It := fun μ H s J => ItRep X μ H J s
def tMI (X : Cx) (m : MI) : TI := fun σ H Q => ∃ μ env st, RepE X.K μ H env σ ∧ RepS X.K μ H st ∧ Post X μ H (relI X) (fun J H' => Q J H') (m env st)
def JI (X : Cx) (tg iter : Expr) (m : MI) : Prop := PI X tg iter (tMI X m)
theorem JI.of {tg iter : Expr} {wi : TI} {m : MI} (h : PI X tg iter wi) (k : ∀ σ H Q, tMI X m σ H Q → wi σ H Q) : JI X tg iter m := fun pins s σ H R I q => h pins s σ H R I (k σ H R q)
open Classical in
noncomputable def forGo (g : MG) (b : MS) (gs : List (Nat × MO)) : List D → MS
  | [], env, st => if okG gs st then .ok (.nx env) st else .bad
  | d :: r, env, st => if okG gs st then (g d env st).bind fun env1 st1 => (b env1 st1).bind fun o st2 => (match o with
      | .nx env2 => forGo g b gs r env2 st2
      | .cn env2 => forGo g b gs r env2 st2
      | .bk env2 => .ok (.nx env2) st2
      | .rt d => .ok (.rt d) st2) else .bad
noncomputable def forS (mi : MI) (g : MG) (b : MS) : MS := fun env st => (mi env st).bind fun s st1 => forGo g b s.2 s.1 env st1
theorem js_for {tg iter : Expr} {mi : MI} {g : MG} (hi : JI X tg iter mi) (hg : JG X tg g) (hb : JSs X body mb) (hp : PassesOwn (model X.prog X.w) X.A X.env X.xe) (hc : X.calm = true)
    (hs : ∀ x, foldedSetIterable iter X.env x = pure x := by intro _; rfl) : JS X (.For tg iter body [] pos) (forS mi g mb) := by
  refine JS.of (ps_for hp hc hi hg hb hs) fun E σ H ⟨μ, env, st, hE, hs, hp⟩ => ⟨μ, env, st, hE, hs, (PostS.val hp).imp ?_⟩
  rintro J H1 ⟨μ1, st1, s, g1, hs1, hJ, hp1⟩
  refine ⟨fun i k σ H => ∃ μ2 env2 st2, Grow μ1 H1 μ2 H ∧ RepE X.K μ2 H env2 σ ∧ RepS X.K μ2 H st2 ∧ PostS X μ2 H E (forGo g mb s.2 (s.1.drop i) env2 st2) ∧ i ≤ s.1.length ∧ k = s.1.length - i,
    ⟨_, μ1, env, st1, .refl _ _, hE.mono g1, hs1, by simpa using hp1, Nat.zero_le _, rfl⟩, ?_⟩
  rintro i k σ2 H2 ⟨μ2, env2, st2, g2, hE2, hs2, hp2, hi, rfl⟩
  by_cases hlt : i < s.1.length
  · have e1 : s.1.drop i = s.1[i] :: s.1.drop (i + 1) := List.drop_eq_getElem_cons hlt
    rw [e1, forGo] at hp2
    by_cases ok : okG s.2 st2
    · rw [if_pos ok] at hp2
      obtain ⟨q1, q2⟩ := (hJ H2 μ2 st2 g2 hs2 ok).1 i s.1[i] (List.getElem?_eq_getElem hlt)
      refine .inr ⟨q1, fun σ' H' => ∃ μ3 env3 st3, Grow μ1 H1 μ3 H' ∧ RepE X.K μ3 H' env3 σ' ∧ RepS X.K μ3 H' st3 ∧ PostS X μ3 H' E (forGo g mb s.2 (s.1.drop (i + 1)) env3 st3), ?_, ?_⟩
      · rintro σ' H' ⟨μ3, env3, st3, g3, hE3, hs3, hp3⟩
        exact ⟨s.1.length - (i + 1), by omega, μ3, env3, st3, g3, hE3, hs3, hp3, by omega, rfl⟩
      · intro x H3 hx
        obtain ⟨g3, hs3, hd⟩ := q2 x H3 hx
        refine ⟨μ2, env2, st2, s.1[i], hE2.mono g3, hs3, hd, (PostS.val (PostS.mono g3 hp2)).imp ?_⟩
        rintro σ4 H4 ⟨μ4, st4, env4, g4, hs4, hE4, hp4⟩
        refine ⟨μ4, env4, st4, hE4, hs4, ?_⟩
        exact PostS.loop (nxt := forGo g mb s.2 (s.1.drop (i + 1))) hp4 fun env5 st5 σ' H' μ' g5 hs5 hE5 q => ⟨μ', env5, st5, ((g2.trans g3).trans g4).trans g5, hE5, hs5, q⟩
    · rw [if_neg ok] at hp2; exact hp2.elim
  · have e1 : s.1.drop i = [] := List.drop_eq_nil_of_le (by omega)
    rw [e1, forGo] at hp2
    have e2 : i = s.1.length := by omega
    by_cases ok : okG s.2 st2
    · rw [if_pos ok] at hp2
      refine .inl ⟨by rw [e2]; exact (hJ H2 μ2 st2 g2 hs2 ok).2, hp2.nx hs2 hE2⟩
    · rw [if_neg ok] at hp2; exact hp2.elim
/-! ### lists, tuples, ranges walked -/
def seqI (m : ME) : MI := fun env st => (m env st).bind fun d st1 => match d with
  | .loc n => (match st1[n]? with
    | some (.lst ds) => .ok (ds, [(n, .lst ds)]) st1
    | some (.frz ds) => .ok (ds, [(n, .frz ds)]) st1
    | _ => .bad)
  | .tup ds => .ok (ds, []) st1
  | _ => .bad
theorem PI.or {tg l : Expr} {w1 w2 : TI} (h1 : PI X tg l w1) (h2 : PI X tg l w2) : PI X tg l (fun σ H R => w1 σ H R ∨ w2 σ H R) := fun pins s σ H R I h => h.elim (h1 pins s σ H R I) (h2 pins s σ H R I)
theorem itl_rep {n : Nat} {ds : List D} {p : Addr} {o : MO} {st : Stor} (ho : o = .lst ds ∨ o = .frz ds) (hp : μ[n]? = some p) : ItRep X μ H (Itl X.K p) (ds, [(n, o)]) := by
  intro H' μ' st' g hs ok
  have e : st'[n]? = some o := (ok (n, o) (by simp))
  have e2 : itemsAt st' n = some ds := by
    unfold itemsAt
    rcases ho with rfl | rfl <;> rw [e]
  obtain ⟨p', xs, q1, q2, q3⟩ := hs.items e2
  rw [g.get hp] at q1; cases q1
  refine ⟨fun i d hd => ?_, xs, q2, Nat.le_of_eq q3.length.symm⟩
  obtain ⟨v, h1, h2⟩ := q3.get hd
  refine ⟨⟨xs, v, q2, h1⟩, ?_⟩
  rintro x H'' ⟨rfl, hx⟩
  have := hx xs q2
  rw [h1] at this; cases this
  exact ⟨.refl _ _, hs, h2⟩
theorem itt_rep {ds : List D} {p : Addr} {xs : List V} (hq : SqT X.K H p xs) (hd : RepVs X.K μ H ds xs) : ItRep X μ H (Itt X.K p) (ds, []) := by
  intro H' μ' st' g hs ok
  have hq' := g.ext.sqT hq
  have hd' := hd.mono g ds
  refine ⟨fun i d e => ?_, xs, hq', Nat.le_of_eq hd.length.symm⟩
  obtain ⟨v, h1, h2⟩ := hd'.get e
  refine ⟨⟨xs, v, hq', h1⟩, ?_⟩
  rintro x H'' ⟨rfl, hx⟩
  have := hx xs hq'
  rw [h1] at this; cases this
  exact ⟨.refl _ _, hs, h2⟩
theorem ji_seq {tg l : Expr} (h : JE X l ma) : JI X tg l (seqI ma) := by
  refine JI.of (PI.or (pi_list h) (pi_tup h)) fun σ H R hh => ?_
  -- which of the two is decided by the value
  obtain ⟨μ, env, st, hE, hs, hp⟩ := hh
  unfold seqI at hp
  cases hr : ma env st with
  | bad => rw [hr] at hp; exact hp.elim
  | err x st1 =>
    rw [hr] at hp
    refine .inl ⟨μ, env, st, hE, hs, ?_⟩
    rw [hr]; exact hp
  | ok d st1 =>
    rw [hr, M.R.bind_ok] at hp
    cases d with
    | loc n =>
      simp only at hp
      refine .inl ⟨μ, env, st, hE, hs, ?_⟩
      rw [hr]
      intro v H1 μ1 g1 hs1 hv
      obtain ⟨p, q1, rfl⟩ := RepV.loc_iff.mp hv
      cases e : st1[n]? with
      | none => rw [e] at hp; exact hp.elim
      | some mo =>
        cases mo with
        | lst ds =>
          rw [e] at hp
          obtain ⟨p', xs, r1, r2, r3⟩ := hs1.lst e
          rw [q1] at r1; cases r1
          exact ⟨p, rfl, ⟨xs, SqL.of r2⟩, hp _ _ _ g1 hs1 (itl_rep (st := st1) (.inl rfl) q1)⟩
        | frz ds =>
          rw [e] at hp
          obtain ⟨p', r1, xs, r2, r3⟩ := hs1.at_ n _ e
          rw [q1] at r1; cases r1
          exact ⟨p, rfl, ⟨xs, r2.sqL⟩, hp _ _ _ g1 hs1 (itl_rep (st := st1) (.inr rfl) q1)⟩
        | _ => rw [e] at hp; exact hp.elim
    | tup ds =>
      refine .inr ⟨μ, env, st, hE, hs, ?_⟩
      rw [hr]
      intro v H1 μ1 g1 hs1 hv
      obtain ⟨p, xs, rfl, q1, q2⟩ := RepV.tup_iff.mp hv
      exact ⟨p, rfl, ⟨xs, q1.sqT⟩, hp _ _ _ g1 hs1 (itt_rep q1.sqT q2)⟩
    | _ => exact hp.elim
/-- lo, lo + 1, .. (n of them) -/
def upto (lo : Int) (n : Nat) : List D := (List.range n).map fun (k : Nat) => .int (lo + k)
def range1I (mA : MA) : MI := fun env st => (mA env st).bind fun ds st1 => match ds with
  | [.int j] => if -(2 ^ 62) ≤ j ∧ j < 2 ^ 62 then .ok (upto 0 j.toNat, []) st1 else .bad
  | _ => .bad
def range2I (mA : MA) : MI := fun env st => (mA env st).bind fun ds st1 => match ds with
  | [.int i, .int j] => if -(2 ^ 62) ≤ i ∧ i < 2 ^ 62 ∧ -(2 ^ 62) ≤ j ∧ j < 2 ^ 62 then .ok (upto i (j - i).toNat, []) st1 else .bad
  | _ => .bad
theorem itr_rep (lo : Int) (n : Nat) : ItRep X μ H (Itr lo n) (upto lo n, []) := by
  intro H' μ' st' g hs ok
  refine ⟨fun i d e => ?_, by show n ≤ _; simp [upto]⟩
  have hi : i < n := by have := (List.getElem?_eq_some_iff.mp e).1; simpa [upto] using this
  simp [upto, hi] at e
  subst e
  refine ⟨hi, ?_⟩
  rintro x H'' ⟨rfl, rfl⟩
  exact ⟨.refl _ _, hs, RepV.int_iff.mpr rfl⟩
theorem RepVs.one {K : PySem.W.Frag} {μ : List Addr} {H : Hp} {d : D} {vs : List V} (h : RepVs K μ H [d] vs) : ∃ v, vs = [v] ∧ RepV K μ H d v := by
  rw [RepVs] at h
  obtain ⟨v, r, rfl, q1, q2⟩ := h
  rw [RepVs] at q2; subst q2
  exact ⟨v, rfl, q1⟩
theorem RepVs.two {K : PySem.W.Frag} {μ : List Addr} {H : Hp} {d1 d2 : D} {vs : List V} (h : RepVs K μ H [d1, d2] vs) : ∃ v w, vs = [v, w] ∧ RepV K μ H d1 v ∧ RepV K μ H d2 w := by
  rw [RepVs] at h
  obtain ⟨v, r, rfl, q1, q2⟩ := h
  obtain ⟨w, rfl, q3⟩ := RepVs.one q2
  exact ⟨v, w, rfl, q1, q3⟩
theorem ji_range1 {tg : Expr} {p : Pos} (ha : JA X [a] mA) (hg : Gl X "range") (hm : X.mg "range" = none) (hs : starEach [a] X.env = [(false, eval a X.env)] := by rfl) : JI X tg (.Call (.Name "range" p) [a] [] pos) (range1I mA) := by
  refine JI.of (pi_range1 hg hm ha hs) fun σ H R ⟨μ, env, st, hE, hs, hp⟩ => ⟨μ, env, st, hE, hs, (Post.bind hp).imp ?_⟩
  rintro vs H1 ⟨μ1, st1, ds, g1, hs1, hv, hp1⟩
  dsimp only at hp1
  split at hp1
  · split at hp1
    · rename_i hc
      obtain ⟨v, rfl, q1⟩ := RepVs.one hv
      rw [RepV.int_iff] at q1; subst q1
      exact ⟨_, rfl, hc.1, hc.2, hp1 _ _ _ (.refl _ _) hs1 (itr_rep 0 _)⟩
    · exact hp1.elim
  · exact hp1.elim
theorem ji_range2 {tg : Expr} {p : Pos} (ha : JA X [a, b] mA) (hg : Gl X "range") (hm : X.mg "range" = none) (hs : starEach [a, b] X.env = [(false, eval a X.env), (false, eval b X.env)] := by rfl) (hs2 : starEach [b] X.env = [(false, eval b X.env)] := by rfl) : JI X tg (.Call (.Name "range" p) [a, b] [] pos) (range2I mA) := by
  refine JI.of (pi_range2 hg hm ha hs hs2) fun σ H R ⟨μ, env, st, hE, hs, hp⟩ => ⟨μ, env, st, hE, hs, (Post.bind hp).imp ?_⟩
  rintro vs H1 ⟨μ1, st1, ds, g1, hs1, hv, hp1⟩
  dsimp only at hp1
  split at hp1
  · split at hp1
    · rename_i hc
      obtain ⟨v, w, rfl, q1, q2⟩ := RepVs.two hv
      rw [RepV.int_iff] at q1 q2; subst q1 q2
      exact ⟨_, _, rfl, hc, hp1 _ _ _ (.refl _ _) hs1 (itr_rep _ _)⟩
    · exact hp1.elim
  · exact hp1.elim
end
/-! ### defs -/
abbrev FD := List D → Stor → R D
def PostF (K : PySem.W.Frag) (μ : List Addr) (H : Hp) (Q : VK) (r : R D) : Prop := match r with
  | .ok d st => ∀ (v : V) (H' : Hp) (μ' : List Addr), Grow μ H μ' H' → RepS K μ' H' st → RepV K μ' H' d v → Q v H'
  | _ => False
/-- what a def promises -/
def spM (K : PySem.W.Frag) (n : Nat) (fd : FD) : Sp := fun vs H Q _ => vs.length = n ∧ ∃ μ ds st, RepVs K μ H ds vs ∧ RepS K μ H st ∧ PostF K μ H Q (fd ds st)
def startM (n : Nat) (ds : List D) : MEnv := ds.map some ++ List.replicate (n - ds.length) none
/-- a def's body run: n names -/
def fnM (n : Nat) (m : MS) : FD := fun ds st => (m (startM n ds) st).bind fun o st1 => match o with
  | .rt d => .ok d st1
  | .nx _ => .ok .non st1
  | _ => .bad
theorem RepVs.start {K : PySem.W.Frag} {μ : List Addr} {H : Hp} {ds : List D} {vs : List V} (N : List Str) (h : RepVs K μ H ds vs) : RepE K μ H (startM N.length ds) (L2.start N vs) := by
  unfold startM L2.start
  refine ⟨by simp [h.length], fun i d e => ?_⟩
  rw [← h.length]
  by_cases hi : i < ds.length
  · rw [List.getElem?_append_left (by simpa using hi)] at e
    rw [List.getElem?_append_left (by rw [List.length_map, ← h.length]; exact hi)]
    rw [List.getElem?_map] at e ⊢
    cases q : ds[i]? with
    | none => rw [q] at e; cases e
    | some d' =>
      rw [q] at e; cases e
      obtain ⟨v, q1, q2⟩ := h.get q
      exact ⟨v, by rw [q1]; rfl, q2⟩
  · rw [List.getElem?_append_right (by simpa using hi)] at e
    rw [List.getElem?_replicate] at e
    split at e <;> cases e
section
variable {P : Program} {w : World} {K : PySem.W.Frag} {mg : Str → Option Value} {base : Heap}
/-- THE RULE for a def without exceptions: its body's denotation -/
theorem fn_ok {x qual : Str} {st : Stmt} {f : Addr} {fd : FuncData} {N ps : List Str} {k : Nat} {m : MS} (F : Fun K x qual st f fd) (S : FnScope N ps (defScope st))
    (hbody : ∀ (cdv : Value) (A : Around) (outer : List Env) (s : Shared) (H : Hp), Room k (A.deeper (PyProof.Rows.envOfC qual (defScope st) s.heap.objs.size f cdv)) →
      JSs (cxOf CX0 P w K mg base N qual (defScope st) f cdv A outer s H E0).nox (defBody st) m) : FnOk P w K mg base CX0 (k + 1) f fd ps (spM K ps.length (fnM N.length m)) := by
  refine F.ok S (fun vs H Q E h => h.1) (fun cdv A outer s H vs Q E hr h => ?_)
  obtain ⟨hl, μ, ds, sto, hv, hs, hp⟩ := h
  refine ⟨_, hbody cdv A outer s H hr, μ, startM N.length ds, sto, RepVs.start N hv, hs, ?_⟩
  unfold fnM at hp
  cases hr : m (startM N.length ds) sto with
  | bad => rw [hr] at hp; exact hp.elim
  | err x st1 => rw [hr] at hp; exact hp.elim
  | ok o st1 =>
    rw [hr] at hp
    cases o with
    | rt d => exact hp
    | nx env => exact fun σ' H' μ' g hs' _ => hp .non H' μ' g hs' (RepV.non_iff.mpr rfl)
    | bk env => exact hp.elim
    | cn env => exact hp.elim
end
section
variable {X : Cx} {e : Expr} {es : List Expr} {mA : MA} {pos p : Pos} {x : Str} {k : Nat} {f : Addr} {fd : FuncData} {ps : List Str} {F : FD} {dvs : List V} {ds : List Value} {dd : List D}
/-- f(e, ..): the written arguments, then the defaults -/
def R.sure {α : Type} (r : R α) : R α := match r with
  | .ok a st => .ok a st
  | _ => .bad
@[simp] theorem R.sure_ok {α : Type} (a : α) (st : Stor) : (R.ok a st).sure = .ok a st := by_rfl rfl
def callF (F : FD) (dd : List D) (mA : MA) : ME := fun env st => (mA env st).bind fun as st1 => (F (as ++ dd) st1).sure
theorem je_call (G : FnOk X.prog X.w X.K X.mg X.base CX0 k f fd ps (spM X.K ps.length F)) (hr : Room k X.A) (hm : X.mg x = some (.ref f)) (hk : PySem.W.keepIn X.K (.ref f) = true) (hb : Binds X.K fd ps ds) (hd : Vals dvs ds)
    (hdd : ∀ μ H, RepVs X.K μ H dd dvs) (ha : JA X (e :: es) mA) (hlen : (e :: es).length + dvs.length = ps.length := by rfl) (hg : Gl X x := by rfl) (hdb : (x == ("__debug__" : Str)) = false := by decide) (he : starEach (e :: es) X.env = (false, eval e X.env) :: starEach es X.env := by rfl) (hpl : (backTo pos (starEach es X.env)).any (·.1) = false := by rfl)
    (hA : ∀ env st as st1, mA env st = .ok as st1 → as.length = (e :: es).length := by intros; rfl) :
    JE X (.Call (.Name x p) (e :: es) [] pos) (callF F dd mA) := by
  refine JE.of (pe_call G hr hg hm hk hb hd pass0 ha hdb he hpl) fun σ H Q ⟨μ, env, st, hE, hs, hp⟩ => ⟨μ, env, st, hE, hs, ?_⟩
  cases hr : mA env st with
  | bad => unfold callF at hp; rw [hr] at hp; exact hp
  | err y st1 => unfold callF at hp; rw [hr] at hp; exact hp
  | ok as st1 =>
    unfold callF at hp
    rw [hr] at hp
    intro vs H1 μ1 g1 hs1 hv
    have hv' : RepVs X.K μ1 H1 (as ++ dd) (vs ++ dvs) := hv.append (hdd μ1 H1)
    refine ⟨?_, μ1, as ++ dd, st1, hv', hs1, ?_⟩
    · rw [List.length_append, ← hv.length, hA env st as st1 hr]; exact hlen
    · have hp2 := Post.mono g1 (show Post X μ H (relV X) Q (F (as ++ dd) st1).sure from hp)
      cases hF : F (as ++ dd) st1 with
      | ok d st2 => rw [hF] at hp2; exact hp2
      | err y st2 => rw [hF] at hp2; exact hp2.elim
      | bad => rw [hF] at hp2; exact hp2.elim
end
end M
namespace M
open PySem PySem.Spec L2
/-! ### what a call leaves behind: garbage is forgotten -/
mutual
def under (n : Nat) : D → Prop
  | .loc k => k < n
  | .tup ds => unders n ds
  | _ => True
def unders (n : Nat) : List D → Prop
  | [] => True
  | d :: ds => under n d ∧ unders n ds
end
@[simp] theorem under_non (n : Nat) : under n .non = True := by simp [under]
@[simp] theorem under_bl (n : Nat) (b : Bool) : under n (.bl b) = True := by simp [under]
@[simp] theorem under_int (n : Nat) (i : Int) : under n (.int i) = True := by simp [under]
@[simp] theorem under_str (n : Nat) (c : List Nat) : under n (.str c) = True := by simp [under]
@[simp] theorem under_tup (n : Nat) (ds : List D) : under n (.tup ds) = unders n ds := by simp [under]
@[simp] theorem under_loc (n k : Nat) : under n (.loc k) = (k < n) := by simp [under]
@[simp] theorem unders_nil (n : Nat) : unders n [] = True := by simp [unders]
@[simp] theorem unders_cons (n : Nat) (d : D) (ds : List D) : unders n (d :: ds) = (under n d ∧ unders n ds) := by simp [unders]
theorem unders_iff (n : Nat) (ds : List D) : unders n ds ↔ ∀ d ∈ ds, under n d := by
  induction ds with
  | nil => simp
  | cons d ds ih => simp [ih]
def underO (n : Nat) : MO → Prop
  | .lst ds => unders n ds
  | .frz ds => unders n ds
  | .dic kvs => ∀ p ∈ kvs, under n p.2
  | .dkc kvs => ∀ p ∈ kvs, under n p.2
  | .dkf kvs => ∀ p ∈ kvs, under n p.2
  | .dtf kvs => ∀ p ∈ kvs, under n p.2
  | .exc _ d => under n d
  | .ins _ fs => ∀ p ∈ fs, under n p.2
  | .tab _ => True
  | .clo _ _ ds => unders n ds
  | .hid => True
mutual
theorem RepV.under {K : PySem.W.Frag} {μ : List Addr} {H : Hp} : ∀ (d : D) {v : V}, RepV K μ H d v → M.under μ.length d
  | .non, _, _ => by simp
  | .bl _, _, _ => by simp
  | .int _, _, _ => by simp
  | .str _, _, _ => by simp
  | .tup ds, _, h => by
    obtain ⟨a, xs, _, _, h2⟩ := RepV.tup_iff.mp h
    rw [under_tup]; exact RepVs.unders ds h2
  | .loc n, _, h => by
    obtain ⟨a, h1, _⟩ := RepV.loc_iff.mp h
    rw [under_loc]; exact (List.getElem?_eq_some_iff.mp h1).1
theorem RepVs.unders {K : PySem.W.Frag} {μ : List Addr} {H : Hp} : ∀ (ds : List D) {vs : List V}, RepVs K μ H ds vs → M.unders μ.length ds
  | [], _, _ => by simp
  | d :: ds, _, h => by
    rw [RepVs] at h
    obtain ⟨v, r, _, h1, h2⟩ := h
    rw [unders_cons]; exact ⟨RepV.under d h1, RepVs.unders ds h2⟩
end
mutual
theorem RepV.down {K : PySem.W.Frag} {μ ν : List Addr} {H : Hp} : ∀ (d : D) {v : V}, RepV K (μ ++ ν) H d v → M.under μ.length d → RepV K μ H d v
  | .non, _, h, _ => by simpa [RepV] using h
  | .bl _, _, h, _ => by simpa [RepV] using h
  | .int _, _, h, _ => by simpa [RepV] using h
  | .str _, _, h, _ => by simpa [RepV] using h
  | .tup ds, _, h, u => by
    obtain ⟨a, xs, e, h1, h2⟩ := RepV.tup_iff.mp h
    rw [under_tup] at u
    exact RepV.tup_iff.mpr ⟨a, xs, e, h1, RepVs.down ds h2 u⟩
  | .loc n, _, h, u => by
    obtain ⟨a, h1, e⟩ := RepV.loc_iff.mp h
    rw [under_loc] at u
    rw [List.getElem?_append_left u] at h1
    exact RepV.loc_iff.mpr ⟨a, h1, e⟩
theorem RepVs.down {K : PySem.W.Frag} {μ ν : List Addr} {H : Hp} : ∀ (ds : List D) {vs : List V}, RepVs K (μ ++ ν) H ds vs → M.unders μ.length ds → RepVs K μ H ds vs
  | [], _, h, _ => by simpa [RepVs] using h
  | d :: ds, _, h, u => by
    rw [RepVs] at h ⊢
    obtain ⟨v, r, e, h1, h2⟩ := h
    rw [unders_cons] at u
    exact ⟨v, r, e, RepV.down d h1 u.1, RepVs.down ds h2 u.2⟩
end
theorem RepKV.under {κ : Type} {K : PySem.W.Frag} {μ : List Addr} {H : Hp} : ∀ {ds : List (κ × D)} {vs : List (κ × V)}, RepKV K μ H ds vs → ∀ p ∈ ds, M.under μ.length p.2
  | [], _, _, _, hp => nomatch hp
  | (k, d) :: ds, _, ⟨v, r, e, h1, h2⟩, p, hp => by
    rcases List.mem_cons.mp hp with rfl | hp
    · exact RepV.under d h1
    · exact RepKV.under h2 p hp
theorem RepKV.down {κ : Type} {K : PySem.W.Frag} {μ ν : List Addr} {H : Hp} : ∀ {ds : List (κ × D)} {vs : List (κ × V)}, RepKV K (μ ++ ν) H ds vs → (∀ p ∈ ds, M.under μ.length p.2) → RepKV K μ H ds vs
  | [], _, h, _ => h
  | (k, d) :: ds, _, ⟨v, r, e, h1, h2⟩, u => ⟨v, r, e, RepV.down d h1 (u (k, d) (by simp)), RepKV.down h2 fun p hp => u p (List.mem_cons_of_mem _ hp)⟩
theorem RepO.under {K : PySem.W.Frag} {μ : List Addr} {H : Hp} {a : Addr} {o : MO} (h : RepO K μ H a o) : underO μ.length o := by
  cases o with
  | lst ds => obtain ⟨xs, _, h2⟩ := h; exact RepVs.unders ds h2
  | frz ds => obtain ⟨xs, _, h2⟩ := h; exact RepVs.unders ds h2
  | dic ds => obtain ⟨xs, _, h2⟩ := h; exact h2.under
  | dkc ds => obtain ⟨xs, _, h2⟩ := h; exact h2.under
  | dkf ds => obtain ⟨xs, _, _, h2⟩ := h; exact h2.under
  | dtf ds => obtain ⟨xs, _, _, h2⟩ := h; exact h2.under
  | exc c d => obtain ⟨_, _, _, _, _, _, _, _, _, _, _, _, h7⟩ := h; exact RepV.under d h7
  | ins c ds => obtain ⟨_, _, xs, _, _, h2⟩ := h; exact h2.under
  | tab x => trivial
  | clo j l ds => obtain ⟨_, _, _, _, xs, _, _, _, _, _, h2⟩ := h; exact RepVs.unders ds h2
  | hid => trivial
theorem RepO.down {K : PySem.W.Frag} {μ ν : List Addr} {H : Hp} {a : Addr} {o : MO} (h : RepO K (μ ++ ν) H a o) (u : underO μ.length o) : RepO K μ H a o := by
  cases o with
  | lst ds => obtain ⟨xs, h1, h2⟩ := h; exact ⟨xs, h1, RepVs.down ds h2 u⟩
  | frz ds => obtain ⟨xs, h1, h2⟩ := h; exact ⟨xs, h1, RepVs.down ds h2 u⟩
  | dic ds => obtain ⟨xs, h1, h2⟩ := h; exact ⟨xs, h1, h2.down u⟩
  | dkc ds => obtain ⟨xs, h1, h2⟩ := h; exact ⟨xs, h1, h2.down u⟩
  | dkf ds => obtain ⟨xs, o, h1, h2⟩ := h; exact ⟨xs, o, h1, h2.down u⟩
  | dtf ds => obtain ⟨xs, o, h1, h2⟩ := h; exact ⟨xs, o, h1, h2.down u⟩
  | exc c d => obtain ⟨oe, C, dx, od, v, fs, h1, h2, h3, h4, h5, h6, h7⟩ := h; exact ⟨oe, C, dx, od, v, fs, h1, h2, h3, h4, h5, h6, RepV.down d h7 u⟩
  | ins c ds => obtain ⟨C, dx, xs, h0, h1, h2⟩ := h; exact ⟨C, dx, xs, h0, h1, h2.down u⟩
  | tab x => exact h
  | clo j l ds => obtain ⟨cl, pm, c', ctv, vs, h1, h2, h3, h4, h5, h6⟩ := h; exact ⟨cl, pm, c', ctv, vs, h1, h2, h3, h4, h5, RepVs.down ds h6 u⟩
  | hid => trivial
theorem RepO.up {K : PySem.W.Frag} {μ : List Addr} {H : Hp} {a : Addr} {o : MO} (ν : List Addr) (h : RepO K μ H a o) : RepO K (μ ++ ν) H a o := h.keep ⟨⟨ν, rfl⟩, .refl H⟩ fun _ _ q => q
theorem take_get {α : Type} {l l' : List α} (h : l'.take l.length = l) {n : Nat} {o : α} (e : l[n]? = some o) : l'[n]? = some o := by
  have hl := (List.getElem?_eq_some_iff.mp e).1
  rw [← h, List.getElem?_take] at e
  rw [if_pos hl] at e; exact e
/-- the old part of the store again -/
theorem RepS.back {K : PySem.W.Frag} {μ ν : List Addr} {H H' : Hp} {st st' : Stor} (h0 : RepS K μ H st) (h : RepS K (μ ++ ν) H' st') (ht : st'.take st.length = st) : RepS K μ H' st := by
  refine ⟨h0.len, fun n o e => ?_, fun i j a oi oj ei ej mi mj hi hj => ?_⟩
  · obtain ⟨a, h1, h2⟩ := h.at_ n o (take_get ht e)
    obtain ⟨a0, h3, h4⟩ := h0.at_ n o e
    have hn : n < μ.length := by rw [h0.len]; exact (List.getElem?_eq_some_iff.mp e).1
    rw [List.getElem?_append_left hn] at h1
    exact ⟨a, h1, h2.down h4.under⟩
  · have up : ∀ k, μ[k]? = some a → (μ ++ ν)[k]? = some a := fun k hk => by rw [List.getElem?_append_left (List.getElem?_eq_some_iff.mp hk).1]; exact hk
    exact h.uniq i j a oi oj (take_get ht ei) (take_get ht ej) mi mj (up i hi) (up j hj)
theorem RepS.back1 {K : PySem.W.Frag} {μ ν : List Addr} {H H' : Hp} {st st' : Stor} {k : Nat} {o : MO} {a : Addr} (h0 : RepS K μ H st) (h : RepS K (μ ++ ν) H' st') (ht : st'.take st.length = st) (hk : st.length ≤ k) (e : st'[k]? = some o) (u : underO st.length o) (ha : (μ ++ ν)[k]? = some a) :
    RepS K (μ ++ [a]) H' (st ++ [o]) := by
  have hb := h0.back h ht
  obtain ⟨a', q1, q2⟩ := h.at_ k o e
  rw [ha] at q1; cases q1
  have key : ∀ (n : Nat) (on : MO) (c : Addr), (st ++ [o])[n]? = some on → (μ ++ [a])[n]? = some c → (n < st.length ∧ st[n]? = some on ∧ μ[n]? = some c) ∨ (n = st.length ∧ on = o ∧ c = a) := fun n on c e1 e2 => by
    by_cases hn : n < st.length
    · rw [List.getElem?_append_left hn] at e1
      rw [List.getElem?_append_left (by rw [h0.len]; exact hn)] at e2
      exact .inl ⟨hn, e1, e2⟩
    · have hl := (List.getElem?_eq_some_iff.mp e1).1
      rw [List.length_append, List.length_singleton] at hl
      have en : n = st.length := by omega
      subst en
      rw [List.getElem?_append_right (Nat.le_refl _)] at e1
      rw [← h0.len, List.getElem?_append_right (Nat.le_refl _)] at e2
      simp at e1 e2
      exact .inr ⟨rfl, e1.symm, e2.symm⟩
  refine ⟨by simp [h0.len], fun n on e1 => ?_, fun i j c oi oj ei ej mi mj hi hj => ?_⟩
  · have hn : n < (μ ++ [a]).length := by
      have := (List.getElem?_eq_some_iff.mp e1).1
      simpa [h0.len] using this
    obtain ⟨c, hc⟩ : ∃ c, (μ ++ [a])[n]? = some c := ⟨_, List.getElem?_eq_getElem hn⟩
    rcases key n on c e1 hc with ⟨h1, h2, h3⟩ | ⟨h1, rfl, rfl⟩
    · obtain ⟨c', h4, h5⟩ := hb.at_ n on h2
      rw [h3] at h4; cases h4
      exact ⟨c, hc, h5.up _⟩
    · exact ⟨c, hc, (q2.down (by rw [h0.len]; exact u)).up _⟩
  · have up : ∀ k, μ[k]? = some c → (μ ++ ν)[k]? = some c := fun k hk => by rw [List.getElem?_append_left (List.getElem?_eq_some_iff.mp hk).1]; exact hk
    rcases key i oi c ei hi with ⟨h1, h2, h3⟩ | ⟨h1, rfl, rfl⟩
    · rcases key j oj c ej hj with ⟨g1, g2, g3⟩ | ⟨g1, rfl, rfl⟩
      · exact hb.uniq i j c oi oj h2 g2 mi mj h3 g3
      · have := h.uniq i k c oi oj (take_get ht h2) e mi mj (up i h3) ha
        omega
    · rcases key j oj c ej hj with ⟨g1, g2, g3⟩ | ⟨g1, _, _⟩
      · have := h.uniq j k c oj oi (take_get ht g2) e mj mi (up j g3) ha
        omega
      · rw [h1, g1]
open Classical in
/-- a result without what was made on the way: plain data, or one new object at the store's end -/
noncomputable def gc (st : Stor) (r : R D) : R D := match r with
  | .ok d st' => if st'.take st.length = st ∧ under st.length d then .ok d st else (match d with
    | .loc k => (match st'[k]? with
      | some o => if st'.take st.length = st ∧ st.length ≤ k ∧ underO st.length o then .ok (.loc st.length) (st ++ [o]) else .ok d st'
      | none => .ok d st')
    | d => .ok d st')
  | r => r
noncomputable def gcF (F : FD) : FD := fun ds st => gc st (F ds st)
theorem gc_post {K : PySem.W.Frag} {μ : List Addr} {H : Hp} {Q : VK} {st : Stor} {r : R D} (hs : RepS K μ H st) (h : PostF K μ H Q (gc st r)) : PostF K μ H Q r := by
  cases r with
  | bad => exact h
  | err x st' => exact h
  | ok d st' =>
    unfold gc at h
    dsimp only at h
    by_cases c1 : st'.take st.length = st ∧ under st.length d
    · rw [if_pos c1] at h
      intro v H' μ' g hs' hv
      obtain ⟨ν, rfl⟩ := g.pre
      exact h v H' μ ⟨⟨[], by simp⟩, g.ext⟩ (hs.back hs' c1.1) (RepV.down d hv (by rw [hs.len]; exact c1.2))
    · rw [if_neg c1] at h
      cases d with
      | loc k =>
        dsimp only at h
        cases e : st'[k]? with
        | none => rw [e] at h; exact h
        | some o =>
          rw [e] at h
          dsimp only at h
          by_cases c2 : st'.take st.length = st ∧ st.length ≤ k ∧ underO st.length o
          · rw [if_pos c2] at h
            intro v H' μ' g hs' hv
            obtain ⟨ν, rfl⟩ := g.pre
            obtain ⟨a, h1, rfl⟩ := RepV.loc_iff.mp hv
            refine h _ H' (μ ++ [a]) ⟨⟨[a], rfl⟩, g.ext⟩ (hs.back1 hs' c2.1 c2.2.1 e c2.2.2 h1) (RepV.loc_iff.mpr ⟨a, ?_, rfl⟩)
            rw [← hs.len]; simp
          · rw [if_neg c2] at h; exact h
      | _ => exact h
theorem sp_gc {K : PySem.W.Frag} {n : Nat} {F : FD} {vs : List V} {H : Hp} {Q : VK} {E : XK} (h : spM K n (gcF F) vs H Q E) : spM K n F vs H Q E := by
  obtain ⟨hl, μ, ds, st, h1, h2, h3⟩ := h
  exact ⟨hl, μ, ds, st, h1, h2, gc_post h2 h3⟩
/-- .. as the simplifier wants it -/
theorem gc_flat {st : Stor} {g : List MO} {d : D} (h : under st.length d) : gc st (.ok d (st ++ g)) = .ok d st := by
  unfold gc
  dsimp only
  rw [if_pos ⟨by simp, h⟩]
theorem gc_new {st : Stor} {g g' : List MO} {o : MO} (h : underO st.length o) : gc st (.ok (.loc (st.length + g.length)) (st ++ g ++ o :: g')) = .ok (.loc st.length) (st ++ [o]) := by
  unfold gc
  dsimp only
  rw [if_neg (by simp)]
  have e : (st ++ g ++ o :: g')[st.length + g.length]? = some o := by
    rw [List.getElem?_append_right (by simp)]; simp
  rw [e]
  dsimp only
  rw [if_pos ⟨by simp, by omega, h⟩]
end M
namespace M
open PySem PySem.Spec L2
section
variable {X : Cx} {e a b c : Expr} {es : List Expr} {ma mb mc : ME} {mA : MA} {pos p2 p : Pos}
/-! ### len, int, list, tuple, min, max -/
def lenV : List D → Stor → R D
  | [.str cs], st => if cs.length ≤ 1000000 then .ok (.int cs.length) st else .bad
  | [.tup ds], st => .ok (.int ds.length) st
  | [.loc n], st => match itemsAt st n with | some ds => .ok (.int ds.length) st | none => .bad
  | _, _ => .bad
theorem call_lenV : CallR X (.builtin "len") (rMC X lenV) := by
  refine CallR.weak (CallR.or call_len_str call_len_seq) ?_
  rintro xs H Q ⟨μ, st, ds, hs, hv, hp⟩
  unfold lenV at hp
  split at hp
  · rename_i cs
    split at hp
    · rename_i hl
      obtain ⟨v, rfl, q⟩ := RepVs.one hv
      rw [RepV.str_iff] at q; subst q
      exact .inl ⟨_, rfl, by rw [strOf_len]; exact lim_ok hl, by rw [strOf_len]; exact hp.ret hs (RepV.int_iff.mpr rfl)⟩
    · exact hp.elim
  · obtain ⟨v, rfl, q⟩ := RepVs.one hv
    obtain ⟨p, ys, rfl, q1, q2⟩ := RepV.tup_iff.mp q
    exact .inr ⟨p, ys, rfl, .inr q1.sqT, by rw [← q2.length]; exact hp.ret hs (RepV.int_iff.mpr rfl)⟩
  · rename_i n
    cases e : itemsAt st n with
    | none => rw [e] at hp; exact hp.elim
    | some ds =>
      rw [e] at hp
      obtain ⟨v, rfl, q⟩ := RepVs.one hv
      obtain ⟨p, q1, rfl⟩ := RepV.loc_iff.mp q
      obtain ⟨p', ys, r1, r2, r3⟩ := hs.items e
      rw [q1] at r1; cases r1
      exact .inr ⟨p, ys, rfl, .inl r2, by rw [← r3.length]; exact hp.ret hs (RepV.int_iff.mpr rfl)⟩
  · exact hp.elim
def intC : List D → Stor → R D
  | [.int i], st => .ok (.int i) st
  | [.bl k], st => .ok (.int (if k then 1 else 0)) st
  | _, _ => .bad
theorem call_intC : CallR X (.type "int") (rMC X intC) := by
  refine CallR.weak call_int1 ?_
  rintro xs H Q ⟨μ, st, ds, hs, hv, hp⟩
  unfold intC at hp
  split at hp
  · obtain ⟨v, rfl, q⟩ := RepVs.one hv
    rw [RepV.int_iff] at q; subst q
    exact .inl ⟨_, rfl, hp.ret hs (RepV.int_iff.mpr rfl)⟩
  · obtain ⟨v, rfl, q⟩ := RepVs.one hv
    rw [RepV.bl_iff] at q; subst q
    exact .inr ⟨_, rfl, hp.ret hs (RepV.int_iff.mpr rfl)⟩
  · exact hp.elim
def min2V : List D → Stor → R D
  | [.int i, .int j], st => .ok (.int (if j < i then j else i)) st
  | _, _ => .bad
theorem call_min2V (hc : X.calm = true) : CallR X (.builtin "min") (rMC X min2V) := by
  refine CallR.weak (call_min2 hc) ?_
  rintro xs H Q ⟨μ, st, ds, hs, hv, hp⟩
  unfold min2V at hp
  split at hp
  · obtain ⟨v, w, rfl, q1, q2⟩ := RepVs.two hv
    rw [RepV.int_iff] at q1 q2; subst q1 q2
    exact ⟨_, _, rfl, hp.ret hs (RepV.int_iff.mpr rfl)⟩
  · exact hp.elim
/-- list(x), tuple(x) of a list or a tuple -/
def listC : List D → Stor → R D
  | [.tup ds], st => .ok (.loc st.length) (st ++ [.lst ds])
  | [.loc n], st => match itemsAt st n with | some ds => .ok (.loc st.length) (st ++ [.lst ds]) | none => .bad
  | _, _ => .bad
theorem call_listC : CallR X (.type "list") (rMC X listC) := by
  refine CallR.weak call_list_of ?_
  rintro xs H Q ⟨μ, st, ds, hs, hv, hp⟩
  unfold listC at hp
  split at hp
  · obtain ⟨v, rfl, q⟩ := RepVs.one hv
    obtain ⟨p, ys, rfl, q1, q2⟩ := RepV.tup_iff.mp q
    exact ⟨p, ys, rfl, .inr q1.sqT, fun l hl => hp.newList hs q2 hl⟩
  · rename_i n
    cases e : itemsAt st n with
    | none => rw [e] at hp; exact hp.elim
    | some ds =>
      rw [e] at hp
      obtain ⟨v, rfl, q⟩ := RepVs.one hv
      obtain ⟨p, q1, rfl⟩ := RepV.loc_iff.mp q
      obtain ⟨p', ys, r1, r2, r3⟩ := hs.items e
      rw [q1] at r1; cases r1
      exact ⟨p, ys, rfl, .inl r2, fun l hl => hp.newList hs r3 hl⟩
  · exact hp.elim
/-! ### isinstance -/
def tyD : D → Stor → Option String
  | .non, _ => some "NoneType"
  | .bl _, _ => some "bool"
  | .int _, _ => some "int"
  | .str _, _ => some "str"
  | .tup _, _ => some "tuple"
  | .loc n, st => match st[n]? with
    | some (.lst _) => some "list"
    | some (.frz _) => some "list"
    | some (.dic _) => some "dict"
    | some (.dkc _) => some "dict"
    | _ => none
theorem isinst_D {pins : List (Addr × Obj)} {σ : L2.St} {μ : List Addr} {H : Hp} {s : Shared} {A : Around} {E : Value → Shared → Prop} {Q : Value → Shared → Prop} {cv : Value} {k : Bool} {d : D} {st : Stor} {x : V} {u : Value} {T : String}
    (I : Inv X pins σ H s) (hs : RepS X.K μ H st) (hd : RepV X.K μ H d x) (rx : RelV x u) (ht : tyD d st = some T) (e : PySem.W.kitOne X.K (.type T) cv = some k) (h : ∀ tk, Q (.bool k) { s with toks := tk }) :
    wpAny (model X.prog X.w) A (call (.builtin "isinstance") [u, cv]) Q E s := by
  cases d with
  | non => rw [RepV.non_iff] at hd; subst hd; cases ht; exact isinst_ok I rx (.non) e h
  | bl y => rw [RepV.bl_iff] at hd; subst hd; cases ht; exact isinst_ok I rx (.bl y) e h
  | int y => rw [RepV.int_iff] at hd; subst hd; cases ht; exact isinst_ok I rx (.int y) e h
  | str y => rw [RepV.str_iff] at hd; subst hd; cases ht; exact isinst_ok I rx (.str _) e h
  | tup ds =>
    obtain ⟨a, xs, rfl, q1, q2⟩ := RepV.tup_iff.mp hd
    cases ht
    obtain ⟨its, _, p, _⟩ := I.tuple (q1.sqT)
    obtain ⟨o, h1, h2, _⟩ := p
    cases (show u = Value.ref a from rx)
    exact PySem.W.kia_one PySem.W.kitx_tuple I.kIn ⟨o, h1, h2⟩ e (fun z => nomatch z) h
  | loc n =>
    obtain ⟨a, q1, rfl⟩ := RepV.loc_iff.mp hd
    simp only [tyD] at ht
    have lst : ∀ ds, itemsAt st n = some ds → PySem.W.kitOne X.K (.type "list") cv = some k → wpAny (model X.prog X.w) A (call (.builtin "isinstance") [u, cv]) Q E s := fun ds e1 e2 => by
      obtain ⟨p', ys, r1, r2, r3⟩ := hs.items e1
      rw [q1] at r1; cases r1
      obtain ⟨its, _, p, _⟩ := I.list r2
      cases (show u = Value.ref a from rx)
      exact PySem.W.kia_one PySem.W.kitx_list I.kIn p.isList.typeIs e2 (fun z => nomatch z) h
    cases e1 : st[n]? with
    | none => rw [e1] at ht; cases ht
    | some mo =>
      rw [e1] at ht
      cases mo with
      | lst ds => cases ht; exact lst ds (by unfold itemsAt; rw [e1]) e
      | frz ds => cases ht; exact lst ds (by unfold itemsAt; rw [e1]) e
      | dic kvs =>
        cases ht
        obtain ⟨p', r1, ws, r2, _⟩ := hs.at_ n _ e1
        rw [q1] at r1; cases r1
        exact isinst_ok I rx (.dT r2) e h
      | dkc kvs =>
        cases ht
        obtain ⟨p', r1, ws, r2, _⟩ := hs.at_ n _ e1
        rw [q1] at r1; cases r1
        exact isinst_ok I rx (.dK r2) e h
      | _ => cases ht
/-- what a built-in type is under -/
def subTy (t T : String) : Bool := t == T || (t == "bool" && T == "int")
def isV (T : String) : D → Stor → R D := fun d st => match tyD d st with | some t => .ok (.bl (subTy t T)) st | none => .bad
def tysD : List String := ["NoneType", "bool", "int", "str", "tuple", "list", "dict"]
theorem tyD_mem {d : D} {st : Stor} {t : String} (h : tyD d st = some t) : t ∈ tysD := by
  cases d with
  | loc n =>
    simp only [tyD] at h
    split at h <;> cases h <;> decide
  | _ => cases h; decide
def rIs (X : Cx) (T : String) : List V → Hp → VK → Prop := fun xs H Q => ∃ μ st d x, xs = [x, .ty T] ∧ RepS X.K μ H st ∧ RepV X.K μ H d x ∧ Post X μ H (relV X) Q (isV T d st)
theorem call_isV {T : String} (hT : ∀ t ∈ tysD, PySem.W.kitOne X.K (.type t) (.type T) = some (subTy t T)) : CallR X (.builtin "isinstance") (rIs X T) := by
  rintro pins s σ H xs us Q I hr ⟨μ, st, d, x, rfl, hs, hd, hp⟩
  obtain ⟨u, w', rfl, r1, r2⟩ := vals2 hr
  cases (show w' = Value.type T from r2)
  unfold isV at hp
  cases e : tyD d st with
  | none => rw [e] at hp; exact hp.elim
  | some t =>
    rw [e] at hp
    exact isinst_D I hs hd r1 e (hT t (tyD_mem e)) fun tk => ⟨.bl (subTy t T), H, I.tok tk, rfl, hp.ret hs (RepV.bl_iff.mpr rfl)⟩
theorem kit_int {K : PySem.W.Frag} : ∀ t ∈ tysD, PySem.W.kitOne K (.type t) (.type "int") = some (subTy t "int") := by
  intro t ht
  simp only [tysD, List.mem_cons, List.not_mem_nil, or_false] at ht
  rcases ht with rfl | rfl | rfl | rfl | rfl | rfl | rfl <;> rfl
theorem kit_bool {K : PySem.W.Frag} : ∀ t ∈ tysD, PySem.W.kitOne K (.type t) (.type "bool") = some (subTy t "bool") := by
  intro t ht
  simp only [tysD, List.mem_cons, List.not_mem_nil, or_false] at ht
  rcases ht with rfl | rfl | rfl | rfl | rfl | rfl | rfl <;> rfl
theorem kit_str {K : PySem.W.Frag} : ∀ t ∈ tysD, PySem.W.kitOne K (.type t) (.type "str") = some (subTy t "str") := by
  intro t ht
  simp only [tysD, List.mem_cons, List.not_mem_nil, or_false] at ht
  rcases ht with rfl | rfl | rfl | rfl | rfl | rfl | rfl <;> rfl
theorem kit_tuple {K : PySem.W.Frag} : ∀ t ∈ tysD, PySem.W.kitOne K (.type t) (.type "tuple") = some (subTy t "tuple") := by
  intro t ht
  simp only [tysD, List.mem_cons, List.not_mem_nil, or_false] at ht
  rcases ht with rfl | rfl | rfl | rfl | rfl | rfl | rfl <;> rfl
theorem kit_list {K : PySem.W.Frag} : ∀ t ∈ tysD, PySem.W.kitOne K (.type t) (.type "list") = some (subTy t "list") := by
  intro t ht
  simp only [tysD, List.mem_cons, List.not_mem_nil, or_false] at ht
  rcases ht with rfl | rfl | rfl | rfl | rfl | rfl | rfl <;> rfl
/-- isinstance(e, T) -/
theorem je_isV {T : String} {xT : Str} (hT : ∀ t ∈ tysD, PySem.W.kitOne X.K (.type t) (.type T) = some (subTy t T)) (h : JE X e ma) (hg : Gl X "isinstance") (hm : X.mg "isinstance" = none) (hgT : Gl X xT) (hmT : X.mg xT = none)
    (hv : bootBuiltins xT = some (.type T)) (hb : bootBuiltins "isinstance" = some (.builtin "isinstance")) (hnT : xT ≠ "__name__" := by decide) (hdT : (xT == ("__debug__" : Str)) = false := by decide)
    (hs1 : starEach [e, .Name xT p2] X.env = [(false, eval e X.env), (false, eval (.Name xT p2) X.env)] := by rfl) (hs2 : starEach [.Name xT p2] X.env = [(false, eval (.Name xT p2) X.env)] := by rfl) (hpl : (backTo pos (starEach [.Name xT p2] X.env)).any (·.1) = false := by rfl) :
    JE X (.Call (.Name "isinstance" p) [e, .Name xT p2] [] pos) (op1 (isV T) ma) := by
  refine JE.of (pe_callB (call_isV hT) hg hm hb (pa_cons h (pa_cons (pe_bltn (v := .ty T) hgT hmT hv rfl hnT hdT) pa_nil hs2) hs1) (by decide) (by decide) hs1 hpl) fun σ H Q ⟨μ, env, st, hE, hs, hp⟩ => ⟨μ, env, st, hE, hs, (Post.bind hp).imp ?_⟩
  rintro x H1 ⟨μ1, st1, d, g1, hs1, hx, hp1⟩
  exact ⟨μ1, st1, d, x, rfl, hs1, hx, hp1⟩
end
end M
namespace M
open PySem PySem.Spec PySem.SeqAt L2
/-! ### == of data: tuples part by part -/
mutual
def eqD : D → D → Bool
  | .non, .non => true
  | .bl a, .bl b => a == b
  | .bl a, .int b => (if a then 1 else 0) == b
  | .int a, .bl b => a == (if b then 1 else 0)
  | .int a, .int b => a == b
  | .str a, .str b => a == b
  | .tup a, .tup b => eqDs a b
  | _, _ => false
def eqDs : List D → List D → Bool
  | [], [] => true
  | a :: as, b :: bs => eqD a b && eqDs as bs
  | _, _ => false
end
/-! no list within; how deep tuples lie in one another -/
mutual
def flat : D → Bool
  | .loc _ => false
  | .tup ds => flats ds
  | _ => true
def flats : List D → Bool
  | [] => true
  | d :: ds => flat d && flats ds
end
mutual
def dep : D → Nat
  | .tup ds => deps ds + 1
  | _ => 0
def deps : List D → Nat
  | [] => 0
  | d :: ds => max (dep d) (deps ds)
end
/-! how deep == goes into both -/
mutual
def cdep : D → D → Nat
  | .tup a, .tup b => cdeps a b + 1
  | _, _ => 0
def cdeps : List D → List D → Nat
  | a :: as, b :: bs => max (cdep a b) (cdeps as bs)
  | _, _ => 0
end
@[simp] theorem cdep_tup (a b : List D) : cdep (.tup a) (.tup b) = cdeps a b + 1 := by simp [cdep]
@[simp] theorem cdep_non (d : D) : cdep .non d = 0 := by simp [cdep]
@[simp] theorem cdep_bl (b : Bool) (d : D) : cdep (.bl b) d = 0 := by simp [cdep]
@[simp] theorem cdep_int (b : Int) (d : D) : cdep (.int b) d = 0 := by simp [cdep]
@[simp] theorem cdep_str (b : List Nat) (d : D) : cdep (.str b) d = 0 := by simp [cdep]
@[simp] theorem cdep_loc (b : Nat) (d : D) : cdep (.loc b) d = 0 := by simp [cdep]
@[simp] theorem cdep_non' (d : D) : cdep d .non = 0 := by cases d <;> simp [cdep]
@[simp] theorem cdep_bl' (b : Bool) (d : D) : cdep d (.bl b) = 0 := by cases d <;> simp [cdep]
@[simp] theorem cdep_int' (b : Int) (d : D) : cdep d (.int b) = 0 := by cases d <;> simp [cdep]
@[simp] theorem cdep_str' (b : List Nat) (d : D) : cdep d (.str b) = 0 := by cases d <;> simp [cdep]
@[simp] theorem cdeps_nil (bs : List D) : cdeps [] bs = 0 := by simp [cdeps]
@[simp] theorem cdeps_nil' (as : List D) : cdeps as [] = 0 := by cases as <;> simp [cdeps]
@[simp] theorem cdeps_cons (a b : D) (as bs : List D) : cdeps (a :: as) (b :: bs) = max (cdep a b) (cdeps as bs) := by simp [cdeps]
@[simp] theorem flat_int (b : Int) : flat (.int b) = true := by simp [flat]
@[simp] theorem flat_str (b : List Nat) : flat (.str b) = true := by simp [flat]
@[simp] theorem flat_tup (b : List D) : flat (.tup b) = flats b := by simp [flat]
@[simp] theorem flats_nil : flats [] = true := by simp [flats]
@[simp] theorem flats_cons (d : D) (ds : List D) : flats (d :: ds) = (flat d && flats ds) := by simp [flats]
@[simp] theorem dep_non : dep .non = 0 := by simp [dep]
@[simp] theorem dep_bl (b : Bool) : dep (.bl b) = 0 := by simp [dep]
@[simp] theorem dep_int (b : Int) : dep (.int b) = 0 := by simp [dep]
@[simp] theorem dep_str (b : List Nat) : dep (.str b) = 0 := by simp [dep]
@[simp] theorem dep_tup (b : List D) : dep (.tup b) = deps b + 1 := by simp [dep]
@[simp] theorem deps_nil : deps [] = 0 := by simp [deps]
@[simp] theorem deps_cons (d : D) (ds : List D) : deps (d :: ds) = max (dep d) (deps ds) := by simp [deps]
mutual
theorem cdep_le : ∀ (a b : D), cdep a b ≤ dep a
  | .tup a, .tup b => by rw [cdep_tup, dep_tup]; exact Nat.succ_le_succ (cdeps_le a b)
  | .tup a, .non => by simp
  | .tup a, .bl _ => by simp
  | .tup a, .int _ => by simp
  | .tup a, .str _ => by simp
  | .tup a, .loc _ => by simp [cdep]
  | .non, _ => by simp
  | .bl _, _ => by simp
  | .int _, _ => by simp
  | .str _, _ => by simp
  | .loc _, _ => by simp
theorem cdeps_le : ∀ (a b : List D), cdeps a b ≤ deps a
  | [], b => by simp
  | a :: as, [] => by simp
  | a :: as, b :: bs => by
    rw [cdeps_cons, deps_cons]
    have h1 := cdep_le a b
    have h2 := cdeps_le as bs
    omega
end
/-- the answer at a place -/
def eqJ (as bs : List D) (j : Nat) : Bool := match as[j]?, bs[j]? with | some a, some b => eqD a b | _, _ => true
theorem eqDs_all : ∀ (as bs : List D), eqDs as bs = ((List.range (min as.length bs.length)).all (eqJ as bs) && as.length == bs.length)
  | [], [] => by simp [eqDs]
  | [], b :: bs => by simp [eqDs]
  | a :: as, [] => by simp [eqDs]
  | a :: as, b :: bs => by
    rw [eqDs, eqDs_all as bs]
    have e1 : min (a :: as).length (b :: bs).length = min as.length bs.length + 1 := by simp
    rw [e1, List.range_succ_eq_map, List.all_cons, List.all_map]
    have e2 : ((a :: as).length == (b :: bs).length) = (as.length == bs.length) := by
      rw [Bool.eq_iff_iff]; simp
    rw [e2]
    have e3 : eqJ (a :: as) (b :: bs) 0 = eqD a b := rfl
    rw [e3, Bool.and_assoc]
    rfl
mutual
theorem eqD_refl : ∀ (d : D), flat d = true → eqD d d = true
  | .non, _ => by simp [eqD]
  | .bl _, _ => by simp [eqD]
  | .int _, _ => by simp [eqD]
  | .str _, _ => by simp [eqD]
  | .tup ds, h => by rw [eqD]; exact eqDs_refl ds (by simpa using h)
  | .loc _, h => by simp [flat] at h
theorem eqDs_refl : ∀ (ds : List D), flats ds = true → eqDs ds ds = true
  | [], _ => by simp [eqDs]
  | d :: ds, h => by
    rw [flats_cons, Bool.and_eq_true] at h
    rw [eqDs, eqD_refl d h.1, eqDs_refl ds h.2]; rfl
end
section
variable {X : Cx} {pins : List (Addr × Obj)} {σ : L2.St} {μ : List Addr} {H : Hp} {s : Shared}
mutual
theorem rep_same (I : Inv X pins σ H s) : ∀ (d1 d2 : D) {v : V}, flat d1 = true → flat d2 = true → RepV X.K μ H d1 v → RepV X.K μ H d2 v → d1 = d2
  | .non, d2, _, _, f2, h1, h2 => by
    rw [RepV.non_iff] at h1; subst h1
    cases d2 with
    | non => rfl
    | bl _ => rw [RepV.bl_iff] at h2; cases h2
    | int _ => rw [RepV.int_iff] at h2; cases h2
    | str _ => rw [RepV.str_iff] at h2; cases h2
    | tup _ => obtain ⟨_, _, q, _⟩ := RepV.tup_iff.mp h2; cases q
    | loc _ => simp [flat] at f2
  | .bl b, d2, _, _, f2, h1, h2 => by
    rw [RepV.bl_iff] at h1; subst h1
    cases d2 with
    | bl _ => rw [RepV.bl_iff] at h2; cases h2; rfl
    | non => rw [RepV.non_iff] at h2; cases h2
    | int _ => rw [RepV.int_iff] at h2; cases h2
    | str _ => rw [RepV.str_iff] at h2; cases h2
    | tup _ => obtain ⟨_, _, q, _⟩ := RepV.tup_iff.mp h2; cases q
    | loc _ => simp [flat] at f2
  | .int b, d2, _, _, f2, h1, h2 => by
    rw [RepV.int_iff] at h1; subst h1
    cases d2 with
    | int _ => rw [RepV.int_iff] at h2; cases h2; rfl
    | non => rw [RepV.non_iff] at h2; cases h2
    | bl _ => rw [RepV.bl_iff] at h2; cases h2
    | str _ => rw [RepV.str_iff] at h2; cases h2
    | tup _ => obtain ⟨_, _, q, _⟩ := RepV.tup_iff.mp h2; cases q
    | loc _ => simp [flat] at f2
  | .str b, d2, _, _, f2, h1, h2 => by
    rw [RepV.str_iff] at h1; subst h1
    cases d2 with
    | str _ => rw [RepV.str_iff] at h2; injection h2 with h3; rw [strOf_inj.mp h3]
    | non => rw [RepV.non_iff] at h2; cases h2
    | bl _ => rw [RepV.bl_iff] at h2; cases h2
    | int _ => rw [RepV.int_iff] at h2; cases h2
    | tup _ => obtain ⟨_, _, q, _⟩ := RepV.tup_iff.mp h2; cases q
    | loc _ => simp [flat] at f2
  | .tup as, d2, _, f1, f2, h1, h2 => by
    obtain ⟨a, xs, rfl, q1, q2⟩ := RepV.tup_iff.mp h1
    cases d2 with
    | tup bs =>
      obtain ⟨b, ys, e, r1, r2⟩ := RepV.tup_iff.mp h2
      cases e
      rw [I.tuple_inj (r1.sqT) (q1.sqT)] at r2
      rw [reps_same I as bs (by simpa using f1) (by simpa using f2) q2 r2]
    | non => rw [RepV.non_iff] at h2; cases h2
    | bl _ => rw [RepV.bl_iff] at h2; cases h2
    | int _ => rw [RepV.int_iff] at h2; cases h2
    | str _ => rw [RepV.str_iff] at h2; cases h2
    | loc _ => simp [flat] at f2
  | .loc _, _, _, f1, _, _, _ => by simp [flat] at f1
theorem reps_same (I : Inv X pins σ H s) : ∀ (as bs : List D) {vs : List V}, flats as = true → flats bs = true → RepVs X.K μ H as vs → RepVs X.K μ H bs vs → as = bs
  | [], bs, _, _, _, h1, h2 => by
    rw [RepVs] at h1; subst h1
    cases bs with
    | nil => rfl
    | cons _ _ => rw [RepVs] at h2; obtain ⟨_, _, q, _⟩ := h2; cases q
  | a :: as, bs, _, f1, f2, h1, h2 => by
    rw [RepVs] at h1
    obtain ⟨v, r, rfl, q1, q2⟩ := h1
    cases bs with
    | nil => rw [RepVs] at h2; cases h2
    | cons b bs =>
      rw [RepVs] at h2
      obtain ⟨v', r', e, r1, r2⟩ := h2
      cases e
      rw [flats_cons, Bool.and_eq_true] at f1 f2
      rw [rep_same I a b f1.1 f2.1 q1 r1, reps_same I as bs f1.2 f2.2 q2 r2]
end
/-! the two readings at once: the items' answer, and == itself -/
mutual
theorem eq_at (I : Inv X pins σ H s) : ∀ (d1 d2 : D) {A : Around} {x y : V} {u w : Value}, flat d1 = true → flat d2 = true → A.units + cdep d1 d2 < cLine → RepV X.K μ H d1 x → RepV X.K μ H d2 y → RelV x u → RelV y w →
    EqAt A s u w (eqD d1 d2) ∧ RcAt A s u w (eqD d1 d2) ∧ RcNeAt A s u w (!eqD d1 d2)
  | d1, d2, A, x, y, u, w, f1, f2, hu, h1, h2, r1, r2 => by
    cases d1 with
    | loc _ => simp [flat] at f1
    | non =>
      rw [RepV.non_iff] at h1; subst h1
      cases (show u = Value.none from r1)
      cases d2 with
      | loc _ => simp [flat] at f2
      | non => rw [RepV.non_iff] at h2; subst h2; cases (show w = Value.none from r2); exact ⟨EqAt.same _, RcAt.none_none, RcNeAt.none_none⟩
      | bl b => rw [RepV.bl_iff] at h2; subst h2; cases (show w = Value.bool b from r2); exact ⟨EqAt.none_bool b, RcAt.none_bool b, RcNeAt.none_bool b⟩
      | int b => rw [RepV.int_iff] at h2; subst h2; obtain ⟨t, rfl⟩ := r2; exact ⟨EqAt.none_int b t, RcAt.none_int b t, RcNeAt.none_int b t⟩
      | str b => rw [RepV.str_iff] at h2; subst h2; obtain ⟨t, rfl⟩ := r2; exact ⟨EqAt.none_str _ t, RcAt.none_str _ t, RcNeAt.none_str _ t⟩
      | tup bs =>
        obtain ⟨b, ys, rfl, q1, q2⟩ := RepV.tup_iff.mp h2
        cases (show w = Value.ref b from r2)
        obtain ⟨its, _, p, _⟩ := I.tuple (q1.sqT)
        exact ⟨EqAt.none_tuple p (by omega), RcAt.none_tuple p (by omega), RcNeAt.none_tuple p (by omega)⟩
    | bl a =>
      rw [RepV.bl_iff] at h1; subst h1
      cases (show u = Value.bool a from r1)
      cases d2 with
      | loc _ => simp [flat] at f2
      | non => rw [RepV.non_iff] at h2; subst h2; cases (show w = Value.none from r2); exact ⟨EqAt.bool_none a, RcAt.bool_none a, RcNeAt.bool_none a⟩
      | bl b => rw [RepV.bl_iff] at h2; subst h2; cases (show w = Value.bool b from r2); simp only [eqD]; exact ⟨EqAt.bool_bool a b, RcAt.bool_bool a b, RcNeAt.bool_bool a b⟩
      | int b => rw [RepV.int_iff] at h2; subst h2; obtain ⟨t, rfl⟩ := r2; simp only [eqD]; exact ⟨EqAt.bool_int a b t, RcAt.bool_int a b t, RcNeAt.bool_int a b t⟩
      | str b => rw [RepV.str_iff] at h2; subst h2; obtain ⟨t, rfl⟩ := r2; exact ⟨EqAt.bool_str a _ t, RcAt.bool_str a _ t, RcNeAt.bool_str a _ t⟩
      | tup bs =>
        obtain ⟨b, ys, rfl, q1, q2⟩ := RepV.tup_iff.mp h2
        cases (show w = Value.ref b from r2)
        obtain ⟨its, _, p, _⟩ := I.tuple (q1.sqT)
        exact ⟨EqAt.bool_tuple a p (by omega), RcAt.bool_tuple a p (by omega), RcNeAt.bool_tuple a p (by omega)⟩
    | int a =>
      rw [RepV.int_iff] at h1; subst h1
      obtain ⟨ta, rfl⟩ := r1
      cases d2 with
      | loc _ => simp [flat] at f2
      | non => rw [RepV.non_iff] at h2; subst h2; cases (show w = Value.none from r2); exact ⟨EqAt.int_none a ta, RcAt.int_none a ta, RcNeAt.int_none a ta⟩
      | bl b => rw [RepV.bl_iff] at h2; subst h2; cases (show w = Value.bool b from r2); simp only [eqD]; exact ⟨EqAt.int_bool a ta b, RcAt.int_bool a ta b, RcNeAt.int_bool a ta b⟩
      | int b => rw [RepV.int_iff] at h2; subst h2; obtain ⟨t, rfl⟩ := r2; simp only [eqD]; exact ⟨EqAt.int_int a ta b t, RcAt.int_int a ta b t, RcNeAt.int_int a ta b t⟩
      | str b => rw [RepV.str_iff] at h2; subst h2; obtain ⟨t, rfl⟩ := r2; exact ⟨EqAt.int_str a ta _ t, RcAt.int_str a ta _ t, RcNeAt.int_str a ta _ t⟩
      | tup bs =>
        obtain ⟨b, ys, rfl, q1, q2⟩ := RepV.tup_iff.mp h2
        cases (show w = Value.ref b from r2)
        obtain ⟨its, _, p, _⟩ := I.tuple (q1.sqT)
        exact ⟨EqAt.int_tuple a ta p (by omega), RcAt.int_tuple a ta p (by omega), RcNeAt.int_tuple a ta p (by omega)⟩
    | str a =>
      rw [RepV.str_iff] at h1; subst h1
      obtain ⟨ta, rfl⟩ := r1
      cases d2 with
      | loc _ => simp [flat] at f2
      | non => rw [RepV.non_iff] at h2; subst h2; cases (show w = Value.none from r2); exact ⟨EqAt.str_none _ ta, RcAt.str_none _ ta, RcNeAt.str_none _ ta⟩
      | bl b => rw [RepV.bl_iff] at h2; subst h2; cases (show w = Value.bool b from r2); exact ⟨EqAt.str_bool _ ta b, RcAt.str_bool _ ta b, RcNeAt.str_bool _ ta b⟩
      | int b => rw [RepV.int_iff] at h2; subst h2; obtain ⟨t, rfl⟩ := r2; exact ⟨EqAt.str_int _ ta b t, RcAt.str_int _ ta b t, RcNeAt.str_int _ ta b t⟩
      | str b =>
        rw [RepV.str_iff] at h2; subst h2; obtain ⟨t, rfl⟩ := r2
        have e : (strOf a == strOf b) = eqD (.str a) (.str b) := by
          rw [eqD, Bool.eq_iff_iff, beq_iff_eq, beq_iff_eq]; exact strOf_inj
        rw [← e]
        exact ⟨EqAt.str_str _ ta _ t, RcAt.str_str _ ta _ t, RcNeAt.str_str _ ta _ t⟩
      | tup bs =>
        obtain ⟨b, ys, rfl, q1, q2⟩ := RepV.tup_iff.mp h2
        cases (show w = Value.ref b from r2)
        obtain ⟨its, _, p, _⟩ := I.tuple (q1.sqT)
        exact ⟨EqAt.str_tuple _ ta p (by omega), RcAt.str_tuple _ ta p (by omega), RcNeAt.str_tuple _ ta p (by omega)⟩
    | tup as =>
      have h1' := h1
      have h2' := h2
      obtain ⟨a, xs, rfl, q1, q2⟩ := RepV.tup_iff.mp h1
      cases (show u = Value.ref a from r1)
      obtain ⟨its, ra, p, _⟩ := I.tuple (q1.sqT)
      cases d2 with
      | loc _ => simp [flat] at f2
      | non => rw [RepV.non_iff] at h2; subst h2; cases (show w = Value.none from r2); exact ⟨EqAt.tuple_none p (by omega), RcAt.tuple_none p (by omega), RcNeAt.tuple_none p (by omega)⟩
      | bl b => rw [RepV.bl_iff] at h2; subst h2; cases (show w = Value.bool b from r2); exact ⟨EqAt.tuple_bool b p (by omega), RcAt.tuple_bool b p (by omega), RcNeAt.tuple_bool b p (by omega)⟩
      | int b => rw [RepV.int_iff] at h2; subst h2; obtain ⟨t, rfl⟩ := r2; exact ⟨EqAt.tuple_int b t p (by omega), RcAt.tuple_int b t p (by omega), RcNeAt.tuple_int b t p (by omega)⟩
      | str b => rw [RepV.str_iff] at h2; subst h2; obtain ⟨t, rfl⟩ := r2; exact ⟨EqAt.tuple_str _ t p (by omega), RcAt.tuple_str _ t p (by omega), RcNeAt.tuple_str _ t p (by omega)⟩
      | tup bs =>
        obtain ⟨b, ys, rfl, g1, g2⟩ := RepV.tup_iff.mp h2
        cases (show w = Value.ref b from r2)
        obtain ⟨its2, rb, p2, _⟩ := I.tuple (g1.sqT)
        rw [cdep_tup] at hu
        rw [flat_tup] at f1 f2
        have items := eqs_at I as bs (A := A.in1) f1 f2 (by show A.units + 1 + cdeps as bs < cLine; omega) q2 g2 ra rb
        have la : as.length = its.toArray.size := by rw [List.size_toArray, q2.length, ra.length]
        have lb : bs.length = its2.toArray.size := by rw [List.size_toArray, g2.length, rb.length]
        have e : ((List.range (min its.toArray.size its2.toArray.size)).all (eqJ as bs) && its.toArray.size == its2.toArray.size) = eqD (.tup as) (.tup bs) := by
          rw [eqD, eqDs_all, la, lb]
        have rc : RcAt A s (.ref a) (.ref b) (eqD (.tup as) (.tup bs)) := by
          rw [← e]
          exact RcAt.tuples p p2 (by omega) fun j j1 j2 => items j (by simpa using j1) (by simpa using j2)
        have ne : RcNeAt A s (.ref a) (.ref b) (!eqD (.tup as) (.tup bs)) := by
          rw [← e]
          exact RcNeAt.tuples p p2 (by omega) fun j j1 j2 => items j (by simpa using j1) (by simpa using j2)
        refine ⟨?_, rc, ne⟩
        by_cases hab : a = b
        · subst hab
          have : (D.tup as) = .tup bs := rep_same I _ _ (by simpa using f1) (by simpa using f2) h1' h2'
          rw [← this, eqD_refl _ (by simpa using f1)]
          exact EqAt.same _
        · exact EqAt.of_refs hab rc
theorem eqs_at (I : Inv X pins σ H s) : ∀ (as bs : List D) {A : Around} {xs ys : List V} {us ws : List Value}, flats as = true → flats bs = true → A.units + cdeps as bs < cLine → RepVs X.K μ H as xs → RepVs X.K μ H bs ys → Vals xs us → Vals ys ws →
    ∀ (j : Nat) (h1 : j < us.length) (h2 : j < ws.length), EqAt A s us[j] ws[j] (eqJ as bs j)
  | [], bs, A, xs, ys, us, ws, _, _, _, h1, _, r1, _, j, j1, _ => by
    rw [RepVs] at h1; subst h1; cases r1; simp at j1
  | a :: as, [], A, xs, ys, us, ws, _, _, _, _, h2, _, r2, j, _, j2 => by
    rw [RepVs] at h2; subst h2; cases r2; simp at j2
  | a :: as, b :: bs, A, xs, ys, us, ws, f1, f2, hu, h1, h2, r1, r2, j, j1, j2 => by
    rw [RepVs] at h1 h2
    obtain ⟨v, r, rfl, q1, q2⟩ := h1
    obtain ⟨v', r', rfl, g1, g2⟩ := h2
    cases r1 with
    | cons r1 t1 =>
    cases r2 with
    | cons r2 t2 =>
    rw [flats_cons, Bool.and_eq_true] at f1 f2
    rw [cdeps_cons] at hu
    cases j with
    | zero => exact (eq_at I a b f1.1 f2.1 (by omega) q1 g1 r1 r2).1
    | succ j => exact eqs_at I as bs f1.2 f2.2 (by omega) q2 g2 t1 t2 j (by simpa using j1) (by simpa using j2)
end
end
end M
namespace M
open PySem PySem.Spec PySem.SeqAt L2
/-- == by the store; L: how deep tuples may lie -/
def eqR (L : Nat) : D → D → Stor → Option Bool
  | .loc m, .loc n, st => match itemsAt st m, itemsAt st n with
    | some a, some b => if flats a = true ∧ flats b = true ∧ cdeps a b + 1 < L then some (eqDs a b) else none
    | _, _ => none
  | .loc m, .non, st => (itemsAt st m).map fun _ => false
  | .loc m, .tup b, st => if 0 < L then (itemsAt st m).map fun _ => false else none
  | .non, .loc n, st => (itemsAt st n).map fun _ => false
  | .tup a, .loc n, st => if 0 < L then (itemsAt st n).map fun _ => false else none
  | d1, d2, _ => if flat d1 = true ∧ flat d2 = true ∧ cdep d1 d2 < L then some (eqD d1 d2) else none
section
variable {X : Cx} {pins : List (Addr × Obj)} {σ : L2.St} {μ : List Addr} {H : Hp} {s : Shared} {L : Nat}
theorem eqs_lists {as bs : List D} {A : Around} {xs ys : List V} {a b : Addr} (I : Inv X pins σ H s) (f1 : flats as = true) (f2 : flats bs = true) (hu : A.units + 1 + cdeps as bs < cLine) (h1 : RepVs X.K μ H as xs) (h2 : RepVs X.K μ H bs ys)
    (q1 : SqL X.K H a xs) (q2 : SqL X.K H b ys) : RcAt A s (.ref a) (.ref b) (eqDs as bs) ∧ RcNeAt A s (.ref a) (.ref b) (!eqDs as bs) := by
  obtain ⟨its, ra, p, _⟩ := I.list q1
  obtain ⟨its2, rb, p2, _⟩ := I.list q2
  have la : as.length = its.toArray.size := by rw [List.size_toArray, h1.length, ra.length]
  have lb : bs.length = its2.toArray.size := by rw [List.size_toArray, h2.length, rb.length]
  by_cases hl : its.toArray.size = its2.toArray.size
  · have items := eqs_at I as bs (A := A.in1) f1 f2 hu h1 h2 ra rb
    have e : ((List.range its.toArray.size).all (eqJ as bs)) = eqDs as bs := by
      rw [eqDs_all, la, lb, ← hl, Nat.min_self]; simp
    rw [← e]
    exact ⟨RcAt.lists p.isList p2.isList hl (by omega) fun j j1 j2 => items j (by simpa using j1) (by simpa using j2), RcNeAt.lists p.isList p2.isList hl (by omega) fun j j1 j2 => items j (by simpa using j1) (by simpa using j2)⟩
  · have e : eqDs as bs = false := by
      rw [eqDs_all, la, lb, Bool.and_eq_false_iff]
      exact .inr (by simpa using hl)
    have hl' : (its.toArray.size != its2.toArray.size) = true := by simpa using hl
    rw [e]
    exact ⟨RcAt.lists_lengths p.isList p2.isList hl' (by omega), RcNeAt.lists_lengths p.isList p2.isList hl' (by omega)⟩
theorem eqR_at {d1 d2 : D} {st : Stor} {k : Bool} {A : Around} {x y : V} {u w : Value} (I : Inv X pins σ H s) (hs : RepS X.K μ H st) (e : eqR L d1 d2 st = some k) (hu : A.units + L < cLine) (h1 : RepV X.K μ H d1 x) (h2 : RepV X.K μ H d2 y) (r1 : RelV x u) (r2 : RelV y w) :
    RcAt A s u w k ∧ RcNeAt A s u w (!k) := by
  have plain : ∀ {d1 d2 : D}, RepV X.K μ H d1 x → RepV X.K μ H d2 y → (if flat d1 = true ∧ flat d2 = true ∧ cdep d1 d2 < L then some (eqD d1 d2) else none) = some k → RcAt A s u w k ∧ RcNeAt A s u w (!k) := fun {d1 d2} h1 h2 e => by
    split at e
    · rename_i c
      cases e
      exact (eq_at I d1 d2 c.1 c.2.1 (by omega) h1 h2 r1 r2).2
    · cases e
  have list : ∀ {n : Nat} {v : V} {z : Value} {ds : List D}, RepV X.K μ H (.loc n) v → RelV v z → itemsAt st n = some ds → ∃ p its, z = .ref p ∧ s.heap.IsList p its := fun {n v z ds} h r q => by
    obtain ⟨p, q1, rfl⟩ := RepV.loc_iff.mp h
    obtain ⟨p', xs, g1, g2, g3⟩ := hs.items q
    rw [q1] at g1; cases g1
    cases (show z = Value.ref p from r)
    obtain ⟨its, _, pl, _⟩ := I.list g2
    exact ⟨p, _, rfl, pl.isList⟩
  have tuple : ∀ {bs : List D} {v : V} {z : Value}, RepV X.K μ H (.tup bs) v → RelV v z → ∃ p its, z = .ref p ∧ s.heap.IsTuple p its := fun {bs v z} h r => by
    obtain ⟨p, xs, rfl, q1, _⟩ := RepV.tup_iff.mp h
    cases (show z = Value.ref p from r)
    obtain ⟨its, _, pl, _⟩ := I.tuple (q1.sqT)
    exact ⟨p, _, rfl, pl⟩
  match d1, d2, e, h1, h2 with
  | .loc m, .loc n, e, h1, h2 =>
    simp only [eqR] at e
    cases e1 : itemsAt st m with
    | none => rw [e1] at e; cases e
    | some as =>
      cases e2 : itemsAt st n with
      | none => rw [e1, e2] at e; cases e
      | some bs =>
        rw [e1, e2] at e
        dsimp only at e
        split at e
        · rename_i c
          cases e
          obtain ⟨p, q1, rfl⟩ := RepV.loc_iff.mp h1
          obtain ⟨p', xs, g1, g2, g3⟩ := hs.items e1
          rw [q1] at g1; cases g1
          obtain ⟨q, q2, rfl⟩ := RepV.loc_iff.mp h2
          obtain ⟨q', ys, k1, k2, k3⟩ := hs.items e2
          rw [q2] at k1; cases k1
          cases (show u = Value.ref p from r1)
          cases (show w = Value.ref q from r2)
          exact eqs_lists I c.1 c.2.1 (by omega) g3 k3 g2 k2
        · cases e
  | .loc m, .non, e, h1, h2 =>
    simp only [eqR] at e
    cases e1 : itemsAt st m with
    | none => rw [e1] at e; cases e
    | some as =>
      rw [e1] at e; cases e
      obtain ⟨p, its, rfl, pl⟩ := list h1 r1 e1
      rw [RepV.non_iff] at h2; subst h2; cases (show w = Value.none from r2)
      exact ⟨RcAt.list_none pl (by omega), RcNeAt.list_none pl (by omega)⟩
  | .non, .loc n, e, h1, h2 =>
    simp only [eqR] at e
    cases e1 : itemsAt st n with
    | none => rw [e1] at e; cases e
    | some as =>
      rw [e1] at e; cases e
      obtain ⟨p, its, rfl, pl⟩ := list h2 r2 e1
      rw [RepV.non_iff] at h1; subst h1; cases (show u = Value.none from r1)
      exact ⟨RcAt.none_list pl (by omega), RcNeAt.none_list pl (by omega)⟩
  | .loc m, .tup bs, e, h1, h2 =>
    simp only [eqR] at e
    split at e
    · cases e1 : itemsAt st m with
      | none => rw [e1] at e; cases e
      | some as =>
        rw [e1] at e; cases e
        obtain ⟨p, its, rfl, pl⟩ := list h1 r1 e1
        obtain ⟨q, its2, rfl, pt⟩ := tuple h2 r2
        exact ⟨RcAt.list_tuple pl pt (by omega), RcNeAt.list_tuple pl pt (by omega)⟩
    · cases e
  | .tup as, .loc n, e, h1, h2 =>
    simp only [eqR] at e
    split at e
    · cases e1 : itemsAt st n with
      | none => rw [e1] at e; cases e
      | some as =>
        rw [e1] at e; cases e
        obtain ⟨p, its, rfl, pl⟩ := list h2 r2 e1
        obtain ⟨q, its2, rfl, pt⟩ := tuple h1 r1
        exact ⟨RcAt.tuple_list pt pl (by omega), RcNeAt.tuple_list pt pl (by omega)⟩
    · cases e
  | .non, .non, e, h1, h2 => exact plain h1 h2 (by simpa only [eqR] using e)
  | .non, .bl _, e, h1, h2 => exact plain h1 h2 (by simpa only [eqR] using e)
  | .non, .int _, e, h1, h2 => exact plain h1 h2 (by simpa only [eqR] using e)
  | .non, .str _, e, h1, h2 => exact plain h1 h2 (by simpa only [eqR] using e)
  | .non, .tup _, e, h1, h2 => exact plain h1 h2 (by simpa only [eqR] using e)
  | .bl _, d2, e, h1, h2 => exact plain h1 h2 (by simpa only [eqR] using e)
  | .int _, d2, e, h1, h2 => exact plain h1 h2 (by simpa only [eqR] using e)
  | .str _, d2, e, h1, h2 => exact plain h1 h2 (by simpa only [eqR] using e)
  | .tup _, .non, e, h1, h2 => exact plain h1 h2 (by simpa only [eqR] using e)
  | .tup _, .bl _, e, h1, h2 => exact plain h1 h2 (by simpa only [eqR] using e)
  | .tup _, .int _, e, h1, h2 => exact plain h1 h2 (by simpa only [eqR] using e)
  | .tup _, .str _, e, h1, h2 => exact plain h1 h2 (by simpa only [eqR] using e)
  | .tup _, .tup _, e, h1, h2 => exact plain h1 h2 (by simpa only [eqR] using e)
  | .loc _, .bl _, e, h1, h2 => simp [eqR, flat] at e
  | .loc _, .int _, e, h1, h2 => simp [eqR, flat] at e
  | .loc _, .str _, e, h1, h2 => simp [eqR, flat] at e
def eqV (L : Nat) : D → D → Stor → R D := fun d1 d2 st => match eqR L d1 d2 st with | some k => .ok (.bl k) st | none => .bad
def neV (L : Nat) : D → D → Stor → R D := fun d1 d2 st => match eqR L d1 d2 st with | some k => .ok (.bl (!k)) st | none => .bad
theorem op_eqV (hu : X.A.units + L < cLine) : OpR X (compareOp .Eq) (rM X (eqV L)) := by
  rintro pins s σ H x y v u Q I rx ry ⟨μ, st, dx, dy, hs, hx, hy, hp⟩
  unfold eqV at hp
  cases e : eqR L dx dy st with
  | none => rw [e] at hp; exact hp.elim
  | some k =>
    rw [e] at hp
    exact (eqR_at I hs e hu hx hy rx ry).1 X.prog X.w X.xe _ ⟨.bl k, H, I, rfl, hp.ret hs (RepV.bl_iff.mpr rfl)⟩
theorem op_neV (hu : X.A.units + L < cLine) : OpR X (compareOp .NotEq) (rM X (neV L)) := by
  rintro pins s σ H x y v u Q I rx ry ⟨μ, st, dx, dy, hs, hx, hy, hp⟩
  unfold neV at hp
  cases e : eqR L dx dy st with
  | none => rw [e] at hp; exact hp.elim
  | some k =>
    rw [e] at hp
    exact (eqR_at I hs e hu hx hy rx ry).2 X.prog X.w X.xe _ ⟨.bl (!k), H, I, rfl, hp.ret hs (RepV.bl_iff.mpr rfl)⟩
end
end M
namespace M
open PySem PySem.Spec L2
/-! ### methods of lists and texts -/
def isTy (T : String) (d : D) (st : Stor) : Bool := match d with
  | .str _ => T == "str"
  | .loc n => (match st[n]? with
    | some (.lst _) => T == "list"
    | some (.frz _) => T == "list"
    | some (.dic _) => T == "dict"
    | some (.dkc _) => T == "dict"
    | _ => false)
  | _ => false
section
variable {X : Cx} {e a b c o : Expr} {es : List Expr} {ma mb mc mo : ME} {mA : MA} {pos p2 p apos cpos : Pos} {T id : String} {name : Str} {g : D → List D → Stor → R D}
theorem isTy_ok {μ : List Addr} {H : Hp} {d : D} {st : Stor} {v : V} (h : isTy T d st = true) (hs : RepS X.K μ H st) (hv : RepV X.K μ H d v) : tyV X.K T v H := by
  cases d with
  | str cs => rw [RepV.str_iff] at hv; subst hv; exact eq_of_beq h
  | loc n =>
    obtain ⟨p, q1, rfl⟩ := RepV.loc_iff.mp hv
    simp only [isTy] at h
    cases e : st[n]? with
    | none => rw [e] at h; cases h
    | some o =>
      rw [e] at h
      obtain ⟨p', r1, r2⟩ := hs.at_ n o e
      rw [q1] at r1; cases r1
      cases o with
      | lst ds => obtain ⟨xs, r3, _⟩ := r2; exact .inl ⟨eq_of_beq h, xs, SqL.of r3⟩
      | frz ds => obtain ⟨xs, r3, _⟩ := r2; exact .inl ⟨eq_of_beq h, xs, r3.sqL⟩
      | dic ds => obtain ⟨xs, r3, _⟩ := r2; exact .inr (.inr (.inl ⟨eq_of_beq h, .inr ⟨xs, r3⟩⟩))
      | dkc ds => obtain ⟨xs, r3, _⟩ := r2; exact .inr (.inr (.inl ⟨eq_of_beq h, .inl ⟨xs, r3⟩⟩))
      | _ => cases h
  | _ => simp [isTy] at h
def methE (T : String) (g : D → List D → Stor → R D) (mo : ME) (mA : MA) : ME := fun env st => (mo env st).bind fun x st1 => if isTy T x st1 = true then (mA env st1).bind fun xs st2 => g x xs st2 else .bad
def meth0E (T : String) (g : D → List D → Stor → R D) (mo : ME) : ME := fun env st => (mo env st).bind fun x st1 => if isTy T x st1 = true then g x [] st1 else .bad
theorem je_meth (pa : PlainAttrs T) (slot : Slot T name id) (hty : typeOf (.builtin id) = pure (.type "method_descriptor")) (hm : MtR X id (rMM X g)) (ho : JE X o mo) (ha : JA X (e :: es) mA)
    (hbase : attributeBase o name X.env (eval o X.env) = eval o X.env := by rfl)
    (hfew : ((backTo cpos (starEach (e :: es) X.env)).all (fun x => !x.1) && (backToKw cpos (keywordEach [] X.env)).all (fun x => x.1.isSome)
      && decide ((e :: es).length + ([] : List Keyword).length + (if ([] : List Keyword).isEmpty then 0 else 1) < 30)) = true := by rfl)
    (hline : (apos.endLine == cpos.line) = true := by rfl) (hs : starEach (e :: es) X.env = (false, eval e X.env) :: starEach es X.env := by rfl) (hplain : (backTo cpos (starEach es X.env)).any (·.1) = false := by rfl) : JE X (.Call (.Attribute o name apos) (e :: es) [] cpos) (methE T g mo mA) := by
  refine JE.of (pe_bm pa slot hty hm ho ha hbase hfew hline hs hplain) fun σ H Q ⟨μ, env, st, hE, hs, hp⟩ => ⟨μ, env, st, hE, hs, (Post.bind hp).imp ?_⟩
  rintro x H1 ⟨μ1, st1, d, g1, hs1, hx, hp1⟩
  dsimp only at hp1
  split at hp1
  · rename_i hT
    refine ⟨isTy_ok hT hs1 hx, μ1, env, st1, hE.mono g1, hs1, (Post.bind hp1).imp ?_⟩
    rintro xs H2 ⟨μ2, st2, ds, g2, hs2, hxs, hp2⟩
    exact ⟨μ2, st2, d, ds, hs2, hx.mono g2 _, hxs, hp2⟩
  · exact hp1.elim
theorem je_meth0 (pa : PlainAttrs T) (slot : Slot T name id) (hty : typeOf (.builtin id) = pure (.type "method_descriptor")) (hm : MtR X id (rMM X g)) (ho : JE X o mo)
    (hbase : attributeBase o name X.env (eval o X.env) = eval o X.env := by rfl) (hline : (apos.endLine == cpos.line) = true := by rfl) : JE X (.Call (.Attribute o name apos) [] [] cpos) (meth0E T g mo) := by
  refine JE.of (pe_bm0 pa slot hty hm ho hbase hline) fun σ H Q ⟨μ, env, st, hE, hs, hp⟩ => ⟨μ, env, st, hE, hs, (Post.bind hp).imp ?_⟩
  rintro x H1 ⟨μ1, st1, d, g1, hs1, hx, hp1⟩
  dsimp only at hp1
  split at hp1
  · rename_i hT
    exact ⟨isTy_ok hT hs1 hx, μ1, st1, d, [], hs1, hx, RepVs.nil, hp1⟩
  · exact hp1.elim
/-! lists -/
def appendV : D → List D → Stor → R D
  | .loc n, [d], st => match st[n]? with
    | some (.lst ds) => if ds.length < 1000000 then .ok .non (st.set n (.lst (ds ++ [d]))) else .bad
    | _ => .bad
  | _, _, _ => .bad
/-- a method that rewrites a list and hands back None -/
theorem wr_lst {μ : List Addr} {H : Hp} {st : Stor} {n : Nat} {ds ds' : List D} {p : Addr} {xs ys : List V} {Q : VK} (hp : Post X μ H (relV X) Q (.ok .non (st.set n (.lst ds')))) (hs : RepS X.K μ H st) (e : st[n]? = some (.lst ds)) (hq : μ[n]? = some p) (hx : H p = some (.lst xs)) (hy : RepVs X.K μ H ds' ys) :
    Q .non (upd H p (.lst ys)) := by
  obtain ⟨g, hs'⟩ := putLst hs e hq hx hy
  exact hp _ _ μ g hs' (RepV.non_iff.mpr rfl)
theorem mt_appendV : MtR X "list.append" (rMM X appendV) := by
  refine MtR.weak mt_append ?_
  rintro x xs H Q ⟨μ, st, d, ds, hs, hx, hxs, hp⟩
  unfold appendV at hp
  split at hp
  · rename_i n d' 
    cases e : st[n]? with
    | none => rw [e] at hp; exact hp.elim
    | some mo =>
      cases mo with
      | lst l =>
        rw [e] at hp
        dsimp only at hp
        split at hp
        · rename_i hl
          obtain ⟨p, q1, rfl⟩ := RepV.loc_iff.mp hx
          obtain ⟨y, rfl, q2⟩ := RepVs.one hxs
          obtain ⟨p', ys, r1, r2, r3⟩ := hs.lst e
          rw [q1] at r1; cases r1
          refine ⟨p, ys, y, rfl, rfl, r2, by rw [← r3.length]; exact Nat.lt_of_lt_of_le hl (by decide), wr_lst hp hs e q1 r2 (r3.append (RepVs.cons q2 RepVs.nil))⟩
        · exact hp.elim
      | _ => rw [e] at hp; exact hp.elim
  · exact hp.elim
def clearV : D → List D → Stor → R D
  | .loc n, [], st => match st[n]? with
    | some (.lst ds) => .ok .non (st.set n (.lst []))
    | _ => .bad
  | _, _, _ => .bad
theorem mt_clearV : MtR X "list.clear" (rMM X clearV) := by
  refine MtR.weak mt_clear ?_
  rintro x xs H Q ⟨μ, st, d, ds, hs, hx, hxs, hp⟩
  unfold clearV at hp
  split at hp
  · rename_i n
    cases e : st[n]? with
    | none => rw [e] at hp; exact hp.elim
    | some mo =>
      cases mo with
      | lst l =>
        rw [e] at hp
        obtain ⟨p, q1, rfl⟩ := RepV.loc_iff.mp hx
        rw [RepVs] at hxs
        obtain ⟨p', ys, r1, r2, r3⟩ := hs.lst e
        rw [q1] at r1; cases r1
        exact ⟨p, ys, rfl, hxs, r2, wr_lst hp hs e q1 r2 RepVs.nil⟩
      | _ => rw [e] at hp; exact hp.elim
  · exact hp.elim
/-! all, any of a list of bools -/
def boolsOf : List D → Option (List Bool)
  | [] => some []
  | .bl b :: r => (boolsOf r).map (b :: ·)
  | _ :: _ => none
theorem boolsOf_map {α : Type} (f : α → Bool) (l : List α) : boolsOf (l.map fun a => .bl (f a)) = some (l.map f) := by
  induction l with
  | nil => rfl
  | cons a l ih => rw [List.map_cons, boolsOf, ih]; rfl
theorem bools_are {μ : List Addr} {H : Hp} : ∀ {ds : List D} {xs : List V} {us : List Value} {bs : List Bool}, boolsOf ds = some bs → RepVs X.K μ H ds xs → Vals xs us → PyProof.Rows.LSm.BoolsAre us bs
  | [], _, _, _, e, h, r => by cases e; rw [RepVs] at h; subst h; cases r; exact .nil
  | d :: ds, _, _, bs, e, h, r => by
    rw [RepVs] at h
    obtain ⟨v, t, rfl, h1, h2⟩ := h
    cases r with
    | cons r1 r2 =>
    cases d with
    | bl b =>
      simp only [boolsOf] at e
      cases q : boolsOf ds with
      | none => rw [q] at e; cases e
      | some bs' =>
        rw [q] at e; cases e
        rw [RepV.bl_iff] at h1; subst h1
        cases (show _ = Value.bool b from r1)
        exact .cons b (bools_are q h2 r2)
    | _ => simp [boolsOf] at e
def allV (f : List Bool → Bool) : List D → Stor → R D
  | [.loc n], st => match (itemsAt st n).bind boolsOf with | some bs => .ok (.bl (f bs)) st | none => .bad
  | _, _ => .bad
theorem all_any {f : List Bool → Bool} {id : String} (rule : ∀ (s : Shared) (l : Addr) (vs : List Value) (bs : List Bool) (Q : Value → Shared → Prop), X.A.handled = none → s.heap.IsList l vs.toArray → PyProof.Rows.LSm.BoolsAre vs bs →
      (∀ h' tk, (∀ b o, s.heap.get? b = some o → h'.get? b = some o) → Q (.bool (f bs)) { s with heap := h', toks := tk }) → wpAny (model X.prog X.w) X.A (call (.builtin id) [.ref l]) Q X.xe s) (hc : X.A.handled = none) : CallR X (.builtin id) (rMC X (allV f)) := by
  rintro pins s σ H xs us Q I hr ⟨μ, st, ds, hs, hv, hp⟩
  unfold allV at hp
  split at hp
  · rename_i n
    cases e : itemsAt st n with
    | none => rw [e] at hp; exact hp.elim
    | some l =>
      rw [e] at hp
      cases e2 : boolsOf l with
      | none => simp only [Option.bind_some, e2] at hp; exact hp.elim
      | some bs =>
        simp only [Option.bind_some, e2] at hp
        obtain ⟨v, rfl, q⟩ := RepVs.one hv
        obtain ⟨p, q1, rfl⟩ := RepV.loc_iff.mp q
        obtain ⟨p', ys, r1, r2, r3⟩ := hs.items e
        rw [q1] at r1; cases r1
        obtain ⟨u, rfl, ru⟩ := vals1 hr
        cases (show u = Value.ref p from ru)
        obtain ⟨its, rv, pl, _⟩ := I.list r2
        exact rule s p its bs _ hc pl.isList (bools_are e2 r3 rv) fun h' tk hk => ⟨.bl (f bs), H, I.kept hk, rfl, hp.ret hs (RepV.bl_iff.mpr rfl)⟩
  · exact hp.elim
theorem call_allV (hc : X.A.handled = none) : CallR X (.builtin "all") (rMC X (allV fun bs => bs.all fun b => b)) := by
  refine all_any (fun s l vs bs Q hh hl hb h => ?_) hc
  have hlt : l < s.heap.objs.size := by obtain ⟨_, e, _⟩ := hl; exact Heap.lt_size e
  refine call_all_walk (wpAny_pyIter_list hl ?_)
  refine ⟨s.heap.objs.size, [s.heap.objs.size, l], [s.heap.objs.size], vs.toArray.size, _, _, fun i => (bs[i]?).getD true, rfl, Walks.list (A := X.A.in1) hh _ l (Nat.ne_of_lt hlt) vs.toArray,
    ⟨⟨_, Heap.get?_push_size _ rfl, rfl, rfl⟩, hl.push _⟩, fun i v s' Q' E' hP hQ => ?_, fun h' tk hk => ?_⟩
  · obtain ⟨b, e, rfl⟩ := hb.get i v (by simpa using hP)
    simp only [e, Option.getD_some] at hQ
    exact wpAny_truthy_bool hQ
  · have e : ((List.range vs.toArray.size).all fun i => (bs[i]?).getD true) = bs.all (fun b => b) := by
      rw [List.size_toArray, hb.length]; exact PyProof.Rows.LSm.range_all bs
    rw [e]
    exact h h' tk (PyProof.Rows.LSm.kept_iter hk)
end
end M
namespace M
open PySem PySem.Spec L2
section
variable {X : Cx} {e a b c l : Expr} {es : List Expr} {ma mb mc : ME} {mA : MA} {pos p2 p tpos : Pos} {μ : List Addr} {H : Hp}
/-! ### enumerate, reversed, zip of lists -/
/-- the list at a place, as a guard -/
def lstG (st : Stor) (n : Nat) : Option (List D × MO) := match st[n]? with
  | some (.lst ds) => some (ds, .lst ds)
  | some (.frz ds) => some (ds, .frz ds)
  | _ => none
theorem lstG_items {st : Stor} {n : Nat} {ds : List D} {o : MO} (h : lstG st n = some (ds, o)) : itemsAt st n = some ds ∧ st[n]? = some o ∧ (o = .lst ds ∨ o = .frz ds) := by
  unfold lstG at h
  unfold itemsAt
  split at h
  · rename_i q; cases h; rw [q]; exact ⟨rfl, rfl, .inl rfl⟩
  · rename_i q; cases h; rw [q]; exact ⟨rfl, rfl, .inr rfl⟩
  · cases h
theorem lstG_later {K : PySem.W.Frag} {st' : Stor} {n : Nat} {ds : List D} {o : MO} {μ' : List Addr} {H' : Hp} (ho : o = .lst ds ∨ o = .frz ds) (hs : RepS K μ' H' st') (e : st'[n]? = some o) : ∃ p xs, μ'[n]? = some p ∧ SqL K H' p xs ∧ RepVs K μ' H' ds xs := by
  refine hs.items ?_
  unfold itemsAt
  rcases ho with rfl | rfl <;> rw [e]
def enumL : Nat → List D → List D
  | _, [] => []
  | k, d :: ds => .tup [.int k, d] :: enumL (k + 1) ds
theorem enumL_get : ∀ (ds : List D) (k i : Nat), (enumL k ds)[i]? = (ds[i]?).map fun d => .tup [.int ((k + i : Nat) : Int), d]
  | [], k, i => by simp [enumL]
  | d :: ds, k, 0 => by simp [enumL]
  | d :: ds, k, i + 1 => by
    have := enumL_get ds (k + 1) i
    simp only [enumL, List.getElem?_cons_succ]
    rw [this, show k + 1 + i = k + (i + 1) by omega]
theorem enumL_len : ∀ (ds : List D) (k : Nat), (enumL k ds).length = ds.length
  | [], _ => rfl
  | _ :: ds, k => by simp [enumL, enumL_len ds (k + 1)]
def enumI (mA : MA) : MI := fun env st => (mA env st).bind fun ds st1 => match ds with
  | [.loc n] => (match lstG st1 n with | some (xs, o) => .ok (enumL 0 xs, [(n, o)]) st1 | none => .bad)
  | _ => .bad
theorem ite_rep {n : Nat} {ds : List D} {q : Addr} {o : MO} (ho : o = .lst ds ∨ o = .frz ds) (hp : μ[n]? = some q) : ItRep X μ H (Ite X.K q) (enumL 0 ds, [(n, o)]) := by
  intro H' μ' st' g hs ok
  have e : st'[n]? = some o := (ok (n, o) (by simp))
  obtain ⟨p', xs, q1, q2, q3⟩ := lstG_later ho hs e
  rw [g.get hp] at q1; cases q1
  refine ⟨fun i d hd => ?_, xs, q2, by rw [← q3.length]; show ds.length ≤ (enumL 0 ds).length; rw [enumL_len]; exact Nat.le_refl _⟩
  have hd' : (enumL 0 ds)[i]? = some d := hd
  rw [enumL_get] at hd'
  cases e2 : ds[i]? with
  | none => rw [e2] at hd'; cases hd'
  | some d0 =>
    rw [e2] at hd'; cases hd'
    obtain ⟨v, h1, h2⟩ := q3.get e2
    refine ⟨⟨xs, v, q2, h1⟩, ?_⟩
    rintro x H'' ⟨pp, y, hn, rfl, rfl, hy⟩
    have := hy xs q2
    rw [h1] at this; cases this
    refine ⟨Grow.lay hn, hs.lay hn, RepV.tup_iff.mpr ⟨pp, _, rfl, .inl upd_same, ?_⟩⟩
    exact (RepVs.cons (RepV.int_iff.mpr (by simp)) (RepVs.cons h2 RepVs.nil)).mono (Grow.lay hn) _
theorem ji_enum {elts : List Expr} {x1 : Nat} (ha : JA X [a] mA) (hg : Gl X "enumerate") (hm : X.mg "enumerate" = none) (hs : starEach [a] X.env = [(false, eval a X.env)] := by rfl) : JI X (.Tuple elts x1 tpos) (.Call (.Name "enumerate" p) [a] [] pos) (enumI mA) := by
  refine JI.of (pi_enum hg hm ha hs) fun σ H R ⟨μ, env, st, hE, hs, hp⟩ => ⟨μ, env, st, hE, hs, (Post.bind hp).imp ?_⟩
  rintro vs H1 ⟨μ1, st1, ds, g1, hs1, hv, hp1⟩
  dsimp only at hp1
  split at hp1
  · rename_i n
    cases e : lstG st1 n with
    | none => rw [e] at hp1; exact hp1.elim
    | some y =>
      obtain ⟨xs, o⟩ := y
      rw [e] at hp1
      obtain ⟨k1, k2, k3⟩ := lstG_items e
      obtain ⟨v, rfl, q1⟩ := RepVs.one hv
      obtain ⟨q, q2, rfl⟩ := RepV.loc_iff.mp q1
      obtain ⟨q', zs, r1, r2, r3⟩ := hs1.items k1
      rw [q2] at r1; cases r1
      exact ⟨q, rfl, ⟨zs, r2⟩, hp1 _ _ _ (.refl _ _) hs1 (ite_rep k3 q2)⟩
  · exact hp1.elim
end
end M
namespace M
open PySem PySem.Spec L2
/-! ### [e for t in it if c] -/
def PostK {α β : Type} (K : PySem.W.Frag) (μ : List Addr) (H : Hp) (rel : Rel α β) (Q : β → Hp → Prop) (r : R α) : Prop := match r with
  | .ok a st => ∀ (b : β) (H' : Hp) (μ' : List Addr), Grow μ H μ' H' → RepS K μ' H' st → rel μ' H' a b → Q b H'
  | _ => False
def tK {α β : Type} (K : PySem.W.Frag) (rel : Rel α β) (m : MEnv → Stor → R α) : L2.St → Hp → (β → Hp → Prop) → Prop := fun σ H Q => ∃ μ env st, RepE K μ H env σ ∧ RepS K μ H st ∧ PostK K μ H rel Q (m env st)
def tKG (K : PySem.W.Frag) (m : MG) : TG := fun v σ H Q => ∃ μ env st d, RepE K μ H env σ ∧ RepS K μ H st ∧ RepV K μ H d v ∧ PostK K μ H (fun μ H env σ => RepE K μ H env σ) Q (m d env st)
theorem PostK.post {α β : Type} {X : Cx} {μ : List Addr} {H : Hp} {rel : Rel α β} {Q : β → Hp → Prop} {r : R α} (h : PostK X.K μ H rel Q r) : Post X μ H rel Q r := by
  cases r with
  | ok a st => exact h
  | err x st => exact h.elim
  | bad => exact h.elim
theorem PostK.mono {α β : Type} {K : PySem.W.Frag} {μ μ1 : List Addr} {H H1 : Hp} {rel : Rel α β} {Q : β → Hp → Prop} {r : R α} (g : Grow μ H μ1 H1) (h : PostK K μ H rel Q r) : PostK K μ1 H1 rel Q r := by
  cases r with
  | ok a st => exact fun b H' μ' g' => h b H' μ' (g.trans g')
  | err x st => exact h.elim
  | bad => exact h.elim
/-- the block's names: what is taken from around, and its own -/
def captE (capt : List (Option Nat)) (env : MEnv) : MEnv := capt.map fun o => o.bind fun j => (env[j]?).join
open Classical in
noncomputable def compGo (g : MG) (t : MT) (e : ME) (gs : List (Nat × MO)) (n : Nat) : List D → MEnv → Stor → R D
  | [], _, st => if okG gs st then .ok (.loc n) st else .bad
  | d :: r, env, st => if okG gs st then (g d env st).bind fun env1 st1 => (t env1 st1).bind fun ok st2 => if ok then (e env1 st2).bind fun y st3 => (match st3[n]? with
      | some (.lst xs) => if xs.length < 1000000 then compGo g t e gs n r env1 (st3.set n (.lst (xs ++ [y]))) else .bad
      | _ => .bad) else compGo g t e gs n r env1 st2 else .bad
noncomputable def compE (capt : List (Option Nat)) (mi : MI) (g : MG) (t : MT) (e : ME) : ME := fun env st => (mi env st).bind fun s st1 => (compGo g t e s.2 st1.length s.1 (captE capt env) (st1 ++ [.lst []])).sure
def yesT : MT := fun _ st => .ok true st
section
variable {X : Cx} {elt tg iter c : Expr} {ifs : List Expr} {scope : Scope} {pos : Pos} {N : List Str} {capt : List (Option Nat)} {mi : MI} {g : MG} {t : MT} {me : ME}
theorem RepE.taken {K : PySem.W.Frag} {μ : List Addr} {H : Hp} {env : MEnv} {σ : L2.St} (cp : List (Option Nat)) (h : RepE K μ H env σ) : RepE K μ H (captE cp env) (captSt cp σ) := by
  refine ⟨by simp [captE, captSt], fun i d e => ?_⟩
  unfold captE at e
  unfold captSt
  rw [List.getElem?_map] at e ⊢
  cases q : cp[i]? with
  | none => rw [q] at e; cases e
  | some o =>
    rw [q] at e
    cases o with
    | none => cases e
    | some j =>
      have e' : (env[j]?).join = some d := by simpa using e
      have e2 : env[j]? = some (some d) := by
        cases z : env[j]? with
        | none => rw [z] at e'; cases e'
        | some y => rw [z] at e'; cases e'; rfl
      obtain ⟨v, h1, h2⟩ := h.at_ j d e2
      exact ⟨v, by simp [h1], h2⟩
/-- a step of a result that is sure -/
theorem PostK.val {α β γ : Type} {K : PySem.W.Frag} {μ : List Addr} {H : Hp} {rel : Rel α β} {r : R α} {f : α → Stor → R γ} {G : List Addr → Hp → R γ → Prop} (hG : ∀ μ μ1 H H1 r, Grow μ H μ1 H1 → G μ H r → G μ1 H1 r) (hb : ∀ μ H, ¬ G μ H .bad) (he : ∀ μ H x st, ¬ G μ H (.err x st))
    (h : G μ H (r.bind f)) : PostK K μ H rel (fun b H1 => ∃ μ1 st1 a, Grow μ H μ1 H1 ∧ RepS K μ1 H1 st1 ∧ rel μ1 H1 a b ∧ G μ1 H1 (f a st1)) r := by
  cases r with
  | ok a st => exact fun b H' μ' g h1 h2 => ⟨μ', st, a, g, h1, h2, hG _ _ _ _ _ g h⟩
  | err x st => exact (he _ _ _ _ h).elim
  | bad => exact (hb _ _ h).elim
/-- what is wanted behind the block -/
def EndG (X : Cx) (Q : VK) : List Addr → Hp → R D → Prop := fun μ H r => PostK X.K μ H (relV X) Q r
theorem tComp_of {σ : L2.St} {H : Hp} {Q : VK} (h : tM X (compE capt mi g t me) σ H Q) : tComp capt (tMI X mi) (tKG X.K g) (tK X.K relB t) (tK X.K (relV X) me) σ H Q := by
  obtain ⟨μ, env, st, hE, hs, hp⟩ := h
  refine ⟨μ, env, st, hE, hs, (Post.bind hp).imp ?_⟩
  rintro J H1 ⟨μ1, st1, s, g1, hs1, hJ, hp1⟩
  dsimp only at hp1
  have hp2 : EndG X Q μ1 H1 (compGo g t me s.2 st1.length s.1 (captE capt env) (st1 ++ [.lst []])) := by
    cases hr : compGo g t me s.2 st1.length s.1 (captE capt env) (st1 ++ [.lst []]) with
    | ok d st2 => rw [hr] at hp1; exact hp1
    | err y st2 => rw [hr] at hp1; exact hp1.elim
    | bad => rw [hr] at hp1; exact hp1.elim
  have mG : ∀ μ μ1 H H1 r, Grow μ H μ1 H1 → EndG X Q μ H r → EndG X Q μ1 H1 r := fun μ μ1 H H1 r g h => PostK.mono g h
  have nb : ∀ μ H, ¬ EndG X Q μ H .bad := fun μ H h => h
  have ne : ∀ μ H x st, ¬ EndG X Q μ H (.err x st) := fun μ H x st h => h
  intro D hD
  have gD : Grow μ1 H1 (μ1 ++ [D]) (upd H1 D (.lst [])) := Grow.new hD
  have sD : RepS X.K (μ1 ++ [D]) (upd H1 D (.lst [])) (st1 ++ [.lst []]) := hs1.new hD ⟨[], upd_same, RepVs.nil⟩
  have nD : (μ1 ++ [D])[st1.length]? = some D := by rw [← hs1.len]; simp
  refine ⟨fun i k σ' H' => ∃ μ2 env2 st2, Grow (μ1 ++ [D]) (upd H1 D (.lst [])) μ2 H' ∧ RepE X.K μ2 H' env2 σ' ∧ RepS X.K μ2 H' st2 ∧ EndG X Q μ2 H' (compGo g t me s.2 st1.length (s.1.drop i) env2 st2) ∧ i ≤ s.1.length ∧ k = s.1.length - i,
    ⟨_, μ1 ++ [D], captE capt env, _, .refl _ _, (hE.mono (g1.trans gD)).taken capt, sD, by simpa using mG _ _ _ _ _ gD hp2, Nat.zero_le _, rfl⟩, ?_⟩
  rintro i k σ2 H2 ⟨μ2, env2, st2, g2, hE2, hs2, hp3, hi, rfl⟩
  have atD : μ2[st1.length]? = some D := g2.get nD
  by_cases hlt : i < s.1.length
  · have e1 : s.1.drop i = s.1[i] :: s.1.drop (i + 1) := List.drop_eq_getElem_cons hlt
    rw [e1, compGo] at hp3
    by_cases ok : okG s.2 st2
    · rw [if_pos ok] at hp3
      obtain ⟨q1, q2⟩ := (hJ H2 μ2 st2 (gD.trans g2) hs2 ok).1 i s.1[i] (List.getElem?_eq_getElem hlt)
      refine .inr ⟨q1, fun σ' H' => ∃ μ3 env3 st3, Grow (μ1 ++ [D]) (upd H1 D (.lst [])) μ3 H' ∧ RepE X.K μ3 H' env3 σ' ∧ RepS X.K μ3 H' st3 ∧ EndG X Q μ3 H' (compGo g t me s.2 st1.length (s.1.drop (i + 1)) env3 st3), ?_, ?_⟩
      · rintro σ' H' ⟨μ3, env3, st3, g3, hE3, hs3, hp4⟩
        exact ⟨s.1.length - (i + 1), by omega, μ3, env3, st3, g3, hE3, hs3, hp4, by omega, rfl⟩
      · intro x H3 hx
        obtain ⟨g3, hs3, hd⟩ := q2 x H3 hx
        refine ⟨μ2, env2, st2, s.1[i], hE2.mono g3, hs3, hd, ?_⟩
        have w1 := PostK.val (K := X.K) (rel := fun μ H env σ => RepE X.K μ H env σ) mG nb ne (mG _ _ _ _ _ g3 hp3)
        cases hr1 : g s.1[i] env2 st2 with
        | bad => rw [hr1] at w1; exact w1
        | err y z => rw [hr1] at w1; exact w1
        | ok env4 st4 =>
          rw [hr1] at w1
          intro σ4 H4 μ4 g4 hs4 hE4
          obtain ⟨μ4', st4', env4', g4', hs4', hE4', hp4⟩ := w1 σ4 H4 μ4 g4 hs4 hE4
          refine ⟨μ4', env4', st4', hE4', hs4', ?_⟩
          have w2 := PostK.val (K := X.K) (rel := relB) mG nb ne hp4
          cases hr2 : t env4' st4' with
          | bad => rw [hr2] at w2; exact w2
          | err y z => rw [hr2] at w2; exact w2
          | ok b5 st5 =>
            rw [hr2] at w2
            intro b H5 μ5 g5 hs5 hb5
            obtain ⟨μ5', st5', b5', g5', hs5', hb5', hp5⟩ := w2 b H5 μ5 g5 hs5 hb5
            subst hb5'
            have gg : Grow (μ1 ++ [D]) (upd H1 D (.lst [])) μ5' H5 := ((g2.trans g3).trans g4').trans g5'
            cases b5' with
            | false => exact iteF ⟨μ5', env4', st5', gg, hE4'.mono g5', hs5', by simpa using hp5⟩
            | true =>
              refine iteT ⟨μ5', env4', st5', hE4'.mono g5', hs5', ?_⟩
              have hp5' : EndG X Q μ5' H5 ((me env4' st5').bind fun y st3 => (match st3[st1.length]? with
                | some (.lst xs) => if xs.length < 1000000 then compGo g t me s.2 st1.length (s.1.drop (i + 1)) env4' (st3.set st1.length (.lst (xs ++ [y]))) else .bad
                | _ => .bad)) := by simpa using hp5
              have w3 := PostK.val (K := X.K) (rel := relV X) mG nb ne hp5'
              cases hr3 : me env4' st5' with
              | bad => rw [hr3] at w3; exact w3
              | err y z => rw [hr3] at w3; exact w3
              | ok y6 st6 =>
                rw [hr3] at w3
                intro v H6 μ6 g6 hs6 hv6
                obtain ⟨μ6', st6', y6', g6', hs6', hv6', hp6⟩ := w3 v H6 μ6 g6 hs6 hv6
                have gg6 := gg.trans g6'
                have atD6 : μ6'[st1.length]? = some D := gg6.get nD
                cases e6 : st6'[st1.length]? with
                | none => rw [e6] at hp6; exact hp6.elim
                | some mo =>
                  cases mo with
                  | lst xs =>
                    rw [e6] at hp6
                    dsimp only at hp6
                    split at hp6
                    · rename_i hl
                      obtain ⟨p', ys, r1, r2, r3⟩ := hs6'.lst e6
                      rw [atD6] at r1; cases r1
                      obtain ⟨g7, hs7⟩ := putLst hs6' e6 atD6 r2 (r3.append (RepVs.cons hv6' RepVs.nil))
                      refine ⟨ys, r2, by rw [← r3.length]; exact Nat.lt_of_lt_of_le hl (by decide), μ6', env4', _, gg6.trans g7, ((hE4'.mono g5').mono g6').mono g7, hs7, mG _ _ _ _ _ g7 hp6⟩
                    · exact hp6.elim
                  | _ => rw [e6] at hp6; exact hp6.elim
    · rw [if_neg ok] at hp3; exact hp3.elim
  · have e1 : s.1.drop i = [] := List.drop_eq_nil_of_le (by omega)
    rw [e1, compGo] at hp3
    have e2 : i = s.1.length := by omega
    by_cases ok : okG s.2 st2
    · rw [if_pos ok] at hp3
      refine .inl ⟨by rw [e2]; exact (hJ H2 μ2 st2 (gD.trans g2) hs2 ok).2, ?_⟩
      exact hp3 _ H2 μ2 (.refl _ _) hs2 (RepV.loc_iff.mpr ⟨D, atD, rfl⟩)
    · rw [if_neg ok] at hp3; exact hp3.elim
theorem pe_tK {X' : Cx} {e : Expr} {m : ME} (h : JE X' e m) : PE X' e (tK X'.K (relV X') m) := fun pins s σ H Q I ⟨μ, env, st, a, b, c⟩ => h pins s σ H Q I ⟨μ, env, st, a, b, c.post⟩
theorem pg_tK {X' : Cx} {e : Expr} {m : MG} (h : JG X' e m) : PG X' e (tKG X'.K m) := fun pins s σ H v u Q I r ⟨μ, env, st, d, a, b, b2, c⟩ => h pins s σ H v u Q I r ⟨μ, env, st, d, a, b, b2, c.post⟩
def JTs (X : Cx) (ifs : List Expr) (m : MT) : Prop := PTs X ifs (tK X.K relB m)
theorem jts_nil {X' : Cx} : JTs X' [] yesT := fun pins s σ H Q I ⟨μ, env, st, a, b, c⟩ => pts_nil pins s σ H Q I (c true H μ (.refl _ _) b rfl)
/-- what a block takes from around stands in cells there -/
def FreeOk (sc sc0 : Scope) : Prop := ∀ x ∈ sc.names, x.2 = .free → sc0.names.lookup x.1 = some .cell ∨ sc0.names.lookup x.1 = some .free
instance (sc sc0 : Scope) : Decidable (FreeOk sc sc0) := inferInstanceAs (Decidable (∀ x ∈ sc.names, x.2 = .free → sc0.names.lookup x.1 = some .cell ∨ sc0.names.lookup x.1 = some .free))
theorem je_comp {sc0 : Scope} (hi : JI X tg iter mi) (S : CompScope scope) (hfr : FreeOk scope sc0) (hcap : Capt X scope capt N) (hc : X.calm = true)
    (hg : ∀ cl C fp s H, JG (compCx X N scope cl C fp s H) tg g) (ht : ∀ cl C fp s H, JTs (compCx X N scope cl C fp s H) ifs t) (he : ∀ cl C fp s H, JE (compCx X N scope cl C fp s H) elt me)
    (h0 : X.env.scope = sc0 := by rfl) (hs : ∀ x, foldedSetIterable iter X.env x = pure x := by intro _; rfl) : JE X (.ListComp elt [⟨tg, iter, ifs, 0⟩] scope pos) (compE capt mi g t me) :=
  JE.of (pe_comp (g := tKG X.K g) (tt := tK X.K relB t) (te := tK X.K (relV X) me) hi S (by subst h0; exact hfr) hcap hc (fun cl C fp s H => pg_tK (hg cl C fp s H)) ht (fun cl C fp s H => pe_tK (he cl C fp s H)) hs) fun σ H Q h => tComp_of h
theorem js_setComp (i : Nat) {y : Str} {py spos : Pos} {sc0 : Scope} (hi : JI X tg iter mi) (S : CompScope scope) (hfr : FreeOk scope sc0) (hcap : Capt X scope capt N) (hc : X.calm = true)
    (hg : ∀ cl C fp s H, JG (compCx X N scope cl C fp s H) tg g) (ht : ∀ cl C fp s H, JTs (compCx X N scope cl C fp s H) ifs t) (he : ∀ cl C fp s H, JE (compCx X N scope cl C fp s H) elt me)
    (hN : X.N.Nodup) (hy : X.N[i]? = some y := by rfl) (hx : Loc X.env.scope y := by first | exact Or.inl rfl | exact Or.inr rfl) (hsw : swapsWith (.ListComp elt [⟨tg, iter, ifs, 0⟩] scope pos) (some (.Name y py)) spos.line X.env = pure true := by rfl)
    (h0 : X.env.scope = sc0 := by rfl) (hs : ∀ x, foldedSetIterable iter X.env x = pure x := by intro _; rfl) (hf : X.fn y = true ∨ X.env.scope.names.lookup y = some .local := by first | exact .inl rfl | exact .inr rfl | assumption) :
    JS X (.Assign [.Name y py] (.ListComp elt [⟨tg, iter, ifs, 0⟩] scope pos) spos) (setS i (compE capt mi g t me)) := by
  refine JS.of (ps_setComp (g := tKG X.K g) (tt := tK X.K relB t) (te := tK X.K (relV X) me) hN hy hx hsw hi S (by subst h0; exact hfr) hcap hc (fun cl C fp s H => pg_tK (hg cl C fp s H)) ht (fun cl C fp s H => pe_tK (he cl C fp s H)) hs hf) fun E σ H ⟨μ, env, st, hE, hs, hp⟩ => ?_
  refine tComp_of ⟨μ, env, st, hE, hs, (PostS.val hp).imp ?_⟩
  rintro x H1 ⟨μ1, st1, d, g1, hs1, hx, hp1⟩
  exact hp1.nx hs1 ((hE.mono g1).set hx)
end
end M
namespace M
open PySem PySem.Spec L2
theorem lenA_nil : ∀ (env : MEnv) (st : Stor) (as : List D) (st1 : Stor), nilA env st = .ok as st1 → as.length = ([] : List Expr).length := by
  intro env st as st1 h
  cases h; rfl
theorem lenA_cons {e : Expr} {es : List Expr} {a : ME} {r : MA} (h : ∀ (env : MEnv) (st : Stor) (as : List D) (st1 : Stor), r env st = .ok as st1 → as.length = es.length) :
    ∀ (env : MEnv) (st : Stor) (as : List D) (st1 : Stor), consA a r env st = .ok as st1 → as.length = (e :: es).length := by
  intro env st as st1 q
  unfold consA at q
  cases h1 : a env st with
  | bad => rw [h1] at q; cases q
  | err x s => rw [h1] at q; cases q
  | ok x s =>
    rw [h1, R.bind_ok] at q
    cases h2 : r env s with
    | bad => rw [h2] at q; cases q
    | err x s => rw [h2] at q; cases q
    | ok xs s2 =>
      rw [h2, R.bind_ok] at q
      cases q
      rw [List.length_cons, List.length_cons, h env s xs _ h2]
theorem hu200 {A : Around} {k : Nat} (hr : Room k A) : A.units + 200 < cLine := by have := hr.un; omega
/-- enough for any while -/
def fuel : Nat := 1000000
/-- the script as the law finds it -/
theorem script_rep {K : PySem.W.Frag} {H : Hp} {a : Addr} {ns : List Int} (hO : Only H) (hS : SqL K H a (ns.map V.int)) : RepS K [a] H [.frz (ns.map D.int)] := by
  have hv : ∀ (μ : List Addr) (l : List Int), RepVs K μ H (l.map D.int) (l.map V.int) := fun μ l => by
    induction l with
    | nil => exact RepVs.nil
    | cons i l ih => exact RepVs.cons (RepV.int_iff.mpr rfl) ih
  refine ⟨rfl, fun n o e => ?_, fun i j b oi oj ei ej mi mj _ _ => ?_⟩
  · match n, e with
    | 0, e =>
      simp at e; subst e
      refine ⟨a, rfl, _, ?_, hv _ ns⟩
      rcases hS with (h | ⟨o, h⟩) | h
      · rcases hO a with z | ⟨o, xs, z⟩
        · rw [z] at h; cases h
        · rw [z] at h; cases h
      · exact .inl ⟨o, h⟩
      · exact .inr h
    | n + 1, e => simp at e
  · match i, ei with
    | 0, ei => simp at ei; subst ei; cases mi
    | i + 1, ei => simp at ei
theorem holds_of {l : PySem.W.OpenLaw} {k : Nat} {q : Program} {loose : List Str} {XP : (Str → Option Value) → Heap → Prop} {YP : World → Heap → Prop} {d : DefRec} {K : Params → PySem.W.Frag} {F : FD} {x : Str}
    (hn : l.most = some 63) (hdf : d.params.defaults = []) (hr : Room k callerA)
    (hY : ∀ (w : World) (h : Heap), YP w h → (K w.params).In h)
    (G : ∀ (w : World) (mg : Str → Option Value) (fa : Addr) (h : Heap), (K w.params).In h → h.Ns mainGlobals mg → mg d.name = some (.ref fa) →
      ∃ fd : FuncData, (∀ (s : Shared) (u : Value), BindsTo s fd ⟨[u], []⟩ [(x, u)]) ∧ ∀ base : Heap, (K w.params).In base → base.Ns mainGlobals mg → FnOk l.prog w (K w.params) mg base CX0 k fa fd [x] (spM (K w.params) 1 F))
    (hF : ∀ ns : List Int, ns.length ≤ 63 → ∃ st, F [.loc 0] [.frz (ns.map D.int)] = .ok (.bl true) st) :
    PySem.W.WalkO q loose XP YP l.row.toRowW d [] (fun f vs => PySem.call f vs) :=
  L2.walk_of (n := 63) (k := k) (x := x) (CX := fun _ => CX0) (sp := fun w => spM (K w.params) 1 F) hn (by decide) hdf hr hY G
    (fun w H a ns hl hO hS => by
      obtain ⟨st, e⟩ := hF ns hl
      refine ⟨rfl, [a], [.loc 0], _, RepVs.cons (RepV.loc_iff.mpr ⟨a, rfl, rfl⟩) RepVs.nil, script_rep hO hS, ?_⟩
      rw [e]
      exact fun v H' μ' _ _ hv => RepV.bl_iff.mp hv) fun _ _ _ _ _ z => z
end M
namespace M
open L2
/-! ### running a denotation by the simplifier -/
theorem gc_same {st : Stor} {d : D} (h : under st.length d) : gc st (.ok d st) = .ok d st := by
  have := gc_flat (st := st) (g := []) h
  simpa using this
theorem gc_new0 {st : Stor} {o : MO} (h : underO st.length o) : gc st (.ok (.loc st.length) (st ++ [o])) = .ok (.loc st.length) (st ++ [o]) := by
  have := gc_new (st := st) (g := []) (g' := []) h
  simpa using this
theorem itemsAt_app {st l : Stor} {n : Nat} {ds : List D} (h : itemsAt st n = some ds) : itemsAt (st ++ l) n = some ds := by
  unfold itemsAt at h ⊢
  cases e : st[n]? with
  | none => rw [e] at h; cases h
  | some o =>
    rw [List.getElem?_append_left (List.getElem?_eq_some_iff.mp e).1, e]
    rw [e] at h
    exact h
theorem get_app {st l : Stor} {n : Nat} {o : MO} (h : st[n]? = some o) : (st ++ l)[n]? = some o := by rw [List.getElem?_append_left (List.getElem?_eq_some_iff.mp h).1]; exact h
@[simp] theorem get_app0 {st l : Stor} : (st ++ l)[st.length]? = l[0]? := by rw [List.getElem?_append_right (Nat.le_refl _)]; simp
@[simp] theorem get_appk {st l : Stor} {k : Nat} : (st ++ l)[st.length + k]? = l[k]? := by rw [List.getElem?_append_right (Nat.le_add_right _ _)]; simp
@[simp] theorem set_app0 {st l : Stor} {o : MO} : (st ++ l).set st.length o = st ++ l.set 0 o := by rw [List.set_append_right _ _ (Nat.le_refl _)]; simp
@[simp] theorem items_app0 {st l : Stor} : itemsAt (st ++ l) st.length = itemsAt l 0 := by unfold itemsAt; rw [get_app0]
@[simp] theorem items_appk {st l : Stor} {k : Nat} : itemsAt (st ++ l) (st.length + k) = itemsAt l k := by unfold itemsAt; rw [get_appk]
@[simp] theorem items_cons0 {o : MO} {l : Stor} : itemsAt (o :: l) 0 = (match o with | .lst ds => some ds | .frz ds => some ds | _ => none) := by
  unfold itemsAt; cases o <;> rfl
@[simp] theorem items_consS {o : MO} {l : Stor} {n : Nat} : itemsAt (o :: l) (n + 1) = itemsAt l n := by unfold itemsAt; simp
theorem atI_ofNat {α : Type} (xs : List α) (k : Nat) : atI xs (k : Int) = xs[k]? := by
  unfold atI ixN
  rw [if_pos (by omega)]
  by_cases h : k < xs.length
  · rw [if_pos (by omega)]; simp
  · rw [if_neg (by omega)]; simp; omega
/-! loops -/
theorem forGo_all {g : MG} {b : MS} {gs : List (Nat × MO)} {items : List D} (I : List D → MEnv → Stor → Prop) {env : MEnv} {st : Stor} (h0 : I [] env st)
    (step : ∀ pre d post env st, items = pre ++ d :: post → I pre env st → okG gs st ∧ ∃ env1 st1, g d env st = .ok env1 st1 ∧ ∃ env2 st2, (b env1 st1 = .ok (.nx env2) st2 ∨ b env1 st1 = .ok (.cn env2) st2) ∧ I (pre ++ [d]) env2 st2)
    (hend : ∀ env st, I items env st → okG gs st) : ∃ env' st', forGo g b gs items env st = .ok (.nx env') st' ∧ I items env' st' := by
  have key : ∀ (post pre : List D) (env : MEnv) (st : Stor), items = pre ++ post → I pre env st → ∃ env' st', forGo g b gs post env st = .ok (.nx env') st' ∧ I items env' st' := by
    intro post
    induction post with
    | nil =>
      intro pre env st e hI
      have : items = pre := by simpa using e
      subst this
      exact ⟨env, st, by rw [forGo, if_pos (hend env st hI)], hI⟩
    | cons d post ih =>
      intro pre env st e hI
      obtain ⟨ok, env1, st1, h1, env2, st2, h2, hI2⟩ := step pre d post env st e hI
      obtain ⟨env', st', h3, h4⟩ := ih (pre ++ [d]) env2 st2 (by simp [e]) hI2
      refine ⟨env', st', ?_, h4⟩
      rw [forGo, if_pos ok, h1, R.bind_ok]
      rcases h2 with h2 | h2 <;> (rw [h2, R.bind_ok]; exact h3)
  exact key items [] env st rfl h0
/-- a comprehension whose parts leave the store as it is -/
theorem compE_filter {capt : List (Option Nat)} {mi : MI} {g : MG} {t : MT} {e : ME} {env : MEnv} {st st1 : Stor} {items : List D} {gs : List (Nat × MO)} (p : D → Bool) (f : D → D) (Pe : MEnv → Prop)
    (hi : mi env st = .ok (items, gs) st1) (h0 : Pe (captE capt env)) (hl : items.length ≤ 1000000) (hg : ∀ ys, okG gs (st1 ++ [.lst ys]))
    (step : ∀ d ∈ items, ∀ env' ys, Pe env' → ∃ env1, Pe env1 ∧ g d env' (st1 ++ [.lst ys]) = .ok env1 (st1 ++ [.lst ys]) ∧ t env1 (st1 ++ [.lst ys]) = .ok (p d) (st1 ++ [.lst ys]) ∧
      (p d = true → e env1 (st1 ++ [.lst ys]) = .ok (f d) (st1 ++ [.lst ys]))) :
    compE capt mi g t e env st = .ok (.loc st1.length) (st1 ++ [.lst ((items.filter p).map f)]) := by
  have key : ∀ (post : List D) (env' : MEnv) (ys : List D), (∀ d ∈ post, d ∈ items) → Pe env' → ys.length + post.length ≤ 1000000 →
      compGo g t e gs st1.length post env' (st1 ++ [.lst ys]) = .ok (.loc st1.length) (st1 ++ [.lst (ys ++ (post.filter p).map f)]) := by
    intro post
    induction post with
    | nil => intro env' ys _ _ _; rw [compGo, if_pos (hg ys)]; simp
    | cons d post ih =>
      intro env' ys hm hP hn
      obtain ⟨env1, hP1, h1, h2, h3⟩ := step d (hm d (by simp)) env' ys hP
      have hm' : ∀ d ∈ post, d ∈ items := fun d hd => hm d (List.mem_cons_of_mem _ hd)
      rw [List.length_cons] at hn
      rw [compGo, if_pos (hg ys), h1, R.bind_ok, h2, R.bind_ok]
      cases hp : p d with
      | false =>
        rw [if_neg (by simp), ih env1 ys hm' hP1 (by omega)]
        simp [hp]
      | true =>
        rw [if_pos rfl, h3 hp, R.bind_ok]
        simp only [get_app0, List.getElem?_cons_zero]
        rw [if_pos (by omega), set_app0, List.set_cons_zero, ih env1 (ys ++ [f d]) hm' hP1 (by simp; omega)]
        simp [hp]
  unfold compE
  rw [hi, R.bind_ok, key items (captE capt env) [] (fun d hd => hd) h0 (by simpa using hl)]
  simp
theorem compE_map {capt : List (Option Nat)} {mi : MI} {g : MG} {e : ME} {env : MEnv} {st st1 : Stor} {items : List D} {gs : List (Nat × MO)} (f : D → D) (Pe : MEnv → Prop)
    (hi : mi env st = .ok (items, gs) st1) (h0 : Pe (captE capt env)) (hl : items.length ≤ 1000000) (hg : ∀ ys, okG gs (st1 ++ [.lst ys]))
    (step : ∀ d ∈ items, ∀ env' ys, Pe env' → ∃ env1, Pe env1 ∧ g d env' (st1 ++ [.lst ys]) = .ok env1 (st1 ++ [.lst ys]) ∧ e env1 (st1 ++ [.lst ys]) = .ok (f d) (st1 ++ [.lst ys])) :
    compE capt mi g yesT e env st = .ok (.loc st1.length) (st1 ++ [.lst (items.map f)]) := by
  have := compE_filter (capt := capt) (mi := mi) (g := g) (t := yesT) (e := e) (env := env) (st := st) (fun _ => true) f Pe hi h0 hl hg fun d hd env' ys hP => by
    obtain ⟨env1, a, b, c⟩ := step d hd env' ys hP
    exact ⟨env1, a, b, rfl, fun _ => c⟩
  have e2 : items.filter (fun _ => true) = items := List.filter_eq_self.mpr (by simp)
  rw [e2] at this
  exact this
/-! all the words for the simplifier -/
section
variable (env : MEnv) (st : Stor) (a b : ME) (x y : D) (mA : MA) (tc ta tb : MT) (m1 m2 : MS)
@[simp] theorem r_vr (i : Nat) : vr i env st = match env[i]? with | some (some d) => .ok d st | _ => .bad := by_rfl rfl
@[simp] theorem r_ct (d : D) : ct d env st = .ok d st := by_rfl rfl
@[simp] theorem r_op2 (g : D → D → Stor → R D) : op2 g a b env st = (a env st).bind fun x st1 => (b env st1).bind fun y st2 => g x y st2 := by_rfl rfl
@[simp] theorem r_op1 (g : D → Stor → R D) : op1 g a env st = (a env st).bind fun x st1 => g x st1 := by_rfl rfl
@[simp] theorem r_tB1  : tB1 a env st = (a env st).bind fun x st1 => match x with | .bl b => .ok b st1 | _ => .bad := by_rfl rfl
@[simp] theorem r_tru  : tru a env st = (a env st).bind fun x st1 => match truV x st1 with | some b => .ok b st1 | none => .bad := by_rfl rfl
@[simp] theorem r_orT  : orT ta tb env st = (ta env st).bind fun x st1 => if x then .ok true st1 else tb env st1 := by_rfl rfl
@[simp] theorem r_notT  : notT ta env st = (ta env st).bind fun x st1 => .ok (!x) st1 := by_rfl rfl
@[simp] theorem r_andV  : andV a b env st = (a env st).bind fun x st1 => match x with | .bl true => b env st1 | .bl false => .ok (.bl false) st1 | _ => .bad := by_rfl rfl
@[simp] theorem r_notV  : notV a env st = (a env st).bind fun x st1 => match x with | .bl c => .ok (.bl (!c)) st1 | _ => .bad := by_rfl rfl
@[simp] theorem r_nilA  : nilA env st = .ok [] st := by_rfl rfl
@[simp] theorem r_consA  : consA a mA env st = (a env st).bind fun x st1 => (mA env st1).bind fun xs st2 => .ok (x :: xs) st2 := by_rfl rfl
@[simp] theorem r_tupE  : tupE mA env st = (mA env st).bind fun ds st1 => if ds.length ≤ 1000000 then .ok (.tup ds) st1 else .bad := by_rfl rfl
@[simp] theorem r_lstE  : lstE mA env st = (mA env st).bind fun ds st1 => if ds.length ≤ 1000000 then .ok (.loc st1.length) (st1 ++ [.lst ds]) else .bad := by_rfl rfl
@[simp] theorem r_inP  : inP a env st = (a env st).bind fun x st1 => match x with | .int i => .ok (some i) st1 | _ => .bad := by_rfl rfl
@[simp] theorem r_slE (l h : MP) : slE a l h env st = (a env st).bind fun x st1 => (l env st1).bind fun lo st2 => (h env st2).bind fun hi st3 => slV x lo hi st3 := by_rfl rfl
@[simp] theorem r_callE (g : List D → Stor → R D) : callE g mA env st = (mA env st).bind fun ds st1 => g ds st1 := by_rfl rfl
@[simp] theorem r_skipS  : skipS env st = .ok (.nx env) st := by_rfl rfl
@[simp] theorem r_seqS  : seqS m1 m2 env st = (m1 env st).bind fun o st1 => match o with | .nx env1 => m2 env1 st1 | o => .ok o st1 := by_rfl rfl
@[simp] theorem r_retS  : retS a env st = (a env st).bind fun d st1 => .ok (.rt d) st1 := by_rfl rfl
@[simp] theorem r_exprS  : exprS a env st = (a env st).bind fun _ st1 => .ok (.nx env) st1 := by_rfl rfl
@[simp] theorem r_ifS  : ifS tc m1 m2 env st = (tc env st).bind fun x st1 => if x then m1 env st1 else m2 env st1 := by_rfl rfl
@[simp] theorem r_nameG (i : Nat) : nameG i x env st = .ok (env.set i (some x)) st := by_rfl rfl
@[simp] theorem r_asgS (g : MG) : asgS a g env st = (a env st).bind fun d st1 => (g d env st1).bind fun env1 st2 => .ok (.nx env1) st2 := by_rfl rfl
@[simp] theorem r_setS (i : Nat) : setS i a env st = (a env st).bind fun d st1 => .ok (.nx (env.set i (some d))) st1 := by_rfl rfl
@[simp] theorem r_nilG  : nilG [] env st = .ok env st := by_rfl rfl
@[simp] theorem r_consG (g : MG) (r : MGs) (d : D) (ds : List D) : consG g r (d :: ds) env st = (g d env st).bind fun env1 st1 => r ds env1 st1 := by_rfl rfl
@[simp] theorem r_tupG (n : Nat) (g : MGs) (ds : List D) : tupG n g (.tup ds) env st = if ds.length = n then g ds env st else .bad := by_rfl rfl
@[simp] theorem r_subG (g : D → D → D → Stor → R Unit) (d : D) : subG g a b d env st = (a env st).bind fun x st1 => (b env st1).bind fun y st2 => (g x y d st2).bind fun _ st3 => .ok env st3 := by_rfl rfl
@[simp] theorem r_callF (F : FD) (dd : List D) : callF F dd mA env st = (mA env st).bind fun as st1 => (F (as ++ dd) st1).sure := by_rfl rfl
@[simp] theorem r_methE (T : String) (g : D → List D → Stor → R D) : methE T g a mA env st = (a env st).bind fun x st1 => if isTy T x st1 = true then (mA env st1).bind fun xs st2 => g x xs st2 else .bad := by_rfl rfl
@[simp] theorem r_meth0E (T : String) (g : D → List D → Stor → R D) : meth0E T g a env st = (a env st).bind fun x st1 => if isTy T x st1 = true then g x [] st1 else .bad := by_rfl rfl
@[simp] theorem r_forS (mi : MI) (g : MG) : forS mi g m1 env st = (mi env st).bind fun s st1 => forGo g m1 s.2 s.1 env st1 := by_rfl rfl
@[simp] theorem r_seqI  : seqI a env st = (a env st).bind fun d st1 => match d with
  | .loc n => (match st1[n]? with
    | some (.lst ds) => .ok (ds, [(n, .lst ds)]) st1
    | some (.frz ds) => .ok (ds, [(n, .frz ds)]) st1
    | _ => .bad)
  | .tup ds => .ok (ds, []) st1
  | _ => .bad := by_rfl rfl
@[simp] theorem r_range1I  : range1I mA env st = (mA env st).bind fun ds st1 => match ds with
  | [.int j] => if -(2 ^ 62) ≤ j ∧ j < 2 ^ 62 then .ok (upto 0 j.toNat, []) st1 else .bad
  | _ => .bad := by_rfl rfl
@[simp] theorem r_range2I  : range2I mA env st = (mA env st).bind fun ds st1 => match ds with
  | [.int i, .int j] => if -(2 ^ 62) ≤ i ∧ i < 2 ^ 62 ∧ -(2 ^ 62) ≤ j ∧ j < 2 ^ 62 then .ok (upto i (j - i).toNat, []) st1 else .bad
  | _ => .bad := by_rfl rfl
@[simp] theorem r_enumI  : enumI mA env st = (mA env st).bind fun ds st1 => match ds with
  | [.loc n] => (match lstG st1 n with | some (xs, o) => .ok (enumL 0 xs, [(n, o)]) st1 | none => .bad)
  | _ => .bad := by_rfl rfl
@[simp] theorem r_add_int (i j : Int) : addV (.int i) (.int j) st = .ok (.int (i + j)) st := by_rfl rfl
theorem r_mul_int (i j : Int) (h : (-(2 ^ 64) < i ∧ i < 2 ^ 64) ∨ (-(2 ^ 64) < j ∧ j < 2 ^ 64)) : mulV (.int i) (.int j) st = .ok (.int (i * j)) st := by
  unfold mulV intV; dsimp only; rw [if_pos h]
theorem r_fdiv_int (i j : Int) (h : 0 < j ∧ j < 2 ^ 64) : fdivV (.int i) (.int j) st = .ok (.int (i / j)) st := by
  unfold fdivV intV; dsimp only; rw [if_pos h]
theorem r_mod_int (i j : Int) (h : 0 < j) : modV (.int i) (.int j) st = .ok (.int (i % j)) st := by
  unfold modV intV; dsimp only; rw [if_pos h]
@[simp] theorem r_lt_int (i j : Int) : ltV (.int i) (.int j) st = .ok (.bl (decide (i < j))) st := by simp [ltV, intV]
@[simp] theorem r_le_int (i j : Int) : leV (.int i) (.int j) st = .ok (.bl (decide (i ≤ j))) st := by simp [leV, intV]
@[simp] theorem r_gt_int (i j : Int) : gtV (.int i) (.int j) st = .ok (.bl (decide (j < i))) st := by simp [gtV, intV]
@[simp] theorem r_eq_int (L : Nat) (i j : Int) : eqV (L + 1) (.int i) (.int j) st = .ok (.bl (decide (i = j))) st := by
  have e : (i == j) = decide (i = j) := by rw [Bool.eq_iff_iff]; simp
  simp only [eqV, eqR, eqD, e, flat_int, cdep_int]
  rw [if_pos ⟨trivial, trivial, Nat.succ_pos L⟩]
@[simp] theorem r_ne_int (L : Nat) (i j : Int) : neV (L + 1) (.int i) (.int j) st = .ok (.bl (!decide (i = j))) st := by
  have e : (i == j) = decide (i = j) := by rw [Bool.eq_iff_iff]; simp
  simp only [neV, eqR, eqD, e, flat_int, cdep_int]
  rw [if_pos ⟨trivial, trivial, Nat.succ_pos L⟩]
@[simp] theorem r_eq_str (L : Nat) (i j : List Nat) : eqV (L + 1) (.str i) (.str j) st = .ok (.bl (decide (i = j))) st := by
  have e : (i == j) = decide (i = j) := by rw [Bool.eq_iff_iff]; simp
  simp only [eqV, eqR, eqD, e, flat_str, cdep_str]
  rw [if_pos ⟨trivial, trivial, Nat.succ_pos L⟩]
theorem r_eq_lists (L m n : Nat) (ds : List D) (h1 : itemsAt st m = some ds) (h2 : itemsAt st n = some ds) (hf : flats ds = true) (hd : deps ds + deps ds + 1 < L) : eqV L (.loc m) (.loc n) st = .ok (.bl true) st := by
  have e : eqR L (.loc m) (.loc n) st = some true := by
    simp only [eqR, h1, h2]
    rw [if_pos ⟨hf, hf, by have := cdeps_le ds ds; omega⟩, eqDs_refl _ hf]
  unfold eqV; rw [e]
theorem r_ix_loc (n : Nat) (i : Int) (ds : List D) (d : D) (h : itemsAt st n = some ds) (hi : atI ds i = some d) : ixV (.loc n) (.int i) st = .ok d st := by
  simp [ixV, h, hi]
theorem r_ix_tup (i : Int) (ds : List D) (d : D) (hi : atI ds i = some d) : ixV (.tup ds) (.int i) st = .ok d st := by
  simp [ixV, hi]
@[simp] theorem r_int_bool (b : Bool) : intC [.bl b] st = .ok (.int (if b then 1 else 0)) st := by_rfl rfl
@[simp] theorem r_min2 (i j : Int) : min2V [.int i, .int j] st = .ok (.int (if j < i then j else i)) st := by_rfl rfl
theorem r_len_loc (n : Nat) (ds : List D) (h : itemsAt st n = some ds) : lenV [.loc n] st = .ok (.int ds.length) st := by simp [lenV, h]
@[simp] theorem r_is_int (T : String) (i : Int) : isV T (.int i) st = .ok (.bl (subTy "int" T)) st := by_rfl rfl
theorem r_list_loc (n : Nat) (ds : List D) (h : itemsAt st n = some ds) : listC [.loc n] st = .ok (.loc st.length) (st ++ [.lst ds]) := by simp [listC, h]
end
end M
namespace L2
open PySem PySem.Spec PyProof.Rows
/-! ### lists of pairs as tables -/
section
variable {κ : Type} [DecidableEq κ]
def valV (kvs : List (κ × V)) (k : κ) : Option V := (kvs.find? fun kv => decide (kv.1 = k)).map (·.2)
/-- in its place, or at the end -/
def putK (kvs : List (κ × V)) (k : κ) (v : V) : List (κ × V) :=
  if (kvs.any fun kv => decide (kv.1 = k)) = true then kvs.map (fun kv => if kv.1 = k then (kv.1, v) else kv) else kvs ++ [(k, v)]
theorem valV_pos {p : κ × V} {r : List (κ × V)} {k : κ} (e : p.1 = k) : valV (p :: r) k = some p.2 := by simp [valV, List.find?_cons, e]
theorem valV_neg {p : κ × V} {r : List (κ × V)} {k : κ} (e : ¬ p.1 = k) : valV (p :: r) k = valV r k := by simp [valV, List.find?_cons, e]
theorem valV_any (k : κ) : ∀ kvs : List (κ × V), (kvs.any fun kv => decide (kv.1 = k)) = (valV kvs k).isSome
  | [] => rfl
  | p :: r => by
    rw [List.any_cons]
    by_cases e : p.1 = k
    · simp only [valV_pos e, decide_eq_true e, Bool.true_or, Option.isSome_some]
    · rw [valV_neg e, decide_eq_false e, Bool.false_or]; exact valV_any k r
theorem length_putK (kvs : List (κ × V)) (k : κ) (v : V) : (putK kvs k v).length ≤ kvs.length + 1 := by
  unfold putK
  split
  · rw [List.length_map]; omega
  · rw [List.length_append, List.length_cons, List.length_nil]; omega
theorem RelO.isSome_eq {o : Option V} {u : Option Value} (r : RelO o u) : o.isSome = u.isSome := by
  cases o with
  | none => cases u with
    | none => rfl
    | some _ => exact (show False from r).elim
  | some _ => cases u with
    | none => exact (show False from r).elim
    | some _ => rfl
theorem RelO.getD {o : Option V} {u : Option Value} {d : V} {d' : Value} (r : RelO o u) (rd : RelV d d') : RelV (o.getD d) (u.getD d') := by
  cases o with
  | none => cases u with
    | none => exact rd
    | some _ => exact (show False from r).elim
  | some _ => cases u with
    | none => exact (show False from r).elim
    | some _ => exact r
/-- raw tables of the same keys -/
theorem KV.val {kvs : List (κ × V)} {vs : List (κ × Value)} (r : KV kvs vs) (k : κ) : RelO (valV kvs k) (valueAt vs k) := by
  unfold KV at r
  induction r with
  | nil => exact True.intro
  | @cons p q ps qs h t ih =>
    obtain ⟨h1, h2⟩ := h
    by_cases e : p.1 = k
    · have e' : q.1 = k := h1.symm.trans e
      have b : valueAt (q :: qs) k = some q.2 := by simp [valueAt, List.find?_cons, e']
      rw [valV_pos e, b]; exact h2
    · have e' : ¬ q.1 = k := fun z => e (h1.trans z)
      have b : valueAt (q :: qs) k = valueAt qs k := by simp [valueAt, List.find?_cons, e']
      rw [valV_neg e, b]; exact ih
theorem KV.any {kvs : List (κ × V)} {vs : List (κ × Value)} (r : KV kvs vs) (k : κ) : (kvs.any fun kv => decide (kv.1 = k)) = vs.any fun kv => decide (kv.1 = k) := by
  unfold KV at r
  induction r with
  | nil => rfl
  | cons h t ih => rw [List.any_cons, List.any_cons, ih, h.1]
theorem KV.repl {kvs : List (κ × V)} {vs : List (κ × Value)} (r : KV kvs vs) (k : κ) {y : V} {u : Value} (ry : RelV y u) :
    KV (kvs.map fun kv => if kv.1 = k then (kv.1, y) else kv) (vs.map fun kv => if kv.1 = k then (kv.1, u) else kv) := by
  unfold KV at r ⊢
  induction r with
  | nil => exact .nil
  | @cons p q ps qs h t ih =>
    rw [List.map_cons, List.map_cons]
    refine .cons ?_ ih
    obtain ⟨h1, h2⟩ := h
    by_cases e : p.1 = k
    · rw [if_pos e, if_pos (h1.symm.trans e)]; exact ⟨h1, ry⟩
    · rw [if_neg e, if_neg (fun z => e (h1.trans z))]; exact ⟨h1, h2⟩
theorem KV.put {kvs : List (κ × V)} {vs : List (κ × Value)} (r : KV kvs vs) (k : κ) {y : V} {u : Value} (ry : RelV y u) : KV (putK kvs k y) (stored vs k u) := by
  unfold putK stored
  rw [r.any k]
  by_cases e : (vs.any fun kv => decide (kv.1 = k)) = true
  · rw [if_pos e, if_pos e]; exact r.repl k ry
  · rw [if_neg e, if_neg e]; exact Paired.snoc r ⟨rfl, ry⟩
theorem KV.length {kvs : List (κ × V)} {vs : List (κ × Value)} (r : KV kvs vs) : kvs.length = vs.length := Paired.length r
end
/-! ### a tracked dict, its keys ints and texts or tuples of these -/
theorem kV_is {P : Program} {w : World} {k : Key} {u : Value} (r : RelV (kV k) u) : (mixKind P w).is k u = true := by
  cases k with
  | inl i => obtain ⟨t, e⟩ := (show ∃ t, u = Value.int i t from r); subst e; exact mixKind_int P w i t
  | inr x => obtain ⟨t, e⟩ := (show ∃ t, u = Value.str x t from r); subst e; exact mixKind_str P w x t
theorem items_are {P : Program} {w : World} : ∀ {ks : List Key} {us : List Value}, Vals (ks.map kV) us → ItemsAre (mixKind P w) ks us
  | [], _, r => by rw [List.map_nil] at r; cases r; exact .nil
  | k :: ks, _, r => by
    rw [List.map_cons] at r
    cases r with
    | cons h t => exact .cons (kV_is h) (items_are t)
/-- raw entries of a dict with tuple keys -/
abbrev KT (H : Hp) : List (List Key × V) → List (List Key × Addr × Value) → Prop := Paired fun p q => p.1 = q.1 ∧ H q.2.1 = some (.tup (p.1.map kV)) ∧ RelV p.2 q.2.2
theorem KT.val {H : Hp} {kvs : List (List Key × V)} {xs : List (List Key × Addr × Value)} (r : KT H kvs xs) (k : List Key) : RelO (valV kvs k) ((atKey xs k).map (·.2)) := by
  induction r with
  | nil => exact True.intro
  | @cons p q ps qs h t ih =>
    obtain ⟨h1, _, h2⟩ := h
    by_cases e : p.1 = k
    · have e' : q.1 = k := h1.symm.trans e
      have b : atKey (q :: qs) k = some q.2 := by simp [atKey, List.find?_cons, e']
      rw [valV_pos e, b]; exact h2
    · have e' : ¬ q.1 = k := fun z => e (h1.trans z)
      have b : atKey (q :: qs) k = atKey qs k := by simp [atKey, List.find?_cons, e']
      rw [valV_neg e, b]; exact ih
theorem KT.repl {H : Hp} {kvs : List (List Key × V)} {xs : List (List Key × Addr × Value)} (r : KT H kvs xs) (k : List Key) {y : V} {u : Value} (ry : RelV y u) :
    KT H (kvs.map fun kv => if kv.1 = k then (kv.1, y) else kv) (xs.map (putAt k u)) := by
  induction r with
  | nil => exact .nil
  | @cons p q ps qs h t ih =>
    rw [List.map_cons, List.map_cons]
    refine .cons ?_ ih
    obtain ⟨h1, h2, h3⟩ := h
    unfold putAt
    by_cases e : p.1 = k
    · rw [if_pos e, if_pos (h1.symm.trans e)]; exact ⟨h1, h2, ry⟩
    · rw [if_neg e, if_neg (fun z => e (h1.trans z))]; exact ⟨h1, h2, h3⟩
theorem KT.put {H : Hp} {kvs : List (List Key × V)} {xs : List (List Key × Addr × Value)} (r : KT H kvs xs) (k : List Key) {b : Addr} {y : V} {u : Value} (hb : H b = some (.tup (k.map kV))) (ry : RelV y u) :
    KT H (putK kvs k y) (storedH xs k b u) := by
  have e : (kvs.any fun kv => decide (kv.1 = k)) = (atKey xs k).isSome := by
    rw [valV_any, (r.val k).isSome_eq, Option.isSome_map]
  unfold putK storedH
  rw [e]
  by_cases q : (atKey xs k).isSome = true
  · rw [if_pos q, if_pos q]; exact r.repl k ry
  · rw [if_neg q, if_neg q]; exact Paired.snoc r ⟨rfl, hb, ry⟩
theorem KT.keeps {H H' : Hp} {kvs : List (List Key × V)} {xs : List (List Key × Addr × Value)} (r : KT H kvs xs) (ht : ∀ b ys, H b = some (.tup ys) → H' b = some (.tup ys)) : KT H' kvs xs :=
  Paired.mapP r fun _ _ z => ⟨z.1, ht _ _ z.2.1, z.2.2⟩
section
variable {P : Program} {w : World} {H : Hp} {h : Heap} {a : Addr}
theorem rd_of {u : HO} (ok : HOk P w H h) (e : Rd H a u) : ObjOk P w H h a u := e.ok ok
theorem dk_rd {kvs : List (Key × V)} (ok : HOk P w H h) (e : Rd H a (.dK kvs)) : kvs.length ≤ sizeLine ∧ (a == sysModules) = false ∧ ∃ vs, KV kvs vs ∧ h.DictOf (mixKind P w) a vs :=
  show ObjOk P w H h a (.dK kvs) from rd_of ok e
theorem dk_of {kvs : List (Key × V)} (ok : HOk P w H h) (e : H a = some (.dK kvs)) : kvs.length ≤ sizeLine ∧ (a == sysModules) = false ∧ ∃ vs, KV kvs vs ∧ h.DictOf (mixKind P w) a vs := dk_rd ok (.inl e)
/-- a tracked tuple of ints and texts is a key -/
theorem key_of {ks : List Key} (ok : HOk P w H h) (e : H a = some (.tup (ks.map kV))) : (tupleKind (mixKind P w)).is h ks a := by
  obtain ⟨_, its, r, o, h1, h2, n, h3⟩ := (show ObjOk P w H h a (.tup (ks.map kV)) from ok a _ e)
  exact ⟨o, its.toArray, n, h1, h2, h3, by simpa using items_are r⟩
theorem dt_rd {kvs : List (List Key × V)} (ok : HOk P w H h) (e : Rd H a (.dT kvs)) : kvs.length ≤ sizeLine ∧ (a == sysModules) = false ∧
    ∃ xs, KT H kvs xs ∧ h.DictOfH (tupleKind (mixKind P w)) a xs := by
  obtain ⟨z, y, xs, r, o, es, ep, h1, h2, h3, h4, h5⟩ := (show ObjOk P w H h a (.dT kvs) from rd_of ok e)
  refine ⟨z, y, xs, r, o, es, ep, h1, h2, h3, h4, fun x hx => ?_, h5⟩
  have all : ∀ {l : List (List Key × V)} {m : List (List Key × Addr × Value)}, KT H l m → ∀ x ∈ m, (tupleKind (mixKind P w)).is h x.1 x.2.1 := by
    intro l m q
    induction q with
    | nil => intro x hx; exact nomatch hx
    | @cons p q ps qs hq t ih =>
      intro x hx
      rcases List.mem_cons.mp hx with e | hx
      · subst e
        exact key_of ok (by rw [← hq.1]; exact hq.2.1)
      · exact ih x hx
  exact all r x hx
theorem dt_of {kvs : List (List Key × V)} (ok : HOk P w H h) (e : H a = some (.dT kvs)) : kvs.length ≤ sizeLine ∧ (a == sysModules) = false ∧
    ∃ xs, KT H kvs xs ∧ h.DictOfH (tupleKind (mixKind P w)) a xs := dt_rd ok (.inl e)
end
/-- what the dict at a holds at the key y -/
def DGet (H : Hp) (a : Addr) (y : V) (r : Option V) : Prop :=
  (∃ kvs k, Rd H a (.dK kvs) ∧ y = kV k ∧ r = valV kvs k) ∨ ∃ kvs k b, Rd H a (.dT kvs) ∧ y = .ref b ∧ H b = some (.tup (k.map kV)) ∧ r = valV kvs k
/-- the heap behind a[y] = v -/
def DPut (H : Hp) (a : Addr) (y v : V) (H' : Hp) : Prop :=
  (∃ kvs k, H a = some (.dK kvs) ∧ y = kV k ∧ kvs.length < sizeLine ∧ H' = upd H a (.dK (putK kvs k v))) ∨
  ∃ kvs k b, H a = some (.dT kvs) ∧ y = .ref b ∧ H b = some (.tup (k.map kV)) ∧ kvs.length < sizeLine ∧ H' = upd H a (.dT (putK kvs k v))
theorem DGet.k {H : Hp} {a : Addr} {kvs : List (Key × V)} {k : Key} (e : H a = some (.dK kvs)) : DGet H a (kV k) (valV kvs k) := .inl ⟨kvs, k, .inl e, rfl, rfl⟩
theorem DGet.t {H : Hp} {a b : Addr} {kvs : List (List Key × V)} {k : List Key} (e : H a = some (.dT kvs)) (eb : H b = some (.tup (k.map kV))) : DGet H a (.ref b) (valV kvs k) := .inr ⟨kvs, k, b, .inl e, rfl, eb, rfl⟩
theorem DPut.k {H : Hp} {a : Addr} {kvs : List (Key × V)} {k : Key} {v : V} (e : H a = some (.dK kvs)) (hl : kvs.length < sizeLine) : DPut H a (kV k) v (upd H a (.dK (putK kvs k v))) := .inl ⟨kvs, k, e, rfl, hl, rfl⟩
theorem DPut.t {H : Hp} {a b : Addr} {kvs : List (List Key × V)} {k : List Key} {v : V} (e : H a = some (.dT kvs)) (eb : H b = some (.tup (k.map kV))) (hl : kvs.length < sizeLine) :
    DPut H a (.ref b) v (upd H a (.dT (putK kvs k v))) := .inr ⟨kvs, k, b, e, rfl, eb, hl, rfl⟩
section
variable {X : Cx} {pins : List (Addr × Obj)} {σ : St} {H : Hp} {s : Shared} {a : Addr} {y v : V} {u r : Value} {o : Option V} {A : Around} {E : Value → Shared → Prop}
theorem Inv.big (I : Inv X pins σ H s) : sysModules < s.heap.objs.size := by
  have h : mainGlobals < s.heap.objs.size := (I.mod.glob.keeps I.bk).lt
  exact Nat.lt_trans (by decide) h
/-- d[y], there -/
theorem d_getItem {Q : Value → Shared → Prop} (hu : A.units + 1 < cLine) (I : Inv X pins σ H s) (g : DGet H a y (some v)) (ry : RelV y u) (h : ∀ w' s', Inv X pins σ H s' → RelV v w' → Q w' s') :
    wpAny (model X.prog X.w) A (getItem (.ref a) u) Q E s := by
  rcases g with ⟨kvs, k, e, ey, l⟩ | ⟨kvs, k, b, e, ey, eb, l⟩
  · subst ey
    obtain ⟨z, hd, vs, rel, dd⟩ := dk_rd I.hok e
    obtain ⟨w', hw, rw'⟩ := RelO.some_of (v := v) (o := valueAt vs k) (by rw [l]; exact rel.val k)
    exact wpAny_getItem_of (kV_is ry) dd.mapOf hw (h w' _ (I.tok _) rw')
  · subst ey
    cases (show u = Value.ref b from ry)
    obtain ⟨z, hd, xs, rel, dd⟩ := dt_rd I.hok e
    obtain ⟨w', hw, rw'⟩ := RelO.some_of (v := v) (o := (atKey xs k).map (·.2)) (by rw [l]; exact rel.val k)
    obtain ⟨p, hp, hp2⟩ := Option.map_eq_some_iff.mp hw
    refine wpAny_getItem_heap (tupleKind_room_in1 hu) (key_of I.hok eb) dd hp ?_
    rw [hp2]
    exact h w' _ (I.tok _) rw'
theorem d_notIn {Q : Value → Shared → Prop} (hu : A.units + 1 < cLine) (I : Inv X pins σ H s) (g : DGet H a y o) (ry : RelV y u) (h : ∀ s', Inv X pins σ H s' → Q (.bool (!o.isSome)) s') :
    wpAny (model X.prog X.w) A (compareOp .NotIn u (.ref a)) Q E s := by
  rcases g with ⟨kvs, k, e, ey, l⟩ | ⟨kvs, k, b, e, ey, eb, l⟩
  · subst ey
    obtain ⟨z, hd, vs, rel, dd⟩ := dk_rd I.hok e
    refine wpAny_notIn_of (kV_is ry) hd dd.mapOf ?_
    rw [← (rel.val k).isSome_eq, ← l]
    exact h _ (I.tok _)
  · subst ey
    cases (show u = Value.ref b from ry)
    obtain ⟨z, hd, xs, rel, dd⟩ := dt_rd I.hok e
    refine wpAny_notIn_heap (tupleKind_room_in1 hu) (key_of I.hok eb) hd dd ?_
    have q := (rel.val k).isSome_eq
    rw [Option.isSome_map] at q
    rw [← q, ← l]
    exact h _ (I.tok _)
/-- a dict's object is replaced -/
theorem d_write {h' : Heap} {t' : Nat} {ob : HO} (I : Inv X pins σ H s) (mu : Mut (H a)) (hs : Heap.SameBut a s.heap h') (he : ∃ q, h'.get? a = some q) (new : ObjOk X.prog X.w (upd H a ob) h' a ob) :
    Inv X pins σ (upd H a ob) { s with heap := h', toks := t' } :=
  I.write (x := a) (e := a) mu (.inl rfl) (fun b q hb z => (hs.2 b hb).trans z) he new
theorem dk_new {P : Program} {w : World} {H' : Hp} {h' : Heap} {kvs : List (Key × V)} {vs : List (Key × Value)} (z : kvs.length ≤ sizeLine) (hd : (a == sysModules) = false) (rel : KV kvs vs) (dd : h'.DictOf (mixKind P w) a vs) :
    ObjOk P w H' h' a (.dK kvs) := ⟨z, hd, vs, rel, dd⟩
/-- d[y] = v -/
theorem d_setItem {H' : Hp} {Q : Unit → Shared → Prop} (hu : A.units + 1 < cLine) (I : Inv X pins σ H s) (g : DPut H a y v H') (ry : RelV y u) (rv : RelV v r) (h : ∀ s', Inv X pins σ H' s' → Q () s') :
    wpAny (model X.prog X.w) A (setItem (.ref a) u r) Q E s := by
  rcases g with ⟨kvs, k, e, ey, l, eH⟩ | ⟨kvs, k, b, e, ey, eb, l, eH⟩
  · subst ey eH
    obtain ⟨z, hd, vs, rel, dd⟩ := dk_of I.hok e
    have hz : vs.length ≤ sizeLine := by rw [← rel.length]; exact z
    have hl : (putK kvs k v).length ≤ sizeLine := by have := length_putK kvs k v; omega
    refine wpAny_setItem_pairs (hsz := hz) (kV_is ry) dd fun h' dd' hs => h _ ?_
    have he : ∃ q, h'.get? a = some q := let ⟨q, _, _, hq, _⟩ := dd'; ⟨q, hq⟩
    exact d_write I (by rw [e]; exact True.intro) hs he (dk_new hl hd (rel.put k rv) dd')
  · subst ey eH
    cases (show u = Value.ref b from ry)
    obtain ⟨z, hd, xs, rel, dd⟩ := dt_of I.hok e
    have hz : xs.length ≤ sizeLine := by rw [← Paired.length rel]; exact z
    have hl : (putK kvs k v).length ≤ sizeLine := by have := length_putK kvs k v; omega
    refine wpAny_setItem_heap (hsz := hz) (tupleKind_room_in1 hu) (key_of I.hok eb) dd fun h' dd' hs => h _ ?_
    obtain ⟨q, es, ep, hq, h2, h3, h4, _, h5⟩ := dd'
    refine d_write I (by rw [e]; exact True.intro) hs ⟨q, hq⟩ ⟨hl, hd, _, (rel.put k eb rv).keeps fun c ys ec => ?_, q, es, ep, hq, h2, h3, h4, h5⟩
    rw [upd_ne (ne_of ec e (fun z => nomatch z))]
    exact ec
end
section
variable {X : Cx} {pins : List (Addr × Obj)} {σ : St} {H : Hp} {s : Shared} {a : Addr} {kvs : List (Key × V)} {k : Key} {u : Value} {A : Around} {E : Value → Shared → Prop}
/-- len(d) -/
theorem d_len {Q : Value → Shared → Prop} (I : Inv X pins σ H s) (e : Rd H a (.dK kvs)) (h : ∀ t s', Inv X pins σ H s' → Q (.int kvs.length t) s') : wpAny (model X.prog X.w) A (call (.builtin "len") [.ref a]) Q E s := by
  obtain ⟨z, hd, vs, rel, dd⟩ := dk_rd I.hok e
  refine call_len_dict hd dd (by rw [← rel.length]; rw [sizeLine_eq] at z; omega) ?_
  rw [← rel.length]
  exact h _ _ (I.tok _)
end
/-! ### readings and rules -/
/-- the element of a subscription, not a slice -/
def NoSl (i : Expr) : Prop := ∀ ov iv, subscripted i false ov iv = operate [ov, iv] (getItem ov iv)
theorem subD_of {prog : Program} {w : World} {A : Around} {E : Value → Shared → Prop} {s : Shared} {env : Env} {value slice : Expr} {pos : Pos} {T id : String} {Q : Value → Shared → Prop}
    (hl : typeLookup (.type T) "__getitem__" = pure (some (.builtin id))) (hs : NoSl slice)
    (h : wpAny (model prog w) A (eval value env) (fun o s₁ => wpAny (model prog w) A (eval slice env) (fun i s₂ => s₂.TypeIs o T ∧ wpAny (model prog w) A (getItem o i) Q E s₂) E s₁) E s) :
    wpAny (model prog w) A (eval (.Subscript value slice pos) env) Q E s := by
  refine Subscript_ (wpAny_mono h (fun o s₁ h₁ => wpAny_mono h₁ (fun i s₂ h₂ => ?_) fun _ _ x => x) fun _ _ x => x)
  obtain ⟨hT, h₂⟩ := h₂
  unfold subscriptTail
  refine wpAny_bind ?_
  rw [getitemInPython_of_ne hT.not_modules]
  refine wpAny_bind (wpAny_specialOf hT hl ?_)
  have fin : wpAny (model prog w) A (subscripted slice false o i) (fun r s₃ => wpAny (model prog w) A (letTemporaryGo value o r >>= fun _ => pure r) Q E s₃) E s₂ := by
    rw [hs o i]
    exact wpAny_operating (wpAny_mono h₂ (fun r s₃ h₃ => wpAny_bind (wpAny_letTemporaryGo (wpAny_pure h₃))) fun _ _ x => x)
  first
    | exact wpAny_pure (wpAny_bind fin)
    | exact wpAny_bind (wpAny_pure (wpAny_bind fin))
    | exact wpAny_bind fin
theorem dict_typeIs {X : Cx} {pins : List (Addr × Obj)} {σ : St} {H : Hp} {s : Shared} {a : Addr} {y : V} {o : Option V} (I : Inv X pins σ H s) (g : DGet H a y o) : s.TypeIs (.ref a) "dict" := by
  rcases g with ⟨kvs, k, e, _, _⟩ | ⟨kvs, k, b, e, _, _, _⟩
  · obtain ⟨_, _, vs, _, dd⟩ := dk_rd I.hok e
    exact dd.typeIs
  · obtain ⟨_, _, xs, _, dd⟩ := dt_rd I.hok e
    exact dd.typeIs
/-- d[y] -/
def tDGet (td ty : TE) : TE := fun σ H Q => td σ H fun x H1 => ty σ H1 fun y H2 => ∃ a v, x = .ref a ∧ DGet H2 a y (some v) ∧ Q v H2
section
variable {X : Cx} {o i e value : Expr} {pos pos' tpos : Pos} {td ty tv : TE}
theorem pe_dget (hu : X.A.units + 1 < cLine) (ho : PE X o td) (hi : PE X i ty) (hs : NoSl i) : PE X (.Subscript o i pos) (tDGet td ty) := by
  intro pins s σ H Q I h
  refine subD_of PySem.F.slot_dict_getitem.lookup hs (thn (ho pins s σ H _ I h) fun u s1 ⟨x, H1, I1, rx, q1⟩ => thn (hi pins s1 σ H1 _ I1 q1) fun iv s2 ⟨y, H2, I2, ry, a, v, ex, g, q2⟩ => ?_)
  subst ex
  obtain rfl : u = Value.ref a := rx
  exact ⟨dict_typeIs I2 g, d_getItem hu I2 g ry fun w' s3 I3 rw' => ⟨v, H2, I3, rw', q2⟩⟩
end
/-! ### displays -/
theorem dk_empty {P : Program} {w : World} {H : Hp} (h : Heap) (hb : sysModules < h.objs.size) : ObjOk P w H (h.push { cls := .type "dict", data := .dict #[] }) h.objs.size (.dK []) :=
  ⟨Nat.zero_le _, beq_eq_false_iff_ne.mpr (Ne.symm (Nat.ne_of_lt hb)), [], .nil, Heap.DictOf.new h⟩
theorem dt_empty {P : Program} {w : World} {H : Hp} (h : Heap) (hb : sysModules < h.objs.size) : ObjOk P w H (h.push { cls := .type "dict", data := .dict #[] }) h.objs.size (.dT []) :=
  ⟨Nat.zero_le _, beq_eq_false_iff_ne.mpr (Ne.symm (Nat.ne_of_lt hb)), [], .nil, _, #[], 0, Heap.get?_push_size _ rfl, ⟨rfl, rfl, rfl⟩, rfl, rfl, List.nodup_nil⟩
/-- {}, to be a dict of the kind that is wanted -/
def tDNewK : TE := fun _ H Q => ∀ p, H p = none → Q (.ref p) (upd H p (.dK []))
def tDNewT : TE := fun _ H Q => ∀ p, H p = none → Q (.ref p) (upd H p (.dT []))
section
variable {X : Cx} {pos : Pos}
theorem pe_dnewK : PE X (.Dict [] [] pos) tDNewK := fun pins s σ H Q I h =>
  wpAny_Dict_empty ⟨.ref s.heap.objs.size, _, I.laid (a := s.heap.objs.size) (o := .dK []) (t' := s.toks) (fun _ _ q => Heap.get?_push_of_some _ q) (Nat.le_refl _) (dk_empty s.heap I.big), rfl, h _ (I.hok.fresh (Nat.le_refl _))⟩
theorem pe_dnewT : PE X (.Dict [] [] pos) tDNewT := fun pins s σ H Q I h =>
  wpAny_Dict_empty ⟨.ref s.heap.objs.size, _, I.laid (a := s.heap.objs.size) (o := .dT []) (t' := s.toks) (fun _ _ q => Heap.get?_push_of_some _ q) (Nat.le_refl _) (dt_empty s.heap I.big), rfl, h _ (I.hok.fresh (Nat.le_refl _))⟩
end
/-! ### methods -/
/-- a method call o.m(e) of a built-in, with one argument: what must be seen of the text -/
structure M1 (X : Cx) (o : Expr) (m : Str) (apos : Pos) (e : Expr) (cpos : Pos) : Prop where
  base : attributeBase o m X.env (eval o X.env) = eval o X.env
  few : ((backTo cpos (starEach [e] X.env)).all (fun x => !x.1) && (backToKw cpos (keywordEach [] X.env)).all (fun x => x.1.isSome)
    && decide (([e] : List Expr).length + ([] : List Keyword).length + (if ([] : List Keyword).isEmpty then 0 else 1) < 30)) = true
  line : (apos.endLine == cpos.line) = true
  trees : backTo cpos (starEach [e] X.env) = [(false, eval e X.env)]
structure M2 (X : Cx) (o : Expr) (m : Str) (apos : Pos) (e f : Expr) (cpos : Pos) : Prop where
  base : attributeBase o m X.env (eval o X.env) = eval o X.env
  few : ((backTo cpos (starEach [e, f] X.env)).all (fun x => !x.1) && (backToKw cpos (keywordEach [] X.env)).all (fun x => x.1.isSome)
    && decide (([e, f] : List Expr).length + ([] : List Keyword).length + (if ([] : List Keyword).isEmpty then 0 else 1) < 30)) = true
  line : (apos.endLine == cpos.line) = true
  trees : backTo cpos (starEach [e, f] X.env) = [(false, eval e X.env), (false, eval f X.env)]
section
variable {X : Cx} {pins : List (Addr × Obj)} {σ : St} {H : Hp} {s : Shared} {a : Addr} {y d : V} {u r : Value} {o : Option V} {A : Around} {E : Value → Shared → Prop}
/-- d.get(y, x) -/
theorem d_get2 {Q : Value → Shared → Prop} (hu : A.units + 1 < cLine) (I : Inv X pins σ H s) (g : DGet H a y o) (ry : RelV y u) (rd : RelV d r) (h : ∀ w' s', Inv X pins σ H s' → RelV (o.getD d) w' → Q w' s') :
    wpAny (model X.prog X.w) A (call (.builtin "dict.get") [.ref a, u, r]) Q E s := by
  rcases g with ⟨kvs, k, e, ey, l⟩ | ⟨kvs, k, b, e, ey, eb, l⟩
  · subst ey
    obtain ⟨z, hd, vs, rel, dd⟩ := dk_rd I.hok e
    refine call_meetsIn PySem.F.slot_dict_get dd.typeIs PySem.F.entry_dict_get (PySem.F.args_dict_get_3 _ _ _) (meets_dict_get_default (mixKind X.prog X.w) a (kV_is ry) hd r) ⟨_, dd.mapOf, h _ _ (I.tok _) ?_⟩
    rw [l]
    exact (rel.val k).getD rd
  · subst ey
    cases (show u = Value.ref b from ry)
    obtain ⟨z, hd, xs, rel, dd⟩ := dt_rd I.hok e
    refine call_meetsIn PySem.F.slot_dict_get dd.typeIs PySem.F.entry_dict_get (PySem.F.args_dict_get_3 _ _ _) (meetsH_dict_get_default (tupleKind (mixKind X.prog X.w)) a b hd r) ⟨tupleKind_room_in1 hu, k, xs, key_of I.hok eb, dd, h _ _ (I.tok _) ?_⟩
    rw [l]
    exact (rel.val k).getD rd
end
section
variable {X : Cx} {o e f : Expr} {apos cpos : Pos} {td ty tx : TE}
end
/-! ### dict(d): a copy -/
section
variable {X : Cx} {pins : List (Addr × Obj)} {σ : St} {H : Hp} {s : Shared} {a : Addr} {kvs : List (Key × V)} {A : Around} {E : Value → Shared → Prop}
end
section
variable {X : Cx} {pins : List (Addr × Obj)} {σ : St} {H : Hp} {s : Shared} {a : Addr} {y : V} {u : Value} {A : Around} {E : Value → Shared → Prop}
end
end L2
namespace L2
open PySem PySem.Spec PyProof.Rows
/-! ### d.setdefault(k, v), k a tuple -/
section
variable {X : Cx} {pins : List (Addr × Obj)} {σ : St} {H : Hp} {s : Shared} {a b : Addr} {v : V} {u r : Value} {A : Around} {E : Value → Shared → Prop} {kvs : List (List Key × V)} {k : List Key}
end
end L2
namespace M
open PySem PySem.Spec L2
/-! ### dicts whose keys are tuples of ints and texts -/
def keyOf : D → Option Key
  | .int i => some (.inl i)
  | .str cs => some (.inr (strOf cs))
  | _ => none
def keysOf : List D → Option (List Key)
  | [] => some []
  | d :: ds => (keyOf d).bind fun k => (keysOf ds).map fun ks => k :: ks
def valM (kvs : List (List Key × D)) (k : List Key) : Option D := (kvs.find? fun kv => decide (kv.1 = k)).map (·.2)
@[simp] theorem keyOf_int (i : Int) : keyOf (.int i) = some (.inl i) := by_rfl rfl
@[simp] theorem keysOf_nil : keysOf [] = some [] := by_rfl rfl
@[simp] theorem keysOf_cons (d : D) (ds : List D) : keysOf (d :: ds) = (keyOf d).bind fun k => (keysOf ds).map fun ks => k :: ks := by_rfl rfl
@[simp] theorem valM_nil (k : List Key) : valM [] k = none := by_rfl rfl
theorem valM_cons (p : List Key × D) (r : List (List Key × D)) (k : List Key) : valM (p :: r) k = if p.1 = k then some p.2 else valM r k := by
  unfold valM
  rw [List.find?_cons]
  by_cases h : p.1 = k
  · simp [h]
  · simp [h]
theorem RepVs.keys {K : PySem.W.Frag} {μ : List Addr} {H : Hp} : ∀ {ds : List D} {xs : List V} {ks : List Key}, RepVs K μ H ds xs → keysOf ds = some ks → xs = ks.map kV
  | [], xs, ks, h, e => by
    rw [RepVs] at h
    rw [keysOf_nil] at e; cases e; exact h
  | d :: ds, xs, ks, h, e => by
    rw [RepVs] at h
    obtain ⟨v, r, rfl, h1, h2⟩ := h
    rw [keysOf_cons] at e
    cases e1 : keyOf d with
    | none => rw [e1] at e; cases e
    | some k1 =>
      rw [e1] at e
      cases e2 : keysOf ds with
      | none => rw [e2] at e; cases e
      | some ks2 =>
        rw [e2] at e
        cases e
        rw [RepVs.keys h2 e2]
        have : v = kV k1 := by
          cases d with
          | int i => rw [RepV.int_iff] at h1; cases e1; exact h1
          | str cs => rw [RepV.str_iff] at h1; cases e1; exact h1
          | _ => cases e1
        rw [this]; rfl
theorem keysOf_noKey : ∀ {ds : List D} {ks : List Key}, keysOf ds = some ks → noKey ds = false
  | [], _, _ => rfl
  | d :: ds, ks, e => by
    rw [keysOf_cons] at e
    cases e1 : keyOf d with
    | none => rw [e1] at e; cases e
    | some k1 =>
      rw [e1] at e
      cases e2 : keysOf ds with
      | none => rw [e2] at e; cases e
      | some ks2 =>
        have ih := keysOf_noKey e2
        cases d with
        | int i => rw [noKey]; exact ih
        | str cs => rw [noKey]; exact ih
        | _ => cases e1
theorem TupA.made {K : PySem.W.Frag} {H : Hp} {a : Addr} {xs : List V} {ds : List D} {ks : List Key} (h : TupA K H a xs ds) (e : keysOf ds = some ks) : H a = some (.tup xs) := by
  rcases h with h | ⟨h, _⟩
  · exact h
  · rw [keysOf_noKey e] at h; cases h
theorem RepKV.val {K : PySem.W.Frag} {μ : List Addr} {H : Hp} {k : List Key} : ∀ {kvs : List (List Key × D)} {ws : List (List Key × V)}, RepKV K μ H kvs ws →
    (valM kvs k = none ∧ valV ws k = none) ∨ ∃ d v, valM kvs k = some d ∧ valV ws k = some v ∧ RepV K μ H d v
  | [], ws, h => .inl ⟨rfl, by rw [RepKV] at h; rw [h]; rfl⟩
  | (j, d) :: r, ws, h => by
    obtain ⟨v, r', rfl, h1, h2⟩ := h
    rw [valM_cons]
    by_cases e : j = k
    · rw [if_pos e]
      exact .inr ⟨d, v, rfl, valV_pos (p := (j, v)) e, h1⟩
    · rw [if_neg e, valV_neg (p := (j, v)) e]
      exact RepKV.val h2
theorem RepKV.snoc {K : PySem.W.Frag} {μ : List Addr} {H : Hp} {k : List Key} {d : D} {v : V} : ∀ {kvs : List (List Key × D)} {ws : List (List Key × V)}, RepKV K μ H kvs ws → RepV K μ H d v → RepKV K μ H (kvs ++ [(k, d)]) (ws ++ [(k, v)])
  | [], ws, h, hv => by rw [RepKV] at h; subst h; exact ⟨v, [], rfl, hv, rfl⟩
  | (j, d') :: r, ws, h, hv => by
    obtain ⟨v', r', rfl, h1, h2⟩ := h
    exact ⟨v', r' ++ [(k, v)], rfl, h1, RepKV.snoc h2 hv⟩
theorem RepKV.len {κ : Type} {K : PySem.W.Frag} {μ : List Addr} {H : Hp} : ∀ {kvs : List (κ × D)} {ws : List (κ × V)}, RepKV K μ H kvs ws → kvs.length = ws.length
  | [], ws, h => by rw [RepKV] at h; rw [h]; rfl
  | (j, d) :: r, ws, h => by
    obtain ⟨v, r', rfl, h1, h2⟩ := h
    rw [List.length_cons, List.length_cons, RepKV.len h2]
theorem RepS.dic {K : PySem.W.Frag} {μ : List Addr} {H : Hp} {st : Stor} {n : Nat} {kvs : List (List Key × D)} (h : RepS K μ H st) (e : st[n]? = some (.dic kvs)) : ∃ p ws, μ[n]? = some p ∧ H p = some (.dT ws) ∧ RepKV K μ H kvs ws := by
  obtain ⟨p, h1, xs, h2, h3⟩ := h.at_ n _ e
  exact ⟨p, xs, h1, h2, h3⟩
section
variable {X : Cx} {e a b c o : Expr} {es : List Expr} {ma mb mc mo : ME} {mA : MA} {pos p2 p apos cpos : Pos}
/-- {} -/
def dicE : ME := fun _ st => .ok (.loc st.length) (st ++ [.dic []])
theorem je_dict : JE X (.Dict [] [] pos) dicE := by
  refine JE.of pe_dnewT fun σ H Q ⟨μ, env, st, hE, hs, hp⟩ => fun p hn => ?_
  have hr : RepO X.K (μ ++ [p]) (upd H p (.dT [])) p (.dic []) := ⟨[], upd_same, rfl⟩
  exact hp _ _ (μ ++ [p]) (Grow.new hn) (hs.new hn hr) (RepV.loc_iff.mpr ⟨p, by rw [← hs.len]; simp, rfl⟩)
end
end M
namespace L2
open PySem PySem.Spec PyProof.Rows
/-! ### for c in text (of signs below 128) -/
def Its (x : Str) : It := ⟨fun i _ => i < x.cps.size, fun i H y H' => H' = H ∧ ∃ c, x.cps[i]? = some c ∧ y = .str ⟨#[c]⟩, fun i _ => x.cps.size ≤ i⟩
theorem turn_str {P : Program} {w : World} {K : PySem.W.Frag} {tg : Expr} (it : Addr) (x : Str) (t : Tok) : Turn P w K tg (Its x) [it] it (fun i h => h.IsStrIter it "str_ascii_iterator" x t i) where
  mem := by simp
  obj := fun i h st b hb => by
    have e : b = it := by simpa using hb
    subst e
    obtain ⟨o, e, c, d⟩ := st
    exact ⟨o, e, fun v z => by rw [d] at z; cases z⟩
  keep := fun i h h' st k => by
    obtain ⟨o, e, c, d⟩ := st
    exact ⟨o, k it (by simp) o e, c, d⟩
  item := by
    intro X hP hw hK hc i pins s σ H E I hf st hg
    subst hP hw hK
    obtain ⟨f0, f1, f2, f3, f4, f5⟩ := hf it (by simp)
    have hi : i < x.cps.size := hg
    refine wpAny_pyNext_ascii_item st (Array.getElem?_eq_getElem hi) fun h' st' sb => ?_
    have I1 : Inv X pins σ H { s with heap := h', toks := s.toks + 1 } := I.turned (fun b o hb e => (sb.2 b hb).trans e) f0 f1 f3 f4 f5
    obtain ⟨o, e, c, d⟩ := id st'
    exact ⟨_, rfl, go_of (s := { s with heap := h', toks := s.toks + 1 }) e c d (by decide) ⟨.str ⟨#[x.cps[i]]⟩, H, I1, ⟨_, rfl⟩, ⟨rfl, _, Array.getElem?_eq_getElem hi, rfl⟩, st', fun b hb => (hf b hb).1⟩⟩
  done := by
    intro X hP hw hK hc i pins s σ H E I hf st hg
    subst hP hw hK
    obtain ⟨f0, f1, f2, f3, f4, f5⟩ := hf it (by simp)
    have hi : x.cps.size ≤ i := hg
    exact wpAny_pyNext_ascii_end (I.ok.hd hc) st (Array.getElem?_eq_none hi) fun h' eb => ⟨rfl, I.turned (t' := s.toks) (fun b o hb e => eb b o hb e) f0 f1 f3 f4 f5⟩
  self := fun _ _ _ _ _ st h => wpAny_pyIter_striter_ascii st h
def iStr (tl : TE) : TI := fun σ H R => tl σ H fun y H1 => ∃ x, y = .str x ∧ strIterType x = "str_ascii_iterator" ∧ R (Its x) H1
theorem pi_str {X : Cx} {tg l : Expr} {tl : TE} (hl : PE X l tl) : PI X tg l (iStr tl) := by
  intro pins s σ H R I h
  refine thn (hl pins s σ H _ I h) fun v s1 ⟨y, H1, I1, r1, q1⟩ => ?_
  obtain ⟨x, e, ha, q⟩ := q1
  subst e
  obtain ⟨t, rfl⟩ := r1
  refine wpAny_pyIter_strU ?_
  rw [ha]
  refine ⟨s1.heap.objs.size, [s1.heap.objs.size], _, _, H1, rfl, I1.kept (t' := s1.toks) fun b o e => Heap.get?_push_of_some _ e, turn_str _ x t, ⟨_, Heap.get?_push_size _ rfl, rfl, rfl⟩, fun b hb => ?_, q⟩
  have e : b = s1.heap.objs.size := by simpa using hb
  subst e
  exact I1.fpOk (Nat.le_refl _) (I1.hok.fresh (Nat.le_refl _))
end L2
namespace M
open PySem PySem.Spec L2
section
variable {X : Cx} {tg l : Expr} {ml : ME} {μ : List Addr} {H : Hp}
def strI (m : ME) : MI := fun env st => (m env st).bind fun d st1 => match d with
  | .str cs => if cs.all (fun c => decide (c < 128)) = true then .ok (cs.map fun c => D.str [c], []) st1 else .bad
  | _ => .bad
theorem its_rep (cs : List Nat) : ItRep X μ H (Its (strOf cs)) (cs.map fun c => D.str [c], []) := by
  intro H' μ' st' g hs ok
  refine ⟨fun i d e => ?_, by show (strOf cs).cps.size ≤ _; simp⟩
  rw [List.getElem?_map] at e
  obtain ⟨c, e1, rfl⟩ := Option.map_eq_some_iff.mp e
  refine ⟨by show i < (strOf cs).cps.size; simpa using (List.getElem?_eq_some_iff.mp e1).1, ?_⟩
  rintro x H'' ⟨rfl, c', hc, rfl⟩
  have : c' = c := by
    have h2 : cs[i]? = some c' := by simpa using hc
    rw [e1] at h2; exact (Option.some.inj h2).symm
  subst this
  exact ⟨.refl _ _, hs, RepV.str_iff.mpr rfl⟩
theorem ji_str (hl : JE X l ml) : JI X tg l (strI ml) := by
  refine JI.of (pi_str hl) fun σ H R ⟨μ, env, st, hE, hs, hp⟩ => ⟨μ, env, st, hE, hs, (Post.bind hp).imp ?_⟩
  rintro v H1 ⟨μ1, st1, d, g1, hs1, hv, hp1⟩
  dsimp only at hp1
  split at hp1
  · rename_i cs
    split at hp1
    · rename_i hc
      obtain rfl := RepV.str_iff.mp hv
      refine ⟨strOf cs, rfl, ?_, hp1 _ _ _ (.refl _ _) hs1 (its_rep cs)⟩
      unfold strIterType
      rw [if_pos]
      show (cs.toArray.all _) = true
      rw [List.all_toArray]; exact hc
    · exact hp1.elim
  · exact hp1.elim
end
end M
namespace L2
open PySem PySem.Spec PyProof.Rows
end L2
namespace M
open PySem PySem.Spec L2
end M
namespace M
open L2
/-! ### more rules for running, and plain facts -/
theorem cut_map {α β : Type} (f : α → β) (l : List α) (lo hi : Option Int) : cut (l.map f) lo hi = (cut l lo hi).map f := by
  unfold cut
  rw [List.length_map, List.map_take, List.map_drop]
theorem cut_len {α : Type} (l : List α) (lo hi : Option Int) : (cut l lo hi).length ≤ l.length := by
  unfold cut
  rw [List.length_take, List.length_drop]; omega
theorem upto_len (lo : Int) (n : Nat) : (upto lo n).length = n := by simp [upto]
section
variable (st : Stor)
theorem r_len_str (cs : List Nat) (h : cs.length ≤ 1000000) : lenV [.str cs] st = .ok (.int cs.length) st := by simp [lenV, h]
@[simp] theorem r_strI (a : ME) (env : MEnv) : strI a env st = (a env st).bind fun d st1 => match d with
  | .str cs => if cs.all (fun c => decide (c < 128)) = true then .ok (cs.map fun c => D.str [c], []) st1 else .bad
  | _ => .bad := by_rfl rfl
end
end M
namespace M
open PySem PySem.Spec L2
section
variable {X : Cx}
/-! ### k in d, k not in d, d[k] = v, d[k] (keys that are tuples), l.pop() -/
def inDV (neg : Bool) : D → D → Stor → R D
  | .tup ks, .loc n, st => match st[n]?, keysOf ks with
    | some (.dic kvs), some k => .ok (.bl (if neg then !(valM kvs k).isSome else (valM kvs k).isSome)) st
    | _, _ => .bad
  | _, _, _ => .bad
theorem inD_core {H : Hp} {x y : V} {Q : VK} {neg : Bool} (h : rM X (inDV neg) x y H Q) : ∃ p o, y = .ref p ∧ DGet H p x o ∧ Q (.bl (if neg then !o.isSome else o.isSome)) H := by
  obtain ⟨μ, st, dx, dy, hs, hx, hy, hp⟩ := h
  unfold inDV at hp
  split at hp
  · rename_i ks n
    split at hp
    · rename_i kvs k e1 e2
      obtain ⟨p, q1, rfl⟩ := RepV.loc_iff.mp hy
      obtain ⟨b, ys, rfl, q3, q4⟩ := RepV.tup_iff.mp hx
      replace q3 := q3.made e2
      obtain rfl := q4.keys e2
      obtain ⟨p', ws, r1, r2, r3⟩ := hs.dic e1
      rw [q1] at r1; cases r1
      refine ⟨p, _, rfl, DGet.t r2 q3, ?_⟩
      rcases r3.val (k := k) with ⟨z1, z2⟩ | ⟨d', v', z1, z2, z3⟩
      · rw [z1] at hp
        rw [z2]
        exact hp.ret hs (RepV.bl_iff.mpr rfl)
      · rw [z1] at hp
        rw [z2]
        exact hp.ret hs (RepV.bl_iff.mpr rfl)
    · exact hp.elim
  · exact hp.elim
theorem op_notInDV (hu : X.A.units + 1 < cLine) : OpR X (compareOp .NotIn) (rM X (inDV true)) := by
  intro pins s σ H x y v u Q I rx ry h
  obtain ⟨p, o, rfl, g, q⟩ := inD_core h
  obtain rfl : u = Value.ref p := ry
  exact d_notIn hu I g rx fun s' I' => ⟨.bl (!o.isSome), H, I', rfl, q⟩
/-- in its place, or at the end -/
def putM (kvs : List (List Key × D)) (k : List Key) (d : D) : List (List Key × D) :=
  if (kvs.any fun kv => decide (kv.1 = k)) = true then kvs.map (fun kv => if kv.1 = k then (kv.1, d) else kv) else kvs ++ [(k, d)]
theorem RepKV.any {K : PySem.W.Frag} {μ : List Addr} {H : Hp} {k : List Key} : ∀ {kvs : List (List Key × D)} {ws : List (List Key × V)}, RepKV K μ H kvs ws → (kvs.any fun kv => decide (kv.1 = k)) = (ws.any fun kv => decide (kv.1 = k))
  | [], ws, h => by rw [RepKV] at h; rw [h]; rfl
  | (j, d) :: r, ws, h => by
    obtain ⟨v, r', rfl, h1, h2⟩ := h
    rw [List.any_cons, List.any_cons, RepKV.any h2]
theorem RepKV.repl {K : PySem.W.Frag} {μ : List Addr} {H : Hp} {k : List Key} {d : D} {v : V} (hv : RepV K μ H d v) : ∀ {kvs : List (List Key × D)} {ws : List (List Key × V)}, RepKV K μ H kvs ws → RepKV K μ H (kvs.map fun kv => if kv.1 = k then (kv.1, d) else kv) (ws.map fun kv => if kv.1 = k then (kv.1, v) else kv)
  | [], ws, h => by rw [RepKV] at h; subst h; exact rfl
  | (j, d') :: r, ws, h => by
    obtain ⟨v', r', rfl, h1, h2⟩ := h
    rw [List.map_cons, List.map_cons]
    by_cases e : j = k
    · rw [if_pos e, if_pos e]; exact ⟨v, _, rfl, hv, RepKV.repl hv h2⟩
    · rw [if_neg e, if_neg e]; exact ⟨v', _, rfl, h1, RepKV.repl hv h2⟩
theorem RepKV.put {K : PySem.W.Frag} {μ : List Addr} {H : Hp} {k : List Key} {d : D} {v : V} {kvs : List (List Key × D)} {ws : List (List Key × V)} (h : RepKV K μ H kvs ws) (hv : RepV K μ H d v) : RepKV K μ H (putM kvs k d) (putK ws k v) := by
  unfold putM putK
  rw [h.any]
  split
  · exact RepKV.repl hv h
  · exact h.snoc hv
def setDV : D → D → D → Stor → R Unit
  | .loc n, .tup ks, d, st => match st[n]?, keysOf ks with
    | some (.dic kvs), some k => if kvs.length < 1000000 then .ok () (st.set n (.dic (putM kvs k d))) else .bad
    | _, _ => .bad
  | _, _, _, _ => .bad
theorem set_DV (hu : X.A.units + 1 < cLine) : PSet X (rMSet X setDV) := by
  rintro pins s σ H o i v ov iv u Q I ro ri rv ⟨μ, st, d1, d2, d3, hs, h1, h2, h3, hp⟩
  unfold setDV at hp
  split at hp
  · rename_i n ks d
    split at hp
    · rename_i kvs k e1 e2
      split at hp
      · rename_i hl
        obtain ⟨p, q1, rfl⟩ := RepV.loc_iff.mp h1
        obtain ⟨b, ys, rfl, q3, q4⟩ := RepV.tup_iff.mp h2
        replace q3 := q3.made e2
        obtain rfl := q4.keys e2
        obtain ⟨p', ws, r1, r2, r3⟩ := hs.dic e1
        rw [q1] at r1; cases r1
        obtain rfl : ov = Value.ref p := ro
        refine d_setItem hu I (DPut.t r2 q3 (by rw [← r3.len]; exact Nat.lt_of_lt_of_le hl (by decide))) ri rv fun s' I' => ⟨_, I', ?_⟩
        have g : Ext H (upd H p (.dT (putK ws k v))) := Ext.mut r2 (fun _ z => nomatch z) (fun _ _ z => nomatch z)
        have g' : Grow μ H μ (upd H p (.dT (putK ws k v))) := ⟨⟨[], by simp⟩, g⟩
        exact hp () _ μ g' (hs.put e1 rfl rfl q1 g ⟨_, upd_same, (r3.put h3).mono g'⟩) trivial
      · exact hp.elim
    · exact hp.elim
  · exact hp.elim
end
end M
namespace L2
open PySem PySem.Spec PyProof.Rows
end L2
namespace M
open PySem PySem.Spec L2
section
variable {X : Cx}
end
end M
namespace M
open PySem PySem.Spec L2
/-! ### join and split are one another's way back -/
end M
namespace L2
open PySem PySem.Spec PyProof.Rows
end L2
namespace M
open PySem PySem.Spec L2
/-! ### text * n -/
section
variable {X : Cx} {a b c : Expr} {ma mb mc : ME} {pos : Pos}
/-! ### a op1 b op2 c -/
/-! ### str(i), str(text) -/
end
end M
namespace M
open PySem PySem.Spec L2
section
variable {X : Cx} {pos : Pos} {x : Str}
/-! ### a module's constants; what is never reached -/
end
end M
namespace M
open L2
section
variable (st : Stor)
end
end M
namespace M
open L2
/-! split at one sign, plainly -/
end M
namespace M
open L2
/-- a loop without early leave, by the turn's number -/
theorem forGo_ix {g : MG} {b : MS} {gs : List (Nat × MO)} {items : List D} (I : Nat → MEnv → Stor → Prop) {env : MEnv} {st : Stor} (h0 : I 0 env st)
    (step : ∀ i d env st, items[i]? = some d → I i env st → okG gs st ∧ ∃ env1 st1, g d env st = .ok env1 st1 ∧ ∃ env2 st2, (b env1 st1 = .ok (.nx env2) st2 ∨ b env1 st1 = .ok (.cn env2) st2) ∧ I (i + 1) env2 st2)
    (hend : ∀ env st, I items.length env st → okG gs st) : ∃ env' st', forGo g b gs items env st = .ok (.nx env') st' ∧ I items.length env' st' := by
  refine forGo_all (fun pre env st => I pre.length env st) h0 (fun pre d post env st e hI => ?_) hend
  have := step pre.length d env st (by rw [e]; simp) hI
  simpa using this
theorem upto_get {lo : Int} {n i : Nat} {d : D} (h : (upto lo n)[i]? = some d) : i < n ∧ d = .int (lo + (i : Nat)) := by
  have h2 : i < n := by
    have := (List.getElem?_eq_some_iff.mp h).1
    rwa [upto_len] at this
  unfold upto at h
  rw [List.getElem?_map, List.getElem?_range h2] at h
  exact ⟨h2, (Option.some.inj h).symm⟩
theorem enum_get {xs : List D} {i : Nat} {d : D} (h : (enumL 0 xs)[i]? = some d) : ∃ x, xs[i]? = some x ∧ d = .tup [.int (i : Nat), x] := by
  rw [enumL_get] at h
  cases e : xs[i]? with
  | none => rw [e] at h; cases h
  | some x =>
    rw [e] at h
    simp at h
    exact ⟨x, rfl, h.symm⟩
end M
namespace M
open L2
end M
namespace M
open L2
end M
namespace M
open L2
/-! ### while, without fuel -/
/-! ### more of texts -/
/-- t.rstrip(c), c one sign -/
def rstripL (c : Nat) (cs : List Nat) : List Nat := (cs.reverse.dropWhile (fun x => decide (x = c))).reverse
end M
namespace M
open L2
theorem rstripL_nil (c : Nat) : rstripL c [] = [] := rfl
end M
namespace L2
open PySem PySem.Spec PyProof.Rows
section
variable {X : Cx} {a b : Expr} {rest : List Expr} {pos : Pos} {ta tb : TE}
end
end L2
namespace M
open PySem PySem.Spec L2
section
variable {X : Cx} {a b c : Expr} {ma mb mc : ME} {pos : Pos} {rest : List Expr}
/-! while -/
/-! c in t, t.rstrip(c) -/
end
end M
namespace L2
open PySem PySem.Spec PyProof.Rows PySem.Builtin PySem.Builtin.Str
/-! ### text * truth -/
end L2
namespace M
open PySem PySem.Spec L2
/-! ### defs with a default -/
structure FunD (K : PySem.W.Frag) (x qual : Str) (st : Stmt) (f : Addr) (fd : FuncData) : Prop where
  ex : ∃ (oc : Value) (od : Option Addr) (dV kV doc pm : Value) (an : Option Addr) (cdv ct : Value) (osl : Array (Option Value)),
    fd = PySem.W.fnOf x qual (defArgs st) (defBody st) (defScope st) dV kV doc pm an cdv ct ∧ K.lookup f = some ⟨oc, od, .func fd, osl⟩ ∧ PySem.W.codeIn K cdv qual = true
  kp : PySem.W.keepIn K (.ref f) = true
section
variable {P : Program} {w : World} {K : PySem.W.Frag} {mg : Str → Option Value} {base : Heap}
end
section
variable {X : Cx} {e : Expr} {es : List Expr} {mA : MA} {pos p : Pos} {x : Str} {k : Nat} {f : Addr} {fd : FuncData} {ps : List Str} {F : FD} {i : Int}
end
end M
namespace M
open PySem PySem.Spec L2 PyProof.Rows
end M
namespace M
open L2
/-! ### more of lists -/
/-- l.extend(m) -/
def extendV : D → List D → Stor → R D
  | .loc n, [.loc m], st => match st[n]?, st[m]? with
    | some (.lst a), some (.lst b) => if a.length + b.length ≤ 1000000 then .ok .non (st.set n (.lst (a ++ b))) else .bad
    | _, _ => .bad
  | _, _, _ => .bad
end M
namespace M
open PySem PySem.Spec L2
section
variable {X : Cx}
theorem mt_extendV : MtR X "list.extend" (rMM X extendV) := by
  refine MtR.weak mt_extend ?_
  rintro x xs H Q ⟨μ, st, d, ds, hs, hx, hxs, hp⟩
  unfold extendV at hp
  split at hp
  · rename_i n m
    split at hp
    · rename_i a b e1 e2
      split at hp
      · rename_i hl
        obtain ⟨p, q1, rfl⟩ := RepV.loc_iff.mp hx
        obtain ⟨v, rfl, q⟩ := RepVs.one hxs
        obtain ⟨p2, q2, rfl⟩ := RepV.loc_iff.mp q
        obtain ⟨p', ys, r1, r2, r3⟩ := hs.lst e1
        rw [q1] at r1; cases r1
        obtain ⟨p2', zs, s1, s2, s3⟩ := hs.lst e2
        rw [q2] at s1; cases s1
        obtain ⟨g, hs'⟩ := putLst hs e1 q1 r2 (r3.append s3)
        refine ⟨p, p2, ys, zs, rfl, rfl, r2, s2, ?_, hp _ _ μ g hs' (RepV.non_iff.mpr rfl)⟩
        rw [← r3.length, ← s3.length]; exact lim_ok hl
      · exact hp.elim
    · exact hp.elim
  · exact hp.elim
end
end M
namespace M
open PySem PySem.Spec L2
section
variable {X : Cx} {pos p : Pos} {x : Str} {k : Nat} {f : Addr} {fd : FuncData} {F : FD}
end
end M
namespace L2
open PySem PySem.Spec PyProof.Rows
/-! ### cells put among what is known, for a call's time -/
section
variable {P : Program} {w : World} {H H' : Hp} {h h' : Heap} {L : List (Addr × Obj)}
end
section
variable {X : Cx} {k : Nat} {f : Addr} {fd : FuncData} {ps : List Str} {sp : Sp} {dvs : List V} {ds : List Value} {pins : List (Addr × Obj)} {σ : St} {H : Hp} {s : Shared} {Q : VK} {us : List Value} {vs : List V}
end
end L2
namespace L2
open PySem PySem.Spec PyProof.Rows
/-- the module of the built-ins, of the base -/
def BMain (mg : Str → Option Value) (base : Heap) : Prop :=
  ∃ bm o, mg "__builtins__" = some (.ref bm) ∧ bm ≠ builtinsNs ∧ bm ≠ mainGlobals ∧ base.get? bm = some o ∧ o.cls = .type "module" ∧ o.dict = some builtinsNs ∧ o.data = .plain
def TabP (H : Hp) (P : Addr) (q : Str) : Prop := ∃ ps : Array Value, H P = some (.tbl ps) ∧ TriplesOk ps.toList ∧ ∀ pos cv, codeAmong pos ps.toList = some cv → ∃ c', cv = .ref c' ∧ M.CodeF H c' q
/-- a lambda was made -/
structure LamNew (H H' : Hp) (P f c' : Addr) (q : Str) (ob : Obj) : Prop where
  new : H' f = some (.frz ob (.own 0))
  nf : H f = none
  code : M.CodeF H' c' q
  tab : TabP H' P q
  same : ∀ b u, b ≠ P → H b = some u → H' b = some u
section
variable {X : Cx} {P c : Addr} {q : Str} {params : Arguments} {body : Expr} {scope : Scope} {clos : List (Str × Addr)} {pos : Pos}
end
end L2
namespace L2
open PySem PySem.Spec PyProof.Rows
/-! ### a lambda is called -/
/-- a lambda's scope: the names taken from around, then the parameters -/
structure LamScope (cn ps : List Str) (sc : Scope) : Prop where
  kind : sc.kind = .function
  co : sc.isCoroutine = false
  gen : sc.isGenerator = false
  nd : (cn ++ ps).Nodup
  free : ∀ y ∈ sc.names, y.2 = .free → y.1 ∈ cn
  nocell : ∀ y ∈ sc.names, y.2 ≠ .cell
  isfree : ∀ x ∈ cn, sc.names.lookup x = some .free
  par : ∀ x ∈ ps, sc.names.lookup x = some .local
/-- the context of a lambda's body -/
def lamCx (P : Program) (w : World) (K : PySem.W.Frag) (mg : Str → Option Value) (base : Heap) (N : List Str) (qual : Str) (scope : Scope) (f : Addr) (cd : Value) (cl : List (Str × Addr)) (A : Around) (outer : List Env) (s : Shared) (H : Hp) : Cx where
  prog := P
  w := w
  K := K
  mg := mg
  base := base
  A := A.deeper (PySem.W.envX qual scope s.heap.objs.size f cd cl)
  N := N
  s₀ := s
  H₀ := H
  env := PySem.W.envX qual scope s.heap.objs.size f cd cl
  outer := outer
  stack := PySem.W.envX qual scope s.heap.objs.size f cd cl :: outer
  ex := []
  calm := true
  fn := fun _ => false
  pn := []
  xe := fun _ _ => False
section
variable {P : Program} {w : World} {K : PySem.W.Frag} {mg : Str → Option Value} {base : Heap} {A : Around} {outer : List Env} {s : Shared} {H : Hp} {qual : Str} {params : Arguments} {body : Expr} {scope : Scope} {cl : List (Str × Addr)} {pm ctv : Value} {c' f : Addr} {k : Nat}
  {cn ps : List Str} {us : List Value} {vs vs0 : List V} {Q : VK} {t : TE}
end
end L2
namespace M
open PySem PySem.Spec L2
/-! ### what is told of data needs but the tuples -/
mutual
theorem RepV.tupMono {K : PySem.W.Frag} {μ : List Addr} {H H' : Hp} (e : ∀ b xs, H b = some (.tup xs) → H' b = some (.tup xs)) : ∀ (d : D) {v : V}, RepV K μ H d v → RepV K μ H' d v
  | .non, _, h => by simpa [RepV] using h
  | .bl _, _, h => by simpa [RepV] using h
  | .int _, _, h => by simpa [RepV] using h
  | .str _, _, h => by simpa [RepV] using h
  | .tup ds, _, h => by
    rw [RepV] at h ⊢
    obtain ⟨a, xs, rfl, h1, h2⟩ := h
    exact ⟨a, xs, rfl, h1.elim (fun z => .inl (e _ _ z)) .inr, RepVs.tupMono e ds h2⟩
  | .loc n, _, h => by
    rw [RepV] at h ⊢
    exact h
theorem RepVs.tupMono {K : PySem.W.Frag} {μ : List Addr} {H H' : Hp} (e : ∀ b xs, H b = some (.tup xs) → H' b = some (.tup xs)) : ∀ (ds : List D) {vs : List V}, RepVs K μ H ds vs → RepVs K μ H' ds vs
  | [], _, h => by simpa [RepVs] using h
  | d :: ds, _, h => by
    rw [RepVs] at h ⊢
    obtain ⟨v, r, rfl, h1, h2⟩ := h
    exact ⟨v, r, rfl, RepV.tupMono e d h1, RepVs.tupMono e ds h2⟩
end
def MO.isClo : MO → Bool
  | .clo _ _ _ => true
  | _ => false
/-! ### a lambda's promise -/
structure LamOk (P : Program) (w : World) (K : PySem.W.Frag) (mg : Str → Option Value) (base : Heap) (k : Nat) (l : LamS) (ps : List Str) (m : ME) : Prop where
  sc : LamScope l.caps ps l.scope
  bind : ∀ cl pm c' ctv (us : List Value), us.length = ps.length → bindArgs (PySem.W.kla_fn "<lambda>" l.qual l.params l.body l.scope cl pm (.ref c') ctv) ⟨us, []⟩ = pure (ps.zip us)
  body : ∀ (f : Addr) (cd : Value) (cl : List (Str × Addr)) (A : Around) (outer : List Env) (s : Shared) (H : Hp), Room k (A.deeper (PySem.W.envX l.qual l.scope s.heap.objs.size f cd cl)) →
    JE (lamCx P w K mg base (l.caps ++ ps) l.qual l.scope f cd cl A outer s H) l.body m
end M
namespace M
open PySem PySem.Spec L2
/-! ### a name that holds a lambda is called -/
section
variable {X : Cx} {e : Expr} {es : List Expr} {mA : MA} {pos p : Pos} {x : Str} {k : Nat} {Λ : Nat → LamS} {G : Nat → FD}
end
end M
namespace M
open PySem PySem.Spec L2
/-! ### arguments among which are lambdas -/
inductive LA where
  | v (d : D) | l (j : Nat) (cap : List Nat)
abbrev ML := MEnv → Stor → R (List LA)
structure LamAtX (X : Cx) (l : LamS) (cap : List Nat) : Prop where
  nd : l.caps.Nodup
  cell : ∀ x ∈ l.caps, X.env.kindOf x = some .cell
  ix : cap.map (fun i => X.N[i]?) = l.caps.map some
section
variable {X : Cx} {Λ : Nat → LamS} {μ μ' : List Addr} {H H' : Hp}
end
section
variable {X : Cx} {Λ : Nat → LamS} {μ : List Addr} {H H' : Hp} {st : Stor} {e : Expr} {es : List Expr} {ma : ME} {m : ML}
end
/-! ### the cells of this frame -/
section
variable {X : Cx} {Λ : Nat → LamS} {H : Hp} {env : MEnv}
end
section
variable {X : Cx} {Λ : Nat → LamS} {e : Expr} {es : List Expr} {m : ML} {pos p : Pos} {x : Str} {k : Nat} {f : Addr} {fd : FuncData} {ps : List Str} {F : FD} {dvs : List V} {ds : List Value} {dd : List D}
end
end M
namespace M
open PySem PySem.Spec L2 PyProof.Rows
/-! ### the head, with tables of code -/
structure TabK (K : PySem.W.Frag) (x : Str) (P : Addr) : Prop where
  code : ∃ (fa : Addr) (o : Obj) (fd : FuncData) (c : Addr), PySem.W.nsIn K mainGlobals x = some (some (.ref fa)) ∧ K.lookup fa = some o ∧ o.data = .func fd ∧ fd.code = .ref c ∧ PySem.W.codeHdIn K c P = true
  out : K.lookup P = none
theorem law_callT {P : Program} {w : World} {K : PySem.W.Frag} {mg mb : Str → Option Value} {k : Nat} {fa a : Addr} {fd : FuncData} {x : Str} {sp : Sp} {s₁ : Shared} {vs : List Value} {ns : List Int} {ts : List (Str × Addr)}
    (KX : K.In s₁.heap) (hns : s₁.heap.Ns mainGlobals mg) (hb : s₁.heap.Ns builtinsNs mb) (hbb : ∀ x : Str, x ≠ "__name__" → mb x = bootBuiltins x) (hlim : s₁.heap.NoLimit) (hg : s₁.gens = #[])
    (hbm : ∃ bm ob, mg "__builtins__" = some (.ref bm) ∧ bm ≠ builtinsNs ∧ s₁.heap.get? bm = some ob ∧ ob.cls = .type "module" ∧ ob.dict = some builtinsNs ∧ ob.data = .plain)
    (ht : ∀ p ∈ ts, s₁.heap.get? p.2 = some (PySem.W.tabObj #[])) (hk : ∀ p ∈ ts, TabK K p.1 p.2)
    (ha : s₁.heap.get? a = some { cls := .type "list", data := .seq vs.toArray }) (hi : IntsAre vs ns) (hl : ns.length ≤ sizeLine) (hr : Room k callerA)
    (F : ∀ base : Heap, K.In base → base.Ns mainGlobals mg → BMain mg base → FnOk P w K mg base CX0 k fa fd [x] sp) (hbind : ∀ (s : Shared) (u : Value), BindsTo s fd ⟨[u], []⟩ [(x, u)])
    (hsp : ∀ H : Hp, FrzL K H a (ns.map V.int) → (∀ p ∈ ts, H p.2 = some (.tbl #[])) → sp [.ref a] H (fun v _ => v = .bl true) fun _ _ _ => False) :
    codeAny (model P w) callerA (.call (.ref fa) ⟨[.ref a], []⟩) (fun r s' => r = .ok (.ret (.bool true)) ∧ OldK s₁.heap s'.heap ∧ s'.os = s₁.os ∧ AllBare s'.gens) s₁ := by
  have rv := vals_ints hi
  have lenV := hi.length
  have core : ∀ H : Hp, FrzL K H a (ns.map V.int) → (∀ p ∈ ts, H p.2 = some (.tbl #[])) → HOk P w H s₁.heap → (∀ b u, H b = some u → (b = a ∧ K.lookup a = none ∧ ∃ o xs, u = .frz o (.lst xs)) ∨ (∃ p ∈ ts, b = p.2 ∧ u = .tbl #[])) →
      codeAny (model P w) callerA (.call (.ref fa) ⟨[.ref a], []⟩) (fun r s' => r = .ok (.ret (.bool true)) ∧ OldK s₁.heap s'.heap ∧ s'.os = s₁.os ∧ AllBare s'.gens) s₁ := by
    intro H hS hT hok hA
    have base_of : ∀ {b : Addr} {o : Obj}, s₁.heap.get? b = some o → H b = none → (hidT s₁.heap H).get? b = some o := fun e n => hidT_get e n
    have noH : ∀ {b : Addr} {o : Obj}, s₁.heap.get? b = some o → o.cls ≠ .type "list" → (∀ vs, o.data ≠ .fields vs) → H b = none := fun {b o} e d1 d2 => by
      cases q : H b with
      | none => rfl
      | some u =>
        rcases hA b u q with ⟨rfl, _⟩ | ⟨p, hp, rfl, _⟩
        · rw [ha] at e; cases e; exact absurd rfl d1
        · rw [ht p hp] at e; cases e; exact absurd rfl (d2 _)
    have noA : ∀ {b : Addr} {o : Obj} {es : Array DictEntry} {ep : Nat}, s₁.heap.get? b = some o → o.data = .dict es ep → H b = none := fun {b o es ep} e d => by
      cases q : H b with
      | none => rfl
      | some u =>
        rcases hA b u q with ⟨rfl, _⟩ | ⟨p, hp, rfl, _⟩
        · rw [ha] at e; cases e
          have d' : Data.seq vs.toArray _ = Data.dict es ep := d
          cases d'
        · rw [ht p hp] at e; cases e
          have d' : Data.fields #[] = Data.dict es ep := d
          cases d'
    have nsK : ∀ {b : Addr} {m : Str → Option Value}, s₁.heap.Ns b m → (hidT s₁.heap H).Ns b m := fun {b m} ⟨o, es, ep, e, d, r⟩ => ⟨o, es, ep, base_of e (noA e d), d, r⟩
    have hKb : K.In (hidT s₁.heap H) := fun b o e => base_of (KX b o e) (by
      cases q : H b with
      | none => rfl
      | some u =>
        rcases hA b u q with ⟨rfl, z, _⟩ | ⟨p, hp, rfl, _⟩
        · rw [z] at e; cases e
        · rw [(hk p hp).out] at e; cases e)
    have hM : Mod K mg (hidT s₁.heap H) := ⟨hKb, nsK hns, ⟨mb, nsK hb, hbb⟩, let ⟨mc, h1, h2⟩ := hlim; ⟨mc, nsK h1, h2⟩⟩
    have e0 : Env0 P w K mg (hidT s₁.heap H) callerA [] s₁ H := ⟨rfl, hM, fun b o e => of_hidT e, Nat.le_of_eq (hidT_size _ _), trivial, fun b hb => absurd (show b ∈ ([] : List Addr) from hb) (by simp), hok, .of_eq hg⟩
    have hBM : BMain mg (hidT s₁.heap H) := by
      obtain ⟨bm, ob, b1, b2, b3, b4, b5, b6⟩ := hbm
      refine ⟨bm, ob, b1, b2, fun z => ?_, base_of b3 (noH b3 (by rw [b4]; simp) fun vs z => by rw [b6] at z; cases z), b4, b5, b6⟩
      obtain ⟨o, es, ep, e, d, _⟩ := hns
      rw [← z, b3] at e; cases e
      rw [b6] at d; cases d
    refine codeAny_mono ((F _ hKb (nsK hns) hBM).run callerA [] s₁ H ⟨[.ref a], []⟩ [.ref a] [.ref a] _ _ hr e0 (hbind s₁ (.ref a)) (.cons rfl .nil) (hsp H hS hT)) fun r s' h => ?_
    cases r with
    | error e => exact False.elim h
    | ok fl =>
      cases fl with
      | next => exact False.elim h
      | brk => exact False.elim h
      | cont => exact False.elim h
      | ret u =>
        obtain ⟨v, H', os, bare, un, hok', r', q⟩ := h
        have q' : v = .bl true := q
        subst q'
        obtain rfl : u = Value.bool true := r'
        refine ⟨rfl, ⟨fun b o e => ?_, fun b o e => un.there b o e (by simp)⟩, os, bare⟩
        cases q : H b with
        | none => exact .inl (un.keep b o e q (by intro z; exact absurd (show b ∈ ([] : List Addr) from z) (by simp)) (by simp))
        | some u =>
          rcases hA b u q with ⟨rfl, _, ob, xs, rfl⟩ | ⟨p, hp, rfl, rfl⟩
          · have z2 := un.frzs _ ob _ q
            obtain ⟨e1, _⟩ := hok _ _ q
            obtain ⟨e2, _⟩ := hok' _ _ z2
            rw [e] at e1; cases e1
            exact .inl e2
          · obtain ⟨more, z2⟩ := un.tbls p.2 #[] q
            have e2 : s'.heap.get? p.2 = some (PySem.W.tabObj (#[] ++ more)) := hok' _ _ z2
            obtain ⟨_, _, _, c, _, _, _, _, hcd⟩ := (hk p hp).code
            have hTA := (PySem.W.codeHd_of_K KX hcd).tab (ht p hp)
            rw [ht p hp] at e; cases e
            exact .inr (.inl ⟨hTA.isCodeTable, rfl, #[], more, rfl, e2⟩)
  have nt : ∀ p ∈ ts, p.2 ≠ a := fun p hp z => by
    have := ht p hp
    rw [z, ha] at this; cases this
  cases hka : K.lookup a with
  | some o =>
    have e := KX a o hka
    rw [ha] at e
    cases e
    let H : Hp := fun b => if (ts.map (·.2)).contains b = true then some (.tbl #[]) else none
    have hin : ∀ p ∈ ts, H p.2 = some (.tbl #[]) := fun p hp => if_pos (by simp; exact ⟨p.1, hp⟩)
    refine core H (.inr ⟨_, vs.toArray, _, hka, rfl, rfl, rfl, by rw [List.size_toArray, lenV]; exact hl, by simpa using rv⟩) hin (fun b u z => ?_) fun b u z => ?_
    · by_cases hb : (ts.map (·.2)).contains b = true
      · have z : (if (ts.map (·.2)).contains b = true then some (HO.tbl #[]) else none) = some u := z
        rw [if_pos hb] at z; cases z
        obtain ⟨p, hp, rfl⟩ := List.mem_map.mp (List.contains_iff_mem.mp hb)
        exact ht p hp
      · have z : (if (ts.map (·.2)).contains b = true then some (HO.tbl #[]) else none) = some u := z
        rw [if_neg hb] at z; cases z
    · by_cases hb : (ts.map (·.2)).contains b = true
      · have z : (if (ts.map (·.2)).contains b = true then some (HO.tbl #[]) else none) = some u := z
        rw [if_pos hb] at z; cases z
        obtain ⟨p, hp, rfl⟩ := List.mem_map.mp (List.contains_iff_mem.mp hb)
        exact .inr ⟨p, hp, rfl, rfl⟩
      · have z : (if (ts.map (·.2)).contains b = true then some (HO.tbl #[]) else none) = some u := z
        rw [if_neg hb] at z; cases z
  | none =>
    let H : Hp := fun b => if b = a then some (.frz { cls := .type "list", data := .seq vs.toArray } (.lst (ns.map V.int))) else if (ts.map (·.2)).contains b = true then some (.tbl #[]) else none
    have hin : ∀ p ∈ ts, H p.2 = some (.tbl #[]) := fun p hp => (if_neg (nt p hp)).trans (if_pos (by simp; exact ⟨p.1, hp⟩))
    have hat : H a = some (.frz { cls := .type "list", data := .seq vs.toArray } (.lst (ns.map V.int))) := if_pos rfl
    have hcase : ∀ b u, H b = some u → (b = a ∧ u = .frz { cls := .type "list", data := .seq vs.toArray } (.lst (ns.map V.int))) ∨ ∃ p ∈ ts, b = p.2 ∧ u = .tbl #[] := fun b u z => by
      by_cases hba : b = a
      · subst hba
        rw [hat] at z; cases z
        exact .inl ⟨rfl, rfl⟩
      · have z : (if b = a then some (HO.frz { cls := .type "list", data := .seq vs.toArray } (.lst (ns.map V.int))) else if (ts.map (·.2)).contains b = true then some (HO.tbl #[]) else none) = some u := z
        rw [if_neg hba] at z
        by_cases hb : (ts.map (·.2)).contains b = true
        · rw [if_pos hb] at z; cases z
          obtain ⟨p, hp, rfl⟩ := List.mem_map.mp (List.contains_iff_mem.mp hb)
          exact .inr ⟨p, hp, rfl, rfl⟩
        · rw [if_neg hb] at z; cases z
    refine core H (.inl ⟨_, hat⟩) hin (fun b u z => ?_) fun b u z => ?_
    · rcases hcase b u z with ⟨rfl, rfl⟩ | ⟨p, hp, rfl, rfl⟩
      · exact ⟨ha, by rw [List.length_map]; exact hl, vs, _, rv, ha⟩
      · exact ht p hp
    · rcases hcase b u z with ⟨rfl, rfl⟩ | h
      · exact .inl ⟨rfl, hka, _, _, rfl⟩
      · exact .inr h
/-- the script and the tables as the law finds them -/
theorem script_repT {K : PySem.W.Frag} {H : Hp} {a : Addr} {ns : List Int} {ts : List (Str × Addr)} (hnd : (ts.map (·.2)).Nodup) (hS : FrzL K H a (ns.map V.int)) (hT : ∀ p ∈ ts, H p.2 = some (.tbl #[])) (hk : ∀ p ∈ ts, TabK K p.1 p.2) :
    RepS K (a :: ts.map (·.2)) H (.frz (ns.map D.int) :: ts.map fun p => .tab p.1) := by
  have hv : ∀ (μ : List Addr) (l : List Int), RepVs K μ H (l.map D.int) (l.map V.int) := fun μ l => by
    induction l with
    | nil => exact RepVs.nil
    | cons i l ih => exact RepVs.cons (RepV.int_iff.mpr rfl) ih
  refine ⟨by simp, fun n o e => ?_, fun i j b oi oj ei ej mi mj hi hj => ?_⟩
  · match n, e with
    | 0, e =>
      simp at e; subst e
      exact ⟨a, rfl, _, hS, hv _ ns⟩
    | n + 1, e =>
      rw [List.getElem?_cons_succ, List.getElem?_map] at e
      cases q : ts[n]? with
      | none => rw [q] at e; cases e
      | some p =>
        rw [q] at e; cases e
        have hp := List.mem_of_getElem? q
        refine ⟨p.2, by rw [List.getElem?_cons_succ, List.getElem?_map, q]; rfl, (hk p hp).code, #[], hT p hp, trivial, fun pos cv z => by cases z⟩
  · match i, j, ei, ej, hi, hj with
    | 0, _, ei, _, _, _ => simp at ei; subst ei; cases mi
    | _ + 1, 0, _, ej, _, _ => simp at ej; subst ej; cases mj
    | i + 1, j + 1, _, _, hi, hj =>
      rw [List.getElem?_cons_succ] at hi hj
      have h1 := (List.getElem?_eq_some_iff.mp hi).1
      rw [(List.getElem?_inj h1 hnd).mp (hi.trans hj.symm)]
theorem holds_ofT (ts : List (Str × Addr)) {l : PySem.W.OpenLaw} {k : Nat} {q : Program} {loose : List Str} {XP : (Str → Option Value) → Heap → Prop} {YP : World → Heap → Prop} {d : DefRec} {K : Params → PySem.W.Frag} {F : FD} {x : Str}
    (hn : l.most = some 63) (hdf : d.params.defaults = []) (hr : Room k callerA) (hnd : (ts.map (·.2)).Nodup)
    (hY : ∀ (w : World) (h : Heap), YP w h → (K w.params).In h ∧ ∀ P ∈ ts.map (·.2), h.get? P = some (PySem.W.tabObj #[]))
    (G : ∀ (w : World) (mg : Str → Option Value) (fa : Addr) (h : Heap), (K w.params).In h → h.Ns mainGlobals mg → mg d.name = some (.ref fa) →
      ∃ fd : FuncData, (∀ (s : Shared) (u : Value), BindsTo s fd ⟨[u], []⟩ [(x, u)]) ∧ (∀ p ∈ ts, TabK (K w.params) p.1 p.2) ∧ ∀ base : Heap, (K w.params).In base → base.Ns mainGlobals mg → BMain mg base → FnOk l.prog w (K w.params) mg base CX0 k fa fd [x] (spM (K w.params) 1 F))
    (hF : ∀ ns : List Int, ns.length ≤ 63 → ∃ st, F [.loc 0] (.frz (ns.map D.int) :: ts.map fun p => .tab p.1) = .ok (.bl true) st) :
    PySem.W.WalkO q loose XP YP l.row.toRowW d [] (fun f vs => PySem.call f vs) := by
  refine Att.attach_call hn hdf fun w s₀ s₁ mg mb fa o pm cd doc a vs ns G0 Y ho hd hcd hmg hobj hints hlen hg => ?_
  obtain ⟨KX, hT⟩ := hY w _ Y
  obtain ⟨fd, hb, hk, hF'⟩ := G w mg fa _ KX G0.T.g hmg
  refine law_callT (ts := ts) KX G0.T.g G0.T.b G0.T.builtins G0.T.nolimit hg G0.T.bmain (fun p hp => hT p.2 (List.mem_map.mpr ⟨p, hp, rfl⟩)) hk hobj hints (Nat.le_trans hlen (by decide)) hr hF' hb fun H hS hTb => ?_
  obtain ⟨st, e⟩ := hF ns hlen
  refine ⟨rfl, a :: ts.map (·.2), [.loc 0], _, RepVs.cons (RepV.loc_iff.mpr ⟨a, rfl, rfl⟩) RepVs.nil, script_repT hnd hS hTb hk, ?_⟩
  rw [e]
  exact fun v H' μ' _ _ hv => RepV.bl_iff.mp hv
/-! ### a def that makes lambdas: it knows its own code -/
structure FunT (K : PySem.W.Frag) (x : Str) (st : Stmt) (f : Addr) (fd : FuncData) : Prop where
  ex : ∃ (oc : Value) (od : Option Addr) (dV kV doc pm : Value) (an : Option Addr) (c : Addr) (ct : Value) (osl : Array (Option Value)),
    fd = PySem.W.fnOf x x (defArgs st) (defBody st) (defScope st) dV kV doc pm an (.ref c) ct ∧ K.lookup f = some ⟨oc, od, .func fd, osl⟩ ∧ PySem.W.codeIn K (.ref c) x = true
  ns : PySem.W.nsIn K mainGlobals x = some (some (.ref f))
  kp : PySem.W.keepIn K (.ref f) = true
end M
namespace M
open PySem PySem.Spec L2
end M
namespace M
open L2
/-! ### running lambdas -/
@[simp] theorem isClo_lst (l : List D) : (MO.lst l).isClo = false := rfl
@[simp] theorem isClo_frz (l : List D) : (MO.frz l).isClo = false := rfl
@[simp] theorem isClo_tab (x : PySem.Str) : (MO.tab x).isClo = false := rfl
@[simp] theorem isClo_dic (l : List (List Key × D)) : (MO.dic l).isClo = false := rfl
@[simp] theorem isClo_dkc (l : List (Key × D)) : (MO.dkc l).isClo = false := rfl
@[simp] theorem isClo_dkf (l : List (Key × D)) : (MO.dkf l).isClo = false := rfl
@[simp] theorem isClo_exc (c : String) (d : D) : (MO.exc c d).isClo = false := rfl
@[simp] theorem isClo_dtf (l : List (List Key × D)) : (MO.dtf l).isClo = false := rfl
end M
namespace M
open PySem PySem.Spec L2
section
variable {X : Cx} {elt tg iter c : Expr} {ifs : List Expr} {scope : Scope} {pos : Pos} {N : List Str} {capt : List (Option Nat)} {mi : MI} {g : MG} {t : MT} {me : ME}
end
end M
namespace L2
open PySem PySem.Spec PyProof.Rows
/-! ### enumerate(text), of signs below 128 -/
end L2
namespace M
open PySem PySem.Spec L2
section
variable {X : Cx} {a : Expr} {mA : MA} {μ : List Addr} {H : Hp} {p pos tpos : Pos}
end
end M
namespace M
open PySem PySem.Spec PySem.SeqAt L2
/-! ### tuples of the module's top -/
section
variable {X : Cx} {pos : Pos} {x : Str} {L : Nat}
/-! ### x in a list of flat things -/
def inLV (L : Nat) (neg : Bool) : D → D → Stor → R D
  | d, .loc n, st => match itemsAt st n with
    | some ds => if flat d = true ∧ flats ds = true ∧ (ds.all fun e => decide (cdep e d < L)) = true then .ok (.bl (if neg then !(ds.any fun e => eqD e d) else ds.any fun e => eqD e d)) st else .bad
    | none => .bad
  | _, _, _ => .bad
theorem relV_inj {a b : V} {w : Value} (h : RelV a w) (k : RelV b w) : a = b := by
  cases a <;> cases b <;> simp only [RelV] at h k <;> first
    | rfl
    | (subst h; cases k; done)
    | (subst h; injection k with k; subst k; rfl)
    | (obtain ⟨_, rfl⟩ := h; cases k; done)
    | (obtain ⟨_, rfl⟩ := k; cases h; done)
    | (obtain ⟨_, rfl⟩ := h; obtain ⟨_, k⟩ := k; injection k with k; subst k; rfl)
    | (obtain ⟨_, rfl⟩ := h; obtain ⟨_, k⟩ := k; cases k; done)
open Classical in
theorem inL_core (hu : X.A.units + L < cLine) {pins : List (Addr × Obj)} {s : Shared} {σ : L2.St} {H : Hp} {x y : V} {v u : Value} {Q : VK} {neg : Bool} (I : Inv X pins σ H s) (rx : RelV x v) (ry : RelV y u) (h : rM X (inLV L neg) x y H Q) :
    ∃ (p : Addr) (its : List Value) (f : Value → Bool), u = .ref p ∧ s.heap.IsList p its.toArray ∧ (∀ w ∈ its, EqAt X.A.in1 s w v (f w)) ∧ Q (.bl (if neg then !its.any f else its.any f)) H := by
  obtain ⟨μ, st, dx, dy, hs, hx, hy, hp⟩ := h
  unfold inLV at hp
  split at hp
  · rename_i n
    split at hp
    · rename_i ds e
      split at hp
      · rename_i c
        obtain ⟨c1, c2, c3⟩ := c
        obtain ⟨p, q1, rfl⟩ := RepV.loc_iff.mp hy
        obtain ⟨p', xs, r1, r2, r3⟩ := hs.items e
        rw [q1] at r1; cases r1
        obtain rfl : u = Value.ref p := ry
        obtain ⟨its, ra, pl, _⟩ := I.list r2
        let f : Value → Bool := fun w => decide (∃ d z, flat d = true ∧ RepV X.K μ H d z ∧ RelV z w ∧ eqD d dx = true)
        have key : ∀ (ds : List D) (xs : List V) (its : List Value), RepVs X.K μ H ds xs → Vals xs its → flats ds = true → (ds.all fun e => decide (cdep e dx < L)) = true →
            (∀ w ∈ its, EqAt X.A.in1 s w v (f w)) ∧ its.any f = ds.any fun e => eqD e dx := by
          intro ds
          induction ds with
          | nil =>
            intro xs its h1 h2 _ _
            rw [RepVs] at h1; subst h1
            cases h2
            exact ⟨fun w hw => (nomatch hw), rfl⟩
          | cons d ds ih =>
            intro xs its h1 h2 h3 h4
            rw [RepVs] at h1
            obtain ⟨z, r, rfl, g1, g2⟩ := h1
            cases h2 with
            | cons rz rr =>
              rw [flats_cons, Bool.and_eq_true] at h3
              rw [List.all_cons, Bool.and_eq_true] at h4
              obtain ⟨i1, i2⟩ := ih _ _ g2 rr h3.2 h4.2
              have fe : ∀ {w : Value}, RelV z w → f w = eqD d dx := fun {w} hw => by
                cases q : eqD d dx with
                | true => exact decide_eq_true ⟨d, z, h3.1, g1, hw, q⟩
                | false =>
                  refine decide_eq_false ?_
                  rintro ⟨d', z', k1, k2, k3, k4⟩
                  have ez : z' = z := relV_inj k3 hw
                  subst ez
                  rw [rep_same I d' d k1 h3.1 k2 g1] at k4
                  rw [k4] at q; cases q
              refine ⟨fun w hw => ?_, ?_⟩
              · rcases List.mem_cons.mp hw with rfl | hw
                · rw [fe rz]
                  exact (eq_at I d dx h3.1 c1 (by have := of_decide_eq_true h4.1; show X.A.units + 1 + _ < _; omega) g1 hx rz rx).1
                · exact i1 w hw
              · rw [List.any_cons, List.any_cons, fe rz, i2]
        obtain ⟨k1, k2⟩ := key ds xs its r3 ra c2 c3
        refine ⟨p, its, f, rfl, pl.isList, k1, ?_⟩
        rw [k2]
        exact hp.ret hs (RepV.bl_iff.mpr rfl)
      · exact hp.elim
    · exact hp.elim
  · exact hp.elim
theorem op_inLV (hu : X.A.units + L < cLine) : OpR X (compareOp .In) (rM X (inLV L false)) := by
  intro pins s σ H x y v u Q I rx ry h
  obtain ⟨p, its, f, rfl, pl, k1, q⟩ := inL_core hu I rx ry h
  refine SeqAt.in_listAt f pl (fun w hw => k1 w (by simpa using hw)) ⟨.bl _, H, I, rfl, ?_⟩
  rw [show its.toArray.any f = its.any f by simp]
  exact q
end
end M
namespace M
open PySem PySem.Spec L2
/-! ### a, b = a list -/
section
variable {prog : Program} {w : World} {A : Around} {E : Value → Shared → Prop} {s : Shared}
end
section
variable {X : Cx} {es : List Expr} {pos : Pos}
end
end M
namespace M
open L2
end M
namespace M
open PySem PySem.Spec L2
section
variable {X : Cx}
end
end M
namespace M
open L2
/-! ### dicts whose keys are ints and texts -/
def valN (kvs : List (Key × D)) (k : Key) : Option D := (kvs.find? fun kv => decide (kv.1 = k)).map (·.2)
theorem valN_cons (p : Key × D) (r : List (Key × D)) (k : Key) : valN (p :: r) k = if p.1 = k then some p.2 else valN r k := by
  unfold valN
  rw [List.find?_cons]
  by_cases h : p.1 = k
  · simp [h]
  · simp [h]
def putN (kvs : List (Key × D)) (k : Key) (d : D) : List (Key × D) :=
  if (kvs.any fun kv => decide (kv.1 = k)) = true then kvs.map (fun kv => if kv.1 = k then (kv.1, d) else kv) else kvs ++ [(k, d)]
theorem valN_none {kvs : List (Key × D)} {k : Key} (h : (kvs.any fun kv => decide (kv.1 = k)) = false) : valN kvs k = none := by
  induction kvs with
  | nil => rfl
  | cons p r ih =>
    rw [List.any_cons, Bool.or_eq_false_iff] at h
    rw [valN_cons, if_neg (by simpa using h.1), ih h.2]
theorem valN_snoc (kvs : List (Key × D)) (k j : Key) (y : D) (h : valN kvs k = none) : valN (kvs ++ [(k, y)]) j = if k = j then some y else valN kvs j := by
  induction kvs with
  | nil => rw [List.nil_append, valN_cons]
  | cons p r ih =>
    rw [valN_cons] at h
    split at h
    · cases h
    · rename_i hn
      rw [List.cons_append, valN_cons, valN_cons, ih h]
      by_cases e : p.1 = j
      · rw [if_pos e, if_pos e, if_neg (fun z => hn (e.trans z.symm))]
      · rw [if_neg e, if_neg e]
theorem valN_repl (kvs : List (Key × D)) (k j : Key) (y : D) (h : (kvs.any fun kv => decide (kv.1 = k)) = true) : valN (kvs.map fun kv => if kv.1 = k then (kv.1, y) else kv) j = if k = j then some y else valN kvs j := by
  induction kvs with
  | nil => cases h
  | cons p r ih =>
    rw [List.map_cons, valN_cons, valN_cons]
    by_cases e : p.1 = k
    · rw [if_pos e]
      by_cases f : p.1 = j
      · rw [if_pos f, if_pos (e.symm.trans f)]
      · have f2 : ¬ k = j := fun z => f (e.trans z)
        rw [if_neg f, if_neg f, if_neg f2]
        cases ha : r.any fun kv => decide (kv.1 = k) with
        | true => rw [ih ha, if_neg f2]
        | false =>
          have : (r.map fun kv => if kv.1 = k then (kv.1, y) else kv) = r := by
            clear ih h
            induction r with
            | nil => rfl
            | cons q r ih2 =>
              rw [List.any_cons, Bool.or_eq_false_iff] at ha
              rw [List.map_cons, if_neg (by simpa using ha.1), ih2 ha.2]
          rw [this]
    · rw [if_neg e]
      have ha : (r.any fun kv => decide (kv.1 = k)) = true := by
        rw [List.any_cons, Bool.or_eq_true] at h
        exact h.resolve_left (by simpa using e)
      by_cases f : p.1 = j
      · rw [if_pos f, if_pos f, if_neg (fun z => e (f.trans z.symm))]
      · rw [if_neg f, if_neg f, ih ha]
theorem valN_put (kvs : List (Key × D)) (k j : Key) (y : D) : valN (putN kvs k y) j = if k = j then some y else valN kvs j := by
  unfold putN
  split
  · rename_i h; exact valN_repl kvs k j y h
  · rename_i h; exact valN_snoc kvs k j y (valN_none (by simp only [Bool.not_eq_true] at h; exact h))
theorem putN_len (kvs : List (Key × D)) (k : Key) (y : D) : (putN kvs k y).length ≤ kvs.length + 1 := by
  unfold putN; split <;> simp
/-- {} -/
def dkE : ME := fun _ st => .ok (.loc st.length) (st ++ [.dkc []])
@[simp] theorem r_dkE (env : MEnv) (st : Stor) : dkE env st = .ok (.loc st.length) (st ++ [.dkc []]) := by_rfl rfl
/-- d.get(k, x) -/
def getK2 : D → List D → Stor → R D
  | .loc n, [k, d], st => match st[n]?, keyOf k with
    | some (.dkc kvs), some kk => .ok ((valN kvs kk).getD d) st
    | _, _ => .bad
  | _, _, _ => .bad
/-- d[k] = v -/
def setK : D → D → D → Stor → R Unit
  | .loc n, k, d, st => match st[n]?, keyOf k with
    | some (.dkc kvs), some kk => if kvs.length < 1000000 then .ok () (st.set n (.dkc (putN kvs kk d))) else .bad
    | _, _ => .bad
  | _, _, _, _ => .bad
end M
namespace M
open PySem PySem.Spec L2
section
variable {X : Cx} {K : PySem.W.Frag} {μ : List Addr} {H : Hp}
theorem RepKV.valN {k : Key} : ∀ {kvs : List (Key × D)} {ws : List (Key × V)}, RepKV K μ H kvs ws →
    (M.valN kvs k = none ∧ valV ws k = none) ∨ ∃ d v, M.valN kvs k = some d ∧ valV ws k = some v ∧ RepV K μ H d v
  | [], ws, h => .inl ⟨rfl, by rw [RepKV] at h; rw [h]; rfl⟩
  | (j, d) :: r, ws, h => by
    obtain ⟨v, r', rfl, h1, h2⟩ := h
    rw [valN_cons]
    by_cases e : j = k
    · rw [if_pos e]
      exact .inr ⟨d, v, rfl, valV_pos (p := (j, v)) e, h1⟩
    · rw [if_neg e, valV_neg (p := (j, v)) e]
      exact RepKV.valN h2
theorem RepKV.anyN {k : Key} : ∀ {kvs : List (Key × D)} {ws : List (Key × V)}, RepKV K μ H kvs ws → (kvs.any fun kv => decide (kv.1 = k)) = (ws.any fun kv => decide (kv.1 = k))
  | [], ws, h => by rw [RepKV] at h; rw [h]; rfl
  | (j, d) :: r, ws, h => by
    obtain ⟨v, r', rfl, h1, h2⟩ := h
    rw [List.any_cons, List.any_cons, RepKV.anyN h2]
theorem RepKV.replN {k : Key} {d : D} {v : V} (hv : RepV K μ H d v) : ∀ {kvs : List (Key × D)} {ws : List (Key × V)}, RepKV K μ H kvs ws → RepKV K μ H (kvs.map fun kv => if kv.1 = k then (kv.1, d) else kv) (ws.map fun kv => if kv.1 = k then (kv.1, v) else kv)
  | [], ws, h => by rw [RepKV] at h; subst h; exact rfl
  | (j, d') :: r, ws, h => by
    obtain ⟨v', r', rfl, h1, h2⟩ := h
    rw [List.map_cons, List.map_cons]
    by_cases e : j = k
    · rw [if_pos e, if_pos e]; exact ⟨v, _, rfl, hv, RepKV.replN hv h2⟩
    · rw [if_neg e, if_neg e]; exact ⟨v', _, rfl, h1, RepKV.replN hv h2⟩
theorem RepKV.snocN {k : Key} {d : D} {v : V} : ∀ {kvs : List (Key × D)} {ws : List (Key × V)}, RepKV K μ H kvs ws → RepV K μ H d v → RepKV K μ H (kvs ++ [(k, d)]) (ws ++ [(k, v)])
  | [], ws, h, hv => by rw [RepKV] at h; subst h; exact ⟨v, [], rfl, hv, rfl⟩
  | (j, d') :: r, ws, h, hv => by
    obtain ⟨v', r', rfl, h1, h2⟩ := h
    exact ⟨v', r' ++ [(k, v)], rfl, h1, RepKV.snocN h2 hv⟩
theorem RepKV.putN {k : Key} {d : D} {v : V} {kvs : List (Key × D)} {ws : List (Key × V)} (h : RepKV K μ H kvs ws) (hv : RepV K μ H d v) : RepKV K μ H (M.putN kvs k d) (putK ws k v) := by
  unfold M.putN putK
  rw [h.anyN]
  split
  · exact RepKV.replN hv h
  · exact h.snocN hv
theorem RepS.dkc {st : Stor} {n : Nat} {kvs : List (Key × D)} (h : RepS K μ H st) (e : st[n]? = some (.dkc kvs)) : ∃ p ws, μ[n]? = some p ∧ H p = some (.dK ws) ∧ RepKV K μ H kvs ws := by
  obtain ⟨p, h1, xs, h2, h3⟩ := h.at_ n _ e
  exact ⟨p, xs, h1, h2, h3⟩
theorem RepV.key {d : D} {v : V} {k : Key} (h : RepV K μ H d v) (e : keyOf d = some k) : v = kV k := by
  cases d with
  | int i => rw [RepV.int_iff] at h; cases e; exact h
  | str cs => rw [RepV.str_iff] at h; cases e; exact h
  | _ => cases e
end
section
variable {X : Cx} {a b o i : Expr} {ma mb : ME} {pos : Pos}
theorem je_dictK : JE X (.Dict [] [] pos) dkE := by
  refine JE.of pe_dnewK fun σ H Q ⟨μ, env, st, hE, hs, hp⟩ => fun p hn => ?_
  have hr : RepO X.K (μ ++ [p]) (upd H p (.dK [])) p (.dkc []) := ⟨[], upd_same, rfl⟩
  exact hp _ _ (μ ++ [p]) (Grow.new hn) (hs.new hn hr) (RepV.loc_iff.mpr ⟨p, by rw [← hs.len]; simp, rfl⟩)
theorem mt_getK2 (hu : X.A.units + 1 < cLine) : MtR X "dict.get" (rMM X getK2) := by
  rintro pins s σ H x xs v us Q I rx rxs ⟨μ, st, d, ds, hs, hx, hxs, hp⟩
  unfold getK2 at hp
  split at hp
  · rename_i n k dd
    split at hp
    · rename_i kvs kk e1 e2
      obtain ⟨p, q1, rfl⟩ := RepV.loc_iff.mp hx
      obtain ⟨y, z, rfl, q2, q5⟩ := RepVs.two hxs
      obtain rfl := q2.key e2
      obtain ⟨p', ws, r1, r2, r3⟩ := hs.dkc e1
      rw [q1] at r1; cases r1
      cases rxs with
      | cons ry rr =>
        cases rr with
        | cons rz rr =>
          cases rr
          obtain rfl : v = Value.ref p := rx
          refine d_get2 hu I (DGet.k r2) ry rz fun w' s' I' rw' => ⟨_, H, I', rw', ?_⟩
          rcases r3.valN (k := kk) with ⟨z1, z2⟩ | ⟨d', v', z1, z2, z3⟩
          · rw [z1] at hp; rw [z2]; exact hp.ret hs q5
          · rw [z1] at hp; rw [z2]; exact hp.ret hs z3
    · exact hp.elim
  · exact hp.elim
theorem set_K (hu : X.A.units + 1 < cLine) : PSet X (rMSet X setK) := by
  rintro pins s σ H o i v ov iv u Q I ro ri rv ⟨μ, st, d1, d2, d3, hs, h1, h2, h3, hp⟩
  unfold setK at hp
  split at hp
  · rename_i n k d
    split at hp
    · rename_i kvs kk e1 e2
      split at hp
      · rename_i hl
        obtain ⟨p, q1, rfl⟩ := RepV.loc_iff.mp h1
        obtain rfl := h2.key e2
        obtain ⟨p', ws, r1, r2, r3⟩ := hs.dkc e1
        rw [q1] at r1; cases r1
        obtain rfl : ov = Value.ref p := ro
        refine d_setItem hu I (DPut.k r2 (by rw [← r3.len]; exact Nat.lt_of_lt_of_le hl (by decide))) ri rv fun s' I' => ⟨_, I', ?_⟩
        have g : Ext H (upd H p (.dK (putK ws kk v))) := Ext.mut r2 (fun _ z => nomatch z) (fun _ _ z => nomatch z)
        have g' : Grow μ H μ (upd H p (.dK (putK ws kk v))) := ⟨⟨[], by simp⟩, g⟩
        exact hp () _ μ g' (hs.put e1 rfl rfl q1 g ⟨_, upd_same, (r3.putN h3).mono g'⟩) trivial
      · exact hp.elim
    · exact hp.elim
  · exact hp.elim
/-! displays -/
end
end M
namespace M
open PySem PySem.Spec PySem.SeqAt L2
end M
namespace L2
open PySem PySem.Spec PyProof.Rows
/-! ### for k in d (a dict with plain keys) -/
theorem key_rel {P : Program} {w : World} {k : Key} {u : Value} (h : (mixKind P w).is k u = true) : RelV (kV k) u := by
  rw [mixKind_is] at h
  rcases keyIs_shape h with ⟨i, t, rfl, rfl⟩ | ⟨x, t, rfl, rfl⟩
  · exact ⟨t, rfl⟩
  · exact ⟨t, rfl⟩
theorem pair_get {α β : Type} {F : α → β → Prop} : ∀ {l₁ : List α} {l₂ : List β}, Paired F l₁ l₂ → ∀ (i : Nat) (a : α) (b : β), l₁[i]? = some a → l₂[i]? = some b → F a b
  | _, _, .nil, i, a, b, h, _ => by simp at h
  | _, _, .cons r t, 0, a, b, h1, h2 => by simp at h1 h2; subst h1; subst h2; exact r
  | _, _, .cons r t, i + 1, a, b, h1, h2 => pair_get t i a b (by simpa using h1) (by simpa using h2)
/-- the keys of the dict at d, whose object is o -/
def Itk (d : Addr) (o : Obj) (kvs : List (Key × V)) : It :=
  ⟨fun i H => i < kvs.length ∧ H d = some (.frz o (.dK kvs)), fun i H y H' => H' = H ∧ ∃ p, kvs[i]? = some p ∧ y = kV p.1, fun i H => kvs.length ≤ i ∧ H d = some (.frz o (.dK kvs))⟩
theorem dict_at {X : Cx} {pins : List (Addr × Obj)} {σ : St} {H : Hp} {s : Shared} {d : Addr} {o : Obj} {kvs : List (Key × V)} {es : Array DictEntry} {ep : Nat} (I : Inv X pins σ H s) (ho : o.data = .dict es ep) (e : H d = some (.frz o (.dK kvs))) :
    (d == sysModules) = false ∧ ∃ vs, KV kvs vs ∧ s.heap.DictAt (mixKind X.prog X.w) d vs ep := by
  obtain ⟨h1, z, hd, vs, rel, o', es', ep', h2, h3, h4, h5⟩ := (show ObjOk X.prog X.w H s.heap d (.frz o (.dK kvs)) from I.hok d _ e)
  rw [h1] at h2
  cases h2
  rw [ho] at h4
  cases h4
  exact ⟨hd, vs, rel, o, es, h1, h3, ho, h5⟩
theorem turn_dk {P : Program} {w : World} {K : PySem.W.Frag} {tg : Expr} (it d : Addr) (o : Obj) (es : Array DictEntry) (ep : Nat) (ho : o.data = .dict es ep) (kvs : List (Key × V)) : Turn P w K tg (Itk d o kvs) [it] it (fun i h => h.IsKeyIter it d i kvs.length ep) where
  mem := by simp
  obj := fun i h st b hb => by
    have e : b = it := by simpa using hb
    subst e
    obtain ⟨o, e, c, d⟩ := st
    exact ⟨o, e, fun v z => by rw [d] at z; cases z⟩
  keep := fun i h h' st k => by
    obtain ⟨o, e, c, d⟩ := st
    exact ⟨o, k it (by simp) o e, c, d⟩
  item := by
    intro X hP hw hK hc i pins s σ H E I hf st hg
    subst hP hw hK
    obtain ⟨f0, f1, f2, f3, f4, f5⟩ := hf it (by simp)
    obtain ⟨hi, e⟩ := hg
    obtain ⟨hd, vs, rel, da⟩ := dict_at I ho e
    have hl : kvs.length = vs.length := Paired.length rel
    obtain ⟨q, hq⟩ : ∃ q, vs[i]? = some q := ⟨_, List.getElem?_eq_getElem (by omega)⟩
    obtain ⟨p, hp⟩ : ∃ p, kvs[i]? = some p := ⟨_, List.getElem?_eq_getElem hi⟩
    have hk : p.1 = q.1 := (pair_get rel i p q hp hq).1
    rw [hl] at st
    refine wpAny_pyNext_dict_item (k := q.1) (v := q.2) st da hq fun key h' ik st' sb => ?_
    have I1 : Inv X pins σ H { s with heap := h' } := I.turned (t' := s.toks) (fun b o hb e => (sb.2 b hb).trans e) f0 f1 f3 f4 f5
    obtain ⟨o1, e1, c1, d1⟩ := id st'
    rw [← hl] at st'
    exact ⟨_, rfl, go_of (s := { s with heap := h' }) e1 c1 d1 (by decide) ⟨kV p.1, H, I1, by rw [hk]; exact key_rel ik, ⟨rfl, p, hp, rfl⟩, st', fun b hb => (hf b hb).1⟩⟩
  done := by
    intro X hP hw hK hc i pins s σ H E I hf st hg
    subst hP hw hK
    obtain ⟨f0, f1, f2, f3, f4, f5⟩ := hf it (by simp)
    obtain ⟨hi, e⟩ := hg
    obtain ⟨hd, vs, rel, da⟩ := dict_at I ho e
    have hl : kvs.length = vs.length := Paired.length rel
    rw [hl] at st
    exact wpAny_pyNext_dict_end (I.ok.hd hc) st da (List.getElem?_eq_none (by omega)) fun h' eb => ⟨rfl, I.turned (t' := s.toks) (fun b o hb e => eb b o hb e) f0 f1 f3 f4 f5⟩
  self := fun _ _ _ _ _ st h => wpAny_pyIter_keyiter st h
def iDk (tl : TE) : TI := fun σ H R => tl σ H fun y H1 => ∃ a kvs, y = .ref a ∧ ((∃ o, H1 a = some (.frz o (.dK kvs)) ∧ R (Itk a o kvs) H1) ∨ (H1 a = some (.dK kvs) ∧ ∀ o, R (Itk a o kvs) (upd H1 a (.frz o (.dK kvs)))))
theorem pi_dk {X : Cx} {tg l : Expr} {tl : TE} (hl : PE X l tl) : PI X tg l (iDk tl) := by
  intro pins s σ H R I h
  refine thn (hl pins s σ H _ I h) fun v s1 ⟨y, H1, I1, r1, q1⟩ => ?_
  obtain ⟨a, kvs, rfl, q⟩ := q1
  cases (show v = Value.ref a from r1)
  have key : ∀ (H2 : Hp) (o : Obj), Inv X pins σ H2 s1 → H2 a = some (.frz o (.dK kvs)) → R (Itk a o kvs) H2 → wpAny (model X.prog X.w) X.A (pyIter (.ref a)) (PIE X pins σ tg R) X.xe s1 := fun H2 o I2 e2 r2 => by
    obtain ⟨h1, z, hd, vs, rel, o', es, ep, h2, h3, h4, h5⟩ := (show ObjOk X.prog X.w H2 s1.heap a (.frz o (.dK kvs)) from I2.hok a _ e2)
    rw [h1] at h2
    cases h2
    have hl : kvs.length = vs.length := Paired.length rel
    refine wpAny_pyIter_dict (knd := mixKind X.prog X.w) (kvs := vs) (ep := ep) hd ⟨o, es, h1, h3, h4, h5⟩ ?_
    refine ⟨s1.heap.objs.size, [s1.heap.objs.size], _, _, H2, rfl, I2.kept (t' := s1.toks) fun b u e => Heap.get?_push_of_some _ e, turn_dk _ a o es ep h4 kvs, ⟨_, Heap.get?_push_size _ rfl, rfl, by rw [hl]; rfl⟩, fun b hb => ?_, r2⟩
    have e : b = s1.heap.objs.size := by simpa using hb
    subst e
    exact I2.fpOk (Nat.le_refl _) (I2.hok.fresh (Nat.le_refl _))
  rcases q with ⟨o, e, r⟩ | ⟨e, r⟩
  · exact key H1 o I1 e r
  · obtain ⟨z, hd, vs, rel, o, es, ep, h2, h3⟩ := (show ObjOk X.prog X.w H1 s1.heap a (.dK kvs) from I1.hok a _ e)
    have new : ObjOk X.prog X.w (upd H1 a (.frz o (.dK kvs))) s1.heap a (.frz o (.dK kvs)) := ⟨h2, z, hd, vs, rel, o, es, ep, h2, h3⟩
    exact key (upd H1 a (.frz o (.dK kvs))) o (I1.write (x := a) (e := a) (t' := s1.toks) (h' := s1.heap) (by rw [e]; trivial) (.inl rfl) (fun b u _ z => z) ⟨o, h2⟩ new) upd_same (r o)
end L2
namespace M
open PySem PySem.Spec L2
def keyD : Key → D
  | .inl i => .int i
  | .inr x => .str x.cps.toList
/-- for k in d -/
def dkI (m : ME) : MI := fun env st => (m env st).bind fun d st1 => match d with
  | .loc n => (match st1[n]? with
    | some (.dkc kvs) => .ok (kvs.map (fun p => keyD p.1), []) (st1.set n (.dkf kvs))
    | some (.dkf kvs) => .ok (kvs.map (fun p => keyD p.1), []) st1
    | _ => .bad)
  | _ => .bad
/-- d[k], also where d is only read -/
def ixA : D → D → Stor → R D
  | .loc n, k, st => match st[n]?, keyOf k with
    | some (.dkc kvs), some kk => (match valN kvs kk with | some d => .ok d st | none => .bad)
    | some (.dkf kvs), some kk => (match valN kvs kk with | some d => .ok d st | none => .bad)
    | _, _ => .bad
  | _, _, _ => .bad
section
variable {X : Cx} {tg l a b : Expr} {ml ma mb : ME} {μ : List Addr} {H : Hp} {K : PySem.W.Frag} {st : Stor} {pos : Pos}
theorem RepV.keyD (k : Key) : RepV K μ H (M.keyD k) (kV k) := by
  cases k with
  | inl i => exact RepV.int_iff.mpr rfl
  | inr x => exact RepV.str_iff.mpr (by show V.str x = V.str (strOf x.cps.toList); simp [strOf])
theorem RepKV.keyAt : ∀ {kvs : List (Key × D)} {ws : List (Key × V)}, RepKV K μ H kvs ws → kvs.length = ws.length ∧ ∀ (i : Nat) (p : Key × D) (q : Key × V), kvs[i]? = some p → ws[i]? = some q → p.1 = q.1
  | [], _, h => by cases h; exact ⟨rfl, fun i p q h1 => by simp at h1⟩
  | (k, d) :: r, _, ⟨v, s, rfl, h1, h2⟩ => by
    obtain ⟨l, hk⟩ := RepKV.keyAt h2
    refine ⟨by simp [l], fun i p q e1 e2 => ?_⟩
    cases i with
    | zero => simp at e1 e2; subst e1; subst e2; rfl
    | succ i => exact hk i p q (by simpa using e1) (by simpa using e2)
theorem itk_rep {a : Addr} {o : Obj} {kvs : List (Key × D)} {ws : List (Key × V)} (e : H a = some (.frz o (.dK ws))) (h : RepKV X.K μ H kvs ws) : ItRep X μ H (Itk a o ws) (kvs.map (fun p => M.keyD p.1), []) := by
  intro H' μ' st' g hs ok
  obtain ⟨hl, hk⟩ := h.keyAt
  have e' := g.ext.frz _ _ _ e
  refine ⟨fun i d ed => ?_, ⟨by simp [hl], e'⟩⟩
  rw [List.getElem?_map] at ed
  obtain ⟨p, e1, rfl⟩ := Option.map_eq_some_iff.mp ed
  have hi := (List.getElem?_eq_some_iff.mp e1).1
  refine ⟨⟨by omega, e'⟩, ?_⟩
  rintro x H'' ⟨rfl, q, hq, rfl⟩
  refine ⟨.refl _ _, hs, ?_⟩
  rw [hk i p q e1 hq]
  exact RepV.keyD _
theorem RepS.putF {n : Nat} {mo mo' : MO} {a : Addr} {o' : HO} (h : RepS K μ H st) (hn : st[n]? = some mo) (hm : mo.mut = true) (ha : μ[n]? = some a) (g : Ext H (upd H a o')) (new : RepO K μ (upd H a o') a mo') : RepS K μ (upd H a o') (st.set n mo') := by
  have hl := (List.getElem?_eq_some_iff.mp hn).1
  refine ⟨by simp [h.len], fun k ok e => ?_, fun i j b oi oj ei ej mi mj hi hj => ?_⟩
  · by_cases hk : n = k
    · subst hk
      rw [List.getElem?_set_self hl] at e; cases e
      exact ⟨a, ha, new⟩
    · rw [List.getElem?_set_ne hk] at e
      obtain ⟨b, h1, h2⟩ := h.at_ k ok e
      refine ⟨b, h1, h2.keep ⟨⟨[], by simp⟩, g⟩ fun hmk u q => ?_⟩
      rw [upd_ne (fun e2 => ?_)]
      · exact q
      · subst e2; exact hk (h.uniq n k b mo ok hn e hm hmk ha h1)
  · have key : ∀ (k : Nat) (ok : MO), (st.set n mo')[k]? = some ok → ok.mut = true → ∃ ok', st[k]? = some ok' ∧ ok'.mut = true := fun k ok ek mk => by
      by_cases hk : n = k
      · subst hk; exact ⟨mo, hn, hm⟩
      · rw [List.getElem?_set_ne hk] at ek; exact ⟨ok, ek, mk⟩
    obtain ⟨oi', ei', mi'⟩ := key i oi ei mi
    obtain ⟨oj', ej', mj'⟩ := key j oj ej mj
    exact h.uniq i j b oi' oj' ei' ej' mi' mj' hi hj
theorem ji_dk (hl : JE X l ml) : JI X tg l (dkI ml) := by
  refine JI.of (pi_dk hl) fun σ H R ⟨μ, env, st, hE, hs, hp⟩ => ⟨μ, env, st, hE, hs, (Post.bind hp).imp ?_⟩
  rintro v H1 ⟨μ1, st1, d, g1, hs1, hv, hp1⟩
  dsimp only at hp1
  split at hp1
  · rename_i n
    obtain ⟨a, q1, rfl⟩ := RepV.loc_iff.mp hv
    split at hp1
    · rename_i kvs e1
      obtain ⟨a', ws, r1, r2, r3⟩ := hs1.dkc e1
      rw [q1] at r1; cases r1
      refine ⟨a, ws, rfl, .inr ⟨r2, fun o => ?_⟩⟩
      have g : Ext H1 (upd H1 a (.frz o (.dK ws))) := Ext.mut r2 (fun _ z => nomatch z) (fun _ _ z => nomatch z)
      have g' : Grow μ1 H1 μ1 (upd H1 a (.frz o (.dK ws))) := ⟨⟨[], by simp⟩, g⟩
      exact hp1 _ _ μ1 g' (hs1.putF e1 rfl q1 g ⟨ws, o, upd_same, r3.mono g'⟩) (itk_rep upd_same (r3.mono g'))
    · rename_i kvs e1
      obtain ⟨a', r1, ws, o, r2, r3⟩ := hs1.at_ n _ e1
      rw [q1] at r1; cases r1
      exact ⟨a, ws, rfl, .inl ⟨o, r2, hp1 _ _ _ (.refl _ _) hs1 (itk_rep r2 r3)⟩⟩
    · exact hp1.elim
  · exact hp1.elim
theorem je_ixA (hu : X.A.units + 1 < cLine) (ha : JE X a ma) (hb : JE X b mb) (hs : NoSl b := by exact fun _ _ => rfl) : JE X (.Subscript a b pos) (op2 ixA ma mb) := by
  refine JE.of (pe_dget hu ha hb hs) fun σ H Q h => ?_
  obtain ⟨μ, env, st, hE, hs, hp⟩ := tM_two h
  refine ⟨μ, env, st, hE, hs, hp.imp ?_⟩
  rintro x H1 ⟨μ1, env1, st1, hE1, hs1, hp1⟩
  refine ⟨μ1, env1, st1, hE1, hs1, hp1.imp ?_⟩
  rintro y H2 ⟨μ2, st2, dx, dy, hs2, hx, hy, hp2⟩
  unfold ixA at hp2
  split at hp2
  · rename_i n k
    split at hp2
    · rename_i kvs kk e1 e2
      obtain ⟨p, q1, rfl⟩ := RepV.loc_iff.mp hx
      obtain rfl := hy.key e2
      obtain ⟨p', ws, r1, r2, r3⟩ := hs2.dkc e1
      rw [q1] at r1; cases r1
      rcases r3.valN (k := kk) with ⟨z1, z2⟩ | ⟨d', v', z1, z2, z3⟩
      · rw [z1] at hp2; exact hp2.elim
      · rw [z1] at hp2
        exact ⟨p, v', rfl, by rw [← z2]; exact DGet.k r2, hp2.ret hs2 z3⟩
    · rename_i kvs kk e1 e2
      obtain ⟨p, q1, rfl⟩ := RepV.loc_iff.mp hx
      obtain rfl := hy.key e2
      obtain ⟨p', r1, ws, o, r2, r3⟩ := hs2.at_ _ _ e1
      rw [q1] at r1; cases r1
      rcases r3.valN (k := kk) with ⟨z1, z2⟩ | ⟨d', v', z1, z2, z3⟩
      · rw [z1] at hp2; exact hp2.elim
      · rw [z1] at hp2
        exact ⟨p, v', rfl, .inl ⟨ws, kk, .inr ⟨o, r2⟩, rfl, z2.symm⟩, hp2.ret hs2 z3⟩
    · exact hp2.elim
  · exact hp2.elim
end
end M
namespace L2
open PySem PySem.Spec PyProof.Rows
/-! ### the module's dicts: their keys are walked -/
end L2
namespace L2
open PySem PySem.Spec PyProof.Rows
/-! ### l.extend(t), t a tuple -/
end L2
namespace M
open PySem PySem.Spec L2
end M
namespace M
open PySem PySem.Spec L2
/-! ### the module's dicts, whose keys are texts -/
theorem r_dkI_c {m : ME} {env : MEnv} {st st1 : Stor} {n : Nat} {kvs : List (Key × D)} (h : m env st = .ok (.loc n) st1) (e : st1[n]? = some (.dkc kvs)) : dkI m env st = .ok (kvs.map (fun p => keyD p.1), []) (st1.set n (.dkf kvs)) := by
  unfold dkI; rw [h]; simp only [R.bind, e]
theorem r_ixA_f {n : Nat} {k : D} {kk : Key} {st : Stor} {kvs : List (Key × D)} {d : D} (e : st[n]? = some (.dkf kvs)) (hk : keyOf k = some kk) (h : valN kvs kk = some d) : ixA (.loc n) k st = .ok d st := by
  simp only [ixA, e, hk, h]
/-- the module's dict at a: its keys and values -/
def keyT (tb : List (List Nat × D)) : List (Key × D) := tb.map fun p => (Sum.inr (strOf p.1), p.2)
structure DictK (w : World) (K : PySem.W.Frag) (a : Addr) (tb : List (List Nat × D)) : Prop where
  low : (a == sysModules) = false
  at_ : ∀ P : Program, ∃ (kvs : List (Key × V)) (vs : List (Key × Value)) (ep : Nat), (∀ μ H, RepKV K μ H (keyT tb) kvs) ∧ KV kvs vs ∧ ∀ h : Heap, K.In h → h.DictAt (mixKind P w) a vs ep
/-- the rows of such a dict -/
inductive Rws (K : PySem.W.Frag) (w : World) : List DictEntry → List (List Nat × D) → Prop
  | nil : Rws K w [] []
  | i {h : Int} {x : Str} {t u : Tok} {cs : List Nat} {n : Int} {es : List DictEntry} {tb : List (List Nat × D)} (hx : x = strOf cs) (hh : h = keyH w (.inr x)) (r : Rws K w es tb) : Rws K w (⟨h, .str x t, .int n u⟩ :: es) ((cs, .int n) :: tb)
section
variable {X : Cx} {tg b : Expr} {mb : ME} {pos pos' : Pos} {x : Str} {tb : List (List Nat × D)}
end
end M
namespace M
open PySem PySem.Spec PySem.SeqAt L2
/-! ### i << j -/
/-! ### dict(d), d != e: dicts with text keys and flat values -/
section
variable {X : Cx} {L : Nat}
end
end M
namespace M
open PySem PySem.Spec L2
/-! ### figures: str(i), int(text) of numbers from 0 to 999; G.get(k) of the module's dicts -/
/-! sound -/
section
variable {X : Cx} {b : Expr} {mb : ME} {x : Str} {tb : List (List Nat × D)} {cpos apos pos' : Pos}
end
end M
namespace L2
open PySem PySem.Spec PyProof.Rows
/-! ### len(d), d's keys tuples -/
section
variable {prog : Program} {w : World} {A : Around} {E : Value → Shared → Prop} {s : Shared} {d : Addr} {o : Obj} {es : Array DictEntry} {ep : Nat}
theorem meets_len_raw (hd : (d == sysModules) = false) : MeetsIn prog w (Builtin.«dict.__len__» ⟨[.ref d], []⟩) (fun _ R s => ∃ o es ep, s.heap.get? d = some o ∧ o.data = .dict es ep ∧ R (.ok (.ret (.int es.size s.toks))) { s with toks := s.toks + 1 }) :=
  .of_wp fun A R s ⟨o, es, ep, ho, hdat, h⟩ => by
    show wpAny _ _ (dictSize d >>= _) _ _ s
    unfold dictSize
    refine wpAny_bind (wpAny_bind (wpAny_dictEntries ho hdat (wpAny_pure ?_)))
    show wpAny _ _ (Builtin.Dict.pendingCount d >>= _) _ _ s
    refine wpAny_bind (wpAny_pendingCount_other hd ?_)
    refine wpAny_ret_mkInt ?_
    simpa using h
theorem len_raw {Q : Value → Shared → Prop} (hd : (d == sysModules) = false) (ho : s.heap.get? d = some o) (hx : o.ExactDict) (hdat : o.data = .dict es ep) (hfit : (es.size : Int) < 2 ^ 63)
    (h : Q (.int es.size (s.toks + 1)) { s with toks := s.toks + 1 + 1 }) : wpAny (model prog w) A (call (.builtin "len") [.ref d]) Q E s := by
  have hT : s.TypeIs (.ref d) "dict" := ⟨o, ho, hx.1⟩
  refine Calls.call_function_entry PySem.kind_len PySem.plain_len PySem.entry_len (PySem.args_len1 _) ?_
  unfold Builtin.«len»
  refine wpAny_bind (m := oneArg "len" _) (wpAny_pure ?_)
  refine wpAny_bind (m := callSpecial? (.ref d) (Str.ofString "__len__")) (wpAny_callSpecial?_slot (name := Str.ofString "__len__") hT F.slot_dict_len
    (call_meetsIn F.slot_dict_len hT F.entry_dict_len (F.args_dict_len_1 _) (meets_len_raw hd) ⟨o, es, ep, ho, hdat, ?_⟩))
  show wpAny _ _ _ _ _ { s with toks := s.toks + 1 }
  refine wpAny_bind (wpAny_holding (wpAny_pure ?_))
  refine wpAny_bind (wpAny_letGo ?_)
  show wpAny _ _ (if ((es.size : Nat) : Int) < 0 then _ else _) _ _ _
  rw [if_neg (by omega)]
  show wpAny _ _ (if ((es.size : Nat) : Int) ≥ 2 ^ 63 then _ else _) _ _ _
  rw [if_neg (by omega)]
  exact wpAny_bind (wpAny_mkInt (wpAny_pure ⟨_, rfl, h⟩))
end
end L2
namespace M
open PySem PySem.Spec L2
/-! ### what a call that changes old objects leaves -/
section
variable {K : PySem.W.Frag} {μ ν : List Addr} {H H' : Hp} {st st' : Stor}
theorem RepS.backM {n : Nat} (hl : μ.length = n) (h : RepS K (μ ++ ν) H' st') (hn : n ≤ st'.length) (hu : ∀ o ∈ st'.take n, underO n o) : RepS K μ H' (st'.take n) := by
  have tg : ∀ (k : Nat) (o : MO), (st'.take n)[k]? = some o → st'[k]? = some o ∧ k < n := fun k o e => by
    have hk := (List.getElem?_eq_some_iff.mp e).1
    rw [List.length_take] at hk
    rw [List.getElem?_take, if_pos (by omega)] at e
    exact ⟨e, by omega⟩
  refine ⟨by rw [List.length_take, hl]; omega, fun k o e => ?_, fun i j a oi oj ei ej mi mj hi hj => ?_⟩
  · obtain ⟨e1, hk⟩ := tg k o e
    obtain ⟨a, h1, h2⟩ := h.at_ k o e1
    rw [List.getElem?_append_left (by omega)] at h1
    exact ⟨a, h1, h2.down (by rw [hl]; exact hu o (List.mem_of_getElem? e))⟩
  · have up : ∀ k, μ[k]? = some a → (μ ++ ν)[k]? = some a := fun k hk => by rw [List.getElem?_append_left (List.getElem?_eq_some_iff.mp hk).1]; exact hk
    exact h.uniq i j a oi oj (tg i oi ei).1 (tg j oj ej).1 mi mj (up i hi) (up j hj)
theorem RepS.back1M {n k : Nat} {o : MO} {a : Addr} (hl : μ.length = n) (h : RepS K (μ ++ ν) H' st') (hn : n ≤ st'.length) (hu : ∀ o ∈ st'.take n, underO n o) (hk : n ≤ k) (e : st'[k]? = some o) (u : underO n o) (ha : (μ ++ ν)[k]? = some a) :
    RepS K (μ ++ [a]) H' (st'.take n ++ [o]) := by
  have hb := RepS.backM hl h hn hu
  have lt : (st'.take n).length = n := by rw [List.length_take]; omega
  obtain ⟨a', q1, q2⟩ := h.at_ k o e
  rw [ha] at q1; cases q1
  have key : ∀ (i : Nat) (on : MO) (c : Addr), (st'.take n ++ [o])[i]? = some on → (μ ++ [a])[i]? = some c → (i < n ∧ (st'.take n)[i]? = some on ∧ μ[i]? = some c) ∨ (i = n ∧ on = o ∧ c = a) := fun i on c e1 e2 => by
    by_cases hi : i < n
    · rw [List.getElem?_append_left (by omega)] at e1
      rw [List.getElem?_append_left (by omega)] at e2
      exact .inl ⟨hi, e1, e2⟩
    · have hl2 := (List.getElem?_eq_some_iff.mp e1).1
      rw [List.length_append, List.length_singleton, lt] at hl2
      have en : i = n := by omega
      subst en
      rw [List.getElem?_append_right (by omega), lt] at e1
      rw [List.getElem?_append_right (by omega), hl] at e2
      simp at e1 e2
      exact .inr ⟨rfl, e1.symm, e2.symm⟩
  have tg : ∀ (i : Nat) (o : MO), (st'.take n)[i]? = some o → st'[i]? = some o := fun i o e => by
    have hi := (List.getElem?_eq_some_iff.mp e).1
    rw [lt] at hi
    rw [List.getElem?_take, if_pos hi] at e
    exact e
  refine ⟨by simp [lt, hl], fun i on e1 => ?_, fun i j c oi oj ei ej mi mj hi hj => ?_⟩
  · have hi : i < (μ ++ [a]).length := by
      have := (List.getElem?_eq_some_iff.mp e1).1
      simp [lt] at this
      simp [hl]; omega
    obtain ⟨c, hc⟩ : ∃ c, (μ ++ [a])[i]? = some c := ⟨_, List.getElem?_eq_getElem hi⟩
    rcases key i on c e1 hc with ⟨h1, h2, h3⟩ | ⟨h1, rfl, rfl⟩
    · obtain ⟨c', h4, h5⟩ := hb.at_ i on h2
      rw [h3] at h4; cases h4
      exact ⟨c, hc, h5.up _⟩
    · exact ⟨c, hc, (q2.down (by rw [hl]; exact u)).up _⟩
  · have up : ∀ k, μ[k]? = some c → (μ ++ ν)[k]? = some c := fun k hk => by rw [List.getElem?_append_left (List.getElem?_eq_some_iff.mp hk).1]; exact hk
    rcases key i oi c ei hi with ⟨h1, h2, h3⟩ | ⟨h1, rfl, rfl⟩
    · rcases key j oj c ej hj with ⟨g1, g2, g3⟩ | ⟨g1, rfl, rfl⟩
      · exact hb.uniq i j c oi oj h2 g2 mi mj h3 g3
      · have := h.uniq i k c oi oj (tg i oi h2) e mi mj (up i h3) ha
        omega
    · rcases key j oj c ej hj with ⟨g1, g2, g3⟩ | ⟨g1, _, _⟩
      · have := h.uniq j k c oj oi (tg j oj g2) e mj mi (up j g3) ha
        omega
      · rw [h1, g1]
end
open Classical in
/-- as gc, also where old objects were changed -/
noncomputable def gcM (st : Stor) (r : R D) : R D := match r with
  | .ok d st' => if st.length ≤ st'.length ∧ ∀ o ∈ st'.take st.length, underO st.length o then (if under st.length d then .ok d (st'.take st.length) else (match d with
    | .loc k => (match st'[k]? with
      | some o => if st.length ≤ k ∧ underO st.length o then .ok (.loc st.length) (st'.take st.length ++ [o]) else .ok d st'
      | none => .ok d st')
    | d => .ok d st')) else .ok d st'
  | r => r
noncomputable def gcFM (F : FD) : FD := fun ds st => gcM st (F ds st)
theorem gcM_flat {st st' g : Stor} {d : D} (hl : st'.length = st.length) (hu : ∀ o ∈ st', underO st.length o) (h : under st.length d) : gcM st (.ok d (st' ++ g)) = .ok d st' := by
  unfold gcM
  dsimp only
  have e : (st' ++ g).take st.length = st' := by rw [← hl, List.take_left']; rfl
  rw [if_pos ⟨by simp; omega, by rw [e]; exact hu⟩, if_pos h, e]
theorem gcM_new {st st' g g' : Stor} {o : MO} (hl : st'.length = st.length) (hu : ∀ o ∈ st', underO st.length o) (h : underO st.length o) : gcM st (.ok (.loc (st.length + g.length)) (st' ++ g ++ o :: g')) = .ok (.loc st.length) (st' ++ [o]) := by
  unfold gcM
  dsimp only
  have e : (st' ++ g ++ o :: g').take st.length = st' := by rw [List.append_assoc, ← hl, List.take_left']; rfl
  have e2 : (st' ++ g ++ o :: g')[st.length + g.length]? = some o := by
    rw [← hl, List.getElem?_append_right (by simp)]; simp
  rw [if_pos ⟨by simp; omega, by rw [e]; exact hu⟩, if_neg (by simp), e2]
  dsimp only
  rw [if_pos ⟨by omega, h⟩, e]
theorem gcM_post {K : PySem.W.Frag} {μ : List Addr} {H : Hp} {Q : VK} {st : Stor} {r : R D} (hs : RepS K μ H st) (h : PostF K μ H Q (gcM st r)) : PostF K μ H Q r := by
  cases r with
  | bad => exact h
  | err x st' => exact h
  | ok d st' =>
    unfold gcM at h
    dsimp only at h
    by_cases c0 : st.length ≤ st'.length ∧ ∀ o ∈ st'.take st.length, underO st.length o
    · rw [if_pos c0] at h
      by_cases c1 : under st.length d
      · rw [if_pos c1] at h
        intro v H' μ' g hs' hv
        obtain ⟨ν, rfl⟩ := g.pre
        exact h v H' μ ⟨⟨[], by simp⟩, g.ext⟩ (RepS.backM hs.len hs' c0.1 c0.2) (RepV.down d hv (by rw [hs.len]; exact c1))
      · rw [if_neg c1] at h
        cases d with
        | loc k =>
          dsimp only at h
          cases e : st'[k]? with
          | none => rw [e] at h; exact h
          | some o =>
            rw [e] at h
            dsimp only at h
            by_cases c2 : st.length ≤ k ∧ underO st.length o
            · rw [if_pos c2] at h
              intro v H' μ' g hs' hv
              obtain ⟨ν, rfl⟩ := g.pre
              obtain ⟨a, h1, rfl⟩ := RepV.loc_iff.mp hv
              refine h _ H' (μ ++ [a]) ⟨⟨[a], rfl⟩, g.ext⟩ (RepS.back1M hs.len hs' c0.1 c0.2 c2.1 e c2.2 h1) (RepV.loc_iff.mpr ⟨a, ?_, rfl⟩)
              rw [← hs.len]; simp
            · rw [if_neg c2] at h; exact h
        | _ => exact h
    · rw [if_neg c0] at h; exact h
theorem sp_gcM {K : PySem.W.Frag} {n : Nat} {F : FD} {vs : List V} {H : Hp} {Q : VK} {E : XK} (h : spM K n (gcFM F) vs H Q E) : spM K n F vs H Q E := by
  obtain ⟨hl, μ, ds, st, h1, h2, h3⟩ := h
  exact ⟨hl, μ, ds, st, h1, h2, gcM_post h2 h3⟩
/-! ### instances of the module's own classes -/
def putFD (f : Str) (d : D) : List (Str × D) → List (Str × D)
  | [] => [(f, d)]
  | (g, x) :: r => if g = f then (g, d) :: r else (g, x) :: putFD f d r
/-- e.f -/
def fldE (c f : Str) (m : ME) : ME := fun env st => (m env st).bind fun d st1 => match d with
  | .loc n => (match st1[n]? with
    | some (.ins c' fs) => if c' = c then (match fs.lookup f with | some x => .ok x st1 | none => .bad) else .bad
    | _ => .bad)
  | _ => .bad
/-- e.f = v -/
def setFldS (c f : Str) (mo mv : ME) : MS := fun env st => (mv env st).bind fun d st1 => (mo env st1).bind fun x st2 => match x with
  | .loc n => (match st2[n]? with
    | some (.ins c' fs) => if c' = c ∧ fs.length < 1000 then .ok (.nx env) (st2.set n (.ins c (putFD f d fs))) else .bad
    | _ => .bad)
  | _ => .bad
/-- C(..): a new instance, then __init__ -/
def makeE (c : Str) (F : FD) (mA : MA) : ME := fun env st => (mA env st).bind fun as st1 => ((F (.loc st1.length :: as) (st1 ++ [.ins c []])).sure).bind fun d st2 => match d with
  | .non => .ok (.loc st1.length) st2
  | _ => .bad
/-- o.m(..) -/
def methI (c m : Str) (F : FD) (mo : ME) (mA : MA) : ME := fun env st => (mo env st).bind fun x st1 => match x with
  | .loc n => (match st1[n]? with
    | some (.ins c' fs) => if c' = c ∧ fs.lookup m = none then (mA env st1).bind fun as st2 => (match st2[n]? with
      | some (.ins _ _) => (F (.loc n :: as) st2).sure
      | _ => .bad) else .bad
    | _ => .bad)
  | _ => .bad
def lenW : List D → Stor → R D
  | [.loc n], st => (match st[n]? with
    | some (.dic kvs) => .ok (.int kvs.length) st
    | some (.dkc kvs) => .ok (.int kvs.length) st
    | _ => lenV [.loc n] st)
  | ds, st => lenV ds st
/-- d[k], k a tuple -/
def ixD : D → D → Stor → R D
  | .loc n, .tup ks, st => match st[n]?, keysOf ks with
    | some (.dic kvs), some kk => (match valM kvs kk with | some d => .ok d st | none => .bad)
    | _, _ => .bad
  | _, _, _ => .bad
/-! sound -/
section
variable {X : Cx} {K : PySem.W.Frag} {μ : List Addr} {H : Hp} {e o a b value : Expr} {es : List Expr} {me mo mv ma mb : ME} {mA : MA} {pos pos' apos p : Pos} {c f m x : Str} {C g : Addr} {F : FD} {fd : FuncData} {ps : List Str} {k : Nat}
theorem RepKV.look : ∀ {fs : List (Str × D)} {ws : List (Str × V)}, RepKV K μ H fs ws → (fs.lookup f = none ∧ ws.lookup f = none) ∨ ∃ d v, fs.lookup f = some d ∧ ws.lookup f = some v ∧ RepV K μ H d v
  | [], ws, h => by rw [RepKV] at h; subst h; exact .inl ⟨rfl, rfl⟩
  | (j, d) :: r, ws, h => by
    obtain ⟨v, r', rfl, h1, h2⟩ := h
    by_cases q : f = j
    · subst q
      exact .inr ⟨d, v, by simp [List.lookup], by simp [List.lookup], h1⟩
    · have q' : (f == j) = false := by simpa using q
      simp only [List.lookup, q']
      exact RepKV.look h2
theorem RepKV.putF {d : D} {v : V} (hv : RepV K μ H d v) : ∀ {fs : List (Str × D)} {ws : List (Str × V)}, RepKV K μ H fs ws → RepKV K μ H (putFD f d fs) (L2.putF f v ws)
  | [], ws, h => by rw [RepKV] at h; subst h; exact ⟨v, [], rfl, hv, rfl⟩
  | (j, d') :: r, ws, h => by
    obtain ⟨v', r', rfl, h1, h2⟩ := h
    unfold putFD L2.putF
    by_cases q : j = f
    · rw [if_pos q, if_pos q]; exact ⟨v, r', rfl, hv, h2⟩
    · rw [if_neg q, if_neg q]; exact ⟨v', _, rfl, h1, RepKV.putF hv h2⟩
theorem je_fld (h0 : PySem.W.nsIn X.K mainGlobals c = some (some (.ref C))) (hc : Cls X.K C) (hn : NoAttr X.K C f) (he : JE X e me) (hb : attributeBase e f X.env (eval e X.env) = eval e X.env := by rfl) : JE X (.Attribute e f pos) (fldE c f me) := by
  refine JE.of (pe_fld he hb) fun σ H Q ⟨μ, env, st, hE, hs, hp⟩ => ⟨μ, env, st, hE, hs, (Post.bind hp).imp ?_⟩
  rintro v H1 ⟨μ1, st1, d, g1, hs1, hx, hp1⟩
  dsimp only at hp1
  split at hp1
  · rename_i n
    split at hp1
    · rename_i c' fs e1
      split at hp1
      · rename_i ec
        subst ec
        obtain ⟨p, q1, rfl⟩ := RepV.loc_iff.mp hx
        obtain ⟨p', r1, C', dx, ws, r2, r3, r4⟩ := hs1.at_ n _ e1
        rw [q1] at r1; cases r1
        rw [h0] at r2; cases r2
        rcases r4.look (f := f) with ⟨z1, z2⟩ | ⟨d', v', z1, z2, z3⟩
        · rw [z1] at hp1; exact hp1.elim
        · rw [z1] at hp1
          exact ⟨p, C, dx, ws, v', rfl, r3, hc, hn, z2, hp1.ret hs1 z3⟩
      · exact hp1.elim
    · exact hp1.elim
  · exact hp1.elim
theorem js_fld (h0 : PySem.W.nsIn X.K mainGlobals c = some (some (.ref C))) (hc : Cls X.K C) (hn : NoAttr X.K C f) (ho : JE X o mo) (hv : JE X value mv) (hs : swapsWith value (some (.Attribute o f pos')) pos.line X.env = pure false := by rfl) :
    JS X (.Assign [.Attribute o f pos'] value pos) (setFldS c f mo mv) := by
  refine JS.of (ps_fld ho hv hs) fun E σ H ⟨μ, env, st, hE, hs, hp⟩ => ⟨μ, env, st, hE, hs, hp.val.imp ?_⟩
  rintro y H1 ⟨μ1, st1, d, g1, hs1, hy, hp1⟩
  refine ⟨μ1, env, st1, hE.mono g1, hs1, hp1.val.imp ?_⟩
  rintro z H2 ⟨μ2, st2, d2, g2, hs2, hz, hp2⟩
  try dsimp only at hp2
  split at hp2
  · rename_i n
    split at hp2
    · rename_i c' fs e1
      split at hp2
      · rename_i ec
        obtain ⟨ec, hl⟩ := ec
        subst ec
        obtain ⟨p, q1, rfl⟩ := RepV.loc_iff.mp hz
        obtain ⟨p', r1, C', dx, ws, r2, r3, r4⟩ := hs2.at_ n _ e1
        rw [q1] at r1; cases r1
        rw [h0] at r2; cases r2
        have hll : ws.length < 1000 := by rw [← r4.len]; exact hl
        have gg : Ext H2 (upd H2 p (.ins C dx (L2.putF f y ws))) := Ext.mut r3 (fun _ z => nomatch z) (fun _ _ z => nomatch z)
        have g' : Grow μ2 H2 μ2 (upd H2 p (.ins C dx (L2.putF f y ws))) := ⟨⟨[], by simp⟩, gg⟩
        refine ⟨p, C, dx, ws, rfl, r3, hc, hn, hll, hp2 σ _ μ2 g' (hs2.put e1 rfl rfl q1 gg ⟨C, dx, _, h0, upd_same, (r4.putF (hy.mono g2 _)).mono g'⟩) (((hE.mono g1).mono g2).mono g')⟩
      · exact hp2.elim
    · exact hp2.elim
  · exact hp2.elim
theorem je_make (h0 : PySem.W.nsIn X.K mainGlobals c = some (some (.ref C))) (MK : Mk X.K C g) (G : FnOk X.prog X.w X.K X.mg X.base CX0 k g fd ps (spM X.K ps.length F)) (hr : Room (k + 1) X.A) (hm : X.mg c = some (.ref C)) (hb : Binds X.K fd ps []) (ha : JA X (e :: es) mA)
    (hlen : (e :: es).length + 1 = ps.length := by rfl) (hg : Gl X c := by rfl) (hdb : (c == ("__debug__" : Str)) = false := by decide) (he : starEach (e :: es) X.env = (false, eval e X.env) :: starEach es X.env := by rfl) (hpl : (backTo pos (starEach es X.env)).any (·.1) = false := by rfl)
    (hA : ∀ env st as st1, mA env st = .ok as st1 → as.length = (e :: es).length := by intros; rfl) : JE X (.Call (.Name c p) (e :: es) [] pos) (makeE c F mA) := by
  refine JE.of (pe_make MK G hr hg hm hb .nil pass0 ha hdb he hpl) fun σ H Q ⟨μ, env, st, hE, hs, hp⟩ => ⟨μ, env, st, hE, hs, ?_⟩
  cases hq : mA env st with
  | bad => unfold makeE at hp; rw [hq] at hp; exact hp
  | err y st1 => unfold makeE at hp; rw [hq] at hp; exact hp
  | ok as st1 =>
    unfold makeE at hp
    rw [hq] at hp
    intro vs H1 μ1 g1 hs1 hv x dx hx hdx hne
    have hne2 : upd H1 dx (.own x) x = none := by rw [upd_ne (Ne.symm hne)]; exact hx
    have ext1 : Ext H1 (upd H1 dx (.own x)) := Ext.new hdx
    have gd : Grow μ1 H1 μ1 (upd H1 dx (.own x)) := ⟨⟨[], by simp⟩, ext1⟩
    have hs2 : RepS X.K μ1 (upd H1 dx (.own x)) st1 := hs1.lay hdx
    have hr3 : RepO X.K (μ1 ++ [x]) (upd (upd H1 dx (.own x)) x (.ins C dx [])) x (.ins c []) := ⟨C, dx, [], h0, upd_same, rfl⟩
    have hs3 := hs2.new hne2 hr3
    have gn : Grow μ1 (upd H1 dx (.own x)) (μ1 ++ [x]) (upd (upd H1 dx (.own x)) x (.ins C dx [])) := Grow.new hne2
    have hv3 : RepVs X.K (μ1 ++ [x]) (upd (upd H1 dx (.own x)) x (.ins C dx [])) (.loc st1.length :: as) (.ref x :: vs) := RepVs.cons (RepV.loc_iff.mpr ⟨x, by rw [← hs1.len]; simp, rfl⟩) ((hv.mono gd _).mono gn _)
    have hl2 : (V.ref x :: (vs ++ [])).length = ps.length := by
      have := hA env st as st1 hq
      have := hv.length
      simp only [List.append_nil, List.length_cons] at *
      omega
    rw [List.append_nil] at hl2 ⊢
    refine ⟨hl2, μ1 ++ [x], .loc st1.length :: as, st1 ++ [.ins c []], hv3, hs3, ?_⟩
    cases hF : F (.loc st1.length :: as) (st1 ++ [.ins c []]) with
    | bad => rw [R.bind_ok, hF] at hp; exact hp.elim
    | err y st2 => rw [R.bind_ok, hF] at hp; exact hp.elim
    | ok d st2 =>
      rw [R.bind_ok, hF] at hp
      intro v H' μ' g' hs' hvd
      have gall : Grow μ H μ' H' := (g1.trans gd).trans (gn.trans g')
      cases d with
      | non =>
        refine ⟨RepV.non_iff.mp hvd, hp (.ref x) H' μ' gall hs' (RepV.loc_iff.mpr ⟨x, g'.get (by rw [← hs1.len]; simp), rfl⟩)⟩
      | _ => exact hp.elim
theorem je_methI {pl : Sem Bool} (h0 : PySem.W.nsIn X.K mainGlobals c = some (some (.ref C))) (hc : Cls X.K C) (hm : Meth X.K C m g) (G : FnOk X.prog X.w X.K X.mg X.base CX0 k g fd ps (spM X.K ps.length F)) (hr : Room k X.A) (hb : Binds X.K fd ps []) (ho : JE X o mo) (ha : JA X (e :: es) mA)
    (hlen : (e :: es).length + 1 = ps.length := by rfl) (hst : starEach (e :: es) X.env = (false, eval e X.env) :: starEach es X.env := by rfl) (hpl : (backTo pos (starEach es X.env)).any (·.1) = false := by rfl)
    (ht : eval (.Call (.Attribute o m apos) (e :: es) [] pos) X.env = (do
      let ov ← eval o X.env
      standAt apos.atName
      let (f, first) ← holding [ov] (getMethod ov m pl)
      callWith pos f first (backTo pos (starEach (e :: es) X.env)) (backToKw pos (keywordEach [] X.env))) := by rfl)
    (hA : ∀ env st as st1, mA env st = .ok as st1 → as.length = (e :: es).length := by intros; rfl) : JE X (.Call (.Attribute o m apos) (e :: es) [] pos) (methI c m F mo mA) := by
  refine JE.of (pe_meth ho hc hm G hr hb .nil pass0 ha hst hpl ht) fun σ H Q ⟨μ, env, st, hE, hs, hp⟩ => ⟨μ, env, st, hE, hs, (Post.bind hp).imp ?_⟩
  rintro v H1 ⟨μ1, st1, d, g1, hs1, hx, hp1⟩
  dsimp only at hp1
  split at hp1
  · rename_i n
    split at hp1
    · rename_i c' fs e1
      split at hp1
      · rename_i ec
        obtain ⟨ec, hl⟩ := ec
        subst ec
        obtain ⟨p, q1, rfl⟩ := RepV.loc_iff.mp hx
        obtain ⟨p', r1, C', dx, ws, r2, r3, r4⟩ := hs1.at_ n _ e1
        rw [q1] at r1; cases r1
        rw [h0] at r2; cases r2
        have hl2 : ws.lookup m = none := by
          rcases r4.look (f := m) with ⟨_, z2⟩ | ⟨d', v', z1, _, _⟩
          · exact z2
          · rw [hl] at z1; cases z1
        refine ⟨p, dx, ws, rfl, r3, hl2, μ1, env, st1, hE.mono g1, hs1, ?_⟩
        cases hq : mA env st1 with
        | bad => rw [hq] at hp1; exact hp1
        | err y st2 => rw [hq] at hp1; exact hp1
        | ok as st2 =>
          rw [hq, R.bind_ok] at hp1
          intro vs H2 μ2 g2 hs2 hv
          split at hp1
          · rename_i c2 fs2 e2
            have hv3 : RepVs X.K μ2 H2 (.loc n :: as) (.ref p :: vs) := RepVs.cons (RepV.loc_iff.mpr ⟨p, g2.get q1, rfl⟩) hv
            have hll : (V.ref p :: (vs ++ [])).length = ps.length := by
              have := hA env st1 as st2 hq
              have := hv.length
              simp only [List.append_nil, List.length_cons] at *
              omega
            rw [List.append_nil] at hll ⊢
            refine ⟨hll, μ2, .loc n :: as, st2, hv3, hs2, ?_⟩
            cases hF : F (.loc n :: as) st2 with
            | bad => rw [hF] at hp1; exact hp1.elim
            | err y st3 => rw [hF] at hp1; exact hp1.elim
            | ok d st3 =>
              rw [hF] at hp1
              intro v H' μ' g' hs' hvd
              exact hp1 v H' μ' (g2.trans g') hs' hvd
          · exact hp1.elim
      · exact hp1.elim
    · exact hp1.elim
  · exact hp1.elim
theorem call_lenW : CallR X (.builtin "len") (rMC X lenW) := by
  rintro pins s σ H xs us Q I rv ⟨μ, st, ds, hs, hv, hp⟩
  unfold lenW at hp
  split at hp
  · rename_i n
    split at hp
    · rename_i kvs e1
      obtain ⟨v, rfl, q⟩ := RepVs.one hv
      obtain ⟨p, q1, rfl⟩ := RepV.loc_iff.mp q
      obtain ⟨u, rfl, ru⟩ := rv.one
      cases ru
      obtain ⟨p', ws, r1, r2, r3⟩ := hs.dic e1
      rw [q1] at r1; cases r1
      obtain ⟨z, y, xs, r, o, es, ep, h1, h2, h3, h4, h5⟩ := (show ObjOk X.prog X.w H s.heap p (.dT ws) from I.hok p _ r2)
      have hl : es.size = kvs.length := by
        rw [r3.len, Paired.length r, ← Array.length_toList, h4, List.length_map]
      refine len_raw y h1 h2 h3 (by rw [hl, r3.len]; rw [sizeLine_eq] at z; omega) ?_
      rw [hl]
      exact ⟨.int kvs.length, H, I.tok _, ⟨_, rfl⟩, hp.ret hs (RepV.int_iff.mpr rfl)⟩
    · rename_i kvs e1
      obtain ⟨v, rfl, q⟩ := RepVs.one hv
      obtain ⟨p, q1, rfl⟩ := RepV.loc_iff.mp q
      obtain ⟨u, rfl, ru⟩ := rv.one
      cases ru
      obtain ⟨p', ws, r1, r2, r3⟩ := hs.dkc e1
      rw [q1] at r1; cases r1
      refine d_len I (.inl r2) fun t s' I' => ?_
      rw [← r3.len]
      exact ⟨.int kvs.length, H, I', ⟨_, rfl⟩, hp.ret hs (RepV.int_iff.mpr rfl)⟩
    · exact call_lenV pins s σ H xs us Q I rv ⟨μ, st, _, hs, hv, hp⟩
  · exact call_lenV pins s σ H xs us Q I rv ⟨μ, st, _, hs, hv, hp⟩
theorem je_ixD (hu : X.A.units + 1 < cLine) (ha : JE X a ma) (hb : JE X b mb) (hs : NoSl b := by exact fun _ _ => rfl) : JE X (.Subscript a b pos) (op2 ixD ma mb) := by
  refine JE.of (pe_dget hu ha hb hs) fun σ H Q h => ?_
  obtain ⟨μ, env, st, hE, hs, hp⟩ := tM_two h
  refine ⟨μ, env, st, hE, hs, hp.imp ?_⟩
  rintro x H1 ⟨μ1, env1, st1, hE1, hs1, hp1⟩
  refine ⟨μ1, env1, st1, hE1, hs1, hp1.imp ?_⟩
  rintro y H2 ⟨μ2, st2, dx, dy, hs2, hx, hy, hp2⟩
  unfold ixD at hp2
  split at hp2
  · rename_i n ks
    split at hp2
    · rename_i kvs kk e1 e2
      obtain ⟨p, q1, rfl⟩ := RepV.loc_iff.mp hx
      obtain ⟨b, ys, rfl, q3, q4⟩ := RepV.tup_iff.mp hy
      replace q3 := q3.made e2
      obtain rfl := RepVs.keys q4 e2
      obtain ⟨p', ws, r1, r2, r3⟩ := hs2.dic e1
      rw [q1] at r1; cases r1
      rcases r3.val (k := kk) with ⟨z1, z2⟩ | ⟨d', v', z1, z2, z3⟩
      · rw [z1] at hp2; exact hp2.elim
      · rw [z1] at hp2
        exact ⟨p, v', rfl, by rw [← z2]; exact DGet.t r2 q3, hp2.ret hs2 z3⟩
    · exact hp2.elim
  · exact hp2.elim
end
end M
namespace M
open PySem
def clsBody : Stmt → List Stmt
  | .ClassDef _ _ _ body _ _ _ _ _ _ _ => body
  | _ => []
end M
namespace L2
open PySem PySem.Spec PyProof.Rows
end L2
namespace M
open PySem PySem.Spec L2
end M
namespace L2
open PySem PySem.Spec PyProof.Rows
/-! ### for k in d, d's keys being tuples -/
section
variable {P : Program} {w : World} {A : Around} {E : Value → Shared → Prop} {s : Shared} {d it : Addr} {od : Obj} {es : Array DictEntry} {i ep : Nat}
end
end L2
namespace M
open PySem PySem.Spec L2
section
variable {X : Cx} {tg l a b : Expr} {ml ma mb : ME} {μ : List Addr} {H : Hp} {K : PySem.W.Frag} {st : Stor} {pos : Pos}
end
end M
namespace L2
open PySem PySem.Spec PyProof.Rows
/-! ### an exception that is on its way -/
section
variable {X : Cx} {pins : List (Addr × Obj)} {σ : St} {H : Hp} {s : Shared} {h' : Heap} {lo : Nat} {e C dx : Addr} {E : Value → Shared → Prop}
/-- where the frame is the one that runs -/
structure Own (X : Cx) : Prop where
  stk : X.stack = X.env :: X.outer
  frm : X.env.frame = some X.env.locals
  pn : X.pn = []
end
end L2
namespace L2
open PySem PySem.Spec PyProof.Rows
/-! ### exceptions that leave a def -/
section
variable {X : Cx} {W : Addr → Addr → Hp → Prop} {P : Program} {w : World}
end
end L2
namespace L2
open PySem PySem.Spec PyProof.Rows
/-! ### an own exception of the second rank, under one that has an __init__ -/
section
variable {prog : Program} {w : World} {A : Around} {E : Value → Shared → Prop} {h : Heap} {g : Array GenState} {d : Drawn} {t : Nat} {os : OsState}
variable {nm q nm1 q1 : Str} {C N C1 N1 : Addr} {bs bm bs1 bm1 : List Value} {hdct hdct1 : Bool} {sn sn1 : List Str} {sub sub1 : List Value} {ab ab1 : Bool} {col col1 : Option Bool} {dd dd1 : Option Addr} {k0 k1 k2 k3 k5 j0 j1 j2 j3 j5 : Option Value} {newId1 : String} {mN mN1 : Str → Option Value}
end
end L2
set_option maxHeartbeats 0
namespace L2
open PySem PySem.Spec PyProof.Rows
/-! ### what stands in its __init__ -/
section
variable {prog : Program} {w : World} {A : Around} {E : Value → Shared → Prop} {h : Heap} {g : Array GenState} {d : Drawn} {t : Nat} {os : OsState}
variable {nm q : Str} {C N C1 N1 : Addr} {bs bm : List Value} {hdct : Bool} {sn : List Str} {sub : List Value} {ab : Bool} {col : Option Bool} {dd : Option Addr} {k0 k1 k2 k3 k5 : Option Value} {newId : String} {mN mN1 : Str → Option Value}
/-- the classes as they lie: C under C1 under ValueError -/
structure Two (h : Heap) (C C1 fI : Addr) : Prop where
  c : ∃ nm q N bs sn sub ab col dd k0 k1 k2 k3 k5 mN, h.get? C = some (excClassObj nm q C N bs [.ref C1, .type "ValueError", .type "Exception", .type "BaseException", .type "object"] true sn sub ab col dd k0 k1 k2 k3 k5 "ValueError.__new__") ∧ h.Ns N mN ∧ ∀ x : Str, x ∈ ([("__init__" : Str), "at", "__setattr__", "__getattribute__", "__getattr__", "__class__"] : List Str) → mN x = none
  c1 : ∃ nm q N bs bm hd sn sub ab col dd k0 k1 k2 k3 k5 nid mN, h.get? C1 = some (excClassObj nm q C1 N bs bm hd sn sub ab col dd k0 k1 k2 k3 k5 nid) ∧ h.Ns N mN ∧ mN "__init__" = some (.ref fI) ∧ ∀ x : Str, x ∈ ([("at" : Str), "__setattr__", "__getattribute__", "__getattr__", "__class__"] : List Str) → mN x = none
  f : ∃ oI, h.get? fI = some oI ∧ oI.cls = .type "function"
end
end L2
set_option maxHeartbeats 0
namespace L2
open PySem PySem.Spec PyProof.Rows
section
variable {prog : Program} {w : World} {A : Around} {E : Value → Shared → Prop} {h : Heap} {g : Array GenState} {d : Drawn} {t : Nat} {os : OsState} {C C1 fI : Addr}
end
end L2
set_option maxHeartbeats 0
namespace L2
open PySem PySem.Spec PyProof.Rows
section
variable {prog : Program} {w : World} {A : Around} {E : Value → Shared → Prop} {h : Heap} {g : Array GenState} {d : Drawn} {t : Nat} {os : OsState} {C C1 fI : Addr}
end
end L2
set_option maxHeartbeats 0
namespace L2
open PySem PySem.Spec PyProof.Rows
section
variable {prog : Program} {w : World} {A : Around} {E : Value → Shared → Prop} {h : Heap} {g : Array GenState} {d : Drawn} {t : Nat} {os : OsState} {C C1 fI : Addr}
end
end L2
set_option maxHeartbeats 0
namespace L2
open PySem PySem.Spec PyProof.Rows
/-! ### the steps of an exception's __init__ -/
section
variable {X : Cx} {e : Expr} {te : TE} {p pos p1 p2 p3 : Pos} {x : Str} {j : Nat} {pins : List (Addr × Obj)} {σ : St} {H : Hp} {s : Shared}
end
end L2
set_option maxHeartbeats 0
namespace L2
open PySem PySem.Spec PyProof.Rows
/-! ### an exception is made -/
section
variable {X : Cx} {pins : List (Addr × Obj)} {σ : St} {H : Hp} {s : Shared}
end
end L2
set_option maxHeartbeats 0
namespace L2
open PySem PySem.Spec PyProof.Rows
/-! ### raise -/
section
variable {X : Cx} {pins : List (Addr × Obj)} {σ : St} {H : Hp} {s : Shared}
end
end L2
namespace M
open PySem PySem.Spec L2
end M
set_option maxHeartbeats 0
namespace L2
open PySem PySem.Spec PyProof.Rows
section
variable {X : Cx} {CX : CXT} {k : Nat} {f C : Addr} {fd : FuncData} {ps : List Str} {sp : Sp} {dvs : List V} {ds : List Value} {x m : Str} {p pos apos : Pos} {e o : Expr} {es : List Expr} {ta : TE} {t : TA} {pins : List (Addr × Obj)} {σ : St} {H : Hp} {s : Shared} {Q : VK}
end
end L2
namespace M
open PySem PySem.Spec L2
/-! ### defs that raise -/
section
variable {P : Program} {w : World} {K : PySem.W.Frag} {mg : Str → Option Value} {base : Heap}
end
section
variable {X : Cx} {e : Expr} {es : List Expr} {mA : MA} {pos p : Pos} {x : Str} {k : Nat} {f : Addr} {fd : FuncData} {ps : List Str} {F : FD} {dvs : List V} {ds : List Value} {dd : List D}
end
end M
set_option maxHeartbeats 0
namespace L2
open PySem PySem.Spec PyProof.Rows
/-! ### an exception is caught -/
section
variable {X : Cx} {pins : List (Addr × Obj)} {σ : St} {H : Hp} {s : Shared}
end
end L2
set_option maxHeartbeats 0
namespace L2
open PySem PySem.Spec PyProof.Rows
section
variable {X : Cx} {c : Expr} {pos : Pos}
end
end L2
namespace M
open PySem PySem.Spec L2
section
variable {K : PySem.W.Frag} {μ : List Addr} {H : Hp} {st : Stor} {dx e : Addr} {od oe : Obj} {fs : List (Str × V)}
end
section
variable {X : Cx} {e : Expr} {es : List Expr} {mA : MA} {pos p p1 p2 p3 p4 p5 p6 : Pos} {x c1 n y : Str} {k : Nat} {f C1 : Addr} {fd : FuncData} {ps : List Str} {F : FD} {dvs : List V} {ds : List Value} {dd : List D} {bst : Stmt} {i : Option Nat} {ie iy : Nat} {ok : String → Bool}
end
end M
set_option maxHeartbeats 0
namespace L2
open PySem PySem.Spec PyProof.Rows PySem.W
/-! ### classes of exceptions, as the fragment has them -/
def nsOkIn (K : Frag) (N : Addr) (no : List Str) (init : Option Value) : Bool := match K.lookup N with
  | some ⟨_, _, .dict es _, _⟩ => es.toList.all (fun e => match e.key with | .str _ _ => true | _ => false) && no.all (fun x => (nsFind es x).isNone) && (match init with | none => true | some v => nsFind es "__init__" == some v)
  | _ => false
def xcIn (K : Frag) (C : Addr) (bm0 : Option (List Value)) (no : List Str) (init : Option Value) : Bool := match K.lookup C with
  | some ⟨.type "type", _, .cls cd, sl⟩ => (match cd.mro, sl.toList with
    | .ref C' :: bm, [_, _, _, _, some (.builtin n), _] => C' == C && !cd.hasDel && (match bm0 with | none => true | some b => cd.hasDict && n == "ValueError.__new__" && bm == b) && nsOkIn K cd.ns no init
    | _, _ => false)
  | _ => false
def fnIn (K : Frag) (f : Addr) : Bool := match K.lookup f with
  | some ⟨.type "function", _, _, _⟩ => true
  | _ => false
def twoIn (K : Frag) (C C1 fI : Addr) : Bool :=
  xcIn K C (some [.ref C1, .type "ValueError", .type "Exception", .type "BaseException", .type "object"]) [("__init__" : Str), "at", "__setattr__", "__getattribute__", "__getattr__", "__class__"] none &&
  xcIn K C1 none [("at" : Str), "__setattr__", "__getattribute__", "__getattr__", "__class__"] (some (.ref fI)) && fnIn K fI
end L2
namespace M
open PySem PySem.Spec L2
def exCls (c : String) : Bool := c == "NoProgram" || c == "NoTree"
def subX (c T : String) : Bool := c == T || T == "OneError" || T == "ValueError"
/-- isinstance(e, C), e a caught exception -/
def isXV (T : String) : D → Stor → R D := fun d st => match d with
  | .loc n => (match st[n]? with
    | some (.exc c _) => if exCls c then .ok (.bl (subX c T)) st else .bad
    | _ => .bad)
  | _ => .bad
/-- the module's exceptions -/
structure ExcK (K : PySem.W.Frag) (C1 fI CP CT : Addr) : Prop where
  nP : PySem.W.nsIn K mainGlobals (("NoProgram" : String) : Str) = some (some (.ref CP))
  nT : PySem.W.nsIn K mainGlobals (("NoTree" : String) : Str) = some (some (.ref CT))
  tP : twoIn K CP C1 fI = true
  tT : twoIn K CT C1 fI = true
  b1 : PySem.W.ktsIn K C1 "BaseException" = true
  kPT : PySem.W.kitOne K (.ref CP) (.ref CT) = some false
  kTP : PySem.W.kitOne K (.ref CT) (.ref CP) = some false
  kPV : PySem.W.kitOne K (.ref CP) (.type "ValueError") = some true
  kTV : PySem.W.kitOne K (.ref CT) (.type "ValueError") = some true
section
variable {K : PySem.W.Frag} {C1 fI CP CT : Addr}
end
section
variable {X : Cx} {e : Expr} {ma : ME} {p p2 pos : Pos} {C1 fI CP CT : Addr}
def rIx (X : Cx) (T : String) (cv : V) : List V → Hp → VK → Prop := fun xs H Q => ∃ μ st d x, xs = [x, cv] ∧ RepS X.K μ H st ∧ RepV X.K μ H d x ∧ Post X μ H (relV X) Q (isXV T d st)
end
end M
namespace L2
open PySem PySem.Spec PyProof.Rows PySem.Calls
section
variable {X : Cx}
end
end L2
namespace M
open PySem PySem.Spec L2
section
variable {X : Cx}
end
end M
namespace M
end M
namespace L2
open PySem PySem.Spec PyProof.Rows
section
variable {X : Cx}
end
end L2
namespace M
open PySem PySem.Spec L2
end M
namespace M
open PySem PySem.Spec L2
/-- a sign not in a text -/
def notInSV : D → D → Stor → R D
  | .str [c], .str cs, st => if cs.length ≤ 1000000 then .ok (.bl (!decide (c ∈ cs))) st else .bad
  | _, _, _ => .bad
theorem op_notInSV {X : Cx} : OpR X (compareOp .NotIn) (rM X notInSV) := by
  refine OpR.weak op_notIn_str ?_
  rintro x y H Q ⟨μ, st, dx, dy, hs, hx, hy, hp⟩
  unfold notInSV at hp
  split at hp
  · rename_i c cs
    split at hp
    · obtain rfl := RepV.str_iff.mp hx
      obtain rfl := RepV.str_iff.mp hy
      refine ⟨_, _, rfl, rfl, ?_⟩
      have e := PySem.StrLaws.found_one (strOf cs) c
      have e2 : (strOf [c]) = ⟨#[c]⟩ := rfl
      rw [e2, e]
      refine hp.ret hs (RepV.bl_iff.mpr ?_)
      simp
    · exact hp.elim
  · exact hp.elim
end M
namespace ST
/-! ### i to 5 i + 1 goes through all places of a table -/
def lf : Nat → Nat → Nat
  | 0, z => z
  | n + 1, z => lf n (5 * z + 1)
theorem lf_add (m n z : Nat) : lf (m + n) z = lf n (lf m z) := by
  induction m generalizing z with
  | zero => simp [lf]
  | succ m ih => rw [Nat.succ_add, lf, ih, lf]
theorem alg (p u z : Nat) : (1 + 4 * p * u) * ((1 + 4 * p * u) * z + p * u) + p * u = (1 + 8 * p * (u * (1 + 2 * p * u))) * z + 2 * p * (u * (1 + 2 * p * u)) := by grind
/-- 2 ^ k turns: how far -/
theorem lf_pow (k : Nat) : ∃ u, u % 2 = 1 ∧ ∀ z, lf (2 ^ k) z = (1 + 2 ^ (k + 2) * u) * z + 2 ^ k * u := by
  induction k with
  | zero => exact ⟨1, rfl, fun z => by simp [lf]⟩
  | succ k ih =>
    obtain ⟨u, hu, h⟩ := ih
    refine ⟨u * (1 + 2 ^ (k + 1) * u), ?_, fun z => ?_⟩
    · rw [Nat.mul_mod, hu]
      have : (1 + 2 ^ (k + 1) * u) % 2 = 1 := by
        rw [Nat.pow_succ, Nat.mul_comm (2 ^ k) 2, Nat.mul_assoc]
        omega
      rw [this]
    · rw [show 2 ^ (k + 1) = 2 ^ k + 2 ^ k by rw [Nat.pow_succ]; omega, lf_add, h, h]
      have e2 : 2 ^ (k + 2) = 4 * 2 ^ k := by rw [Nat.pow_add]; omega
      have e3 : 2 ^ (k + 1 + 2) = 8 * 2 ^ k := by rw [Nat.add_assoc, Nat.pow_add]; omega
      rw [e2, e3, show 2 ^ k + 2 ^ k = 2 * 2 ^ k by omega]
      exact alg _ _ _
theorem alg2 (p v z : Nat) : (1 + 4 * p * (2 * v + 1)) * z + p * (2 * v + 1) = (z + p) + 2 * p * (2 * (2 * v + 1) * z + v) := by grind
/-- 2 ^ k turns on: half of the next table's length on -/
theorem lf_half (k z : Nat) : lf (2 ^ k) z % 2 ^ (k + 1) = (z + 2 ^ k) % 2 ^ (k + 1) := by
  obtain ⟨u, hu, h⟩ := lf_pow k
  obtain ⟨v, rfl⟩ : ∃ v, u = 2 * v + 1 := ⟨u / 2, by omega⟩
  rw [h]
  have e : (1 + 2 ^ (k + 2) * (2 * v + 1)) * z + 2 ^ k * (2 * v + 1) = (z + 2 ^ k) + 2 ^ (k + 1) * (2 * (2 * v + 1) * z + v) := by
    rw [show 2 ^ (k + 2) = 4 * 2 ^ k by rw [Nat.pow_add]; omega, show 2 ^ (k + 1) = 2 * 2 ^ k by rw [Nat.pow_succ]; omega]
    exact alg2 _ _ _
  rw [e, Nat.add_mul_mod_self_left]
/-- every place is come to -/
theorem lf_all (k : Nat) : ∀ x y : Nat, y < 2 ^ k → ∃ n, n < 2 ^ k ∧ lf n x % 2 ^ k = y := by
  induction k with
  | zero => intro x y hy; exact ⟨0, by simp, by simp at hy; simp [lf, hy, Nat.mod_one]⟩
  | succ k ih =>
    intro x y hy
    have hp : 0 < 2 ^ k := Nat.pow_pos (by decide)
    have e2 : 2 ^ (k + 1) = 2 * 2 ^ k := by rw [Nat.pow_succ]; omega
    obtain ⟨n, hn, e⟩ := ih x (y % 2 ^ k) (Nat.mod_lt _ hp)
    generalize hz : lf n x = z at *
    have hz2 : z % 2 ^ (k + 1) = y ∨ (z + 2 ^ k) % 2 ^ (k + 1) = y := by
      have hd : z = 2 ^ (k + 1) * (z / 2 ^ (k + 1)) + z % 2 ^ (k + 1) := (Nat.div_add_mod _ _).symm
      have hr : z % 2 ^ (k + 1) < 2 ^ (k + 1) := Nat.mod_lt _ (Nat.pow_pos (by decide))
      generalize z % 2 ^ (k + 1) = r at *
      generalize z / 2 ^ (k + 1) = d at *
      have hzm : z % 2 ^ k = r % 2 ^ k := by
        rw [hd, e2, Nat.mul_assoc, Nat.mul_comm 2 (2 ^ k * d), Nat.mul_assoc]
        exact Nat.mul_add_mod _ _ _
      rw [hzm] at e
      have hzp : (z + 2 ^ k) % 2 ^ (k + 1) = (r + 2 ^ k) % 2 ^ (k + 1) := by
        rw [hd, Nat.add_assoc]
        exact Nat.mul_add_mod _ _ _
      have hy' : y < 2 * 2 ^ k := by rw [← e2]; exact hy
      have hr' : r < 2 * 2 ^ k := by rw [← e2]; exact hr
      rw [hzp, e2]
      clear hd hzm hzp hy hr hz
      generalize 2 ^ k = p at *
      by_cases h1 : r < p
      · by_cases h2 : y < p
        · left; rw [Nat.mod_eq_of_lt h1, Nat.mod_eq_of_lt h2] at e; exact e
        · right
          have : y % p = y - p := by rw [Nat.mod_eq_sub_mod (by omega), Nat.mod_eq_of_lt (by omega)]
          rw [Nat.mod_eq_of_lt h1, this] at e
          rw [Nat.mod_eq_of_lt (by omega)]; omega
      · have hr2 : r % p = r - p := by rw [Nat.mod_eq_sub_mod (by omega), Nat.mod_eq_of_lt (by omega)]
        by_cases h2 : y < p
        · right
          rw [hr2, Nat.mod_eq_of_lt h2] at e
          rw [Nat.mod_eq_sub_mod (by omega), Nat.mod_eq_of_lt (by omega)]; omega
        · left
          have : y % p = y - p := by rw [Nat.mod_eq_sub_mod (by omega), Nat.mod_eq_of_lt (by omega)]
          rw [hr2, this] at e; omega
    rcases hz2 with h | h
    · exact ⟨n, by omega, by rw [hz]; exact h⟩
    · refine ⟨n + 2 ^ k, by omega, ?_⟩
      rw [lf_add, hz, lf_half]; exact h
end ST
namespace ST
open PySem PySem.SetTable
/-! ### the probing comes to every place -/
def adv (t : SetTable) : Nat → Probe → Probe
  | 0, p => p
  | n + 1, p => adv t n (t.advance p)
theorem adv_add (t : SetTable) (m n : Nat) (p : Probe) : adv t (m + n) p = adv t n (adv t m p) := by
  induction m generalizing p with
  | zero => simp [adv]
  | succ m ih => rw [Nat.succ_add, adv, ih, adv]
/-- at the begin of a run -/
def at0 (t : SetTable) (i pb : Nat) (d : Option Nat) : Probe := { j := i, more := runEnd t.mask i - i, i, perturb := pb, dummy := d }
theorem run_le (mask i : Nat) : runEnd mask i - i ≤ 9 := by unfold runEnd; split <;> omega
theorem adv_run (t : SetTable) (pb : Nat) (d : Option Nat) (i : Nat) : ∀ (m j : Nat), adv t (m + 1) { j := j, more := m, i, perturb := pb, dummy := d } = at0 t (leap t.mask i pb).1 (leap t.mask i pb).2 d
  | 0, j => by
    rw [adv, adv]
    unfold advance
    rw [if_neg (by simp)]
    rfl
  | m + 1, j => by
    rw [adv]
    have : t.advance { j := j, more := m + 1, i, perturb := pb, dummy := d } = { j := j + 1, more := m, i, perturb := pb, dummy := d } := by
      unfold advance
      rw [if_pos (by simp)]
      simp
    rw [this]
    exact adv_run t pb d i m (j + 1)
/-- leaps -/
def lp (mask : Nat) : Nat → Nat × Nat → Nat × Nat
  | 0, x => x
  | n + 1, x => lp mask n (leap mask x.1 x.2)
theorem lp_add (mask m n : Nat) (x : Nat × Nat) : lp mask (m + n) x = lp mask n (lp mask m x) := by
  induction m generalizing x with
  | zero => simp [lp]
  | succ m ih => rw [Nat.succ_add, lp, ih, lp]
theorem adv_leaps (t : SetTable) (d : Option Nat) : ∀ (l i pb : Nat), ∃ n, n ≤ 10 * l ∧ adv t n (at0 t i pb d) = at0 t (lp t.mask l (i, pb)).1 (lp t.mask l (i, pb)).2 d
  | 0, i, pb => ⟨0, by simp, rfl⟩
  | l + 1, i, pb => by
    obtain ⟨n, hn, e⟩ := adv_leaps t d l (leap t.mask i pb).1 (leap t.mask i pb).2
    have h9 := run_le t.mask i
    refine ⟨runEnd t.mask i - i + 1 + n, by omega, ?_⟩
    rw [adv_add]
    have := adv_run t pb d i (runEnd t.mask i - i) i
    rw [show at0 t i pb d = { j := i, more := runEnd t.mask i - i, i, perturb := pb, dummy := d } from rfl, this, e]
    rfl
theorem lp_pert (mask : Nat) : ∀ (n : Nat) (x : Nat × Nat), (lp mask n x).2 = x.2 / 32 ^ n
  | 0, x => by simp [lp]
  | n + 1, x => by
    rw [lp, lp_pert mask n]
    show x.2 / 32 / 32 ^ n = _
    rw [Nat.div_div_eq_div_mul, Nat.pow_succ, Nat.mul_comm]
theorem lp_zero (mask : Nat) (hm : 0 < mask + 1) : ∀ (n i : Nat), i < mask + 1 → (lp mask n (i, 0)).1 = lf n i % (mask + 1)
  | 0, i, h => by simp [lp, lf, Nat.mod_eq_of_lt h]
  | n + 1, i, h => by
    rw [lp]
    show (lp mask n ((i * 5 + 1 + 0 / 32) % (mask + 1), 0 / 32)).1 = _
    rw [Nat.zero_div, Nat.add_zero, lp_zero mask hm n _ (Nat.mod_lt _ hm), lf]
    have : ∀ (n a b : Nat), a % (mask + 1) = b % (mask + 1) → lf n a % (mask + 1) = lf n b % (mask + 1) := by
      intro n
      induction n with
      | zero => intro a b e; exact e
      | succ n ih =>
        intro a b e
        rw [lf, lf]
        refine ih _ _ ?_
        rw [Nat.add_mod, Nat.mul_mod, e, ← Nat.mul_mod, ← Nat.add_mod]
    refine this n _ _ ?_
    rw [Nat.mod_mod, Nat.mul_comm]
theorem leap_lt (mask i pb : Nat) : (leap mask i pb).1 < mask + 1 := Nat.mod_lt _ (Nat.succ_pos _)
/-- every place is a run's begin before the turns are over -/
theorem leaps_all (mask k : Nat) (hk : mask + 1 = 2 ^ k) (i pb e : Nat) (hpb : pb < 2 ^ 64) (he : e ≤ mask) : ∃ l, l ≤ mask + 13 ∧ (lp mask l (i, pb)).1 = e := by
  have hx : (lp mask 13 (i, pb)).2 = 0 := by
    rw [lp_pert]
    exact Nat.div_eq_of_lt (Nat.lt_of_lt_of_le hpb (by decide))
  have hl : (lp mask 13 (i, pb)).1 < mask + 1 := by
    rw [show 13 = 12 + 1 from rfl, lp_add mask 12 1]
    exact leap_lt _ _ _
  obtain ⟨n, hn, hne⟩ := lf_all k (lp mask 13 (i, pb)).1 e (by omega)
  refine ⟨13 + n, by omega, ?_⟩
  rw [lp_add]
  have : lp mask 13 (i, pb) = ((lp mask 13 (i, pb)).1, 0) := by rw [← hx]
  rw [this, lp_zero mask (by omega) n _ hl, hk, hne]
theorem bits_lt (h : Int) : bits h < 2 ^ 64 := by
  unfold bits
  have := Int.emod_lt_of_pos h (show (0 : Int) < 2 ^ 64 by decide)
  have := Int.emod_nonneg h (show (2 ^ 64 : Int) ≠ 0 by decide)
  omega
theorem adv_all (t : SetTable) (k : Nat) (hk : t.mask + 1 = 2 ^ k) (h : Int) (e : Nat) (he : e ≤ t.mask) : ∃ n, n < 10 * turns t.mask ∧ (adv t n (t.probeStart h)).j = e := by
  obtain ⟨l, hl, hle⟩ := leaps_all t.mask k hk (bits h % (t.mask + 1)) (bits h) e (bits_lt h) he
  obtain ⟨n, hn, hne⟩ := adv_leaps t none l (bits h % (t.mask + 1)) (bits h)
  refine ⟨n, by unfold turns; omega, ?_⟩
  rw [show t.probeStart h = at0 t (bits h % (t.mask + 1)) (bits h) none from rfl, hne]
  exact hle
/-! ### what a probing meets -/
theorem adv_dummy (t : SetTable) : ∀ (n : Nat) (p : Probe), (adv t n p).dummy = p.dummy
  | 0, p => rfl
  | n + 1, p => by
    rw [adv, adv_dummy t n]
    unfold advance
    split <;> rfl
/-- no place of it is a dummy's -/
theorem slot_cases (t : SetTable) (hd : t.dummies = #[]) (j : Nat) : t.slot j = .empty ∨ ∃ i, t.slot j = .live i ∧ t.place[i]? = some j := by
  unfold slot
  dsimp only
  split
  · rename_i e
    exact .inr ⟨_, rfl, by simpa using e⟩
  · have : has t.dummies j = false := by rw [hd]; rfl
    rw [this]
    exact .inl rfl
theorem slot_free (t : SetTable) (hd : t.dummies = #[]) (j : Nat) (h : j ∉ t.place) : t.slot j = .empty := by
  rcases slot_cases t hd j with e | ⟨i, _, e⟩
  · exact e
  · exact absurd (Array.mem_of_getElem? e) h
/-- it ends at an empty place, or at one of that hash, and goes on from there -/
theorem go_met (t : SetTable) (hd : t.dummies = #[]) (ha : Nat → Int) (h : Int) : ∀ (fuel n : Nat) (p : Probe), n < fuel → t.slot (adv t n p).j = .empty → p.dummy = none →
    (∃ j, probe.go t ha h fuel p = some (.empty j none) ∧ t.slot j = .empty) ∨
    ∃ m i j, m < n ∧ probe.go t ha h fuel p = some (.candidate j i (adv t (m + 1) p)) ∧ t.slot j = .live i ∧ t.place[i]? = some j ∧ ha i = h
  | 0, n, p, hn, _, _ => by omega
  | fuel + 1, n, p, hn, he, hp => by
    rw [probe.go]
    rcases slot_cases t hd p.j with e | ⟨i, e, e2⟩
    · left
      refine ⟨p.j, ?_, e⟩
      rw [e, hp]
    · rw [e]
      dsimp only
      by_cases hq : (ha i == h) = true
      · rw [if_pos hq]
        right
        refine ⟨0, i, p.j, ?_, rfl, e, e2, by simpa using hq⟩
        rcases Nat.eq_zero_or_pos n with hz | hz
        · subst hz
          have he' : t.slot p.j = .empty := he
          rw [e] at he'; cases he'
        · exact hz
      · rw [if_neg hq]
        cases n with
        | zero =>
          have he' : t.slot p.j = .empty := he
          rw [e] at he'; cases he'
        | succ n =>
          have hd2 : (t.advance p).dummy = none := by
            have := adv_dummy t 1 p
            rw [adv, adv] at this
            rw [this, hp]
          rcases go_met t hd ha h fuel n (t.advance p) (by omega) he hd2 with ⟨j, g, s⟩ | ⟨m, i', j, hm, g, s⟩
          · exact .inl ⟨j, g, s⟩
          · exact .inr ⟨m + 1, i', j, by omega, g, s⟩
/-- there is an empty place -/
theorem free_place (t : SetTable) (hs : t.place.size ≤ t.mask) : ∃ e, e ≤ t.mask ∧ e ∉ t.place := by
  refine Classical.byContradiction fun hno => ?_
  have hall : ∀ e, e ≤ t.mask → e ∈ t.place.toList := fun e he => by
    refine Classical.byContradiction fun hn => hno ⟨e, he, fun hm => hn (by simpa using hm)⟩
  have hsub : (List.range (t.mask + 1)).length ≤ t.place.toList.length := by
    refine List.Nodup.length_le_of_subset (List.nodup_range) fun x hx => hall x ?_
    have := List.mem_range.mp hx; omega
  rw [List.length_range] at hsub
  simp at hsub
  omega
end ST
namespace ST
open PySem PySem.SetTable
/-! ### a table laid anew -/
theorem free_ok (mask : Nat) (owner : Array (Option Nat)) : ∀ (fuel l i pb : Nat), l < fuel → (lp mask l (i, pb)).1 < owner.size → owner.getD (lp mask l (i, pb)).1 (some 0) = none → ∃ j, layClean.free mask owner fuel i pb = some j ∧ j < owner.size ∧ owner[j]? = some none
  | 0, l, i, pb, hl, _, _ => by omega
  | fuel + 1, l, i, pb, hl, h1, h2 => by
    rw [layClean.free]
    cases hf : (List.range (runEnd mask i + 1 - i)).find? fun k => (owner.getD (i + k) (some 0)).isNone with
    | some k =>
      refine ⟨i + k, rfl, ?_⟩
      have := List.find?_some hf
      have hn : owner.getD (i + k) (some 0) = none := by simpa using this
      have hlt : i + k < owner.size := by
        refine Classical.byContradiction fun hge => ?_
        rw [Array.getD_eq_getD_getElem?, Array.getElem?_eq_none (by omega)] at hn
        simp at hn
      refine ⟨hlt, ?_⟩
      rw [Array.getD_eq_getD_getElem?, Array.getElem?_eq_getElem hlt] at hn
      rw [Array.getElem?_eq_getElem hlt]
      simpa using hn
    | none =>
      cases l with
      | zero =>
        have := List.find?_eq_none.mp hf 0 (List.mem_range.mpr (by have : i ≤ runEnd mask i := by unfold runEnd; split <;> omega
                                                                   omega))
        have h2' : owner.getD i (some 0) = none := h2
        rw [Nat.add_zero, h2'] at this
        simp at this
      | succ l =>
        exact free_ok mask owner fuel l (leap mask i pb).1 (leap mask i pb).2 (by omega) h1 h2
/-- how many places are taken -/
def cnt (owner : Array (Option Nat)) : Nat := owner.toList.countP Option.isSome
theorem cnt_set (owner : Array (Option Nat)) (j k : Nat) (hj : owner[j]? = some none) : cnt (owner.setIfInBounds j (some k)) = cnt owner + 1 := by
  unfold cnt
  rw [Array.toList_setIfInBounds]
  have hl : owner.toList[j]? = some none := by simpa using hj
  have hlt : j < owner.toList.length := (List.getElem?_eq_some_iff.mp hl).1
  have he : owner.toList[j] = none := (List.getElem?_eq_some_iff.mp hl).2
  rw [List.countP_set hlt, he]
  simp
theorem none_left (owner : Array (Option Nat)) (h : cnt owner < owner.size) : ∃ e, e < owner.size ∧ owner[e]? = some none := by
  unfold cnt at h
  refine Classical.byContradiction fun hno => ?_
  have hall : ∀ x ∈ owner.toList, x.isSome = true := fun x hx => by
    obtain ⟨i, hi, e⟩ := List.getElem_of_mem hx
    cases x with
    | some y => rfl
    | none => exact absurd ⟨i, by simpa using hi, by simp at hi; rw [Array.getElem?_eq_getElem hi]; simpa using e⟩ hno
  have := List.countP_eq_length.mpr hall
  rw [this] at h
  simp at h
/-- what the laying keeps -/
structure Lay (mask n : Nat) (owner : Array (Option Nat)) : Prop where
  size : owner.size = mask + 1
  cnt_ : cnt owner = n
  lt : ∀ (i : Nat) (v : Nat), owner[i]? = some (some v) → v < n
theorem lay_step (mask k : Nat) (hk : mask + 1 = 2 ^ k) (n : Nat) (hn : n ≤ mask) (owner : Array (Option Nat)) (h : Lay mask n owner) (x : Int) : ∃ j, layClean.free mask owner (turns mask) (bits x % (mask + 1)) (bits x) = some j ∧ Lay mask (n + 1) (owner.setIfInBounds j (some n)) := by
  obtain ⟨e, he, hen⟩ := none_left owner (by rw [h.cnt_, h.size]; omega)
  have he2 : e ≤ mask := by have := h.size; omega
  obtain ⟨l, hl, hle⟩ := leaps_all mask k hk (bits x % (mask + 1)) (bits x) e (bits_lt x) he2
  obtain ⟨j, h1, h2, h3⟩ := free_ok mask owner (turns mask) l (bits x % (mask + 1)) (bits x) (by unfold turns; omega) (by rw [hle]; exact he) (by rw [hle, Array.getD_eq_getD_getElem?, hen]; rfl)
  refine ⟨j, h1, by simpa using h.size, by rw [cnt_set owner j n h3, h.cnt_], fun i v hv => ?_⟩
  rw [Array.getElem?_setIfInBounds] at hv
  split at hv
  · cases hv; omega
  · have := h.lt i v hv; omega
theorem lay_fold (mask k : Nat) (hk : mask + 1 = 2 ^ k) : ∀ (hs : List Int) (owner : Array (Option Nat)) (n : Nat), Lay mask n owner → n + hs.length ≤ mask + 1 →
    ∃ owner', hs.foldl (init := some (owner, n)) (fun acc h => do
      let (owner, k) ← acc
      let j ← layClean.free mask owner (turns mask) (bits h % (mask + 1)) (bits h)
      pure (owner.setIfInBounds j (some k), k + 1)) = some (owner', n + hs.length) ∧ Lay mask (n + hs.length) owner'
  | [], owner, n, h, _ => ⟨owner, rfl, h⟩
  | x :: hs, owner, n, h, hl => by
    obtain ⟨j, h1, h2⟩ := lay_step mask k hk n (by simp at hl; omega) owner h x
    obtain ⟨o, h3, h4⟩ := lay_fold mask k hk hs _ (n + 1) h2 (by simp at hl; omega)
    refine ⟨o, ?_, by rw [List.length_cons, show n + (hs.length + 1) = n + 1 + hs.length by omega]; exact h4⟩
    rw [List.foldl_cons, List.length_cons, show n + (hs.length + 1) = n + 1 + hs.length by omega, ← h3]
    congr 1
    show (do let j ← layClean.free mask owner (turns mask) (bits x % (mask + 1)) (bits x); pure (owner.setIfInBounds j (some n), n + 1)) = _
    rw [h1]; rfl
theorem lay_clean (mask k : Nat) (hk : mask + 1 = 2 ^ k) (hs : Array Int) (hl : hs.size ≤ mask + 1) : ∃ owner, layClean mask hs = some owner ∧ Lay mask hs.size owner := by
  have h0 : Lay mask 0 (Array.replicate (mask + 1) none) := ⟨by simp, by unfold cnt; simp, fun i v hv => by
    rw [Array.getElem?_replicate] at hv
    split at hv <;> cases hv⟩
  obtain ⟨o, h1, h2⟩ := lay_fold mask k hk hs.toList (Array.replicate (mask + 1) none) 0 h0 (by simpa using hl)
  simp only [Nat.zero_add, Array.length_toList] at h1 h2
  refine ⟨o, ?_, h2⟩
  unfold layClean
  rw [← Array.foldl_toList, h1]
  rfl
theorem fm_congr {α β : Type} {f g : α → Option β} : ∀ {l : List α}, (∀ a ∈ l, f a = g a) → l.filterMap f = l.filterMap g
  | [], _ => rfl
  | a :: l, h => by rw [List.filterMap_cons, List.filterMap_cons, h a (by simp), fm_congr fun b hb => h b (by simp [hb])]
/-- the places that are taken, in their order -/
theorem live_len (owner : Array (Option Nat)) (M : Nat) (hM : owner.size = M) : ((List.range M).filterMap fun j => (owner.getD j none).map (j, ·)).length = cnt owner := by
  have e : ∀ (l : List (Option Nat)) (a : Nat), ((List.range' a l.length).filterMap fun j => ((l[j - a]?).getD none).map (j, ·)).length = l.countP Option.isSome := by
    intro l
    induction l with
    | nil => intro a; simp
    | cons x l ih =>
      intro a
      rw [List.length_cons, List.range'_succ, List.filterMap_cons, List.countP_cons]
      have e2 : ((List.range' (a + 1) l.length).filterMap fun j => (((x :: l)[j - a]?).getD none).map (j, ·)) = ((List.range' (a + 1) l.length).filterMap fun j => ((l[j - (a + 1)]?).getD none).map (j, ·)) := by
        refine fm_congr fun j hj => ?_
        have := List.mem_range'_1.mp hj
        rw [show j - a = (j - (a + 1)) + 1 by omega, List.getElem?_cons_succ]
      rw [Nat.sub_self, List.getElem?_cons_zero]
      cases x with
      | none => simp only [Option.getD_some, Option.map_none, Option.isSome_none]; rw [e2, ih]; rfl
      | some v => simp only [Option.getD_some, Option.map_some, Option.isSome_some, List.length_cons]; rw [e2, ih]; rfl
  have := e owner.toList 0
  rw [← List.range_eq_range'] at this
  unfold cnt
  rw [← this, show List.range M = List.range owner.toList.length by rw [Array.length_toList, hM]]
  refine congrArg List.length (fm_congr fun j _ => ?_)
  rw [Array.getD_eq_getD_getElem?, Nat.sub_zero, Array.getElem?_toList]
theorem laid_ok (mask k : Nat) (hk : mask + 1 = 2 ^ k) (f mv : Nat) (led pl : Bool) (hs : Array Int) (hl : hs.size ≤ mask + 1) : ∃ t order, laid mask f mv led pl hs = some (t, order) ∧ t.mask = mask ∧ t.dummies = #[] ∧ t.led = led ∧ t.plain = pl ∧ t.place.size = hs.size ∧ order.size = hs.size ∧ ∀ x ∈ order, x < hs.size := by
  obtain ⟨o, h1, h2⟩ := lay_clean mask k hk hs hl
  have hll := live_len o (mask + 1) h2.size
  rw [h2.cnt_] at hll
  unfold laid
  rw [h1]
  refine ⟨_, _, rfl, rfl, rfl, rfl, rfl, by simpa using hll, by simpa using hll, fun x hx => ?_⟩
  rw [List.mem_toArray] at hx
  obtain ⟨y, hy, rfl⟩ := List.mem_map.mp hx
  obtain ⟨j, _, hj⟩ := List.mem_filterMap.mp hy
  obtain ⟨v, hv, rfl⟩ := Option.map_eq_some_iff.mp hj
  refine h2.lt j v ?_
  rw [Array.getD_eq_getD_getElem?] at hv
  cases hq : o[j]? with
  | none => rw [hq] at hv; cases hv
  | some z => rw [hq] at hv; simp at hv; rw [hv]
theorem filter_size {α : Type} (es : Array α) (order : Array Nat) (h : ∀ x ∈ order, x < es.size) : (order.filterMap (es[·]?)).size = order.size := by
  have : ∀ l : List Nat, (∀ x ∈ l, x < es.size) → (l.filterMap (es[·]?)).length = l.length := by
    intro l
    induction l with
    | nil => intro _; rfl
    | cons a l ih =>
      intro hl
      rw [List.filterMap_cons, Array.getElem?_eq_getElem (hl a (by simp))]
      simp only [List.length_cons]
      rw [ih fun x hx => hl x (by simp [hx])]
  have e := this order.toList fun x hx => h x (by simpa using hx)
  rw [← Array.length_toList, Array.toList_filterMap]
  simpa using e
theorem sizeAbove_ok (n : Nat) (h : n < 100000) : ∃ k, sizeAbove n = 2 ^ k ∧ n < sizeAbove n ∧ sizeAbove n ≤ 200008 := by
  have : ∀ (fuel a : Nat), 2 ^ a ≤ 200008 → (2 ^ a ≤ 8 ∨ 2 ^ a ≤ 2 * n) → 18 ≤ fuel + a → ∃ k, sizeAbove.go n fuel (2 ^ a) = 2 ^ k ∧ n < 2 ^ k ∧ 2 ^ k ≤ 200008 := by
    intro fuel
    induction fuel with
    | zero =>
      intro a h1 h2 h3
      have : 2 ^ 18 ≤ 2 ^ a := Nat.pow_le_pow_right (by decide) (by omega)
      have e : (2 : Nat) ^ 18 = 262144 := by decide
      omega
    | succ fuel ih =>
      intro a h1 h2 h3
      rw [sizeAbove.go]
      by_cases hq : 2 ^ a ≤ n
      · rw [if_pos hq]
        have := ih (a + 1) (by rw [Nat.pow_succ]; omega) (by rw [Nat.pow_succ]; omega) (by omega)
        rw [Nat.pow_succ] at this
        exact this
      · rw [if_neg hq]
        exact ⟨a, rfl, by omega, h1⟩
  obtain ⟨k, h1, h2, h3⟩ := this 64 3 (by decide) (.inl (by decide)) (by omega)
  unfold sizeAbove
  exact ⟨k, h1, by rw [h1]; exact h2, by rw [h1]; exact h3⟩
end ST
namespace ST
open PySem PySem.SetTable
section
variable {prog : Program} {w : World} {K : Type} [DecidableEq K] {knd : KeyKind prog w K} {A : Around} {E : Value → Shared → Prop} {s : Shared}
/-! ### tuples in a set -/
theorem noRef {v : Value} (h : carriedByValue v = true) (n : Nat) : ofAClassStatement n v = pure false := by
  cases v with
  | ref a => simp [carriedByValue] at h
  | _ => cases n <;> rfl
theorem cls_no {ks : List K} {a : Addr} {Q : Bool → Shared → Prop} (hk : IsTupleKey knd s.heap ks a) (h : Q false s) : wpAny (model prog w) A (ofAClassStatement 8 (.ref a)) Q E s := by
  have hT := hk.typeIs
  obtain ⟨ob, its, n, hg, hc, hdt, hi⟩ := hk
  unfold ofAClassStatement
  refine wpAny_bind (wpAny_typeOf hT ?_)
  dsimp only
  refine wpAny_bind (wpAny_pure ?_)
  simp only [Bool.not_true, Bool.false_eq_true, if_false]
  refine wpAny_bind (wpAny_seqItems hg hdt ?_)
  dsimp only
  refine wpAny_bind ?_
  rw [← Array.forIn_toList]
  refine wpAny_forIn_list _ (fun rest r z => r.1 = none ∧ z = s ∧ ∀ v ∈ rest, carriedByValue v = true) _ ?_ ?_ _ _ ⟨rfl, rfl, hi.byValue⟩
  · rintro v rest r z ⟨hr, rfl, hall⟩
    rw [noRef (hall v List.mem_cons_self)]
    refine wpAny_bind (wpAny_pure ?_)
    simp only [Bool.false_eq_true, if_false]
    exact wpAny_pure ⟨rfl, rfl, fun u hu => hall u (List.mem_cons_of_mem _ hu)⟩
  · rintro ⟨r1, r2⟩ z ⟨hr, rfl, _⟩
    simp only at hr
    subst hr
    exact wpAny_pure h
theorem hbv {v : Value} (h : carriedByValue v = true) (n : Nat) : ∃ b, hashByValue n v = pure b := by
  cases v with
  | ref a => simp [carriedByValue] at h
  | _ => cases n <;> exact ⟨_, rfl⟩
theorem hbv_tuple {ks : List K} {a : Addr} {Q : Bool → Shared → Prop} (hk : IsTupleKey knd s.heap ks a) (h : ∀ b, Q b s) : wpAny (model prog w) A (hashByValue 8 (.ref a)) Q E s := by
  have hT := hk.typeIs
  obtain ⟨ob, its, n, hg, hc, hdt, hi⟩ := hk
  unfold hashByValue
  refine wpAny_bind (wpAny_specialOf hT F.slot_tuple_hash.lookup ?_)
  dsimp only
  refine wpAny_bind (wpAny_seqItems hg hdt ?_)
  simp only [Option.getD_some]
  refine wpAny_bind ?_
  rw [← Array.forIn_toList]
  refine wpAny_forIn_list _ (fun rest r z => z = s ∧ ∀ v ∈ rest, carriedByValue v = true) _ ?_ ?_ _ _ ⟨rfl, hi.byValue⟩
  · rintro v rest r z ⟨rfl, hall⟩
    obtain ⟨b, e⟩ := hbv (hall v List.mem_cons_self) 7
    rw [e]
    refine wpAny_bind (wpAny_pure ?_)
    cases b
    · simp only [Bool.not_false, if_true]
      exact wpAny_pure (wpAny_pure (h _))
    · simp only [Bool.not_true, Bool.false_eq_true, if_false]
      exact wpAny_pure ⟨rfl, fun u hu => hall u (List.mem_cons_of_mem _ hu)⟩
  · rintro ⟨r1, r2⟩ z ⟨rfl, _⟩
    cases r1 with
    | none => exact wpAny_pure (h _)
    | some b => exact wpAny_pure (h _)
end
end ST
namespace ST
open PySem PySem.SetTable
section
variable {prog : Program} {w : World} {K : Type} [DecidableEq K] {knd : KeyKind prog w K} {A : Around} {E : Value → Shared → Prop}
/-- a set of tuples, as it lies: none of them is k -/
structure Lies (knd : KeyKind prog w K) (h : Heap) (S : Addr) (o : Obj) (es : Array (Int × Value)) (ep : Nat) (t : SetTable) (kk : Nat) (k : List K) : Prop where
  ho : h.get? S = some o
  hd : o.data = .set es ep t
  fits : t.fits es.size = true
  dm : t.dummies = #[]
  pw : t.mask + 1 = 2 ^ (kk + 3)
  el : ∀ e ∈ es.toList, ∃ ks b, IsTupleKey knd h ks b ∧ e.2 = .ref b ∧ ks ≠ k
theorem could_ok {s : Shared} {a : Addr} {k : List K} {Q : Bool → Shared → Prop} (hk : IsTupleKey knd s.heap k a) (stored : List Value) (hs : ∀ v ∈ stored, ∃ ks b, IsTupleKey knd s.heap ks b ∧ v = .ref b) (h : Q false s) :
    wpAny (model prog w) A (searchCouldBeSeen (.ref a) stored) Q E s := by
  unfold searchCouldBeSeen
  refine wpAny_bind ?_
  refine wpAny_forIn_list _ (fun rest r z => r.1 = none ∧ z = s ∧ ∀ v ∈ rest, ∃ ks b, IsTupleKey knd s.heap ks b ∧ v = .ref b) _ ?_ ?_ _ _ ⟨rfl, rfl, hs⟩
  · rintro v rest r z ⟨hr, rfl, hall⟩
    obtain ⟨ks, b, hb, rfl⟩ := hall v List.mem_cons_self
    have hrest : ∀ u ∈ rest, ∃ ks b, IsTupleKey knd z.heap ks b ∧ u = .ref b := fun u hu => hall u (List.mem_cons_of_mem _ hu)
    dsimp only
    by_cases hab : (a == b) = true
    · rw [if_pos (by rw [hab]; rfl)]
      exact wpAny_pure ⟨rfl, rfl, hrest⟩
    · have hab' : (a == b) = false := by simpa using hab
      rw [if_neg (by rw [hab']; simp [carriedByValue])]
      refine wpAny_bind (wpAny_eqIsQuiet_tuple hk ?_)
      simp only [Bool.not_true, Bool.false_eq_true, if_false]
      refine wpAny_bind (wpAny_eqIsQuiet_tuple hb ?_)
      simp only [Bool.not_true, Bool.false_eq_true, if_false]
      refine wpAny_bind (cls_no hk ?_)
      simp only [Bool.false_eq_true, if_false]
      refine wpAny_bind (cls_no hb ?_)
      simp only [Bool.false_eq_true, if_false]
      exact wpAny_pure ⟨rfl, rfl, hrest⟩
  · rintro ⟨r1, r2⟩ z ⟨hr, rfl, _⟩
    simp only at hr
    subst hr
    exact wpAny_pure h
theorem go_met' (t : SetTable) (hd : t.dummies = #[]) {ha : Nat → Int} {h : Int} {p : Probe} {r : Option Met} (hr : t.probe ha h p = r) (n : Nat) (hn : n < 10 * turns t.mask) (he : t.slot (adv t n p).j = .empty) (hp : p.dummy = none) :
    (∃ j, r = some (.empty j none)) ∨ ∃ m i j, m < n ∧ r = some (.candidate j i (adv t (m + 1) p)) ∧ t.slot j = .live i ∧ t.place[i]? = some j := by
  rcases go_met t hd ha h (10 * turns t.mask) n p hn he hp with ⟨j, g, _⟩ | ⟨m, i, j, h1, g, h2, h3, _⟩
  · exact .inl ⟨j, by rw [← hr]; exact g⟩
  · exact .inr ⟨m, i, j, h1, by rw [← hr]; exact g, h2, h3⟩
theorem search_ok {s : Shared} {S a : Addr} {o : Obj} {es : Array (Int × Value)} {ep : Nat} {t : SetTable} {kk : Nat} {k : List K} {h : Int} {Q : SetFound → Shared → Prop} (L : Lies knd s.heap S o es ep t kk k) (hu : A.units < cLine) (hk : IsTupleKey knd s.heap k a)
    (hQ : ∀ j, Q (.free j false) s) : ∀ (n fuel : Nat) (stand : Option Probe), n < fuel → n < 10 * turns t.mask → t.slot (adv t n (stand.getD (t.probeStart h))).j = .empty → (stand.getD (t.probeStart h)).dummy = none →
    wpAny (model prog w) A (setSearchFrom S (.ref a) h true fuel stand) Q E s := by
  intro n
  induction n using Nat.strongRecOn with
  | ind n ih =>
    intro fuel stand hf hn he hp
    cases fuel with
    | zero => omega
    | succ fuel =>
      unfold setSearchFrom
      refine wpAny_bind (wpAny_setState_of L.ho L.hd L.fits ?_)
      dsimp only
      have gw : t.gaveWay = false := by
        have h1 := L.pw
        have h2 : 2 ^ (kk + 3) = 2 * 2 ^ (kk + 2) := by rw [Nat.pow_succ]; omega
        unfold gaveWay
        have : t.mask % 2 = 1 := by omega
        rw [this]; rfl
      rw [gw]
      simp only [Bool.false_eq_true, if_false]
      generalize hpr : t.probe _ h (stand.getD (t.probeStart h)) = pr
      rcases go_met' t L.dm hpr n hn he hp with ⟨j, rfl⟩ | ⟨m, i, j, hm, rfl, hsl, hpl⟩
      · exact wpAny_pure (hQ j)
      · dsimp only
        have hil : i < es.size := by
          have h1 := L.fits
          have h2 := (Array.getElem?_eq_some_iff.mp hpl).1
          simp only [SetTable.fits, Bool.and_eq_true, beq_iff_eq] at h1
          omega
        obtain ⟨ks, b, hb, hy, hne⟩ := L.el es[i] (by simp)
        cases hled : t.led
        case' false =>
          simp only [Bool.not_false, if_true]
          refine wpAny_bind (could_ok hk _ (fun v hv => ?_) ?_)
          · obtain ⟨e, he2, rfl⟩ := List.mem_map.mp hv
            obtain ⟨ks, b, hb, e2, _⟩ := L.el e (by
              have : e ∈ es.filter fun x => x.1 == h := by simpa using he2
              have := (Array.mem_filter.mp this).1
              simpa using this)
            exact ⟨ks, b, hb, e2⟩
        all_goals
          simp only [Bool.not_true, Bool.false_eq_true, if_false]
          rw [Array.getElem?_eq_getElem hil]
          obtain ⟨hh, y, e⟩ : ∃ hh y, es[i] = (hh, y) := ⟨_, _, rfl⟩
          rw [e] at hy
          have hy : y = .ref b := hy
          subst hy
          rw [e]
          dsimp only
          refine wpAny_bind (wpAny_holding (wpAny_eqBool_tuple hu hb hk ?_))
          rw [decide_eq_false hne]
          refine wpAny_bind (wpAny_setState_of L.ho L.hd L.fits ?_)
          simp only [Bool.and_false, Bool.false_eq_true, if_false]
          have sm : t.sameMemory t.moves t.mask = some true := by unfold sameMemory; rw [if_pos (by simp)]
          rw [sm]
          dsimp only
          rw [if_pos rfl, hsl]
          dsimp only
          rw [Array.getElem?_eq_getElem hil, e]
          dsimp only
          refine wpAny_bind ?_
          unfold isSame
          dsimp only
          rw [if_pos (by simp)]
          refine wpAny_pure (wpAny_bind (wpAny_pure ?_))
          rw [if_pos rfl]
          dsimp only
          refine ih (n - (m + 1)) (by omega) fuel _ (by omega) (by omega) ?_ ?_
          · show t.slot (adv t (n - (m + 1)) (adv t (m + 1) (stand.getD (t.probeStart h)))).j = .empty
            rw [← adv_add, show m + 1 + (n - (m + 1)) = n by omega]; exact he
          · show (adv t (m + 1) (stand.getD (t.probeStart h))).dummy = none
            rw [adv_dummy]; exact hp
end
end ST
namespace ST
open PySem PySem.SetTable
section
variable {prog : Program} {w : World} {K : Type} [DecidableEq K] {knd : KeyKind prog w K} {A : Around} {E : Value → Shared → Prop}
/-- n tuples lie in a set, all of these keys -/
def Has (h : Heap) (S : Addr) (n : Nat) (bl : List Addr) : Prop :=
  ∃ o es ep t kk, h.get? S = some o ∧ o.ExactSet ∧ o.data = .set es ep t ∧ t.fits es.size = true ∧ t.dummies = #[] ∧ t.mask + 1 = 2 ^ (kk + 3) ∧ es.size * 5 < t.mask * 3 ∧ t.mask ≤ 8191 ∧ es.size = n ∧
    ∀ e ∈ es.toList, ∃ b, b ∈ bl ∧ e.2 = .ref b
theorem insertAt_size {α : Type} (xs : Array α) (p : Nat) (x : α) : (insertAt xs p x).size = xs.size + 1 := by
  have := (SetTable.insertAt_perm xs p x).length_eq
  simpa using this
/-- one more -/
theorem add_new {s : Shared} {S a : Addr} {n : Nat} {bl : List Addr} {k : List K} {h : Int} {Q : Bool → Shared → Prop} (H : Has s.heap S n bl) (hn : n ≤ 900) (hu : A.units < cLine) (hk : IsTupleKey knd s.heap k a) (hbl : ∀ b ∈ bl, ∃ k', IsTupleKey knd s.heap k' b ∧ k' ≠ k)
    (hQ : ∀ h', Heap.SameBut S s.heap h' → Has h' S (n + 1) (a :: bl) → Q true { s with heap := h' }) :
    wpAny (model prog w) A (setAddHashed S (.ref a) h) Q E s := by
  obtain ⟨o, es, ep, t, kk, ho, hex, hd, hf, hdm, hpw, hrm, hml, hsz, hel⟩ := H
  have hm1 := hml
  have L : Lies knd s.heap S o es ep t kk k := ⟨ho, hd, hf, hdm, hpw, fun e he => by
    obtain ⟨b, h1, h3⟩ := hel e he
    obtain ⟨k', h4, h5⟩ := hbl b h1
    exact ⟨k', b, h4, h3, h5⟩⟩
  have hfp : t.place.size = es.size := by
    simp only [SetTable.fits, Bool.and_eq_true, beq_iff_eq] at hf
    exact hf.1
  obtain ⟨e0, he0, hne0⟩ := free_place t (by omega)
  obtain ⟨m, hm2, hme⟩ := adv_all t (kk + 3) hpw h e0 he0
  unfold setAddHashed setAddHashedIn
  refine wpAny_holding (wpAny_bind (wpAny_setState_of ho hd hf ?_))
  dsimp only
  have nb : byScan (.ref a) es = false := rfl
  rw [nb]
  simp only [Bool.false_eq_true, if_false]
  unfold setSearch
  refine wpAny_bind (search_ok (h := h) L hu hk (fun j => ?_) m 100000 none (by unfold turns at hm2; omega) hm2 (by show t.slot (adv t m (t.probeStart h)).j = .empty; rw [hme]; exact slot_free t hdm e0 hne0) rfl)
  dsimp only
  refine wpAny_bind (wpAny_setState_of ho hd hf ?_)
  dsimp only
  have hput : (t.put j).1.dummies = #[] ∧ (t.put j).1.mask = t.mask ∧ (t.put j).1.place.size = es.size + 1 := by
    unfold put
    refine ⟨?_, rfl, by rw [← hfp]; exact insertAt_size _ _ _⟩
    dsimp only
    rw [hdm]; rfl
  obtain ⟨p1, p2, p3⟩ := hput
  generalize hT : (t.put j).1 = T1 at *
  generalize hP : (t.put j).2 = P at *
  have tail : ∀ T : SetTable, T.dummies = #[] → T.mask = t.mask → T.place.size = es.size + 1 → wpAny (model prog w) A (do
      storeSet S (insertAt es P (h, .ref a)) T
      if (!false && T.tooFull) = true then setRelay S (grown (es.size + 1)) else pure ()
      pure true) Q E s := fun T q1 q2 q3 => by
    have his : (insertAt es P (h, Value.ref a)).size = es.size + 1 := insertAt_size _ _ _
    have hmem : ∀ e ∈ (insertAt es P (h, Value.ref a)).toList, e = (h, .ref a) ∨ e ∈ es.toList := fun e he => by
      have := (SetTable.insertAt_perm es P (h, Value.ref a)).mem_iff.mp he
      simp only [Array.toList_push, List.mem_append, List.mem_singleton] at this
      exact this.symm
    generalize insertAt es P (h, Value.ref a) = es1 at *
    have Tf : T.fits es1.size = true := by
      simp only [SetTable.fits, fill, q1, q2, q3, his, Bool.and_eq_true, beq_iff_eq, decide_eq_true_eq]
      exact ⟨trivial, by simp; omega⟩
    refine wpAny_bind (wpAny_storeSet_of ho hd ?_ (by rw [his, sizeLine_eq]; omega))
    have hsb := Heap.SameBut.update s.heap S (Obj.putSet es1 T)
    have hg : (s.heap.update S (Obj.putSet es1 T)).get? S = some { o with data := .set es1 (ep + 1) T } := by
      have := Heap.get?_update_self (Obj.putSet es1 T) ho (by rw [putSet_of es1 T hd]; rfl)
      rw [putSet_of es1 T hd] at this; exact this
    have hel1 : ∀ e ∈ es1.toList, ∃ b, b ∈ a :: bl ∧ e.2 = .ref b := fun e he => by
      rcases hmem e he with rfl | he
      · exact ⟨a, by simp, rfl⟩
      · obtain ⟨b, h1, h3⟩ := hel e he
        exact ⟨b, by simp [h1], h3⟩
    cases htf : T.tooFull with
    | false =>
      simp only [Bool.not_false, Bool.and_false, Bool.false_eq_true, if_false]
      refine wpAny_bind (wpAny_pure (wpAny_pure (hQ _ hsb ⟨_, es1, ep + 1, T, kk, hg, hex, rfl, Tf, q1, by rw [q2]; exact hpw, ?_, by rw [q2]; exact hml, by rw [his, hsz], hel1⟩)))
      · unfold tooFull fill at htf
        rw [q1, q3, q2] at htf
        have htf' : ¬ ((es.size + 1 + (#[] : Array Nat).size) * 5 ≥ t.mask * 3) := by simpa using htf
        rw [his, q2]
        simp at htf'
        omega
    | true =>
      simp only [Bool.not_false, Bool.and_true, if_true]
      refine wpAny_bind ?_
      unfold setRelay
      refine wpAny_bind (wpAny_setState_of (s := { s with heap := s.heap.update S (Obj.putSet es1 T) }) hg rfl Tf ?_)
      dsimp only
      have hgr : grown (es.size + 1) = (es.size + 1) * 4 := by unfold grown; rw [if_neg (by omega)]
      rw [hgr]
      obtain ⟨kq, k1, k2, k3⟩ := sizeAbove_ok ((es.size + 1) * 4) (by omega)
      obtain ⟨k4, rfl⟩ : ∃ k4, kq = k4 + 3 := by
        rcases Nat.lt_or_ge kq 3 with hlt | hge
        · have : 2 ^ kq ≤ 2 ^ 2 := Nat.pow_le_pow_right (by decide) (by omega)
          rw [k1] at k2; omega
        · exact ⟨kq - 3, by omega⟩
      have k5 : sizeAbove ((es.size + 1) * 4) ≤ 8192 := by
        have : ∀ (fuel a : Nat), 2 ^ a ≤ 8192 → (es.size + 1) * 4 < 4096 → sizeAbove.go ((es.size + 1) * 4) fuel (2 ^ a) ≤ 8192 := by
          intro fuel
          induction fuel with
          | zero => intro a h1 _; exact h1
          | succ fuel ih =>
            intro a h1 h2
            rw [sizeAbove.go]
            split
            · have := ih (a + 1) (by rw [Nat.pow_succ]; omega) h2
              rw [Nat.pow_succ] at this; exact this
            · exact h1
        exact this 64 3 (by decide) (by omega)
      rw [if_neg (by rw [sizeLine_eq]; omega)]
      obtain ⟨t', order, l1, l2, l3, l4, l5, l6, l7, l8⟩ := laid_ok (sizeAbove ((es.size + 1) * 4) - 1) (k4 + 3) (by omega) T.finger (T.movedTo (sizeAbove ((es.size + 1) * 4) - 1)) T.led T.plain (es1.map (·.1)) (by simp; omega)
      have hrl : T.relaid (es1.map (·.1)) ((es.size + 1) * 4) = some (t', order) := l1
      rw [hrl]
      have hos : (order.filterMap (es1[·]?)).size = es1.size := by
        rw [filter_size es1 order (fun x hx => by have := l8 x hx; simpa using this), l7]; simp
      have hom : ∀ e ∈ (order.filterMap (es1[·]?)).toList, e ∈ es1.toList := fun e he => by
        rw [Array.toList_filterMap] at he
        obtain ⟨x, _, hx⟩ := List.mem_filterMap.mp he
        have := Array.mem_of_getElem? hx
        simpa using this
      refine wpAny_bind ?_
      show wpAny _ _ (if (order.filterMap (es1[·]?)).size != es1.size then unsupported _ >>= _ else pure (order.filterMap (es1[·]?), t')) _ _ _
      rw [if_neg (by rw [hos]; simp)]
      refine wpAny_pure ?_
      dsimp only
      generalize order.filterMap (es1[·]?) = es2 at *
      have es2s : es2.size = es.size + 1 := by rw [hos, his]
      have l6' : t'.place.size = es.size + 1 := by rw [l6]; simp [his]
      have hsb2 := hsb.trans (Heap.SameBut.update (s.heap.update S (Obj.putSet es1 T)) S (Obj.putSet es2 t'))
      have hg2 : ((s.heap.update S (Obj.putSet es1 T)).update S (Obj.putSet es2 t')).get? S = some { o with data := .set es2 (ep + 1 + 1) t' } := by
        have := Heap.get?_update_self (Obj.putSet es2 t') hg (by rw [putSet_of es2 t' rfl]; rfl)
        rw [putSet_of es2 t' rfl] at this; exact this
      have hel2 : ∀ e ∈ es2.toList, ∃ b, b ∈ a :: bl ∧ e.2 = .ref b := fun e he => hel1 e (hom e he)
      refine wpAny_storeSet_of (s := { s with heap := s.heap.update S (Obj.putSet es1 T) }) hg rfl ?_ (by rw [es2s, sizeLine_eq]; omega)
      refine wpAny_pure (hQ _ hsb2 ⟨_, es2, ep + 1 + 1, t', k4, hg2, hex, rfl, ?_, l3, by rw [l2]; omega, by rw [es2s, l2]; omega, by rw [l2]; omega, by rw [es2s, hsz], hel2⟩)
      simp only [SetTable.fits, fill, l3, l2, l6', es2s, Bool.and_eq_true, beq_iff_eq, decide_eq_true_eq]
      exact ⟨trivial, by simp; omega⟩
  cases hpl : T1.plain with
  | true =>
    rw [if_pos rfl]
    refine wpAny_bind (hbv_tuple hk fun b => ?_)
    cases b
    · exact tail { T1 with plain := false } p1 p2 p3
    · exact tail T1 p1 p2 p3
  | false =>
    rw [if_neg (by simp)]
    refine wpAny_bind (wpAny_pure ?_)
    exact tail T1 p1 p2 p3
end
end ST
namespace ST
open PySem PySem.SetTable
section
variable {prog : Program} {w : World} {K : Type} [DecidableEq K] {knd : KeyKind prog w K}
/-- tuples stay where nothing else is put -/
theorem key_kept {h h' : Heap} {ks : List K} {a : Addr} (x : IsTupleKey knd h ks a) (hk : ∀ o, h.get? a = some o → h'.get? a = some o) : IsTupleKey knd h' ks a := by
  obtain ⟨ob, its, n, hg, hc, hdt, hi⟩ := x
  exact ⟨ob, its, n, hk _ hg, hc, hdt, hi⟩
theorem Has.at' {h h' : Heap} {S : Addr} {n : Nat} {bl : List Addr} (H : Has h S n bl) (hS : ∀ o, h.get? S = some o → h'.get? S = some o) : Has h' S n bl := by
  obtain ⟨o, es, ep, t, kk, h1, h2⟩ := H
  exact ⟨o, es, ep, t, kk, hS _ h1, h2⟩
theorem Has.more {h : Heap} {S : Addr} {n : Nat} {bl bl' : List Addr} (H : Has h S n bl) (hs : ∀ b ∈ bl, b ∈ bl') : Has h S n bl' := by
  obtain ⟨o, es, ep, t, kk, h1, h2, h3, h4, h5, h6, h7, h8, h9, h10⟩ := H
  exact ⟨o, es, ep, t, kk, h1, h2, h3, h4, h5, h6, h7, h8, h9, fun e he => by
    obtain ⟨b, q1, q3⟩ := h10 e he
    exact ⟨b, hs b q1, q3⟩⟩
variable {G : Around} {R : Result → Shared → Prop} {it : Addr} {fp wr : List Addr} {n : Nat} {P : Nat → Value → Prop} {Sx : Nat → Heap → Prop}
/-- all of a list are put in, unlike tuples -/
theorem upd_go (V : Walks prog w G.in1 it fp wr n P Sx) (S : Addr) (hS : S ∉ fp) (kf : Nat → List K) (bs : Nat → Addr) (hP : ∀ i v, P i v → v = .ref (bs i)) (hn : n ≤ 900) (hu : G.in1.units < cLine) (hd : ∀ i j, i < j → j < n → kf i ≠ kf j) (hb : ∀ i, i < n → bs i ∉ wr ∧ bs i ≠ S) (left : Nat) :
    ∀ (j : Nat) (z : Shared), n = j + left → Sx j z.heap → Has z.heap S j ((List.range j).map bs) → (∀ i, i < n → IsTupleKey knd z.heap (kf i) (bs i)) →
    (∀ g tk, (∀ b o, b ∉ wr → b ≠ S → z.heap.get? b = some o → g.get? b = some o) → Has g S n ((List.range n).map bs) → R (.ok (.ret .none)) { z with heap := g, toks := tk }) →
    codeAny (model prog w) G (.builtin "set.update.loop" ⟨[.ref S, .ref it], []⟩) R z := by
  have nS : S ∉ wr := fun q => hS (V.sub _ q)
  induction left with
  | zero =>
    intro j z hj hs H hk done
    obtain rfl : n = j := by omega
    refine codeAny_builtin PyProof.Rows.F.entry_set_update_loop ?_
    rw [Around.under_plainId PyProof.Rows.F.plain_set_update_loop _]
    show wpAny _ G.in1 (pyNext (.ref it) >>= _) _ _ z
    refine wpAny_bind (V.done z _ _ hs fun g tk kp => ?_)
    show wpAny _ G.in1 (ret Value.none) _ _ _
    exact wpAny_pure (done g tk (fun b o h1 _ e => kp b o h1 e) (H.at' fun o e => kp S o nS e))
  | succ left ih =>
    intro j z hj hs H hk done
    have hjn : j < n := by omega
    refine codeAny_builtin PyProof.Rows.F.entry_set_update_loop ?_
    rw [Around.under_plainId PyProof.Rows.F.plain_set_update_loop _]
    show wpAny _ G.in1 (pyNext (.ref it) >>= _) _ _ z
    refine wpAny_bind (V.item j z _ _ hjn hs fun v g tk hv hs2 kp => ?_)
    obtain rfl := hP j v hv
    have hk1 : ∀ i, i < n → IsTupleKey knd g (kf i) (bs i) := fun i hi => key_kept (hk i hi) fun o e => kp (bs i) o (hb i hi).1 e
    have H1 : Has g S j ((List.range j).map bs) := H.at' fun o e => kp S o nS e
    show wpAny _ G.in1 (holding [Value.ref (bs j)] (setAdd S (.ref (bs j))) >>= _) _ _ _
    refine wpAny_bind (wpAny_holding ?_)
    unfold setAdd
    refine wpAny_holding (wpAny_bind (wpAny_pyHash_tuple (knd := knd) hu (hk1 j hjn) ?_))
    refine add_new (knd := knd) (k := kf j) (s := { z with heap := g, toks := tk + ((kf j).length + 1) }) H1 (by omega) hu (hk1 j hjn) (fun b hbm => ?_) fun g2 sb H2 => ?_
    · obtain ⟨i, hi, rfl⟩ := List.mem_map.mp hbm
      have hij := List.mem_range.mp hi
      exact ⟨kf i, hk1 i (by omega), hd i j hij hjn⟩
    · refine wpAny_pure ⟨plainId_quiet PyProof.Rows.F.plain_set_update_loop _, ih (j + 1) _ (by omega) (V.frame _ _ _ hs2 fun b hf o e => ?_) (H2.more fun b hbm => ?_) (fun i hi => key_kept (hk1 i hi) fun o e => ?_) fun g3 tk3 kp3 H3 => ?_⟩
      · rw [sb.2 b (fun q => hS (q ▸ hf))]; exact e
      · rw [List.range_succ, List.map_append]
        rcases List.mem_cons.mp hbm with rfl | hbm
        · simp
        · exact List.mem_append_left _ hbm
      · rw [sb.2 (bs i) (hb i hi).2]; exact e
      · refine done g3 tk3 (fun b o h1 h2 e => kp3 b o h1 h2 ?_) H3
        show g2.get? b = some o
        rw [sb.2 b h2]; exact kp b o h1 e
end
end ST
namespace ST
open PySem PySem.SetTable
section
variable {prog : Program} {w : World} {K : Type} [DecidableEq K] {knd : KeyKind prog w K} {G : Around} {E : Value → Shared → Prop} {z : Shared}
abbrev newO (led : Bool) : Obj := { cls := .type "set", dict := none, data := .set #[] 0 (.fresh 0 0 led) }
theorem has0 (h : Heap) (S : Addr) (led : Bool) (e : h.get? S = some (newO led)) : Has h S 0 [] := by
  refine ⟨_, #[], 0, .fresh 0 0 led, 0, e, ⟨rfl, rfl, rfl⟩, rfl, ?_, rfl, rfl, by cases led <;> decide, by cases led <;> decide, rfl, by simp⟩
  cases led <;> rfl
set_option maxHeartbeats 3200000 in
/-- set(l), l a list of unlike tuples -/
theorem set_of {l : Addr} {items : Array Value} {Q : Value → Shared → Prop} (kf : Nat → List K) (bs : Nat → Addr) (hh : G.handled = none) (hu : G.in1.in1.in1.units < cLine) (hl : z.heap.IsList l items) (hi : ∀ (i : Nat) (v : Value), items[i]? = some v → v = .ref (bs i)) (hn : items.size ≤ 900)
    (hk : ∀ i, i < items.size → IsTupleKey knd z.heap (kf i) (bs i)) (hd : ∀ i j, i < j → j < items.size → kf i ≠ kf j)
    (h : ∀ (g : Heap) (tk : Nat), (∃ bl, Has g z.heap.objs.size items.size bl) → (∀ b o, b < z.heap.objs.size → z.heap.get? b = some o → g.get? b = some o) → Q (.ref z.heap.objs.size) { z with heap := g, toks := tk }) :
    wpAny (model prog w) G (call (.type "set") [.ref l]) Q E z := by
  obtain ⟨m1, m2, hmro⟩ := F.called_set.mro
  have hmade := F.called_set.made; have hsub := F.called_set.sub
  refine wpAny_call (codeAny_of_tree (?_ : wpAny _ _ (callAny (.type "set") _) _ _ _))
  refine wpAny_pure ⟨Code.quiet_builtin _ (by decide +kernel), codeAny_builtin F.entry_type_call ?_⟩
  rw [Around.under_plain (weight_type_call_type "set" [.ref l] []) rfl]
  have n1 := F.called_set.notType; have n2 := F.called_set.canCreate; have n3 := F.typeCall_set_1 (.ref l)
  repeat (any_goals first | assumption | wp_step)
  refine codeAny_mono (code_set_new_1 (.ref l) (E := E) (Q₁ := fun v y => ∃ led : Bool, v = .ref z.heap.objs.size ∧ y = { z with heap := z.heap.push (newO led) }) fun led => ⟨led, rfl, rfl⟩) fun r y hr => ?_
  match r, hr with
  | .error e, hr => exact hr
  | .ok (.ret v), hr =>
    obtain ⟨led, rfl, rfl⟩ := hr
    have gS : (z.heap.push (newO led)).get? z.heap.objs.size = some (newO led) := Heap.get?_push_size _ rfl
    have tS : Shared.TypeIs { z with heap := z.heap.push (newO led) } (.ref z.heap.objs.size) "set" := ⟨_, gS, rfl⟩
    have i1 := F.called_set.init.lookup; have i2 := F.called_set.init.bind (.ref z.heap.objs.size)
    repeat (any_goals first | assumption | wp_step)
    refine codeAny_mono (codeAny_call_builtin (R := wants (fun r y2 => r = .none ∧ ∃ g tk, y2 = { z with heap := g, toks := tk } ∧ (∃ bl, Has g z.heap.objs.size items.size bl) ∧ (∀ b o, b < z.heap.objs.size → z.heap.get? b = some o → g.get? b = some o)) E) F.called_set.init.plain F.entry_set_init (check_set_init_1 tS ?_)) fun r2 y2 hr2 => ?_
    · obtain ⟨ol, hol, hcl, nl, hdl⟩ := id hl
      obtain ⟨ocls, odict, odata, oslots⟩ := ol
      simp only at hcl hdl
      subst hcl hdl
      have hol2 : (z.heap.push (newO led)).get? l = some { cls := .type "list", dict := odict, data := .seq items nl, slots := oslots } := Heap.get?_push_of_some _ hol
      have u1 := F.sub_list_set; have u2 := F.sub_list_frozenset
      have u3 : (Value.type "list" == Value.type "dict") = false := by decide
      have il : (z.heap.push (newO led)).IsList l items := ⟨_, hol2, rfl, nl, rfl⟩
      unfold Builtin.«set.__init__» noKeywords Builtin.Frozenset.updateFrom
      generalize hIT : pyIter = IT
      wp_walk
      subst hIT
      refine wpAny_pyIter_list il (wpAny_bind (wpAny_runValue ?_))
      have lS : l < z.heap.objs.size := Heap.lt_size hol
      have sz : (z.heap.push (newO led)).objs.size = z.heap.objs.size + 1 := Heap.size_push ..
      have w1 : l ≠ (z.heap.push (newO led)).objs.size := Nat.ne_of_lt (by rw [sz]; exact Nat.lt_succ_of_lt lS)
      have w2 : z.heap.objs.size ∉ [(z.heap.push (newO led)).objs.size, l] := fun hm => by
        rcases List.mem_cons.mp hm with e | hm
        · rw [sz] at e; exact Nat.ne_of_lt (Nat.lt_succ_self _) e
        · have e := List.mem_singleton.mp hm
          exact Nat.lt_irrefl _ (Nat.lt_of_lt_of_le lS (Nat.le_of_eq e))
      have w3 : ∀ b : Addr, b < z.heap.objs.size → b ∉ [(z.heap.push (newO led)).objs.size] := fun b hb hm => by
        have e := List.mem_singleton.mp hm
        rw [sz] at e
        exact absurd (Nat.le_of_eq e.symm) (Nat.not_le_of_lt (Nat.lt_succ_of_lt hb))
      have V := Walks.list (prog := prog) (w := w) (A := G.in1.in1.in1) (by simp [hh]) _ l w1 items
      refine upd_go (knd := knd) V z.heap.objs.size w2 kf bs (fun i v hv => hi i v hv) hn hu hd (fun i hi2 => ?_) (items.size - 0) 0 _ (by omega) ⟨⟨_, Heap.get?_push_size _ rfl, rfl, rfl⟩, il.push _⟩ ?_ (fun i hi2 => ?_) fun g tk kp H => ?_
      · obtain ⟨ob, its, n, hg, _⟩ := hk i hi2
        exact ⟨w3 _ (Heap.lt_size hg), Nat.ne_of_lt (Heap.lt_size hg)⟩
      · exact has0 _ _ led (Heap.get?_push_of_some _ gS)
      · exact key_kept (hk i hi2) fun o e => Heap.get?_push_of_some _ (Heap.get?_push_of_some _ e)
      · refine wpAny_pure (?_ : wpAny _ _ (ret Value.none) _ _ _)
        refine wpAny_pure ⟨rfl, g, tk, rfl, ⟨_, H⟩, fun b o hb e => kp b o (w3 b hb) (Nat.ne_of_lt hb) (Heap.get?_push_of_some _ (Heap.get?_push_of_some _ e))⟩
    · match r2, hr2 with
      | .error e, hr2 => exact hr2
      | .ok (.ret v), hr2 =>
        obtain ⟨rfl, g, tk, rfl, q1, q2⟩ := hr2
        repeat (any_goals first | assumption | wp_step)
        exact h _ _ q1 q2
      | .ok .next, hr2 => exact hr2.elim
      | .ok .brk, hr2 => exact hr2.elim
      | .ok .cont, hr2 => exact hr2.elim
  | .ok .next, hr => exact hr.elim
  | .ok .brk, hr => exact hr.elim
  | .ok .cont, hr => exact hr.elim
end
end ST
namespace L2
open PySem PySem.Spec PyProof.Rows
section
variable {X : Cx} {x y : Str} {p pos p2 pos2 : Pos} {e : Expr} {te : TE}
/-- a list of unlike tuples of ints and texts -/
def rLS (X : Cx) : V → Hp → VK → Prop := fun v H Q => ∃ (a : Addr) (bs : List Addr) (kl : List (List Key)), v = .ref a ∧ SqL X.K H a (bs.map V.ref) ∧ bs.length = kl.length ∧ (∀ (i : Nat) (b : Addr) (k : List Key), bs[i]? = some b → kl[i]? = some k → H b = some (.tup (k.map kV))) ∧ kl.Nodup ∧ kl.length ≤ 900 ∧ Q (.int (kl.length : Nat)) H
theorem vals_refs : ∀ {bs : List Addr} {its : List Value}, Vals (bs.map V.ref) its → its = bs.map Value.ref
  | [], its, h => by cases h; rfl
  | b :: bs, its, h => by
    cases h with
    | cons r1 r2 =>
      cases (show _ = Value.ref b from r1)
      rw [vals_refs r2]; rfl
theorem pe_lenset (hc : X.A.handled = none) (hu : X.A.units + 5 < cLine) (hg : Gl X x) (hm : X.mg x = none) (hv : bootBuiltins x = some (.builtin "len")) (hg2 : Gl X y) (hm2 : X.mg y = none) (hv2 : bootBuiltins y = some (.type "set")) (ha : PE X e te)
    (hn : x ≠ "__name__" := by decide) (hdb : (x == ("__debug__" : Str)) = false := by decide) (hn2 : y ≠ "__name__" := by decide) (hdb2 : (y == ("__debug__" : Str)) = false := by decide)
    (hs : starEach [e] X.env = [(false, eval e X.env)] := by rfl) (hs2 : starEach [.Call (.Name y p2) [e] [] pos2] X.env = [(false, eval (.Call (.Name y p2) [e] [] pos2) X.env)] := by rfl) :
    PE X (.Call (.Name x p) [.Call (.Name y p2) [e] [] pos2] [] pos) (tUn (rLS X) te) := by
  intro pins s σ H Q I h
  refine wpAny_Call_Name_kw (ld_blt I hg hm hv ?_ hn hdb)
  refine PyProof.Rows.callWith_builtin1 (e := .Call (.Name y p2) [e] [] pos2) (rest := []) ?_ (by rw [hs2]; rfl) rfl
  rw [hs2]
  show wpAny _ _ (spliced ((false, eval (.Call (.Name y p2) [e] [] pos2) X.env) :: backTo pos [])) _ _ s
  refine Calls.spliced_cons (wpAny_Call_Name_kw (ld_blt I hg2 hm2 hv2 ?_ hn2 hdb2))
  refine PyProof.Rows.callWith_type1 (e := e) (rest := []) ?_ (by rw [hs]; rfl) rfl
  rw [hs]
  show wpAny _ _ (spliced ((false, eval e X.env) :: backTo pos2 [])) _ _ s
  refine Calls.spliced_cons (thn (ha pins s σ H _ I h) fun u s1 ⟨v, H1, I1, r1, q1⟩ => ?_)
  refine wpAny_pure ?_
  obtain ⟨a, bs, kl, rfl, hq, hbl, hH, hnd, hle, hfin⟩ := q1
  cases (show u = Value.ref a from r1)
  obtain ⟨its, rv, pl, hz⟩ := I1.list hq
  have hl : s1.heap.IsList a its.toArray := pl.isList
  have hits := vals_refs rv
  have hlen : its.length = kl.length := by rw [hits, List.length_map, hbl]
  refine ST.set_of (knd := mixKind X.prog X.w) (fun i => kl.getD i []) (fun i => bs.getD i 0) hc (by show X.A.in1.in1.in1.units < cLine; simp only [Around.in1]; omega) hl (fun i v hv => ?_) (by rw [List.size_toArray]; omega) (fun i hi => ?_) (fun i j hij hj => ?_) fun g tk hHas kp => ?_
  · have : its[i]? = some v := by simpa using hv
    rw [hits, List.getElem?_map] at this
    obtain ⟨b, hb, rfl⟩ := Option.map_eq_some_iff.mp this
    simp [List.getD, hb]
  · rw [List.size_toArray] at hi
    have hib : i < bs.length := by omega
    have hik : i < kl.length := by omega
    have := hH i bs[i] kl[i] (List.getElem?_eq_getElem hib) (List.getElem?_eq_getElem hik)
    have q := key_of I1.hok this
    have e1 : kl.getD i [] = kl[i] := by simp [List.getD, hik]
    have e2 : bs.getD i 0 = bs[i] := by simp [List.getD, hib]
    show IsTupleKey (mixKind X.prog X.w) s1.heap (kl.getD i []) (bs.getD i 0)
    rw [e1, e2]; exact q
  · rw [List.size_toArray] at hj
    have hjk : j < kl.length := by omega
    have hik : i < kl.length := by omega
    intro z
    have e1 : kl.getD i [] = kl[i] := by simp [List.getD, hik]
    have e2 : kl.getD j [] = kl[j] := by simp [List.getD, hjk]
    have z2 : kl[i] = kl[j] := by rw [← e1, ← e2]; exact z
    exact (List.pairwise_iff_getElem.mp hnd) i j hik hjk hij z2
  · refine wpAny_pure ?_
    obtain ⟨bl, o, es, ep, t, kk, g1, g2, g3, g4, g5, g6, g7, g8, g9, g10⟩ := hHas
    have g9 : es.size = kl.length := by rw [g9]; simpa using hlen
    have keep : ∀ b ob, s1.heap.get? b = some ob → g.get? b = some ob := fun b ob e => kp b ob (Heap.lt_size e) e
    refine call_len_set g1 g2 g3 g4 (by rw [g9]; omega) ?_
    rw [g9]
    exact ⟨.int (kl.length : Nat), H1, I1.kept keep, ⟨_, rfl⟩, hfin⟩
end
end L2
namespace M
open PySem PySem.Spec L2
/-- how many there are, where they are unlike tuples of ints and texts -/
def keysD : List D → Option (List (List Key))
  | [] => some []
  | .tup ds :: r => (keysOf ds).bind fun k => (keysD r).map fun l => k :: l
  | _ => none
open Classical in
noncomputable def lenSetV : D → Stor → R D
  | .loc n, st => match itemsAt st n with
    | some ds => (match keysD ds with | some kl => if kl.Nodup ∧ kl.length ≤ 900 then .ok (.int (kl.length : Nat)) st else .bad | none => .bad)
    | none => .bad
  | _, _ => .bad
theorem keys_rep {K : PySem.W.Frag} {μ : List Addr} {H : Hp} : ∀ {ds : List D} {xs : List V} {kl : List (List Key)}, RepVs K μ H ds xs → keysD ds = some kl → ∃ bs : List Addr, xs = bs.map V.ref ∧ bs.length = kl.length ∧ ∀ (i : Nat) (b : Addr) (k : List Key), bs[i]? = some b → kl[i]? = some k → H b = some (.tup (k.map kV))
  | [], xs, kl, h, e => by
    rw [RepVs] at h
    cases e
    exact ⟨[], h, rfl, by simp⟩
  | d :: ds, xs, kl, h, e => by
    rw [RepVs] at h
    obtain ⟨v, r, rfl, h1, h2⟩ := h
    cases d with
    | tup ks =>
      rw [keysD] at e
      cases e1 : keysOf ks with
      | none => rw [e1] at e; cases e
      | some k =>
        rw [e1] at e
        cases e2 : keysD ds with
        | none => rw [e2] at e; cases e
        | some l =>
          rw [e2] at e
          cases e
          obtain ⟨a, ys, rfl, t1, t2⟩ := RepV.tup_iff.mp h1
          obtain ⟨bs, rfl, hl, hb⟩ := keys_rep h2 e2
          refine ⟨a :: bs, rfl, by simp [hl], fun i b k' hi hk => ?_⟩
          cases i with
          | zero =>
            simp at hi hk
            subst hi hk
            rw [← RepVs.keys t2 e1]
            exact t1.made e1
          | succ i => exact hb i b k' (by simpa using hi) (by simpa using hk)
    | _ => cases e
section
variable {X : Cx} {x y : Str} {p pos p2 pos2 : Pos} {e : Expr} {m : ME}
theorem je_lenset (hc : X.A.handled = none) (hu : X.A.units + 5 < cLine) (hg : Gl X x) (hm : X.mg x = none) (hv : bootBuiltins x = some (.builtin "len")) (hg2 : Gl X y) (hm2 : X.mg y = none) (hv2 : bootBuiltins y = some (.type "set")) (ha : JE X e m)
    (hn : x ≠ "__name__" := by decide) (hdb : (x == ("__debug__" : Str)) = false := by decide) (hn2 : y ≠ "__name__" := by decide) (hdb2 : (y == ("__debug__" : Str)) = false := by decide)
    (hs : starEach [e] X.env = [(false, eval e X.env)] := by rfl) (hs2 : starEach [.Call (.Name y p2) [e] [] pos2] X.env = [(false, eval (.Call (.Name y p2) [e] [] pos2) X.env)] := by rfl) :
    JE X (.Call (.Name x p) [.Call (.Name y p2) [e] [] pos2] [] pos) (op1 lenSetV m) := by
  refine JE.of (pe_lenset hc hu hg hm hv hg2 hm2 hv2 ha hn hdb hn2 hdb2 hs hs2) fun σ H Q ⟨μ, env, st, he, hS, hp⟩ => ⟨μ, env, st, he, hS, hp.bind.imp ?_⟩
  rintro v H1 ⟨μ1, st1, d, g1, hs1, hx, hp1⟩
  cases d with
  | loc n =>
    unfold lenSetV at hp1
    cases e1 : itemsAt st1 n with
    | none => simp only [e1] at hp1; exact hp1.elim
    | some l =>
      simp only [e1] at hp1
      cases e2 : keysD l with
      | none => simp only [e2] at hp1; exact hp1.elim
      | some kl =>
        simp only [e2] at hp1
        split at hp1
        · rename_i hh
          obtain ⟨q, q1, rfl⟩ := RepV.loc_iff.mp hx
          obtain ⟨p', ys, r1, r2, r3⟩ := hs1.items e1
          rw [q1] at r1; cases r1
          obtain ⟨bs, rfl, hl, hb⟩ := keys_rep r3 e2
          exact ⟨q, bs, kl, rfl, r2, hl, hb, hh.1, hh.2, hp1.ret hs1 (RepV.int_iff.mpr rfl)⟩
        · exact hp1.elim
  | _ => exact hp1.elim
end
end M
set_option maxHeartbeats 0
namespace Law
open PySem PySem.Spec L2 M
def top (i : Nat) : Stmt := PySem.Challenge.pw_oneofall_k34_rules_that_are_made.main.body.getD i (.Pass ⟨0, 0, 0, 0⟩)
abbrev s_p_Numbers_init : Stmt := (clsBody (top 1)).getD 0 (.Pass ⟨0, 0, 0, 0⟩)
abbrev s_p_Numbers_number : Stmt := (clsBody (top 1)).getD 1 (.Pass ⟨0, 0, 0, 0⟩)
abbrev s_p_make_rows : Stmt := top 3
abbrev s_p_rules_of_row : Stmt := top 4
abbrev s_p_end_state : Stmt := top 5
abbrev s_p_first_counters : Stmt := top 6
abbrev s_p_rules_to_end : Stmt := top 7
abbrev s_l_cell_at : Stmt := top 9
abbrev s_l_mixed : Stmt := top 10
abbrev s_l_row_of : Stmt := top 11
abbrev s_l_program : Stmt := top 12
abbrev s_l_whole : Stmt := top 13
abbrev s_l_letters : Stmt := top 14
abbrev s_l_is_rule : Stmt := top 15
abbrev s_p_law : Stmt := top 16
/-! ### the denotations -/
noncomputable def b_p_Numbers_init : MS :=
    (seqS (setFldS "Numbers" "first" (vr 0) (vr 1))
    (setFldS "Numbers" "given" (vr 0) dicE))
noncomputable def F_p_Numbers_init : FD := gcFM (fnM 2 b_p_Numbers_init)
noncomputable def b_p_Numbers_number : MS :=
    (seqS (ifS (tB1 (op2 (inDV true) (vr 1) (fldE "Numbers" "given" (vr 0)))) (asgS (op2 addV (fldE "Numbers" "first" (vr 0)) (callE lenW (consA (fldE "Numbers" "given" (vr 0)) nilA))) (subG setDV (fldE "Numbers" "given" (vr 0)) (vr 1))) skipS)
    (retS (op2 ixD (fldE "Numbers" "given" (vr 0)) (vr 1))))
noncomputable def F_p_Numbers_number : FD := gcFM (fnM 2 b_p_Numbers_number)
noncomputable def b_p_end_state : MS :=
    (seqS (ifS (tB1 (op2 (eqV 200) (vr 2) (vr 3))) (retS (vr 1)) skipS)
    (retS (methI "Numbers" "number" F_p_Numbers_number (vr 0) (consA (tupE (consA (ct (.str [101, 110, 100])) (consA (vr 1) (consA (vr 2) nilA)))) nilA))))
noncomputable def F_p_end_state : FD := gcFM (fnM 4 b_p_end_state)
noncomputable def b_p_rules_to_end : MS :=
    (seqS (setS 4 (lstE nilA))
    (seqS (forS (range2I (consA (vr 2) (consA (vr 3) nilA))) (nameG 5) (seqS (setS 6 (callF F_p_end_state [] (consA (vr 0) (consA (vr 1) (consA (vr 5) (consA (vr 3) nilA))))))
    (seqS (exprS (methE "list" appendV (vr 4) (consA (tupE (consA (vr 6) (consA (ct (.str [105])) (consA (ct (.str [105])) (consA (vr 6) nilA))))) nilA)))
    (exprS (methE "list" appendV (vr 4) (consA (tupE (consA (vr 6) (consA (ct (.str [101])) (consA (ct (.str [101])) (consA (callF F_p_end_state [] (consA (vr 0) (consA (vr 1) (consA (op2 addV (vr 5) (ct (.int 1))) (consA (vr 3) nilA))))) nilA))))) nilA))))))
    (retS (vr 4))))
noncomputable def F_p_rules_to_end : FD := gcFM (fnM 7 b_p_rules_to_end)
noncomputable def b_p_first_counters : MS :=
    (seqS (setS 1 dkE)
    (seqS (forS (seqI (vr 0)) (nameG 2) (seqS (asgS (callE min2V (consA (methE "dict" getK2 (vr 1) (consA (op2 ixV (vr 2) (ct (.int 2))) (consA (op2 ixV (vr 2) (ct (.int 1))) nilA))) (consA (op2 ixV (vr 2) (ct (.int 1))) nilA))) (subG setK (vr 1) (op2 ixV (vr 2) (ct (.int 2)))))
    (ifS (tB1 (op2 (eqV 200) (op2 ixV (vr 2) (ct (.int 0))) (ct (.str [100, 111, 119, 110])))) (asgS (callE min2V (consA (methE "dict" getK2 (vr 1) (consA (op2 ixV (vr 2) (ct (.int 3))) (consA (op2 addV (op2 ixV (vr 2) (ct (.int 1))) (ct (.int 1))) nilA))) (consA (op2 addV (op2 ixV (vr 2) (ct (.int 1))) (ct (.int 1))) nilA))) (subG setK (vr 1) (op2 ixV (vr 2) (ct (.int 3))))) skipS)))
    (retS (vr 1))))
noncomputable def F_p_first_counters : FD := gcF (fnM 3 b_p_first_counters)
noncomputable def b_p_rules_of_row : MS :=
    (seqS (setS 4 (lstE nilA))
    (seqS (setS 5 (vr 1))
    (seqS (setS 6 (ct (.str [98])))
    (seqS (forS (range1I (consA (op2 ixV (vr 2) (ct (.int 1))) nilA)) (nameG 7) (seqS (setS 8 (methI "Numbers" "number" F_p_Numbers_number (vr 0) (consA (tupE (consA (ct (.str [97, 104, 101, 97, 100])) (consA (vr 1) (consA (vr 7) nilA)))) nilA)))
    (seqS (exprS (methE "list" appendV (vr 4) (consA (tupE (consA (vr 5) (consA (vr 6) (consA (vr 6) (consA (vr 8) nilA))))) nilA)))
    (seqS (exprS (methE "list" appendV (vr 4) (consA (tupE (consA (vr 8) (consA (ct (.str [105])) (consA (ct (.str [105])) (consA (vr 8) nilA))))) nilA)))
    (seqS (setS 5 (vr 8))
    (setS 6 (ct (.str [101]))))))))
    (seqS (setS 9 (callF F_p_end_state [] (consA (vr 0) (consA (op2 ixV (vr 2) (ct (.int 2))) (consA (op2 ixV (vr 2) (ct (.int 1))) (consA (vr 3) nilA))))))
    (seqS (ifS (tB1 (op2 (eqV 200) (op2 ixV (vr 2) (ct (.int 0))) (ct (.str [117, 112])))) (seqS (exprS (methE "list" appendV (vr 4) (consA (tupE (consA (vr 5) (consA (vr 6) (consA (op2 addV (vr 6) (ct (.str [105]))) (consA (vr 9) nilA))))) nilA)))
    (retS (vr 4))) skipS)
    (seqS (setS 10 (methI "Numbers" "number" F_p_Numbers_number (vr 0) (consA (tupE (consA (ct (.str [97, 115, 107])) (consA (vr 1) nilA))) nilA)))
    (seqS (exprS (methE "list" appendV (vr 4) (consA (tupE (consA (vr 5) (consA (vr 6) (consA (vr 6) (consA (vr 10) nilA))))) nilA)))
    (seqS (exprS (methE "list" appendV (vr 4) (consA (tupE (consA (vr 10) (consA (ct (.str [105])) (consA (ct (.str [])) (consA (vr 9) nilA))))) nilA)))
    (seqS (exprS (methE "list" appendV (vr 4) (consA (tupE (consA (vr 10) (consA (ct (.str [101])) (consA (ct (.str [101])) (consA (callF F_p_end_state [] (consA (vr 0) (consA (op2 ixV (vr 2) (ct (.int 3))) (consA (op2 addV (op2 ixV (vr 2) (ct (.int 1))) (ct (.int 1))) (consA (vr 3) nilA))))) nilA))))) nilA)))
    (retS (vr 4))))))))))))
noncomputable def F_p_rules_of_row : FD := gcFM (fnM 11 b_p_rules_of_row)
noncomputable def b_p_make_rows : MS :=
    (seqS (setS 2 (makeE "Numbers" F_p_Numbers_init (consA (op2 addV (callE lenW (consA (vr 0) nilA)) (ct (.int 1))) nilA)))
    (seqS (setS 3 (lstE nilA))
    (seqS (forS (enumI (consA (vr 0) nilA)) (tupG 2 (consG (nameG 4) (consG (nameG 5) nilG))) (exprS (methE "list" extendV (vr 3) (consA (callF F_p_rules_of_row [] (consA (vr 2) (consA (vr 4) (consA (vr 5) (consA (vr 1) nilA))))) nilA))))
    (seqS (setS 6 (callF F_p_first_counters [] (consA (vr 0) nilA)))
    (seqS (forS (dkI (vr 6)) (nameG 7) (exprS (methE "list" extendV (vr 3) (consA (callF F_p_rules_to_end [] (consA (vr 2) (consA (vr 7) (consA (op2 ixA (vr 6) (vr 7)) (consA (vr 1) nilA))))) nilA))))
    (retS (vr 3)))))))
noncomputable def F_p_make_rows : FD := gcF (fnM 8 b_p_make_rows)
noncomputable def b_l_cell_at : MS :=
    (seqS (ifS (tB1 (op2 ltV (vr 1) (callE lenW (consA (vr 0) nilA)))) (retS (op2 ixV (vr 0) (vr 1))) skipS)
    (retS (ct (.int 0))))
noncomputable def F_l_cell_at : FD := gcF (fnM 2 b_l_cell_at)
noncomputable def b_l_mixed : MS :=
    (seqS (setS 2 (op2 addV (op2 addV (op2 modV (vr 0) (ct (.int 1000000007))) (op2 mulV (ct (.int 7919)) (vr 1))) (ct (.int 13))))
    (retS (op2 fdivV (op2 modV (op2 mulV (vr 2) (vr 2)) (ct (.int 998244353))) (ct (.int 3)))))
noncomputable def F_l_mixed : FD := gcF (fnM 3 b_l_mixed)
noncomputable def b_l_row_of : MS :=
    (seqS (setS 4 (op2 fdivV (vr 0) (ct (.int 2))))
    (seqS (setS 5 (op2 addV (vr 3) (ct (.int 1))))
    (seqS (setS 6 (lstE (consA (op2 modV (vr 4) (ct (.int 2))) (consA (op2 modV (op2 fdivV (vr 4) (ct (.int 2))) (vr 2)) (consA (op2 modV (op2 fdivV (op2 fdivV (vr 4) (ct (.int 2))) (vr 2)) (vr 5)) (consA (op2 modV (op2 fdivV (op2 fdivV (op2 fdivV (vr 4) (ct (.int 2))) (vr 2)) (vr 5)) (vr 5)) nilA))))))
    (seqS (ifS (tB1 (op2 (eqV 200) (op2 modV (vr 0) (ct (.int 2))) (ct (.int 1)))) (seqS (setS 6 (lstE (consA (callE intC (consA (op2 gtV (op2 modV (op2 fdivV (callF F_l_mixed [] (consA (vr 0) (consA (op2 mulV (ct (.int 5)) (vr 1)) nilA))) (ct (.int 3))) (ct (.int 5))) (ct (.int 1))) nilA)) (consA (op2 modV (callF F_l_mixed [] (consA (vr 0) (consA (op2 addV (op2 mulV (ct (.int 5)) (vr 1)) (ct (.int 1))) nilA))) (vr 2)) nilA))))
    (seqS (setS 6 (op2 addV (vr 6) (lstE (consA (op2 modV (callF F_l_mixed [] (consA (vr 0) (consA (op2 addV (op2 mulV (ct (.int 5)) (vr 1)) (ct (.int 2))) nilA))) (vr 5)) (consA (op2 modV (callF F_l_mixed [] (consA (vr 0) (consA (op2 addV (op2 mulV (ct (.int 5)) (vr 1)) (ct (.int 3))) nilA))) (vr 5)) nilA)))))
    (ifS (tB1 (op2 (eqV 200) (op2 modV (callF F_l_mixed [] (consA (vr 0) (consA (op2 mulV (ct (.int 5)) (vr 1)) nilA))) (ct (.int 3))) (ct (.int 0)))) (asgS (callE min2V (consA (op2 addV (vr 1) (ct (.int 1))) (consA (vr 3) nilA))) (subG setV (vr 6) (ct (.int 2)))) skipS))) skipS)
    (seqS (ifS (tB1 (op2 (eqV 200) (op2 ixV (vr 6) (ct (.int 0))) (ct (.int 0)))) (retS (tupE (consA (ct (.str [117, 112])) (consA (op2 ixV (vr 6) (ct (.int 1))) (consA (op2 ixV (vr 6) (ct (.int 2))) nilA))))) skipS)
    (retS (tupE (consA (ct (.str [100, 111, 119, 110])) (consA (op2 ixV (vr 6) (ct (.int 1))) (consA (op2 ixV (vr 6) (ct (.int 2))) (consA (op2 ixV (vr 6) (ct (.int 3))) nilA)))))))))))
noncomputable def F_l_row_of : FD := gcF (fnM 7 b_l_row_of)
noncomputable def b_l_program : MS :=
    (retS (compE [some 1, some 0, none, none] (enumI (consA (vr 0) nilA)) (tupG 2 (consG (nameG 2) (consG (nameG 3) nilG))) yesT (callF F_l_row_of [] (consA (vr 3) (consA (vr 2) (consA (vr 0) (consA (callE lenW (consA (vr 1) nilA)) nilA)))))))
noncomputable def F_l_program : FD := gcF (fnM 2 b_l_program)
noncomputable def b_l_whole : MS :=
    (retS (andV (op1 (isV "int") (vr 0)) (notV (op1 (isV "bool") (vr 0)))))
noncomputable def F_l_whole : FD := gcF (fnM 1 b_l_whole)
noncomputable def b_l_letters : MS :=
    (seqS (forS (strI (vr 0)) (nameG 1) (ifS (tB1 (op2 notInSV (vr 1) (ct (.str [98, 101, 105])))) (retS (ct (.bl false))) skipS))
    (retS (ct (.bl true))))
noncomputable def F_l_letters : FD := gcF (fnM 2 b_l_letters)
noncomputable def b_l_is_rule : MS :=
    (seqS (ifS (orT (notT (tru (op1 (isV "tuple") (vr 0)))) (tB1 (op2 (neV 200) (callE lenW (consA (vr 0) nilA)) (ct (.int 4))))) (retS (ct (.bl false))) skipS)
    (seqS (ifS (orT (notT (tru (callF F_l_whole [] (consA (op2 ixV (vr 0) (ct (.int 0))) nilA)))) (orT (notT (tru (callF F_l_whole [] (consA (op2 ixV (vr 0) (ct (.int 3))) nilA)))) (orT (tB1 (op2 ltV (op2 ixV (vr 0) (ct (.int 0))) (ct (.int 0)))) (tB1 (op2 ltV (op2 ixV (vr 0) (ct (.int 3))) (ct (.int 0))))))) (retS (ct (.bl false))) skipS)
    (seqS (ifS (orT (notT (tru (op1 (isV "str") (op2 ixV (vr 0) (ct (.int 1)))))) (orT (tB1 (op2 (neV 200) (callE lenW (consA (op2 ixV (vr 0) (ct (.int 1))) nilA)) (ct (.int 1)))) (notT (tru (callF F_l_letters [] (consA (op2 ixV (vr 0) (ct (.int 1))) nilA)))))) (retS (ct (.bl false))) skipS)
    (retS (andV (op1 (isV "str") (op2 ixV (vr 0) (ct (.int 2)))) (andV (op2 leV (callE lenW (consA (op2 ixV (vr 0) (ct (.int 2))) nilA)) (ct (.int 8))) (callF F_l_letters [] (consA (op2 ixV (vr 0) (ct (.int 2))) nilA))))))))
noncomputable def F_l_is_rule : FD := gcF (fnM 1 b_l_is_rule)
noncomputable def b_p_law : MS :=
    (seqS (setS 1 (op2 addV (ct (.int 1)) (op2 modV (callF F_l_cell_at [] (consA (vr 0) (consA (ct (.int 0)) nilA))) (ct (.int 6)))))
    (seqS (setS 2 (callF F_l_program [] (consA (slE (vr 0) (inP (ct (.int 1))) (inP (ct (.int 21)))) (consA (vr 1) nilA))))
    (seqS (setS 3 (callE listC (consA (vr 2) nilA)))
    (seqS (setS 4 (callF F_p_make_rows [] (consA (vr 3) (consA (vr 1) nilA))))
    (seqS (ifS (orT (notT (tru (op1 (isV "list") (vr 4)))) (notT (tru (callE (allV fun bs => bs.all fun b => b) (consA (compE [none] (seqI (vr 4)) (nameG 0) yesT (callF F_l_is_rule [] (consA (vr 0) nilA))) nilA))))) (retS (ct (.bl false))) skipS)
    (seqS (setS 5 (compE [none] (seqI (vr 4)) (nameG 0) yesT (tupE (consA (op2 ixV (vr 0) (ct (.int 0))) (consA (op2 ixV (vr 0) (ct (.int 1))) nilA)))))
    (seqS (ifS (orT (tB1 (op2 (neV 200) (op1 lenSetV (vr 5)) (callE lenW (consA (vr 5) nilA)))) (tB1 (op2 (inLV 200 false) (tupE (consA (callE lenW (consA (vr 2) nilA)) (consA (ct (.str [98])) nilA))) (vr 5)))) (retS (ct (.bl false))) skipS)
    (seqS (setS 6 (callE listC (consA (vr 4) nilA)))
    (seqS (exprS (meth0E "list" clearV (vr 4)))
    (retS (andV (op2 (eqV 200) (callF F_p_make_rows [] (consA (vr 3) (consA (vr 1) nilA))) (vr 6)) (op2 (eqV 200) (vr 3) (vr 2)))))))))))))
noncomputable def F_p_law : FD := gcF (fnM 7 b_p_law)
/-! ### the text as it stands behind the top -/
structure Adr where
  a_p_Numbers_init : Addr
  d_p_Numbers_init : FuncData
  a_p_Numbers_number : Addr
  d_p_Numbers_number : FuncData
  a_p_make_rows : Addr
  d_p_make_rows : FuncData
  a_p_rules_of_row : Addr
  d_p_rules_of_row : FuncData
  a_p_end_state : Addr
  d_p_end_state : FuncData
  a_p_first_counters : Addr
  d_p_first_counters : FuncData
  a_p_rules_to_end : Addr
  d_p_rules_to_end : FuncData
  a_l_cell_at : Addr
  d_l_cell_at : FuncData
  a_l_mixed : Addr
  d_l_mixed : FuncData
  a_l_row_of : Addr
  d_l_row_of : FuncData
  a_l_program : Addr
  d_l_program : FuncData
  a_l_whole : Addr
  d_l_whole : FuncData
  a_l_letters : Addr
  d_l_letters : FuncData
  a_l_is_rule : Addr
  d_l_is_rule : FuncData
  a_p_law : Addr
  d_p_law : FuncData
  c_Numbers : Addr
structure Txt (K : PySem.W.Frag) (mg : Str → Option Value) (A : Adr) : Prop where
  f_p_Numbers_init : Fun K "__init__" "Numbers.__init__" s_p_Numbers_init A.a_p_Numbers_init A.d_p_Numbers_init
  m_p_Numbers_init : Mk K A.c_Numbers A.a_p_Numbers_init
  b_p_Numbers_init : Binds K A.d_p_Numbers_init ["self", "first"] []
  f_p_Numbers_number : Fun K "number" "Numbers.number" s_p_Numbers_number A.a_p_Numbers_number A.d_p_Numbers_number
  m_p_Numbers_number : Meth K A.c_Numbers "number" A.a_p_Numbers_number
  b_p_Numbers_number : Binds K A.d_p_Numbers_number ["self", "key"] []
  f_p_make_rows : Fun K "make_rows" "make_rows" s_p_make_rows A.a_p_make_rows A.d_p_make_rows
  m_p_make_rows : mg "make_rows" = some (.ref A.a_p_make_rows)
  b_p_make_rows : Binds K A.d_p_make_rows ["program", "many"] []
  f_p_rules_of_row : Fun K "rules_of_row" "rules_of_row" s_p_rules_of_row A.a_p_rules_of_row A.d_p_rules_of_row
  m_p_rules_of_row : mg "rules_of_row" = some (.ref A.a_p_rules_of_row)
  b_p_rules_of_row : Binds K A.d_p_rules_of_row ["numbers", "place", "row", "many"] []
  f_p_end_state : Fun K "end_state" "end_state" s_p_end_state A.a_p_end_state A.d_p_end_state
  m_p_end_state : mg "end_state" = some (.ref A.a_p_end_state)
  b_p_end_state : Binds K A.d_p_end_state ["numbers", "target", "counter", "many"] []
  f_p_first_counters : Fun K "first_counters" "first_counters" s_p_first_counters A.a_p_first_counters A.d_p_first_counters
  m_p_first_counters : mg "first_counters" = some (.ref A.a_p_first_counters)
  b_p_first_counters : Binds K A.d_p_first_counters ["program"] []
  f_p_rules_to_end : Fun K "rules_to_end" "rules_to_end" s_p_rules_to_end A.a_p_rules_to_end A.d_p_rules_to_end
  m_p_rules_to_end : mg "rules_to_end" = some (.ref A.a_p_rules_to_end)
  b_p_rules_to_end : Binds K A.d_p_rules_to_end ["numbers", "target", "first", "many"] []
  f_l_cell_at : Fun K "_law_cell_at" "_law_cell_at" s_l_cell_at A.a_l_cell_at A.d_l_cell_at
  m_l_cell_at : mg "_law_cell_at" = some (.ref A.a_l_cell_at)
  b_l_cell_at : Binds K A.d_l_cell_at ["_law_script", "_law_k"] []
  f_l_mixed : Fun K "_law_mixed" "_law_mixed" s_l_mixed A.a_l_mixed A.d_l_mixed
  m_l_mixed : mg "_law_mixed" = some (.ref A.a_l_mixed)
  b_l_mixed : Binds K A.d_l_mixed ["_law_cell", "_law_k"] []
  f_l_row_of : Fun K "_law_row_of" "_law_row_of" s_l_row_of A.a_l_row_of A.d_l_row_of
  m_l_row_of : mg "_law_row_of" = some (.ref A.a_l_row_of)
  b_l_row_of : Binds K A.d_l_row_of ["_law_cell", "_law_k", "_law_many", "_law_rows"] []
  f_l_program : Fun K "_law_program" "_law_program" s_l_program A.a_l_program A.d_l_program
  m_l_program : mg "_law_program" = some (.ref A.a_l_program)
  b_l_program : Binds K A.d_l_program ["_law_cells", "_law_many"] []
  f_l_whole : Fun K "_law_whole" "_law_whole" s_l_whole A.a_l_whole A.d_l_whole
  m_l_whole : mg "_law_whole" = some (.ref A.a_l_whole)
  b_l_whole : Binds K A.d_l_whole ["_law_found"] []
  f_l_letters : Fun K "_law_letters" "_law_letters" s_l_letters A.a_l_letters A.d_l_letters
  m_l_letters : mg "_law_letters" = some (.ref A.a_l_letters)
  b_l_letters : Binds K A.d_l_letters ["_law_word"] []
  f_l_is_rule : Fun K "_law_is_rule" "_law_is_rule" s_l_is_rule A.a_l_is_rule A.d_l_is_rule
  m_l_is_rule : mg "_law_is_rule" = some (.ref A.a_l_is_rule)
  b_l_is_rule : Binds K A.d_l_is_rule ["_law_rule"] []
  f_p_law : Fun K "law" "law" s_p_law A.a_p_law A.d_p_law
  m_p_law : mg "law" = some (.ref A.a_p_law)
  b_p_law : Binds K A.d_p_law ["_law_script"] []
  c0_Numbers : PySem.W.nsIn K mainGlobals "Numbers" = some (some (.ref A.c_Numbers))
  cm_Numbers : mg "Numbers" = some (.ref A.c_Numbers)
  cc_Numbers : Cls K A.c_Numbers
  na_Numbers_first : NoAttr K A.c_Numbers "first"
  na_Numbers_given : NoAttr K A.c_Numbers "given"
  z_all : mg "all" = none
  z_bool : mg "bool" = none
  z_enumerate : mg "enumerate" = none
  z_int : mg "int" = none
  z_isinstance : mg "isinstance" = none
  z_len : mg "len" = none
  z_list : mg "list" = none
  z_min : mg "min" = none
  z_range : mg "range" = none
  z_set : mg "set" = none
  z_str : mg "str" = none
  z_tuple : mg "tuple" = none
section
variable {P : Program} {w : World} {K : PySem.W.Frag} {mg : Str → Option Value} {base : Heap} {Ad : Adr}
theorem sc_p_Numbers_init : FnScope ["self", "first"] ["self", "first"] (defScope s_p_Numbers_init) := ⟨rfl, rfl, rfl, by decide +kernel, rfl, by decide +kernel, by decide +kernel⟩
theorem ok_p_Numbers_init (T : Txt K mg Ad) : FnOk P w K mg base CX0 1 Ad.a_p_Numbers_init Ad.d_p_Numbers_init ["self", "first"] (spM K 2 F_p_Numbers_init) := by
  refine FnOk.imp (fn_ok (m := b_p_Numbers_init) T.f_p_Numbers_init sc_p_Numbers_init fun cdv A outer s H hr => ?_) fun vs H Q E h => sp_gcM h
  exact (js_cons (js_fld T.c0_Numbers T.cc_Numbers T.na_Numbers_first (je_var 0) (je_var 1))
    (js_one (js_fld T.c0_Numbers T.cc_Numbers T.na_Numbers_given (je_var 0) je_dict)))
theorem sc_p_Numbers_number : FnScope ["self", "key"] ["self", "key"] (defScope s_p_Numbers_number) := ⟨rfl, rfl, rfl, by decide +kernel, rfl, by decide +kernel, by decide +kernel⟩
theorem ok_p_Numbers_number (T : Txt K mg Ad) : FnOk P w K mg base CX0 1 Ad.a_p_Numbers_number Ad.d_p_Numbers_number ["self", "key"] (spM K 2 F_p_Numbers_number) := by
  refine FnOk.imp (fn_ok (m := b_p_Numbers_number) T.f_p_Numbers_number sc_p_Numbers_number fun cdv A outer s H hr => ?_) fun vs H Q E h => sp_gcM h
  exact (js_cons (js_if (jt_cmp (op_notInDV (hu_of hr)) (je_var 1) (je_fld T.c0_Numbers T.cc_Numbers T.na_Numbers_given (je_var 0)) rfl) (js_one (js_asg (je_op op_addV (je_fld T.c0_Numbers T.cc_Numbers T.na_Numbers_first (je_var 0)) (je_callB call_lenW rfl T.z_len (by decide +kernel) (ja_cons (je_fld T.c0_Numbers T.cc_Numbers T.na_Numbers_given (je_var 0)) ja_nil))) (jg_sub (set_DV (hu_of hr)) (je_fld T.c0_Numbers T.cc_Numbers T.na_Numbers_given (je_var 0)) (je_var 1)))) js_nil)
    (js_one (js_ret (je_ixD (hu_of hr) (je_fld T.c0_Numbers T.cc_Numbers T.na_Numbers_given (je_var 0)) (je_var 1)))))
theorem sc_p_end_state : FnScope ["numbers", "target", "counter", "many"] ["numbers", "target", "counter", "many"] (defScope s_p_end_state) := ⟨rfl, rfl, rfl, by decide +kernel, rfl, by decide +kernel, by decide +kernel⟩
theorem ok_p_end_state (T : Txt K mg Ad) : FnOk P w K mg base CX0 2 Ad.a_p_end_state Ad.d_p_end_state ["numbers", "target", "counter", "many"] (spM K 4 F_p_end_state) := by
  refine FnOk.imp (fn_ok (m := b_p_end_state) T.f_p_end_state sc_p_end_state fun cdv A outer s H hr => ?_) fun vs H Q E h => sp_gcM h
  exact (js_cons (js_if (jt_cmp (op_eqV (hu200 hr)) (je_var 2) (je_var 3) (nomark _)) (js_one (js_ret (je_var 1))) js_nil)
    (js_one (js_ret (je_methI T.c0_Numbers T.cc_Numbers T.m_p_Numbers_number ((ok_p_Numbers_number T).mono (by decide)) hr T.b_p_Numbers_number (je_var 0) (ja_cons (je_tup (ja_cons (je_str [101, 110, 100]) (ja_cons (je_var 1) (ja_cons (je_var 2) ja_nil)))) ja_nil) rfl rfl rfl rfl (lenA_cons lenA_nil)))))
theorem sc_p_rules_to_end : FnScope ["numbers", "target", "first", "many", "rules", "counter", "state"] ["numbers", "target", "first", "many"] (defScope s_p_rules_to_end) := ⟨rfl, rfl, rfl, by decide +kernel, rfl, by decide +kernel, by decide +kernel⟩
theorem ok_p_rules_to_end (T : Txt K mg Ad) : FnOk P w K mg base CX0 3 Ad.a_p_rules_to_end Ad.d_p_rules_to_end ["numbers", "target", "first", "many"] (spM K 4 F_p_rules_to_end) := by
  refine FnOk.imp (fn_ok (m := b_p_rules_to_end) T.f_p_rules_to_end sc_p_rules_to_end fun cdv A outer s H hr => ?_) fun vs H Q E h => sp_gcM h
  exact (js_cons (js_set 4 (je_lst ja_nil) sc_p_rules_to_end.nd)
    (js_cons (js_for (ji_range2 (ja_cons (je_var 2) (ja_cons (je_var 3) ja_nil)) rfl T.z_range) (jg_name 5 sc_p_rules_to_end.nd) (js_cons (js_set 6 (je_call ((ok_p_end_state T).mono (by decide)) hr T.m_p_end_state T.f_p_end_state.kp T.b_p_end_state .nil (fun _ _ => RepVs.nil) (ja_cons (je_var 0) (ja_cons (je_var 1) (ja_cons (je_var 5) (ja_cons (je_var 3) ja_nil)))) rfl rfl (by decide) rfl rfl (lenA_cons (lenA_cons (lenA_cons (lenA_cons lenA_nil))))) sc_p_rules_to_end.nd)
    (js_cons (js_expr (je_meth PySem.F.plainAttrs_list PySem.F.slot_list_append PySem.F.type_list_append mt_appendV (je_var 4) (ja_cons (je_tup (ja_cons (je_var 6) (ja_cons (je_str [105]) (ja_cons (je_str [105]) (ja_cons (je_var 6) ja_nil))))) ja_nil)))
    (js_one (js_expr (je_meth PySem.F.plainAttrs_list PySem.F.slot_list_append PySem.F.type_list_append mt_appendV (je_var 4) (ja_cons (je_tup (ja_cons (je_var 6) (ja_cons (je_str [101]) (ja_cons (je_str [101]) (ja_cons (je_call ((ok_p_end_state T).mono (by decide)) hr T.m_p_end_state T.f_p_end_state.kp T.b_p_end_state .nil (fun _ _ => RepVs.nil) (ja_cons (je_var 0) (ja_cons (je_var 1) (ja_cons (je_op op_addV (je_var 5) je_int) (ja_cons (je_var 3) ja_nil)))) rfl rfl (by decide) rfl rfl (lenA_cons (lenA_cons (lenA_cons (lenA_cons lenA_nil))))) ja_nil))))) ja_nil)))))) PassesOwn.never rfl)
    (js_one (js_ret (je_var 4)))))
theorem sc_p_first_counters : FnScope ["program", "firsts", "row"] ["program"] (defScope s_p_first_counters) := ⟨rfl, rfl, rfl, by decide +kernel, rfl, by decide +kernel, by decide +kernel⟩
theorem ok_p_first_counters (T : Txt K mg Ad) : FnOk P w K mg base CX0 1 Ad.a_p_first_counters Ad.d_p_first_counters ["program"] (spM K 1 F_p_first_counters) := by
  refine FnOk.imp (fn_ok (m := b_p_first_counters) T.f_p_first_counters sc_p_first_counters fun cdv A outer s H hr => ?_) fun vs H Q E h => sp_gc h
  exact (js_cons (js_set 1 je_dictK sc_p_first_counters.nd)
    (js_cons (js_for (ji_seq (je_var 0)) (jg_name 2 sc_p_first_counters.nd) (js_cons (js_asg (je_callB (call_min2V rfl) rfl T.z_min (by decide +kernel) (ja_cons (je_meth PySem.F.plainAttrs_dict PySem.F.slot_dict_get PySem.F.type_dict_get (mt_getK2 (hu_of hr)) (je_var 1) (ja_cons (je_ix (je_var 2) je_int) (ja_cons (je_ix (je_var 2) je_int) ja_nil))) (ja_cons (je_ix (je_var 2) je_int) ja_nil))) (jg_sub (set_K (hu_of hr)) (je_var 1) (je_ix (je_var 2) je_int)))
    (js_one (js_if (jt_cmp (op_eqV (hu200 hr)) (je_ix (je_var 2) je_int) (je_str [100, 111, 119, 110]) (nomark _)) (js_one (js_asg (je_callB (call_min2V rfl) rfl T.z_min (by decide +kernel) (ja_cons (je_meth PySem.F.plainAttrs_dict PySem.F.slot_dict_get PySem.F.type_dict_get (mt_getK2 (hu_of hr)) (je_var 1) (ja_cons (je_ix (je_var 2) je_int) (ja_cons (je_op op_addV (je_ix (je_var 2) je_int) je_int) ja_nil))) (ja_cons (je_op op_addV (je_ix (je_var 2) je_int) je_int) ja_nil))) (jg_sub (set_K (hu_of hr)) (je_var 1) (je_ix (je_var 2) je_int)))) js_nil))) PassesOwn.never rfl)
    (js_one (js_ret (je_var 1)))))
theorem sc_p_rules_of_row : FnScope ["numbers", "place", "row", "many", "rules", "state", "sign", "passed", "behind", "done", "ask"] ["numbers", "place", "row", "many"] (defScope s_p_rules_of_row) := ⟨rfl, rfl, rfl, by decide +kernel, rfl, by decide +kernel, by decide +kernel⟩
theorem ok_p_rules_of_row (T : Txt K mg Ad) : FnOk P w K mg base CX0 3 Ad.a_p_rules_of_row Ad.d_p_rules_of_row ["numbers", "place", "row", "many"] (spM K 4 F_p_rules_of_row) := by
  refine FnOk.imp (fn_ok (m := b_p_rules_of_row) T.f_p_rules_of_row sc_p_rules_of_row fun cdv A outer s H hr => ?_) fun vs H Q E h => sp_gcM h
  exact (js_cons (js_set 4 (je_lst ja_nil) sc_p_rules_of_row.nd)
    (js_cons (js_set 5 (je_var 1) sc_p_rules_of_row.nd)
    (js_cons (js_set 6 (je_str [98]) sc_p_rules_of_row.nd)
    (js_cons (js_for (ji_range1 (ja_cons (je_ix (je_var 2) je_int) ja_nil) rfl T.z_range) (jg_name 7 sc_p_rules_of_row.nd) (js_cons (js_set 8 (je_methI T.c0_Numbers T.cc_Numbers T.m_p_Numbers_number ((ok_p_Numbers_number T).mono (by decide)) hr T.b_p_Numbers_number (je_var 0) (ja_cons (je_tup (ja_cons (je_str [97, 104, 101, 97, 100]) (ja_cons (je_var 1) (ja_cons (je_var 7) ja_nil)))) ja_nil) rfl rfl rfl rfl (lenA_cons lenA_nil)) sc_p_rules_of_row.nd)
    (js_cons (js_expr (je_meth PySem.F.plainAttrs_list PySem.F.slot_list_append PySem.F.type_list_append mt_appendV (je_var 4) (ja_cons (je_tup (ja_cons (je_var 5) (ja_cons (je_var 6) (ja_cons (je_var 6) (ja_cons (je_var 8) ja_nil))))) ja_nil)))
    (js_cons (js_expr (je_meth PySem.F.plainAttrs_list PySem.F.slot_list_append PySem.F.type_list_append mt_appendV (je_var 4) (ja_cons (je_tup (ja_cons (je_var 8) (ja_cons (je_str [105]) (ja_cons (je_str [105]) (ja_cons (je_var 8) ja_nil))))) ja_nil)))
    (js_cons (js_set 5 (je_var 8) sc_p_rules_of_row.nd)
    (js_one (js_set 6 (je_str [101]) sc_p_rules_of_row.nd)))))) PassesOwn.never rfl)
    (js_cons (js_set 9 (je_call ((ok_p_end_state T).mono (by decide)) hr T.m_p_end_state T.f_p_end_state.kp T.b_p_end_state .nil (fun _ _ => RepVs.nil) (ja_cons (je_var 0) (ja_cons (je_ix (je_var 2) je_int) (ja_cons (je_ix (je_var 2) je_int) (ja_cons (je_var 3) ja_nil)))) rfl rfl (by decide) rfl rfl (lenA_cons (lenA_cons (lenA_cons (lenA_cons lenA_nil))))) sc_p_rules_of_row.nd)
    (js_cons (js_if (jt_cmp (op_eqV (hu200 hr)) (je_ix (je_var 2) je_int) (je_str [117, 112]) (nomark _)) (js_cons (js_expr (je_meth PySem.F.plainAttrs_list PySem.F.slot_list_append PySem.F.type_list_append mt_appendV (je_var 4) (ja_cons (je_tup (ja_cons (je_var 5) (ja_cons (je_var 6) (ja_cons (je_op op_addV (je_var 6) (je_str [105])) (ja_cons (je_var 9) ja_nil))))) ja_nil)))
    (js_one (js_ret (je_var 4)))) js_nil)
    (js_cons (js_set 10 (je_methI T.c0_Numbers T.cc_Numbers T.m_p_Numbers_number ((ok_p_Numbers_number T).mono (by decide)) hr T.b_p_Numbers_number (je_var 0) (ja_cons (je_tup (ja_cons (je_str [97, 115, 107]) (ja_cons (je_var 1) ja_nil))) ja_nil) rfl rfl rfl rfl (lenA_cons lenA_nil)) sc_p_rules_of_row.nd)
    (js_cons (js_expr (je_meth PySem.F.plainAttrs_list PySem.F.slot_list_append PySem.F.type_list_append mt_appendV (je_var 4) (ja_cons (je_tup (ja_cons (je_var 5) (ja_cons (je_var 6) (ja_cons (je_var 6) (ja_cons (je_var 10) ja_nil))))) ja_nil)))
    (js_cons (js_expr (je_meth PySem.F.plainAttrs_list PySem.F.slot_list_append PySem.F.type_list_append mt_appendV (je_var 4) (ja_cons (je_tup (ja_cons (je_var 10) (ja_cons (je_str [105]) (ja_cons (je_str []) (ja_cons (je_var 9) ja_nil))))) ja_nil)))
    (js_cons (js_expr (je_meth PySem.F.plainAttrs_list PySem.F.slot_list_append PySem.F.type_list_append mt_appendV (je_var 4) (ja_cons (je_tup (ja_cons (je_var 10) (ja_cons (je_str [101]) (ja_cons (je_str [101]) (ja_cons (je_call ((ok_p_end_state T).mono (by decide)) hr T.m_p_end_state T.f_p_end_state.kp T.b_p_end_state .nil (fun _ _ => RepVs.nil) (ja_cons (je_var 0) (ja_cons (je_ix (je_var 2) je_int) (ja_cons (je_op op_addV (je_ix (je_var 2) je_int) je_int) (ja_cons (je_var 3) ja_nil)))) rfl rfl (by decide) rfl rfl (lenA_cons (lenA_cons (lenA_cons (lenA_cons lenA_nil))))) ja_nil))))) ja_nil)))
    (js_one (js_ret (je_var 4)))))))))))))
theorem sc_p_make_rows : FnScope ["program", "many", "numbers", "rules", "place", "row", "firsts", "target"] ["program", "many"] (defScope s_p_make_rows) := ⟨rfl, rfl, rfl, by decide +kernel, rfl, by decide +kernel, by decide +kernel⟩
theorem ok_p_make_rows (T : Txt K mg Ad) : FnOk P w K mg base CX0 4 Ad.a_p_make_rows Ad.d_p_make_rows ["program", "many"] (spM K 2 F_p_make_rows) := by
  refine FnOk.imp (fn_ok (m := b_p_make_rows) T.f_p_make_rows sc_p_make_rows fun cdv A outer s H hr => ?_) fun vs H Q E h => sp_gc h
  exact (js_cons (js_set 2 (je_make T.c0_Numbers T.m_p_Numbers_init ((ok_p_Numbers_init T).mono (by decide)) hr T.cm_Numbers T.b_p_Numbers_init (ja_cons (je_op op_addV (je_callB call_lenW rfl T.z_len (by decide +kernel) (ja_cons (je_var 0) ja_nil)) je_int) ja_nil) rfl rfl (by decide) rfl rfl (lenA_cons lenA_nil)) sc_p_make_rows.nd)
    (js_cons (js_set 3 (je_lst ja_nil) sc_p_make_rows.nd)
    (js_cons (js_for (ji_enum (ja_cons (je_var 0) ja_nil) rfl T.z_enumerate) (jg_tup 2 rfl (jgs_cons (jg_name 4 sc_p_make_rows.nd) (jgs_cons (jg_name 5 sc_p_make_rows.nd) jgs_nil))) (js_one (js_expr (je_meth PySem.F.plainAttrs_list PySem.F.slot_list_extend PySem.F.type_list_extend mt_extendV (je_var 3) (ja_cons (je_call ((ok_p_rules_of_row T).mono (by decide)) hr T.m_p_rules_of_row T.f_p_rules_of_row.kp T.b_p_rules_of_row .nil (fun _ _ => RepVs.nil) (ja_cons (je_var 2) (ja_cons (je_var 4) (ja_cons (je_var 5) (ja_cons (je_var 1) ja_nil)))) rfl rfl (by decide) rfl rfl (lenA_cons (lenA_cons (lenA_cons (lenA_cons lenA_nil))))) ja_nil)))) PassesOwn.never rfl)
    (js_cons (js_set 6 (je_call ((ok_p_first_counters T).mono (by decide)) hr T.m_p_first_counters T.f_p_first_counters.kp T.b_p_first_counters .nil (fun _ _ => RepVs.nil) (ja_cons (je_var 0) ja_nil) rfl rfl (by decide) rfl rfl (lenA_cons lenA_nil)) sc_p_make_rows.nd)
    (js_cons (js_for (ji_dk (je_var 6)) (jg_name 7 sc_p_make_rows.nd) (js_one (js_expr (je_meth PySem.F.plainAttrs_list PySem.F.slot_list_extend PySem.F.type_list_extend mt_extendV (je_var 3) (ja_cons (je_call ((ok_p_rules_to_end T).mono (by decide)) hr T.m_p_rules_to_end T.f_p_rules_to_end.kp T.b_p_rules_to_end .nil (fun _ _ => RepVs.nil) (ja_cons (je_var 2) (ja_cons (je_var 7) (ja_cons (je_ixA (hu_of hr) (je_var 6) (je_var 7)) (ja_cons (je_var 1) ja_nil)))) rfl rfl (by decide) rfl rfl (lenA_cons (lenA_cons (lenA_cons (lenA_cons lenA_nil))))) ja_nil)))) PassesOwn.never rfl)
    (js_one (js_ret (je_var 3))))))))
theorem sc_l_cell_at : FnScope ["_law_script", "_law_k"] ["_law_script", "_law_k"] (defScope s_l_cell_at) := ⟨rfl, rfl, rfl, by decide +kernel, rfl, by decide +kernel, by decide +kernel⟩
theorem ok_l_cell_at (T : Txt K mg Ad) : FnOk P w K mg base CX0 1 Ad.a_l_cell_at Ad.d_l_cell_at ["_law_script", "_law_k"] (spM K 2 F_l_cell_at) := by
  refine FnOk.imp (fn_ok (m := b_l_cell_at) T.f_l_cell_at sc_l_cell_at fun cdv A outer s H hr => ?_) fun vs H Q E h => sp_gc h
  exact (js_cons (js_if (jt_cmp op_ltV (je_var 1) (je_callB call_lenW rfl T.z_len (by decide +kernel) (ja_cons (je_var 0) ja_nil)) (nomark _)) (js_one (js_ret (je_ix (je_var 0) (je_var 1)))) js_nil)
    (js_one (js_ret je_int)))
theorem sc_l_mixed : FnScope ["_law_cell", "_law_k", "_law_number"] ["_law_cell", "_law_k"] (defScope s_l_mixed) := ⟨rfl, rfl, rfl, by decide +kernel, rfl, by decide +kernel, by decide +kernel⟩
theorem ok_l_mixed (T : Txt K mg Ad) : FnOk P w K mg base CX0 1 Ad.a_l_mixed Ad.d_l_mixed ["_law_cell", "_law_k"] (spM K 2 F_l_mixed) := by
  refine FnOk.imp (fn_ok (m := b_l_mixed) T.f_l_mixed sc_l_mixed fun cdv A outer s H hr => ?_) fun vs H Q E h => sp_gc h
  exact (js_cons (js_set 2 (je_op op_addV (je_op op_addV (je_op op_modV (je_var 0) je_int) (je_op op_mulV je_int (je_var 1))) je_int) sc_l_mixed.nd)
    (js_one (js_ret (je_op op_fdivV (je_op op_modV (je_op op_mulV (je_var 2) (je_var 2)) je_int) je_int))))
theorem sc_l_row_of : FnScope ["_law_cell", "_law_k", "_law_many", "_law_rows", "_law_left", "_law_places", "_law_draws"] ["_law_cell", "_law_k", "_law_many", "_law_rows"] (defScope s_l_row_of) := ⟨rfl, rfl, rfl, by decide +kernel, rfl, by decide +kernel, by decide +kernel⟩
theorem ok_l_row_of (T : Txt K mg Ad) : FnOk P w K mg base CX0 2 Ad.a_l_row_of Ad.d_l_row_of ["_law_cell", "_law_k", "_law_many", "_law_rows"] (spM K 4 F_l_row_of) := by
  refine FnOk.imp (fn_ok (m := b_l_row_of) T.f_l_row_of sc_l_row_of fun cdv A outer s H hr => ?_) fun vs H Q E h => sp_gc h
  exact (js_cons (js_set 4 (je_op op_fdivV (je_var 0) je_int) sc_l_row_of.nd)
    (js_cons (js_set 5 (je_op op_addV (je_var 3) je_int) sc_l_row_of.nd)
    (js_cons (js_set 6 (je_lst (ja_cons (je_op op_modV (je_var 4) je_int) (ja_cons (je_op op_modV (je_op op_fdivV (je_var 4) je_int) (je_var 2)) (ja_cons (je_op op_modV (je_op op_fdivV (je_op op_fdivV (je_var 4) je_int) (je_var 2)) (je_var 5)) (ja_cons (je_op op_modV (je_op op_fdivV (je_op op_fdivV (je_op op_fdivV (je_var 4) je_int) (je_var 2)) (je_var 5)) (je_var 5)) ja_nil))))) sc_l_row_of.nd)
    (js_cons (js_if (jt_cmp (op_eqV (hu200 hr)) (je_op op_modV (je_var 0) je_int) je_int (nomark _)) (js_cons (js_set 6 (je_lst (ja_cons (je_callTy call_intC rfl T.z_int (by decide +kernel) (ja_cons (je_cmp op_gtV (je_op op_modV (je_op op_fdivV (je_call ((ok_l_mixed T).mono (by decide)) hr T.m_l_mixed T.f_l_mixed.kp T.b_l_mixed .nil (fun _ _ => RepVs.nil) (ja_cons (je_var 0) (ja_cons (je_op op_mulV je_int (je_var 1)) ja_nil)) rfl rfl (by decide) rfl rfl (lenA_cons (lenA_cons lenA_nil))) je_int) je_int) je_int (nomark _)) ja_nil)) (ja_cons (je_op op_modV (je_call ((ok_l_mixed T).mono (by decide)) hr T.m_l_mixed T.f_l_mixed.kp T.b_l_mixed .nil (fun _ _ => RepVs.nil) (ja_cons (je_var 0) (ja_cons (je_op op_addV (je_op op_mulV je_int (je_var 1)) je_int) ja_nil)) rfl rfl (by decide) rfl rfl (lenA_cons (lenA_cons lenA_nil))) (je_var 2)) ja_nil))) sc_l_row_of.nd)
    (js_cons (js_set 6 (je_op op_addV (je_var 6) (je_lst (ja_cons (je_op op_modV (je_call ((ok_l_mixed T).mono (by decide)) hr T.m_l_mixed T.f_l_mixed.kp T.b_l_mixed .nil (fun _ _ => RepVs.nil) (ja_cons (je_var 0) (ja_cons (je_op op_addV (je_op op_mulV je_int (je_var 1)) je_int) ja_nil)) rfl rfl (by decide) rfl rfl (lenA_cons (lenA_cons lenA_nil))) (je_var 5)) (ja_cons (je_op op_modV (je_call ((ok_l_mixed T).mono (by decide)) hr T.m_l_mixed T.f_l_mixed.kp T.b_l_mixed .nil (fun _ _ => RepVs.nil) (ja_cons (je_var 0) (ja_cons (je_op op_addV (je_op op_mulV je_int (je_var 1)) je_int) ja_nil)) rfl rfl (by decide) rfl rfl (lenA_cons (lenA_cons lenA_nil))) (je_var 5)) ja_nil)))) sc_l_row_of.nd)
    (js_one (js_if (jt_cmp (op_eqV (hu200 hr)) (je_op op_modV (je_call ((ok_l_mixed T).mono (by decide)) hr T.m_l_mixed T.f_l_mixed.kp T.b_l_mixed .nil (fun _ _ => RepVs.nil) (ja_cons (je_var 0) (ja_cons (je_op op_mulV je_int (je_var 1)) ja_nil)) rfl rfl (by decide) rfl rfl (lenA_cons (lenA_cons lenA_nil))) je_int) je_int (nomark _)) (js_one (js_asg (je_callB (call_min2V rfl) rfl T.z_min (by decide +kernel) (ja_cons (je_op op_addV (je_var 1) je_int) (ja_cons (je_var 3) ja_nil))) (jg_sub set_V (je_var 6) je_int))) js_nil)))) js_nil)
    (js_cons (js_if (jt_cmp (op_eqV (hu200 hr)) (je_ix (je_var 6) je_int) je_int (nomark _)) (js_one (js_ret (je_tup (ja_cons (je_str [117, 112]) (ja_cons (je_ix (je_var 6) je_int) (ja_cons (je_ix (je_var 6) je_int) ja_nil)))))) js_nil)
    (js_one (js_ret (je_tup (ja_cons (je_str [100, 111, 119, 110]) (ja_cons (je_ix (je_var 6) je_int) (ja_cons (je_ix (je_var 6) je_int) (ja_cons (je_ix (je_var 6) je_int) ja_nil))))))))))))
theorem sc_l_program : FnScope ["_law_cells", "_law_many"] ["_law_cells", "_law_many"] (defScope s_l_program) := ⟨rfl, rfl, rfl, by decide +kernel, rfl, by decide +kernel, by decide +kernel⟩
theorem ok_l_program (T : Txt K mg Ad) : FnOk P w K mg base CX0 3 Ad.a_l_program Ad.d_l_program ["_law_cells", "_law_many"] (spM K 2 F_l_program) := by
  refine FnOk.imp (fn_ok (m := b_l_program) T.f_l_program sc_l_program fun cdv A outer s H hr => ?_) fun vs H Q E h => sp_gc h
  exact (js_one (js_ret (je_comp (N := ["_law_many", "_law_cells", "_law_k", "_law_cell"]) (capt := [some 1, some 0, none, none]) (sc0 := defScope s_l_program) (ji_enum (ja_cons (je_var 0) ja_nil) rfl T.z_enumerate) ⟨rfl, by decide +kernel, by decide +kernel⟩ (by decide +kernel) ⟨⟨rfl, by first | exact Or.inl rfl | exact Or.inr rfl, rfl⟩, ⟨⟨rfl, by first | exact Or.inl rfl | exact Or.inr rfl, rfl⟩, trivial⟩⟩ rfl (fun cl C fp s H => (jg_tup 2 rfl (jgs_cons (jg_name 2 (show List.Nodup (["_law_many", "_law_cells", "_law_k", "_law_cell"] : List Str) by decide +kernel)) (jgs_cons (jg_name 3 (show List.Nodup (["_law_many", "_law_cells", "_law_k", "_law_cell"] : List Str) by decide +kernel)) jgs_nil)))) (fun cl C fp s H => jts_nil) (fun cl C fp s H => (je_call ((ok_l_row_of T).mono (by decide)) hr T.m_l_row_of T.f_l_row_of.kp T.b_l_row_of .nil (fun _ _ => RepVs.nil) (ja_cons (je_var 3) (ja_cons (je_var 2) (ja_cons (je_var 0) (ja_cons (je_callB call_lenW rfl T.z_len (by decide +kernel) (ja_cons (je_var 1) ja_nil)) ja_nil)))) rfl rfl (by decide) rfl rfl (lenA_cons (lenA_cons (lenA_cons (lenA_cons lenA_nil)))))))))
theorem sc_l_whole : FnScope ["_law_found"] ["_law_found"] (defScope s_l_whole) := ⟨rfl, rfl, rfl, by decide +kernel, rfl, by decide +kernel, by decide +kernel⟩
theorem ok_l_whole (T : Txt K mg Ad) : FnOk P w K mg base CX0 1 Ad.a_l_whole Ad.d_l_whole ["_law_found"] (spM K 1 F_l_whole) := by
  refine FnOk.imp (fn_ok (m := b_l_whole) T.f_l_whole sc_l_whole fun cdv A outer s H hr => ?_) fun vs H Q E h => sp_gc h
  exact (js_one (js_ret (je_and (je_isV kit_int (je_var 0) rfl T.z_isinstance rfl T.z_int (by decide +kernel) (by decide +kernel)) (je_one (je_not (je_isV kit_bool (je_var 0) rfl T.z_isinstance rfl T.z_bool (by decide +kernel) (by decide +kernel)))))))
theorem sc_l_letters : FnScope ["_law_word", "_law_sign"] ["_law_word"] (defScope s_l_letters) := ⟨rfl, rfl, rfl, by decide +kernel, rfl, by decide +kernel, by decide +kernel⟩
theorem ok_l_letters (T : Txt K mg Ad) : FnOk P w K mg base CX0 1 Ad.a_l_letters Ad.d_l_letters ["_law_word"] (spM K 1 F_l_letters) := by
  refine FnOk.imp (fn_ok (m := b_l_letters) T.f_l_letters sc_l_letters fun cdv A outer s H hr => ?_) fun vs H Q E h => sp_gc h
  exact (js_cons (js_for (ji_str (je_var 0)) (jg_name 1 sc_l_letters.nd) (js_one (js_if (jt_cmp op_notInSV (je_var 1) (je_str [98, 101, 105]) rfl) (js_one (js_ret je_bl)) js_nil)) PassesOwn.never rfl)
    (js_one (js_ret je_bl)))
theorem sc_l_is_rule : FnScope ["_law_rule"] ["_law_rule"] (defScope s_l_is_rule) := ⟨rfl, rfl, rfl, by decide +kernel, rfl, by decide +kernel, by decide +kernel⟩
theorem ok_l_is_rule (T : Txt K mg Ad) : FnOk P w K mg base CX0 2 Ad.a_l_is_rule Ad.d_l_is_rule ["_law_rule"] (spM K 1 F_l_is_rule) := by
  refine FnOk.imp (fn_ok (m := b_l_is_rule) T.f_l_is_rule sc_l_is_rule fun cdv A outer s H hr => ?_) fun vs H Q E h => sp_gc h
  exact (js_cons (js_if (JW.jt (jw_or (jt_not (jt_truth (je_isV kit_tuple (je_var 0) rfl T.z_isinstance rfl T.z_tuple (by decide +kernel) (by decide +kernel)))) (jw_or1 (jt_cmp (op_neV (hu200 hr)) (je_callB call_lenW rfl T.z_len (by decide +kernel) (ja_cons (je_var 0) ja_nil)) je_int (nomark _))))) (js_one (js_ret je_bl)) js_nil)
    (js_cons (js_if (JW.jt (jw_or (jt_not (jt_truth (je_call ((ok_l_whole T).mono (by decide)) hr T.m_l_whole T.f_l_whole.kp T.b_l_whole .nil (fun _ _ => RepVs.nil) (ja_cons (je_ix (je_var 0) je_int) ja_nil) rfl rfl (by decide) rfl rfl (lenA_cons lenA_nil)))) (jw_or (jt_not (jt_truth (je_call ((ok_l_whole T).mono (by decide)) hr T.m_l_whole T.f_l_whole.kp T.b_l_whole .nil (fun _ _ => RepVs.nil) (ja_cons (je_ix (je_var 0) je_int) ja_nil) rfl rfl (by decide) rfl rfl (lenA_cons lenA_nil)))) (jw_or (jt_cmp op_ltV (je_ix (je_var 0) je_int) je_int (nomark _)) (jw_or1 (jt_cmp op_ltV (je_ix (je_var 0) je_int) je_int (nomark _))))))) (js_one (js_ret je_bl)) js_nil)
    (js_cons (js_if (JW.jt (jw_or (jt_not (jt_truth (je_isV kit_str (je_ix (je_var 0) je_int) rfl T.z_isinstance rfl T.z_str (by decide +kernel) (by decide +kernel)))) (jw_or (jt_cmp (op_neV (hu200 hr)) (je_callB call_lenW rfl T.z_len (by decide +kernel) (ja_cons (je_ix (je_var 0) je_int) ja_nil)) je_int (nomark _)) (jw_or1 (jt_not (jt_truth (je_call ((ok_l_letters T).mono (by decide)) hr T.m_l_letters T.f_l_letters.kp T.b_l_letters .nil (fun _ _ => RepVs.nil) (ja_cons (je_ix (je_var 0) je_int) ja_nil) rfl rfl (by decide) rfl rfl (lenA_cons lenA_nil)))))))) (js_one (js_ret je_bl)) js_nil)
    (js_one (js_ret (je_and (je_isV kit_str (je_ix (je_var 0) je_int) rfl T.z_isinstance rfl T.z_str (by decide +kernel) (by decide +kernel)) (je_and (je_cmp op_leV (je_callB call_lenW rfl T.z_len (by decide +kernel) (ja_cons (je_ix (je_var 0) je_int) ja_nil)) je_int (nomark _)) (je_one (je_call ((ok_l_letters T).mono (by decide)) hr T.m_l_letters T.f_l_letters.kp T.b_l_letters .nil (fun _ _ => RepVs.nil) (ja_cons (je_ix (je_var 0) je_int) ja_nil) rfl rfl (by decide) rfl rfl (lenA_cons lenA_nil))))))))))
theorem sc_p_law : FnScope ["_law_script", "_law_many", "_law_program_here", "_law_given", "_law_rules", "_law_keys", "_law_kept"] ["_law_script"] (defScope s_p_law) := ⟨rfl, rfl, rfl, by decide +kernel, rfl, by decide +kernel, by decide +kernel⟩
theorem ok_p_law (T : Txt K mg Ad) : FnOk P w K mg base CX0 5 Ad.a_p_law Ad.d_p_law ["_law_script"] (spM K 1 F_p_law) := by
  refine FnOk.imp (fn_ok (m := b_p_law) T.f_p_law sc_p_law fun cdv A outer s H hr => ?_) fun vs H Q E h => sp_gc h
  exact (js_cons (js_set 1 (je_op op_addV je_int (je_op op_modV (je_call ((ok_l_cell_at T).mono (by decide)) hr T.m_l_cell_at T.f_l_cell_at.kp T.b_l_cell_at .nil (fun _ _ => RepVs.nil) (ja_cons (je_var 0) (ja_cons je_int ja_nil)) rfl rfl (by decide) rfl rfl (lenA_cons (lenA_cons lenA_nil))) je_int)) sc_p_law.nd)
    (js_cons (js_set 2 (je_call ((ok_l_program T).mono (by decide)) hr T.m_l_program T.f_l_program.kp T.b_l_program .nil (fun _ _ => RepVs.nil) (ja_cons (je_slice (je_var 0) (jp_some je_int) (jp_some je_int)) (ja_cons (je_var 1) ja_nil)) rfl rfl (by decide) rfl rfl (lenA_cons (lenA_cons lenA_nil))) sc_p_law.nd)
    (js_cons (js_set 3 (je_callTy call_listC rfl T.z_list (by decide +kernel) (ja_cons (je_var 2) ja_nil)) sc_p_law.nd)
    (js_cons (js_set 4 (je_call ((ok_p_make_rows T).mono (by decide)) hr T.m_p_make_rows T.f_p_make_rows.kp T.b_p_make_rows .nil (fun _ _ => RepVs.nil) (ja_cons (je_var 3) (ja_cons (je_var 1) ja_nil)) rfl rfl (by decide) rfl rfl (lenA_cons (lenA_cons lenA_nil))) sc_p_law.nd)
    (js_cons (js_if (JW.jt (jw_or (jt_not (jt_truth (je_isV kit_list (je_var 4) rfl T.z_isinstance rfl T.z_list (by decide +kernel) (by decide +kernel)))) (jw_or1 (jt_not (jt_truth (je_callB (call_allV hr.hd) rfl T.z_all (by decide +kernel) (ja_cons (je_comp (N := ["_law_rule"]) (capt := [none]) (sc0 := defScope s_p_law) (ji_seq (je_var 4)) ⟨rfl, by decide +kernel, by decide +kernel⟩ (by decide +kernel) trivial rfl (fun cl C fp s H => (jg_name 0 (show List.Nodup (["_law_rule"] : List Str) by decide +kernel))) (fun cl C fp s H => jts_nil) (fun cl C fp s H => (je_call ((ok_l_is_rule T).mono (by decide)) hr T.m_l_is_rule T.f_l_is_rule.kp T.b_l_is_rule .nil (fun _ _ => RepVs.nil) (ja_cons (je_var 0) ja_nil) rfl rfl (by decide) rfl rfl (lenA_cons lenA_nil)))) ja_nil))))))) (js_one (js_ret je_bl)) js_nil)
    (js_cons (js_setComp 5 (N := ["_law_rule"]) (capt := [none]) (sc0 := defScope s_p_law) (ji_seq (je_var 4)) ⟨rfl, by decide +kernel, by decide +kernel⟩ (by decide +kernel) trivial rfl (fun cl C fp s H => (jg_name 0 (show List.Nodup (["_law_rule"] : List Str) by decide +kernel))) (fun cl C fp s H => jts_nil) (fun cl C fp s H => (je_tup (ja_cons (je_ix (je_var 0) je_int) (ja_cons (je_ix (je_var 0) je_int) ja_nil)))) sc_p_law.nd)
    (js_cons (js_if (JW.jt (jw_or (jt_cmp (op_neV (hu200 hr)) (je_lenset hr.hd (Nat.lt_of_le_of_lt (Nat.add_le_add_left (by decide : 5 ≤ 64) _) hr.units) rfl T.z_len (by decide +kernel) rfl T.z_set (by decide +kernel) (je_var 5)) (je_callB call_lenW rfl T.z_len (by decide +kernel) (ja_cons (je_var 5) ja_nil)) (nomark _)) (jw_or1 (jt_cmp (op_inLV (hu200 hr)) (je_tup (ja_cons (je_callB call_lenW rfl T.z_len (by decide +kernel) (ja_cons (je_var 2) ja_nil)) (ja_cons (je_str [98]) ja_nil))) (je_var 5) rfl)))) (js_one (js_ret je_bl)) js_nil)
    (js_cons (js_set 6 (je_callTy call_listC rfl T.z_list (by decide +kernel) (ja_cons (je_var 4) ja_nil)) sc_p_law.nd)
    (js_cons (js_expr (je_meth0 PySem.F.plainAttrs_list PySem.F.slot_list_clear PySem.F.type_list_clear mt_clearV (je_var 4)))
    (js_one (js_ret (je_and (je_cmp (op_eqV (hu200 hr)) (je_call ((ok_p_make_rows T).mono (by decide)) hr T.m_p_make_rows T.f_p_make_rows.kp T.b_p_make_rows .nil (fun _ _ => RepVs.nil) (ja_cons (je_var 3) (ja_cons (je_var 1) ja_nil)) rfl rfl (by decide) rfl rfl (lenA_cons (lenA_cons lenA_nil))) (je_var 6) (nomark _)) (je_one (je_cmp (op_eqV (hu200 hr)) (je_var 3) (je_var 2) (nomark _)))))))))))))))
end
theorem all_mk {l : PySem.W.OpenLaw} {w : World} {K : PySem.W.Frag} {h : Heap} {mg : Str → Option Value} {fa f0 f1 f2 f3 f4 f5 f6 f7 f8 f9 f10 f11 f12 f13 f14 : Addr} (X : K.In h) (G : h.Ns mainGlobals mg) (hfa : mg "law" = some (.ref fa))
    {od0 an0 : Option Addr} {sl0 : Array (Option Value)} {oc0 kV0 dc0 pm0 cd0 ct0 : Value}
    {od1 an1 : Option Addr} {sl1 : Array (Option Value)} {oc1 kV1 dc1 pm1 cd1 ct1 : Value}
    {od2 an2 : Option Addr} {sl2 : Array (Option Value)} {oc2 kV2 dc2 pm2 cd2 ct2 : Value}
    {od3 an3 : Option Addr} {sl3 : Array (Option Value)} {oc3 kV3 dc3 pm3 cd3 ct3 : Value}
    {od4 an4 : Option Addr} {sl4 : Array (Option Value)} {oc4 kV4 dc4 pm4 cd4 ct4 : Value}
    {od5 an5 : Option Addr} {sl5 : Array (Option Value)} {oc5 kV5 dc5 pm5 cd5 ct5 : Value}
    {od6 an6 : Option Addr} {sl6 : Array (Option Value)} {oc6 kV6 dc6 pm6 cd6 ct6 : Value}
    {od7 an7 : Option Addr} {sl7 : Array (Option Value)} {oc7 kV7 dc7 pm7 cd7 ct7 : Value}
    {od8 an8 : Option Addr} {sl8 : Array (Option Value)} {oc8 kV8 dc8 pm8 cd8 ct8 : Value}
    {od9 an9 : Option Addr} {sl9 : Array (Option Value)} {oc9 kV9 dc9 pm9 cd9 ct9 : Value}
    {od10 an10 : Option Addr} {sl10 : Array (Option Value)} {oc10 kV10 dc10 pm10 cd10 ct10 : Value}
    {od11 an11 : Option Addr} {sl11 : Array (Option Value)} {oc11 kV11 dc11 pm11 cd11 ct11 : Value}
    {od12 an12 : Option Addr} {sl12 : Array (Option Value)} {oc12 kV12 dc12 pm12 cd12 ct12 : Value}
    {od13 an13 : Option Addr} {sl13 : Array (Option Value)} {oc13 kV13 dc13 pm13 cd13 ct13 : Value}
    {od14 an14 : Option Addr} {sl14 : Array (Option Value)} {oc14 kV14 dc14 pm14 cd14 ct14 : Value}
    {C_Numbers : Addr} (cz_Numbers : PySem.W.nsIn K mainGlobals "Numbers" = some (some (.ref C_Numbers))) (cp_Numbers : PySem.W.plainGet K C_Numbers Str.empty = true) (ch_Numbers : PySem.W.hasDictIn K C_Numbers = true) (co_Numbers : PySem.W.plainOver K C_Numbers = true) (cs_Numbers : PySem.W.findIn K (.ref C_Numbers) "__setattr__" = some (some (.builtin "object.__setattr__"))) (ck_Numbers : PySem.W.makesIn K C_Numbers = true) (ce_Numbers : PySem.W.keepIn K (.ref C_Numbers) = true)
    (cn_Numbers_first : PySem.W.findIn K (.ref C_Numbers) "first" = some none)
    (cn_Numbers_given : PySem.W.findIn K (.ref C_Numbers) "given" = some none)
    (a0 : PySem.W.findIn K (.ref C_Numbers) "__init__" = some (some (.ref f0))) (i0 : PySem.W.isFn K (.ref f0) = true) (l0 : K.lookup f0 = some ⟨oc0, od0, .func (PySem.W.fnOf "__init__" "Numbers.__init__" (defArgs s_p_Numbers_init) (defBody s_p_Numbers_init) (defScope s_p_Numbers_init) .none kV0 dc0 pm0 an0 cd0 ct0), sl0⟩) (c0 : PySem.W.codeIn K cd0 "Numbers.__init__" = true) (k0 : PySem.W.keepIn K (.ref f0) = true)
    (a1 : PySem.W.findIn K (.ref C_Numbers) "number" = some (some (.ref f1))) (i1 : PySem.W.isFn K (.ref f1) = true) (l1 : K.lookup f1 = some ⟨oc1, od1, .func (PySem.W.fnOf "number" "Numbers.number" (defArgs s_p_Numbers_number) (defBody s_p_Numbers_number) (defScope s_p_Numbers_number) .none kV1 dc1 pm1 an1 cd1 ct1), sl1⟩) (c1 : PySem.W.codeIn K cd1 "Numbers.number" = true) (k1 : PySem.W.keepIn K (.ref f1) = true)
    (a2 : PySem.W.nsIn K mainGlobals "make_rows" = some (some (.ref f2))) (l2 : K.lookup f2 = some ⟨oc2, od2, .func (PySem.W.fnOf "make_rows" "make_rows" (defArgs s_p_make_rows) (defBody s_p_make_rows) (defScope s_p_make_rows) .none kV2 dc2 pm2 an2 cd2 ct2), sl2⟩) (c2 : PySem.W.codeIn K cd2 "make_rows" = true) (k2 : PySem.W.keepIn K (.ref f2) = true)
    (a3 : PySem.W.nsIn K mainGlobals "rules_of_row" = some (some (.ref f3))) (l3 : K.lookup f3 = some ⟨oc3, od3, .func (PySem.W.fnOf "rules_of_row" "rules_of_row" (defArgs s_p_rules_of_row) (defBody s_p_rules_of_row) (defScope s_p_rules_of_row) .none kV3 dc3 pm3 an3 cd3 ct3), sl3⟩) (c3 : PySem.W.codeIn K cd3 "rules_of_row" = true) (k3 : PySem.W.keepIn K (.ref f3) = true)
    (a4 : PySem.W.nsIn K mainGlobals "end_state" = some (some (.ref f4))) (l4 : K.lookup f4 = some ⟨oc4, od4, .func (PySem.W.fnOf "end_state" "end_state" (defArgs s_p_end_state) (defBody s_p_end_state) (defScope s_p_end_state) .none kV4 dc4 pm4 an4 cd4 ct4), sl4⟩) (c4 : PySem.W.codeIn K cd4 "end_state" = true) (k4 : PySem.W.keepIn K (.ref f4) = true)
    (a5 : PySem.W.nsIn K mainGlobals "first_counters" = some (some (.ref f5))) (l5 : K.lookup f5 = some ⟨oc5, od5, .func (PySem.W.fnOf "first_counters" "first_counters" (defArgs s_p_first_counters) (defBody s_p_first_counters) (defScope s_p_first_counters) .none kV5 dc5 pm5 an5 cd5 ct5), sl5⟩) (c5 : PySem.W.codeIn K cd5 "first_counters" = true) (k5 : PySem.W.keepIn K (.ref f5) = true)
    (a6 : PySem.W.nsIn K mainGlobals "rules_to_end" = some (some (.ref f6))) (l6 : K.lookup f6 = some ⟨oc6, od6, .func (PySem.W.fnOf "rules_to_end" "rules_to_end" (defArgs s_p_rules_to_end) (defBody s_p_rules_to_end) (defScope s_p_rules_to_end) .none kV6 dc6 pm6 an6 cd6 ct6), sl6⟩) (c6 : PySem.W.codeIn K cd6 "rules_to_end" = true) (k6 : PySem.W.keepIn K (.ref f6) = true)
    (a7 : PySem.W.nsIn K mainGlobals "_law_cell_at" = some (some (.ref f7))) (l7 : K.lookup f7 = some ⟨oc7, od7, .func (PySem.W.fnOf "_law_cell_at" "_law_cell_at" (defArgs s_l_cell_at) (defBody s_l_cell_at) (defScope s_l_cell_at) .none kV7 dc7 pm7 an7 cd7 ct7), sl7⟩) (c7 : PySem.W.codeIn K cd7 "_law_cell_at" = true) (k7 : PySem.W.keepIn K (.ref f7) = true)
    (a8 : PySem.W.nsIn K mainGlobals "_law_mixed" = some (some (.ref f8))) (l8 : K.lookup f8 = some ⟨oc8, od8, .func (PySem.W.fnOf "_law_mixed" "_law_mixed" (defArgs s_l_mixed) (defBody s_l_mixed) (defScope s_l_mixed) .none kV8 dc8 pm8 an8 cd8 ct8), sl8⟩) (c8 : PySem.W.codeIn K cd8 "_law_mixed" = true) (k8 : PySem.W.keepIn K (.ref f8) = true)
    (a9 : PySem.W.nsIn K mainGlobals "_law_row_of" = some (some (.ref f9))) (l9 : K.lookup f9 = some ⟨oc9, od9, .func (PySem.W.fnOf "_law_row_of" "_law_row_of" (defArgs s_l_row_of) (defBody s_l_row_of) (defScope s_l_row_of) .none kV9 dc9 pm9 an9 cd9 ct9), sl9⟩) (c9 : PySem.W.codeIn K cd9 "_law_row_of" = true) (k9 : PySem.W.keepIn K (.ref f9) = true)
    (a10 : PySem.W.nsIn K mainGlobals "_law_program" = some (some (.ref f10))) (l10 : K.lookup f10 = some ⟨oc10, od10, .func (PySem.W.fnOf "_law_program" "_law_program" (defArgs s_l_program) (defBody s_l_program) (defScope s_l_program) .none kV10 dc10 pm10 an10 cd10 ct10), sl10⟩) (c10 : PySem.W.codeIn K cd10 "_law_program" = true) (k10 : PySem.W.keepIn K (.ref f10) = true)
    (a11 : PySem.W.nsIn K mainGlobals "_law_whole" = some (some (.ref f11))) (l11 : K.lookup f11 = some ⟨oc11, od11, .func (PySem.W.fnOf "_law_whole" "_law_whole" (defArgs s_l_whole) (defBody s_l_whole) (defScope s_l_whole) .none kV11 dc11 pm11 an11 cd11 ct11), sl11⟩) (c11 : PySem.W.codeIn K cd11 "_law_whole" = true) (k11 : PySem.W.keepIn K (.ref f11) = true)
    (a12 : PySem.W.nsIn K mainGlobals "_law_letters" = some (some (.ref f12))) (l12 : K.lookup f12 = some ⟨oc12, od12, .func (PySem.W.fnOf "_law_letters" "_law_letters" (defArgs s_l_letters) (defBody s_l_letters) (defScope s_l_letters) .none kV12 dc12 pm12 an12 cd12 ct12), sl12⟩) (c12 : PySem.W.codeIn K cd12 "_law_letters" = true) (k12 : PySem.W.keepIn K (.ref f12) = true)
    (a13 : PySem.W.nsIn K mainGlobals "_law_is_rule" = some (some (.ref f13))) (l13 : K.lookup f13 = some ⟨oc13, od13, .func (PySem.W.fnOf "_law_is_rule" "_law_is_rule" (defArgs s_l_is_rule) (defBody s_l_is_rule) (defScope s_l_is_rule) .none kV13 dc13 pm13 an13 cd13 ct13), sl13⟩) (c13 : PySem.W.codeIn K cd13 "_law_is_rule" = true) (k13 : PySem.W.keepIn K (.ref f13) = true)
    (a14 : PySem.W.nsIn K mainGlobals "law" = some (some (.ref f14))) (l14 : K.lookup f14 = some ⟨oc14, od14, .func (PySem.W.fnOf "law" "law" (defArgs s_p_law) (defBody s_p_law) (defScope s_p_law) .none kV14 dc14 pm14 an14 cd14 ct14), sl14⟩) (c14 : PySem.W.codeIn K cd14 "law" = true) (k14 : PySem.W.keepIn K (.ref f14) = true)
    (z_all : PySem.W.nsIn K mainGlobals "all" = some none)
    (z_bool : PySem.W.nsIn K mainGlobals "bool" = some none)
    (z_enumerate : PySem.W.nsIn K mainGlobals "enumerate" = some none)
    (z_int : PySem.W.nsIn K mainGlobals "int" = some none)
    (z_isinstance : PySem.W.nsIn K mainGlobals "isinstance" = some none)
    (z_len : PySem.W.nsIn K mainGlobals "len" = some none)
    (z_list : PySem.W.nsIn K mainGlobals "list" = some none)
    (z_min : PySem.W.nsIn K mainGlobals "min" = some none)
    (z_range : PySem.W.nsIn K mainGlobals "range" = some none)
    (z_set : PySem.W.nsIn K mainGlobals "set" = some none)
    (z_str : PySem.W.nsIn K mainGlobals "str" = some none)
    (z_tuple : PySem.W.nsIn K mainGlobals "tuple" = some none)
    : ∃ fd : FuncData, (∀ (s : Shared) (v : Value), BindsTo s fd ⟨[v], []⟩ [("_law_script", v)]) ∧ ∀ base : Heap, K.In base → base.Ns mainGlobals mg → FnOk l.prog w K mg base CX0 5 fa fd ["_law_script"] (spM K 1 F_p_law) := by
  have e := hfa.symm.trans (PySem.W.mg_of X G a14)
  cases e
  have F0 := fun_mk (st := s_p_Numbers_init) l0 c0 k0
  have F1 := fun_mk (st := s_p_Numbers_number) l1 c1 k1
  have F2 := fun_mk (st := s_p_make_rows) l2 c2 k2
  have F3 := fun_mk (st := s_p_rules_of_row) l3 c3 k3
  have F4 := fun_mk (st := s_p_end_state) l4 c4 k4
  have F5 := fun_mk (st := s_p_first_counters) l5 c5 k5
  have F6 := fun_mk (st := s_p_rules_to_end) l6 c6 k6
  have F7 := fun_mk (st := s_l_cell_at) l7 c7 k7
  have F8 := fun_mk (st := s_l_mixed) l8 c8 k8
  have F9 := fun_mk (st := s_l_row_of) l9 c9 k9
  have F10 := fun_mk (st := s_l_program) l10 c10 k10
  have F11 := fun_mk (st := s_l_whole) l11 c11 k11
  have F12 := fun_mk (st := s_l_letters) l12 c12 k12
  have F13 := fun_mk (st := s_l_is_rule) l13 c13 k13
  have F14 := fun_mk (st := s_p_law) l14 c14 k14
  have b0 := F0.binds (ps := ["self", "first"]) fun _ _ _ _ _ _ us hl => match us, hl with | [_, _], _ => rfl
  have b1 := F1.binds (ps := ["self", "key"]) fun _ _ _ _ _ _ us hl => match us, hl with | [_, _], _ => rfl
  have b2 := F2.binds (ps := ["program", "many"]) fun _ _ _ _ _ _ us hl => match us, hl with | [_, _], _ => rfl
  have b3 := F3.binds (ps := ["numbers", "place", "row", "many"]) fun _ _ _ _ _ _ us hl => match us, hl with | [_, _, _, _], _ => rfl
  have b4 := F4.binds (ps := ["numbers", "target", "counter", "many"]) fun _ _ _ _ _ _ us hl => match us, hl with | [_, _, _, _], _ => rfl
  have b5 := F5.binds (ps := ["program"]) fun _ _ _ _ _ _ us hl => match us, hl with | [_], _ => rfl
  have b6 := F6.binds (ps := ["numbers", "target", "first", "many"]) fun _ _ _ _ _ _ us hl => match us, hl with | [_, _, _, _], _ => rfl
  have b7 := F7.binds (ps := ["_law_script", "_law_k"]) fun _ _ _ _ _ _ us hl => match us, hl with | [_, _], _ => rfl
  have b8 := F8.binds (ps := ["_law_cell", "_law_k"]) fun _ _ _ _ _ _ us hl => match us, hl with | [_, _], _ => rfl
  have b9 := F9.binds (ps := ["_law_cell", "_law_k", "_law_many", "_law_rows"]) fun _ _ _ _ _ _ us hl => match us, hl with | [_, _, _, _], _ => rfl
  have b10 := F10.binds (ps := ["_law_cells", "_law_many"]) fun _ _ _ _ _ _ us hl => match us, hl with | [_, _], _ => rfl
  have b11 := F11.binds (ps := ["_law_found"]) fun _ _ _ _ _ _ us hl => match us, hl with | [_], _ => rfl
  have b12 := F12.binds (ps := ["_law_word"]) fun _ _ _ _ _ _ us hl => match us, hl with | [_], _ => rfl
  have b13 := F13.binds (ps := ["_law_rule"]) fun _ _ _ _ _ _ us hl => match us, hl with | [_], _ => rfl
  have b14 := F14.binds (ps := ["_law_script"]) fun _ _ _ _ _ _ us hl => match us, hl with | [_], _ => rfl
  exact ⟨_, fun s v => .of_eq rfl, fun base _ _ => ok_p_law (Ad := ⟨_, _, _, _, _, _, _, _, _, _, _, _, _, _, _, _, _, _, _, _, _, _, _, _, _, _, _, _, _, _, _⟩) ⟨F0, ⟨ck_Numbers, a0, i0, ce_Numbers⟩, b0, F1, ⟨a1, i1, k1⟩, b1, F2, PySem.W.mg_of X G a2, b2, F3, PySem.W.mg_of X G a3, b3, F4, PySem.W.mg_of X G a4, b4, F5, PySem.W.mg_of X G a5, b5, F6, PySem.W.mg_of X G a6, b6, F7, PySem.W.mg_of X G a7, b7, F8, PySem.W.mg_of X G a8, b8, F9, PySem.W.mg_of X G a9, b9, F10, PySem.W.mg_of X G a10, b10, F11, PySem.W.mg_of X G a11, b11, F12, PySem.W.mg_of X G a12, b12, F13, PySem.W.mg_of X G a13, b13, F14, PySem.W.mg_of X G a14, b14, cz_Numbers, PySem.W.mg_of X G cz_Numbers, ⟨cp_Numbers, ch_Numbers, co_Numbers, cs_Numbers⟩, cn_Numbers_first, cn_Numbers_given, PySem.W.mg_none_of X G z_all, PySem.W.mg_none_of X G z_bool, PySem.W.mg_none_of X G z_enumerate, PySem.W.mg_none_of X G z_int, PySem.W.mg_none_of X G z_isinstance, PySem.W.mg_none_of X G z_len, PySem.W.mg_none_of X G z_list, PySem.W.mg_none_of X G z_min, PySem.W.mg_none_of X G z_range, PySem.W.mg_none_of X G z_set, PySem.W.mg_none_of X G z_str, PySem.W.mg_none_of X G z_tuple⟩⟩
end Law
set_option maxHeartbeats 0
namespace M
/-! ### the rows' program that is made of a counters' program: pure -/
structure Rw where
  up : Bool
  c : Nat
  t : Nat
  f : Nat
inductive NK where
  | ah (p k : Nat) | ask (p : Nat) | en (t c : Nat)
  deriving DecidableEq
inductive NS where
  | pl (n : Nat) | nk (k : NK)
  deriving DecidableEq
open NK NS
structure SR where
  s : NS
  x : Nat
  w : List Nat
  g : NS
def endS (many t c : Nat) : NS := if c = many then pl t else nk (en t c)
/-- what is done where the row's counter is reached, by the sign there -/
def turnS (many p : Nat) (r : Rw) (x : Nat) : List Nat × NS := if r.up then ([x, 105], endS many r.t r.c) else ([x], nk (ask p))
def dl (many : Nat) (rows : List Rw) : NS → Nat → Option (List Nat × NS)
  | pl p, 98 => (rows[p]?).map fun r => if r.c = 0 then turnS many p r 98 else ([98], nk (ah p 0))
  | nk (ah p k), 105 => some ([105], nk (ah p k))
  | nk (ah p k), 101 => (rows[p]?).map fun r => if k + 1 = r.c then turnS many p r 101 else ([101], nk (ah p (k + 1)))
  | nk (ask p), 105 => (rows[p]?).map fun r => ([], endS many r.t r.c)
  | nk (ask p), 101 => (rows[p]?).map fun r => ([101], endS many r.f (r.c + 1))
  | nk (en t c), 105 => some ([105], nk (en t c))
  | nk (en t c), 101 => some ([101], endS many t (c + 1))
  | _, _ => none
/-- the rules of a row: the first k of its passages -/
def ahR (p : Nat) : Nat → List SR
  | 0 => []
  | k + 1 => ahR p k ++ [⟨if k = 0 then pl p else nk (ah p (k - 1)), if k = 0 then 98 else 101, [if k = 0 then 98 else 101], nk (ah p k)⟩, ⟨nk (ah p k), 105, [105], nk (ah p k)⟩]
def stA (p k : Nat) : NS := if k = 0 then pl p else nk (ah p (k - 1))
def sgA (k : Nat) : Nat := if k = 0 then 98 else 101
def rowR (many p : Nat) (r : Rw) : List SR :=
  ahR p r.c ++ (if r.up then [⟨stA p r.c, sgA r.c, [sgA r.c, 105], endS many r.t r.c⟩]
    else [⟨stA p r.c, sgA r.c, [sgA r.c], nk (ask p)⟩, ⟨nk (ask p), 105, [], endS many r.t r.c⟩, ⟨nk (ask p), 101, [101], endS many r.f (r.c + 1)⟩])
def enR (many t c : Nat) : List SR := [⟨nk (en t c), 105, [105], nk (en t c)⟩, ⟨nk (en t c), 101, [101], endS many t (c + 1)⟩]
def good (many : Nat) (rows : List Rw) (r : SR) : Prop := dl many rows r.s r.x = some (r.w, r.g)
/-! the lap -/
def tr (δ : NS → Nat → Option (List Nat × NS)) : NS → List Nat → Option (List Nat × NS)
  | s, [] => some ([], s)
  | s, x :: xs => (δ s x).bind fun q => (tr δ q.2 xs).map fun z => (q.1 ++ z.1, z.2)
theorem tr_app (δ : NS → Nat → Option (List Nat × NS)) : ∀ (xs ys : List Nat) (s : NS), tr δ s (xs ++ ys) = (tr δ s xs).bind fun q => (tr δ q.2 ys).map fun z => (q.1 ++ z.1, z.2)
  | [], ys, s => by
    simp only [List.nil_append, tr, Option.bind_some]
    cases tr δ s ys <;> simp
  | x :: xs, ys, s => by
    rw [List.cons_append, tr, tr]
    cases δ s x with
    | none => rfl
    | some q =>
      simp only [Option.bind_some, tr_app δ xs ys q.2]
      cases tr δ q.2 xs with
      | none => rfl
      | some z =>
        simp only [Option.bind_some, Option.map_some]
        cases tr δ z.2 ys <;> simp
def seg (c : Nat) : List Nat := List.replicate c 105 ++ [101]
def segs (cs : List Nat) : List Nat := (cs.map seg).flatten
theorem tr_stay {many : Nat} {rows : List Rw} {s : NS} (h : dl many rows s 105 = some ([105], s)) : ∀ c, tr (dl many rows) s (List.replicate c 105) = some (List.replicate c 105, s)
  | 0 => rfl
  | c + 1 => by rw [List.replicate_succ, tr, h]; simp [tr_stay h c]
theorem tr_seg {many : Nat} {rows : List Rw} {s g : NS} {w : List Nat} (h : dl many rows s 105 = some ([105], s)) (h2 : dl many rows s 101 = some (w, g)) (c : Nat) : tr (dl many rows) s (seg c) = some (List.replicate c 105 ++ w, g) := by
  unfold seg
  rw [tr_app, tr_stay h]
  simp [tr, h2]
/-- from an end's state on: as it was -/
theorem tr_end {many : Nat} {rows : List Rw} (t : Nat) : ∀ (cs : List Nat) (j : Nat), j + cs.length = many → tr (dl many rows) (endS many t j) (segs cs) = some (segs cs, pl t)
  | [], j, h => by
    have : endS many t j = pl t := by unfold endS; rw [if_pos (by simpa using h)]
    rw [this]; rfl
  | c :: cs, j, h => by
    simp only [List.length_cons] at h
    have e : endS many t j = nk (en t j) := by unfold endS; rw [if_neg (by omega)]
    rw [show segs (c :: cs) = seg c ++ segs cs from by simp [segs], tr_app, e, tr_seg (w := [101]) (g := endS many t (j + 1)) (by simp [dl]) (by simp [dl]) c]
    have ih := tr_end (many := many) (rows := rows) t cs (j + 1) (by omega)
    rw [Option.bind_some, ih]
    rfl
/-- the counters ahead of the row's own -/
theorem tr_ahead {many p : Nat} {rows : List Rw} {r : Rw} (h : rows[p]? = some r) : ∀ (cs : List Nat) (j : Nat), 0 < cs.length → j + cs.length = r.c →
    tr (dl many rows) (nk (ah p j)) (segs cs) = some ((segs cs).dropLast ++ (turnS many p r 101).1, (turnS many p r 101).2)
  | [], j, h0, _ => absurd h0 (by simp)
  | [c], j, _, hj => by
    simp only [List.length_cons, List.length_nil] at hj
    rw [show segs [c] = seg c from by simp [segs], tr_seg (w := (turnS many p r 101).1) (g := (turnS many p r 101).2) (by simp [dl]) (by simp [dl, h, show j + 1 = r.c by omega]) c]
    simp [seg]
  | c :: d :: cs, j, _, hj => by
    simp only [List.length_cons] at hj
    have e : segs (c :: d :: cs) = seg c ++ segs (d :: cs) := by simp [segs]
    have ne : segs (d :: cs) ≠ [] := by simp [segs, seg]
    rw [e, tr_app, tr_seg (w := [101]) (g := nk (ah p (j + 1))) (by simp [dl]) (by simp [dl, h, show ¬ j + 1 = r.c by omega]) c]
    simp only [Option.bind_some, tr_ahead h (d :: cs) (j + 1) (by simp) (by simp; omega), Option.map_some]
    rw [List.dropLast_append_of_ne_nil ne]
    simp [seg]
def nth (cs : List Nat) (i : Nat) : Nat := cs.getD i 0
theorem nth_at (xs ys : List Nat) (c i : Nat) (h : xs.length = i) : nth (xs ++ c :: ys) i = c := by subst h; simp [nth, List.getD]
/-- one row's step of counts -/
def stepC (r : Rw) (cs : List Nat) : List Nat × Nat :=
  if r.up then (cs.set r.c (nth cs r.c + 1), r.t) else if nth cs r.c = 0 then (cs, r.f) else (cs.set r.c (nth cs r.c - 1), r.t)
theorem lap {many p : Nat} {rows : List Rw} {r : Rw} (h : rows[p]? = some r) (cs : List Nat) (hl : cs.length = many) (hc : r.c < many) : tr (dl many rows) (pl p) (98 :: segs cs) = some (98 :: segs (stepC r cs).1, pl (stepC r cs).2) := by
  obtain ⟨xs, c, ys, rfl, hx⟩ : ∃ xs c ys, cs = xs ++ c :: ys ∧ xs.length = r.c :=
    ⟨cs.take r.c, cs[r.c]'(by omega), cs.drop (r.c + 1), by rw [← List.drop_eq_getElem_cons, List.take_append_drop], by rw [List.length_take]; omega⟩
  have hy : r.c + 1 + ys.length = many := by rw [← hl]; simp; omega
  have hg : nth (xs ++ c :: ys) r.c = c := nth_at xs ys c r.c hx
  have hset : ∀ v, (xs ++ c :: ys).set r.c v = xs ++ v :: ys := fun v => by rw [← hx]; simp
  have sg : ∀ v, segs (xs ++ v :: ys) = segs xs ++ (seg v ++ segs ys) := fun v => by simp [segs]
  -- behind the sign ahead of the counter
  have after : ∀ (x : Nat), ∃ w, tr (dl many rows) (turnS many p r x).2 (seg c ++ segs ys) = some (w, pl (stepC r (xs ++ c :: ys)).2) ∧ (turnS many p r x).1 ++ w = x :: (seg (nth (stepC r (xs ++ c :: ys)).1 r.c) ++ segs ys) := by
    intro x
    have eN : ∀ t, endS many t r.c = nk (en t r.c) := fun t => by unfold endS; rw [if_neg (by omega)]
    by_cases cu : r.up = true
    · refine ⟨seg c ++ segs ys, ?_, ?_⟩
      · rw [show (turnS many p r x).2 = endS many r.t r.c from by simp [turnS, cu], eN, tr_app, tr_seg (w := [101]) (g := endS many r.t (r.c + 1)) (by simp [dl]) (by simp [dl]) c]
        simp only [Option.bind_some, tr_end r.t ys (r.c + 1) hy, Option.map_some]
        simp [seg, stepC, cu]
      · simp only [stepC, cu, if_true, hg, hset]
        have : nth (xs ++ (c + 1) :: ys) r.c = c + 1 := nth_at xs ys _ r.c hx
        rw [this]
        simp [turnS, cu, seg, List.replicate_succ]
    · by_cases c0 : c = 0
      · subst c0
        refine ⟨[101] ++ segs ys, ?_, ?_⟩
        · rw [show (turnS many p r x).2 = nk (ask p) from by simp [turnS, cu], show seg 0 = [101] from rfl, tr_app]
          have : tr (dl many rows) (nk (ask p)) [101] = some ([101], endS many r.f (r.c + 1)) := by simp [tr, dl, h]
          rw [this]
          simp only [Option.bind_some, tr_end r.f ys (r.c + 1) hy, Option.map_some]
          simp [stepC, cu, hg]
        · simp [turnS, cu, stepC, hg, seg]
      · refine ⟨seg (c - 1) ++ segs ys, ?_, ?_⟩
        · obtain ⟨d, rfl⟩ : ∃ d, c = d + 1 := ⟨c - 1, by omega⟩
          rw [show (turnS many p r x).2 = nk (ask p) from by simp [turnS, cu], show seg (d + 1) ++ segs ys = [105] ++ (seg d ++ segs ys) from by simp [seg, List.replicate_succ], tr_app]
          have : tr (dl many rows) (nk (ask p)) [105] = some ([], endS many r.t r.c) := by simp [tr, dl, h]
          rw [this, Option.bind_some, eN, tr_app, tr_seg (w := [101]) (g := endS many r.t (r.c + 1)) (by simp [dl]) (by simp [dl]) d]
          simp only [Option.bind_some, tr_end r.t ys (r.c + 1) hy, Option.map_some]
          simp [seg, stepC, cu, hg]
        · simp only [stepC, cu, hg, c0, if_false, hset, Bool.false_eq_true]
          have : nth (xs ++ (c - 1) :: ys) r.c = c - 1 := nth_at xs ys _ r.c hx
          rw [this]
          simp [turnS, cu]
  have res : segs (stepC r (xs ++ c :: ys)).1 = segs xs ++ (seg (nth (stepC r (xs ++ c :: ys)).1 r.c) ++ segs ys) := by
    have : ∃ v, (stepC r (xs ++ c :: ys)).1 = xs ++ v :: ys := by
      unfold stepC
      by_cases cu : r.up = true
      · simp only [cu, if_true, hset]; exact ⟨_, rfl⟩
      · by_cases c0 : c = 0
        · subst c0; simp only [cu, hg, if_true, if_false, Bool.false_eq_true]; exact ⟨_, rfl⟩
        · simp only [cu, hg, c0, if_false, hset, Bool.false_eq_true]; exact ⟨_, rfl⟩
    obtain ⟨v, e⟩ := this
    rw [e, sg]
    rw [nth_at xs ys v r.c hx]
  rw [sg, res]
  by_cases c0 : r.c = 0
  · have hx0 : xs = [] := List.length_eq_zero_iff.mp (by omega)
    subst hx0
    obtain ⟨w, h1, h2⟩ := after 98
    rw [tr]
    have : dl many rows (pl p) 98 = some (turnS many p r 98) := by simp [dl, h, c0]
    rw [this, Option.bind_some, show segs [] = [] from rfl, List.nil_append, h1, Option.map_some]
    show some ((turnS many p r 98).1 ++ w, _) = _
    rw [h2]; rfl
  · obtain ⟨w, h1, h2⟩ := after 101
    rw [tr]
    have : dl many rows (pl p) 98 = some ([98], nk (ah p 0)) := by simp [dl, h, c0]
    rw [this, Option.bind_some, tr_app, tr_ahead h xs 0 (by omega) (by omega)]
    simp only [Option.bind_some, h1, Option.map_some]
    have ne : segs xs ≠ [] := by
      cases xs with
      | nil => exact absurd hx.symm c0
      | cons a as => simp [segs, seg]
    have last : segs xs = (segs xs).dropLast ++ [101] := by
      have e1 := (List.dropLast_concat_getLast ne).symm
      have : (segs xs).getLast ne = 101 := by
        clear h1 h2 res sg hset hg hy hl after e1
        obtain ⟨as, a, rfl⟩ : ∃ as a, xs = as ++ [a] := by
          rcases List.eq_nil_or_concat xs with rfl | ⟨as, a, rfl⟩
          · exact (ne (by simp [segs])).elim
          · exact ⟨as, a, by simp⟩
        simp [segs, seg]
      rw [this] at e1
      exact e1
    rw [List.append_assoc, h2]
    conv => rhs; rw [last]
    simp
end M
set_option maxHeartbeats 0
namespace M
open NK NS L2
/-! ### numbers that are given -/
def keyK : NK → List Key
  | ah p k => [.inr (strOf [97, 104, 101, 97, 100]), .inl (p : Nat), .inl (k : Nat)]
  | ask p => [.inr (strOf [97, 115, 107]), .inl (p : Nat)]
  | en t c => [.inr (strOf [101, 110, 100]), .inl (t : Nat), .inl (c : Nat)]
def keyT' : NK → List D
  | ah p k => [.str [97, 104, 101, 97, 100], .int (p : Nat), .int (k : Nat)]
  | ask p => [.str [97, 115, 107], .int (p : Nat)]
  | en t c => [.str [101, 110, 100], .int (t : Nat), .int (c : Nat)]
theorem keys_K (k : NK) : keysOf (keyT' k) = some (keyK k) := by cases k <;> rfl
theorem strOf_eqN {a b : List Nat} : (strOf a = strOf b) ↔ a = b := by
  constructor
  · intro h
    have := congrArg (fun s => s.cps.toList) h
    simpa [strOf] using this
  · rintro rfl; rfl
theorem keyK_inj {a b : NK} (h : keyK a = keyK b) : a = b := by
  cases a <;> cases b <;> simp [keyK, strOf_eqN] at h
  · obtain ⟨h1, h2⟩ := h; rw [show _ = _ from Int.ofNat.inj h1, show _ = _ from Int.ofNat.inj h2]
  · rw [show _ = _ from Int.ofNat.inj h]
  · obtain ⟨h1, h2⟩ := h; rw [show _ = _ from Int.ofNat.inj h1, show _ = _ from Int.ofNat.inj h2]
def pos (k : NK) : List NK → Nat
  | [] => 0
  | j :: ks => if j = k then 0 else pos k ks + 1
theorem pos_app {k : NK} {ks : List NK} (h : k ∈ ks) (l : List NK) : pos k (ks ++ l) = pos k ks := by
  induction ks with
  | nil => exact nomatch h
  | cons j ks ih =>
    rw [List.cons_append, pos, pos]
    by_cases e : j = k
    · rw [if_pos e, if_pos e]
    · rw [if_neg e, if_neg e, ih (by rcases List.mem_cons.mp h with z | z; exact absurd z.symm e; exact z)]
theorem pos_get {k : NK} {ks : List NK} (h : k ∈ ks) : ks[pos k ks]? = some k := by
  induction ks with
  | nil => exact nomatch h
  | cons j ks ih =>
    rw [pos]
    by_cases e : j = k
    · rw [if_pos e, e]; rfl
    · rw [if_neg e, List.getElem?_cons_succ]
      exact ih (by rcases List.mem_cons.mp h with z | z; exact absurd z.symm e; exact z)
def kvsN : Nat → List NK → List (List Key × D)
  | _, [] => []
  | f, k :: ks => (keyK k, .int (f : Nat)) :: kvsN (f + 1) ks
theorem kvsN_len : ∀ (f : Nat) (ks : List NK), (kvsN f ks).length = ks.length
  | _, [] => rfl
  | f, k :: ks => by rw [kvsN, List.length_cons, kvsN_len, List.length_cons]
theorem kvsN_snoc : ∀ (f : Nat) (ks : List NK) (k : NK), kvsN f (ks ++ [k]) = kvsN f ks ++ [(keyK k, .int ((f + ks.length : Nat) : Int))]
  | f, [], k => by simp [kvsN]
  | f, j :: ks, k => by
    rw [List.cons_append, kvsN, kvsN_snoc (f + 1) ks k, kvsN]
    simp only [List.cons_append, List.length_cons]
    congr 6; omega
theorem valM_N : ∀ (f : Nat) (ks : List NK) (k : NK), valM (kvsN f ks) (keyK k) = if k ∈ ks then some (.int ((f + pos k ks : Nat) : Int)) else none
  | f, [], k => by simp [kvsN]
  | f, j :: ks, k => by
    rw [kvsN, valM_cons, valM_N (f + 1) ks k]
    by_cases h : j = k
    · subst h; simp [pos]
    · have hk : ¬ keyK j = keyK k := fun z => h (keyK_inj z)
      rw [if_neg hk]
      by_cases hm : k ∈ ks
      · rw [if_pos hm, if_pos (by simp [hm]), pos, if_neg h]
        congr 3; omega
      · rw [if_neg hm, if_neg (by simp [hm]; exact fun z => h z.symm)]
theorem any_N (f : Nat) (ks : List NK) (k : NK) (h : k ∉ ks) : ((kvsN f ks).any fun kv => decide (kv.1 = keyK k)) = false := by
  induction ks generalizing f with
  | nil => rfl
  | cons j ks ih =>
    rw [kvsN, List.any_cons, ih (f + 1) (fun z => h (by simp [z]))]
    have : ¬ keyK j = keyK k := fun z => h (by simp [keyK_inj z])
    simp [this]
def reg (ks : List NK) (k : NK) : List NK := if k ∈ ks then ks else ks ++ [k]
theorem reg_mem (ks : List NK) (k : NK) : k ∈ reg ks k := by unfold reg; split; assumption; simp
theorem reg_pre (ks : List NK) (k : NK) : ∃ l, reg ks k = ks ++ l := by unfold reg; split; exact ⟨[], by simp⟩; exact ⟨[k], rfl⟩
theorem reg_nodup {ks : List NK} (h : ks.Nodup) (k : NK) : (reg ks k).Nodup := by
  unfold reg
  split
  · exact h
  · rename_i hn
    rw [List.nodup_append]
    exact ⟨h, by simp, fun a ha b hb e => by
      have hb : b = k := by simpa using hb
      rw [hb] at e; exact hn (e ▸ ha)⟩
theorem reg_len (ks : List NK) (k : NK) : (reg ks k).length ≤ ks.length + 1 := by unfold reg; split <;> simp
/-- the number of a symbol -/
def numS (f : Nat) (ks : List NK) : NS → Nat
  | pl n => n
  | nk k => f + pos k ks
def inS (ks : List NK) : NS → Prop
  | pl _ => True
  | nk k => k ∈ ks
theorem inS_mono {ks : List NK} {s : NS} (l : List NK) (h : inS ks s) : inS (ks ++ l) s := by
  cases s with
  | pl n => trivial
  | nk k => exact List.mem_append_left _ h
theorem numS_mono {f : Nat} {ks : List NK} {s : NS} (l : List NK) (h : inS ks s) : numS f (ks ++ l) s = numS f ks s := by
  cases s with
  | pl n => rfl
  | nk k => show f + pos k (ks ++ l) = f + pos k ks; rw [pos_app h]
theorem numS_inj {f : Nat} {ks : List NK} {s u : NS} (h1 : inS ks s) (h2 : inS ks u) (hp : ∀ n, s = pl n → n < f) (hq : ∀ n, u = pl n → n < f) (e : numS f ks s = numS f ks u) : s = u := by
  cases s with
  | pl n =>
    cases u with
    | pl m => exact congrArg pl e
    | nk k => have := hp n rfl; simp only [numS] at e; omega
  | nk j =>
    cases u with
    | pl m => have := hq m rfl; simp only [numS] at e; omega
    | nk k =>
      simp only [numS] at e
      have e2 : pos j ks = pos k ks := by omega
      have h1 : j ∈ ks := h1
      have h2 : k ∈ ks := h2
      have a := pos_get h1
      have b := pos_get h2
      rw [e2, b] at a
      cases a; rfl
def encSR (f : Nat) (ks : List NK) (r : SR) : D := .tup [.int (numS f ks r.s : Nat), .str [r.x], .str r.w, .int (numS f ks r.g : Nat)]
def inR (ks : List NK) (r : SR) : Prop := inS ks r.s ∧ inS ks r.g
theorem encSR_mono {f : Nat} {ks : List NK} {r : SR} (l : List NK) (h : inR ks r) : encSR f (ks ++ l) r = encSR f ks r := by
  unfold encSR; rw [numS_mono l h.1, numS_mono l h.2]
theorem encSRs_mono {f : Nat} {ks : List NK} {rs : List SR} (l : List NK) (h : ∀ r ∈ rs, inR ks r) : rs.map (encSR f (ks ++ l)) = rs.map (encSR f ks) := List.map_congr_left fun r hr => encSR_mono l (h r hr)
def wf (st : Stor) : Prop := ∀ o ∈ st, underO st.length o
theorem wf_set {st : Stor} {n : Nat} {o : MO} (h : wf st) (ho : underO st.length o) : ∀ q ∈ st.set n o, underO st.length q := by
  intro q hq
  rcases List.mem_or_eq_of_mem_set hq with hq | rfl
  · exact h q hq
  · exact ho
theorem under_N (n f : Nat) (ks : List NK) : underO n (.dic (kvsN f ks)) := by
  induction ks generalizing f with
  | nil => intro p hp; exact nomatch hp
  | cons k ks ih =>
    intro p hp
    rcases List.mem_cons.mp hp with rfl | hp
    · simp
    · exact ih (f + 1) p hp
theorem encSR_under (n f : Nat) (ks : List NK) (r : SR) : under n (encSR f ks r) := by simp [encSR]
theorem encSRs_under (n f : Nat) (ks : List NK) (rs : List SR) : unders n (rs.map (encSR f ks)) := by
  induction rs with
  | nil => simp
  | cons r rs ih => simp [ih, encSR_under]
end M
namespace Law
open L2 M NK NS
/-- the numbers lie at a, what is given at b -/
structure Num (st : Stor) (a b f : Nat) (ks : List NK) : Prop where
  ins : st[a]? = some (.ins "Numbers" [("first", .int (f : Nat)), ("given", .loc b)])
  dic : st[b]? = some (.dic (kvsN f ks))
  ne : a ≠ b
  wf : M.wf st
theorem Num.set {st : Stor} {a b f : Nat} {ks ks' : List NK} (h : Num st a b f ks) : Num (st.set b (.dic (kvsN f ks'))) a b f ks' := by
  have hb := (List.getElem?_eq_some_iff.mp h.dic).1
  refine ⟨by rw [List.getElem?_set_ne (Ne.symm h.ne)]; exact h.ins, List.getElem?_set_self hb, h.ne, ?_⟩
  intro o ho
  rw [List.length_set]
  exact wf_set h.wf (under_N _ _ _) o ho
theorem set_id {st : Stor} {n : Nat} {o : MO} (h : st[n]? = some o) : st.set n o = st := List.ext_getElem? fun i => by
  by_cases e : n = i
  · subst e; rw [List.getElem?_set_self (List.getElem?_eq_some_iff.mp h).1, h]
  · rw [List.getElem?_set_ne e]
theorem look_first (x y : D) : List.lookup ("first" : PySem.Str) [(("first" : PySem.Str), x), (("given" : PySem.Str), y)] = some x := by
  rw [List.lookup]; simp
theorem look_given (x y : D) : List.lookup ("given" : PySem.Str) [(("first" : PySem.Str), x), (("given" : PySem.Str), y)] = some y := by
  have : (("given" : PySem.Str) == ("first" : PySem.Str)) = false := by decide
  rw [List.lookup, this, List.lookup]; simp
theorem look_number (x y : D) : List.lookup ("number" : PySem.Str) [(("first" : PySem.Str), x), (("given" : PySem.Str), y)] = none := by
  have h1 : (("number" : PySem.Str) == ("first" : PySem.Str)) = false := by decide
  have h2 : (("number" : PySem.Str) == ("given" : PySem.Str)) = false := by decide
  simp only [List.lookup, h1, h2]
theorem fld_given {st : Stor} {a b f : Nat} {ks : List NK} (h : Num st a b f ks) (m : ME) (env : MEnv) (hm : m env st = .ok (.loc a) st) : fldE "Numbers" "given" m env st = .ok (.loc b) st := by
  unfold fldE
  rw [hm, R.bind_ok]
  simp only [h.ins]
  simp only [if_true, look_given]
theorem fld_first {st : Stor} {a b f : Nat} {ks : List NK} (h : Num st a b f ks) (m : ME) (env : MEnv) (hm : m env st = .ok (.loc a) st) : fldE "Numbers" "first" m env st = .ok (.int (f : Nat)) st := by
  unfold fldE
  rw [hm, R.bind_ok]
  simp only [h.ins]
  simp only [if_true, look_first]
theorem number_ok {st : Stor} {a b f : Nat} {ks : List NK} (h : Num st a b f ks) (hl : ks.length < 100000) (k : NK) :
    F_p_Numbers_number [.loc a, .tup (keyT' k)] st = .ok (.int (numS f (reg ks k) (nk k) : Nat)) (st.set b (.dic (kvsN f (reg ks k)))) := by
  have hb := (List.getElem?_eq_some_iff.mp h.dic).1
  have v0 := valM_N f ks k
  have g1 : ∀ (x : Option D), fldE "Numbers" "given" (vr 0) [some (.loc a), x] st = .ok (.loc b) st := fun x => fld_given h _ _ rfl
  have g2 : ∀ (x : Option D), fldE "Numbers" "first" (vr 0) [some (.loc a), x] st = .ok (.int (f : Nat)) st := fun x => fld_first h _ _ rfl
  have i1 : inDV true (.tup (keyT' k)) (.loc b) st = .ok (.bl (!decide (k ∈ ks))) st := by
    simp only [inDV, h.dic, keys_K, v0]
    by_cases c : k ∈ ks <;> simp [c]
  have h' : Num (st.set b (.dic (kvsN f (reg ks k)))) a b f (reg ks k) := h.set
  have g3 : ∀ (x : Option D), fldE "Numbers" "given" (vr 0) [some (.loc a), x] (st.set b (.dic (kvsN f (reg ks k)))) = .ok (.loc b) (st.set b (.dic (kvsN f (reg ks k)))) := fun x => fld_given h' _ _ rfl
  have ix : ixD (.loc b) (.tup (keyT' k)) (st.set b (.dic (kvsN f (reg ks k)))) = .ok (.int (numS f (reg ks k) (nk k) : Nat)) (st.set b (.dic (kvsN f (reg ks k)))) := by
    simp only [ixD, h'.dic, keys_K, valM_N]
    rw [if_pos (reg_mem ks k)]; rfl
  have hu : gcM st (.ok (.int (numS f (reg ks k) (nk k) : Nat)) (st.set b (.dic (kvsN f (reg ks k))))) = .ok (.int (numS f (reg ks k) (nk k) : Nat)) (st.set b (.dic (kvsN f (reg ks k)))) := by
    have := gcM_flat (st := st) (st' := st.set b (.dic (kvsN f (reg ks k)))) (g := []) (d := .int (numS f (reg ks k) (nk k) : Nat)) (by simp) (wf_set h.wf (under_N _ _ _)) (by simp)
    simpa using this
  unfold F_p_Numbers_number gcFM fnM b_p_Numbers_number
  rw [show startM 2 [D.loc a, .tup (keyT' k)] = [some (.loc a), some (.tup (keyT' k))] from rfl]
  generalize hG : fldE "Numbers" "given" (vr 0) = G at *
  generalize hF : fldE "Numbers" "first" (vr 0) = FF at *
  by_cases c : k ∈ ks
  · have er : reg ks k = ks := if_pos c
    rw [er] at hu ix ⊢
    rw [set_id h.dic] at hu ix ⊢
    rw [decide_eq_true c] at i1
    generalize keyT' k = KT at *
    generalize ((numS f ks (nk k) : Nat) : Int) = N at *
    simp [g1, i1, ix]
    exact hu
  · have er : reg ks k = ks ++ [k] := if_neg c
    rw [decide_eq_false c] at i1
    have ln : lenW [.loc b] st = .ok (.int (ks.length : Nat)) st := by simp only [lenW, h.dic, kvsN_len]
    have e1 : ((f : Nat) : Int) + ((ks.length : Nat) : Int) = ((f + ks.length : Nat) : Int) := by omega
    have sd : setDV (.loc b) (.tup (keyT' k)) (.int ((f + ks.length : Nat) : Int)) st = .ok () (st.set b (.dic (kvsN f (reg ks k)))) := by
      simp only [setDV, h.dic, keys_K]
      rw [if_pos (by rw [kvsN_len]; omega), er, kvsN_snoc]
      unfold putM
      rw [any_N f ks k c, if_neg (by simp)]
    generalize st.set b (.dic (kvsN f (reg ks k))) = Z at *
    generalize keyT' k = KT at *
    generalize ((numS f (reg ks k) (nk k) : Nat) : Int) = N at *
    generalize ((f + ks.length : Nat) : Int) = FL at *
    simp [g1, g2, i1, ln, e1, sd, g3, ix]
    exact hu
end Law
set_option maxHeartbeats 0
namespace M
mutual
theorem under_le {n m : Nat} (h : n ≤ m) : ∀ (d : D), under n d → under m d
  | .non, _ => by simp
  | .bl _, _ => by simp
  | .int _, _ => by simp
  | .str _, _ => by simp
  | .tup ds, u => by rw [under_tup] at *; exact unders_le h ds u
  | .loc k, u => by rw [under_loc] at *; omega
theorem unders_le {n m : Nat} (h : n ≤ m) : ∀ (ds : List D), unders n ds → unders m ds
  | [], _ => by simp
  | d :: ds, u => by rw [unders_cons] at *; exact ⟨under_le h d u.1, unders_le h ds u.2⟩
end
theorem underO_le {n m : Nat} (h : n ≤ m) (o : MO) (u : underO n o) : underO m o := by
  cases o with
  | lst ds => exact unders_le h ds u
  | frz ds => exact unders_le h ds u
  | dic kvs => exact fun p hp => under_le h _ (u p hp)
  | dkc kvs => exact fun p hp => under_le h _ (u p hp)
  | dkf kvs => exact fun p hp => under_le h _ (u p hp)
  | ins c fs => exact fun p hp => under_le h _ (u p hp)
  | tab x => trivial
  | clo j l ds => exact unders_le h ds u
  | hid => trivial
  | dtf kvs => exact fun p hp => under_le h _ (u p hp)
  | exc c d => exact under_le h _ u
theorem wf_app {st g : Stor} (h : wf st) (hg : ∀ o ∈ g, underO (st ++ g).length o) : wf (st ++ g) := by
  intro o ho
  rcases List.mem_append.mp ho with ho | ho
  · exact underO_le (by simp) o (h o ho)
  · exact hg o ho
end M
namespace Law
open L2 M NK NS
theorem Num.app {st g : Stor} {a b f : Nat} {ks : List NK} (h : Num st a b f ks) (hg : ∀ o ∈ g, underO (st ++ g).length o) : Num (st ++ g) a b f ks :=
  ⟨get_app h.ins, get_app h.dic, h.ne, wf_app h.wf hg⟩
theorem set_set {st : Stor} {n : Nat} {o q : MO} : (st.set n o).set n q = st.set n q := by simp
def regS (ks : List NK) : NS → List NK
  | pl _ => ks
  | nk k => reg ks k
theorem regS_in (ks : List NK) (s : NS) : inS (regS ks s) s := by
  cases s with
  | pl n => trivial
  | nk k => exact reg_mem ks k
theorem regS_pre (ks : List NK) (s : NS) : ∃ l, regS ks s = ks ++ l := by
  cases s with
  | pl n => exact ⟨[], by simp [regS]⟩
  | nk k => exact reg_pre ks k
theorem regS_nodup {ks : List NK} (h : ks.Nodup) (s : NS) : (regS ks s).Nodup := by
  cases s with
  | pl n => exact h
  | nk k => exact reg_nodup h k
theorem regS_len (ks : List NK) (s : NS) : (regS ks s).length ≤ ks.length + 1 := by
  cases s with
  | pl n => simp [regS]
  | nk k => exact reg_len ks k
/-- a method's call -/
theorem meth_ok {st st2 : Stor} {a b f : Nat} {ks : List NK} (h : Num st a b f ks) (hl : ks.length < 100000) (k : NK) (mo : ME) (mA : MA) (env : MEnv) (h1 : mo env st = .ok (.loc a) st) (h2 : mA env st = .ok [.tup (keyT' k)] st) :
    methI "Numbers" "number" F_p_Numbers_number mo mA env st = .ok (.int (numS f (reg ks k) (nk k) : Nat)) (st.set b (.dic (kvsN f (reg ks k)))) := by
  unfold methI
  rw [h1, R.bind_ok]
  simp only [h.ins]
  rw [if_pos ⟨trivial, look_number _ _⟩, h2, R.bind_ok]
  rw [number_ok h hl k]
  simp only [h.ins]
  rfl
theorem end_state_ok {st : Stor} {a b f : Nat} {ks : List NK} (h : Num st a b f ks) (hl : ks.length < 100000) (t c many : Nat) :
    F_p_end_state [.loc a, .int (t : Nat), .int (c : Nat), .int (many : Nat)] st = .ok (.int (numS f (regS ks (endS many t c)) (endS many t c) : Nat)) (st.set b (.dic (kvsN f (regS ks (endS many t c))))) := by
  unfold F_p_end_state gcFM fnM b_p_end_state
  rw [show startM 4 [D.loc a, .int (t : Nat), .int (c : Nat), .int (many : Nat)] = [some (.loc a), some (.int (t : Nat)), some (.int (c : Nat)), some (.int (many : Nat))] from rfl]
  by_cases e : c = many
  · have e1 : endS many t c = pl t := if_pos e
    rw [e1]
    simp only [regS, numS]
    rw [set_id h.dic]
    have e2 : ((c : Nat) : Int) = ((many : Nat) : Int) := by rw [e]
    have hu : gcM st (.ok (.int (t : Nat)) st) = .ok (.int (t : Nat)) st := by
      have := gcM_flat (st := st) (st' := st) (g := []) (d := .int (t : Nat)) rfl h.wf (by simp)
      simpa using this
    generalize methI _ _ _ _ _ = MI
    generalize ((t : Nat) : Int) = T at *
    generalize ((many : Nat) : Int) = MM at *
    rw [e2]
    simp
    exact hu
  · have e1 : endS many t c = nk (en t c) := if_neg e
    rw [e1]
    simp only [regS]
    have e2 : ¬ ((c : Nat) : Int) = ((many : Nat) : Int) := by omega
    have mt := meth_ok (st2 := st) h hl (en t c) (vr 0) (consA (tupE (consA (ct (.str [101, 110, 100])) (consA (vr 1) (consA (vr 2) nilA)))) nilA) [some (.loc a), some (.int (t : Nat)), some (.int (c : Nat)), some (.int (many : Nat))] rfl (by simp [keyT'])
    have hu : gcM st (.ok (.int (numS f (reg ks (en t c)) (nk (en t c)) : Nat)) (st.set b (.dic (kvsN f (reg ks (en t c)))))) = .ok (.int (numS f (reg ks (en t c)) (nk (en t c)) : Nat)) (st.set b (.dic (kvsN f (reg ks (en t c))))) := by
      have := gcM_flat (st := st) (st' := st.set b (.dic (kvsN f (reg ks (en t c))))) (g := []) (d := .int (numS f (reg ks (en t c)) (nk (en t c)) : Nat)) (by simp) (wf_set h.wf (under_N _ _ _)) (by simp)
      simpa using this
    generalize methI _ _ _ _ _ = MI at *
    generalize st.set b (.dic (kvsN f (reg ks (en t c)))) = Z at *
    generalize ((numS f (reg ks (en t c)) (nk (en t c)) : Nat) : Int) = N at *
    generalize ((t : Nat) : Int) = T at *
    generalize ((c : Nat) : Int) = CC at *
    generalize ((many : Nat) : Int) = MM at *
    simp [e2, mt]
    exact hu
/-- the store while a list of rules is made -/
def SS (st : Stor) (b f : Nat) (ks : List NK) (rl : List D) : Stor := st.set b (.dic (kvsN f ks)) ++ [.lst rl]
theorem SS.set {st : Stor} {a b f : Nat} {ks0 ks ks2 : List NK} {rl : List D} (h : Num st a b f ks0) : (SS st b f ks rl).set b (.dic (kvsN f ks2)) = SS st b f ks2 rl := by
  unfold SS
  have hb := (List.getElem?_eq_some_iff.mp h.dic).1
  rw [List.set_append_left _ _ (by simpa using hb), set_set]
theorem SS.num {st : Stor} {a b f : Nat} {ks0 ks : List NK} {rl : List D} (h : Num st a b f ks0) (hu : ∀ n, unders n rl) : Num (SS st b f ks rl) a b f ks :=
  (h.set (ks' := ks)).app (by intro o ho; have : o = _ := List.mem_singleton.mp ho; subst this; exact hu _)
theorem SS.app {st : Stor} {a b f : Nat} {ks0 ks : List NK} {rl : List D} (h : Num st a b f ks0) (hl : rl.length < 1000000) (d : D) : appendV (.loc st.length) [d] (SS st b f ks rl) = .ok .non (SS st b f ks (rl ++ [d])) := by
  have e : (st.set b (.dic (kvsN f ks))).length = st.length := by simp
  unfold SS
  rw [← e]
  generalize st.set b (.dic (kvsN f ks)) = Z
  simp [appendV, hl]
theorem SS.ty {st : Stor} {b f : Nat} {ks : List NK} {rl : List D} : isTy "list" (.loc st.length) (SS st b f ks rl) = true := by
  have e : (st.set b (.dic (kvsN f ks))).length = st.length := by simp
  unfold SS
  rw [← e]
  generalize st.set b (.dic (kvsN f ks)) = Z
  simp [isTy]
theorem SS.gc {st : Stor} {a b f : Nat} {ks0 ks : List NK} {rl : List D} (h : Num st a b f ks0) (hu : ∀ n, unders n rl) : gcM st (.ok (.loc st.length) (SS st b f ks rl)) = .ok (.loc st.length) (SS st b f ks rl) := by
  have := gcM_new (st := st) (st' := st.set b (.dic (kvsN f ks))) (g := []) (g' := []) (o := .lst rl) (by simp) (wf_set h.wf (under_N _ _ _)) (hu _)
  simpa [SS] using this
theorem SS.end_ {st : Stor} {a b f : Nat} {ks0 ks : List NK} {rl : List D} (h : Num st a b f ks0) (hu : ∀ n, unders n rl) (hl : ks.length < 100000) (t c many : Nat) :
    F_p_end_state [.loc a, .int (t : Nat), .int (c : Nat), .int (many : Nat)] (SS st b f ks rl) = .ok (.int (numS f (regS ks (endS many t c)) (endS many t c) : Nat)) (SS st b f (regS ks (endS many t c)) rl) := by
  rw [end_state_ok (SS.num h hu) hl, SS.set h]
theorem SS.num_ {st : Stor} {a b f : Nat} {ks0 ks : List NK} {rl : List D} (h : Num st a b f ks0) (hu : ∀ n, unders n rl) (hl : ks.length < 100000) (k : NK) (mo : ME) (mA : MA) (env : MEnv) (h1 : mo env (SS st b f ks rl) = .ok (.loc a) (SS st b f ks rl)) (h2 : mA env (SS st b f ks rl) = .ok [.tup (keyT' k)] (SS st b f ks rl)) :
    methI "Numbers" "number" F_p_Numbers_number mo mA env (SS st b f ks rl) = .ok (.int (numS f (reg ks k) (nk k) : Nat)) (SS st b f (reg ks k) rl) := by
  rw [meth_ok (st2 := st) (SS.num h hu) hl k mo mA env h1 h2, SS.set h]
/-- the rules behind the row's counter -/
def enRs (many t : Nat) : Nat → Nat → List SR
  | _, 0 => []
  | c, n + 1 => enR many t c ++ enRs many t (c + 1) n
theorem enRs_snoc (many t : Nat) : ∀ (n c : Nat), enRs many t c (n + 1) = enRs many t c n ++ enR many t (c + n)
  | 0, c => by simp [enRs]
  | n + 1, c => by
    rw [enRs, enRs_snoc many t n (c + 1), enRs, List.append_assoc]
    congr 3; omega
theorem enRs_len (many t : Nat) : ∀ (n c : Nat), (enRs many t c n).length = 2 * n
  | 0, c => rfl
  | n + 1, c => by rw [enRs, List.length_append, enRs_len many t n (c + 1)]; simp [enR]; omega
theorem inR_mono {ks : List NK} {r : SR} (l : List NK) (h : inR ks r) : inR (ks ++ l) r := ⟨inS_mono l h.1, inS_mono l h.2⟩
def enK (many t c : Nat) (ks : List NK) : Nat → List NK
  | 0 => ks
  | n + 1 => regS (reg (enK many t c ks n) (en t (c + n))) (endS many t (c + n + 1))
theorem rules_to_end_ok {st : Stor} {a b f : Nat} {ks : List NK} (h : Num st a b f ks) (hn : ks.Nodup) (t c0 many : Nat) (hl : ks.length + 2 * many < 90000) (hc : c0 ≤ many) (hm : many ≤ 1000) :
    ∃ ks' l, ks' = ks ++ l ∧ ks' = enK many t c0 ks (many - c0) ∧ ks'.Nodup ∧ ks'.length ≤ ks.length + 2 * many ∧ (∀ r ∈ enRs many t c0 (many - c0), inR ks' r) ∧
      F_p_rules_to_end [.loc a, .int (t : Nat), .int (c0 : Nat), .int (many : Nat)] st = .ok (.loc st.length) (SS st b f ks' ((enRs many t c0 (many - c0)).map (encSR f ks'))) := by
  unfold F_p_rules_to_end gcFM fnM b_p_rules_to_end
  generalize hB : (seqS (setS 6 _) _ : MS) = B
  obtain ⟨env', st', e1, ks', l, a5, a6, hk, hkE, hnd, hlen, hin, rfl, rfl⟩ := forGo_ix (g := nameG 5) (b := B) (gs := []) (items := upto (c0 : Nat) (many - c0))
    (fun i env s => ∃ (ks' l : List NK) (a5 a6 : Option D), ks' = ks ++ l ∧ ks' = enK many t c0 ks i ∧ ks'.Nodup ∧ ks'.length ≤ ks.length + 2 * i ∧ (∀ r ∈ enRs many t c0 i, inR ks' r) ∧
      env = [some (.loc a), some (.int (t : Nat)), some (.int (c0 : Nat)), some (.int (many : Nat)), some (.loc st.length), a5, a6] ∧ s = SS st b f ks' ((enRs many t c0 i).map (encSR f ks')))
    (env := [some (.loc a), some (.int (t : Nat)), some (.int (c0 : Nat)), some (.int (many : Nat)), some (.loc st.length), none, none]) (st := st ++ [.lst []]) ⟨ks, [], none, none, by simp, rfl, hn, by simp, by simp [enRs], rfl, by unfold SS; rw [set_id h.dic]; rfl⟩ (by
      rintro i d env s hi ⟨ks1, l1, a5, a6, hk1, hkE1, hn1, hl1, hin1, rfl, rfl⟩
      obtain ⟨hi', rfl⟩ := upto_get hi
      have ec : ((c0 : Nat) : Int) + ((i : Nat) : Int) = ((c0 + i : Nat) : Int) := by omega
      have ec1 : ((c0 + i : Nat) : Int) + 1 = ((c0 + i + 1 : Nat) : Int) := by omega
      rw [ec]
      generalize hrl : (enRs many t c0 i).map (encSR f ks1) = rl
      have hrll : rl.length = 2 * i := by rw [← hrl, List.length_map, enRs_len]
      have hu1 : ∀ n, unders n rl := fun n => by rw [← hrl]; exact encSRs_under _ _ _ _
      have eN : endS many t (c0 + i) = nk (en t (c0 + i)) := if_neg (by omega)
      have s1 := SS.end_ h hu1 (ks := ks1) (by omega) t (c0 + i) many
      rw [eN] at s1
      obtain ⟨m2, hm2⟩ := reg_pre ks1 (en t (c0 + i))
      have k2l := reg_len ks1 (en t (c0 + i))
      have k2n := reg_nodup hn1 (en t (c0 + i))
      have k2m := reg_mem ks1 (en t (c0 + i))
      rw [show regS ks1 (nk (en t (c0 + i))) = reg ks1 (en t (c0 + i)) from rfl] at s1
      generalize hks2 : reg ks1 (en t (c0 + i)) = ks2 at *
      generalize hv2 : ((numS f ks2 (nk (en t (c0 + i))) : Nat) : Int) = v2 at *
      have a1 := SS.app h (ks := ks2) (rl := rl) (by omega) (.tup [.int v2, .str [105], .str [105], .int v2])
      have hu2 : ∀ n, unders n (rl ++ [.tup [.int v2, .str [105], .str [105], .int v2]]) := fun n => by
        rw [unders_iff]; intro d hd
        rcases List.mem_append.mp hd with hd | hd
        · exact (unders_iff n rl).mp (hu1 n) d hd
        · have : d = _ := List.mem_singleton.mp hd
          subst this; simp
      have s2 := SS.end_ h hu2 (ks := ks2) (by omega) t (c0 + i + 1) many
      obtain ⟨m3, hm3⟩ := regS_pre ks2 (endS many t (c0 + i + 1))
      have k3l := regS_len ks2 (endS many t (c0 + i + 1))
      have k3n := regS_nodup k2n (endS many t (c0 + i + 1))
      have k3m := regS_in ks2 (endS many t (c0 + i + 1))
      generalize hks3 : regS ks2 (endS many t (c0 + i + 1)) = ks3 at *
      generalize hv3 : ((numS f ks3 (endS many t (c0 + i + 1)) : Nat) : Int) = v3 at *
      have a2 := SS.app h (ks := ks3) (rl := rl ++ [.tup [.int v2, .str [105], .str [105], .int v2]]) (by simp; omega) (.tup [.int v2, .str [101], .str [101], .int v3])
      have t1 := SS.ty (st := st) (b := b) (f := f) (ks := ks2) (rl := rl)
      have t2 := SS.ty (st := st) (b := b) (f := f) (ks := ks3) (rl := rl ++ [.tup [.int v2, .str [105], .str [105], .int v2]])
      have t2' := SS.ty (st := st) (b := b) (f := f) (ks := ks2) (rl := rl ++ [.tup [.int v2, .str [105], .str [105], .int v2]])
      have inE : inS ks2 (nk (en t (c0 + i))) := k2m
      have fin : rl ++ [.tup [.int v2, .str [105], .str [105], .int v2]] ++ [.tup [.int v2, .str [101], .str [101], .int v3]] = (enRs many t c0 (i + 1)).map (encSR f ks3) := by
        rw [enRs_snoc, List.map_append, ← hrl]
        have e2 : (enRs many t c0 i).map (encSR f ks3) = (enRs many t c0 i).map (encSR f ks1) := by
          rw [hm3, hm2, List.append_assoc]
          exact encSRs_mono _ hin1
        have e3 : ((numS f ks3 (nk (en t (c0 + i))) : Nat) : Int) = v2 := by rw [hm3, numS_mono m3 inE]; exact hv2
        rw [e2]
        simp [enR, encSR, e3, hv3]
      refine ⟨by simp, [some (.loc a), some (.int (t : Nat)), some (.int (c0 : Nat)), some (.int (many : Nat)), some (.loc st.length), some (.int ((c0 + i : Nat) : Int)), a6], SS st b f ks1 rl, by generalize SS st b f ks1 rl = Z; simp, [some (.loc a), some (.int (t : Nat)), some (.int (c0 : Nat)), some (.int (many : Nat)), some (.loc st.length), some (.int ((c0 + i : Nat) : Int)), some (.int v2)], SS st b f ks3 (rl ++ [.tup [.int v2, .str [105], .str [105], .int v2]] ++ [.tup [.int v2, .str [101], .str [101], .int v3]]), .inl ?_, ks3, l1 ++ m2 ++ m3, _, _, by rw [hm3, hm2, hk1]; simp, by rw [← hks3, ← hks2, hkE1]; rfl, k3n, by omega, ?_, rfl, by rw [fin]⟩
      · rw [← hB]
        generalize SS st b f ks1 rl = Z1 at *
        generalize SS st b f ks2 rl = Z2 at *
        generalize SS st b f ks2 (rl ++ [.tup [.int v2, .str [105], .str [105], .int v2]]) = Z3 at *
        generalize SS st b f ks3 (rl ++ [.tup [.int v2, .str [105], .str [105], .int v2]]) = Z4 at *
        generalize SS st b f ks3 (rl ++ [.tup [.int v2, .str [105], .str [105], .int v2]] ++ [.tup [.int v2, .str [101], .str [101], .int v3]]) = Z5 at *
        generalize ((c0 + i + 1 : Nat) : Int) = C1 at *
        generalize ((c0 + i : Nat) : Int) = C0 at *
        generalize ((t : Nat) : Int) = T at *
        generalize ((many : Nat) : Int) = MM at *
        simp [s1, t1, a1, t2', ec1, s2, t2, a2]
      · intro r hr
        rw [enRs_snoc] at hr
        rcases List.mem_append.mp hr with hr | hr
        · rw [hm3, hm2]; exact inR_mono _ (inR_mono _ (hin1 r hr))
        · simp only [enR, List.mem_cons, List.not_mem_nil, or_false] at hr
          rcases hr with rfl | rfl
          · rw [hm3]; exact ⟨inS_mono _ inE, inS_mono _ inE⟩
          · exact ⟨by rw [hm3]; exact inS_mono _ inE, k3m⟩) (fun _ _ _ => by simp)
  rw [upto_len] at hlen hin e1 hkE
  refine ⟨ks', l, hk, hkE, hnd, by omega, hin, ?_⟩
  have g := SS.gc h (ks := ks') (rl := (enRs many t c0 (many - c0)).map (encSR f ks')) (fun n => encSRs_under _ _ _ _)
  have hr1 : -4611686018427387904 ≤ ((c0 : Nat) : Int) := by omega
  have hr2 : ((c0 : Nat) : Int) < 4611686018427387904 := by omega
  have hr3 : -4611686018427387904 ≤ ((many : Nat) : Int) := by omega
  have hr4 : ((many : Nat) : Int) < 4611686018427387904 := by omega
  have eu : (((many : Nat) : Int) - ((c0 : Nat) : Int)).toNat = many - c0 := by omega
  rw [show startM 7 [D.loc a, .int (t : Nat), .int (c0 : Nat), .int (many : Nat)] = [some (.loc a), some (.int (t : Nat)), some (.int (c0 : Nat)), some (.int (many : Nat)), none, none, none] from rfl]
  generalize SS st b f ks' _ = Z9 at *
  simp [hr1, hr2, hr3, hr4, eu, e1]
  exact g
end Law
set_option maxHeartbeats 0
namespace Law
open L2 M NK NS
def encRow (r : Rw) : D := if r.up then .tup [.str [117, 112], .int (r.c : Nat), .int (r.t : Nat)] else .tup [.str [100, 111, 119, 110], .int (r.c : Nat), .int (r.t : Nat), .int (r.f : Nat)]
theorem row_ix1 (r : Rw) (st : Stor) : ixV (encRow r) (.int 1) st = .ok (.int (r.c : Nat)) st := by
  unfold encRow; split
  · exact r_ix_tup st 1 _ _ rfl
  · exact r_ix_tup st 1 _ _ rfl
theorem row_ix2 (r : Rw) (st : Stor) : ixV (encRow r) (.int 2) st = .ok (.int (r.t : Nat)) st := by
  unfold encRow; split
  · exact r_ix_tup st 2 _ _ rfl
  · exact r_ix_tup st 2 _ _ rfl
theorem row_ix0 (r : Rw) (st : Stor) : ixV (encRow r) (.int 0) st = .ok (.str (if r.up then [117, 112] else [100, 111, 119, 110])) st := by
  unfold encRow; split
  · exact r_ix_tup st 0 _ _ rfl
  · exact r_ix_tup st 0 _ _ rfl
theorem row_ix3 (r : Rw) (h : ¬ r.up = true) (st : Stor) : ixV (encRow r) (.int 3) st = .ok (.int (r.f : Nat)) st := by
  unfold encRow; rw [if_neg h]
  exact r_ix_tup st 3 _ _ rfl
theorem ahR_len (p : Nat) : ∀ k, (ahR p k).length = 2 * k
  | 0 => rfl
  | k + 1 => by rw [ahR, List.length_append, ahR_len p k]; simp; omega
theorem unders_snoc {n : Nat} {rl : List D} {d : D} (h : unders n rl) (hd : under n d) : unders n (rl ++ [d]) := by
  rw [unders_iff] at *
  intro x hx
  rcases List.mem_append.mp hx with hx | hx
  · exact h x hx
  · have : x = _ := List.mem_singleton.mp hx
    subst this; exact hd
def ahK (ks : List NK) (p : Nat) : Nat → List NK
  | 0 => ks
  | i + 1 => reg (ahK ks p i) (ah p i)
def rowK (many p : Nat) (r : Rw) (ks : List NK) : List NK :=
  if r.up = true then regS (ahK ks p r.c) (endS many r.t r.c) else regS (reg (regS (ahK ks p r.c) (endS many r.t r.c)) (ask p)) (endS many r.f (r.c + 1))
theorem rules_of_row_ok {st : Stor} {a b f : Nat} {ks : List NK} (h : Num st a b f ks) (hn : ks.Nodup) (p many : Nat) (r : Rw) (hl : ks.length + r.c + 4 < 90000) (hc : r.c ≤ 1000) :
    ∃ ks' l, ks' = ks ++ l ∧ ks' = rowK many p r ks ∧ ks'.Nodup ∧ ks'.length ≤ ks.length + r.c + 4 ∧ (∀ q ∈ rowR many p r, inR ks' q) ∧
      F_p_rules_of_row [.loc a, .int (p : Nat), encRow r, .int (many : Nat)] st = .ok (.loc st.length) (SS st b f ks' ((rowR many p r).map (encSR f ks'))) := by
  unfold F_p_rules_of_row gcFM fnM b_p_rules_of_row
  generalize hB : (seqS (setS 8 _) _ : MS) = B
  obtain ⟨env', st', e1, ks1, l1, a7, a8, hk1, hkE1, hn1, hl1, hin1, hst1, rfl, rfl⟩ := forGo_ix (g := nameG 7) (b := B) (gs := []) (items := upto 0 r.c)
    (fun i env s => ∃ (ks' l : List NK) (a7 a8 : Option D), ks' = ks ++ l ∧ ks' = ahK ks p i ∧ ks'.Nodup ∧ ks'.length ≤ ks.length + i ∧ (∀ q ∈ ahR p i, inR ks' q) ∧ inS ks' (stA p i) ∧
      env = [some (.loc a), some (.int (p : Nat)), some (encRow r), some (.int (many : Nat)), some (.loc st.length), some (.int (numS f ks' (stA p i) : Nat)), some (.str [sgA i]), a7, a8, none, none] ∧ s = SS st b f ks' ((ahR p i).map (encSR f ks')))
    (env := [some (.loc a), some (.int (p : Nat)), some (encRow r), some (.int (many : Nat)), some (.loc st.length), some (.int (p : Nat)), some (.str [98]), none, none, none, none]) (st := st ++ [.lst []]) ⟨ks, [], none, none, by simp, rfl, hn, by simp, by simp [ahR], by simp [stA, inS], by simp [stA, numS, sgA], by unfold SS; rw [set_id h.dic]; rfl⟩ (by
      rintro i d env s hi ⟨ks1, l1, a7, a8, hk1, hkE1, hn1, hl1, hin1, hst1, rfl, rfl⟩
      obtain ⟨hi', rfl⟩ := upto_get hi
      rw [Int.zero_add]
      generalize hrl : (ahR p i).map (encSR f ks1) = rl
      have hrll : rl.length = 2 * i := by rw [← hrl, List.length_map, ahR_len]
      have hu1 : ∀ n, unders n rl := fun n => by rw [← hrl]; exact encSRs_under _ _ _ _
      generalize hv1 : ((numS f ks1 (stA p i) : Nat) : Int) = v1
      have mt := SS.num_ h hu1 (ks := ks1) (by omega) (ah p i) (vr 0) (consA (tupE (consA (ct (.str [97, 104, 101, 97, 100])) (consA (vr 1) (consA (vr 7) nilA)))) nilA) [some (.loc a), some (.int (p : Nat)), some (encRow r), some (.int (many : Nat)), some (.loc st.length), some (.int v1), some (.str [sgA i]), some (.int (i : Nat)), a8, none, none] rfl (by
        generalize SS st b f ks1 rl = Z
        simp [keyT'])
      obtain ⟨m2, hm2⟩ := reg_pre ks1 (ah p i)
      have k2l := reg_len ks1 (ah p i)
      have k2n := reg_nodup hn1 (ah p i)
      have k2m : inS (reg ks1 (ah p i)) (nk (ah p i)) := reg_mem ks1 (ah p i)
      generalize hks2 : reg ks1 (ah p i) = ks2 at *
      generalize hv2 : ((numS f ks2 (nk (ah p i)) : Nat) : Int) = v2 at *
      let d1 : D := .tup [.int v1, .str [sgA i], .str [sgA i], .int v2]
      let d2 : D := .tup [.int v2, .str [105], .str [105], .int v2]
      have a1 := SS.app h (ks := ks2) (rl := rl) (by omega) d1
      have a2 := SS.app h (ks := ks2) (rl := rl ++ [d1]) (by simp; omega) d2
      have t1 := SS.ty (st := st) (b := b) (f := f) (ks := ks2) (rl := rl)
      have t2 := SS.ty (st := st) (b := b) (f := f) (ks := ks2) (rl := rl ++ [d1])
      have e3 : ((numS f ks2 (stA p i) : Nat) : Int) = v1 := by rw [hm2, numS_mono m2 hst1]; exact hv1
      have fin : rl ++ [d1] ++ [d2] = (ahR p (i + 1)).map (encSR f ks2) := by
        rw [ahR, List.map_append, ← hrl]
        have e2 : (ahR p i).map (encSR f ks2) = (ahR p i).map (encSR f ks1) := by rw [hm2]; exact encSRs_mono _ hin1
        rw [e2]
        have es : (if i = 0 then pl p else nk (ah p (i - 1))) = stA p i := rfl
        have eg : (if i = 0 then 98 else 101) = sgA i := rfl
        rw [es, eg]
        simp only [d1, d2, encSR, List.map_cons, List.map_nil, e3, hv2, List.append_assoc, List.cons_append, List.nil_append]
      have sA : stA p (i + 1) = nk (ah p i) := by simp [stA]
      have gA : sgA (i + 1) = 101 := by simp [sgA]
      refine ⟨by simp, [some (.loc a), some (.int (p : Nat)), some (encRow r), some (.int (many : Nat)), some (.loc st.length), some (.int v1), some (.str [sgA i]), some (.int (i : Nat)), a8, none, none], SS st b f ks1 rl, by generalize SS st b f ks1 rl = Z; simp, [some (.loc a), some (.int (p : Nat)), some (encRow r), some (.int (many : Nat)), some (.loc st.length), some (.int v2), some (.str [101]), some (.int (i : Nat)), some (.int v2), none, none], SS st b f ks2 (rl ++ [d1] ++ [d2]), .inl ?_, ks2, l1 ++ m2, _, _, by rw [hm2, hk1]; simp, by rw [← hks2, hkE1]; rfl, k2n, by omega, ?_, ?_, by rw [sA, gA, hv2], by rw [fin]⟩
      · rw [← hB]
        generalize hMI : methI _ _ _ _ _ = MI at *
        generalize SS st b f ks1 rl = Z1 at *
        generalize SS st b f ks2 rl = Z2 at *
        generalize SS st b f ks2 (rl ++ [d1]) = Z3 at *
        generalize SS st b f ks2 (rl ++ [d1] ++ [d2]) = Z4 at *
        simp only [d1, d2] at a1 a2
        generalize ((i : Nat) : Int) = ii at *
        generalize ((p : Nat) : Int) = pp at *
        generalize ((many : Nat) : Int) = MM at *
        generalize encRow r = ER at *
        generalize sgA i = sg at *
        simp [mt, t1, a1, t2, a2]
      · intro q hq
        rw [ahR] at hq
        rcases List.mem_append.mp hq with hq | hq
        · rw [hm2]; exact inR_mono _ (hin1 q hq)
        · simp only [List.mem_cons, List.not_mem_nil, or_false] at hq
          rcases hq with rfl | rfl
          · exact ⟨by rw [hm2]; exact inS_mono _ hst1, k2m⟩
          · exact ⟨k2m, k2m⟩
      · rw [sA]; exact k2m) (fun _ _ _ => by simp)
  rw [upto_len] at hl1 hin1 hst1 e1 hkE1
  generalize hrl : (ahR p r.c).map (encSR f ks1) = rl at *
  have hrll : rl.length = 2 * r.c := by rw [← hrl, List.length_map, ahR_len]
  have hu1 : ∀ n, unders n rl := fun n => by rw [← hrl]; exact encSRs_under _ _ _ _
  generalize hv1 : ((numS f ks1 (stA p r.c) : Nat) : Int) = v1 at *
  -- done
  have s1 := SS.end_ h hu1 (ks := ks1) (by omega) r.t r.c many
  obtain ⟨m2, hm2⟩ := regS_pre ks1 (endS many r.t r.c)
  have k2l := regS_len ks1 (endS many r.t r.c)
  have k2n := regS_nodup hn1 (endS many r.t r.c)
  have k2m := regS_in ks1 (endS many r.t r.c)
  generalize hks2 : regS ks1 (endS many r.t r.c) = ks2 at *
  generalize hv2 : ((numS f ks2 (endS many r.t r.c) : Nat) : Int) = v2 at *
  have st2 : inS ks2 (stA p r.c) := by rw [hm2]; exact inS_mono _ hst1
  have hr1 : -4611686018427387904 ≤ ((r.c : Nat) : Int) := by omega
  have hr2 : ((r.c : Nat) : Int) < 4611686018427387904 := by omega
  have et : (((r.c : Nat) : Int)).toNat = r.c := Int.toNat_natCast _
  have x0 := row_ix0 r
  have x1 := row_ix1 r
  have x2 := row_ix2 r
  have in1 : ∀ (ks' : List NK) (l' : List NK), ks' = ks1 ++ l' → ∀ q ∈ ahR p r.c, inR ks' q := fun ks' l' e q hq => by rw [e]; exact inR_mono _ (hin1 q hq)
  have rl_eq : ∀ (ks' : List NK) (l' : List NK), ks' = ks1 ++ l' → (ahR p r.c).map (encSR f ks') = rl := fun ks' l' e => by rw [e, ← hrl]; exact encSRs_mono _ hin1
  have v1_eq : ∀ (ks' : List NK) (l' : List NK), ks' = ks1 ++ l' → ((numS f ks' (stA p r.c) : Nat) : Int) = v1 := fun ks' l' e => by rw [e, numS_mono _ hst1]; exact hv1
  rw [show startM 11 [D.loc a, .int (p : Nat), encRow r, .int (many : Nat)] = [some (.loc a), some (.int (p : Nat)), some (encRow r), some (.int (many : Nat)), none, none, none, none, none, none, none] from rfl]
  by_cases cu : r.up = true
  · let d1 : D := .tup [.int v1, .str [sgA r.c], .str [sgA r.c, 105], .int v2]
    have a1 := SS.app h (ks := ks2) (rl := rl) (by omega) d1
    have t1 := SS.ty (st := st) (b := b) (f := f) (ks := ks2) (rl := rl)
    have fin : rl ++ [d1] = (rowR many p r).map (encSR f ks2) := by
      unfold rowR
      rw [if_pos cu, List.map_append, rl_eq ks2 m2 hm2]
      simp only [d1, encSR, List.map_cons, List.map_nil, v1_eq ks2 m2 hm2, hv2]
    have g := SS.gc h (ks := ks2) (rl := rl ++ [d1]) (fun n => unders_snoc (hu1 n) (by simp [d1]))
    refine ⟨ks2, l1 ++ m2, by rw [hm2, hk1]; simp, by unfold rowK; rw [if_pos cu, ← hkE1]; exact hks2.symm, k2n, by omega, ?_, ?_⟩
    · intro q hq
      unfold rowR at hq
      rw [if_pos cu] at hq
      rcases List.mem_append.mp hq with hq | hq
      · exact in1 ks2 m2 hm2 q hq
      · have : q = _ := List.mem_singleton.mp hq
        subst this
        exact ⟨st2, k2m⟩
    · rw [← fin]
      simp only [cu, if_true] at x0
      simp only [d1] at a1 g ⊢
      generalize SS st b f ks2 (rl ++ _) = Z9 at *
      generalize SS st b f ks1 rl = Z1 at *
      generalize SS st b f ks2 rl = Z2 at *
      generalize ((r.c : Nat) : Int) = CC at *
      generalize ((r.t : Nat) : Int) = TT at *
      generalize ((p : Nat) : Int) = pp at *
      generalize ((many : Nat) : Int) = MM at *
      generalize encRow r = ER at *
      generalize sgA r.c = sg at *
      simp [x1, hr1, hr2, et, e1, x2, s1, x0, addV, t1, a1]
      exact g
  · have x3 := row_ix3 r cu
    have mt := SS.num_ h hu1 (ks := ks2) (by omega) (ask p) (vr 0) (consA (tupE (consA (ct (.str [97, 115, 107])) (consA (vr 1) nilA))) nilA) [some (.loc a), some (.int (p : Nat)), some (encRow r), some (.int (many : Nat)), some (.loc st.length), some (.int v1), some (.str [sgA r.c]), a7, a8, some (.int v2), none] rfl (by
        generalize SS st b f ks2 rl = Z
        simp [keyT'])
    obtain ⟨m3, hm3⟩ := reg_pre ks2 (ask p)
    have k3l := reg_len ks2 (ask p)
    have k3n := reg_nodup k2n (ask p)
    have k3m : inS (reg ks2 (ask p)) (nk (ask p)) := reg_mem ks2 (ask p)
    generalize hks3 : reg ks2 (ask p) = ks3 at *
    generalize hv3 : ((numS f ks3 (nk (ask p)) : Nat) : Int) = v3 at *
    let d1 : D := .tup [.int v1, .str [sgA r.c], .str [sgA r.c], .int v3]
    let d2 : D := .tup [.int v3, .str [105], .str [], .int v2]
    have u2 : ∀ n, unders n (rl ++ [d1] ++ [d2]) := fun n => unders_snoc (unders_snoc (hu1 n) (by simp [d1])) (by simp [d2])
    have s2 := SS.end_ h u2 (ks := ks3) (by omega) r.f (r.c + 1) many
    obtain ⟨m4, hm4⟩ := regS_pre ks3 (endS many r.f (r.c + 1))
    have k4l := regS_len ks3 (endS many r.f (r.c + 1))
    have k4n := regS_nodup k3n (endS many r.f (r.c + 1))
    have k4m := regS_in ks3 (endS many r.f (r.c + 1))
    generalize hks4 : regS ks3 (endS many r.f (r.c + 1)) = ks4 at *
    generalize hv4 : ((numS f ks4 (endS many r.f (r.c + 1)) : Nat) : Int) = v4 at *
    let d3 : D := .tup [.int v3, .str [101], .str [101], .int v4]
    have a1 := SS.app h (ks := ks3) (rl := rl) (by omega) d1
    have a2 := SS.app h (ks := ks3) (rl := rl ++ [d1]) (by simp; omega) d2
    have a3 := SS.app h (ks := ks4) (rl := rl ++ [d1] ++ [d2]) (by simp; omega) d3
    have t1 := SS.ty (st := st) (b := b) (f := f) (ks := ks3) (rl := rl)
    have t2 := SS.ty (st := st) (b := b) (f := f) (ks := ks3) (rl := rl ++ [d1])
    have t3 := SS.ty (st := st) (b := b) (f := f) (ks := ks3) (rl := rl ++ [d1] ++ [d2])
    have e41 : ks4 = ks1 ++ (m2 ++ m3 ++ m4) := by rw [hm4, hm3, hm2]; simp
    have v2' : ((numS f ks4 (endS many r.t r.c) : Nat) : Int) = v2 := by
      rw [hm4, hm3, List.append_assoc, numS_mono _ k2m]; exact hv2
    have v3' : ((numS f ks4 (nk (ask p)) : Nat) : Int) = v3 := by rw [hm4, numS_mono _ k3m]; exact hv3
    have fin : rl ++ [d1] ++ [d2] ++ [d3] = (rowR many p r).map (encSR f ks4) := by
      unfold rowR
      rw [if_neg cu, List.map_append, rl_eq ks4 _ e41]
      simp only [d1, d2, d3, encSR, List.map_cons, List.map_nil, v1_eq ks4 _ e41, v2', v3', hv4, List.append_assoc, List.cons_append, List.nil_append]
    have g := SS.gc h (ks := ks4) (rl := rl ++ [d1] ++ [d2] ++ [d3]) (fun n => unders_snoc (u2 n) (by simp [d3]))
    refine ⟨ks4, l1 ++ (m2 ++ m3 ++ m4), by rw [e41, hk1]; simp, by unfold rowK; rw [if_neg cu, ← hkE1, hks2, hks3]; exact hks4.symm, k4n, by omega, ?_, ?_⟩
    · intro q hq
      unfold rowR at hq
      rw [if_neg cu] at hq
      rcases List.mem_append.mp hq with hq | hq
      · exact in1 ks4 _ e41 q hq
      · have i3 : inS ks4 (nk (ask p)) := by rw [hm4]; exact inS_mono _ k3m
        have i2 : inS ks4 (endS many r.t r.c) := by rw [hm4, hm3]; exact inS_mono _ (inS_mono _ k2m)
        have i1 : inS ks4 (stA p r.c) := by rw [e41]; exact inS_mono _ hst1
        simp only [List.mem_cons, List.not_mem_nil, or_false] at hq
        rcases hq with rfl | rfl | rfl
        · exact ⟨i1, i3⟩
        · exact ⟨i3, i2⟩
        · exact ⟨i3, k4m⟩
    · rw [← fin]
      rw [if_neg cu] at x0
      have ec1 : ((r.c : Nat) : Int) + 1 = ((r.c + 1 : Nat) : Int) := by omega
      generalize hMI : methI _ _ _ _ (consA (tupE (consA (ct (.str [97, 115, 107])) _)) nilA) = MI at *
      simp only [d1, d2, d3] at a1 a2 a3 g s2 t2 t3 ⊢
      generalize SS st b f ks4 (rl ++ _ ++ _ ++ _) = Z9 at *
      generalize SS st b f ks4 (rl ++ _ ++ _) = Z8 at *
      generalize SS st b f ks3 (rl ++ _ ++ _) = Z7 at *
      generalize SS st b f ks3 (rl ++ _) = Z6 at *
      generalize SS st b f ks3 rl = Z5 at *
      generalize SS st b f ks1 rl = Z1 at *
      generalize SS st b f ks2 rl = Z2 at *
      generalize ((r.c + 1 : Nat) : Int) = C1 at *
      generalize ((r.c : Nat) : Int) = CC at *
      generalize ((r.t : Nat) : Int) = TT at *
      generalize ((r.f : Nat) : Int) = FF at *
      generalize ((p : Nat) : Int) = pp at *
      generalize ((many : Nat) : Int) = MM at *
      generalize encRow r = ER at *
      generalize sgA r.c = sg at *
      simp [x1, hr1, hr2, et, e1, x2, s1, x0, mt, t1, a1, t2, a2, x3, ec1, s2, t3, a3]
      exact g
end Law
set_option maxHeartbeats 0
namespace Law
open L2 M NK NS
/-! the first counter behind which a place is gone to -/
structure Fst (kvs : List (Key × D)) (many n : Nat) : Prop where
  ent : ∀ q ∈ kvs, ∃ t v : Nat, q = (.inl (t : Nat), .int (v : Nat)) ∧ v ≤ many
  len : kvs.length ≤ n
  nd : (kvs.map Prod.fst).Nodup
theorem putN_nd {kvs : List (Key × D)} (k : Key) (d : D) (h : (kvs.map Prod.fst).Nodup) : ((putN kvs k d).map Prod.fst).Nodup := by
  unfold putN
  split
  · have : (kvs.map fun kv => if kv.1 = k then (kv.1, d) else kv).map Prod.fst = kvs.map Prod.fst := by
      rw [List.map_map]; refine List.map_congr_left fun p _ => ?_
      show (if p.1 = k then (p.1, d) else p).1 = p.1
      split <;> rfl
    rw [this]; exact h
  · rename_i hn
    rw [List.map_append, List.nodup_append]
    refine ⟨h, by simp, fun a ha b hb e => hn ?_⟩
    obtain ⟨p, hp, rfl⟩ := List.mem_map.mp ha
    have hb : b = k := by simpa using hb
    rw [List.any_eq_true]
    exact ⟨p, hp, decide_eq_true (e.trans hb)⟩
theorem valN_nd {kvs : List (Key × D)} {q : Key × D} (h : (kvs.map Prod.fst).Nodup) (hq : q ∈ kvs) : valN kvs q.1 = some q.2 := by
  induction kvs with
  | nil => cases hq
  | cons p r ih =>
    rw [List.map_cons, List.nodup_cons] at h
    rw [valN_cons]
    rcases List.mem_cons.mp hq with rfl | hq
    · rw [if_pos rfl]
    · rw [if_neg (fun z => h.1 (by rw [z]; exact List.mem_map.mpr ⟨q, hq, rfl⟩))]; exact ih h.2 hq
def wOf (kvs : List (Key × D)) (t c : Nat) : Int := if (c : Int) < ((valN kvs (.inl (t : Nat))).elim (c : Int) fun d => match d with | .int i => i | _ => 0) then (c : Int) else ((valN kvs (.inl (t : Nat))).elim (c : Int) fun d => match d with | .int i => i | _ => 0)
def fc1 (kvs : List (Key × D)) (r : Rw) : List (Key × D) :=
  if r.up = true then putN kvs (.inl (r.t : Nat)) (.int (wOf kvs r.t r.c)) else putN (putN kvs (.inl (r.t : Nat)) (.int (wOf kvs r.t r.c))) (.inl (r.f : Nat)) (.int (wOf (putN kvs (.inl (r.t : Nat)) (.int (wOf kvs r.t r.c))) r.f (r.c + 1)))
def fcK (rows : List Rw) : List (Key × D) := rows.foldl fc1 []
theorem fcK_snoc (rows : List Rw) (r : Rw) : fcK (rows ++ [r]) = fc1 (fcK rows) r := by unfold fcK; rw [List.foldl_append]; rfl
theorem valN_mem {kvs : List (Key × D)} {k : Key} {d : D} (h : valN kvs k = some d) : (k, d) ∈ kvs := by
  unfold valN at h
  obtain ⟨p, hp, e2⟩ := Option.map_eq_some_iff.mp h
  have h1 := List.mem_of_find?_eq_some hp
  have hk := List.find?_some hp
  simp only [decide_eq_true_eq] at hk
  obtain ⟨pk, pd⟩ := p
  cases hk; cases e2
  exact h1
theorem putN_mem {kvs : List (Key × D)} {k : Key} {d : D} {q : Key × D} (h : q ∈ putN kvs k d) : q ∈ kvs ∨ q = (k, d) := by
  unfold putN at h
  split at h
  · obtain ⟨p, hp, rfl⟩ := List.mem_map.mp h
    by_cases e : p.1 = k
    · rw [if_pos e]; exact .inr (by rw [e])
    · rw [if_neg e]; exact .inl hp
  · rcases List.mem_append.mp h with h | h
    · exact .inl h
    · exact .inr (List.mem_singleton.mp h)
/-- what is told behind these rows -/
def Told (kvs : List (Key × D)) (r : Rw) : Prop :=
  (∃ v : Nat, valN kvs (.inl (r.t : Nat)) = some (.int (v : Nat)) ∧ v ≤ r.c) ∧ (¬ r.up = true → ∃ v : Nat, valN kvs (.inl (r.f : Nat)) = some (.int (v : Nat)) ∧ v ≤ r.c + 1)
/-- put the less of the two -/
theorem put_less {kvs : List (Key × D)} {many n t c : Nat} (h : Fst kvs many n) (hc : c ≤ many) : ∃ w : Nat, (∀ (b : Nat) (st : Stor), st[b]? = some (.dkc kvs) → getK2 (.loc b) [.int (t : Nat), .int (c : Nat)] st = .ok (.int ((valN kvs (.inl (t : Nat))).elim (c : Int) fun d => match d with | .int i => i | _ => 0)) st) ∧
    w ≤ c ∧ w ≤ many ∧ (if (c : Int) < ((valN kvs (.inl (t : Nat))).elim (c : Int) fun d => match d with | .int i => i | _ => 0) then (c : Int) else ((valN kvs (.inl (t : Nat))).elim (c : Int) fun d => match d with | .int i => i | _ => 0)) = (w : Nat) ∧ Fst (putN kvs (.inl (t : Nat)) (.int (w : Nat))) many (n + 1) ∧
    ∀ (s : Nat) (v : Nat), valN kvs (.inl (s : Nat)) = some (.int (v : Nat)) → ∃ v' : Nat, valN (putN kvs (.inl (t : Nat)) (.int (w : Nat))) (.inl (s : Nat)) = some (.int (v' : Nat)) ∧ v' ≤ v := by
  cases e : valN kvs (.inl (t : Nat)) with
  | none =>
    refine ⟨c, fun b st hb => ?_, Nat.le_refl _, hc, by simp, ⟨fun q hq => ?_, by have := putN_len kvs (.inl (t : Nat)) (.int (c : Nat)); have := h.len; omega, putN_nd _ _ h.nd⟩, fun s v hs => ?_⟩
    · simp only [getK2, hb, keyOf_int, e]; rfl
    · rcases putN_mem hq with hq | rfl
      · exact h.ent q hq
      · exact ⟨t, c, rfl, hc⟩
    · rw [valN_put]
      by_cases es : (Sum.inl ((t : Nat) : Int) : Key) = .inl ((s : Nat) : Int)
      · rw [← es, e] at hs; cases hs
      · rw [if_neg es]; exact ⟨v, hs, Nat.le_refl _⟩
  | some d =>
    obtain ⟨t', u, e2, hu⟩ := h.ent _ (valN_mem e)
    obtain ⟨_, rfl⟩ := Prod.mk.inj e2
    refine ⟨if c < u then c else u, fun b st hb => ?_, by split <;> omega, by split <;> omega, ?_, ⟨fun q hq => ?_, by have := putN_len kvs (.inl (t : Nat)) (.int (((if c < u then c else u : Nat)) : Nat)); have := h.len; omega, putN_nd _ _ h.nd⟩, fun s v hs => ?_⟩
    · simp only [getK2, hb, keyOf_int, e]; rfl
    · show (if (c : Int) < (u : Int) then (c : Int) else (u : Int)) = _
      by_cases cc : c < u
      · rw [if_pos cc, if_pos (by omega)]
      · rw [if_neg cc, if_neg (by omega)]
    · rcases putN_mem hq with hq | rfl
      · exact h.ent q hq
      · exact ⟨t, _, rfl, by split <;> omega⟩
    · rw [valN_put]
      by_cases es : (Sum.inl ((t : Nat) : Int) : Key) = .inl ((s : Nat) : Int)
      · rw [if_pos es]
        rw [← es, e] at hs
        have : ((u : Nat) : Int) = (v : Nat) := by cases hs; rfl
        exact ⟨_, rfl, by split <;> omega⟩
      · rw [if_neg es]; exact ⟨v, hs, Nat.le_refl _⟩
theorem first_counters_ok (rows : List Rw) (many n : Nat) (st : Stor) (h : itemsAt st n = some (rows.map encRow)) (hst : ∀ L, okG [(n, L)] st → True) (hr : ∀ r ∈ rows, r.c + 1 ≤ many) (hl : rows.length ≤ 1000) (hg : lstG st n = some (rows.map encRow, .lst (rows.map encRow))) :
    ∃ kvs, kvs = fcK rows ∧ Fst kvs many (2 * rows.length) ∧ (∀ r ∈ rows, Told kvs r) ∧ F_p_first_counters [.loc n] st = .ok (.loc st.length) (st ++ [.dkc kvs]) := by
  have hgt : st[n]? = some (.lst (rows.map encRow)) := (lstG_items hg).2.1
  unfold F_p_first_counters gcF fnM b_p_first_counters
  generalize hB : (seqS (asgS _ _) _ : MS) = B
  obtain ⟨env', st', e1, kvs, a2, hKE, hF, hT, rfl, rfl⟩ := forGo_ix (g := nameG 2) (b := B) (gs := [(n, .lst (rows.map encRow))]) (items := rows.map encRow)
    (fun i env s => ∃ (kvs : List (Key × D)) (a2 : Option D), kvs = fcK (rows.take i) ∧ Fst kvs many (2 * i) ∧ (∀ r ∈ rows.take i, Told kvs r) ∧ env = [some (.loc n), some (.loc st.length), a2] ∧ s = st ++ [.dkc kvs])
    (env := [some (.loc n), some (.loc st.length), none]) (st := st ++ [.dkc []]) ⟨[], none, rfl, ⟨by simp, by simp, by simp⟩, by simp, rfl, rfl⟩ (by
      rintro i d env s hi ⟨kvs, a2, hKE, hF, hT, rfl, rfl⟩
      rw [List.getElem?_map] at hi
      obtain ⟨r, hr1, rfl⟩ := Option.map_eq_some_iff.mp hi
      have hmem := List.mem_of_getElem? hr1
      have hil := (List.getElem?_eq_some_iff.mp hr1).1
      have hrc := hr r hmem
      have x0 := row_ix0 r
      have x1 := row_ix1 r
      have x2 := row_ix2 r
      have ety : ∀ kvs : List (Key × D), isTy "dict" (.loc st.length) (st ++ [.dkc kvs]) = true := fun kvs => by simp [isTy]
      have hb : ∀ kvs : List (Key × D), (st ++ [MO.dkc kvs])[st.length]? = some (.dkc kvs) := fun kvs => by simp
      have sk : ∀ (kvs : List (Key × D)) (t w : Nat), kvs.length < 1000000 → setK (.loc st.length) (.int (t : Nat)) (.int (w : Nat)) (st ++ [.dkc kvs]) = .ok () (st ++ [.dkc (putN kvs (.inl (t : Nat)) (.int (w : Nat)))]) := fun kvs t w hl => by
        unfold setK
        simp only [hb, keyOf_int]
        rw [if_pos hl]
        simp
      obtain ⟨w1, g1, l1, m1, q1, F1, T1⟩ := put_less (t := r.t) (c := r.c) hF (by omega)
      replace g1 := g1 st.length _ (hb kvs)
      have lk := hF.len
      have s1 := sk kvs r.t w1 (by omega)
      have e1 : rows.take (i + 1) = rows.take i ++ [r] := by rw [List.take_succ, hr1]; rfl
      have t1 : ∃ v : Nat, valN (putN kvs (.inl (r.t : Nat)) (.int (w1 : Nat))) (.inl (r.t : Nat)) = some (.int (v : Nat)) ∧ v ≤ r.c := ⟨w1, by rw [valN_put, if_pos rfl], l1⟩
      by_cases cu : r.up = true
      · refine ⟨by simp [get_app hgt], [some (.loc n), some (.loc st.length), some (encRow r)], st ++ [.dkc kvs], by simp, [some (.loc n), some (.loc st.length), some (encRow r)], st ++ [.dkc (putN kvs (.inl (r.t : Nat)) (.int (w1 : Nat)))], .inl ?_, _, _, by rw [e1, fcK_snoc, ← hKE]; unfold fc1; rw [if_pos cu]; exact congrArg (fun z => putN kvs (.inl (r.t : Nat)) (.int z)) q1.symm, ⟨F1.ent, by have := F1.len; omega, F1.nd⟩, ?_, rfl, rfl⟩
        · rw [← hB]
          simp only [cu, if_true] at x0
          have ety := ety kvs
          generalize (st ++ [.dkc (putN kvs (.inl (r.t : Nat)) (.int (w1 : Nat)))] : Stor) = Z2 at *
          generalize (st ++ [.dkc kvs] : Stor) = Z1 at *
          generalize ((valN kvs (.inl (r.t : Nat))).elim (r.c : Int) fun d => match d with | .int i => i | _ => 0) = GV at *
          generalize ((r.c : Nat) : Int) = CC at *
          generalize ((r.t : Nat) : Int) = TT at *
          generalize ((w1 : Nat) : Int) = W1 at *
          generalize encRow r = ER at *
          simp [x1, x2, ety, g1, min2V, q1, s1, x0]
        · intro q hq
          rw [e1] at hq
          rcases List.mem_append.mp hq with hq | hq
          · obtain ⟨⟨v, h1, h2⟩, h3⟩ := hT q hq
            obtain ⟨v', h4, h5⟩ := T1 q.t v h1
            refine ⟨⟨v', h4, by omega⟩, fun c => ?_⟩
            obtain ⟨u, h6, h7⟩ := h3 c
            obtain ⟨u', h8, h9⟩ := T1 q.f u h6
            exact ⟨u', h8, by omega⟩
          · have : q = r := List.mem_singleton.mp hq
            subst this
            exact ⟨t1, fun c => absurd cu c⟩
      · obtain ⟨w2, g2, l2, m2, q2, F2, T2⟩ := put_less (t := r.f) (c := r.c + 1) F1 (by omega)
        replace g2 := g2 st.length _ (hb _)
        have lk2 := F1.len
        have s2 := sk (putN kvs (.inl (r.t : Nat)) (.int (w1 : Nat))) r.f w2 (by omega)
        have x3 := row_ix3 r cu
        refine ⟨by simp [get_app hgt], [some (.loc n), some (.loc st.length), some (encRow r)], st ++ [.dkc kvs], by simp, [some (.loc n), some (.loc st.length), some (encRow r)], st ++ [.dkc (putN (putN kvs (.inl (r.t : Nat)) (.int (w1 : Nat))) (.inl (r.f : Nat)) (.int (w2 : Nat)))], .inl ?_, _, _, by rw [e1, fcK_snoc, ← hKE]; unfold fc1; rw [if_neg cu, show wOf kvs r.t r.c = (w1 : Nat) from q1]; exact congrArg (fun z => putN (putN kvs (.inl (r.t : Nat)) (.int (w1 : Nat))) (.inl (r.f : Nat)) (.int z)) q2.symm, ⟨F2.ent, by have := F2.len; omega, F2.nd⟩, ?_, rfl, rfl⟩
        · rw [← hB]
          rw [if_neg cu] at x0
          have ety1 := ety kvs
          have ety2 := ety (putN kvs (.inl (r.t : Nat)) (.int (w1 : Nat)))
          have ec : ((r.c : Nat) : Int) + 1 = ((r.c + 1 : Nat) : Int) := by omega
          generalize (st ++ [.dkc (putN (putN kvs (.inl (r.t : Nat)) (.int (w1 : Nat))) (.inl (r.f : Nat)) (.int (w2 : Nat)))] : Stor) = Z3 at *
          generalize ((valN (putN kvs (.inl (r.t : Nat)) (.int (w1 : Nat))) (.inl (r.f : Nat))).elim ((r.c + 1 : Nat) : Int) fun d => match d with | .int i => i | _ => 0) = GV2 at *
          generalize (st ++ [.dkc (putN kvs (.inl (r.t : Nat)) (.int (w1 : Nat)))] : Stor) = Z2 at *
          generalize (st ++ [.dkc kvs] : Stor) = Z1 at *
          generalize ((valN kvs (.inl (r.t : Nat))).elim (r.c : Int) fun d => match d with | .int i => i | _ => 0) = GV at *
          generalize ((r.c + 1 : Nat) : Int) = C1 at *
          generalize ((r.c : Nat) : Int) = CC at *
          generalize ((r.t : Nat) : Int) = TT at *
          generalize ((r.f : Nat) : Int) = FF at *
          generalize ((w1 : Nat) : Int) = W1 at *
          generalize ((w2 : Nat) : Int) = W2 at *
          generalize encRow r = ER at *
          simp [x1, x2, ety1, g1, min2V, q1, s1, x0, x3, ec, ety2, g2, q2, s2]
        · intro q hq
          rw [e1] at hq
          rcases List.mem_append.mp hq with hq | hq
          · obtain ⟨⟨v, h1, h2⟩, h3⟩ := hT q hq
            obtain ⟨v', h4, h5⟩ := T1 q.t v h1
            obtain ⟨v'', h4', h5'⟩ := T2 q.t v' h4
            refine ⟨⟨v'', h4', by omega⟩, fun c => ?_⟩
            obtain ⟨u, h6, h7⟩ := h3 c
            obtain ⟨u', h8, h9⟩ := T1 q.f u h6
            obtain ⟨u'', h8', h9'⟩ := T2 q.f u' h8
            exact ⟨u'', h8', by omega⟩
          · have : q = r := List.mem_singleton.mp hq
            subst this
            obtain ⟨v, h1, h2⟩ := t1
            obtain ⟨v', h4, h5⟩ := T2 q.t v h1
            exact ⟨⟨v', h4, by omega⟩, fun _ => ⟨w2, by rw [valN_put, if_pos rfl], l2⟩⟩) (fun _ _ ⟨_, _, _, _, _, _, e⟩ => by rw [e]; simp [get_app hgt])
  rw [List.length_map] at hF hT hKE
  rw [List.take_length] at hT hKE
  refine ⟨kvs, hKE, hF, hT, ?_⟩
  have hgt2 : (st ++ [MO.dkc []])[n]? = some (.lst (rows.map encRow)) := get_app hgt
  have hu : gc st (.ok (.loc st.length) (st ++ [.dkc kvs])) = .ok (.loc st.length) (st ++ [.dkc kvs]) := gc_new0 (by
    intro p hp
    obtain ⟨t, v, e, _⟩ := hF.ent p hp
    rw [e]; simp)
  rw [show startM 3 [D.loc n] = [some (.loc n), none, none] from rfl]
  generalize rows.map encRow = X at *
  generalize (st ++ [.dkc kvs] : Stor) = Z9 at *
  simp [hgt2, e1]
  exact hu
end Law
set_option maxHeartbeats 0
namespace Law
open L2 M NK NS
theorem gcM_asis {st st' : Stor} {d : D} {o : MO} (hm : o ∈ st'.take st.length) (h : ¬ underO st.length o) : gcM st (.ok d st') = .ok d st' := by
  unfold gcM
  dsimp only
  rw [if_neg (fun z => h (z.2 o hm))]
def insN (n f : Nat) : MO := .ins "Numbers" [("first", .int (f : Nat)), ("given", .loc (n + 1))]
theorem lenW_loc {st : Stor} {n : Nat} {ds : List D} {o : MO} (h : lstG st n = some (ds, o)) : lenW [.loc n] st = .ok (.int ds.length) st := by
  obtain ⟨h1, h2, h3⟩ := lstG_items h
  unfold lenW
  rcases h3 with rfl | rfl
  · simp only [h2]; exact r_len_loc st n ds h1
  · simp only [h2]; exact r_len_loc st n ds h1
theorem init_ok (st : Stor) (f : Nat) : F_p_Numbers_init [.loc st.length, .int (f : Nat)] (st ++ [.ins "Numbers" []]) = .ok .non (st ++ [insN st.length f, .dic []]) := by
  have hu : gcM (st ++ [.ins "Numbers" []]) (.ok .non (st ++ [insN st.length f, .dic []])) = .ok .non (st ++ [insN st.length f, .dic []]) := gcM_asis (o := insN st.length f) (by
    rw [show st ++ [insN st.length f, .dic []] = (st ++ [insN st.length f]) ++ [.dic []] by simp, List.take_left' (by simp)]
    simp) (by
    intro h
    have := h ("given", .loc (st.length + 1)) (by simp)
    simp at this)
  have n1 : ¬ (("first" : PySem.Str) = "given") := by decide
  unfold F_p_Numbers_init gcFM fnM b_p_Numbers_init setFldS insN at *
  rw [show startM 2 [D.loc st.length, .int (f : Nat)] = [some (.loc st.length), some (.int (f : Nat))] from rfl]
  simp [dicE, putFD, n1]
  exact hu
def W (st : Stor) (f : Nat) (ks : List NK) (rl : List D) (g : Stor) : Stor := st ++ [insN st.length f, .dic (kvsN f ks), .lst rl] ++ g
theorem W.len (st : Stor) (f : Nat) (ks : List NK) (rl : List D) (g : Stor) : (W st f ks rl g).length = st.length + 3 + g.length := by simp [W]; omega
theorem W.num {st : Stor} {f : Nat} {ks : List NK} {rl : List D} {g : Stor} (h : M.wf st) (hu : ∀ n, unders n rl) (hg : ∀ o ∈ g, ∀ n, underO n o) : Num (W st f ks rl g) st.length (st.length + 1) f ks := by
  refine ⟨by unfold W; rw [List.append_assoc, List.getElem?_append_right (Nat.le_refl _)]; simp [insN], by unfold W; rw [List.append_assoc, List.getElem?_append_right (by omega)]; simp, by omega, ?_⟩
  intro o ho
  rw [W.len]
  unfold W at ho
  rcases List.mem_append.mp ho with ho | ho
  · rcases List.mem_append.mp ho with ho | ho
    · exact underO_le (by omega) o (h o ho)
    · simp only [List.mem_cons, List.not_mem_nil, or_false] at ho
      rcases ho with rfl | rfl | rfl
      · intro p hp
        simp only [List.mem_cons, List.not_mem_nil, or_false] at hp
        rcases hp with rfl | rfl
        · simp
        · simp; omega
      · exact under_N _ _ _
      · exact hu _
  · exact hg o ho _
theorem W.SS {st : Stor} {f : Nat} {ks ks' : List NK} {rl rs : List D} {g : Stor} : Law.SS (W st f ks rl g) (st.length + 1) f ks' rs = W st f ks' rl (g ++ [.lst rs]) := by
  unfold Law.SS W
  rw [List.append_assoc st, List.set_append_right _ _ (by omega)]
  simp
theorem W.old {st : Stor} {f : Nat} {ks : List NK} {rl : List D} {g : Stor} {n : Nat} {o : MO} (h : st[n]? = some o) : (W st f ks rl g)[n]? = some o := by
  unfold W; exact get_app (get_app h)
theorem W.ext {st : Stor} {f : Nat} {ks : List NK} {rl rs : List D} {g : Stor} (hl : rl.length + rs.length ≤ 1000000) : extendV (.loc (st.length + 2)) [.loc (st.length + 3 + g.length)] (W st f ks rl (g ++ [.lst rs])) = .ok .non (W st f ks (rl ++ rs) (g ++ [.lst rs])) := by
  have h1 : (W st f ks rl (g ++ [.lst rs]))[st.length + 2]? = some (.lst rl) := by
    unfold W; rw [List.append_assoc, List.getElem?_append_right (by omega)]; simp
  have h2 : (W st f ks rl (g ++ [.lst rs]))[st.length + 3 + g.length]? = some (.lst rs) := by
    unfold W; rw [List.getElem?_append_right (by simp)]; simp
  unfold extendV
  simp only [h1, h2]
  rw [if_pos hl]
  unfold W
  rw [List.append_assoc st, List.set_append_right _ _ (by omega)]
  simp
theorem W.ty {st : Stor} {f : Nat} {ks : List NK} {rl : List D} {g : Stor} : isTy "list" (.loc (st.length + 2)) (W st f ks rl g) = true := by
  have h1 : (W st f ks rl g)[st.length + 2]? = some (.lst rl) := by
    unfold W; rw [List.append_assoc, List.getElem?_append_right (by omega)]; simp
  simp [isTy, h1]
def rowsR (many : Nat) : Nat → List Rw → List SR
  | _, [] => []
  | p, r :: rs => rowR many p r ++ rowsR many (p + 1) rs
theorem rowsR_snoc (many : Nat) : ∀ (rs : List Rw) (p : Nat) (r : Rw), rowsR many p (rs ++ [r]) = rowsR many p rs ++ rowR many (p + rs.length) r
  | [], p, r => by simp [rowsR]
  | x :: xs, p, r => by
    rw [List.cons_append, rowsR, rowsR_snoc many xs (p + 1) r, rowsR, List.append_assoc]
    congr 3; simp; omega
theorem rowR_len (many p : Nat) (r : Rw) : (rowR many p r).length ≤ 2 * r.c + 3 := by
  unfold rowR; rw [List.length_append, ahR_len]; split <;> simp
/-- all that is told -/
structure All (many : Nat) (rows : List Rw) (ks : List NK) (ALL : List SR) : Prop where
  good : ∀ q ∈ ALL, M.good many rows q
  inn : ∀ q ∈ ALL, inR ks q
  row : ∀ p r, rows[p]? = some r → ∀ q ∈ rowR many p r, q ∈ ALL
  ent : ∀ r ∈ rows, ∀ c, r.c ≤ c → c < many → ∀ q ∈ enR many r.t c, q ∈ ALL
  enf : ∀ r ∈ rows, ¬ r.up = true → ∀ c, r.c + 1 ≤ c → c < many → ∀ q ∈ enR many r.f c, q ∈ ALL
theorem take_snoc {rows : List Rw} {i : Nat} {r : Rw} (h : rows[i]? = some r) : rows.take (i + 1) = rows.take i ++ [r] := by rw [List.take_succ, h]; rfl
end Law
set_option maxHeartbeats 0
namespace Law
open L2 M NK NS
theorem keyD_int (t : Int) : keyD (.inl t) = .int t := rfl
def rowsK (many : Nat) : Nat → List Rw → List NK → List NK
  | _, [], ks => ks
  | p, r :: rs, ks => rowsK many (p + 1) rs (rowK many p r ks)
theorem rowsK_snoc (many : Nat) : ∀ (rs : List Rw) (p : Nat) (r : Rw) (ks : List NK), rowsK many p (rs ++ [r]) ks = rowK many (p + rs.length) r (rowsK many p rs ks)
  | [], p, r, ks => by simp [rowsK]
  | x :: xs, p, r, ks => by
    rw [List.cons_append, rowsK, rowsK_snoc many xs (p + 1) r, rowsK]
    congr 1; simp; omega
def natK : Key → Nat
  | .inl t => t.toNat
  | _ => 0
def natD : D → Nat
  | .int v => v.toNat
  | _ => 0
def enE (many : Nat) (p : Key × D) : List SR := enRs many (natK p.1) (natD p.2) (many - natD p.2)
def enEs (many : Nat) (ps : List (Key × D)) : List SR := (ps.map (enE many)).flatten
def enKs (many : Nat) (ks : List NK) (ps : List (Key × D)) : List NK := ps.foldl (fun ks p => enK many (natK p.1) (natD p.2) ks (many - natD p.2)) ks
theorem enEs_snoc (many : Nat) (ps : List (Key × D)) (p : Key × D) : enEs many (ps ++ [p]) = enEs many ps ++ enE many p := by simp [enEs]
theorem enKs_snoc (many : Nat) (ks : List NK) (ps : List (Key × D)) (p : Key × D) : enKs many ks (ps ++ [p]) = enK many (natK p.1) (natD p.2) (enKs many ks ps) (many - natD p.2) := by simp [enKs]
theorem take_snocA {A : Type} {l : List A} {i : Nat} {r : A} (h : l[i]? = some r) : l.take (i + 1) = l.take i ++ [r] := by rw [List.take_succ, h]; rfl
def allF (many : Nat) (rows : List Rw) : List SR := rowsR many 0 rows ++ enEs many (fcK rows)
def ksF (many : Nat) (rows : List Rw) : List NK := enKs many (rowsK many 0 rows []) (fcK rows)
theorem make_rows_ok (rows : List Rw) (many n : Nat) (st : Stor) (hwf : M.wf st) (hgt : st[n]? = some (.lst (rows.map encRow))) (hm : many ≤ 100) (hr : ∀ r ∈ rows, r.c + 1 ≤ many) (hl : rows.length ≤ 100) :
    Fst (fcK rows) many (2 * rows.length) ∧ (ksF many rows).Nodup ∧ (∀ q ∈ allF many rows, inR (ksF many rows) q) ∧ F_p_make_rows [.loc n, .int (many : Nat)] st = .ok (.loc st.length) (st ++ [.lst ((allF many rows).map (encSR (rows.length + 1) (ksF many rows)))]) := by
  have hg : lstG st n = some (rows.map encRow, .lst (rows.map encRow)) := by unfold lstG; rw [hgt]
  generalize hf : rows.length + 1 = f
  unfold F_p_make_rows gcF fnM b_p_make_rows
  -- what is told row by row
  obtain ⟨env1, st1, e1, ks1, g1, a4, a5, hkE1, hn1, hk1, hL1, hin1, hg1, rfl, rfl⟩ := forGo_ix (g := tupG 2 (consG (nameG 4) (consG (nameG 5) nilG))) (b := exprS (methE "list" extendV (vr 3) (consA (callF F_p_rules_of_row [] (consA (vr 2) (consA (vr 4) (consA (vr 5) (consA (vr 1) nilA))))) nilA))) (gs := [(n, .lst (rows.map encRow))]) (items := enumL 0 (rows.map encRow))
    (fun i env s => ∃ (ks : List NK) (g : Stor) (a4 a5 : Option D), ks = rowsK many 0 (rows.take i) [] ∧ ks.Nodup ∧ ks.length ≤ i * 110 ∧ (rowsR many 0 (rows.take i)).length ≤ i * 210 ∧ (∀ q ∈ rowsR many 0 (rows.take i), inR ks q) ∧ (∀ o ∈ g, ∀ n, underO n o) ∧
      env = [some (.loc n), some (.int (many : Nat)), some (.loc st.length), some (.loc (st.length + 2)), a4, a5, none, none] ∧ s = W st f ks ((rowsR many 0 (rows.take i)).map (encSR f ks)) g)
    (env := [some (.loc n), some (.int (many : Nat)), some (.loc st.length), some (.loc (st.length + 2)), none, none, none, none]) (st := W st f [] [] [])
    ⟨[], [], none, none, rfl, by simp, by simp, by simp [rowsR], by simp [rowsR], by simp, rfl, by simp [rowsR]⟩ (by
      rintro i d env s hi ⟨ks, g, a4, a5, hkE, hn, hk, hL, hin, hgu, rfl, rfl⟩
      obtain ⟨x, hx, rfl⟩ := enum_get hi
      rw [List.getElem?_map] at hx
      obtain ⟨r, hr1, rfl⟩ := Option.map_eq_some_iff.mp hx
      have hmem := List.mem_of_getElem? hr1
      have hil := (List.getElem?_eq_some_iff.mp hr1).1
      have hrc := hr r hmem
      generalize hrl : (rowsR many 0 (rows.take i)).map (encSR f ks) = rl
      have hrll : rl.length ≤ i * 210 := by rw [← hrl, List.length_map]; exact hL
      have hu : ∀ n, unders n rl := fun n => by rw [← hrl]; exact encSRs_under _ _ _ _
      have hN := W.num (f := f) (ks := ks) hwf hu hgu
      obtain ⟨ks', l, h1, hkE', h2, h3, h4, h5⟩ := rules_of_row_ok hN hn i many r (by omega) (by omega)
      rw [W.SS, W.len] at h5
      have rlen := rowR_len many i r
      have hxt := W.ext (st := st) (f := f) (ks := ks') (rl := rl) (rs := (rowR many i r).map (encSR f ks')) (g := g) (by rw [List.length_map]; omega)
      have e2 : rowsR many 0 (rows.take (i + 1)) = rowsR many 0 (rows.take i) ++ rowR many i r := by
        rw [take_snoc hr1, rowsR_snoc]
        congr 2; rw [List.length_take]; omega
      have e3 : rl ++ (rowR many i r).map (encSR f ks') = (rowsR many 0 (rows.take (i + 1))).map (encSR f ks') := by
        rw [e2, List.map_append, ← hrl, h1, encSRs_mono l hin]
      have ty := W.ty (st := st) (f := f) (ks := ks') (rl := rl) (g := g ++ [.lst ((rowR many i r).map (encSR f ks'))])
      have ty0 := W.ty (st := st) (f := f) (ks := ks) (rl := rl) (g := g)
      refine ⟨by simp [W.old hgt], [some (.loc n), some (.int (many : Nat)), some (.loc st.length), some (.loc (st.length + 2)), some (.int (i : Nat)), some (encRow r), none, none], W st f ks rl g, by generalize W st f ks rl g = Z; generalize encRow r = ER; simp, [some (.loc n), some (.int (many : Nat)), some (.loc st.length), some (.loc (st.length + 2)), some (.int (i : Nat)), some (encRow r), none, none], W st f ks' (rl ++ (rowR many i r).map (encSR f ks')) (g ++ [.lst ((rowR many i r).map (encSR f ks'))]), .inl ?_, ks', g ++ [.lst ((rowR many i r).map (encSR f ks'))], _, _, by rw [take_snoc hr1, rowsK_snoc, ← hkE, hkE', List.length_take, Nat.min_eq_left (by omega), Nat.zero_add], h2, by omega, by rw [e2, List.length_append]; omega, ?_, ?_, rfl, by rw [e3]⟩
      · generalize W st f ks' (rl ++ (rowR many i r).map (encSR f ks')) (g ++ [.lst ((rowR many i r).map (encSR f ks'))]) = Z9 at *
        generalize W st f ks' rl (g ++ [.lst ((rowR many i r).map (encSR f ks'))]) = Z8 at *
        generalize W st f ks rl g = Z7 at *
        generalize encRow r = ER at *
        simp [h5, hxt, ty, ty0]
      · intro q hq
        rw [e2] at hq
        rcases List.mem_append.mp hq with hq | hq
        · rw [h1]; exact inR_mono _ (hin q hq)
        · exact h4 q hq
      · intro o ho
        rcases List.mem_append.mp ho with ho | ho
        · exact hgu o ho
        · have : o = _ := List.mem_singleton.mp ho
          subst this
          exact fun n => encSRs_under _ _ _ _) (fun _ _ ⟨_, _, _, _, _, _, _, _, _, _, _, e⟩ => by rw [e]; simp [W.old hgt])
  rw [enumL_len, List.length_map] at hk1 hL1 hin1 e1 hkE1
  rw [List.take_length] at hL1 hin1 e1 hkE1
  generalize hR1 : rowsR many 0 rows = R1 at *
  generalize hrl : R1.map (encSR f ks1) = rl at *
  have hu1 : ∀ n, unders n rl := fun n => by rw [← hrl]; exact encSRs_under _ _ _ _
  have hrll : rl.length ≤ rows.length * 210 := by rw [← hrl, List.length_map]; exact hL1
  -- the first counters
  obtain ⟨kvs, hKV, hF, hT, fc⟩ := first_counters_ok rows many n (W st f ks1 rl g1) (by unfold itemsAt; rw [W.old hgt]) (fun _ _ => trivial) hr (by omega) (by unfold lstG; rw [W.old hgt])
  rw [W.len, show W st f ks1 rl g1 ++ [MO.dkc kvs] = W st f ks1 rl (g1 ++ [.dkc kvs]) by simp [W]] at fc
  have hdk : (W st f ks1 rl (g1 ++ [.dkc kvs]))[st.length + 3 + g1.length]? = some (.dkc kvs) := by
    unfold W; rw [List.getElem?_append_right (by simp)]; simp
  have hset : (W st f ks1 rl (g1 ++ [.dkc kvs])).set (st.length + 3 + g1.length) (.dkf kvs) = W st f ks1 rl (g1 ++ [.dkf kvs]) := by
    unfold W; rw [List.set_append_right _ _ (by simp)]; simp
  have hund : ∀ o ∈ g1 ++ [MO.dkf kvs], ∀ n, underO n o := by
    intro o ho
    rcases List.mem_append.mp ho with ho | ho
    · exact hg1 o ho
    · have : o = _ := List.mem_singleton.mp ho
      subst this
      intro n p hp
      obtain ⟨t, v, e, _⟩ := hF.ent p hp
      rw [e]; simp
  -- the way to the end
  obtain ⟨env2, st2, e2, ks2, E2, g2, a7, hkE2, hEE2, hn2, hk2, hL2, hin2, hg2, rfl, rfl⟩ := forGo_ix (g := nameG 7) (b := exprS (methE "list" extendV (vr 3) (consA (callF F_p_rules_to_end [] (consA (vr 2) (consA (vr 7) (consA (op2 ixA (vr 6) (vr 7)) (consA (vr 1) nilA))))) nilA))) (gs := []) (items := kvs.map (fun p => keyD p.1))
    (fun i env s => ∃ (ks : List NK) (E : List SR) (g : Stor) (a7 : Option D), ks = enKs many ks1 (kvs.take i) ∧ E = enEs many (kvs.take i) ∧ ks.Nodup ∧ ks.length ≤ ks1.length + i * 210 ∧ E.length ≤ i * 210 ∧ (∀ q ∈ R1 ++ E, inR ks q) ∧
      (∀ o ∈ g, ∀ n, underO n o) ∧
      env = [some (.loc n), some (.int (many : Nat)), some (.loc st.length), some (.loc (st.length + 2)), a4, a5, some (.loc (st.length + 3 + g1.length)), a7] ∧ s = W st f ks ((R1 ++ E).map (encSR f ks)) (g1 ++ [.dkf kvs] ++ g))
    (env := [some (.loc n), some (.int (many : Nat)), some (.loc st.length), some (.loc (st.length + 2)), a4, a5, some (.loc (st.length + 3 + g1.length)), none]) (st := W st f ks1 rl (g1 ++ [.dkf kvs]))
    ⟨ks1, [], [], none, rfl, rfl, hn1, by omega, by simp, by simpa using hin1, by simp, rfl, by simp [hrl]⟩ (by
      rintro i d env s hi ⟨ks, E, g, a7, hkE, hEE, hn, hk, hL, hin, hgu, rfl, rfl⟩
      rw [List.getElem?_map] at hi
      obtain ⟨p, hp1, rfl⟩ := Option.map_eq_some_iff.mp hi
      have hmem := List.mem_of_getElem? hp1
      have hil := (List.getElem?_eq_some_iff.mp hp1).1
      have hkl := hF.len
      obtain ⟨t, v, rfl, hv⟩ := hF.ent p hmem
      have hd : valN kvs (.inl (t : Nat)) = some (.int (v : Nat)) := valN_nd hF.nd hmem
      have eT : natK (.inl ((t : Nat) : Int)) = t := Int.toNat_natCast t
      have eV : natD (.int ((v : Nat) : Int)) = v := Int.toNat_natCast v
      generalize hrl2 : (R1 ++ E).map (encSR f ks) = rl2
      have hrll : rl2.length ≤ rows.length * 210 + i * 210 := by rw [← hrl2, List.length_map, List.length_append]; omega
      have hu : ∀ n, unders n rl2 := fun n => by rw [← hrl2]; exact encSRs_under _ _ _ _
      have hgu2 : ∀ o ∈ g1 ++ [MO.dkf kvs] ++ g, ∀ n, underO n o := by
        intro o ho
        rcases List.mem_append.mp ho with ho | ho
        · exact hund o ho
        · exact hgu o ho
      have hN := W.num (f := f) (ks := ks) hwf hu hgu2
      obtain ⟨ks', l, h1, hkE', h2, h3, h4, h5⟩ := rules_to_end_ok hN hn t v many (by omega) (by omega) (by omega)
      rw [W.SS, W.len] at h5
      have rlen := enRs_len many t (many - v) v
      have hix : ixA (.loc (st.length + 3 + g1.length)) (.int (t : Nat)) (W st f ks rl2 (g1 ++ [.dkf kvs] ++ g)) = .ok (.int (v : Nat)) (W st f ks rl2 (g1 ++ [.dkf kvs] ++ g)) := r_ixA_f (by
        unfold W; rw [List.getElem?_append_right (by simp)]; simp) (keyOf_int _) hd
      have hxt := W.ext (st := st) (f := f) (ks := ks') (rl := rl2) (rs := (enRs many t v (many - v)).map (encSR f ks')) (g := g1 ++ [.dkf kvs] ++ g) (by rw [List.length_map]; omega)
      have e3 : rl2 ++ (enRs many t v (many - v)).map (encSR f ks') = (R1 ++ (E ++ enRs many t v (many - v))).map (encSR f ks') := by
        rw [← List.append_assoc, List.map_append, ← hrl2, h1, encSRs_mono l hin]
      have ty := W.ty (st := st) (f := f) (ks := ks') (rl := rl2) (g := g1 ++ [.dkf kvs] ++ g ++ [.lst ((enRs many t v (many - v)).map (encSR f ks'))])
      have ty0 := W.ty (st := st) (f := f) (ks := ks) (rl := rl2) (g := g1 ++ [.dkf kvs] ++ g)
      rw [keyD_int]
      refine ⟨by simp, [some (.loc n), some (.int (many : Nat)), some (.loc st.length), some (.loc (st.length + 2)), a4, a5, some (.loc (st.length + 3 + g1.length)), some (.int (t : Nat))], W st f ks rl2 (g1 ++ [.dkf kvs] ++ g), by generalize W st f ks rl2 _ = Z; simp, [some (.loc n), some (.int (many : Nat)), some (.loc st.length), some (.loc (st.length + 2)), a4, a5, some (.loc (st.length + 3 + g1.length)), some (.int (t : Nat))], W st f ks' (rl2 ++ (enRs many t v (many - v)).map (encSR f ks')) (g1 ++ [.dkf kvs] ++ g ++ [.lst ((enRs many t v (many - v)).map (encSR f ks'))]), .inl ?_, ks', E ++ enRs many t v (many - v), g ++ [.lst ((enRs many t v (many - v)).map (encSR f ks'))], _, by rw [take_snocA hp1, enKs_snoc, eT, eV, ← hkE, hkE'], by rw [take_snocA hp1, enEs_snoc, ← hEE]; unfold enE; rw [eT, eV], h2, by omega, by rw [List.length_append]; omega, ?_, ?_, rfl, by rw [e3]; simp⟩
      · generalize W st f ks' (rl2 ++ (enRs many t v (many - v)).map (encSR f ks')) _ = Z9 at *
        generalize W st f ks' rl2 _ = Z8 at *
        generalize W st f ks rl2 _ = Z7 at *
        generalize st.length + 3 + (g1 ++ [MO.dkf kvs] ++ g).length = X at *
        generalize st.length + 3 + g1.length = Y at *
        simp [h5, hxt, ty, ty0, hix]
      · intro q hq
        rw [← List.append_assoc] at hq
        rcases List.mem_append.mp hq with hq | hq
        · rw [h1]; exact inR_mono _ (hin q hq)
        · exact h4 q hq
      · intro o ho
        rcases List.mem_append.mp ho with ho | ho
        · exact hgu o ho
        · have : o = _ := List.mem_singleton.mp ho
          subst this
          exact fun n => encSRs_under _ _ _ _) (fun _ _ _ => by simp)
  rw [List.length_map, List.take_length] at hkE2 hEE2
  have eK : ksF many rows = ks2 := by unfold ksF; rw [← hKV, ← hkE1, hkE2]
  have eA : allF many rows = R1 ++ E2 := by unfold allF; rw [← hKV, hR1, hEE2]
  rw [← hKV]
  refine ⟨hF, by rw [eK]; exact hn2, by rw [eK, eA]; exact hin2, ?_⟩
  rw [eK, eA]
  · have hlen := lenW_loc hg
    rw [List.length_map] at hlen
    have ef : ((rows.length : Nat) : Int) + 1 = ((f : Nat) : Int) := by omega
    have hin := init_ok st f
    have gcx := gc_new (st := st) (g := [insN st.length f, .dic (kvsN f ks2)]) (g' := g1 ++ [.dkf kvs] ++ g2) (o := .lst ((R1 ++ E2).map (encSR f ks2))) (encSRs_under _ _ _ _)
    have eW : st ++ [insN st.length f, .dic (kvsN f ks2)] ++ MO.lst ((R1 ++ E2).map (encSR f ks2)) :: (g1 ++ [.dkf kvs] ++ g2) = W st f ks2 ((R1 ++ E2).map (encSR f ks2)) (g1 ++ [.dkf kvs] ++ g2) := by simp [W]
    rw [eW] at gcx
    have eW0 : st ++ [insN st.length f, .dic []] ++ [.lst []] = W st f [] [] [] := by simp [W, kvsN]
    have hl0 : (st ++ [insN st.length f, .dic []]).length = st.length + 2 := by simp
    have hg0 : lstG (W st f [] [] []) n = some (rows.map encRow, .lst (rows.map encRow)) := by unfold lstG; rw [W.old hgt]
    have hdi := r_dkI_c (m := vr 6) (env := [some (.loc n), some (.int (many : Nat)), some (.loc st.length), some (.loc (st.length + 2)), a4, a5, some (.loc (st.length + 3 + g1.length)), none]) (st := W st f ks1 rl (g1 ++ [.dkc kvs])) rfl hdk
    rw [hset] at hdi
    have hmk : makeE "Numbers" F_p_Numbers_init (consA (op2 addV (callE lenW (consA (vr 0) nilA)) (ct (.int 1))) nilA) [some (.loc n), some (.int (many : Nat)), none, none, none, none, none, none] st = .ok (.loc st.length) (st ++ [insN st.length f, .dic []]) := by
      unfold makeE
      have a1 : (consA (op2 addV (callE lenW (consA (vr 0) nilA)) (ct (.int 1))) nilA : MA) [some (.loc n), some (.int (many : Nat)), none, none, none, none, none, none] st = .ok [.int (f : Nat)] st := by simp [hlen, ef]
      rw [a1, R.bind_ok, hin]
      rfl
    generalize hMK : makeE "Numbers" F_p_Numbers_init _ = MK at *
    rw [show startM 8 [D.loc n, .int (many : Nat)] = [some (.loc n), some (.int (many : Nat)), none, none, none, none, none, none] from rfl]
    generalize (R1 ++ E2).map (encSR f ks2) = RL at *
    generalize W st f ks2 RL _ = Z9 at *
    generalize W st f ks1 rl (g1 ++ [.dkf kvs]) = Z8 at *
    generalize W st f ks1 rl (g1 ++ [.dkc kvs]) = Z7 at *
    generalize W st f ks1 rl g1 = Z6 at *
    generalize W st f [] [] [] = Z5 at *
    generalize kvs.map (fun p => keyD p.1) = IT at *
    generalize st ++ [insN st.length f, .dic []] = Z4 at *
    generalize st.length + 3 + g1.length = Y at *
    generalize rows.map encRow = RW at *
    generalize hD : dkI (vr 6) = DK at *
    simp [hmk, eW0, hl0, hg0, e1, fc, hdi, e2]
    exact gcx
end Law
set_option maxHeartbeats 0
namespace Law
open L2 M NK NS
theorem lenW_it {st : Stor} {n : Nat} {ds : List D} (h : itemsAt st n = some ds) : lenW [.loc n] st = .ok (.int ds.length) st := by
  have h2 := r_len_loc st n ds h
  unfold itemsAt at h
  unfold lenW
  split at h
  · rename_i q; simp only [q]; exact h2
  · rename_i q; simp only [q]; exact h2
  · cases h
theorem cell_at (ns : List Int) (n : Nat) (k : Nat) (st : Stor) (h : itemsAt st n = some (ns.map D.int)) : F_l_cell_at [.loc n, .int k] st = .ok (.int (ns.getD k 0)) st := by
  unfold F_l_cell_at gcF fnM b_l_cell_at
  by_cases hk : k < ns.length
  · simp [startM, lenW_it h, hk, r_ix_loc st n k _ (.int (ns.getD k 0)) h (by rw [atI_ofNat]; simp [hk]), gc_same]
  · simp [startM, lenW_it h, hk, gc_same]
def mixed (c k : Int) : Int := (c % 1000000007 + 7919 * k + 13) * (c % 1000000007 + 7919 * k + 13) % 998244353 / 3
theorem mixed_ok (c k : Int) (st : Stor) (h0 : 0 ≤ k) (h1 : k ≤ 1000000) : F_l_mixed [.int c, .int k] st = .ok (.int (mixed c k)) st := by
  have a1 := Int.emod_nonneg c (show (1000000007 : Int) ≠ 0 by decide)
  have a2 := Int.emod_lt_of_pos c (show (0 : Int) < 1000000007 by decide)
  unfold F_l_mixed gcF fnM b_l_mixed mixed
  simp [startM, r_mod_int, r_fdiv_int, r_mul_int st 7919 k (by omega), r_mul_int st (c % 1000000007 + 7919 * k + 13) (c % 1000000007 + 7919 * k + 13) (by omega), gc_same]
abbrev upS : List Nat := [117, 112]
abbrev downS : List Nat := [100, 111, 119, 110]
/-- a row that fits -/
inductive RowOk (many rows : Int) : D → Prop where
  | up (c t : Int) (h1 : 0 ≤ c) (h2 : c < many) (h3 : 0 ≤ t) (h4 : t ≤ rows) : RowOk many rows (.tup [.str upS, .int c, .int t])
  | down (c t o : Int) (h1 : 0 ≤ c) (h2 : c < many) (h3 : 0 ≤ t) (h4 : t ≤ rows) (h5 : 0 ≤ o) (h6 : o ≤ rows) : RowOk many rows (.tup [.str downS, .int c, .int t, .int o])
def rowOf (a c t o : Int) : D := if a = 0 then .tup [.str upS, .int c, .int t] else .tup [.str downS, .int c, .int t, .int o]
def rowD (cell k many rows : Int) : D :=
  if cell % 2 = 1 then rowOf (if 1 < mixed cell (5 * k) / 3 % 5 then 1 else 0) (mixed cell (5 * k + 1) % many) (if mixed cell (5 * k) % 3 = 0 then (if rows < k + 1 then rows else k + 1) else mixed cell (5 * k + 2) % (rows + 1)) (mixed cell (5 * k + 3) % (rows + 1))
  else rowOf (cell / 2 % 2) (cell / 2 / 2 % many) (cell / 2 / 2 / many % (rows + 1)) (cell / 2 / 2 / many / (rows + 1) % (rows + 1))
theorem rowD_ok (cell k many rows : Int) (hm : 0 < many) (hr : 0 ≤ rows) (hk : 0 ≤ k) : RowOk many rows (rowD cell k many rows) := by
  have key : ∀ a c t o : Int, 0 ≤ c → c < many → 0 ≤ t → t ≤ rows → 0 ≤ o → o ≤ rows → RowOk many rows (rowOf a c t o) := fun a c t o h1 h2 h3 h4 h5 h6 => by
    unfold rowOf
    split
    · exact .up c t h1 h2 h3 h4
    · exact .down c t o h1 h2 h3 h4 h5 h6
  have m1 : ∀ x : Int, 0 ≤ x % many := fun x => Int.emod_nonneg x (by omega)
  have m2 : ∀ x : Int, x % many < many := fun x => Int.emod_lt_of_pos x hm
  have p1 : ∀ x : Int, 0 ≤ x % (rows + 1) := fun x => Int.emod_nonneg x (by omega)
  have p2 : ∀ x : Int, x % (rows + 1) ≤ rows := fun x => by have := Int.emod_lt_of_pos x (show 0 < rows + 1 by omega); omega
  unfold rowD
  split
  · refine key _ _ _ _ (m1 _) (m2 _) ?_ ?_ (p1 _) (p2 _)
    · split
      · split <;> omega
      · exact p1 _
    · split
      · split <;> omega
      · exact p2 _
  · exact key _ _ _ _ (m1 _) (m2 _) (p1 _) (p2 _) (p1 _) (p2 _)
theorem row_of_ok (cell k many rows : Int) (st : Stor) (hm : 0 < many) (hm2 : many ≤ 100) (hr : 0 ≤ rows) (hr2 : rows ≤ 100) (hk : 0 ≤ k) (hk2 : k ≤ 1000) :
    F_l_row_of [.int cell, .int k, .int many, .int rows] st = .ok (rowD cell k many rows) st := by
  have f1 : ∀ s i, fdivV (.int i) (.int many) s = .ok (.int (i / many)) s := fun s i => r_fdiv_int s i many ⟨hm, by omega⟩
  have f2 : ∀ s i, fdivV (.int i) (.int (rows + 1)) s = .ok (.int (i / (rows + 1))) s := fun s i => r_fdiv_int s i (rows + 1) ⟨by omega, by omega⟩
  have g1 : ∀ s i, modV (.int i) (.int many) s = .ok (.int (i % many)) s := fun s i => r_mod_int s i many hm
  have g2 : ∀ s i, modV (.int i) (.int (rows + 1)) s = .ok (.int (i % (rows + 1))) s := fun s i => r_mod_int s i (rows + 1) (by omega)
  have m5 : ∀ s, mulV (.int 5) (.int k) s = .ok (.int (5 * k)) s := fun s => r_mul_int s 5 k (by omega)
  have x0 : ∀ s, F_l_mixed [.int cell, .int (5 * k)] s = .ok (.int (mixed cell (5 * k))) s := fun s => mixed_ok _ _ s (by omega) (by omega)
  have x1 : ∀ s, F_l_mixed [.int cell, .int (5 * k + 1)] s = .ok (.int (mixed cell (5 * k + 1))) s := fun s => mixed_ok _ _ s (by omega) (by omega)
  have x2 : ∀ s, F_l_mixed [.int cell, .int (5 * k + 2)] s = .ok (.int (mixed cell (5 * k + 2))) s := fun s => mixed_ok _ _ s (by omega) (by omega)
  have x3 : ∀ s, F_l_mixed [.int cell, .int (5 * k + 3)] s = .ok (.int (mixed cell (5 * k + 3))) s := fun s => mixed_ok _ _ s (by omega) (by omega)
  unfold F_l_row_of gcF fnM b_l_row_of rowD
  by_cases hc : cell % 2 = 1
  · by_cases hz : mixed cell (5 * k) % 3 = 0
    · by_cases ha : 1 < mixed cell (5 * k) / 3 % 5
      · simp [startM, r_mod_int, r_fdiv_int, f1, f2, g1, g2, m5, x0, x1, x2, x3, hc, hz, ha, rowOf, ixV, setV, atI, ixN, addV, gc_flat, Nat.add_assoc]
      · simp [startM, r_mod_int, r_fdiv_int, f1, f2, g1, g2, m5, x0, x1, x2, x3, hc, hz, ha, rowOf, ixV, setV, atI, ixN, addV, gc_flat, Nat.add_assoc]
    · by_cases ha : 1 < mixed cell (5 * k) / 3 % 5
      · simp [startM, r_mod_int, r_fdiv_int, f1, f2, g1, g2, m5, x0, x1, x2, x3, hc, hz, ha, rowOf, ixV, setV, atI, ixN, addV, gc_flat, Nat.add_assoc]
      · simp [startM, r_mod_int, r_fdiv_int, f1, f2, g1, g2, m5, x0, x1, x2, x3, hc, hz, ha, rowOf, ixV, setV, atI, ixN, addV, gc_flat, Nat.add_assoc]
  · by_cases ha : cell / 2 % 2 = 0
    · simp [startM, r_mod_int, r_fdiv_int, f1, f2, g1, g2, m5, hc, ha, rowOf, ixV, setV, atI, ixN, addV, gc_flat, Nat.add_assoc]
    · simp [startM, r_mod_int, r_fdiv_int, f1, f2, g1, g2, m5, hc, ha, rowOf, ixV, setV, atI, ixN, addV, gc_flat, Nat.add_assoc]
/-- the program of a law's cells -/
def rowAt (many rows : Int) : D → D
  | .tup [.int k, .int c] => rowD c k many rows
  | _ => .non
def progD (cells : List Int) (many : Int) : List D := (enumL 0 (cells.map D.int)).map (rowAt many cells.length)
theorem enumL_mem {ds : List D} {d : D} {k : Nat} (h : d ∈ enumL k ds) : ∃ (i : Nat) (x : D), d = .tup [.int ((k + i : Nat) : Int), x] ∧ ds[i]? = some x := by
  obtain ⟨i, hi, e⟩ := List.getElem_of_mem h
  have : (enumL k ds)[i]? = some d := by rw [List.getElem?_eq_getElem hi, e]
  rw [enumL_get] at this
  cases q : ds[i]? with
  | none => rw [q] at this; cases this
  | some x => rw [q] at this; cases this; exact ⟨i, x, rfl, q⟩
theorem progD_ok {cells : List Int} {many : Int} (hm : 0 < many) : ∀ d ∈ progD cells many, RowOk many cells.length d := by
  intro d hd
  obtain ⟨e, he, rfl⟩ := List.mem_map.mp hd
  obtain ⟨i, x, rfl, hx⟩ := enumL_mem he
  rw [List.getElem?_map] at hx
  cases q : cells[i]? with
  | none => rw [q] at hx; cases hx
  | some c =>
    rw [q] at hx; cases hx
    exact rowD_ok _ _ _ _ hm (by omega) (by omega)
theorem progD_len (cells : List Int) (many : Int) : (progD cells many).length = cells.length := by simp [progD, enumL_len]
theorem RowOk.under {many rows : Int} {d : D} (h : RowOk many rows d) (n : Nat) : under n d := by cases h <;> simp
theorem RowOk.flat {many rows : Int} {d : D} (h : RowOk many rows d) : flat d = true := by cases h <;> simp
theorem RowOk.dep {many rows : Int} {d : D} (h : RowOk many rows d) : dep d = 1 := by cases h <;> simp
theorem rows_under {many rows : Int} {ds : List D} (h : ∀ d ∈ ds, RowOk many rows d) (n : Nat) : unders n ds := by
  rw [unders_iff]; exact fun d hd => (h d hd).under n
theorem program_ok (cells : List Int) (n : Nat) (many : Int) (st : Stor) (o : MO) (h : lstG st n = some (cells.map D.int, o)) (hl : cells.length ≤ 100) (hm : 0 < many) (hm2 : many ≤ 100) :
    F_l_program [.loc n, .int many] st = .ok (.loc st.length) (st ++ [.lst (progD cells many)]) := by
  have hi := lstG_items h
  unfold F_l_program gcF fnM b_l_program
  have c := compE_map (capt := [some 1, some 0, none, none]) (mi := enumI (consA (vr 0) nilA)) (g := tupG 2 (consG (nameG 2) (consG (nameG 3) nilG)))
    (e := callF F_l_row_of [] (consA (vr 3) (consA (vr 2) (consA (vr 0) (consA (callE lenW (consA (vr 1) nilA)) nilA))))) (env := [some (.loc n), some (.int many)]) (st := st) (st1 := st) (items := enumL 0 (cells.map D.int)) (gs := [(n, o)])
    (rowAt many cells.length) (fun env => ∃ a b, env = [some (.int many), some (.loc n), a, b]) (by simp [h]) ⟨none, none, rfl⟩ (by rw [enumL_len]; simp; omega)
    (fun ys => by simp [get_app hi.2.1]) ?_
  · simp only [startM, List.map_cons, List.map_nil, List.length_cons, List.length_nil, Nat.reduceAdd, Nat.reduceSub, List.replicate_zero, List.append_nil, r_retS]
    rw [c]
    exact gc_new0 (rows_under (progD_ok hm) _)
  · rintro d hd env' ys ⟨a, b, rfl⟩
    obtain ⟨i, x, rfl, hx⟩ := enumL_mem hd
    rw [List.getElem?_map] at hx
    cases q : cells[i]? with
    | none => rw [q] at hx; cases hx
    | some c =>
      rw [q] at hx; cases hx
      have hil := (List.getElem?_eq_some_iff.mp q).1
      refine ⟨[some (.int many), some (.loc n), some (.int i), some (.int c)], ⟨_, _, rfl⟩, by simp, ?_⟩
      have e1 : itemsAt (st ++ [.lst ys]) n = some (cells.map D.int) := itemsAt_app hi.1
      have e2 := row_of_ok c ((0 + i : Nat) : Int) many cells.length (st ++ [.lst ys]) hm hm2 (by omega) (by omega) (by omega) (by omega)
      simp only [Nat.zero_add] at e2
      simp [lenW_it e1, e2, rowAt]
theorem RowOk.rw {many rows : Nat} {d : D} (h : RowOk (many : Nat) (rows : Nat) d) : ∃ r : Rw, d = encRow r ∧ r.c + 1 ≤ many ∧ r.t ≤ rows ∧ r.f ≤ rows := by
  cases h with
  | up c t h1 h2 h3 h4 =>
    obtain ⟨c, rfl⟩ := Int.eq_ofNat_of_zero_le h1
    obtain ⟨t, rfl⟩ := Int.eq_ofNat_of_zero_le h3
    exact ⟨⟨true, c, t, 0⟩, rfl, by simp only; omega, by simp only; omega, by simp⟩
  | down c t o h1 h2 h3 h4 h5 h6 =>
    obtain ⟨c, rfl⟩ := Int.eq_ofNat_of_zero_le h1
    obtain ⟨t, rfl⟩ := Int.eq_ofNat_of_zero_le h3
    obtain ⟨o, rfl⟩ := Int.eq_ofNat_of_zero_le h5
    exact ⟨⟨false, c, t, o⟩, rfl, by simp only; omega, by simp only; omega, by simp only; omega⟩
theorem rows_rw {many rows : Nat} : ∀ (ds : List D), (∀ d ∈ ds, RowOk (many : Nat) (rows : Nat) d) → ∃ rs : List Rw, ds = rs.map encRow ∧ ∀ r ∈ rs, r.c + 1 ≤ many ∧ r.t ≤ rows ∧ r.f ≤ rows
  | [], _ => ⟨[], rfl, by simp⟩
  | d :: ds, h => by
    obtain ⟨r, h1, h2⟩ := (h d (by simp)).rw
    obtain ⟨rs, h3, h4⟩ := rows_rw ds fun e he => h e (by simp [he])
    refine ⟨r :: rs, by rw [h1, h3]; rfl, fun q hq => ?_⟩
    rcases List.mem_cons.mp hq with rfl | hq
    · exact h2
    · exact h4 q hq
theorem rows_ok (cells : List Int) (n many : Nat) (st : Stor) (h : st[n]? = some (.lst (cells.map D.int))) (hl : cells.length ≤ 100) (hm : 0 < many) (hm2 : many ≤ 100) :
    ∃ rows : List Rw, rows.length = cells.length ∧ (∀ r ∈ rows, r.c + 1 ≤ many ∧ r.t ≤ rows.length ∧ r.f ≤ rows.length) ∧ F_l_program [.loc n, .int (many : Nat)] st = .ok (.loc st.length) (st ++ [.lst (rows.map encRow)]) := by
  obtain ⟨rs, h1, h2⟩ := rows_rw (many := many) (rows := cells.length) _ (progD_ok (cells := cells) (many := (many : Nat)) (by omega))
  have hlen : rs.length = cells.length := by rw [← progD_len cells (many : Nat), h1, List.length_map]
  refine ⟨rs, hlen, by rw [hlen]; exact h2, ?_⟩
  rw [program_ok cells n (many : Nat) st (.lst (cells.map D.int)) (by unfold lstG; rw [h]) hl (by omega) (by omega), h1]
theorem encRow_flat (r : Rw) : flat (encRow r) = true ∧ dep (encRow r) = 1 ∧ ∀ n, under n (encRow r) := by unfold encRow; split <;> simp
theorem encRows_flat (rs : List Rw) : flats (rs.map encRow) = true ∧ deps (rs.map encRow) ≤ 1 ∧ ∀ n, unders n (rs.map encRow) := by
  induction rs with
  | nil => simp
  | cons r rs ih =>
    obtain ⟨h1, h2, h3⟩ := encRow_flat r
    refine ⟨by rw [List.map_cons, flats_cons, h1, ih.1]; rfl, by rw [List.map_cons, deps_cons, h2]; have := ih.2.1; omega, fun n => ?_⟩
    rw [List.map_cons, unders_cons]; exact ⟨h3 n, ih.2.2 n⟩
end Law
set_option maxHeartbeats 0
namespace Law
open L2 M NK NS
/-! the made rules: their form, and that no two have one state and sign -/
def KO (q : SR) : NS × Nat := (q.s, q.x)
def ow : NS → Nat
  | pl p => p
  | nk (ah p _) => p
  | nk (ask p) => p
  | nk (en t _) => t
def isE : NS → Bool
  | nk (en _ _) => true
  | _ => false
def rk : NS × Nat → Nat
  | (pl _, _) => 0
  | (nk (ah _ k), x) => 2 * k + (if x = 105 then 1 else 2)
  | (nk (ask _), x) => 1000000 + (if x = 105 then 1 else 2)
  | (nk (en _ c), x) => 2 * c + (if x = 105 then 0 else 1)
def bei (c : Nat) : Prop := c = 98 ∨ c = 101 ∨ c = 105
structure Frm (q : SR) : Prop where
  x : bei q.x
  wl : q.w.length ≤ 2
  w : ∀ c ∈ q.w, bei c
theorem bei_sg (k : Nat) : bei (sgA k) := by unfold sgA bei; split <;> simp
theorem rk_st (p k : Nat) : rk (stA p k, sgA k) = 2 * k := by
  unfold stA sgA
  by_cases c : k = 0
  · subst c; rfl
  · simp only [if_neg c, rk]; simp; omega
theorem ow_st (p k : Nat) : ow (stA p k) = p ∧ isE (stA p k) = false := by unfold stA; split <;> exact ⟨rfl, rfl⟩
theorem ahR_eq (p k : Nat) : ahR p (k + 1) = ahR p k ++ [⟨stA p k, sgA k, [sgA k], nk (ah p k)⟩, ⟨nk (ah p k), 105, [105], nk (ah p k)⟩] := rfl
theorem ahR_mem (p : Nat) : ∀ (k : Nat) (q : SR), q ∈ ahR p k → Frm q ∧ ow q.s = p ∧ isE q.s = false ∧ rk (KO q) < 2 * k
  | 0, q, h => nomatch h
  | k + 1, q, h => by
    rw [ahR_eq] at h
    rcases List.mem_append.mp h with h | h
    · obtain ⟨h1, h2, h3, h4⟩ := ahR_mem p k q h
      exact ⟨h1, h2, h3, by omega⟩
    · simp only [List.mem_cons, List.not_mem_nil, or_false] at h
      rcases h with rfl | rfl
      · refine ⟨⟨bei_sg k, by simp, fun c hc => ?_⟩, (ow_st p k).1, (ow_st p k).2, ?_⟩
        · rw [List.mem_singleton.mp hc]; exact bei_sg k
        · show rk (stA p k, sgA k) < _
          rw [rk_st]; omega
      · refine ⟨⟨.inr (.inr rfl), by simp, fun c hc => ?_⟩, rfl, rfl, ?_⟩
        · rw [List.mem_singleton.mp hc]; exact .inr (.inr rfl)
        · show 2 * k + 1 < _; omega
theorem ahR_pw (p : Nat) : ∀ k : Nat, (ahR p k).Pairwise fun a b => rk (KO a) < rk (KO b)
  | 0 => .nil
  | k + 1 => by
    rw [ahR_eq, List.pairwise_append]
    have e1 : rk (KO ⟨stA p k, sgA k, [sgA k], nk (ah p k)⟩) = 2 * k := rk_st p k
    have e2 : rk (KO ⟨nk (ah p k), 105, [105], nk (ah p k)⟩) = 2 * k + 1 := rfl
    refine ⟨ahR_pw p k, ?_, fun a ha b hb => ?_⟩
    · rw [List.pairwise_cons]
      refine ⟨fun b hb => ?_, by simp⟩
      rw [List.mem_singleton.mp hb, e1, e2]; omega
    · have := (ahR_mem p k a ha).2.2.2
      simp only [List.mem_cons, List.not_mem_nil, or_false] at hb
      rcases hb with rfl | rfl
      · rw [e1]; exact this
      · rw [e2]; omega
theorem rowR_mem {many p : Nat} {r : Rw} {q : SR} (h : q ∈ rowR many p r) : Frm q ∧ ow q.s = p ∧ isE q.s = false := by
  unfold rowR at h
  rcases List.mem_append.mp h with h | h
  · obtain ⟨h1, h2, h3, _⟩ := ahR_mem p r.c q h
    exact ⟨h1, h2, h3⟩
  · have b2 : ∀ c ∈ [sgA r.c, 105], bei c := by
      intro c hc
      simp only [List.mem_cons, List.not_mem_nil, or_false] at hc
      rcases hc with rfl | rfl
      · exact bei_sg _
      · exact .inr (.inr rfl)
    by_cases c : r.up = true
    · rw [if_pos c] at h
      have : q = _ := List.mem_singleton.mp h
      subst this
      exact ⟨⟨bei_sg _, by simp, b2⟩, ow_st p r.c⟩
    · rw [if_neg c] at h
      simp only [List.mem_cons, List.not_mem_nil, or_false] at h
      rcases h with rfl | rfl | rfl
      · exact ⟨⟨bei_sg _, by simp, fun c hc => b2 c (by rw [List.mem_singleton.mp hc]; simp)⟩, ow_st p r.c⟩
      · exact ⟨⟨.inr (.inr rfl), by simp, by simp⟩, rfl, rfl⟩
      · exact ⟨⟨.inr (.inl rfl), by simp, fun c hc => by rw [List.mem_singleton.mp hc]; exact .inr (.inl rfl)⟩, rfl, rfl⟩
theorem rowR_pw {many p : Nat} {r : Rw} (hc : r.c ≤ 100) : (rowR many p r).Pairwise fun a b => rk (KO a) < rk (KO b) := by
  unfold rowR
  rw [List.pairwise_append]
  have e1 : ∀ w g, rk (KO ⟨stA p r.c, sgA r.c, w, g⟩) = 2 * r.c := fun _ _ => rk_st p r.c
  have e2 : ∀ w g, rk (KO ⟨nk (ask p), 105, w, g⟩) = 1000001 := fun _ _ => rfl
  have e3 : ∀ w g, rk (KO ⟨nk (ask p), 101, w, g⟩) = 1000002 := fun _ _ => rfl
  refine ⟨ahR_pw p r.c, ?_, fun a ha b hb => ?_⟩
  · by_cases c : r.up = true
    · rw [if_pos c]; simp
    · rw [if_neg c]
      refine List.Pairwise.cons (fun b hb => ?_) (List.Pairwise.cons (fun b hb => ?_) (by simp))
      · simp only [List.mem_cons, List.not_mem_nil, or_false] at hb
        rcases hb with rfl | rfl
        · rw [e1, e2]; omega
        · rw [e1, e3]; omega
      · rw [List.mem_singleton.mp hb, e2, e3]; omega
  · have := (ahR_mem p r.c a ha).2.2.2
    by_cases c : r.up = true
    · rw [if_pos c] at hb
      rw [List.mem_singleton.mp hb, e1]; exact this
    · rw [if_neg c] at hb
      simp only [List.mem_cons, List.not_mem_nil, or_false] at hb
      rcases hb with rfl | rfl | rfl
      · rw [e1]; exact this
      · rw [e2]; omega
      · rw [e3]; omega
abbrev unl (a b : SR) : Prop := KO a ≠ KO b
theorem unl_rk {l : List SR} (h : l.Pairwise fun a b => rk (KO a) < rk (KO b)) : l.Pairwise unl := h.imp fun h e => by rw [e] at h; omega
theorem unl_ow {a b : SR} (h : ow a.s ≠ ow b.s) : unl a b := fun e => h (congrArg (fun z : NS × Nat => ow z.1) e)
theorem unl_E {a b : SR} (h : isE a.s ≠ isE b.s) : unl a b := fun e => h (congrArg (fun z : NS × Nat => isE z.1) e)
theorem rowsR_all {many : Nat} : ∀ (rs : List Rw) (p : Nat), (∀ r ∈ rs, r.c ≤ 100) → (rowsR many p rs).Pairwise unl ∧ ∀ q ∈ rowsR many p rs, Frm q ∧ isE q.s = false ∧ p ≤ ow q.s ∧ ow q.s < p + rs.length
  | [], p, _ => ⟨.nil, fun _ h => nomatch h⟩
  | r :: rs, p, h => by
    obtain ⟨h1, h2⟩ := rowsR_all (many := many) rs (p + 1) fun x hx => h x (by simp [hx])
    rw [rowsR]
    refine ⟨List.pairwise_append.mpr ⟨unl_rk (rowR_pw (h r (by simp))), h1, fun a ha b hb => unl_ow ?_⟩, fun q hq => ?_⟩
    · have e1 := (rowR_mem ha).2.1
      have e2 := (h2 b hb).2.2.1
      omega
    · rcases List.mem_append.mp hq with hq | hq
      · obtain ⟨h3, h4, h5⟩ := rowR_mem hq
        exact ⟨h3, h5, by omega, by simp only [List.length_cons]; omega⟩
      · obtain ⟨h3, h4, h5, h6⟩ := h2 q hq
        exact ⟨h3, h4, by omega, by simp only [List.length_cons]; omega⟩
theorem rowsR_len {many m : Nat} : ∀ (rs : List Rw) (p : Nat), (∀ r ∈ rs, r.c ≤ 5) → (rowsR many p rs).length ≤ 13 * rs.length
  | [], _, _ => by simp [rowsR]
  | r :: rs, p, h => by
    rw [rowsR, List.length_append]
    have := rowR_len many p r
    have := h r (by simp)
    have := rowsR_len (many := many) (m := m) rs (p + 1) fun x hx => h x (by simp [hx])
    simp only [List.length_cons]; omega
theorem enRs_all (many t : Nat) : ∀ (n c : Nat), (enRs many t c n).Pairwise (fun a b => rk (KO a) < rk (KO b)) ∧ ∀ q ∈ enRs many t c n, Frm q ∧ isE q.s = true ∧ ow q.s = t ∧ 2 * c ≤ rk (KO q)
  | 0, c => ⟨.nil, fun _ h => nomatch h⟩
  | n + 1, c => by
    obtain ⟨h1, h2⟩ := enRs_all many t n (c + 1)
    rw [enRs]
    have e2 : ∀ w g, rk (KO ⟨nk (en t c), 105, w, g⟩) = 2 * c := fun _ _ => rfl
    have e3 : ∀ w g, rk (KO ⟨nk (en t c), 101, w, g⟩) = 2 * c + 1 := fun _ _ => rfl
    refine ⟨List.pairwise_append.mpr ⟨?_, h1, fun a ha b hb => ?_⟩, fun q hq => ?_⟩
    · unfold enR
      refine List.Pairwise.cons (fun b hb => ?_) (by simp)
      rw [List.mem_singleton.mp hb, e2, e3]; omega
    · have := (h2 b hb).2.2.2
      simp only [enR, List.mem_cons, List.not_mem_nil, or_false] at ha
      rcases ha with rfl | rfl
      · rw [e2]; omega
      · rw [e3]; omega
    · rcases List.mem_append.mp hq with hq | hq
      · simp only [enR, List.mem_cons, List.not_mem_nil, or_false] at hq
        rcases hq with rfl | rfl
        · exact ⟨⟨.inr (.inr rfl), by simp, fun c hc => by rw [List.mem_singleton.mp hc]; exact .inr (.inr rfl)⟩, rfl, rfl, by rw [e2]; omega⟩
        · exact ⟨⟨.inr (.inl rfl), by simp, fun c hc => by rw [List.mem_singleton.mp hc]; exact .inr (.inl rfl)⟩, rfl, rfl, by rw [e3]; omega⟩
      · obtain ⟨h3, h4, h5, h6⟩ := h2 q hq
        exact ⟨h3, h4, h5, by omega⟩
theorem enEs_all {many n : Nat} {kvs : List (Key × D)} (hF : Fst kvs many n) : (enEs many kvs).Pairwise unl ∧ ∀ q ∈ enEs many kvs, Frm q ∧ isE q.s = true := by
  unfold enEs
  refine ⟨List.pairwise_flatten.mpr ⟨fun l hl => ?_, ?_⟩, fun q hq => ?_⟩
  · obtain ⟨p, _, rfl⟩ := List.mem_map.mp hl
    exact unl_rk (enRs_all many _ _ _).1
  · rw [List.pairwise_map]
    have h := hF.nd
    unfold List.Nodup at h
    rw [List.pairwise_map] at h
    refine List.Pairwise.imp_of_mem ?_ h
    intro a b ha hb hne x hx y hy
    refine unl_ow ?_
    rw [((enRs_all many _ _ _).2 x hx).2.2.1, ((enRs_all many _ _ _).2 y hy).2.2.1]
    obtain ⟨t, v, rfl, _⟩ := hF.ent a ha
    obtain ⟨t2, v2, rfl, _⟩ := hF.ent b hb
    intro e
    have e : t = t2 := e
    exact hne (by rw [e])
  · obtain ⟨l, hl, hq⟩ := List.mem_flatten.mp hq
    obtain ⟨p, _, rfl⟩ := List.mem_map.mp hl
    obtain ⟨h1, h2, _, _⟩ := (enRs_all many _ _ _).2 q hq
    exact ⟨h1, h2⟩
theorem enEs_len {many : Nat} (hm : many ≤ 6) : ∀ kvs : List (Key × D), (enEs many kvs).length ≤ 12 * kvs.length
  | [] => by simp [enEs]
  | p :: kvs => by
    have := enEs_len hm kvs
    have e : enEs many (p :: kvs) = enE many p ++ enEs many kvs := rfl
    have : (enE many p).length = 2 * (many - natD p.2) := enRs_len _ _ _ _
    rw [e, List.length_append, List.length_cons]; omega
theorem allF_all {many : Nat} {rows : List Rw} (hF : Fst (fcK rows) many (2 * rows.length)) (hm : many ≤ 6) (hr : ∀ r ∈ rows, r.c + 1 ≤ many) : (allF many rows).Pairwise unl ∧ (∀ q ∈ allF many rows, Frm q ∧ ∀ n, q.s = pl n → n < rows.length) ∧ (allF many rows).length ≤ 37 * rows.length := by
  obtain ⟨h1, h2⟩ := rowsR_all (many := many) rows 0 fun r h => by have := hr r h; omega
  obtain ⟨h3, h4⟩ := enEs_all hF
  unfold allF
  refine ⟨List.pairwise_append.mpr ⟨h1, h3, fun a ha b hb => unl_E ?_⟩, fun q hq => ?_, ?_⟩
  · rw [(h2 a ha).2.1, (h4 b hb).2]; simp
  · rcases List.mem_append.mp hq with hq | hq
    · obtain ⟨h5, h6, h7, h8⟩ := h2 q hq
      refine ⟨h5, fun n e => ?_⟩
      rw [e] at h8
      simpa [ow] using h8
    · obtain ⟨h5, h6⟩ := h4 q hq
      refine ⟨h5, fun n e => ?_⟩
      rw [e] at h6; cases h6
  · have := rowsR_len (many := many) (m := 0) rows 0 fun r h => by have := hr r h; omega
    have := enEs_len hm (fcK rows)
    have := hF.len
    rw [List.length_append]; omega
end Law
set_option maxHeartbeats 0
namespace Law
open L2 M NK NS
theorem gcb (st : Stor) (b : Bool) : gc st (.ok (.bl b) st) = .ok (.bl b) st := by simpa using gc_flat (st := st) (g := []) (d := .bl b) (by simp)
theorem whole_ok (i : Int) (st : Stor) : F_l_whole [.int i] st = .ok (.bl true) st := by
  unfold F_l_whole gcF fnM b_l_whole
  have h := gcb st true
  have e1 : isV "int" (.int i) st = .ok (.bl true) st := rfl
  have e2 : isV "bool" (.int i) st = .ok (.bl false) st := rfl
  have e3 : subTy "int" "bool" = false := by rfl
  simp [startM, e1, e2, e3, h]
theorem notInb (c : Nat) (h : bei c) (Z : Stor) : notInSV (.str [c]) (.str [98, 101, 105]) Z = .ok (.bl false) Z := by
  show (if ([98, 101, 105] : List Nat).length ≤ 1000000 then R.ok (D.bl (!decide (c ∈ [98, 101, 105]))) Z else R.bad) = _
  rw [if_pos (by simp)]
  rcases h with rfl | rfl | rfl <;> rfl
theorem letters_ok (cs : List Nat) (h : ∀ c ∈ cs, bei c) (st : Stor) : F_l_letters [.str cs] st = .ok (.bl true) st := by
  unfold F_l_letters gcF fnM b_l_letters
  generalize hB : (ifS (tB1 (op2 notInSV _ _)) _ _ : MS) = B
  obtain ⟨env', st', e1, a, rfl, rfl⟩ := forGo_ix (g := nameG 1) (b := B) (gs := []) (items := cs.map fun c => D.str [c]) (fun _ env s => ∃ a : Option D, env = [some (.str cs), a] ∧ s = st) (env := [some (.str cs), none]) (st := st) ⟨none, rfl, rfl⟩ (by
    rintro i d env s hi ⟨a, rfl, rfl⟩
    rw [List.getElem?_map] at hi
    obtain ⟨c, hc, rfl⟩ := Option.map_eq_some_iff.mp hi
    have := notInb c (h c (List.mem_of_getElem? hc)) s
    refine ⟨by simp, [some (.str cs), some (.str [c])], s, by simp, [some (.str cs), some (.str [c])], s, .inl ?_, _, rfl, rfl⟩
    rw [← hB]
    simp [this]) (fun _ _ _ => by simp)
  have hall : ∀ x ∈ cs, x < 128 := by
    intro x hx
    rcases h x hx with rfl | rfl | rfl <;> omega
  have hg := gcb st' true
  rw [show startM 2 [D.str cs] = [some (.str cs), none] from rfl]
  have ha : (cs.all fun c => decide (c < 128)) = true := by rw [List.all_eq_true]; intro x hx; simpa using hall x hx
  have hs : strI (vr 0) [some (.str cs), none] st' = .ok (cs.map fun c => D.str [c], []) st' := by
    rw [r_strI]; simp only [r_vr]; simp; exact hall
  generalize strI (vr 0) = SI at *
  generalize (cs.map fun c => D.str [c]) = IT at *
  simp [hs, e1, hg]
theorem is_rule_ok (f : Nat) (ks : List NK) (q : SR) (h : Frm q) (st : Stor) : F_l_is_rule [encSR f ks q] st = .ok (.bl true) st := by
  unfold F_l_is_rule gcF fnM b_l_is_rule encSR
  generalize numS f ks q.s = a
  generalize numS f ks q.g = b
  have hw1 := whole_ok (a : Nat) st
  have hw2 := whole_ok (b : Nat) st
  have hx := letters_ok [q.x] (fun c hc => by rw [List.mem_singleton.mp hc]; exact h.x) st
  have hw := letters_ok q.w h.w st
  have hl : ((q.w.length : Nat) : Int) ≤ 8 := by have := h.wl; omega
  generalize hD : D.tup [.int (a : Nat), .str [q.x], .str q.w, .int (b : Nat)] = T
  have i0 : ixV T (.int 0) st = .ok (.int (a : Nat)) st := by rw [← hD]; rfl
  have i1 : ixV T (.int 1) st = .ok (.str [q.x]) st := by rw [← hD]; rfl
  have i2 : ixV T (.int 2) st = .ok (.str q.w) st := by rw [← hD]; rfl
  have i3 : ixV T (.int 3) st = .ok (.int (b : Nat)) st := by rw [← hD]; rfl
  have t1 : isV "tuple" T st = .ok (.bl true) st := by rw [← hD]; rfl
  have l1 : lenW [T] st = .ok (.int 4) st := by rw [← hD]; rfl
  have l2 : lenW [.str [q.x]] st = .ok (.int 1) st := rfl
  have l3 : lenW [.str q.w] st = .ok (.int (q.w.length : Nat)) st := r_len_str st q.w (by have := h.wl; omega)
  have s1 : isV "str" (.str [q.x]) st = .ok (.bl true) st := rfl
  have s2 : isV "str" (.str q.w) st = .ok (.bl true) st := rfl
  have n1 : ¬ ((a : Nat) : Int) < 0 := by omega
  have n2 : ¬ ((b : Nat) : Int) < 0 := by omega
  have hg := gcb st true
  have tv : truV (.bl true) st = some true := rfl
  have tw : truV (.bl false) st = some false := rfl
  rw [show startM 1 [T] = [some T] from rfl]
  generalize ((a : Nat) : Int) = A at *
  generalize ((b : Nat) : Int) = B at *
  generalize ((q.w.length : Nat) : Int) = L at *
  generalize q.w = W at *
  simp [i0, i1, i2, i3, t1, l1, l2, l3, s1, s2, hw1, hw2, hx, hw, hl, hg, n1, n2, tv, tw]
def keyF (f : Nat) (ks : List NK) (q : SR) : D := .tup [.int (numS f ks q.s : Nat), .str [q.x]]
def keyL (f : Nat) (ks : List NK) (q : SR) : List Key := [.inl (numS f ks q.s : Nat), .inr (strOf [q.x])]
theorem keysD_F (f : Nat) (ks : List NK) : ∀ l : List SR, keysD (l.map (keyF f ks)) = some (l.map (keyL f ks))
  | [] => rfl
  | q :: l => by
    rw [List.map_cons, keyF, keysD, keysD_F f ks l]; rfl
theorem keyL_nd {f : Nat} {ks : List NK} {l : List SR} (h : l.Pairwise unl) (hin : ∀ q ∈ l, inR ks q) (hp : ∀ q ∈ l, ∀ n, q.s = pl n → n < f) : (l.map (keyL f ks)).Nodup := by
  unfold List.Nodup
  rw [List.pairwise_map]
  refine List.Pairwise.imp_of_mem ?_ h
  intro a b ha hb hne e
  unfold keyL at e
  have e1 : ((numS f ks a.s : Nat) : Int) = (numS f ks b.s : Nat) := Sum.inl.inj (List.cons.inj e).1
  have e2 : strOf [a.x] = strOf [b.x] := Sum.inr.inj (List.cons.inj (List.cons.inj e).2).1
  have e3 := numS_inj (hin a ha).1 (hin b hb).1 (hp a ha) (hp b hb) (by omega)
  have e4 : a.x = b.x := by have := strOf_inj.mp e2; simpa using this
  exact hne (by unfold KO; rw [e3, e4])
theorem keyF_flat (f : Nat) (ks : List NK) : ∀ l : List SR, flats (l.map (keyF f ks)) = true
  | [] => rfl
  | q :: l => by rw [List.map_cons, flats_cons, keyF_flat f ks l]; simp [keyF]
theorem not_key {R f : Nat} {ks : List NK} {l : List SR} (hp : ∀ q ∈ l, ∀ n, q.s = pl n → n < R) (hf : f = R + 1) (p : Nat) (st : Stor) (h : itemsAt st p = some (l.map (keyF f ks))) : inLV 200 false (.tup [.int (R : Nat), .str [98]]) (.loc p) st = .ok (.bl false) st := by
  have e : inLV 200 false (.tup [.int (R : Nat), .str [98]]) (.loc p) st = .ok (.bl ((l.map (keyF f ks)).any fun e => eqD e (.tup [.int (R : Nat), .str [98]]))) st := by
    unfold inLV
    simp only [h]
    rw [if_pos ⟨by simp, keyF_flat f ks l, by simp [List.all_eq_true, keyF]⟩]
    simp
  rw [e]
  congr 2
  rw [List.any_eq_false]
  intro d hd
  obtain ⟨q, hq, rfl⟩ := List.mem_map.mp hd
  have : ¬ ((numS f ks q.s : Nat) : Int) = (R : Nat) := by
    intro e
    have hpq := hp q hq
    cases hs : q.s with
    | pl n => rw [hs] at e; have := hpq n hs; simp only [numS] at e; omega
    | nk k => rw [hs] at e; simp only [numS] at e; omega
  simp [keyF, eqD, eqDs, this]
end Law
set_option maxHeartbeats 0
namespace Law
open L2 M NK NS
theorem ints_under (n : Nat) (xs : List Int) : unders n (xs.map D.int) := by
  rw [unders_iff]; intro d hd
  obtain ⟨c, _, rfl⟩ := List.mem_map.mp hd
  simp
theorem bools_all' (l : List SR) : boolsOf (l.map fun _ => D.bl true) = some (l.map fun _ => true) := boolsOf_map (fun _ => true) l
theorem encSR_flat (f : Nat) (ks : List NK) : ∀ l : List SR, flats (l.map (encSR f ks)) = true ∧ deps (l.map (encSR f ks)) ≤ 1
  | [] => ⟨rfl, by simp⟩
  | q :: l => by
    obtain ⟨h1, h2⟩ := encSR_flat f ks l
    refine ⟨by rw [List.map_cons, flats_cons, h1]; simp [encSR], ?_⟩
    rw [List.map_cons, deps_cons]
    have : dep (encSR f ks q) = 1 := by simp [encSR]
    omega
theorem cut_len20 {α : Type} (l : List α) : (cut l (some 1) (some 21)).length ≤ 20 := by
  unfold cut
  rw [show (1 : Int) = ((1 : Nat) : Int) from rfl, show (21 : Int) = ((21 : Nat) : Int) from rfl, HT.sIx_nat, HT.sIx_nat, List.length_take]
  omega
theorem law_true (ns : List Int) (hn : ns.length ≤ 63) : ∃ st, F_p_law [.loc 0] [.frz (ns.map D.int)] = .ok (.bl true) st := by
  have c0 : F_l_cell_at [.loc 0, .int 0] [.frz (ns.map D.int)] = .ok (.int (ns.getD 0 0)) [.frz (ns.map D.int)] := cell_at ns 0 0 _ rfl
  generalize ns.getD 0 0 = v0 at *
  obtain ⟨m, hm⟩ : ∃ m : Nat, 1 + v0 % 6 = (m : Nat) := Int.eq_ofNat_of_zero_le (by omega)
  have hm1 : 1 ≤ m ∧ m ≤ 6 := by omega
  have hcl := cut_len ns (some 1) (some 21)
  have hcl2 : (cut ns (some 1) (some 21)).length ≤ 20 := by
    have := cut_len20 ns
    exact this
  have hsl : slV (.loc 0) (some 1) (some 21) [.frz (ns.map D.int)] = .ok (.loc 1) [.frz (ns.map D.int), .lst ((cut ns (some 1) (some 21)).map D.int)] := by simp [slV, itemsAt, cut_map]
  generalize cut ns (some 1) (some 21) = cells at hsl hcl hcl2
  obtain ⟨rows, hrl, hrr, prog⟩ := rows_ok cells 1 m [.frz (ns.map D.int), .lst (cells.map D.int)] rfl (by omega) (by omega) (by omega)
  have hr1 : ∀ r ∈ rows, r.c + 1 ≤ m := fun r h => (hrr r h).1
  have hrow : ∀ n, unders n (rows.map encRow) := fun n => (encRows_flat rows).2.2 n
  have hN : ∀ n, unders n (ns.map D.int) := fun n => ints_under n ns
  have hC : ∀ n, unders n (cells.map D.int) := fun n => ints_under n cells
  obtain ⟨hF, hnd, hin, mk⟩ := make_rows_ok rows m 3 [.frz (ns.map D.int), .lst (cells.map D.int), .lst (rows.map encRow), .lst (rows.map encRow)] (by
    intro o ho
    simp only [List.mem_cons, List.not_mem_nil, or_false] at ho
    rcases ho with rfl | rfl | rfl | rfl
    · exact hN _
    · exact hC _
    · exact hrow _
    · exact hrow _) rfl (by omega) hr1 (by omega)
  obtain ⟨hpw, hfr, hlen⟩ := allF_all hF hm1.2 hr1
  generalize hf : rows.length + 1 = f at *
  generalize hks : ksF m rows = ks at *
  generalize hA : allF m rows = A at *
  have hAl : A.length ≤ 740 := by omega
  let S5 : Stor := [.frz (ns.map D.int), .lst (cells.map D.int), .lst (rows.map encRow), .lst (rows.map encRow), .lst (A.map (encSR f ks))]
  have cc := compE_map (capt := [none]) (mi := seqI (vr 4)) (g := nameG 0) (e := callF F_l_is_rule [] (consA (vr 0) nilA)) (env := [some (.loc 0), some (.int (m : Nat)), some (.loc 2), some (.loc 3), some (.loc 4), none, none]) (st := S5) (st1 := S5) (items := A.map (encSR f ks)) (gs := [(4, .lst (A.map (encSR f ks)))]) (fun _ => .bl true) (fun e => ∃ e0, e = [e0])
    (by simp [S5]) ⟨none, by simp [captE]⟩ (by rw [List.length_map]; omega) (fun ys => by simp [S5]) (by
      rintro d hd env' ys ⟨e0, rfl⟩
      obtain ⟨q, hq, rfl⟩ := List.mem_map.mp hd
      have h1 := is_rule_ok f ks q (hfr q hq).1 (S5 ++ [.lst ys])
      generalize encSR f ks q = E at *
      generalize (S5 ++ [MO.lst ys] : Stor) = Z at *
      exact ⟨[some E], ⟨_, rfl⟩, by simp, by simp [h1]⟩)
  rw [List.map_map, show ((fun _ => D.bl true) ∘ encSR f ks) = (fun _ : SR => D.bl true) from rfl] at cc
  let S6 : Stor := S5 ++ [.lst (A.map fun _ => D.bl true)]
  have hall : allV (fun bs => bs.all fun b => b) [.loc 5] S6 = .ok (.bl true) S6 := by
    have : itemsAt S6 5 = some (A.map fun _ => D.bl true) := rfl
    simp only [allV, this, Option.bind_some, bools_all']
    congr 2
    simp
  have ck := compE_map (capt := [none]) (mi := seqI (vr 4)) (g := nameG 0) (e := tupE (consA (op2 ixV (vr 0) (ct (.int 0))) (consA (op2 ixV (vr 0) (ct (.int 1))) nilA))) (env := [some (.loc 0), some (.int (m : Nat)), some (.loc 2), some (.loc 3), some (.loc 4), none, none]) (st := S6) (st1 := S6) (items := A.map (encSR f ks)) (gs := [(4, .lst (A.map (encSR f ks)))]) (fun d => match d with | .tup [a, b, _, _] => .tup [a, b] | _ => .non) (fun e => ∃ e0, e = [e0])
    (by simp [S6, S5]) ⟨none, by simp [captE]⟩ (by rw [List.length_map]; omega) (fun ys => by simp [S6, S5]) (by
      rintro d hd env' ys ⟨e0, rfl⟩
      obtain ⟨q, hq, rfl⟩ := List.mem_map.mp hd
      have i0 : ∀ Z, ixV (encSR f ks q) (.int 0) Z = .ok (.int (numS f ks q.s : Nat)) Z := fun Z => rfl
      have i1 : ∀ Z, ixV (encSR f ks q) (.int 1) Z = .ok (.str [q.x]) Z := fun Z => rfl
      have e2 : (match encSR f ks q with | .tup [a, b, _, _] => D.tup [a, b] | _ => .non) = keyF f ks q := rfl
      rw [e2]
      unfold keyF
      generalize encSR f ks q = E at *
      generalize (S6 ++ [MO.lst ys] : Stor) = Z at *
      exact ⟨[some E], ⟨_, rfl⟩, by simp, by simp [i0, i1]⟩)
  rw [List.map_map, show ((fun d => match d with | .tup [a, b, _, _] => D.tup [a, b] | _ => .non) ∘ encSR f ks) = keyF f ks from rfl] at ck
  let S7 : Stor := S6 ++ [.lst (A.map (keyF f ks))]
  have hkn : (A.map (keyL f ks)).Nodup := keyL_nd hpw hin fun q hq n e => by have := (hfr q hq).2 n e; omega
  have i6 : itemsAt S7 6 = some (A.map (keyF f ks)) := rfl
  have hset : lenSetV (.loc 6) S7 = .ok (.int (A.length : Nat)) S7 := by
    unfold lenSetV
    simp only [i6, keysD_F]
    rw [if_pos ⟨hkn, by rw [List.length_map]; omega⟩, List.length_map]
  have hl6 : lenW [.loc 6] S7 = .ok (.int (A.length : Nat)) S7 := by
    have := lenW_it (st := S7) (n := 6) i6
    rwa [List.length_map] at this
  have hl2 : lenW [.loc 2] S7 = .ok (.int (rows.length : Nat)) S7 := by
    have := lenW_it (st := S7) (n := 2) (ds := rows.map encRow) rfl
    rwa [List.length_map] at this
  have hnk := not_key (R := rows.length) (f := f) (ks := ks) (l := A) (fun q hq => (hfr q hq).2) hf.symm 6 S7 i6
  let S8 : Stor := S7 ++ [.lst (A.map (encSR f ks))]
  have hls : listC [.loc 4] S7 = .ok (.loc 7) S8 := r_list_loc S7 4 (A.map (encSR f ks)) rfl
  let S9 : Stor := [.frz (ns.map D.int), .lst (cells.map D.int), .lst (rows.map encRow), .lst (rows.map encRow), .lst [], .lst (A.map fun _ => D.bl true), .lst (A.map (keyF f ks)), .lst (A.map (encSR f ks))]
  have hcl4 : clearV (.loc 4) [] S8 = .ok .non S9 := rfl
  have hty : isTy "list" (.loc 4) S8 = true := rfl
  have hty5 : isV "list" (.loc 4) S5 = .ok (.bl true) S5 := rfl
  obtain ⟨_, _, _, mk2⟩ := make_rows_ok rows m 3 S9 (by
    intro o ho
    simp only [S9, List.mem_cons, List.not_mem_nil, or_false] at ho
    rcases ho with rfl | rfl | rfl | rfl | rfl | rfl | rfl | rfl
    · exact hN _
    · exact hC _
    · exact hrow _
    · exact hrow _
    · show unders S9.length []; simp
    · exact (by
        show unders _ _
        rw [unders_iff]; intro d hd
        obtain ⟨c, _, rfl⟩ := List.mem_map.mp hd
        simp)
    · exact (by
        show unders _ _
        rw [unders_iff]; intro d hd
        obtain ⟨c, _, rfl⟩ := List.mem_map.mp hd
        simp [keyF])
    · exact encSRs_under _ _ _ _) rfl (by omega) hr1 (by omega)
  rw [hf, hks, hA] at mk2
  let SA : Stor := S9 ++ [.lst (A.map (encSR f ks))]
  have heq : eqV 200 (.loc 8) (.loc 7) SA = .ok (.bl true) SA := r_eq_lists SA 200 8 7 (A.map (encSR f ks)) rfl rfl (encSR_flat f ks A).1 (by have := (encSR_flat f ks A).2; omega)
  have heq2 : eqV 200 (.loc 3) (.loc 2) SA = .ok (.bl true) SA := r_eq_lists SA 200 3 2 (rows.map encRow) rfl rfl (encRows_flat rows).1 (by have := (encRows_flat rows).2.1; omega)
  have lc : listC [.loc 2] [.frz (ns.map D.int), .lst (cells.map D.int), .lst (rows.map encRow)] = .ok (.loc 3) [.frz (ns.map D.int), .lst (cells.map D.int), .lst (rows.map encRow), .lst (rows.map encRow)] := r_list_loc _ 2 (rows.map encRow) rfl
  have hgc : gc [.frz (ns.map D.int)] (.ok (.bl true) SA) = .ok (.bl true) [.frz (ns.map D.int)] := gc_flat (st := [.frz (ns.map D.int)]) (g := SA.drop 1) (by simp)
  refine ⟨[.frz (ns.map D.int)], ?_⟩
  have tv : ∀ s : Stor, truV (.bl true) s = some true := fun _ => rfl
  have tw : ∀ s : Stor, truV (.bl false) s = some false := fun _ => rfl
  have cc : _ = R.ok (D.loc 5) S6 := cc
  have ck : _ = R.ok (D.loc 6) S7 := ck
  have mk : _ = R.ok (D.loc 4) S5 := mk
  have mk2 : _ = R.ok (D.loc 8) SA := mk2
  have prog : _ = R.ok (D.loc 2) [.frz (ns.map D.int), .lst (cells.map D.int), .lst (rows.map encRow)] := prog
  unfold F_p_law gcF fnM b_p_law
  rw [show startM 7 [D.loc 0] = [some (.loc 0), none, none, none, none, none, none] from rfl]
  generalize hC1 : compE [none] (seqI (vr 4)) (nameG 0) yesT (callF F_l_is_rule [] (consA (vr 0) nilA)) = C1 at *
  generalize hC2 : compE [none] (seqI (vr 4)) (nameG 0) yesT (tupE _) = C2 at *
  generalize SA = ZA at *
  generalize S9 = Z9 at *
  generalize S8 = Z8 at *
  generalize S7 = Z7 at *
  generalize S6 = Z6 at *
  generalize S5 = Z5 at *
  generalize ([.frz (ns.map D.int), .lst (cells.map D.int), .lst (rows.map encRow), .lst (rows.map encRow)] : Stor) = Z4 at *
  generalize ([.frz (ns.map D.int), .lst (cells.map D.int), .lst (rows.map encRow)] : Stor) = Z3 at *
  generalize ([.frz (ns.map D.int), .lst (cells.map D.int)] : Stor) = Z2 at *
  generalize ([.frz (ns.map D.int)] : Stor) = Z1 at *
  simp [c0, r_mod_int, hm, hsl, prog, lc, mk, hty5, cc, hall, ck, hset, hl6, hl2, hnk, hls, hty, hcl4, mk2, heq, heq2, hgc, tv, tw]
end Law
open PySem PySem.W PyProof.Rows
set_option maxRecDepth 100000 in
set_option maxHeartbeats 0 in
theorem PySem.Challenge.cw_oneofall_k34_rules_that_are_made_holds : PySem.Challenge.rw_oneofall_k34_rules_that_are_made.Holds := by
  w_on; o_law; k_head; (case hw => w_witness2)
  k_fill
  refine M.holds_of (F := Law.F_p_law) (k := 5) (x := "_law_script") rfl rfl ⟨rfl, by decide, by decide⟩ (fun w h Y => PySem.W.kIn_of Y) ?F Law.law_true
  case F =>
    intro w mg fa h KX G hmg
    refine' Law.all_mk KX G hmg ?cz_Numbers ?cp_Numbers ?ch_Numbers ?co_Numbers ?cs_Numbers ?ck_Numbers ?ce_Numbers ?cn_Numbers_first ?cn_Numbers_given ?a0 ?i0 ?l0 ?c0 ?k0 ?a1 ?i1 ?l1 ?c1 ?k1 ?a2 ?l2 ?c2 ?k2 ?a3 ?l3 ?c3 ?k3 ?a4 ?l4 ?c4 ?k4 ?a5 ?l5 ?c5 ?k5 ?a6 ?l6 ?c6 ?k6 ?a7 ?l7 ?c7 ?k7 ?a8 ?l8 ?c8 ?k8 ?a9 ?l9 ?c9 ?k9 ?a10 ?l10 ?c10 ?k10 ?a11 ?l11 ?c11 ?k11 ?a12 ?l12 ?c12 ?k12 ?a13 ?l13 ?c13 ?k13 ?a14 ?l14 ?c14 ?k14 ?z_all ?z_bool ?z_enumerate ?z_int ?z_isinstance ?z_len ?z_list ?z_min ?z_range ?z_set ?z_str ?z_tuple
    (case cz_Numbers => first | k_is | kernel_rfl)
    (case cp_Numbers => first | k_is | kernel_rfl)
    (case ch_Numbers => first | k_is | kernel_rfl)
    (case co_Numbers => first | k_is | kernel_rfl)
    (case cs_Numbers => first | k_is | kernel_rfl)
    (case ck_Numbers => first | k_is | kernel_rfl)
    (case ce_Numbers => first | k_is | kernel_rfl)
    (case cn_Numbers_first => first | k_is | kernel_rfl)
    (case cn_Numbers_given => first | k_is | kernel_rfl)
    (case a0 => k_is)
    (case i0 => first | k_is | kernel_rfl)
    (case l0 => k_is)
    (case c0 => k_is)
    (case k0 => k_is)
    (case a1 => k_is)
    (case i1 => first | k_is | kernel_rfl)
    (case l1 => k_is)
    (case c1 => k_is)
    (case k1 => k_is)
    (case a2 => k_is)
    (case l2 => k_is)
    (case c2 => k_is)
    (case k2 => k_is)
    (case a3 => k_is)
    (case l3 => k_is)
    (case c3 => k_is)
    (case k3 => k_is)
    (case a4 => k_is)
    (case l4 => k_is)
    (case c4 => k_is)
    (case k4 => k_is)
    (case a5 => k_is)
    (case l5 => k_is)
    (case c5 => k_is)
    (case k5 => k_is)
    (case a6 => k_is)
    (case l6 => k_is)
    (case c6 => k_is)
    (case k6 => k_is)
    (case a7 => k_is)
    (case l7 => k_is)
    (case c7 => k_is)
    (case k7 => k_is)
    (case a8 => k_is)
    (case l8 => k_is)
    (case c8 => k_is)
    (case k8 => k_is)
    (case a9 => k_is)
    (case l9 => k_is)
    (case c9 => k_is)
    (case k9 => k_is)
    (case a10 => k_is)
    (case l10 => k_is)
    (case c10 => k_is)
    (case k10 => k_is)
    (case a11 => k_is)
    (case l11 => k_is)
    (case c11 => k_is)
    (case k11 => k_is)
    (case a12 => k_is)
    (case l12 => k_is)
    (case c12 => k_is)
    (case k12 => k_is)
    (case a13 => k_is)
    (case l13 => k_is)
    (case c13 => k_is)
    (case k13 => k_is)
    (case a14 => k_is)
    (case l14 => k_is)
    (case c14 => k_is)
    (case k14 => k_is)
    (case z_all => k_is)
    (case z_bool => k_is)
    (case z_enumerate => k_is)
    (case z_int => k_is)
    (case z_isinstance => k_is)
    (case z_len => k_is)
    (case z_list => k_is)
    (case z_min => k_is)
    (case z_range => k_is)
    (case z_set => k_is)
    (case z_str => k_is)
    (case z_tuple => k_is)
