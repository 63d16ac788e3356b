import PyProof.Rows.All
import Wide.All
import OpenK.AllK
import Wide.FinOn
import Lean
import PyProof.EqAt
import PyProof.EqKinds
import PyProof.TupleCall
import PyProof.DictWalks
import KE.KEqDict
import KE.KIntText
import PyProof.CallStr
import PyProof.DictTruth
import KE.KTupSum
import KE.KListMore
import PyProof.Rows.MinMaxN
import PySem.Challenge.RW_oneofall_k57_no_texts
set_option Elab.async false
set_option linter.all false
set_option maxRecDepth 100000
-- CHANGE: your row's module here, as the last of these rows
/-! THE HAND LAYER, for ints, bools, texts, own classes, LISTS and tuples (index, slices, in, append, pop ..), calls, loops. Paste it whole ahead of your own text; what your proof does not reach may be deleted. -/
namespace L2
open PySem PySem.Spec PyProof.Rows
/-- a key: an int or a str -/
abbrev Key := Sum Int Str
def keyIs : Key → Value → Bool
  | .inl k, v => Value.isInt k v
  | .inr x, v => Value.isStrOf x v
def keyH (w : World) : Key → Int
  | .inl k => hashInt k
  | .inr x => hashStr w x
theorem keyIs_shape : ∀ {k : Key} {v : Value}, keyIs k v = true → (∃ i t, k = Sum.inl i ∧ v = Value.int i t) ∨ (∃ x t, k = Sum.inr x ∧ v = Value.str x t)
  | .inl i, v, h => by
    obtain ⟨t, e⟩ := Value.isInt_shape (k := i) (v := v) h
    exact .inl ⟨i, t, rfl, e⟩
  | .inr x, v, h => by
    obtain ⟨t, e⟩ := Value.isStrOf_shape (x := x) (v := v) h
    exact .inr ⟨x, t, rfl, e⟩
theorem key_ll (a b : Int) : decide ((Sum.inl a : Key) = Sum.inl b) = (a == b) := by
  by_cases e : a = b
  · subst e; simp
  · have h : ¬ (Sum.inl a : Key) = Sum.inl b := fun q => e (Sum.inl.inj q)
    rw [decide_eq_false h]
    exact (beq_eq_false_iff_ne.mpr e).symm
theorem key_rr (a b : Str) : decide ((Sum.inr a : Key) = Sum.inr b) = decide (a = b) := by
  by_cases e : a = b
  · subst e; simp
  · have h : ¬ (Sum.inr a : Key) = Sum.inr b := fun q => e (Sum.inr.inj q)
    rw [decide_eq_false h, decide_eq_false e]
theorem key_lr (a : Int) (b : Str) : decide ((Sum.inl a : Key) = Sum.inr b) = false := decide_eq_false (fun q => nomatch q)
theorem key_rl (a : Str) (b : Int) : decide ((Sum.inr a : Key) = Sum.inl b) = false := decide_eq_false (fun q => nomatch q)
def mixKind (prog : Program) (w : World) : PySem.KeyKind prog w Key where
  is := keyIs
  hash := keyH w
  inj := fun v a b ha hb => by
    rcases keyIs_shape ha with ⟨i, t, rfl, rfl⟩ | ⟨x, t, rfl, rfl⟩
    · rcases keyIs_shape hb with ⟨j, u, rfl, e⟩ | ⟨y, u, rfl, e⟩
      · injection e with e1 _; rw [e1]
      · exact nomatch e
    · rcases keyIs_shape hb with ⟨j, u, rfl, e⟩ | ⟨y, u, rfl, e⟩
      · exact nomatch e
      · injection e with e1 _; rw [e1]
  byValue := fun k v h => by
    rcases keyIs_shape h with ⟨i, t, rfl, rfl⟩ | ⟨x, t, rfl, rfl⟩ <;> rfl
  pyHash := fun hv h => by
    rcases keyIs_shape hv with ⟨i, t, rfl, rfl⟩ | ⟨x, t, rfl, rfl⟩
    · exact wpAny_pyHash_int h
    · exact wpAny_pyHash_str h
  eqBool := fun hu hv h => by
    rcases keyIs_shape hu with ⟨i, t, rfl, rfl⟩ | ⟨x, t, rfl, rfl⟩
    · rcases keyIs_shape hv with ⟨j, u, rfl, rfl⟩ | ⟨y, u, rfl, rfl⟩
      · rw [key_ll] at h; exact wpAny_eqBool_int h
      · rw [key_lr] at h; exact SeqAt.EqAt.int_str i t y u _ _ _ _ h
    · rcases keyIs_shape hv with ⟨j, u, rfl, rfl⟩ | ⟨y, u, rfl, rfl⟩
      · rw [key_rl] at h; exact SeqAt.EqAt.str_int x t j u _ _ _ _ h
      · rw [key_rr] at h; exact wpAny_eqBool_str h
  «strs» := fun k x t v h => by
    rcases keyIs_shape h with ⟨i, u, rfl, e⟩ | ⟨y, u, rfl, e⟩
    · exact nomatch e
    · injection e with e1 _
      subst e1
      cases v <;> rfl
end L2
namespace L2
open PySem PySem.Spec PyProof.Rows
/-- a value, without the heap -/
inductive V where
  | non | bl (b : Bool) | int (i : Int) | str (x : Str) | byt (b : Array UInt8) | flt (b : UInt64) | ref (a : Addr) | ty (n : String)
  deriving DecidableEq
def RelV : V → Value → Prop
  | .non, u => u = Value.none
  | .bl b, u => u = Value.bool b
  | .int i, u => ∃ t, u = Value.int i t
  | .str x, u => ∃ t, u = Value.str x t
  | .byt b, u => ∃ t, u = Value.bytes b t
  | .flt b, u => ∃ t, u = Value.float b t
  | .ref a, u => u = Value.ref a
  | .ty n, u => u = Value.type n
abbrev Vals : List V → List Value → Prop := Paired RelV
theorem Vals.length {xs : List V} {us : List Value} (r : Vals xs us) : xs.length = us.length := Paired.length r
theorem Vals.get : ∀ {xs : List V} {us : List Value} {i : Nat} {x : V}, Vals xs us → xs[i]? = some x → ∃ u, us[i]? = some u ∧ RelV x u
  | _, _, _, _, .nil, e => by simp at e
  | _, _, 0, _, .cons r _, e => by simp at e; subst e; exact ⟨_, rfl, r⟩
  | _, _, i + 1, x, .cons _ t, e => by
    obtain ⟨u, h1, h2⟩ := Vals.get (i := i) (x := x) t (by simpa using e)
    exact ⟨u, by simpa using h1, h2⟩
theorem Vals.set {x : V} {u : Value} (r : RelV x u) : ∀ {xs : List V} {us : List Value} (i : Nat), Vals xs us → Vals (xs.set i x) (us.set i u)
  | _, _, _, .nil => .nil
  | _, _, 0, .cons _ t => .cons r t
  | _, _, i + 1, .cons q t => .cons q (Vals.set r i t)
theorem Vals.append : ∀ {xs ys : List V} {us ws : List Value}, Vals xs us → Vals ys ws → Vals (xs ++ ys) (us ++ ws)
  | _, _, _, _, .nil, s => s
  | _, _, _, _, .cons r t, s => .cons r (Vals.append t s)
theorem Vals.take : ∀ {xs : List V} {us : List Value} (n : Nat), Vals xs us → Vals (xs.take n) (us.take n)
  | _, _, 0, _ => .nil
  | _, _, _ + 1, .nil => .nil
  | _, _, n + 1, .cons r t => .cons r (Vals.take n t)
theorem Vals.drop : ∀ {xs : List V} {us : List Value} (n : Nat), Vals xs us → Vals (xs.drop n) (us.drop n)
  | _, _, 0, r => r
  | _, _, _ + 1, .nil => .nil
  | _, _, n + 1, .cons _ t => Vals.drop n t
def RelO : Option V → Option Value → Prop
  | some v, some u => RelV v u
  | none, none => True
  | _, _ => False
def KV {κ : Type} : List (κ × V) → List (κ × Value) → Prop := Paired fun (p : κ × V) (q : κ × Value) => p.1 = q.1 ∧ RelV p.2 q.2
/-- a key of a dict (00_mix): an int or a text -/
def kV : Key → V
  | .inl i => .int i
  | .inr x => .str x
/-- what stands at a tracked address -/
inductive HO where
  /-- a list -/
  | lst (xs : List V)
  /-- a tuple (never changes) -/
  | tup (xs : List V)
  /-- a dict whose keys are ints and texts; one whose keys are tuples of ints and texts (the empty one is both) -/
  | dK (kvs : List (Key × V)) | dT (kvs : List (List Key × V))
  /-- a set of ints: its members, its size -/
  | set (S : Int → Bool) (n : Nat)
  /-- an instance of the class at C, its dict at dx, its attributes -/
  | ins (C dx : Addr) (fs : List (Str × V))
  /-- the dict of the instance at x -/
  | own (x : Addr)
  /-- the dict of an exception -/
  | xd (fs : List (Str × V))
  /-- a bound method, f of x -/
  | met (f x : Addr)
  /-- a range object lo, lo + 1, .. below hi -/
  | rng (lo hi : Int)
  /-- a thing that is known to the object (the script; a dict while a loop walks it): read, never written while it is so -/
  | frz (o : Obj) (u : HO)
  /-- a code object's table -/
  | tbl (ps : Array Value)
  /-- any other thing, by what is true of its one object (a def of one's own: SetO a S n := HO.ext fun h => ..) -/
  | ext (φ : Heap → Prop)
abbrev Hp := Addr → Option HO
def upd (H : Hp) (a : Addr) (o : HO) : Hp := fun b => if b = a then some o else H b
theorem upd_same {H : Hp} {a : Addr} {o : HO} : upd H a o a = some o := by unfold upd; rw [if_pos rfl]
theorem upd_ne {H : Hp} {a b : Addr} {o : HO} (h : b ≠ a) : upd H a o b = H b := by unfold upd; rw [if_neg h]
/-- two objects of different content stand apart -/
theorem ne_of {H : Hp} {a b : Addr} {o u : HO} (h : H a = some o) (h' : H b = some u) (d : o ≠ u) : a ≠ b := by
  intro e; subst e; rw [h] at h'; exact d (Option.some.inj h')
theorem ne_of_none {H : Hp} {a b : Addr} {o : HO} (h : H a = some o) (h' : H b = none) : a ≠ b := by
  intro e; subst e; rw [h] at h'; cases h'
section
variable (P : Program) (w : World)
def ObjOk (H : Hp) (h : Heap) (a : Addr) : HO → Prop
  | .lst xs => xs.length ≤ sizeLine ∧ ∃ (its : List Value) (n : Nat), Vals xs its ∧ h.get? a = some { cls := .type "list", data := .seq its.toArray n }
  | .tup xs => xs.length ≤ sizeLine ∧ ∃ its : List Value, Vals xs its ∧ IsTup h a its.toArray
  | .dK kvs => kvs.length ≤ sizeLine ∧ (a == sysModules) = false ∧ ∃ vs, KV kvs vs ∧ h.DictOf (mixKind P w) a vs
  | .dT kvs => kvs.length ≤ sizeLine ∧ (a == sysModules) = false ∧ ∃ xs : List (List Key × Addr × Value),
      Paired (fun (p : List Key × V) (q : List Key × Addr × Value) => p.1 = q.1 ∧ H q.2.1 = some (.tup (p.1.map kV)) ∧ RelV p.2 q.2.2) kvs xs ∧
      ∃ o es ep, h.get? a = some o ∧ o.ExactDict ∧ o.data = .dict es ep ∧ es.toList = xs.map (entryOfKey (tupleKind (mixKind P w))) ∧ (xs.map (·.1)).Nodup
  | .set S n => h.SetOf (intKind P w) a S n
  | .ins C dx fs => H dx = some (.own a) ∧ fs.length ≤ 1000 ∧ dx ≠ a ∧ h.get? a = some (PySem.W.instObj C dx) ∧
      ∃ mA, h.Ns1 dx mA ∧ (∀ f, RelO (fs.lookup f) (mA f)) ∧ PySem.Within mA (fs.map (·.1))
  | .own _ => ∃ o, h.get? a = some o
  | .xd fs => ∃ mA, h.Ns1 a mA ∧ ∀ f, RelO (fs.lookup f) (mA f)
  | .rng lo hi => ∃ t u v, h.get? a = some { cls := .type "range", data := .fields #[.int lo t, .int hi u, .int 1 v] }
  | .frz o u => h.get? a = some o ∧ ObjOk H h a u
  | .tbl ps => h.get? a = some { cls := .none, data := .fields ps }
  | .met f x => h.get? a = some (PySem.W.methodObj (.ref f) (.ref x))
  | .ext φ => φ h ∧ (∃ o, h.get? a = some o) ∧ ∀ h1 h2 : Heap, φ h1 → (∀ o, h1.get? a = some o → h2.get? a = some o) → φ h2
/-- the abstract heap is held -/
def HOk (H : Hp) (h : Heap) : Prop := ∀ a o, H a = some o → ObjOk P w H h a o
end
section
variable {P : Program} {w : World} {H H' : Hp} {h h' : Heap} {a : Addr} {o : HO}
theorem ObjOk.lt (x : ObjOk P w H h a o) : a < h.objs.size := by
  cases o with
  | lst xs => obtain ⟨_, _, _, _, e⟩ := x; exact Heap.lt_size e
  | tup xs => obtain ⟨_, _, _, p⟩ := x; exact p.lt
  | dK kvs => obtain ⟨_, _, _, _, o, _, _, e, _⟩ := x; exact Heap.lt_size e
  | dT kvs => obtain ⟨_, _, _, _, o, _, _, e, _⟩ := x; exact Heap.lt_size e
  | set S n => obtain ⟨o, _, _, _, e, _⟩ := x; exact Heap.lt_size e
  | ins C dx fs => obtain ⟨_, _, _, e, _⟩ := x; exact Heap.lt_size e
  | own y => obtain ⟨_, e⟩ := x; exact Heap.lt_size e
  | xd fs => obtain ⟨_, ⟨_, _, _, e, _⟩, _⟩ := x; exact Heap.lt_size e
  | rng lo hi => obtain ⟨_, _, _, e⟩ := x; exact Heap.lt_size e
  | frz ob u => obtain ⟨e, _⟩ := x; exact Heap.lt_size e
  | tbl ps => exact Heap.lt_size (show h.get? a = some _ from x)
  | met f y => exact Heap.lt_size (show h.get? a = some _ from x)
  | ext φ => obtain ⟨_, ⟨_, e⟩, _⟩ := x; exact Heap.lt_size e
theorem Paired.mapP {α β : Type} {F G : α → β → Prop} : ∀ {l₁ : List α} {l₂ : List β}, Paired F l₁ l₂ → (∀ a b, F a b → G a b) → Paired G l₁ l₂
  | _, _, .nil, _ => .nil
  | _, _, .cons r t, f => .cons (f _ _ r) (Paired.mapP t f)
/-- what an object's description leans on: its own object, its own dict, the tuples -/
theorem ObjOk.stay (x : ObjOk P w H h a o) (k : ∀ b u, (b = a ∨ H b = some (.own a)) → h.get? b = some u → h'.get? b = some u)
    (ho : ∀ b, H b = some (.own a) → H' b = some (.own a)) (ht : ∀ b xs, H b = some (.tup xs) → H' b = some (.tup xs)) : ObjOk P w H' h' a o := by
  induction o with
  | lst xs => obtain ⟨z, its, n, r, e⟩ := x; exact ⟨z, its, n, r, k _ _ (.inl rfl) e⟩
  | tup xs => obtain ⟨z, its, r, ob, e, c⟩ := x; exact ⟨z, its, r, ob, k _ _ (.inl rfl) e, c⟩
  | dK kvs => obtain ⟨z, y, vs, r, ob, es, ep, e, c⟩ := x; exact ⟨z, y, vs, r, ob, es, ep, k _ _ (.inl rfl) e, c⟩
  | dT kvs =>
    obtain ⟨z, y, xs, r, ob, es, ep, e, c⟩ := x
    exact ⟨z, y, xs, Paired.mapP r fun p q z => ⟨z.1, ht _ _ z.2.1, z.2.2⟩, ob, es, ep, k _ _ (.inl rfl) e, c⟩
  | set S n => obtain ⟨ob, es, ep, t, e, c⟩ := x; exact ⟨ob, es, ep, t, k _ _ (.inl rfl) e, c⟩
  | ins C dx fs =>
    obtain ⟨d, z, ne, e, mA, ⟨od, es, ep, e2, c⟩, r⟩ := x
    exact ⟨ho _ d, z, ne, k _ _ (.inl rfl) e, mA, ⟨od, es, ep, k _ _ (.inr d) e2, c⟩, r⟩
  | own y => obtain ⟨ob, e⟩ := x; exact ⟨ob, k _ _ (.inl rfl) e⟩
  | xd fs => obtain ⟨mA, ⟨od, es, ep, e, c⟩, r⟩ := x; exact ⟨mA, ⟨od, es, ep, k _ _ (.inl rfl) e, c⟩, r⟩
  | rng lo hi => obtain ⟨t, u, v, e⟩ := x; exact ⟨t, u, v, k _ _ (.inl rfl) e⟩
  | frz ob u ih => obtain ⟨e, q⟩ := x; exact ⟨k _ _ (.inl rfl) e, ih q⟩
  | tbl ps =>
    have e : h.get? a = some { cls := .none, data := .fields ps } := x
    show h'.get? a = some { cls := .none, data := .fields ps }
    exact k a _ (.inl rfl) e
  | met f y =>
    have e : h.get? a = some (PySem.W.methodObj (.ref f) (.ref y)) := x
    show h'.get? a = some (PySem.W.methodObj (.ref f) (.ref y))
    exact k a _ (.inl rfl) e
  | ext φ => obtain ⟨p, ⟨o, e⟩, st⟩ := x; exact ⟨st _ _ p fun o q => k _ _ (.inl rfl) q, ⟨o, k _ _ (.inl rfl) e⟩, st⟩
theorem HOk.lt (x : HOk P w H h) (e : H a = some o) : a < h.objs.size := (x a o e).lt
theorem HOk.fresh (x : HOk P w H h) (e : h.objs.size ≤ a) : H a = none := by
  cases q : H a with
  | none => rfl
  | some u => exact absurd (Nat.lt_of_lt_of_le (x.lt q) e) (Nat.lt_irrefl _)
/-- every object of the heap is kept -/
theorem HOk.kept (x : HOk P w H h) (k : ∀ b u, h.get? b = some u → h'.get? b = some u) : HOk P w H h' := fun a o e =>
  (x a o e).stay (fun b u _ q => k b u q) (fun _ q => q) fun _ _ q => q
/-- a new object is laid and tracked -/
theorem HOk.laid (x : HOk P w H h) (k : ∀ b u, h.get? b = some u → h'.get? b = some u) (hp : h.objs.size ≤ a) (new : ObjOk P w (upd H a o) h' a o) : HOk P w (upd H a o) h' := fun b u e => by
  have hn := x.fresh hp
  by_cases hb : b = a
  · subst hb; rw [upd_same] at e; cases e; exact new
  · rw [upd_ne hb] at e
    exact (x b u e).stay (fun c v _ q => k c v q) (fun c q => by rw [upd_ne (ne_of_none q hn)]; exact q) fun c xs q => by rw [upd_ne (ne_of_none q hn)]; exact q
end
/-- what may be read as u: it is u, or a known u -/
def Rd (H : Hp) (a : Addr) (u : HO) : Prop := H a = some u ∨ ∃ o, H a = some (.frz o u)
theorem Rd.ok {P : Program} {w : World} {H : Hp} {h : Heap} {a : Addr} {u : HO} (r : Rd H a u) (x : HOk P w H h) : ObjOk P w H h a u := by
  rcases r with r | ⟨o, r⟩
  · exact x a u r
  · obtain ⟨_, q⟩ := x a _ r
    exact q
/-- what may be written -/
def Mut : Option HO → Prop
  | some (.lst _) => True
  | some (.dK _) => True
  | some (.dT _) => True
  | some (.set _ _) => True
  | some (.ins _ _ _) => True
  | some (.ext _) => True
  | _ => False
section
variable {P : Program} {w : World} {H : Hp} {h h' : Heap} {x e : Addr} {o' : HO}
/-- the object at e is changed: x itself, or the dict of the instance x -/
theorem HOk.write (ok : HOk P w H h) (mu : Mut (H x)) (he : e = x ∨ H e = some (.own x)) (k : ∀ b u, b ≠ e → h.get? b = some u → h'.get? b = some u) (heo : ∃ u, h'.get? e = some u)
    (new : ObjOk P w (upd H x o') h' x o') : HOk P w (upd H x o') h' := fun b u q => by
  have nown : ∀ c y, H c = some (.own y) → c ≠ x := fun c y r z => by subst z; rw [r] at mu; exact mu
  have ntup : ∀ c xs, H c = some (.tup xs) → c ≠ x := fun c xs r z => by subst z; rw [r] at mu; exact mu
  by_cases hb : b = x
  · subst hb; rw [upd_same] at q; cases q; exact new
  · rw [upd_ne hb] at q
    by_cases hbe : b = e
    · have q' : H b = some (.own x) := by
        rcases he with z | z
        · exact absurd (hbe.trans z) hb
        · rw [hbe]; exact z
      rw [q] at q'; cases q'
      obtain ⟨v, hv⟩ := heo
      exact ⟨v, by rw [hbe]; exact hv⟩
    · refine (ok b u q).stay (fun c v hc r => k c v ?_ r) (fun c r => by rw [upd_ne (nown c b r)]; exact r) fun c xs r => by rw [upd_ne (ntup c xs r)]; exact r
      rcases hc with rfl | hc
      · exact hbe
      · rintro rfl
        rcases he with z | z
        · exact nown c b hc z
        · rw [hc] at z; cases z; exact hb rfl
end
/-! ### kept unless tracked; of the frames at fs (the callers') the slots may change (an exception that passes writes there); of the records at ex (iterators) nothing is said -/
structure Un (fs ex : List Addr) (H H' : Hp) (h h' : Heap) : Prop where
  keep : ∀ b o, h.get? b = some o → H b = none → b ∉ fs → b ∉ ex → h'.get? b = some o
  slot : ∀ b o, h.get? b = some o → H b = none → b ∈ fs → b ∉ ex → ∃ sl, h'.get? b = some { o with slots := sl }
  free : ∀ b o, h.get? b = some o → H b = none → b ∉ ex → H' b = none
  there : ∀ b o, h.get? b = some o → b ∉ ex → ∃ o', h'.get? b = some o'
  tups : ∀ b xs, H b = some (.tup xs) → H' b = some (.tup xs)
  frzs : ∀ b o u, H b = some (.frz o u) → H' b = some (.frz o u)
  tbls : ∀ b ps, H b = some (.tbl ps) → ∃ more, H' b = some (.tbl (ps ++ more))
section
variable {fs fs' ex ex' : List Addr} {H H1 H2 : Hp} {h h1 h2 h' : Heap} {a x e : Addr} {o : HO}
theorem Un.any (u : Un fs ex H H1 h h1) {b : Addr} {ob : Obj} (q : h.get? b = some ob) (n : H b = none) (hx : b ∉ ex) : ∃ sl, h1.get? b = some { ob with slots := sl } := by
  by_cases hb : b ∈ fs
  · exact u.slot b ob q n hb hx
  · exact ⟨ob.slots, u.keep b ob q n hb hx⟩
theorem Un.kept (k : ∀ b u, h.get? b = some u → h'.get? b = some u) : Un fs ex H H h h' :=
  ⟨fun b ob q _ _ _ => k b ob q, fun b ob q _ _ _ => ⟨ob.slots, k b ob q⟩, fun _ _ _ n _ => n, fun b ob q _ => ⟨ob, k b ob q⟩, fun _ _ q => q, fun _ _ _ q => q, fun _ ps q => ⟨#[], by rw [q]; simp⟩⟩
theorem Un.refl : Un fs ex H H h h := Un.kept fun _ _ q => q
theorem Un.laid (k : ∀ b u, h.get? b = some u → h'.get? b = some u) (hp : h.objs.size ≤ a) (hn : H a = none) : Un fs ex H (upd H a o) h h' where
  keep := fun b u q _ _ _ => k b u q
  slot := fun b u q _ _ _ => ⟨u.slots, k b u q⟩
  free := fun b u q n _ => by rw [upd_ne (Nat.ne_of_lt (Nat.lt_of_lt_of_le (Heap.lt_size q) hp))]; exact n
  there := fun b u q _ => ⟨u, k b u q⟩
  tups := fun b xs q => by rw [upd_ne (ne_of_none q hn)]; exact q
  frzs := fun b u xs q => by rw [upd_ne (ne_of_none q hn)]; exact q
  tbls := fun b ps q => ⟨#[], by rw [upd_ne (ne_of_none q hn), q]; simp⟩
theorem Un.write (mu : Mut (H x)) (he : e = x ∨ H e = some (.own x)) (k : ∀ b u, b ≠ e → h.get? b = some u → h'.get? b = some u) (heo : ∃ u, h'.get? e = some u) : Un fs ex H (upd H x o) h h' := by
  have hx : ∀ b, H b = none → b ≠ x := fun b n z => by subst z; rw [n] at mu; exact mu
  have hb : ∀ b, H b = none → b ≠ e := fun b n z => by
    subst z
    rcases he with r | r
    · exact hx b n r
    · rw [n] at r; cases r
  have hm : ∀ b u, H b = some u → ¬ Mut (some u) → b ≠ x := fun b u q nm z => by subst z; rw [q] at mu; exact nm mu
  refine ⟨fun b u q n _ _ => k b u (hb b n) q, fun b u q n _ _ => ⟨u.slots, k b u (hb b n) q⟩, fun b u q n _ => by rw [upd_ne (hx b n)]; exact n, fun b u q _ => ?_,
    fun b xs q => by rw [upd_ne (hm b _ q fun z => z)]; exact q, fun b u xs q => by rw [upd_ne (hm b _ q fun z => z)]; exact q, fun b ps q => ⟨#[], by rw [upd_ne (hm b _ q fun z => z), q]; simp⟩⟩
  by_cases hbe : b = e
  · subst hbe; exact heo
  · exact ⟨u, k b u hbe q⟩
end
/-! ### the heap without what is tracked -/
def trk (h : Heap) (H : Hp) : List Addr := (List.range h.objs.size).filter fun a => (H a).isSome
def hidT (h : Heap) (H : Hp) : Heap := PySem.W.hideAll h (trk h H)
theorem hidT_size (h : Heap) (H : Hp) : (hidT h H).objs.size = h.objs.size := PySem.W.hideAll_size _ _
theorem hidT_get {h : Heap} {H : Hp} {b : Addr} {o : Obj} (e : h.get? b = some o) (n : H b = none) : (hidT h H).get? b = some o :=
  PySem.W.hideAll_get _ e fun hm => by
    have q : (H b).isSome = true := (List.mem_filter.mp hm).2
    rw [n] at q; simp at q
theorem of_hidT {h : Heap} {H : Hp} {b : Addr} {o : Obj} (e : (hidT h H).get? b = some o) : h.get? b = some o ∧ H b = none := by
  have e' : h.get? b = some o := PySem.W.of_hideAll (trk h H) e
  refine ⟨e', ?_⟩
  cases q : H b with
  | none => rfl
  | some x =>
    have hm : b ∈ trk h H := List.mem_filter.mpr ⟨List.mem_range.mpr (Heap.lt_size e'), by simp [q]⟩
    have z : (hidT h H).get? b = none := PySem.W.hideAll_none (trk h H) hm
    rw [z] at e; cases e
/-! ### OpenK's ledger, filled with every new object but one -/
def allNews (g h : Heap) (L : Addr) : List (Addr × Obj) := (List.range h.objs.size).filterMap fun a => if a = L ∨ (g.get? a).isSome = true then none else (h.get? a).map fun o => (a, o)
def rest (g h : Heap) (L d : Addr) : List (Addr × Obj) := (allNews g h L).filter fun p => decide (p.1 ≠ d)
end L2
namespace L2
open PySem PySem.Spec PyProof.Rows
/-- the module's facts, over the base: the heap at the law's entry without what is tracked there -/
structure Mod (K : PySem.W.Frag) (mg : Str → Option Value) (base : Heap) : Prop where
  kin : K.In base
  glob : base.Ns mainGlobals mg
  blt : ∃ mb, base.Ns builtinsNs mb ∧ ∀ x : Str, x ≠ "__name__" → mb x = bootBuiltins x
  nolimit : base.NoLimit
/-- the context: a def's body (or a comprehension's block) running. base: fixed through the whole law; s₀, H₀: the entry; outer: the frames whose slots others may change (a def's callers); stack: all frames that run;
   ex: iterators that were made ahead of the entry and are walked here (a comprehension's); fn: the names whose cells were made at the entry (a def: all; a comprehension's block: its own); calm: not within an except suite; pn: pins that every state bears; xe: what is wanted of an exception that leaves the code -/
structure Cx where
  prog : Program
  w : World
  K : PySem.W.Frag
  mg : Str → Option Value
  base : Heap
  A : Around
  N : List Str
  s₀ : Shared
  H₀ : Hp
  env : Env
  outer : List Env
  stack : List Env
  ex : List Addr
  fn : Str → Bool
  calm : Bool
  pn : List (Addr × Obj)
  xe : Value → Shared → Prop
/-- the callers' frames -/
def frs (l : List Env) : List Addr := l.filterMap (·.frame)
abbrev Cx.fs (X : Cx) : List Addr := frs X.outer
def Vis (sc : Scope) (x : Str) : Prop := sc.names.lookup x = some .local ∨ sc.names.lookup x = some .cell ∨ sc.names.lookup x = some .free
def Loc (sc : Scope) (x : Str) : Prop := sc.names.lookup x = some .local ∨ sc.names.lookup x = some .cell
def Look (env : Env) (h : Heap) (m : Str → Option Value) (x : Str) (u : Value) : Prop :=
  (env.kindOf x = some .local ∧ m x = some u) ∨ ((env.kindOf x = some .cell ∨ env.kindOf x = some .free) ∧ ∃ c, env.cells.lookup x = some c ∧ h.IsCell c (some u))
structure Cx.Ok (X : Cx) : Prop where
  mod : Mod X.K X.mg X.base
  kind : X.env.scope.kind = .function
  glob : X.env.globals = mainGlobals
  blt : X.env.builtins = builtinsNs
  above : X.s₀.heap.objs.size ≤ X.env.locals
  inj : ∀ x y c, X.env.cells.lookup x = some c → X.env.cells.lookup y = some c → x = y
  has : ∀ x, (X.env.kindOf x = some .cell ∨ X.env.kindOf x = some .free) → ∃ c, X.env.cells.lookup x = some c
  cab : ∀ x c, X.fn x = true → X.env.cells.lookup x = some c → X.s₀.heap.objs.size ≤ c
  hd : X.calm = true → X.A.handled = none
  frames : X.A.frames = some X.stack
  stk : X.stack = X.outer ∨ (X.stack = X.env :: X.outer ∧ X.env.frame = some X.env.locals)
  exf : ∀ b ∈ X.ex, b ≠ X.env.locals ∧ ∀ x c, X.env.cells.lookup x = some c → c ≠ b
  bs : ∀ b o, X.base.get? b = some o → X.s₀.heap.get? b = some o ∧ X.H₀ b = none
  bsz : X.base.objs.size ≤ X.s₀.heap.objs.size
  noex : ∀ b o, X.base.get? b = some o → b ∉ X.ex
  exfs : ∀ b ∈ X.ex, b ∉ X.fs
  funs : X.s₀.heap.FunFrames X.base X.outer
  frf : ∀ b ∈ X.fs, X.H₀ b = none
structure Inv (X : Cx) (pins : List (Addr × Obj)) (σ : List (Option V)) (H : Hp) (s : Shared) : Prop where
  ok : X.Ok
  os : s.os = X.s₀.os
  bare : AllBare s.gens
  base : Un X.fs X.ex X.H₀ H X.s₀.heap s.heap
  loc : ∃ m, s.heap.Ns X.env.locals m ∧ ∀ (i : Nat) (x : Str) (v : V), X.N[i]? = some x → σ[i]? = some (some v) → Vis X.env.scope x → ∃ u, RelV v u ∧ Look X.env s.heap m x u
  cell : ∀ x c, X.env.cells.lookup x = some c → ∃ v, s.heap.IsCell c v
  free : H X.env.locals = none
  freeC : ∀ x c, X.env.cells.lookup x = some c → H c = none
  pin : ∀ p ∈ X.pn ++ pins, s.heap.get? p.1 = some p.2 ∧ H p.1 = none ∧ p.1 ≠ X.env.locals ∧ p.1 ∉ X.fs ∧ ∀ v, p.2.data ≠ .cell v
  hok : HOk X.prog X.w H s.heap
  len : σ.length = X.N.length
section
variable {X : Cx} {pins : List (Addr × Obj)} {σ : List (Option V)} {H H' : Hp} {s : Shared} {h' : Heap}
theorem Cx.Ok.nofr (ok : X.Ok) {b : Addr} {o : Obj} (e : X.base.get? b = some o) : b ∉ X.fs := fun hb => by
  have := (ok.funs.mem hb).1
  rw [e] at this; cases this
theorem Inv.bs (I : Inv X pins σ H s) : ∀ b o, X.base.get? b = some o → s.heap.get? b = some o ∧ H b = none := fun b o e =>
  ⟨I.base.keep b o (I.ok.bs b o e).1 (I.ok.bs b o e).2 (I.ok.nofr e) (I.ok.noex b o e), I.base.free b o (I.ok.bs b o e).1 (I.ok.bs b o e).2 (I.ok.noex b o e)⟩
theorem Inv.bk (I : Inv X pins σ H s) : ∀ b o, X.base.get? b = some o → s.heap.get? b = some o := fun b o e => (I.bs b o e).1
theorem Inv.mod (I : Inv X pins σ H s) : Mod X.K X.mg X.base := I.ok.mod
theorem Inv.kIn (I : Inv X pins σ H s) : X.K.In s.heap := I.ok.mod.kin.keeps I.bk
/-- the frame over the base: for OpenK's rules (K.In X.base is I.mod.kin) -/
theorem Inv.fr (I : Inv X pins σ H s) : ∃ m, Fr X.base X.env.locals s.heap m :=
  let ⟨m, hn, _⟩ := I.loc
  ⟨m, hn, I.bk, Nat.le_trans I.ok.bsz I.ok.above⟩
theorem Inv.lt (I : Inv X pins σ H s) : X.env.locals < s.heap.objs.size := let ⟨_, hn, _⟩ := I.loc; hn.lt
theorem Inv.sz (I : Inv X pins σ H s) : X.s₀.heap.objs.size ≤ s.heap.objs.size := Nat.le_trans I.ok.above (Nat.le_of_lt I.lt)
theorem Inv.nofs (I : Inv X pins σ H s) {a : Addr} (h : s.heap.objs.size ≤ a) : a ∉ X.fs := fun hb => by
  obtain ⟨_, o, ho, _⟩ := I.ok.funs.mem hb
  exact absurd (Nat.lt_of_lt_of_le (Heap.lt_size ho) (Nat.le_trans I.sz h)) (Nat.lt_irrefl _)
theorem Inv.cne (I : Inv X pins σ H s) : ∀ x c, X.env.cells.lookup x = some c → c ≠ X.env.locals := fun x c e z => by
  obtain ⟨v, o, ho, hd⟩ := I.cell x c e
  obtain ⟨m, ⟨o', es, ep, ho', hd', _⟩, _⟩ := I.loc
  rw [z, ho'] at ho; cases ho; rw [hd'] at hd; cases hd
theorem Inv.funs (I : Inv X pins σ H s) : s.heap.FunFrames X.base X.outer := by
  have all : ∀ (l : List Env), (∀ b ∈ frs l, b ∈ X.fs) → X.s₀.heap.FunFrames X.base l → s.heap.FunFrames X.base l := by
    intro l
    induction l with
    | nil => intro _ _; trivial
    | cons env r ih =>
      intro hs hl
      obtain ⟨hk, ⟨L, o, hf, hn, ho, hd⟩, hr⟩ := hl
      have hL : L ∈ X.fs := hs L (by unfold frs; rw [List.filterMap_cons, hf]; exact List.mem_cons_self)
      obtain ⟨sl, e⟩ := I.base.slot L o ho (I.ok.frf L hL) hL fun z => I.ok.exfs L z hL
      exact ⟨hk, ⟨L, _, hf, hn, e, hd⟩, ih (fun b hb => hs b (by unfold frs; rw [List.filterMap_cons, hf]; exact List.mem_cons_of_mem _ hb)) hr⟩
  exact all X.outer (fun _ hb => hb) I.ok.funs
/-- the frames that run, for a call -/
theorem Inv.stack (I : Inv X pins σ H s) : s.heap.FunFrames X.base X.stack := by
  rcases I.ok.stk with e | ⟨e, hf⟩
  · rw [e]; exact I.funs
  · rw [e]
    obtain ⟨m, hn, _⟩ := I.loc
    refine .cons (by rw [I.ok.kind]; decide) hf hn ?_ I.funs
    exact Heap.get?_none_of_le (Nat.le_trans I.ok.bsz I.ok.above)
theorem Inv.stkSub (I : Inv X pins σ H s) : ∀ b ∈ frs X.stack, b ∈ X.env.locals :: X.fs := fun b hb => by
  rcases I.ok.stk with e | ⟨e, hf⟩
  · rw [e] at hb; exact List.mem_cons_of_mem _ hb
  · rw [e] at hb
    unfold frs at hb
    rw [List.filterMap_cons, hf] at hb
    exact hb
theorem Inv.stkFree (I : Inv X pins σ H s) : ∀ b ∈ frs X.stack, H b = none := fun b hb => by
  rcases List.mem_cons.mp (I.stkSub b hb) with e | hb
  · rw [e]; exact I.free
  · obtain ⟨_, o, ho, _⟩ := I.ok.funs.mem hb
    exact I.base.free b o ho (I.ok.frf b hb) fun z => I.ok.exfs b z hb
/-- THE STEP: the untracked objects but the frame and the records at ch are kept (the callers' frames up to slots), the frame's map is kept, the new abstract heap is held -/
theorem Inv.step {g' : Array GenState} {t' : Nat} {d' : Drawn} {ch : List Addr} (I : Inv X pins σ H s)
    (hch : ∀ b ∈ ch, (b ∈ X.ex ∨ X.s₀.heap.objs.size ≤ b) ∧ b ≠ X.env.locals ∧ (∀ x c, X.env.cells.lookup x = some c → c ≠ b) ∧ ∀ p ∈ X.pn ++ pins, p.1 ≠ b)
    (keep : ∀ b o, b ≠ X.env.locals → b ∉ X.fs → b ∉ ch → s.heap.get? b = some o → H b = none → h'.get? b = some o)
    (slot : ∀ b o, b ≠ X.env.locals → b ∈ X.fs → b ∉ ch → s.heap.get? b = some o → H b = none → ∃ sl, h'.get? b = some { o with slots := sl }) (free : ∀ b o, b ∉ ch → s.heap.get? b = some o → H b = none → H' b = none)
    (there : ∀ b o, b ∉ ch → s.heap.get? b = some o → ∃ o', h'.get? b = some o')
    (tups : ∀ b xs, H b = some (.tup xs) → H' b = some (.tup xs)) (frzs : ∀ b o u, H b = some (.frz o u) → H' b = some (.frz o u)) (tbls : ∀ b ps, H b = some (.tbl ps) → ∃ more, H' b = some (.tbl (ps ++ more)))
    (ns : ∀ m, s.heap.Ns X.env.locals m → h'.Ns X.env.locals m) (hok : HOk X.prog X.w H' h') (hg : AllBare g') :
    Inv X pins σ H' { s with heap := h', gens := g', drawn := d', toks := t' } := by
  have neL : ∀ b o, X.s₀.heap.get? b = some o → b ≠ X.env.locals := fun b o e => Nat.ne_of_lt (Nat.lt_of_lt_of_le (Heap.lt_size e) I.ok.above)
  have neC : ∀ b o, X.s₀.heap.get? b = some o → b ∉ X.ex → b ∉ ch := fun b o e hx hb => by
    rcases (hch b hb).1 with z | z
    · exact hx z
    · exact absurd (Nat.lt_of_lt_of_le (Heap.lt_size e) z) (Nat.lt_irrefl _)
  have cellK : ∀ x c, X.env.cells.lookup x = some c → ∀ v, s.heap.IsCell c v → h'.IsCell c v := fun x c e v ⟨o, ho, hd⟩ => by
    have nch : c ∉ ch := fun z => (hch c z).2.2.1 x c e rfl
    by_cases hc : c ∈ X.fs
    · obtain ⟨sl, q⟩ := slot c o (I.cne x c e) hc nch ho (I.freeC x c e)
      exact ⟨_, q, hd⟩
    · exact ⟨o, keep c o (I.cne x c e) hc nch ho (I.freeC x c e), hd⟩
  refine ⟨I.ok, I.os, hg, ⟨fun b o e n hb hx => ?_, fun b o e n hb hx => ?_, fun b o e n hx => ?_, fun b o e hx => ?_, fun b xs e => tups b xs (I.base.tups b xs e), fun b o xs e => frzs b o xs (I.base.frzs b o xs e), fun b ps e => ?_⟩, ?_, fun x c e => ?_, ?_, fun x c e => ?_, fun p hp => ?_, hok, I.len⟩
  · exact keep b o (neL b o e) hb (neC b o e hx) (I.base.keep b o e n hb hx) (I.base.free b o e n hx)
  · obtain ⟨sl, e1⟩ := I.base.slot b o e n hb hx
    obtain ⟨sl', e2⟩ := slot b _ (neL b o e) hb (neC b o e hx) e1 (I.base.free b o e n hx)
    exact ⟨sl', e2⟩
  · obtain ⟨o', e1⟩ := I.base.there b o e hx
    exact free b o' (neC b o e hx) e1 (I.base.free b o e n hx)
  · obtain ⟨o', e1⟩ := I.base.there b o e hx
    exact there b o' (neC b o e hx) e1
  · obtain ⟨m1, e1⟩ := I.base.tbls b ps e
    obtain ⟨m2, e2⟩ := tbls b _ e1
    exact ⟨m1 ++ m2, by rw [e2, Array.append_assoc]⟩
  · obtain ⟨m, hn, hl⟩ := I.loc
    refine ⟨m, ns m hn, fun i x v e1 e2 e3 => ?_⟩
    obtain ⟨u, r, l⟩ := hl i x v e1 e2 e3
    refine ⟨u, r, ?_⟩
    rcases l with l | ⟨k, c, e, z⟩
    · exact .inl l
    · exact .inr ⟨k, c, e, cellK x c e _ z⟩
  · obtain ⟨v, z⟩ := I.cell x c e
    exact ⟨v, cellK x c e v z⟩
  · obtain ⟨m, ⟨o, _, _, ho, _⟩, _⟩ := I.loc
    exact free _ o (fun z => (hch _ z).2.1 rfl) ho I.free
  · obtain ⟨v, o, ho, hd⟩ := I.cell x c e
    exact free c o (fun z => (hch c z).2.2.1 x c e rfl) ho (I.freeC x c e)
  · obtain ⟨e, n, ne, nf, d⟩ := I.pin p hp
    have nch : p.1 ∉ ch := fun z => (hch p.1 z).2.2.2 p hp rfl
    exact ⟨keep p.1 p.2 ne nf nch e n, free p.1 p.2 nch e n, ne, nf, d⟩
/-- .. where the frame's own object is kept too -/
theorem Inv.un {t' : Nat} (I : Inv X pins σ H s) (u : Un X.fs [] H H' s.heap h') (hok : HOk X.prog X.w H' h') : Inv X pins σ H' { s with heap := h', toks := t' } := by
  obtain ⟨m, ⟨o, es, ep, ho, r⟩, _⟩ := id I.loc
  obtain ⟨sl, hL⟩ := u.any ho I.free (by simp)
  exact I.step (g' := s.gens) (d' := s.drawn) (ch := []) (fun _ z => nomatch z) (fun b o _ hb _ e n => u.keep b o e n hb (by simp)) (fun b o _ hb _ e n => u.slot b o e n hb (by simp)) (fun b o _ e n => u.free b o e n (by simp)) (fun b o _ e => u.there b o e (by simp)) u.tups u.frzs u.tbls (fun m' hm => by
    obtain ⟨o', es', ep', ho', r'⟩ := hm
    rw [ho] at ho'; cases ho'
    exact ⟨_, es', ep', hL, r'⟩) hok I.bare
/-- behind a call (or a comprehension's block): the slots of this frame may have changed too, the records at ch may have turned -/
theorem Inv.call {g' : Array GenState} {t' : Nat} {d' : Drawn} {ch : List Addr} (I : Inv X pins σ H s) (u : Un (frs X.stack) ch H H' s.heap h') (hok : HOk X.prog X.w H' h') (hg : AllBare g')
    (hch : ∀ b ∈ ch, (b ∈ X.ex ∨ X.s₀.heap.objs.size ≤ b) ∧ b ≠ X.env.locals ∧ (∀ x c, X.env.cells.lookup x = some c → c ≠ b) ∧ ∀ p ∈ X.pn ++ pins, p.1 ≠ b) :
    Inv X pins σ H' { s with heap := h', gens := g', drawn := d', toks := t' } := by
  obtain ⟨m, ⟨o, es, ep, ho, r⟩, _⟩ := id I.loc
  obtain ⟨sl, hL⟩ := u.any ho I.free fun z => (hch _ z).2.1 rfl
  exact I.step (ch := ch) hch (fun b o hL hb hc e n => u.keep b o e n (fun z => (List.mem_cons.mp (I.stkSub b z)).elim hL hb) hc) (fun b o _ _ hc e n => u.any e n hc) (fun b o hc e n => u.free b o e n hc) (fun b o hc e => u.there b o e hc) u.tups u.frzs u.tbls (fun m' hm => by
    obtain ⟨o', es', ep', ho', r'⟩ := hm
    rw [ho] at ho'; cases ho'
    exact ⟨_, es', ep', hL, r'⟩) hok hg
/-- an untracked record of ours (an iterator) has turned -/
theorem Inv.turned {t' : Nat} {it : Addr} (I : Inv X pins σ H s) (k : ∀ b o, b ≠ it → s.heap.get? b = some o → h'.get? b = some o) (hn : H it = none) (hL : it ≠ X.env.locals)
    (h1 : it ∈ X.ex ∨ X.s₀.heap.objs.size ≤ it) (h2 : ∀ x c, X.env.cells.lookup x = some c → c ≠ it) (h3 : ∀ p ∈ X.pn ++ pins, p.1 ≠ it) : Inv X pins σ H { s with heap := h', toks := t' } := by
  have nit : ∀ b u, H b = some u → b ≠ it := fun b u e z => by rw [z, hn] at e; cases e
  refine I.step (g' := s.gens) (d' := s.drawn) (ch := [it]) (fun b hb => ?_) (fun b o _ _ hc e _ => k b o (fun z => hc (by simp [z])) e) (fun b o _ _ hc e _ => ⟨o.slots, k b o (fun z => hc (by simp [z])) e⟩) (fun _ _ _ _ n => n)
    (fun b o hc e => ⟨o, k b o (fun z => hc (by simp [z])) e⟩) (fun _ _ e => e) (fun _ _ _ e => e) (fun b ps e => ⟨#[], by rw [e]; simp⟩) (fun m hm => ?_) (fun b u e => ?_) I.bare
  · have e : b = it := by simpa using hb
    subst e
    exact ⟨h1, hL, h2, h3⟩
  · obtain ⟨o, es, ep, ho, r⟩ := hm
    exact ⟨o, es, ep, k _ o (Ne.symm hL) ho, r⟩
  · refine (I.hok b u e).stay (fun c v hc q => k c v ?_ q) (fun _ q => q) fun _ _ q => q
    rcases hc with z | z
    · rw [z]; exact nit b u e
    · exact nit c _ z
theorem Inv.tok (I : Inv X pins σ H s) (t : Nat) : Inv X pins σ H { s with toks := t } := I.un (h' := s.heap) (t' := t) Un.refl I.hok
/-- all objects kept -/
theorem Inv.kept {t' : Nat} (I : Inv X pins σ H s) (k : ∀ b u, s.heap.get? b = some u → h'.get? b = some u) : Inv X pins σ H { s with heap := h', toks := t' } := I.un (Un.kept k) (I.hok.kept k)
/-- a new object laid and tracked -/
theorem Inv.laid {a : Addr} {o : HO} {t' : Nat} (I : Inv X pins σ H s) (k : ∀ b u, s.heap.get? b = some u → h'.get? b = some u) (hp : s.heap.objs.size ≤ a) (new : ObjOk X.prog X.w (upd H a o) h' a o) :
    Inv X pins σ (upd H a o) { s with heap := h', toks := t' } := I.un (Un.laid k hp (I.hok.fresh hp)) (I.hok.laid k hp new)
/-- an object written -/
theorem Inv.write {x e : Addr} {o : HO} {t' : Nat} (I : Inv X pins σ H s) (mu : Mut (H x)) (he : e = x ∨ H e = some (.own x)) (k : ∀ b u, b ≠ e → s.heap.get? b = some u → h'.get? b = some u) (heo : ∃ u, h'.get? e = some u)
    (new : ObjOk X.prog X.w (upd H x o) h' x o) : Inv X pins σ (upd H x o) { s with heap := h', toks := t' } := I.un (Un.write mu he k heo) (I.hok.write mu he k heo new)
theorem Inv.pins_of {pins' : List (Addr × Obj)} (I : Inv X pins σ H s) (h : ∀ p ∈ pins', s.heap.get? p.1 = some p.2 ∧ H p.1 = none ∧ p.1 ≠ X.env.locals ∧ p.1 ∉ X.fs ∧ ∀ v, p.2.data ≠ .cell v) : Inv X pins' σ H s :=
  ⟨I.ok, I.os, I.bare, I.base, I.loc, I.cell, I.free, I.freeC, fun p hp => (List.mem_append.mp hp).elim (fun z => I.pin p (List.mem_append_left _ z)) (h p), I.hok, I.len⟩
theorem nodup_ix {N : List Str} (hN : N.Nodup) {i j : Nat} {x : Str} (a : N[i]? = some x) (b : N[j]? = some x) : i = j := by
  obtain ⟨h1, e1⟩ := List.getElem?_eq_some_iff.mp a
  obtain ⟨h2, e2⟩ := List.getElem?_eq_some_iff.mp b
  exact (List.getElem_inj hN).mp (e1.trans e2.symm)
/-- a name is stored; what changed -/
theorem store_ok2 {M : Model} {A : Around} {E : Value → Shared → Prop} {i : Nat} {x : Str} {v : V} {u : Value} {Q : Unit → Shared → Prop} (I : Inv X pins σ H s) (hN : X.N.Nodup) (hi : X.N[i]? = some x) (hx : Loc X.env.scope x) (r : RelV v u)
    (h : ∀ s', Inv X pins (σ.set i (some v)) H s' → (∃ a, Heap.SameBut a s.heap s'.heap ∧ (a = X.env.locals ∨ X.env.cells.lookup x = some a)) → Q () s') (hf : X.fn x = true ∨ X.env.scope.names.lookup x = some .local := by first | exact .inl rfl | exact .inr rfl | assumption) : wpAny M A (storeName X.env x u) Q E s := by
  obtain ⟨m, hn, hl⟩ := id I.loc
  have hcls : (X.env.scope.kind == .class || (X.env.scope.kind == .module && X.env.locals != X.env.globals)) = false := by rw [I.ok.kind]; rfl
  have hiσ : i < σ.length := by rw [I.len]; exact (List.getElem?_eq_some_iff.mp hi).1
  have cne := I.cne
  have tracked : ∀ {a : Addr} {h' : Heap}, (∃ o, s.heap.get? a = some o ∧ H a = none) → Heap.SameBut a s.heap h' → HOk X.prog X.w H h' := fun {a h'} ha hs b ob e => by
    obtain ⟨_, _, hfree⟩ := ha
    refine (I.hok b ob e).stay (fun c w' hc q => (hs.2 c ?_).trans q) (fun _ q => q) fun _ _ q => q
    rintro rfl
    rcases hc with rfl | hc
    · rw [hfree] at e; cases e
    · rw [hfree] at hc; cases hc
  rcases hx with hk | hk
  · refine wpAny_storeName_local hk hn (fun h' hn' hs => ?_) hcls
    obtain ⟨oL, _, _, hoL, _⟩ := id hn
    refine h _ ⟨I.ok, I.os, I.bare, ⟨fun b o e n hb hx => ?_, fun b o e n hb hx => ?_, I.base.free, fun b o e hx => ?_, I.base.tups, I.base.frzs, I.base.tbls⟩, ⟨_, hn', fun j y v' e1 e2 e3 => ?_⟩, fun y c e => ?_, I.free, I.freeC, fun p hp => ?_, tracked ⟨oL, hoL, I.free⟩ hs, by simpa using I.len⟩ ⟨_, hs, .inl rfl⟩
    · exact (hs.2 b (Nat.ne_of_lt (Nat.lt_of_lt_of_le (Heap.lt_size e) I.ok.above))).trans (I.base.keep b o e n hb hx)
    · obtain ⟨sl, e1⟩ := I.base.slot b o e n hb hx
      exact ⟨sl, (hs.2 b (Nat.ne_of_lt (Nat.lt_of_lt_of_le (Heap.lt_size e) I.ok.above))).trans e1⟩
    · obtain ⟨o', e1⟩ := I.base.there b o e hx
      exact ⟨o', (hs.2 b (Nat.ne_of_lt (Nat.lt_of_lt_of_le (Heap.lt_size e) I.ok.above))).trans e1⟩
    · by_cases hj : j = i
      · subst hj
        rw [hi] at e1; cases e1
        rw [List.getElem?_set_self hiσ] at e2
        cases e2
        exact ⟨u, r, .inl ⟨hk, by simp⟩⟩
      · rw [List.getElem?_set_ne (Ne.symm hj)] at e2
        obtain ⟨u', r', q⟩ := hl j y v' e1 e2 e3
        refine ⟨u', r', ?_⟩
        rcases q with ⟨k, e⟩ | ⟨k, c, e, z⟩
        · refine .inl ⟨k, ?_⟩
          have : y ≠ x := fun e => hj (nodup_ix hN e1 (e ▸ hi))
          simp [this, e]
        · exact .inr ⟨k, c, e, z.sameBut hs (cne y c e)⟩
    · obtain ⟨w', z⟩ := I.cell y c e
      exact ⟨w', z.sameBut hs (cne y c e)⟩
    · obtain ⟨e, n, ne, nf, d⟩ := I.pin p hp
      exact ⟨(hs.2 p.1 ne).trans e, n, ne, nf, d⟩
  · have hfn : X.fn x = true := by
      rcases hf with z | z
      · exact z
      · rw [z] at hk; cases hk
    obtain ⟨c, hc⟩ := I.ok.has x (.inl hk)
    obtain ⟨w', z⟩ := I.cell x c hc
    refine wpAny_storeName_cell I.ok.kind hk hc z (fun h' hc' hs => ?_)
    obtain ⟨oc, hoc, hocd⟩ := id z
    refine h { s with heap := h' } ⟨I.ok, I.os, I.bare, ⟨fun b o e n hb hx => ?_, fun b o e n hb hx => ?_, I.base.free, fun b o e hx => ?_, I.base.tups, I.base.frzs, I.base.tbls⟩, ⟨m, hn.sameBut hs (Ne.symm (cne x c hc)), fun j y v' e1 e2 e3 => ?_⟩, fun y c' e => ?_, I.free, I.freeC, fun p hp => ?_, tracked ⟨oc, hoc, I.freeC x c hc⟩ hs, by simpa using I.len⟩ ⟨c, hs, .inr hc⟩
    · exact (hs.2 b (Nat.ne_of_lt (Nat.lt_of_lt_of_le (Heap.lt_size e) (I.ok.cab x c hfn hc)))).trans (I.base.keep b o e n hb hx)
    · obtain ⟨sl, e1⟩ := I.base.slot b o e n hb hx
      exact ⟨sl, (hs.2 b (Nat.ne_of_lt (Nat.lt_of_lt_of_le (Heap.lt_size e) (I.ok.cab x c hfn hc)))).trans e1⟩
    · obtain ⟨o', e1⟩ := I.base.there b o e hx
      exact ⟨o', (hs.2 b (Nat.ne_of_lt (Nat.lt_of_lt_of_le (Heap.lt_size e) (I.ok.cab x c hfn hc)))).trans e1⟩
    · by_cases hj : j = i
      · subst hj
        rw [hi] at e1; cases e1
        rw [List.getElem?_set_self hiσ] at e2
        cases e2
        exact ⟨u, r, .inr ⟨.inl hk, c, hc, hc'⟩⟩
      · rw [List.getElem?_set_ne (Ne.symm hj)] at e2
        obtain ⟨u', r', q⟩ := hl j y v' e1 e2 e3
        refine ⟨u', r', ?_⟩
        rcases q with q | ⟨k, c', e, z'⟩
        · exact .inl q
        · refine .inr ⟨k, c', e, z'.sameBut hs ?_⟩
          rintro rfl
          exact hj (nodup_ix hN e1 (I.ok.inj _ _ _ e hc ▸ hi))
    · by_cases hcc : c' = c
      · subst hcc; exact ⟨_, hc'⟩
      · obtain ⟨w2, z2⟩ := I.cell y c' e
        exact ⟨w2, z2.sameBut hs hcc⟩
    · obtain ⟨e, n, ne, nf, d⟩ := I.pin p hp
      refine ⟨(hs.2 p.1 ?_).trans e, n, ne, nf, d⟩
      intro q
      rw [q, hoc] at e
      have q' : oc = p.2 := Option.some.inj e
      exact d w' (by rw [← q']; exact hocd)
theorem store_ok {M : Model} {A : Around} {E : Value → Shared → Prop} {i : Nat} {x : Str} {v : V} {u : Value} {Q : Unit → Shared → Prop} (I : Inv X pins σ H s) (hN : X.N.Nodup) (hi : X.N[i]? = some x) (hx : Loc X.env.scope x) (r : RelV v u)
    (h : ∀ s', Inv X pins (σ.set i (some v)) H s' → Q () s') (hf : X.fn x = true ∨ X.env.scope.names.lookup x = some .local := by first | exact .inl rfl | exact .inr rfl | assumption) : wpAny M A (storeName X.env x u) Q E s :=
  store_ok2 I hN hi hx r (fun s' I' _ => h s' I') hf
/-- behind a call or a block, the state as it is -/
theorem Inv.call' {s' : Shared} {ch : List Addr} (I : Inv X pins σ H s) (ho : s'.os = s.os) (u : Un (frs X.stack) ch H H' s.heap s'.heap) (hok : HOk X.prog X.w H' s'.heap) (hg : AllBare s'.gens)
    (hch : ∀ b ∈ ch, (b ∈ X.ex ∨ X.s₀.heap.objs.size ≤ b) ∧ b ≠ X.env.locals ∧ (∀ x c, X.env.cells.lookup x = some c → c ≠ b) ∧ ∀ p ∈ X.pn ++ pins, p.1 ≠ b) : Inv X pins σ H' s' := by
  obtain ⟨h', g', d', t', o'⟩ := s'
  have e : o' = s.os := ho
  subst e
  exact I.call (g' := g') (t' := t') (d' := d') u hok hg hch
end
/-! ### the judgements -/
/-- an exception: its class, its own dict's address (where it has one), the abstract heap behind it -/
abbrev XK := Value → Option Addr → Hp → Prop
abbrev St := List (Option V)
abbrev VK := V → Hp → Prop
/-- an expression's reading; a test's; an argument list's -/
abbrev TE := St → Hp → VK → Prop
abbrev TT := St → Hp → (Bool → Hp → Prop) → Prop
abbrev TA := St → Hp → (List V → Hp → Prop) → Prop
/-- what is wanted behind a statement -/
structure Ends where
  nx : St → Hp → Prop
  rt : VK
  bk : St → Hp → Prop := fun _ _ => False
  ct : St → Hp → Prop := fun _ _ => False
abbrev TS := Ends → St → Hp → Prop
def EP (X : Cx) (pins : List (Addr × Obj)) (σ : St) (Q : VK) (u : Value) (s' : Shared) : Prop := ∃ v H', Inv X pins σ H' s' ∧ RelV v u ∧ Q v H'
def TP (X : Cx) (pins : List (Addr × Obj)) (σ : St) (Q : Bool → Hp → Prop) (b : Bool) (s' : Shared) : Prop := ∃ H', Inv X pins σ H' s' ∧ Q b H'
def AP (X : Cx) (pins : List (Addr × Obj)) (σ : St) (Q : List V → Hp → Prop) (us : List Value) (s' : Shared) : Prop := ∃ vs H', Inv X pins σ H' s' ∧ Vals vs us ∧ Q vs H'
def SP (X : Cx) (pins : List (Addr × Obj)) (D : Ends) (f : Flow) (s' : Shared) : Prop :=
  match f with
  | .next => ∃ σ' H', Inv X pins σ' H' s' ∧ D.nx σ' H'
  | .brk => ∃ σ' H', Inv X pins σ' H' s' ∧ D.bk σ' H'
  | .cont => ∃ σ' H', Inv X pins σ' H' s' ∧ D.ct σ' H'
  | .ret u => ∃ v σ' H', Inv X pins σ' H' s' ∧ RelV v u ∧ D.rt v H'
def PE (X : Cx) (e : Expr) (t : TE) : Prop :=
  ∀ (pins : List (Addr × Obj)) (s : Shared) (σ : St) (H : Hp) (Q : VK), Inv X pins σ H s → t σ H Q → wpAny (model X.prog X.w) X.A (eval e X.env) (EP X pins σ Q) X.xe s
def PT (X : Cx) (e : Expr) (t : TT) : Prop :=
  ∀ (pins : List (Addr × Obj)) (s : Shared) (σ : St) (H : Hp) (Q : Bool → Hp → Prop), Inv X pins σ H s → t σ H Q → wpAny (model X.prog X.w) X.A (isTrue e X.env (eval e X.env)) (TP X pins σ Q) X.xe s
/-- a test whatever its 'whole' is (and, or) -/
def PW (X : Cx) (e : Expr) (t : TT) : Prop :=
  ∀ (whole : Sem Value) (pins : List (Addr × Obj)) (s : Shared) (σ : St) (H : Hp) (Q : Bool → Hp → Prop), Inv X pins σ H s → t σ H Q → wpAny (model X.prog X.w) X.A (isTrue e X.env whole) (TP X pins σ Q) X.xe s
theorem PW.pt {X : Cx} {e : Expr} {t : TT} (h : PW X e t) : PT X e t := h _
/-- an argument list (no star), from the left -/
def PA (X : Cx) (es : List Expr) (t : TA) : Prop :=
  ∀ (pos : Pos) (pins : List (Addr × Obj)) (s : Shared) (σ : St) (H : Hp) (Q : List V → Hp → Prop), Inv X pins σ H s → t σ H Q → wpAny (model X.prog X.w) X.A (spliced (backTo pos (starEach es X.env))) (AP X pins σ Q) X.xe s
def PS (X : Cx) (st : Stmt) (t : TS) : Prop :=
  ∀ (pins : List (Addr × Obj)) (s : Shared) (σ : St) (H : Hp) (D : Ends), Inv X pins σ H s → t D σ H → wpAny (model X.prog X.w) X.A (exec st X.env) (SP X pins D) X.xe s
def PSs (X : Cx) (st : List Stmt) (t : TS) : Prop :=
  ∀ (pins : List (Addr × Obj)) (s : Shared) (σ : St) (H : Hp) (D : Ends), Inv X pins σ H s → t D σ H → wpAny (model X.prog X.w) X.A (execs st X.env) (SP X pins D) X.xe s
/-- weaken the end -/
theorem thn {α : Type} {t : Sem α} {Q Q' : α → Shared → Prop} {M : Model} {A : Around} {E : Value → Shared → Prop} {s : Shared} (h : wpAny M A t Q E s) (hQ : ∀ a s, Q a s → Q' a s) : wpAny M A t Q' E s := wpAny_mono h hQ fun _ _ x => x
end L2
namespace L2
open PySem PySem.Spec PyProof.Rows
section
variable {X : Cx}
/-! ### names and constants -/
def tVar (i : Nat) : TE := fun σ H Q => ∃ v, σ[i]? = some (some v) ∧ Q v H
def tC (v : V) : TE := fun _ H Q => Q v H
theorem pe_var {i : Nat} {x : Str} {pos : Pos} (hN : X.N[i]? = some x) (hv : Vis X.env.scope x) (hd : (x == ("__debug__" : Str)) = false := by decide) (hcd : (x == ("__classdict__" : Str)) = false := by decide) : PE X (.Name x pos) (tVar i) := by
  intro pins s σ H Q I h
  obtain ⟨v, e, h⟩ := h
  obtain ⟨m, hn, hl⟩ := I.loc
  obtain ⟨u, r, l⟩ := hl i x v hN e hv
  have fin : EP X pins σ Q u s := ⟨v, H, I, r, h⟩
  rcases l with ⟨hk, hm⟩ | ⟨hk, c, hc, hcell⟩
  · exact wpAny_Name (wpAny_loadName_local I.ok.kind hk hn hm fin) hd
  · rcases hk with hk | hk
    · exact wpAny_Name (wpAny_loadName_cell I.ok.kind hk hc hcell fin) hd
    · exact wpAny_Name (wpAny_loadName_free I.ok.kind hk hc hcell fin hcd) hd
theorem pe_int {i j pos} : PE X (.Constant (.int i) j pos) (tC (.int i)) := fun _ _ _ H _ I h => wpAny_Constant_int ⟨.int i, H, I.tok _, ⟨_, rfl⟩, h⟩
theorem pe_bl {b j pos} : PE X (.Constant (.bool b) j pos) (tC (.bl b)) := fun _ _ _ H _ I h => Constant_bool ⟨.bl b, H, I, rfl, h⟩
theorem pe_non {j pos} : PE X (.Constant .none j pos) (tC .non) := fun _ _ _ H _ I h => Constant_none ⟨.non, H, I, rfl, h⟩
theorem pe_str {x j pos} : PE X (.Constant (.str x) j pos) (tC (.str x)) := fun _ _ _ H _ I h => Calls.Constant_str ⟨.str x, H, I.tok _, ⟨_, rfl⟩, h⟩
/-- a global name of the def -/
def Gl (X : Cx) (x : Str) : Prop := X.env.kindOf x = some .globalImplicit
theorem ld_glob {E : Value → Shared → Prop} {pins : List (Addr × Obj)} {s : Shared} {σ : St} {H : Hp} {x : Str} {u : Value} {pos : Pos} {Q : Value → Shared → Prop} (I : Inv X pins σ H s) (hg : Gl X x) (hm : X.mg x = some u) (h : Q u s)
    (hd : (x == ("__debug__" : Str)) = false := by decide) : wpAny (model X.prog X.w) X.A (eval (.Name x pos) X.env) Q E s :=
  Calls.Name_function_global I.ok.kind hg (Calls.loadGlobal_global (by rw [I.ok.glob]; exact I.mod.glob.keeps I.bk) hm h) hd
theorem ld_blt {E : Value → Shared → Prop} {pins : List (Addr × Obj)} {s : Shared} {σ : St} {H : Hp} {x : Str} {u : Value} {pos : Pos} {Q : Value → Shared → Prop} (I : Inv X pins σ H s) (hg : Gl X x) (hm : X.mg x = none) (hv : bootBuiltins x = some u) (h : Q u s)
    (hn : x ≠ "__name__" := by decide) (hd : (x == ("__debug__" : Str)) = false := by decide) : wpAny (model X.prog X.w) X.A (eval (.Name x pos) X.env) Q E s := by
  obtain ⟨mb, h1, h2⟩ := I.mod.blt
  exact Calls.Name_function_global I.ok.kind hg (Calls.loadGlobal_builtin (by rw [I.ok.glob]; exact I.mod.glob.keeps I.bk) hm (by rw [I.ok.blt]; exact h1.keeps I.bk) ((h2 x hn).trans hv) h) hd
/-- a module's constant, a class, a function, as a value -/
theorem pe_glob {x : Str} {v : V} {u : Value} {pos : Pos} (hg : Gl X x) (hm : X.mg x = some u) (r : RelV v u) (hd : (x == ("__debug__" : Str)) = false := by decide) : PE X (.Name x pos) (tC v) :=
  fun _ _ _ H _ I h => ld_glob I hg hm ⟨v, H, I, r, h⟩ hd
theorem pe_bltn {x : Str} {v : V} {u : Value} {pos : Pos} (hg : Gl X x) (hm : X.mg x = none) (hv : bootBuiltins x = some u) (r : RelV v u) (hn : x ≠ "__name__" := by decide) (hd : (x == ("__debug__" : Str)) = false := by decide) : PE X (.Name x pos) (tC v) :=
  fun _ _ _ H _ I h => ld_blt I hg hm hv ⟨v, H, I, r, h⟩ hn hd
/-! ### arithmetic -/
variable {a b : Expr} {ta tb : TE} {pos : Pos}
/-! ### comparisons -/
/-! ### and, or, not -/
variable {tA tB' : TT} {rest : List Expr}
def tAnd (t u : TT) : TT := fun σ H Q => t σ H fun c H1 => if c = true then u σ H1 Q else Q false H1
def tOr (t u : TT) : TT := fun σ H Q => t σ H fun c H1 => if c = true then Q true H1 else u σ H1 Q
def tNot (t : TT) : TT := fun σ H Q => t σ H fun c H1 => Q (!c) H1
theorem pw_and1 (ha : PT X a tA) : PW X (.BoolOp .And [a] pos) tA := by
  intro wh pins s σ H Q I h
  refine isTrue_and (thn (ha pins s σ H Q I h) fun c s1 e => ?_)
  cases c with
  | true => exact isTrue_and_nil e
  | false => exact e
theorem pw_or1 (ha : PT X a tA) : PW X (.BoolOp .Or [a] pos) tA := by
  intro wh pins s σ H Q I h
  refine isTrue_or (thn (ha pins s σ H Q I h) fun c s1 e => ?_)
  cases c with
  | false => exact isTrue_or_nil e
  | true => exact e
theorem pw_and (ha : PT X a tA) (hb : PW X (.BoolOp .And (b :: rest) pos) tB') : PW X (.BoolOp .And (a :: b :: rest) pos) (tAnd tA tB') := by
  intro wh pins s σ H Q I h
  refine isTrue_and (thn (ha pins s σ H _ I h) fun c s1 ⟨H1, I1, q1⟩ => ?_)
  cases c with
  | true => exact hb wh pins s1 σ H1 Q I1 q1
  | false => exact ⟨H1, I1, q1⟩
theorem pw_or (ha : PT X a tA) (hb : PW X (.BoolOp .Or (b :: rest) pos) tB') : PW X (.BoolOp .Or (a :: b :: rest) pos) (tOr tA tB') := by
  intro wh pins s σ H Q I h
  refine isTrue_or (thn (ha pins s σ H _ I h) fun c s1 ⟨H1, I1, q1⟩ => ?_)
  cases c with
  | true => exact ⟨H1, I1, q1⟩
  | false => exact hb wh pins s1 σ H1 Q I1 q1
theorem pt_not (ha : PT X a tA) : PT X (.UnaryOp .Not a pos) (tNot tA) := by
  intro pins s σ H Q I h
  exact isTrue_not (ha pins s σ H (fun c H1 => Q (!c) H1) I h)
/-- .. as values (bools) -/
def tAndV (ta tb : TE) : TE := fun σ H Q => ta σ H fun x H1 => ∃ c, x = .bl c ∧ if c = true then tb σ H1 Q else Q (.bl false) H1
def tOrV (ta tb : TE) : TE := fun σ H Q => ta σ H fun x H1 => ∃ c, x = .bl c ∧ if c = true then Q (.bl true) H1 else tb σ H1 Q
theorem pe_one {op} {t : TE} (h : PE X a t) : PE X (.BoolOp op [a] pos) t := fun pins s σ H Q I hw => BoolOp_one (h pins s σ H Q I hw)
theorem pe_and (ha : PE X a ta) (hb : PE X (.BoolOp .And (b :: rest) pos) tb) : PE X (.BoolOp .And (a :: b :: rest) pos) (tAndV ta tb) := by
  intro pins s σ H Q I h
  refine BoolOp_and (thn (ha pins s σ H _ I h) fun v s1 ⟨x, H1, I1, r1, q1⟩ => ?_)
  obtain ⟨c, rfl, q1⟩ := q1
  cases r1
  refine wpAny_truthy_bool ?_
  cases c with
  | true => exact hb pins s1 σ H1 Q I1 q1
  | false => exact ⟨.bl false, H1, I1, rfl, q1⟩
theorem pe_or (ha : PE X a ta) (hb : PE X (.BoolOp .Or (b :: rest) pos) tb) : PE X (.BoolOp .Or (a :: b :: rest) pos) (tOrV ta tb) := by
  intro pins s σ H Q I h
  refine BoolOp_or (thn (ha pins s σ H _ I h) fun v s1 ⟨x, H1, I1, r1, q1⟩ => ?_)
  obtain ⟨c, rfl, q1⟩ := q1
  cases r1
  refine wpAny_truthy_bool ?_
  cases c with
  | false => exact hb pins s1 σ H1 Q I1 q1
  | true => exact ⟨.bl true, H1, I1, rfl, q1⟩
end
end L2
namespace L2
open PySem PySem.Spec PyProof.Rows
/-! ### a list, a tuple that is read: tracked, frozen, or an object of the module -/
def SqL (K : PySem.W.Frag) (H : Hp) (a : Addr) (xs : List V) : Prop :=
  Rd H a (.lst xs) ∨
    ∃ (o : Obj) (its : Array Value) (n : Nat), K.lookup a = some o ∧ o.cls = .type "list" ∧ o.dict = none ∧ o.data = .seq its n ∧ its.size ≤ sizeLine ∧ Vals xs its.toList
def SqT (K : PySem.W.Frag) (H : Hp) (a : Addr) (xs : List V) : Prop :=
  Rd H a (.tup xs) ∨
    ∃ (o : Obj) (its : Array Value) (n : Nat), K.lookup a = some o ∧ o.cls = .type "tuple" ∧ o.data = .seq its n ∧ its.size ≤ sizeLine ∧ Vals xs its.toList
def absV : Value → Option V
  | .none => some .non
  | .bool b => some (.bl b)
  | .int i _ => some (.int i)
  | .str x _ => some (.str x)
  | .bytes b _ => some (.byt b)
  | .float b _ => some (.flt b)
  | .ref a => some (.ref a)
  | .type n => some (.ty n)
  | _ => none
theorem RelV.abs {x : V} {u : Value} (r : RelV x u) : absV u = some x := by
  cases x with
  | non => cases r; rfl
  | bl _ => cases r; rfl
  | int _ => obtain ⟨t, rfl⟩ := r; rfl
  | str _ => obtain ⟨t, rfl⟩ := r; rfl
  | byt _ => obtain ⟨t, rfl⟩ := r; rfl
  | flt _ => obtain ⟨t, rfl⟩ := r; rfl
  | ref _ => cases r; rfl
  | ty _ => cases r; rfl
theorem RelV.inj {x y : V} {u : Value} (r : RelV x u) (q : RelV y u) : x = y := Option.some.inj (r.abs.symm.trans q.abs)
theorem Vals.inj : ∀ {xs ys : List V} {us : List Value}, Vals xs us → Vals ys us → xs = ys
  | _, _, _, .nil, .nil => rfl
  | _, _, _, .cons r t, .cons r' t' => by rw [r.inj r', Vals.inj t t']
section
variable {X : Cx} {pins : List (Addr × Obj)} {σ : St} {H : Hp} {s : Shared} {a : Addr} {xs ys : List V}
theorem SqL.of {K : PySem.W.Frag} (h : H a = some (.lst xs)) : SqL K H a xs := .inl (.inl h)
theorem SqT.of {K : PySem.W.Frag} (h : H a = some (.tup xs)) : SqT K H a xs := .inl (.inl h)
theorem Inv.list (I : Inv X pins σ H s) (h : SqL X.K H a xs) : ∃ its : List Value, Vals xs its ∧ PlainL s.heap a its.toArray ∧ xs.length ≤ sizeLine := by
  rcases h with h | ⟨o, its, n, hk, hc, hd, hs, hz, r⟩
  · obtain ⟨z, its, n, r, e⟩ := h.ok I.hok
    exact ⟨its, r, ⟨_, n, e, rfl, rfl, rfl⟩, z⟩
  · refine ⟨its.toList, r, ⟨o, n, I.kIn a o hk, hc, hd, by simpa using hs⟩, ?_⟩
    have e := r.length
    simp only [Array.length_toList] at e
    omega
theorem Inv.tuple (I : Inv X pins σ H s) (h : SqT X.K H a xs) : ∃ its : List Value, Vals xs its ∧ IsTup s.heap a its.toArray ∧ xs.length ≤ sizeLine := by
  rcases h with h | ⟨o, its, n, hk, hc, hs, hz, r⟩
  · obtain ⟨z, its, r, p⟩ := h.ok I.hok
    exact ⟨its, r, p, z⟩
  · refine ⟨its.toList, r, ⟨o, I.kIn a o hk, hc, n, by simpa using hs⟩, ?_⟩
    have e := r.length
    simp only [Array.length_toList] at e
    omega
theorem Inv.list_inj (I : Inv X pins σ H s) (h : SqL X.K H a xs) (h' : SqL X.K H a ys) : xs = ys := by
  obtain ⟨its, r, ⟨o, n, e, _, _, d⟩, _⟩ := I.list h
  obtain ⟨its', r', ⟨o', n', e', _, _, d'⟩, _⟩ := I.list h'
  rw [e] at e'; cases e'
  rw [d] at d'
  injection d' with d1 _
  have : its = its' := by simpa using congrArg Array.toList d1
  subst this
  exact r.inj r'
theorem Inv.tuple_inj (I : Inv X pins σ H s) (h : SqT X.K H a xs) (h' : SqT X.K H a ys) : xs = ys := by
  obtain ⟨its, r, ⟨o, e, _, n, d⟩, _⟩ := I.tuple h
  obtain ⟨its', r', ⟨o', e', _, n', d'⟩, _⟩ := I.tuple h'
  rw [e] at e'; cases e'
  rw [d] at d'
  injection d' with d1 _
  have : its = its' := by simpa using congrArg Array.toList d1
  subst this
  exact r.inj r'
end
/-! ### another wish about exceptions -/
abbrev Cx.wish (X : Cx) (E : Value → Shared → Prop) : Cx := { X with xe := E }
/-- no exception leaves -/
abbrev Cx.nox (X : Cx) : Cx := X.wish fun _ _ => False
theorem Cx.Ok.wish {X : Cx} (ok : X.Ok) (E : Value → Shared → Prop) : (X.wish E).Ok :=
  ⟨ok.mod, ok.kind, ok.glob, ok.blt, ok.above, ok.inj, ok.has, ok.cab, ok.hd, ok.frames, ok.stk, ok.exf, ok.bs, ok.bsz, ok.noex, ok.exfs, ok.funs, ok.frf⟩
theorem Cx.Ok.unwish {X : Cx} {E : Value → Shared → Prop} (ok : (X.wish E).Ok) : X.Ok :=
  ⟨ok.mod, ok.kind, ok.glob, ok.blt, ok.above, ok.inj, ok.has, ok.cab, ok.hd, ok.frames, ok.stk, ok.exf, ok.bs, ok.bsz, ok.noex, ok.exfs, ok.funs, ok.frf⟩
section
variable {X : Cx} {pins : List (Addr × Obj)} {σ : St} {H : Hp} {s : Shared} {E : Value → Shared → Prop}
theorem Inv.wish (I : Inv X pins σ H s) (E : Value → Shared → Prop) : Inv (X.wish E) pins σ H s := ⟨I.ok.wish E, I.os, I.bare, I.base, I.loc, I.cell, I.free, I.freeC, I.pin, I.hok, I.len⟩
theorem Inv.unwish (I : Inv (X.wish E) pins σ H s) : Inv X pins σ H s := ⟨I.ok.unwish, I.os, I.bare, I.base, I.loc, I.cell, I.free, I.freeC, I.pin, I.hok, I.len⟩
theorem SP.unwish {D : Ends} {f : Flow} {s' : Shared} (h : SP (X.wish E) pins D f s') : SP X pins D f s' := by
  cases f with
  | next => obtain ⟨σ', H', I, q⟩ := h; exact ⟨σ', H', I.unwish, q⟩
  | brk => obtain ⟨σ', H', I, q⟩ := h; exact ⟨σ', H', I.unwish, q⟩
  | cont => obtain ⟨σ', H', I, q⟩ := h; exact ⟨σ', H', I.unwish, q⟩
  | ret u => obtain ⟨v, σ', H', I, r, q⟩ := h; exact ⟨v, σ', H', I.unwish, r, q⟩
theorem PSs.nox {st : List Stmt} {t : TS} (h : PSs X.nox st t) : PSs X st t := fun pins s σ H D I hw =>
  wpAny_mono (h pins s σ H D (I.wish _) hw) (fun _ _ q => q.unwish) fun _ _ z => False.elim z
end
/-! ### blocks and small statements -/
section
variable {X : Cx} {st : Stmt} {rest : List Stmt} {t u : TS} {e : Expr} {te : TE} {pos : Pos}
def tNext : TS := fun D σ H => D.nx σ H
def tSeq (t u : TS) : TS := fun D σ H => t { D with nx := u D } σ H
theorem pss_nil : PSs X [] tNext := fun _ _ σ H _ I h => wpAny_execs_nil ⟨σ, H, I, h⟩
theorem pss_cons (h1 : PS X st t) (h2 : PSs X rest u) : PSs X (st :: rest) (tSeq t u) := by
  intro pins s σ H D I h
  refine wpAny_execs_cons (thn (h1 pins s σ H { D with nx := u D } I h) fun f s1 q => ?_)
  cases f with
  | next =>
    obtain ⟨σ', H', I', q⟩ := q
    exact h2 pins s1 σ' H' D I' q
  | ret v => exact q
  | brk => exact q
  | cont => exact q
theorem pss_one (h1 : PS X st t) : PSs X [st] t := by
  intro pins s σ H D I h
  refine wpAny_execs_cons (thn (h1 pins s σ H D I h) fun f s1 q => ?_)
  cases f with
  | next => exact wpAny_execs_nil q
  | ret v => exact q
  | brk => exact q
  | cont => exact q
/-- in a def's body nothing is shown -/
theorem Inv.quiet {pins : List (Addr × Obj)} {σ : St} {H : Hp} {s : Shared} (I : Inv X pins σ H s) : interactive X.env = false := by simp [interactive, I.ok.kind]
/-- an expression whose value is dropped -/
def tDrop (te : TE) : TS := fun D σ H => te σ H fun _ H1 => D.nx σ H1
theorem ps_expr (he : PE X e te) (hs : swapsWith e none pos.line X.env = pure false := by rfl) : PS X (.Expr e pos) (tDrop te) := by
  intro pins s σ H D I h
  exact wpAny_Expr_any (thn (he pins s σ H _ I h) fun v s1 ⟨x, H1, I1, r1, q1⟩ => ⟨σ, H1, I1, q1⟩) I.quiet hs
def tRet (te : TE) : TS := fun D σ H => te σ H D.rt
theorem ps_ret (he : PE X e te) : PS X (.Return (some e) pos) (tRet te) := by
  intro pins s σ H D I h
  exact wpAny_Return_some (thn (he pins s σ H _ I h) fun v s1 ⟨x, H1, I1, r1, q1⟩ => ⟨x, σ, H1, I1, r1, q1⟩)
def tIfS (c : TT) (t u : TS) : TS := fun D σ H => c σ H fun b H1 => if b = true then t D σ H1 else u D σ H1
theorem ps_if {c : Expr} {a b : List Stmt} {tc : TT} (hc : PT X c tc) (ha : PSs X a t) (hb : PSs X b u) : PS X (.If c a b pos) (tIfS tc t u) := by
  intro pins s σ H D I h
  refine wpAny_If (thn (hc pins s σ H _ I h) fun d s1 ⟨H1, I1, q1⟩ => ?_)
  cases d with
  | true => exact ha pins s1 σ H1 D I1 q1
  | false => exact hb pins s1 σ H1 D I1 q1
end
/-! ### targets -/
abbrev TG := V → St → Hp → (St → Hp → Prop) → Prop
abbrev TGs := List V → St → Hp → (St → Hp → Prop) → Prop
def PG (X : Cx) (target : Expr) (t : TG) : Prop :=
  ∀ (pins : List (Addr × Obj)) (s : Shared) (σ : St) (H : Hp) (v : V) (u : Value) (Q : St → Hp → Prop), Inv X pins σ H s → RelV v u → t v σ H Q →
    wpAny (model X.prog X.w) X.A (assign target X.env u) (fun _ s' => ∃ σ' H', Inv X pins σ' H' s' ∧ Q σ' H') X.xe s
/-- several targets, one after another -/
def PGs (X : Cx) (ts : List Expr) (t : TGs) : Prop :=
  ∀ (pins : List (Addr × Obj)) (s : Shared) (σ : St) (H : Hp) (vs : List V) (us : List Value) (Q : St → Hp → Prop), Inv X pins σ H s → Vals vs us → t vs σ H Q →
    wpAny (model X.prog X.w) X.A (assignInOrder ((assignEach ts X.env).map (·.2)) us) (fun _ s' => ∃ σ' H', Inv X pins σ' H' s' ∧ Q σ' H') X.xe s
/-- o[i] = v, by values -/
abbrev TSet := V → V → V → Hp → (Hp → Prop) → Prop
def PSet (X : Cx) (t : TSet) : Prop :=
  ∀ (pins : List (Addr × Obj)) (s : Shared) (σ : St) (H : Hp) (o i v : V) (ov iv u : Value) (Q : Hp → Prop), Inv X pins σ H s → RelV o ov → RelV i iv → RelV v u → t o i v H Q →
    wpAny (model X.prog X.w) X.A (setItem ov iv u) (fun _ s' => ∃ H', Inv X pins σ H' s' ∧ Q H') X.xe s
section
variable {X : Cx} {pos : Pos}
def gName (i : Nat) : TG := fun v σ H Q => Q (σ.set i (some v)) H
theorem pg_name {i : Nat} {x : Str} (hN : X.N.Nodup) (hi : X.N[i]? = some x) (hx : Loc X.env.scope x) (hf : X.fn x = true ∨ X.env.scope.names.lookup x = some .local := by first | exact .inl rfl | exact .inr rfl | assumption) : PG X (.Name x pos) (gName i) := by
  intro pins s σ H v u Q I r h
  exact wpAny_assign_Name (store_ok I hN hi hx r (fun s' I' => ⟨_, H, I', h⟩) hf)
def gNil : TGs := fun vs σ H Q => vs = [] ∧ Q σ H
def gCons (t : TG) (u : TGs) : TGs := fun vs σ H Q => ∃ v r, vs = v :: r ∧ t v σ H fun σ' H' => u r σ' H' Q
theorem pgs_nil : PGs X [] gNil := by
  intro pins s σ H vs us Q I r h
  obtain ⟨e, h⟩ := h
  subst e
  cases r
  exact assignInOrder_nil ⟨σ, H, I, h⟩
theorem pgs_cons {e : Expr} {es : List Expr} {t : TG} {u : TGs} (h1 : PG X e t) (h2 : PGs X es u)
    (hs : (assignEach (e :: es) X.env).map (·.2) = assign e X.env :: (assignEach es X.env).map (·.2) := by rfl) : PGs X (e :: es) (gCons t u) := by
  intro pins s σ H vs us Q I r h
  obtain ⟨v, vr, e1, h⟩ := h
  subst e1
  cases r with
  | cons r rr =>
    rw [hs]
    refine assignInOrder_cons (thn (h1 pins s σ H _ _ _ I r h) fun _ s1 ⟨σ1, H1, I1, q1⟩ => ?_)
    exact h2 pins s1 σ1 H1 _ _ Q I1 rr q1
/-- (a, b, ..) = a tuple of that length -/
def gTup (K : PySem.W.Frag) (n : Nat) (t : TGs) : TG := fun v σ H Q => ∃ a xs, v = .ref a ∧ SqT K H a xs ∧ xs.length = n ∧ t xs σ H Q
theorem pg_tup {es : List Expr} {k : Nat} {t : TGs} {n : Nat} (hc : X.calm = true) (h : PGs X es t)
    (hn : (assignEach es X.env).length = n := by rfl) (hst : (assignEach es X.env).findIdx? (·.1) = none := by rfl) : PG X (.Tuple es k pos) (gTup X.K n t) := by
  intro pins s σ H v u Q I r hw
  obtain ⟨a, xs, e1, hq, hl, hw⟩ := hw
  subst e1
  cases r
  obtain ⟨its, rv, ht, hz⟩ := I.tuple hq
  refine assign_Tuple_tuple (I.ok.hd hc) ht (by simp [hn, ← hl, rv.length]) hst fun h' hx => ?_
  have I1 : Inv X pins σ H { s with heap := h' } := I.kept (t' := s.toks) fun b o e => hx b o (Nat.ne_of_lt (Heap.lt_size e)) e
  exact h pins _ σ H xs _ Q I1 (by simpa using rv) hw
/-- o[i] = .. -/
def gSub (to ti : TE) (t : TSet) : TG := fun v σ H Q => to σ H fun o H1 => ti σ H1 fun i H2 => t o i v H2 fun H3 => Q σ H3
theorem pg_sub {o i : Expr} {to ti : TE} {t : TSet} (ho : PE X o to) (hi : PE X i ti) (hs : PSet X t)
    (ha : ∀ v, assign (.Subscript o i pos) X.env v = (do
      let ov ← holding [v] (eval o X.env)
      let iv ← holding [v, ov] (eval i X.env)
      standAt pos
      holding [v, ov, iv] (setItem ov iv v)
      release [v, ov, iv] []) := by intro _; rfl) : PG X (.Subscript o i pos) (gSub to ti t) := by
  intro pins s σ H v u Q I r h
  rw [ha]
  refine wpAny_bind (wpAny_holding (thn (ho pins s σ H _ I h) fun ov s1 ⟨x, H1, I1, r1, q1⟩ => ?_))
  refine wpAny_bind (wpAny_holding (thn (hi pins s1 σ H1 _ I1 q1) fun iv s2 ⟨y, H2, I2, r2, q2⟩ => ?_))
  refine wpAny_bind (wpAny_standAt (wpAny_bind (wpAny_holding (thn (hs pins s2 σ H2 x y v ov iv u _ I2 r1 r2 r q2) fun _ s3 ⟨H3, I3, q3⟩ => ?_))))
  exact wpAny_release ⟨σ, H3, I3, q3⟩
/-- target = value -/
def tAsg (te : TE) (g : TG) : TS := fun D σ H => te σ H fun x H1 => g x σ H1 D.nx
theorem ps_asg {tg e : Expr} {te : TE} {g : TG} (he : PE X e te) (hg : PG X tg g) (hs : swapsWithSole [tg] e pos.line X.env = pure false := by rfl) (hw : swappedStores [tg] e X.env = pure none := by rfl)
    (h1 : (assignEach [tg] X.env).map (·.2) = [assign tg X.env] := by rfl) : PS X (.Assign [tg] e pos) (tAsg te g) := by
  intro pins s σ H D I h
  refine wpAny_Assign_stores (thn (he pins s σ H _ I h) fun v s1 ⟨x, H1, I1, r1, q1⟩ => ?_) hs hw
  rw [h1]
  exact thn (hg pins s1 σ H1 x v _ I1 r1 q1) fun _ s2 q => q
/-- name = value -/
theorem ps_set {i : Nat} {x : Str} {e : Expr} {te : TE} {pos' : Pos} (hN : X.N.Nodup) (hi : X.N[i]? = some x) (hx : Loc X.env.scope x) (he : PE X e te) (hs : swapsWith e (some (.Name x pos')) pos.line X.env = pure false := by rfl) (hf : X.fn x = true ∨ X.env.scope.names.lookup x = some .local := by first | exact .inl rfl | exact .inr rfl | assumption) :
    PS X (.Assign [.Name x pos'] e pos) (tAsg te (gName i)) := by
  intro pins s σ H D I h
  refine wpAny_Assign_Name (thn (he pins s σ H _ I h) fun v s1 ⟨y, H1, I1, r1, q1⟩ => ?_) hs
  exact store_ok I1 hN hi hx r1 (fun s2 I2 => ⟨_, H1, I2, q1⟩) hf
end
/-! ### while -/
section
variable {X : Cx} {pos : Pos}
/-- the invariant W with its measure -/
def tWhile (c : TT) (tb : TS) : TS := fun D σ H => ∃ W : Nat → St → Hp → Prop, (∃ m, W m σ H) ∧ ∀ m σ H, W m σ H →
  c σ H fun b H1 => if b = true then ∃ N : St → Hp → Prop, (∀ σ' H', N σ' H' → ∃ m', m' < m ∧ W m' σ' H') ∧ tb { D with nx := N, ct := N, bk := D.nx } σ H1 else D.nx σ H1
theorem ps_while {c : Expr} {body : List Stmt} {tc : TT} {tb : TS} (hp : PassesOwn (model X.prog X.w) X.A X.env X.xe) (hc : PT X c tc) (hb : PSs X body tb) : PS X (.While c body [] pos) (tWhile tc tb) := by
  intro pins s σ H D I h
  obtain ⟨W, ⟨m0, w0⟩, turn⟩ := h
  refine wpAny_While (codeAny_whileLoop (fun n s' => ∃ σ' H', Inv X pins σ' H' s' ∧ W n σ' H') ?_ m0 ⟨σ, H, I, w0⟩)
  rintro n s1 ⟨σ1, H1, I1, w1⟩
  refine wpAny_passesOwn hp (thn (hc pins s1 σ1 H1 _ I1 (turn n σ1 H1 w1)) fun b s2 ⟨H2, I2, q2⟩ => ?_)
  cases b with
  | true =>
    obtain ⟨N, hN, q2⟩ := q2
    rw [if_pos rfl]
    refine wpAny_passesOwn hp (thn (hb pins s2 σ1 H2 _ I2 q2) fun f s3 q3 => ?_)
    cases f with
    | next =>
      obtain ⟨σ3, H3, I3, n3⟩ := q3
      obtain ⟨m', hm, w3⟩ := hN σ3 H3 n3
      exact ⟨m', hm, σ3, H3, I3, w3⟩
    | cont =>
      obtain ⟨σ3, H3, I3, n3⟩ := q3
      obtain ⟨m', hm, w3⟩ := hN σ3 H3 n3
      exact ⟨m', hm, σ3, H3, I3, w3⟩
    | brk => exact q3
    | ret v => exact q3
  | false =>
    rw [if_neg Bool.false_ne_true]
    exact wpAny_execs_nil ⟨σ1, H2, I2, q2⟩
end
/-! ### what a loop or a comprehension walks -/
/-- at turn i: it yields x (the heap may grow), or it stops -/
structure It where
  go : Nat → Hp → Prop
  yld : Nat → Hp → V → Hp → Prop
  stop : Nat → Hp → Prop
/-- the iterator's own objects may turn: they are not the frame's, not pinned, younger than the entry (or a comprehension's own) -/
def FpOk (X : Cx) (pins : List (Addr × Obj)) (H : Hp) (b : Addr) : Prop :=
  H b = none ∧ b ≠ X.env.locals ∧ b ∉ X.fs ∧ (b ∈ X.ex ∨ X.s₀.heap.objs.size ≤ b) ∧ (∀ x c, X.env.cells.lookup x = some c → c ≠ b) ∧ ∀ p ∈ X.pn ++ pins, p.1 ≠ b
theorem Inv.fpOk {X : Cx} {pins : List (Addr × Obj)} {σ : St} {H H' : Hp} {s : Shared} {b : Addr} (I : Inv X pins σ H s) (hb : s.heap.objs.size ≤ b) (hn : H' b = none) : FpOk X pins H' b := by
  refine ⟨hn, Nat.ne_of_gt (Nat.lt_of_lt_of_le I.lt hb), I.nofs hb, .inr (Nat.le_trans I.sz hb), fun x c e z => ?_, fun p hp z => ?_⟩
  · obtain ⟨v, q⟩ := I.cell x c e
    exact absurd (Nat.lt_of_lt_of_le q.lt (by rw [z]; exact hb)) (Nat.lt_irrefl _)
  · exact absurd (Nat.lt_of_lt_of_le (Heap.lt_size (I.pin p hp).1) (by rw [z]; exact hb)) (Nat.lt_irrefl _)
structure Turn (P : Program) (w : World) (K : PySem.W.Frag) (tg : Expr) (J : It) (fp : List Addr) (it : Addr) (tn : Nat → Heap → Prop) : Prop where
  mem : it ∈ fp
  obj : ∀ i h, tn i h → ∀ b ∈ fp, ∃ o, h.get? b = some o ∧ ∀ v, o.data ≠ .cell v
  keep : ∀ i h h', tn i h → (∀ b ∈ fp, ∀ o, h.get? b = some o → h'.get? b = some o) → tn i h'
  item : ∀ (X : Cx), X.prog = P → X.w = w → X.K = K → X.calm = true → ∀ (i : Nat) (pins : List (Addr × Obj)) (s : Shared) (σ : St) (H : Hp) (E : Value → Shared → Prop), Inv X pins σ H s → (∀ b ∈ fp, FpOk X pins H b) → tn i s.heap → J.go i H →
    wpAny (model P w) X.A (pyNext (.ref it)) (fun r s1 => ∃ u, r = some u ∧
      wpAny (model P w) X.A (letOwnedTupleGo tg (.ref it) u) (fun _ s2 => ∃ x H', Inv X pins σ H' s2 ∧ RelV x u ∧ J.yld i H x H' ∧ tn (i + 1) s2.heap ∧ ∀ b ∈ fp, H' b = none) E s1) E s
  done : ∀ (X : Cx), X.prog = P → X.w = w → X.K = K → X.calm = true → ∀ (i : Nat) (pins : List (Addr × Obj)) (s : Shared) (σ : St) (H : Hp) (E : Value → Shared → Prop), Inv X pins σ H s → (∀ b ∈ fp, FpOk X pins H b) → tn i s.heap → J.stop i H →
    wpAny (model P w) X.A (pyNext (.ref it)) (fun r s1 => r = none ∧ Inv X pins σ H s1) E s
  self : ∀ (A : Around) (i : Nat) (s : Shared) (Q : Value → Shared → Prop) (E : Value → Shared → Prop), tn i s.heap → Q (.ref it) s → wpAny (model P w) A (pyIter (.ref it)) Q E s
abbrev TI := St → Hp → (It → Hp → Prop) → Prop
/-- an iterator has come -/
def PIE (X : Cx) (pins : List (Addr × Obj)) (σ : St) (tg : Expr) (R : It → Hp → Prop) (itv : Value) (s2 : Shared) : Prop :=
  ∃ (it : Addr) (fp : List Addr) (tn : Nat → Heap → Prop) (J : It) (H' : Hp), itv = .ref it ∧ Inv X pins σ H' s2 ∧ Turn X.prog X.w X.K tg J fp it tn ∧ tn 0 s2.heap ∧ (∀ b ∈ fp, FpOk X pins H' b) ∧ R J H'
def PI (X : Cx) (tg iter : Expr) (wi : TI) : Prop :=
  ∀ (pins : List (Addr × Obj)) (s : Shared) (σ : St) (H : Hp) (R : It → Hp → Prop), Inv X pins σ H s → wi σ H R →
    wpAny (model X.prog X.w) X.A (eval iter X.env) (fun v s1 => wpAny (model X.prog X.w) X.A (pyIter v) (PIE X pins σ tg R) X.xe s1) X.xe s
/-- the step ahead of the store is nothing for an iterator that keeps no tuple -/
theorem go_of {M : Model} {A : Around} {E : Value → Shared → Prop} {s : Shared} {tg : Expr} {it : Addr} {u : Value} {o : Obj} {n : String} {vs : Array Value} {Q : Unit → Shared → Prop} (ho : s.heap.get? it = some o) (hc : o.cls = .type n) (hd : o.data = .fields vs)
    (hn : ["enumerate", "zip", "dict_itemiterator", "dict_reverseitemiterator", "odict_iterator", "itertools.zip_longest", "itertools.pairwise"].contains n = false) (hQ : Q () s) : wpAny M A (letOwnedTupleGo tg (.ref it) u) Q E s := by
  unfold letOwnedTupleGo
  cases tg <;> first
    | exact wpAny_pure hQ
    | (cases u <;> first
        | exact wpAny_pure hQ
        | (refine wpAny_bind (wpAny_load ho ?_)
           rw [hc, hd]
           show wpAny M A (if (["enumerate", "zip", "dict_itemiterator", "dict_reverseitemiterator", "odict_iterator", "itertools.zip_longest", "itertools.pairwise"].contains n && vs[0]? == some (rawInt _)) = true then _ else _) Q E s
           rw [if_neg (by intro h; rw [hn, Bool.false_and] at h; cases h)]
           exact wpAny_pure hQ))
/-- the list at a, as it stands at each turn (a loop may append to it) -/
def Itl (K : PySem.W.Frag) (a : Addr) : It :=
  ⟨fun i H => ∃ xs x, SqL K H a xs ∧ xs[i]? = some x, fun i H x H' => H' = H ∧ ∀ xs, SqL K H a xs → xs[i]? = some x, fun i H => ∃ xs, SqL K H a xs ∧ xs.length ≤ i⟩
def Itt (K : PySem.W.Frag) (a : Addr) : It :=
  ⟨fun i H => ∃ xs x, SqT K H a xs ∧ xs[i]? = some x, fun i H x H' => H' = H ∧ ∀ xs, SqT K H a xs → xs[i]? = some x, fun i H => ∃ xs, SqT K H a xs ∧ xs.length ≤ i⟩
/-- lo, lo + 1, .. (n of them) -/
def Itr (lo : Int) (n : Nat) : It := ⟨fun i _ => i < n, fun i H x H' => H' = H ∧ x = .int (lo + i), fun i _ => n ≤ i⟩
theorem turn_list {P : Program} {w : World} {K : PySem.W.Frag} {tg : Expr} (a it : Addr) : Turn P w K tg (Itl K a) [it] it (fun i h => h.IsListIter it a i) where
  mem := by simp
  obj := fun i h st b hb => by
    have e : b = it := by simpa using hb
    subst e
    obtain ⟨o, e, c, d⟩ := st
    exact ⟨o, e, fun v z => by rw [d] at z; cases z⟩
  keep := fun i h h' st k => st.at fun o e => k it (by simp) o e
  item := by
    intro X hP hw hK hc i pins s σ H E I hf st hg
    subst hP hw hK
    obtain ⟨xs, x, hq, hx⟩ := hg
    obtain ⟨its, rv, p, hz⟩ := I.list hq
    obtain ⟨u, hu, ru⟩ := rv.get hx
    obtain ⟨f0, f1, f2, f3, f4, f5⟩ := hf it (by simp)
    refine wpAny_pyNext_list_item st p.isList (x := u) (by simpa using hu) fun h' st' sb => ?_
    have I1 : Inv X pins σ H { s with heap := h' } := I.turned (t' := s.toks) (fun b o hb e => (sb.2 b hb).trans e) f0 f1 f3 f4 f5
    obtain ⟨o, e, c, d⟩ := id st'
    exact ⟨u, rfl, go_of (s := { s with heap := h' }) e c d (by decide) ⟨x, H, I1, ru, ⟨rfl, fun ys hy => by rw [I.list_inj hy hq]; exact hx⟩, st', fun b hb => (hf b hb).1⟩⟩
  done := by
    intro X hP hw hK hc i pins s σ H E I hf st hg
    subst hP hw hK
    obtain ⟨xs, hq, hx⟩ := hg
    obtain ⟨its, rv, p, hz⟩ := I.list hq
    obtain ⟨f0, f1, f2, f3, f4, f5⟩ := hf it (by simp)
    have hl := rv.length
    exact wpAny_pyNext_list_end (I.ok.hd hc) st p.isList (by simp; omega) fun h' eb => ⟨rfl, I.turned (t' := s.toks) (fun b o hb e => eb b o hb e) f0 f1 f3 f4 f5⟩
  self := fun _ _ _ _ _ st h => wpAny_pyIter_listiter st h
theorem turn_tuple {P : Program} {w : World} {K : PySem.W.Frag} {tg : Expr} (a it : Addr) : Turn P w K tg (Itt K a) [it] it (fun i h => h.IsTupleIter it a i) where
  mem := by simp
  obj := fun i h st b hb => by
    have e : b = it := by simpa using hb
    subst e
    obtain ⟨o, e, c, d⟩ := st
    exact ⟨o, e, fun v z => by rw [d] at z; cases z⟩
  keep := fun i h h' st k => st.at fun o e => k it (by simp) o e
  item := by
    intro X hP hw hK hc i pins s σ H E I hf st hg
    subst hP hw hK
    obtain ⟨xs, x, hq, hx⟩ := hg
    obtain ⟨its, rv, p, hz⟩ := I.tuple hq
    obtain ⟨u, hu, ru⟩ := rv.get hx
    obtain ⟨f0, f1, f2, f3, f4, f5⟩ := hf it (by simp)
    refine wpAny_pyNext_tuple_item st (show s.heap.IsTuple a its.toArray from p) (x := u) (by simpa using hu) fun h' st' sb => ?_
    have I1 : Inv X pins σ H { s with heap := h' } := I.turned (t' := s.toks) (fun b o hb e => (sb.2 b hb).trans e) f0 f1 f3 f4 f5
    obtain ⟨o, e, c, d⟩ := id st'
    exact ⟨u, rfl, go_of (s := { s with heap := h' }) e c d (by decide) ⟨x, H, I1, ru, ⟨rfl, fun ys hy => by rw [I.tuple_inj hy hq]; exact hx⟩, st', fun b hb => (hf b hb).1⟩⟩
  done := by
    intro X hP hw hK hc i pins s σ H E I hf st hg
    subst hP hw hK
    obtain ⟨xs, hq, hx⟩ := hg
    obtain ⟨its, rv, p, hz⟩ := I.tuple hq
    obtain ⟨f0, f1, f2, f3, f4, f5⟩ := hf it (by simp)
    have hl := rv.length
    exact wpAny_pyNext_tuple_end (I.ok.hd hc) st (show s.heap.IsTuple a its.toArray from p) (by simp; omega) fun h' eb => ⟨rfl, I.turned (t' := s.toks) (fun b o hb e => eb b o hb e) f0 f1 f3 f4 f5⟩
  self := fun _ _ _ _ _ st h => wpAny_pyIter_tupleiter st h
theorem turn_range {P : Program} {w : World} {K : PySem.W.Frag} {tg : Expr} (it : Addr) (lo : Int) (n : Nat) : Turn P w K tg (Itr lo n) [it] it (fun i h => IsRangeIter h it (lo + (i : Nat) * 1) ((n : Int) - (i : Nat)) 1) where
  mem := by simp
  obj := fun i h st b hb => by
    have e : b = it := by simpa using hb
    subst e
    exact ⟨_, st, fun v z => by
      have z' : Data.fields _ = Data.cell v := z
      cases z'⟩
  keep := fun i h h' st k => k it (by simp) _ st
  item := by
    intro X hP hw hK hc i pins s σ H E I hf st hg
    subst hP hw hK
    obtain ⟨f0, f1, f2, f3, f4, f5⟩ := hf it (by simp)
    have W := Walks.range (prog := X.prog) (w := X.w) (I.ok.hd hc) it lo 1 n
    refine W.item i s _ _ hg st fun v h' tk hv st' kk => ?_
    obtain ⟨t, rfl⟩ := hv
    have I1 : Inv X pins σ H { s with heap := h', toks := tk } := I.turned (fun b o hb e => kk b o (by simpa using hb) e) f0 f1 f3 f4 f5
    refine ⟨_, rfl, go_of (s := { s with heap := h', toks := tk }) (n := "range_iterator") st' rfl rfl (by decide) ⟨.int (lo + i), H, I1, ⟨t, ?_⟩, ⟨rfl, rfl⟩, st', fun b hb => (hf b hb).1⟩⟩
    rw [Int.mul_one]
  done := by
    intro X hP hw hK hc i pins s σ H E I hf st hg
    subst hP hw hK
    obtain ⟨f0, f1, f2, f3, f4, f5⟩ := hf it (by simp)
    exact wpAny_pyNext_range_end (I.ok.hd hc) st (by have : n ≤ i := hg; omega) fun h' eb => ⟨rfl, I.turned (t' := s.toks) (fun b o hb e => eb b o hb e) f0 f1 f3 f4 f5⟩
  self := fun _ _ _ _ _ st h => wpAny_pyIter_rangeiter st h
end L2
namespace L2
open PySem PySem.Spec PyProof.Rows
section
variable {X : Cx} {tg : Expr}
def iList (K : PySem.W.Frag) (tl : TE) : TI := fun σ H R => tl σ H fun x H1 => ∃ a, x = .ref a ∧ (∃ xs, SqL K H1 a xs) ∧ R (Itl K a) H1
def iTup (K : PySem.W.Frag) (tl : TE) : TI := fun σ H R => tl σ H fun x H1 => ∃ a, x = .ref a ∧ (∃ xs, SqT K H1 a xs) ∧ R (Itt K a) H1
theorem pi_list {l : Expr} {tl : TE} (hl : PE X l tl) : PI X tg l (iList X.K tl) := by
  intro pins s σ H R I h
  refine thn (hl pins s σ H _ I h) fun v s1 ⟨x, H1, I1, r1, q1⟩ => ?_
  obtain ⟨a, e, ⟨xs, hq⟩, q⟩ := q1
  subst e
  cases r1
  obtain ⟨its, rv, p, hz⟩ := I1.list hq
  refine wpAny_pyIter_list p.isList ?_
  refine ⟨s1.heap.objs.size, [s1.heap.objs.size], _, _, H1, rfl, I1.kept (t' := s1.toks) fun b o e => Heap.get?_push_of_some _ e, turn_list a _, ⟨_, Heap.get?_push_size _ rfl, rfl, rfl⟩, fun b hb => ?_, q⟩
  have e : b = s1.heap.objs.size := by simpa using hb
  subst e
  exact I1.fpOk (Nat.le_refl _) (I1.hok.fresh (Nat.le_refl _))
theorem pi_tup {l : Expr} {tl : TE} (hl : PE X l tl) : PI X tg l (iTup X.K tl) := by
  intro pins s σ H R I h
  refine thn (hl pins s σ H _ I h) fun v s1 ⟨x, H1, I1, r1, q1⟩ => ?_
  obtain ⟨a, e, ⟨xs, hq⟩, q⟩ := q1
  subst e
  cases r1
  obtain ⟨its, rv, p, hz⟩ := I1.tuple hq
  refine wpAny_pyIter_tuple (show s1.heap.IsTuple a its.toArray from p) ?_
  refine ⟨s1.heap.objs.size, [s1.heap.objs.size], _, _, H1, rfl, I1.kept (t' := s1.toks) fun b o e => Heap.get?_push_of_some _ e, turn_tuple a _, ⟨_, Heap.get?_push_size _ rfl, rfl, rfl⟩, fun b hb => ?_, q⟩
  have e : b = s1.heap.objs.size := by simpa using hb
  subst e
  exact I1.fpOk (Nat.le_refl _) (I1.hok.fresh (Nat.le_refl _))
/-- a range object just made, walked -/
theorem range_it {pins : List (Addr × Obj)} {σ : St} {H : Hp} {s : Shared} {R : It → Hp → Prop} {E : Value → Shared → Prop} {lo hi : Int} {t u v : Tok} {tk : Nat} (I : Inv X pins σ H s) (h1 : -(2 ^ 62) ≤ lo) (h2 : lo < 2 ^ 62) (h3 : -(2 ^ 62) ≤ hi) (h4 : hi < 2 ^ 62)
    (q : R (Itr lo (hi - lo).toNat) H) : wpAny (model X.prog X.w) X.A (pyIter (.ref s.heap.objs.size)) (PIE X pins σ tg R) E { s with heap := s.heap.push { cls := .type "range", data := .fields #[.int lo t, .int hi u, .int 1 v] }, toks := tk } := by
  refine wpAny_pyIter_range (IsRange.new ..) (small_one h1 h2 h3 h4) ?_
  have I1 : Inv X pins σ H { s with heap := s.heap.push { cls := .type "range", data := .fields #[.int lo t, .int hi u, .int 1 v] }, toks := tk } := I.kept fun b o e => Heap.get?_push_of_some _ e
  refine ⟨(s.heap.push { cls := .type "range", data := .fields #[.int lo t, .int hi u, .int 1 v] }).objs.size, [(s.heap.push { cls := .type "range", data := .fields #[.int lo t, .int hi u, .int 1 v] }).objs.size], _, _, H, rfl,
    I1.kept (t' := tk) fun b o e => Heap.get?_push_of_some _ e, turn_range _ lo (hi - lo).toNat, ?_, fun b hb => ?_, q⟩
  · have e1 : lo + ((0 : Nat) : Int) * 1 = lo := by simp
    have e2 : (((hi - lo).toNat : Nat) : Int) - ((0 : Nat) : Int) = Builtin.Range.rangeSize lo hi 1 := by rw [rangeSize_one]; split <;> omega
    show IsRangeIter _ _ (lo + ((0 : Nat) : Int) * 1) ((((hi - lo).toNat : Nat) : Int) - ((0 : Nat) : Int)) 1
    rw [e1, e2]
    exact Heap.get?_push_size _ rfl
  · have e : b = (s.heap.push { cls := .type "range", data := .fields #[.int lo t, .int hi u, .int 1 v] }).objs.size := by simpa using hb
    subst e
    exact I1.fpOk (Nat.le_refl _) (I1.hok.fresh (Nat.le_refl _))
def iRng1 (ta : TA) : TI := fun σ H R => ta σ H fun vs H1 => ∃ j : Int, vs = [.int j] ∧ -(2 ^ 62) ≤ j ∧ j < 2 ^ 62 ∧ R (Itr 0 j.toNat) H1
theorem pi_range1 {a : Expr} {ta : TA} {p pos : Pos} (hg : Gl X "range") (hm : X.mg "range" = none) (ha : PA X [a] ta) (hs : starEach [a] X.env = [(false, eval a X.env)] := by rfl) : PI X tg (.Call (.Name "range" p) [a] [] pos) (iRng1 ta) := by
  intro pins s σ H R I h
  refine Call_ (ld_blt I hg hm boot_range (PyProof.Rows.callWith_type1 (thn (ha pos pins s σ H _ I h) fun us s1 ⟨vs, H1, I1, r1, q1⟩ => ?_) hs rfl))
  obtain ⟨j, e, q1, q2, q⟩ := q1
  subst e
  cases r1 with
  | cons r rr =>
    cases rr
    obtain ⟨t, rfl⟩ := r
    exact call_range_1 (range_it I1 (by omega) (by omega) q1 q2 (by simpa using q))
/-! ### for -/
/-- W: the invariant by the turn and a measure; N: what the body is to reach -/
def tFor (wi : TI) (g : TG) (tb : TS) : TS := fun D σ H => wi σ H fun J H1 => ∃ W : Nat → Nat → St → Hp → Prop, (∃ m, W 0 m σ H1) ∧ ∀ i m σ H, W i m σ H →
  (J.stop i H ∧ D.nx σ H) ∨ (J.go i H ∧ ∃ N : St → Hp → Prop, (∀ σ' H', N σ' H' → ∃ m', m' < m ∧ W (i + 1) m' σ' H') ∧ ∀ x H', J.yld i H x H' → g x σ H' fun σ2 H2 => tb { D with nx := N, ct := N, bk := D.nx } σ2 H2)
/-- the records at fp as they stand -/
def pinsAt (fp : List Addr) (h : Heap) : List (Addr × Obj) := fp.filterMap fun b => (h.get? b).map fun o => (b, o)
theorem mem_pinsAt {fp : List Addr} {h : Heap} {b : Addr} {o : Obj} (hb : b ∈ fp) (e : h.get? b = some o) : (b, o) ∈ pinsAt fp h := List.mem_filterMap.mpr ⟨b, hb, by rw [e]; rfl⟩
theorem of_pinsAt {fp : List Addr} {h : Heap} {p : Addr × Obj} (hp : p ∈ pinsAt fp h) : p.1 ∈ fp ∧ h.get? p.1 = some p.2 := by
  obtain ⟨b, hb, e⟩ := List.mem_filterMap.mp hp
  cases q : h.get? b with
  | none => rw [q] at e; cases e
  | some o =>
    rw [q] at e
    have e' : (b, o) = p := Option.some.inj e
    subst e'
    exact ⟨hb, q⟩
theorem Inv.pinned {pins : List (Addr × Obj)} {σ : St} {H : Hp} {s : Shared} {fp : List Addr} (I : Inv X pins σ H s) (hf : ∀ b ∈ fp, FpOk X pins H b) (ho : ∀ b ∈ fp, ∃ o, s.heap.get? b = some o ∧ ∀ v, o.data ≠ .cell v) : Inv X (pins ++ pinsAt fp s.heap) σ H s :=
  I.pins_of fun p hp => (List.mem_append.mp hp).elim (fun z => I.pin p (List.mem_append_right _ z)) fun z => by
    obtain ⟨hb, e⟩ := of_pinsAt z
    obtain ⟨f0, f1, f2, _⟩ := hf p.1 hb
    obtain ⟨o, e', d⟩ := ho p.1 hb
    rw [e] at e'; cases e'
    exact ⟨e, f0, f1, f2, d⟩
theorem Inv.unpinned {pins pl : List (Addr × Obj)} {σ : St} {H : Hp} {s : Shared} (I : Inv X (pins ++ pl) σ H s) : Inv X pins σ H s := I.pins_of fun p hp => I.pin p (List.mem_append_right _ (List.mem_append_left _ hp))
theorem ps_for {iter : Expr} {body : List Stmt} {wi : TI} {g : TG} {tb : TS} {pos : Pos} (hp : PassesOwn (model X.prog X.w) X.A X.env X.xe) (hc : X.calm = true) (hi : PI X tg iter wi) (hg : PG X tg g) (hb : PSs X body tb)
    (hs : ∀ x, foldedSetIterable iter X.env x = pure x := by intro _; rfl) : PS X (.For tg iter body [] pos) (tFor wi g tb) := by
  intro pins s σ H D I h
  refine wpAny_For (thn (hi pins s σ H _ I h) fun v s1 h1 => thn h1 fun itv s2 h2 => ?_) hs
  obtain ⟨it, fp, tn, J, H2, e, I2, T, st2, f2, W, ⟨m0, w0⟩, turn⟩ := h2
  subst e
  -- what stays true of the iterator's objects through the loop
  have stat : ∀ {H' : Hp}, (∀ b ∈ fp, H' b = none) → ∀ b ∈ fp, FpOk X pins H' b := fun hn b hb => ⟨hn b hb, (f2 b hb).2⟩
  refine codeAny_forLoop_any (fun n s' => ∃ i σ' H', Inv X pins σ' H' s' ∧ tn i s'.heap ∧ (∀ b ∈ fp, H' b = none) ∧ W i n σ' H') ?_ m0 ⟨0, σ, H2, I2, st2, fun b hb => (f2 b hb).1, w0⟩
  rintro n s3 ⟨i, σ3, H3, I3, st3, fr3, w3⟩
  rcases turn i n σ3 H3 w3 with ⟨stop, qn⟩ | ⟨go, N, hN, step⟩
  · refine wpAny_passesOwn hp (thn (T.done X rfl rfl rfl hc i pins s3 σ3 H3 X.xe I3 (stat fr3) st3 stop) fun r s4 ⟨hr, I4⟩ => ?_)
    subst hr
    exact wpAny_execs_nil ⟨σ3, H3, I4, qn⟩
  · refine wpAny_passesOwn hp (thn (T.item X rfl rfl rfl hc i pins s3 σ3 H3 X.xe I3 (stat fr3) st3 go) fun r s4 ⟨u, hr, h4⟩ => ?_)
    subst hr
    refine wpAny_passesOwn hp (thn h4 fun _ s5 ⟨x, H5, I5, r5, y5, st5, fr5⟩ => ?_)
    have I5' := I5.pinned (stat fr5) (T.obj _ _ st5)
    refine wpAny_passesOwn hp (thn (hg _ s5 σ3 H5 x u _ I5' r5 (step x H5 y5)) fun _ s6 ⟨σ6, H6, I6, q6⟩ => ?_)
    refine wpAny_passesOwn hp (thn (hb _ s6 σ6 H6 _ I6 q6) fun f s7 q7 => ?_)
    have again : ∀ {σ7 : St} {H7 : Hp}, Inv X (pins ++ pinsAt fp s5.heap) σ7 H7 s7 → N σ7 H7 → ∃ m, m < n ∧ ∃ i σ' H', Inv X pins σ' H' s7 ∧ tn i s7.heap ∧ (∀ b ∈ fp, H' b = none) ∧ W i m σ' H' := fun {σ7 H7} I7 n7 => by
      obtain ⟨m', hm, w7⟩ := hN σ7 H7 n7
      refine ⟨m', hm, i + 1, σ7, H7, I7.unpinned, T.keep _ _ _ st5 fun b hb o e => (I7.pin (b, o) (List.mem_append_right _ (List.mem_append_right _ (mem_pinsAt hb e)))).1, fun b hb => ?_, w7⟩
      obtain ⟨o, e, d⟩ := T.obj _ _ st5 b hb
      exact (I7.pin (b, o) (List.mem_append_right _ (List.mem_append_right _ (mem_pinsAt hb e)))).2.1
    cases f with
    | next => obtain ⟨σ7, H7, I7, n7⟩ := q7; exact again I7 n7
    | cont => obtain ⟨σ7, H7, I7, n7⟩ := q7; exact again I7 n7
    | brk => obtain ⟨σ7, H7, I7, q7⟩ := q7; exact ⟨σ7, H7, I7.unpinned, q7⟩
    | ret v => obtain ⟨x7, σ7, H7, I7, r7, q7⟩ := q7; exact ⟨x7, σ7, H7, I7.unpinned, r7, q7⟩
end
/-! ### the forms one uses -/
end L2
namespace L2
open PySem PySem.Spec PyProof.Rows
abbrev R2 := V → V → Hp → VK → Prop
/-- a two-place operation on values: f is binaryOp op, inplaceOp op or compareOp op -/
def OpR (X : Cx) (f : Value → Value → Sem Value) (r : R2) : Prop :=
  ∀ (pins : List (Addr × Obj)) (s : Shared) (σ : St) (H : Hp) (x y : V) (v u : Value) (Q : VK), Inv X pins σ H s → RelV x v → RelV y u → r x y H Q →
    wpAny (model X.prog X.w) X.A (f v u) (EP X pins σ Q) X.xe s
/-- a one-place operation -/
def UnR (X : Cx) (f : Value → Sem Value) (r : V → Hp → VK → Prop) : Prop :=
  ∀ (pins : List (Addr × Obj)) (s : Shared) (σ : St) (H : Hp) (x : V) (v : Value) (Q : VK), Inv X pins σ H s → RelV x v → r x H Q →
    wpAny (model X.prog X.w) X.A (f v) (EP X pins σ Q) X.xe s
/-- a call of a value that is known (a builtin, a type) with values -/
def CallR (X : Cx) (f : Value) (r : List V → Hp → VK → Prop) : Prop :=
  ∀ (pins : List (Addr × Obj)) (s : Shared) (σ : St) (H : Hp) (xs : List V) (us : List Value) (Q : VK), Inv X pins σ H s → Vals xs us → r xs H Q →
    wpAny (model X.prog X.w) X.A (call f us) (EP X pins σ Q) X.xe s
/-- a value's truth -/
def TruR (X : Cx) (r : V → Hp → (Bool → Hp → Prop) → Prop) : Prop :=
  ∀ (pins : List (Addr × Obj)) (s : Shared) (σ : St) (H : Hp) (x : V) (v : Value) (Q : Bool → Hp → Prop), Inv X pins σ H s → RelV x v → r x H Q →
    wpAny (model X.prog X.w) X.A (truthy v) (TP X pins σ Q) X.xe s
def tOp (r : R2) (ta tb : TE) : TE := fun σ H Q => ta σ H fun x H1 => tb σ H1 fun y H2 => r x y H2 Q
def tUn (r : V → Hp → VK → Prop) (ta : TE) : TE := fun σ H Q => ta σ H fun x H1 => r x H1 Q
/-- ints in, under C, and a value out -/
def rI (C : Int → Int → Prop) (g : Int → Int → V) : R2 := fun x y H Q => ∃ i j, x = .int i ∧ y = .int j ∧ C i j ∧ Q (g i j) H
def rI0 (g : Int → Int → V) : R2 := fun x y H Q => ∃ i j, x = .int i ∧ y = .int j ∧ Q (g i j) H
def rU (g : Int → V) : V → Hp → VK → Prop := fun x H Q => ∃ i, x = .int i ∧ Q (g i) H
section
variable {X : Cx} {a b c : Expr} {ta tb tc : TE} {pos : Pos}
theorem binT (ha : PE X a ta) (hb : PE X b tb) {pins : List (Addr × Obj)} {s : Shared} {σ : St} {H : Hp} {R : V → V → Hp → Prop} (I : Inv X pins σ H s)
    (h : ta σ H fun x H1 => tb σ H1 fun y H2 => R x y H2) {Q : Value → Shared → Prop} {f : Value → Value → Sem Value}
    (hf : ∀ v u s2 x y H2, Inv X pins σ H2 s2 → RelV x v → RelV y u → R x y H2 → wpAny (model X.prog X.w) X.A (f v u) Q X.xe s2) :
    wpAny (model X.prog X.w) X.A (eval a X.env) (fun v s₁ => wpAny (model X.prog X.w) X.A (eval b X.env) (fun u s₂ => wpAny (model X.prog X.w) X.A (f v u) Q X.xe s₂) X.xe s₁) X.xe s := by
  refine thn (ha pins s σ H _ I h) fun v s1 ⟨x, H1, I1, r1, q1⟩ => ?_
  refine thn (hb pins s1 σ H1 _ I1 q1) fun u s2 ⟨y, H2, I2, r2, q2⟩ => ?_
  exact hf v u s2 x y H2 I2 r1 r2 q2
theorem pe_op {op : Operator} {r : R2} (ho : OpR X (binaryOp op) r) (ha : PE X a ta) (hb : PE X b tb) : PE X (.BinOp a op b pos) (tOp r ta tb) := by
  intro pins s σ H Q I h
  exact wpAny_BinOp (binT ha hb I h fun v u s2 x y H2 I2 rx ry q => ho pins s2 σ H2 x y v u Q I2 rx ry q)
theorem pe_un {op : UnaryOp} {r : V → Hp → VK → Prop} (ho : UnR X (unaryOp op) r) (ha : PE X a ta) : PE X (.UnaryOp op a pos) (tUn r ta) := by
  intro pins s σ H Q I h
  exact UnaryOp_ (thn (ha pins s σ H _ I h) fun v s1 ⟨x, H1, I1, r1, q1⟩ => ho pins s1 σ H1 x v Q I1 r1 q1)
/-! ### ints -/
theorem opI {f : Value → Value → Sem Value} {C : Int → Int → Prop} {g : Int → Int → Int}
    (rule : ∀ (i j : Int) (t u : Tok) (s : Shared) (Q : Value → Shared → Prop) (E : Value → Shared → Prop), C i j → Q (.int (g i j) s.toks) { s with toks := s.toks + 1 } → wpAny (model X.prog X.w) X.A (f (.int i t) (.int j u)) Q E s) :
    OpR X f (rI C fun i j => .int (g i j)) := by
  intro pins s σ H x y v u Q I rx ry h
  obtain ⟨i, j, rfl, rfl, hc, q⟩ := h
  obtain ⟨t, rfl⟩ := rx
  obtain ⟨t', rfl⟩ := ry
  exact rule i j t t' s _ _ hc ⟨.int (g i j), H, I.tok _, ⟨_, rfl⟩, q⟩
theorem opI0 {f : Value → Value → Sem Value} {g : Int → Int → Int}
    (rule : ∀ (i j : Int) (t u : Tok) (s : Shared) (Q : Value → Shared → Prop) (E : Value → Shared → Prop), Q (.int (g i j) s.toks) { s with toks := s.toks + 1 } → wpAny (model X.prog X.w) X.A (f (.int i t) (.int j u)) Q E s) :
    OpR X f (rI0 fun i j => .int (g i j)) := by
  intro pins s σ H x y v u Q I rx ry h
  obtain ⟨i, j, rfl, rfl, q⟩ := h
  obtain ⟨t, rfl⟩ := rx
  obtain ⟨t', rfl⟩ := ry
  exact rule i j t t' s _ _ ⟨.int (g i j), H, I.tok _, ⟨_, rfl⟩, q⟩
theorem opB0 {f : Value → Value → Sem Value} {g : Int → Int → Bool}
    (rule : ∀ (i j : Int) (t u : Tok) (s : Shared) (Q : Value → Shared → Prop) (E : Value → Shared → Prop), Q (.bool (g i j)) s → wpAny (model X.prog X.w) X.A (f (.int i t) (.int j u)) Q E s) :
    OpR X f (rI0 fun i j => .bl (g i j)) := by
  intro pins s σ H x y v u Q I rx ry h
  obtain ⟨i, j, rfl, rfl, q⟩ := h
  obtain ⟨t, rfl⟩ := rx
  obtain ⟨t', rfl⟩ := ry
  exact rule i j t t' s _ _ ⟨.bl (g i j), H, I, rfl, q⟩
def CMul (i j : Int) : Prop := (-(2 ^ 64) < i ∧ i < 2 ^ 64) ∨ (-(2 ^ 64) < j ∧ j < 2 ^ 64)
theorem CMul.ok {i j : Int} (h : CMul i j) : IntMulOk i j := by
  rcases h with ⟨h1, h2⟩ | ⟨h1, h2⟩
  · exact .of_left (intBits_le_64 h1 h2)
  · exact .of_right (intBits_le_64 h1 h2)
theorem op_add : OpR X (binaryOp .Add) (rI0 fun i j => .int (i + j)) := opI0 fun _ _ _ _ _ _ _ q => add_int q
theorem op_mul : OpR X (binaryOp .Mult) (rI CMul fun i j => .int (i * j)) := opI fun _ _ _ _ _ _ _ hc q => mul_int q hc.ok
/-- % by a positive divisor of any size -/
theorem op_mod : OpR X (binaryOp .Mod) (rI (fun _ j => 0 < j) fun i j => .int (i % j)) := opI fun i j _ _ _ _ _ hc q => by
  have h1 : (0 : Int) < j := hc
  exact mod_int' (by omega) (by rw [Int.fmod_eq_emod_of_nonneg i (by omega)]; exact q)
theorem unI {f : Value → Sem Value} {g : Int → Int}
    (rule : ∀ (i : Int) (t : Tok) (s : Shared) (Q : Value → Shared → Prop) (E : Value → Shared → Prop), Q (.int (g i) s.toks) { s with toks := s.toks + 1 } → wpAny (model X.prog X.w) X.A (f (.int i t)) Q E s) :
    UnR X f (rU fun i => .int (g i)) := by
  intro pins s σ H x v Q I rx h
  obtain ⟨i, rfl, q⟩ := h
  obtain ⟨t, rfl⟩ := rx
  exact rule i t s _ _ ⟨.int (g i), H, I.tok _, ⟨_, rfl⟩, q⟩
theorem un_neg : UnR X (unaryOp .USub) (rU fun i => .int (-i)) := unI fun _ _ _ _ _ q => neg_int q
/-! ### bools among ints: n += (a < b) -/
end
/-! ### comparisons -/
section
variable {X : Cx} {a b c : Expr} {ta tb tc : TE} {pos : Pos}
theorem fin_bl {pins : List (Addr × Obj)} {σ : St} {H : Hp} {s : Shared} {Q : VK} {k k' : Bool} (I : Inv X pins σ H s) (q : Q (.bl k) H) (e : k = k') : EP X pins σ Q (.bool k') s := by
  subst e
  exact ⟨.bl k, H, I, rfl, q⟩
theorem op_lt : OpR X (compareOp .Lt) (rI0 fun i j => .bl (decide (i < j))) := opB0 fun _ _ _ _ _ _ _ q => lt_int q
theorem op_le : OpR X (compareOp .LtE) (rI0 fun i j => .bl (decide (i ≤ j))) := opB0 fun _ _ _ _ _ _ _ q => le_int q
theorem op_gt : OpR X (compareOp .Gt) (rI0 fun i j => .bl (decide (j < i))) := opB0 fun _ _ _ _ _ _ _ q => gt_int q
/-- is None, is not None: the right side a value none -/
theorem op_isN : OpR X (compareOp .Is) (fun x y H Q => y = .non ∧ Q (.bl (decide (x = .non))) H) := by
  intro pins s σ H x y v u Q I rx ry h
  obtain ⟨rfl, q⟩ := h
  cases ry
  refine is_none_gen (fin_bl I q ?_)
  cases x <;> first
    | (cases rx; rfl)
    | (obtain ⟨t, rfl⟩ := rx; rfl)
/-- two rules for one operation: by cases -/
theorem OpR.or {f : Value → Value → Sem Value} {r r' : R2} (h : OpR X f r) (h' : OpR X f r') : OpR X f (fun x y H Q => r x y H Q ∨ r' x y H Q) := by
  intro pins s σ H x y v u Q I rx ry q
  rcases q with q | q
  · exact h pins s σ H x y v u Q I rx ry q
  · exact h' pins s σ H x y v u Q I rx ry q
theorem nomark (b : Expr) {op : CmpOp} (h : op ≠ .In := by decide) (h2 : op ≠ .NotIn := by decide) : behindInMarks op b = false := by
  have e1 : (op == CmpOp.In) = false := by cases op <;> first | rfl | exact absurd rfl h
  have e2 : (op == CmpOp.NotIn) = false := by cases op <;> first | rfl | exact absurd rfl h2
  cases b <;> simp [behindInMarks, e1, e2]
/-- a comparison as a value; hm: nomark b, or (for in, not in) by with_unfolding_all rfl -/
theorem pe_cmpR {op : CmpOp} {r : R2} (ho : OpR X (compareOp op) r) (ha : PE X a ta) (hb : PE X b tb) (hm : behindInMarks op b = false) : PE X (.Compare a [op] [b] pos) (tOp r ta tb) := by
  intro pins s σ H Q I h
  exact wpAny_Compare1 (binT ha hb I h fun v u s2 x y H2 I2 rx ry q => ho pins s2 σ H2 x y v u Q I2 rx ry q) hm
/-- a reading of a value as a test -/
def tTest (t : TE) : TT := fun σ H Q => t σ H fun x H' => ∃ k, x = .bl k ∧ Q k H'
theorem pt_cmpR {op : CmpOp} {r : R2} (ho : OpR X (compareOp op) r) (ha : PE X a ta) (hb : PE X b tb) (hm : behindInMarks op b = false) : PT X (.Compare a [op] [b] pos) (tTest (tOp r ta tb)) := by
  intro pins s σ H Q I h
  refine wpAny_isTrue_Compare1 (thn (ha pins s σ H _ I h) fun v s1 ⟨x, H1, I1, r1, q1⟩ => thn (hb pins s1 σ H1 _ I1 q1) fun u s2 ⟨y, H2, I2, r2, q2⟩ =>
    thn (ho pins s2 σ H2 x y v u _ I2 r1 r2 q2) fun c s3 ⟨z, H3, I3, r3, k, e, q3⟩ => ?_) hm
  subst e
  cases r3
  exact wpAny_truthy_bool ⟨H3, I3, q3⟩
/-! ### truth -/
/-- a value's truth by the abstract heap -/
def TruV (K : PySem.W.Frag) (x : V) (H : Hp) (k : Bool) : Prop :=
  match x with
  | .non => k = false
  | .bl b => k = b
  | .int i => k = (i != 0)
  | .str y => y.length ≤ sizeLine ∧ k = ((y.length : Int) != 0)
  | .byt y => y.size ≤ sizeLine ∧ k = ((y.size : Int) != 0)
  | .ref p => (∃ xs, SqL K H p xs ∧ k = !xs.isEmpty) ∨ (∃ xs, SqT K H p xs ∧ k = !xs.isEmpty) ∨ ∃ kvs, H p = some (.dK kvs) ∧ k = !kvs.isEmpty
  | _ => False
theorem isEmpty_kv {κ : Type} {kvs : List (κ × V)} {vs : List (κ × Value)} (r : KV kvs vs) : (!vs.isEmpty) = !kvs.isEmpty := by
  cases r <;> rfl
theorem isEmpty_of {xs : List V} {its : List Value} (r : Vals xs its) : (!its.toArray.isEmpty) = !xs.isEmpty := by
  cases r <;> simp
theorem line63 : (sizeLine : Nat) < 2 ^ 63 := by rw [sizeLine_eq]; decide
theorem tru_ok : TruR X (fun x H Q => ∃ k, TruV X.K x H k ∧ Q k H) := by
  intro pins s σ H x v Q I rx h
  obtain ⟨k, e, q⟩ := h
  have hl := line63
  have hs : sizeLine = 16777216 := sizeLine_eq
  cases x with
  | non =>
    cases rx
    have e' : k = false := e
    subst e'
    exact truthy_none ⟨H, I, q⟩
  | bl b =>
    cases rx
    have e' : k = b := e
    subst e'
    exact wpAny_truthy_bool ⟨H, I, q⟩
  | int i =>
    obtain ⟨t, rfl⟩ := rx
    have e' : k = (i != 0) := e
    subst e'
    exact PySem.P.truthy_int ⟨H, I, q⟩
  | str y =>
    obtain ⟨t, rfl⟩ := rx
    obtain ⟨hy, e'⟩ : y.length ≤ sizeLine ∧ k = ((y.length : Int) != 0) := e
    subst e'
    exact PySem.P.truthy_str (by omega) ⟨H, I.tok _, q⟩
  | byt y =>
    obtain ⟨t, rfl⟩ := rx
    obtain ⟨hy, e'⟩ : y.size ≤ sizeLine ∧ k = ((y.size : Int) != 0) := e
    subst e'
    exact PySem.W.truthy_bytes (by omega) ⟨H, I.tok _, q⟩
  | ref p =>
    cases rx
    have e' : (∃ xs, SqL X.K H p xs ∧ k = !xs.isEmpty) ∨ (∃ xs, SqT X.K H p xs ∧ k = !xs.isEmpty) ∨ ∃ kvs, H p = some (.dK kvs) ∧ k = !kvs.isEmpty := e
    rcases e' with ⟨xs, hx, e'⟩ | ⟨xs, hx, e'⟩ | ⟨kvs, hx, e'⟩
    · subst e'
      obtain ⟨its, r, pl, hz⟩ := I.list hx
      have hlen := r.length
      exact wpAny_truthy_list pl.isList (by simp only [List.size_toArray]; omega) ⟨H, I.tok _, by rw [isEmpty_of r]; exact q⟩
    · subst e'
      obtain ⟨its, r, pl, hz⟩ := I.tuple hx
      have hlen := r.length
      exact truthy_tuple pl (by simp only [List.size_toArray]; omega) ⟨H, I.tok _, by rw [isEmpty_of r]; exact q⟩
    · subst e'
      obtain ⟨hz, hS, vs, r, m⟩ : kvs.length ≤ sizeLine ∧ (p == sysModules) = false ∧ ∃ vs, KV kvs vs ∧ s.heap.DictOf (mixKind X.prog X.w) p vs := I.hok p _ hx
      have hlen : kvs.length = vs.length := Paired.length r
      exact wpAny_truthy_dict hS m (by omega) ⟨H, I.tok _, by rw [isEmpty_kv r]; exact q⟩
  | _ => exact (show False from e).elim
/-- any expression whose test is its value's truth (a name, a call, a subscript, a field ..: he by fun _ => rfl) -/
theorem pt_truth (ha : PE X a ta) (he : ∀ whole, isTrue a X.env whole = (do let v ← whole; standAt a.pos; holding [v] (truthy v))) :
    PT X a (fun σ H Q => ta σ H fun x H' => ∃ k, TruV X.K x H' k ∧ Q k H') := by
  intro pins s σ H Q I h
  exact isTrue_plain (thn (ha pins s σ H _ I h) fun v s1 ⟨x, H1, I1, r1, q1⟩ => tru_ok pins s1 σ H1 x v Q I1 r1 q1) (he _)
/-! ### strs and bytes -/
theorem op_add_str : OpR X (binaryOp .Add) (fun x y H Q => ∃ i j, x = .str i ∧ y = .str j ∧ i.length + j.length ≤ sizeLine ∧ Q (.str (i ++ j)) H) := by
  intro pins s σ H x y v u Q I rx ry h
  obtain ⟨i, j, rfl, rfl, hz, q⟩ := h
  obtain ⟨t, rfl⟩ := rx
  obtain ⟨t', rfl⟩ := ry
  exact add_str (fun t' tk => ⟨.str (i ++ j), H, I.tok _, ⟨_, rfl⟩, q⟩) hz
/-! ### scalar builtins, by CallR -/
theorem vals1 {x : V} {us : List Value} (r : Vals [x] us) : ∃ u, us = [u] ∧ RelV x u := by
  cases r with
  | cons r1 r2 => cases r2; exact ⟨_, rfl, r1⟩
theorem vals2 {x y : V} {us : List Value} (r : Vals [x, y] us) : ∃ u w', us = [u, w'] ∧ RelV x u ∧ RelV y w' := by
  cases r with
  | cons r1 r2 =>
    cases r2 with
    | cons r3 r4 => cases r4; exact ⟨_, _, rfl, r1, r3⟩
end
end L2
namespace L2
open PySem PySem.Spec PyProof.Rows
/-! ### an instance, its attributes a map -/
structure ObjM (h : Heap) (x dx C : Addr) (mA : Str → Option Value) : Prop where
  obj : h.get? x = some (PySem.W.instObj C dx)
  ns : h.Ns1 dx mA
  ne : dx ≠ x
theorem lookIn_ns {h : Heap} {dx : Addr} {mA : Str → Option Value} (n : h.Ns1 dx mA) : ∃ od, h.get? dx = some od ∧ ∀ name, PySem.W.lookIn name od = some (mA name) := by
  obtain ⟨o, es, ep, ho, hd, hk, _, hm⟩ := n
  refine ⟨o, ho, fun name => ?_⟩
  have e := hm name
  unfold nsFind findBy at e
  rw [← Array.find?_toList] at e
  unfold PySem.W.lookIn
  rw [hd]
  dsimp only
  split
  · rename_i y q
    rw [q] at e
    exact congrArg some e
  · rename_i q
    rw [q] at e
    have a : es.toList.any (·.refKey) = false := by
      rw [List.any_eq_false]
      intro y hy
      obtain ⟨z, t, hkey⟩ := hk y (Array.mem_toList_iff.mp hy)
      simp [DictEntry.refKey, hkey]
    have a' : ¬ es.toList.any (·.refKey) = true := by rw [a]; exact Bool.false_ne_true
    rw [if_neg a']
    exact congrArg some e
theorem ObjM.look {h : Heap} {x dx C : Addr} {mA : Str → Option Value} (I : ObjM h x dx C mA) : ∃ od, PySem.W.InstAt h x (PySem.W.instObj C dx) C (some od) ∧ ∀ name, PySem.W.lookIn name od = some (mA name) :=
  let ⟨od, ho, hl⟩ := lookIn_ns I.ns
  ⟨od, ⟨I.obj, rfl, rfl, ho⟩, hl⟩
section
variable {prog : Program} {w : World} {A : Around} {E : Value → Shared → Prop} {s : Shared} {K : PySem.W.Frag} {x dx C f : Addr} {mA : Str → Option Value} {name : Str} {v : Value}
end
/-! ### the attributes as a list of pairs -/
section
variable {P : Program} {w : World} {H H' : Hp} {h h' : Heap} {a C dx : Addr} {fs fs' : List (Str × V)}
theorem ins_get (hok : HOk P w H h) (e : H a = some (.ins C dx fs)) : ∃ mA, ObjM h a dx C mA ∧ (∀ f, RelO (fs.lookup f) (mA f)) ∧ PySem.Within mA (fs.map (·.1)) ∧ fs.length ≤ 1000 ∧ H dx = some (.own a) := by
  obtain ⟨d, z, ne, ob, mA, n, r, q⟩ := (show ObjOk P w H h a (.ins C dx fs) from hok a _ e)
  exact ⟨mA, ⟨ob, n, ne⟩, r, q, z, d⟩
end
/-! ### what of the text a class must have -/
structure Cls (K : PySem.W.Frag) (C : Addr) : Prop where
  pg : PySem.W.plainGet K C Str.empty = true
  hd : PySem.W.hasDictIn K C = true
  po : PySem.W.plainOver K C = true
  sa : PySem.W.findIn K (.ref C) "__setattr__" = some (some (.builtin "object.__setattr__"))
theorem Cls.get {K : PySem.W.Frag} {C : Addr} (c : Cls K C) (f : Str) : PySem.W.plainGet K C f = true := c.pg
/-- a constant of the class -/
structure Con (K : PySem.W.Frag) (C : Addr) (f : Str) (v : V) (u : Value) : Prop where
  at_ : PySem.W.findIn K (.ref C) f = some (some u)
  rel : RelV v u
  get : PySem.W.specialIn K u "__get__" = some none
  cp : PySem.W.copiedNames.contains f = false
/-- a method: a plain def of the class or of one above it -/
structure Meth (K : PySem.W.Frag) (C : Addr) (m : Str) (f : Addr) : Prop where
  at_ : PySem.W.findIn K (.ref C) m = some (some (.ref f))
  fn : PySem.W.isFn K (.ref f) = true
  kp : PySem.W.keepIn K (.ref f) = true
section
variable {X : Cx} {pins : List (Addr × Obj)} {σ : St} {H : Hp} {s : Shared} {a C dx : Addr} {fs : List (Str × V)} {f : Str} {v : V} {A : Around} {E : Value → Shared → Prop}
/-- e.f where nothing but the object is asked: through attributeBase (super) and the last hold -/
theorem attr_of {prog : Program} {w : World} {env : Env} {e : Expr} {f : Str} {pos : Pos} {s : Shared} {Q : Value → Shared → Prop} (hb : attributeBase e f env (eval e env) = eval e env)
    (h : wpAny (model prog w) A (eval e env) (fun o s₁ => wpAny (model prog w) A (getAttr o f true) Q E s₁) E s) : wpAny (model prog w) A (eval (.Attribute e f pos) env) Q E s :=
  Attribute_any_ h (by rw [arm_eval_Attribute, hb])
end
/-! ### readings and rules -/
section
variable {X : Cx} {o e value : Expr} {f : Str} {pos pos' tpos : Pos} {ta tv : TE}
end
/-! ### isinstance -/
section
variable {X : Cx} {pins : List (Addr × Obj)} {σ : St} {H : Hp} {s : Shared} {A : Around} {E : Value → Shared → Prop} {Q : Value → Shared → Prop} {c : Value} {b : Bool}
/-- the type of a value, as the fragment's deciders take it; for an instance its class -/
inductive TyOf (K : PySem.W.Frag) (H : Hp) : V → Value → Prop where
  | non : TyOf K H .non (.type "NoneType")
  | bl (x : Bool) : TyOf K H (.bl x) (.type "bool")
  | int (i : Int) : TyOf K H (.int i) (.type "int")
  | str (x : Str) : TyOf K H (.str x) (.type "str")
  | flt (x : UInt64) : TyOf K H (.flt x) (.type "float")
  | lst {a : Addr} {xs : List V} (e : H a = some (.lst xs)) : TyOf K H (.ref a) (.type "list")
  | frz {a : Addr} {o : Obj} {xs : List V} (e : H a = some (.frz o (.lst xs))) : TyOf K H (.ref a) (.type "list")
  | tup {a : Addr} {xs : List V} (e : H a = some (.tup xs)) : TyOf K H (.ref a) (.type "tuple")
  | dK {a : Addr} {kvs : List (Key × V)} (e : H a = some (.dK kvs)) : TyOf K H (.ref a) (.type "dict")
  | dT {a : Addr} {kvs : List (List Key × V)} (e : H a = some (.dT kvs)) : TyOf K H (.ref a) (.type "dict")
  | ins {a C dx : Addr} {fs : List (Str × V)} (e : H a = some (.ins C dx fs)) (cl : Cls K C) (ha : PySem.W.findIn K (.ref C) "__class__" = some (some (.builtin "object.__class__")))
      (hn : PySem.W.specialIn K (.builtin "object.__class__") "__get__" = some (some (.builtin "getset_descriptor.__get__"))) (htk : PySem.W.takesIn K (.builtin "object.__class__") = some true)
      (hm : PySem.W.mroIn K C (.type "object") = some true) : TyOf K H (.ref a) (.ref C)
/-- isinstance(x, c) for one class c, a built-in or an own one: kitOne's answer -/
theorem isinst_ok {x : V} {u t : Value} (I : Inv X pins σ H s) (rx : RelV x u) (ty : TyOf X.K H x t) (e : PySem.W.kitOne X.K t c = some b) (h : ∀ tk, Q (.bool b) { s with toks := tk }) :
    wpAny (model X.prog X.w) A (call (.builtin "isinstance") [u, c]) Q E s := by
  cases ty with
  | non => cases (show u = Value.none from rx); exact PySem.W.kia_one PySem.W.kitx_none I.kIn True.intro e (fun z => nomatch z) h
  | bl y => cases (show u = Value.bool y from rx); exact PySem.W.kia_one PySem.W.kitx_bool I.kIn True.intro e (fun z => nomatch z) h
  | int i => obtain ⟨t, q⟩ := (show ∃ t, u = Value.int i t from rx); cases q; exact PySem.W.kia_one PySem.W.kitx_int I.kIn True.intro e (fun z => nomatch z) h
  | str y => obtain ⟨t, q⟩ := (show ∃ t, u = Value.str y t from rx); cases q; exact PySem.W.kia_one PySem.W.kitx_str I.kIn True.intro e (fun z => nomatch z) h
  | flt y => obtain ⟨t, q⟩ := (show ∃ t, u = Value.float y t from rx); cases q; exact PySem.W.kia_one PySem.W.kitx_float I.kIn True.intro e (fun z => nomatch z) h
  | @lst a xs ea =>
    cases (show u = Value.ref a from rx)
    obtain ⟨_, _, n, _, h1⟩ := (show ObjOk X.prog X.w H s.heap a (.lst xs) from I.hok a _ ea)
    exact PySem.W.kia_one PySem.W.kitx_list I.kIn ⟨_, h1, rfl⟩ e (fun z => nomatch z) h
  | @frz a ob xs ea =>
    cases (show u = Value.ref a from rx)
    obtain ⟨_, _, _, n, _, h1⟩ := (show ObjOk X.prog X.w H s.heap a (.frz ob (.lst xs)) from I.hok a _ ea)
    exact PySem.W.kia_one PySem.W.kitx_list I.kIn ⟨_, h1, rfl⟩ e (fun z => nomatch z) h
  | @tup a xs ea =>
    cases (show u = Value.ref a from rx)
    obtain ⟨_, _, _, p⟩ := (show ObjOk X.prog X.w H s.heap a (.tup xs) from I.hok a _ ea)
    obtain ⟨o, h1, h2, _⟩ := p
    exact PySem.W.kia_one PySem.W.kitx_tuple I.kIn ⟨o, h1, h2⟩ e (fun z => nomatch z) h
  | @dK a kvs ea =>
    cases (show u = Value.ref a from rx)
    obtain ⟨_, _, vs, _, p⟩ := (show ObjOk X.prog X.w H s.heap a (.dK kvs) from I.hok a _ ea)
    obtain ⟨o, es, ep, h1, h2, _⟩ := p
    exact PySem.W.kia_one PySem.W.kitx_dict I.kIn ⟨o, h1, h2.1⟩ e (fun z => nomatch z) h
  | @dT a kvs ea =>
    cases (show u = Value.ref a from rx)
    obtain ⟨_, _, xs, _, o, es, ep, h1, h2, _⟩ := (show ObjOk X.prog X.w H s.heap a (.dT kvs) from I.hok a _ ea)
    exact PySem.W.kia_one PySem.W.kitx_dict I.kIn ⟨o, h1, h2.1⟩ e (fun z => nomatch z) h
  | @ins a C dx fs ea cl ha hn htk hm =>
    cases (show u = Value.ref a from rx)
    obtain ⟨mA, O, _⟩ := ins_get I.hok ea
    obtain ⟨od, J, _⟩ := O.look
    exact PySem.W.kia_one (PySem.W.kitx_own (cl.get _) cl.hd ha hn htk hm) I.kIn J e (fun z => nomatch z) h
end
end L2
namespace L2
open PySem PySem.Spec PyProof.Rows
/-! ### room -/
structure Room (k : Nat) (A : Around) : Prop where
  hd : A.handled = none
  dp : A.depth + 3 * k + 5 < recursionLimit
  un : A.units + 16 * k + 200 < cLine
theorem Room.mono {j k : Nat} {A : Around} (r : Room k A) (h : j ≤ k) : Room j A := ⟨r.hd, by have := r.dp; omega, by have := r.un; omega⟩
theorem Room.deeper {k : Nat} {A : Around} (r : Room (k + 1) A) (env : Env) : Room k (A.deeper env) :=
  ⟨r.hd, by have := r.dp; show A.depth + 1 + 3 * k + 5 < _; omega, by have := r.un; show A.units + 3 + 16 * k + 200 < _; omega⟩
theorem make_depth {A : Around} {C : Addr} {us : List Value} {kw : List (Str × Value)} : (A.under (.builtin "type.__call__" ⟨.ref C :: us, kw⟩)).depth = A.depth + 1 := by
  first | rfl | simp [Around.under, Code.weight, Code.isCreation, Code.isGuard, Code.isCaller, Code.frames, Code.isFrame, guardIds]
theorem make_units {A : Around} {C : Addr} {us : List Value} {kw : List (Str × Value)} : (A.under (.builtin "type.__call__" ⟨.ref C :: us, kw⟩)).units = A.units + 1 := by
  first | rfl | simp [Around.under, Code.cUnits, Code.frames, Code.isFrame]
theorem Room.make {k : Nat} {A : Around} (r : Room (k + 1) A) (C : Addr) (us : List Value) (kw : List (Str × Value)) : Room k (A.under (.builtin "type.__call__" ⟨.ref C :: us, kw⟩)) :=
  ⟨r.hd, by have := r.dp; rw [make_depth]; omega, by have := r.un; rw [make_units]; omega⟩
theorem Room.depth {k : Nat} {A : Around} (r : Room k A) : A.depth < recursionLimit := by have := r.dp; omega
/-! ### argument lists and displays -/
def tNil : TA := fun _ H Q => Q [] H
def tCons (ta : TE) (tr : TA) : TA := fun σ H Q => ta σ H fun x H1 => tr σ H1 fun xs H2 => Q (x :: xs) H2
section
variable {X : Cx} {e : Expr} {es : List Expr} {te : TE} {t : TA} {pos : Pos}
theorem pa_nil : PA X [] tNil := fun _ _ _ _ H Q I h => Calls.spliced_nil ⟨[], H, I, .nil, h⟩
theorem pa_cons (ha : PE X e te) (hr : PA X es t) (hs : starEach (e :: es) X.env = (false, eval e X.env) :: starEach es X.env := by rfl) : PA X (e :: es) (tCons te t) := by
  intro pos pins s σ H Q I h
  rw [hs]
  show wpAny _ _ (spliced ((false, eval e X.env) :: backTo pos (starEach es X.env))) _ _ s
  refine Calls.spliced_cons (thn (ha pins s σ H _ I h) fun u s1 ⟨x, H1, I1, r1, q1⟩ => ?_)
  exact thn (hr pos pins s1 σ H1 _ I1 q1) fun us s2 ⟨xs, H2, I2, r2, q2⟩ => ⟨x :: xs, H2, I2, .cons r1 r2, q2⟩
/-- a tuple, a list of written items -/
def tTup (t : TA) : TE := fun σ H Q => t σ H fun xs H1 => xs.length ≤ sizeLine ∧ ∀ p, H1 p = none → Q (.ref p) (upd H1 p (.tup xs))
def tLst (t : TA) : TE := fun σ H Q => t σ H fun xs H1 => xs.length ≤ sizeLine ∧ ∀ p, H1 p = none → Q (.ref p) (upd H1 p (.lst xs))
theorem pe_tup {x1} (h : PA X es t) : PE X (.Tuple es x1 pos) (tTup t) := by
  intro pins s σ H Q I hq
  refine wpAny_Tuple_spliced (thn (h pos pins s σ H _ I hq) fun us s1 ⟨xs, H1, I1, r, z, q⟩ => ⟨by rw [← r.length]; exact z, ?_⟩)
  have hf : H1 s1.heap.objs.size = none := I1.hok.fresh (Nat.le_refl _)
  refine ⟨.ref s1.heap.objs.size, upd H1 s1.heap.objs.size (.tup xs), I1.laid (t' := s1.toks) (fun b u e => Heap.get?_push_of_some _ e) (Nat.le_refl _) ?_, rfl, q _ hf⟩
  exact ⟨z, us, r, ⟨_, Heap.get?_push_size _ rfl, rfl, _, rfl⟩⟩
theorem pe_lst (h : PA X es t) : PE X (.List es pos) (tLst t) := by
  intro pins s σ H Q I hq
  refine wpAny_List_spliced (thn (h pos pins s σ H _ I hq) fun us s1 ⟨xs, H1, I1, r, z, q⟩ => ⟨by rw [← r.length]; exact z, ?_⟩)
  have hf : H1 s1.heap.objs.size = none := I1.hok.fresh (Nat.le_refl _)
  refine ⟨.ref s1.heap.objs.size, upd H1 s1.heap.objs.size (.lst xs), I1.laid (t' := s1.toks) (fun b u e => Heap.get?_push_of_some _ e) (Nat.le_refl _) ?_, rfl, q _ hf⟩
  exact ⟨z, us, 0, r, Heap.get?_push_size _ rfl⟩
end
/-! ### what a def promises -/
/-- a def's promise: the bound arguments in the parameters' order, the heap, the wanted end, the wanted exception -/
abbrev Sp := List V → Hp → VK → XK → Prop
/-- how an exception lies behind a call (file 08 gives it): the callers' frames, abstract heap and state ahead of the call, the wish, the exception, the state -/
abbrev CXT := List Env → Hp → Shared → XK → Value → Shared → Prop
/-- the state at a call -/
structure Env0 (P : Program) (w : World) (K : PySem.W.Frag) (mg : Str → Option Value) (base : Heap) (A : Around) (outer : List Env) (s : Shared) (H : Hp) : Prop where
  frames : A.frames = some outer
  mod : Mod K mg base
  bs : ∀ b o, base.get? b = some o → s.heap.get? b = some o ∧ H b = none
  bsz : base.objs.size ≤ s.heap.objs.size
  funs : s.heap.FunFrames base outer
  frf : ∀ b ∈ frs outer, H b = none
  hok : HOk P w H s.heap
  bare : AllBare s.gens
/-- a call's end -/
def CE (outer : List Env) (P : Program) (w : World) (H : Hp) (s : Shared) (Q : VK) (u : Value) (s' : Shared) : Prop :=
  ∃ v H', s'.os = s.os ∧ AllBare s'.gens ∧ Un (frs outer) [] H H' s.heap s'.heap ∧ HOk P w H' s'.heap ∧ RelV v u ∧ Q v H'
def CR (CX : CXT) (outer : List Env) (P : Program) (w : World) (H : Hp) (s : Shared) (Q : VK) (E : XK) (r : Result) (s' : Shared) : Prop :=
  match r with
  | .ok (.ret u) => CE outer P w H s Q u s'
  | .ok _ => False
  | .error e => CX outer H s E e s'
structure FnOk (P : Program) (w : World) (K : PySem.W.Frag) (mg : Str → Option Value) (base : Heap) (CX : CXT) (k : Nat) (f : Addr) (fd : FuncData) (ps : List Str) (sp : Sp) : Prop where
  len : ∀ vs H Q E, sp vs H Q E → vs.length = ps.length
  run : ∀ (A : Around) (outer : List Env) (s : Shared) (H : Hp) (args : Args) (us : List Value) (vs : List V) (Q : VK) (E : XK), Room k A → Env0 P w K mg base A outer s H → BindsTo s fd args (ps.zip us) → Vals vs us → sp vs H Q E →
    codeAny (model P w) A (.call (.ref f) args) (CR CX outer P w H s Q E) s
theorem FnOk.mono {P : Program} {w : World} {K : PySem.W.Frag} {mg : Str → Option Value} {base : Heap} {CX : CXT} {j k : Nat} {f : Addr} {fd : FuncData} {ps : List Str} {sp : Sp} (F : FnOk P w K mg base CX j f fd ps sp) (h : j ≤ k) :
    FnOk P w K mg base CX k f fd ps sp := ⟨F.len, fun A outer s H args us vs Q E hr => F.run A outer s H args us vs Q E (hr.mono h)⟩
/-- a weaker promise -/
theorem FnOk.imp {P : Program} {w : World} {K : PySem.W.Frag} {mg : Str → Option Value} {base : Heap} {CX : CXT} {k : Nat} {f : Addr} {fd : FuncData} {ps : List Str} {sp sp' : Sp} (F : FnOk P w K mg base CX k f fd ps sp)
    (h : ∀ vs H Q E, sp' vs H Q E → sp vs H Q E) : FnOk P w K mg base CX k f fd ps sp' :=
  ⟨fun vs H Q E q => F.len vs H Q E (h _ _ _ _ q), fun A outer s H args us vs Q E hr he hb hv hs => F.run A outer s H args us vs Q E hr he hb hv (h _ _ _ _ hs)⟩
theorem Env0.make {P : Program} {w : World} {K : PySem.W.Frag} {mg : Str → Option Value} {base : Heap} {A : Around} {outer : List Env} {s : Shared} {H : Hp} (e : Env0 P w K mg base A outer s H) (C : Addr) (us : List Value) (kw : List (Str × Value)) :
    Env0 P w K mg base (A.under (.builtin "type.__call__" ⟨.ref C :: us, kw⟩)) outer s H := ⟨by first | exact e.frames | (simpa [Around.under, Code.envs, Code.isFrame, pushEnvs] using e.frames), e.mod, e.bs, e.bsz, e.funs, e.frf, e.hok, e.bare⟩
section
variable {X : Cx} {pins : List (Addr × Obj)} {σ : St} {H : Hp} {s s' : Shared}
/-- from a body: what a callee wants -/
theorem Inv.env0 (I : Inv X pins σ H s) : Env0 X.prog X.w X.K X.mg X.base X.A X.stack s H :=
  ⟨I.ok.frames, I.ok.mod, I.bs, Nat.le_trans I.ok.bsz I.sz, I.stack, I.stkFree, I.hok, I.bare⟩
/-- behind a call -/
theorem Inv.after {Q : VK} {u : Value} (I : Inv X pins σ H s) (h : CE X.stack X.prog X.w H s Q u s') : EP X pins σ Q u s' := by
  obtain ⟨v, H', os, bare, un, hok, r, q⟩ := h
  obtain ⟨hh, g, d, t, os'⟩ := s'
  obtain rfl : os' = s.os := os
  exact ⟨v, H', I.call (h' := hh) (g' := g) (d' := d) (t' := t) (ch := []) un hok bare (fun b z => absurd z (by simp)), r, q⟩
end
/-! ### calls -/
/-- f(..): the written arguments, then the defaults dvs; E: what is wanted of an exception -/
def tCall (sp : Sp) (dvs : List V) (E : XK) (t : TA) : TE := fun σ H Q => t σ H fun vs H1 => sp (vs ++ dvs) H1 Q E
/-- how the parameters are bound: us the positional arguments, kw the keywords' values by name, ds the defaults that fill up -/
def Binds (K : PySem.W.Frag) (fd : FuncData) (ps : List Str) (ds : List Value) : Prop :=
  ∀ (s : Shared) (us : List Value), K.In s.heap → (us ++ ds).length = ps.length → BindsTo s fd ⟨us, []⟩ (ps.zip (us ++ ds))
/-- every parameter is given -/
theorem Binds.all {K : PySem.W.Frag} {fd : FuncData} {ps : List Str} (h : ∀ us : List Value, us.length = ps.length → bindArgs fd ⟨us, []⟩ = pure (ps.zip us)) : Binds K fd ps [] := fun s us _ hl => by
  rw [List.append_nil] at hl ⊢
  exact .of_eq (h us hl)
/-- an exception of a callee reaches what this body wants of exceptions -/
def Passes (CX : CXT) (X : Cx) (E : XK) : Prop := ∀ (pins : List (Addr × Obj)) (σ : St) (H : Hp) (s : Shared) (e : Value) (s' : Shared), Inv X pins σ H s → CX X.stack H s E e s' → X.xe e s'
section
variable {X : Cx} {CX : CXT} {k : Nat} {f C : Addr} {fd : FuncData} {ps : List Str} {sp : Sp} {dvs : List V} {ds : List Value} {E : XK} {x m : Str} {p pos apos : Pos} {e o : Expr} {es : List Expr} {ta : TE} {t : TA}
/-- the callee runs -/
theorem run_fn {pins : List (Addr × Obj)} {σ : St} {H : Hp} {s : Shared} {Q : VK} {us : List Value} {vs : List V} (F : FnOk X.prog X.w X.K X.mg X.base CX k f fd ps sp) (hr : Room k X.A) (hb : Binds X.K fd ps ds) (hd : Vals dvs ds) (hx : Passes CX X E)
    (I : Inv X pins σ H s) (r : Vals vs us) (h : sp (vs ++ dvs) H Q E) : wpAny (model X.prog X.w) X.A (call (.ref f) us) (EP X pins σ Q) X.xe s := by
  have r2 : Vals (vs ++ dvs) (us ++ ds) := r.append hd
  have hl : (us ++ ds).length = ps.length := by rw [← r2.length]; exact F.len _ _ _ _ h
  refine wpAny_call (codeAny_mono (F.run X.A X.stack s H ⟨us, []⟩ (us ++ ds) (vs ++ dvs) Q E hr I.env0 (hb s us I.kIn hl) r2 h) fun r s' hq => ?_)
  cases r with
  | error e => exact hx pins σ H s e s' I hq
  | ok fl =>
    cases fl with
    | ret u => exact I.after hq
    | next => exact False.elim hq
    | brk => exact False.elim hq
    | cont => exact False.elim hq
theorem pe_call (F : FnOk X.prog X.w X.K X.mg X.base CX k f fd ps sp) (hr : Room k X.A) (hg : Gl X x) (hm : X.mg x = some (.ref f)) (hk : PySem.W.keepIn X.K (.ref f) = true) (hb : Binds X.K fd ps ds) (hd : Vals dvs ds) (hx : Passes CX X E)
    (ha : PA X (e :: es) t) (hdb : (x == ("__debug__" : Str)) = false := by decide) (he : starEach (e :: es) X.env = (false, eval e X.env) :: starEach es X.env := by rfl) (hpl : (backTo pos (starEach es X.env)).any (·.1) = false := by rfl) :
    PE X (.Call (.Name x p) (e :: es) [] pos) (tCall sp dvs E t) := by
  intro pins s σ H Q I h
  refine wpAny_Call_Name_kw (ld_glob I hg hm ?_ hdb)
  refine PySem.W.callWith_K (h₀ := X.base) I.ok.mod.kin hk (thn (ha pos pins s σ H _ I h) fun us s1 ⟨vs, H1, I1, r, q⟩ => ⟨I1.kIn, ?_⟩) he hpl
  exact run_fn F hr hb hd hx I1 r q
/-- what a class must have to be made -/
structure Mk (K : PySem.W.Frag) (C f : Addr) : Prop where
  makes : PySem.W.makesIn K C = true
  init : PySem.W.findIn K (.ref C) "__init__" = some (some (.ref f))
  fn : PySem.W.isFn K (.ref f) = true
  kp : PySem.W.keepIn K (.ref C) = true
end
/-! ### keywords -/
section
variable {X : Cx} {CX : CXT} {k : Nat} {f C : Addr} {fd : FuncData} {ps ks : List Str} {sp : Sp} {E : XK} {x m : Str} {p pos apos kpos : Pos} {e o : Expr} {es : List Expr} {kws : List Keyword} {te ta : TE} {t tk : TA} {nm : Option Str}
/-- how a call with keywords binds: g puts the positional values us and the keywords' values ws (names ks) in the parameters' order, defaults among them -/
structure KBinds (K : PySem.W.Frag) (fd : FuncData) (ps ks : List Str) (g : List Value → List Value → List Value) (gV : List V → List V → List V) : Prop where
  to : ∀ (s : Shared) (us ws : List Value), K.In s.heap → (g us ws).length = ps.length → BindsTo s fd ⟨us, ks.zip ws⟩ (ps.zip (g us ws))
  rel : ∀ {vs : List V} {us : List Value} {zs : List V} {ws : List Value}, Vals vs us → Vals zs ws → Vals (gV vs zs) (g us ws)
variable {g : List Value → List Value → List Value} {gV : List V → List V → List V}
end
/-! ### a def's body keeps its promise -/
/-- names: the parameters first -/
structure FnScope (N P : List Str) (sc : Scope) : Prop where
  kind : sc.kind = .function
  co : sc.isCoroutine = false
  gen : sc.isGenerator = false
  nd : N.Nodup
  pre : N.take P.length = P
  par : ∀ x ∈ P, sc.names.lookup x = some .local ∨ sc.names.lookup x = some .cell
  nofree : ∀ y ∈ sc.names, y.2 ≠ .free
theorem bindL_out {kindOf : Str → Option NameKind} {x : Str} : ∀ {binds : List (Str × Value)} {m : Str → Option Value}, (∀ v, (x, v) ∉ binds) → bindL kindOf binds m x = m x
  | [], _, _ => rfl
  | (n, v) :: r, m, h => by
    unfold bindL
    rw [bindL_out fun w hw => h w (List.mem_cons_of_mem _ hw)]
    split
    · have : x ≠ n := by rintro rfl; exact h v List.mem_cons_self
      simp [this]
    · rfl
theorem bindC_out {kindOf : Str → Option NameKind} {x : Str} : ∀ {binds : List (Str × Value)} {m : Str → Option Value}, (∀ v, (x, v) ∉ binds) → bindC kindOf binds m x = m x
  | [], _, _ => rfl
  | (n, v) :: r, m, h => by
    unfold bindC
    rw [bindC_out fun w hw => h w (List.mem_cons_of_mem _ hw)]
    split
    · rfl
    · have : x ≠ n := by rintro rfl; exact h v List.mem_cons_self
      simp [this]
theorem bindL_get {kindOf : Str → Option NameKind} {x : Str} {v : Value} : ∀ {P : List Str} {vs : List Value} {i : Nat} {m : Str → Option Value}, P.Nodup → P[i]? = some x → vs[i]? = some v → kindOf x = some .local →
    bindL kindOf (P.zip vs) m x = some v
  | [], _, _, _, _, h, _, _ => by simp at h
  | _ :: _, [], _, _, _, _, h, _ => by simp at h
  | p :: P, w :: vs, 0, m, nd, h1, h2, hk => by
    simp at h1 h2; subst h1; subst h2
    show bindL kindOf ((p, w) :: P.zip vs) m p = _
    unfold bindL
    rw [bindL_out fun v hv => (List.nodup_cons.mp nd).1 (List.of_mem_zip hv).1, if_pos hk]
    simp
  | p :: P, w :: vs, i + 1, m, nd, h1, h2, hk => by
    show bindL kindOf ((p, w) :: P.zip vs) m x = _
    unfold bindL
    exact bindL_get (i := i) (List.nodup_cons.mp nd).2 (by simpa using h1) (by simpa using h2) hk
theorem bindC_get {kindOf : Str → Option NameKind} {x : Str} {v : Value} : ∀ {P : List Str} {vs : List Value} {i : Nat} {m : Str → Option Value}, P.Nodup → P[i]? = some x → vs[i]? = some v → kindOf x ≠ some .local →
    bindC kindOf (P.zip vs) m x = some v
  | [], _, _, _, _, h, _, _ => by simp at h
  | _ :: _, [], _, _, _, _, h, _ => by simp at h
  | p :: P, w :: vs, 0, m, nd, h1, h2, hk => by
    simp at h1 h2; subst h1; subst h2
    show bindC kindOf ((p, w) :: P.zip vs) m p = _
    unfold bindC
    rw [bindC_out fun v hv => (List.nodup_cons.mp nd).1 (List.of_mem_zip hv).1, if_neg hk]
    simp
  | p :: P, w :: vs, i + 1, m, nd, h1, h2, hk => by
    show bindC kindOf ((p, w) :: P.zip vs) m x = _
    unfold bindC
    exact bindC_get (i := i) (List.nodup_cons.mp nd).2 (by simpa using h1) (by simpa using h2) hk
/-- the names' values at the entry -/
def start (N : List Str) (vs : List V) : St := vs.map some ++ List.replicate (N.length - vs.length) none
/-- the context of a def's body, at its entry; an exception leaves the frame, then lies as CX says -/
def cxOf (CX : CXT) (P : Program) (w : World) (K : PySem.W.Frag) (mg : Str → Option Value) (base : Heap) (N : List Str) (qual : Str) (scope : Scope) (f : Addr) (cd : Value) (A : Around) (outer : List Env) (s : Shared) (H : Hp) (E : XK) : Cx where
  prog := P
  w := w
  K := K
  mg := mg
  base := base
  A := A.deeper (envOfC qual scope s.heap.objs.size f cd)
  N := N
  s₀ := s
  H₀ := H
  env := envOfC qual scope s.heap.objs.size f cd
  outer := outer
  stack := envOfC qual scope s.heap.objs.size f cd :: outer
  ex := []
  calm := true
  fn := fun _ => true
  pn := []
  xe := fun e s' => wpAny (model P w) (A.deeper (envOfC qual scope s.heap.objs.size f cd)) (leaving (envOfC qual scope s.heap.objs.size f cd) e) (fun _ s'' => CX outer H s E e s'') (fun e' s'' => CX outer H s E e' s'') s'
theorem cell_has {sc : Scope} {n : Nat} {x : Str} (h : sc.names.lookup x = some .cell) : ∃ c, (cellsFrom n sc.names []).lookup x = some c := by
  have q := PySem.W.cellsFrom_some sc.names n [] (.inl h)
  exact Option.isSome_iff_exists.mp q
theorem inv_start {CX : CXT} {P : Program} {w : World} {K : PySem.W.Frag} {mg : Str → Option Value} {base : Heap} {N ps : List Str} {qual : Str} {scope : Scope} {f : Addr} {cd : Value} {A : Around} {outer : List Env} {s s1 : Shared} {H : Hp} {E : XK} {us : List Value} {vs : List V}
    (S : FnScope N ps scope) (hd : A.handled = none) (e0 : Env0 P w K mg base A outer s H) (hl : vs.length = ps.length) (r : Vals vs us)
    (x : InCallC s s.heap.objs.size (bindL (envOfC qual scope s.heap.objs.size f cd).kindOf (ps.zip us) fun _ => none) (cellsFrom (s.heap.objs.size + 1) scope.names []) (bindC (envOfC qual scope s.heap.objs.size f cd).kindOf (ps.zip us) fun _ => none) s1) :
    Inv (cxOf CX P w K mg base N qual scope f cd A outer s H E) [] (start N vs) H s1 := by
  have hpl : ps.length ≤ N.length := by have := congrArg List.length S.pre; rw [List.length_take] at this; omega
  obtain ⟨h1, tk, rfl, hk⟩ := x.done
  have noA : ∀ b : Addr, b ∉ (cxOf CX P w K mg base N qual scope f cd A outer s H E).ex := fun b z => absurd (show b ∈ ([] : List Addr) from z) (by simp)
  refine ⟨⟨e0.mod, S.kind, rfl, rfl, Nat.le_refl _, fun y z c h1 h2 => ?_, fun y hy => ?_, fun y c _ h => ?_, fun _ => hd, Around.frames_deeper e0.frames, .inr ⟨rfl, rfl⟩, fun b z => absurd z (noA b), e0.bs, e0.bsz, fun b _ _ => noA b, fun b z => absurd z (noA b), e0.funs, e0.frf⟩,
    rfl, e0.bare, Un.kept hk, ⟨_, x.toInCall.ns, fun i y v h1 h2 h3 => ?_⟩, fun y c h => ⟨_, x.cell y c h⟩, e0.hok.fresh (Nat.le_refl _), fun y c h => ?_, fun p hp => absurd (show p ∈ ([] : List (Addr × Obj)) from hp) (by simp), e0.hok.kept hk, ?_⟩
  · exact name_of_addr x.apart (PySem.mem_of_lookup h1) (PySem.mem_of_lookup h2)
  · have hy : scope.names.lookup y = some .cell ∨ scope.names.lookup y = some .free := hy
    rcases hy with hy | hy
    · exact cell_has hy
    · exact absurd rfl (S.nofree _ (PySem.mem_of_lookup hy))
  · exact Nat.le_of_lt (x.above y c (PySem.mem_of_lookup h))
  · have hi : i < vs.length := by
      unfold start at h2
      by_cases hi : i < vs.length
      · exact hi
      · rw [List.getElem?_append_right (by simpa using hi)] at h2
        rw [List.getElem?_replicate] at h2
        split at h2 <;> cases h2
    have ha : vs[i]? = some v := by
      unfold start at h2
      rw [List.getElem?_append_left (by simpa using hi), List.getElem?_map] at h2
      cases e : vs[i]? with
      | none => rw [e] at h2; cases h2
      | some a => rw [e] at h2; cases h2; rfl
    obtain ⟨u, hu, rv⟩ := r.get ha
    have hp : ps[i]? = some y := by
      rw [← S.pre, List.getElem?_take_of_lt (by omega)]; exact h1
    have ndP : ps.Nodup := by rw [← S.pre]; exact S.nd.sublist (List.take_sublist _ _)
    refine ⟨u, rv, ?_⟩
    rcases S.par y (List.mem_of_getElem? hp) with k | k
    · exact .inl ⟨k, bindL_get ndP hp hu k⟩
    · obtain ⟨c, e⟩ := cell_has (n := s.heap.objs.size + 1) k
      refine .inr ⟨.inl k, c, e, ?_⟩
      have q := x.cell y c e
      rw [bindC_get ndP hp hu (by show scope.names.lookup y ≠ _; rw [k]; decide)] at q
      exact q
  · exact e0.hok.fresh (Nat.le_of_lt (x.above y c (PySem.mem_of_lookup h)))
  · unfold start
    show _ = N.length
    rw [List.length_append, List.length_map, List.length_replicate]
    omega
/-- THE RULE: a def (or a method) of the text, by its body. The body's reading t is chosen for each entry; it is run at the parameters' values -/
theorem fn_of {CX : CXT} {P : Program} {w : World} {K : PySem.W.Frag} {mg : Str → Option Value} {base : Heap} {k : Nat} {f : Addr} {name qual : Str} {params : Arguments} {body : List Stmt} {scope : Scope} {dV kV doc pm cdv ct oc : Value} {an od : Option Addr}
    {osl : Array (Option Value)} {N ps : List Str} {sp : Sp} (lk : K.lookup f = some ⟨oc, od, .func (PySem.W.fnOf name qual params body scope dV kV doc pm an cdv ct), osl⟩) (hcd : PySem.W.codeIn K cdv qual = true) (S : FnScope N ps scope)
    (len : ∀ vs H Q E, sp vs H Q E → vs.length = ps.length)
    (hbody : ∀ (A : Around) (outer : List Env) (s : Shared) (H : Hp) (vs : List V) (Q : VK) (E : XK), Room k (A.deeper (envOfC qual scope s.heap.objs.size f cdv)) → sp vs H Q E →
      ∃ t, PSs (cxOf CX P w K mg base N qual scope f cdv A outer s H E) body t ∧ t { nx := fun _ H' => Q .non H', rt := Q } (start N vs) H) :
    FnOk P w K mg base CX (k + 1) f (PySem.W.fnOf name qual params body scope dV kV doc pm an cdv ct) ps sp := by
  refine ⟨len, fun A outer s H args us vs Q E hr e0 hb r hsp => ?_⟩
  have hl := len _ _ _ _ hsp
  have KX : K.In s.heap := e0.mod.kin.keeps fun b o e => (e0.bs b o e).1
  have lim : s.heap.NoLimit := e0.mod.nolimit.keeps fun b o e => (e0.bs b o e).1
  have hkind : ∀ y ∈ ps.zip us, scope.names.lookup y.1 = some .local ∨ (scope.names.lookup y.1 = some .cell ∧ ((cellsFrom (s.heap.objs.size + 1) scope.names []).lookup y.1).isSome = true) := fun ⟨n, v⟩ hy => by
    rcases S.par n (List.of_mem_zip hy).1 with q | q
    · exact .inl q
    · exact .inr ⟨q, PySem.W.cellsFrom_some _ _ _ (.inl q)⟩
  refine codeAny_call_function hr.depth (KX _ _ lk) rfl S.co S.gen rfl (PySem.W.codeRec_of KX hcd) (hb _ _ _ _ ?_)
  refine wpAny_newFunctionEnv_cells S.kind hkind fun env he s1 x => ?_
  subst he
  refine ⟨lim.keeps x.toInCall.keep, codeAny_func ?_⟩
  obtain ⟨t, ht, hq⟩ := hbody A outer s H vs Q E (hr.deeper _) hsp
  have I : Inv (cxOf CX P w K mg base N qual scope f cdv A outer s H E) [] (start N vs) H s1 := inv_start S hr.hd e0 hl r x
  refine wpAny_mono (ht [] s1 (start N vs) H _ I hq) (fun fl s' hs => ?_) fun e s' hs => hs
  have fin : ∀ {σ' : St} {H' : Hp} {v : V} {u : Value}, Inv (cxOf CX P w K mg base N qual scope f cdv A outer s H E) [] σ' H' s' → RelV v u → Q v H' → CE outer P w H s Q u s' :=
    fun {σ' H' v u} J rv q => ⟨v, H', J.os, J.bare, J.base, J.hok, rv, q⟩
  cases fl with
  | ret u =>
    obtain ⟨v, σ', H', J, rv, q⟩ := hs
    exact fin J rv q
  | next =>
    obtain ⟨σ', H', J, q⟩ := hs
    exact fin (v := V.non) (u := Value.none) J rfl q
  | brk =>
    obtain ⟨_, _, _, q⟩ := hs
    exact False.elim q
  | cont =>
    obtain ⟨_, _, _, q⟩ := hs
    exact False.elim q
end L2
namespace L2
open PySem PySem.Spec PyProof.Rows
section
variable {X : Cx} {x : Str} {p pos : Pos} {e : Expr} {es : List Expr} {t : TA} {id T : String} {r : List V → Hp → VK → Prop}
def tCB (r : List V → Hp → VK → Prop) (t : TA) : TE := fun σ H Q => t σ H fun vs H1 => r vs H1 Q
/-- f(e, ..), f a built-in function -/
theorem pe_callB (hc : CallR X (.builtin id) r) (hg : Gl X x) (hm : X.mg x = none) (hv : bootBuiltins x = some (.builtin id)) (ha : PA X (e :: es) t) (hn : x ≠ "__name__" := by decide) (hdb : (x == ("__debug__" : Str)) = false := by decide)
    (he : starEach (e :: es) X.env = (false, eval e X.env) :: starEach es X.env := by rfl) (hpl : (backTo pos (starEach es X.env)).any (·.1) = false := by rfl) : PE X (.Call (.Name x p) (e :: es) [] pos) (tCB r t) := by
  intro pins s σ H Q I h
  refine wpAny_Call_Name_kw (ld_blt I hg hm hv ?_ hn hdb)
  exact PyProof.Rows.callWith_builtin1 (thn (ha pos pins s σ H _ I h) fun us s1 ⟨vs, H1, I1, r1, q1⟩ => hc pins s1 σ H1 vs us Q I1 r1 q1) he hpl
end
end L2
namespace HT
open PySem PyProof.Rows
section
open PySem.SeqAt
open PySem.AutoSeq1 (wpAny_loadPart')
open PySem.MeetsSeq PySem.MeetsSeq2 PySem.MeetsSeq3
end
section
variable {prog : Program} {w : World} {A : Around} {E : Value → Shared → Prop} {s : Shared}
/-- t + u, t not empty -/
theorem cat_tup {t b : Addr} {vs ws : List Value} {Q : Value → Shared → Prop} (ht : IsTup s.heap t vs.toArray) (hb : IsTup s.heap b ws.toArray) (hv : vs ≠ [])
    (h1 : ws = [] → Q (.ref t) s) (h2 : ws ≠ [] → Q (.ref s.heap.objs.size) { s with heap := s.heap.push { cls := .type "tuple", data := .seq (vs ++ ws).toArray } })
    (hsz : vs.length + ws.length ≤ sizeLine) : wpAny (model prog w) A (binaryOp .Add (.ref t) (.ref b)) Q E s := by
  obtain ⟨⟨cls, dd, data, sl⟩, ho, hc, n, hd⟩ := id ht
  obtain ⟨⟨cls2, dd2, data2, sl2⟩, ho2, hc2, n2, hd2⟩ := id hb
  simp only at hc hd hc2 hd2
  subst hc hd hc2 hd2
  have e : vs.toArray ++ ws.toArray = (vs ++ ws).toArray := by simp
  by_cases hw : ws = []
  · exact concat_meets ⟨_, ho, rfl⟩ ⟨_, ho2, rfl⟩ noFill_tuple_add seq_tuple_add PySem.F.slot_tuple_add PySem.F.entry_tuple_add (PySem.F.args_tuple_add_2 _ _)
      (tuple_addW1 t b vs.toArray ws.toArray n n2 dd dd2 sl sl2 (by simpa using hv) (by simp [hw])) ⟨ho, ho2, h1 hw⟩
  · refine concat_meets ⟨_, ho, rfl⟩ ⟨_, ho2, rfl⟩ noFill_tuple_add seq_tuple_add PySem.F.slot_tuple_add PySem.F.entry_tuple_add (PySem.F.args_tuple_add_2 _ _)
      (tuple_addW2 t b vs.toArray ws.toArray n n2 dd dd2 sl sl2 (by simpa using hv) (by simpa using hw) (by rw [List.size_toArray, List.size_toArray]; exact hsz)) ⟨ho, ho2, ?_⟩
    rw [e]
    exact h2 hw
/-! ### t[a:b], not the whole -/
/-- a slice's bound as a place among n (d where it is left out) -/
def sIx (n d : Nat) : Option Int → Nat
  | none => d
  | some v => if v < 0 then (v + (n : Int)).toNat else min v.toNat n
theorem sIx_nat (n d k : Nat) : sIx n d (some (k : Int)) = min k n := by
  show (if (k : Int) < 0 then ((k : Int) + (n : Int)).toNat else min (k : Int).toNat n) = min k n
  rw [if_neg (by omega), Int.toNat_natCast]
theorem sIx_le (n d : Nat) (hd : d ≤ n) (o : Option Int) : sIx n d o ≤ n := by
  cases o with
  | none => exact hd
  | some v =>
    show (if v < 0 then (v + (n : Int)).toNat else min v.toNat n) ≤ n
    by_cases hv : v < 0
    · rw [if_pos hv]; omega
    · rw [if_neg hv]; exact Nat.min_le_right _ _
theorem clip_eq (v : Int) (n d : Nat) : (if v < 0 then max (v + (n : Int)) 0 else min v (n : Int)) = ((sIx n d (some v) : Nat) : Int) := by
  show (if v < 0 then max (v + (n : Int)) 0 else min v (n : Int)) = (((if v < 0 then (v + (n : Int)).toNat else min v.toNat n) : Nat) : Int)
  by_cases hv : v < 0
  · simp only [if_pos hv]; omega
  · simp only [if_neg hv]; omega
theorem adjust_gen (lo hi : Option Int) (n : Nat) : Builtin.Slice.sliceAdjust lo hi 1 (n : Int) = (((sIx n 0 lo : Nat) : Int), ((sIx n n hi : Nat) : Int)) := by
  have h1 : ¬ ((1 : Int) < 0) := by omega
  unfold Builtin.Slice.sliceAdjust
  simp only [h1, if_false]
  refine Prod.ext ?_ ?_
  · cases lo with
    | none => rfl
    | some v => exact clip_eq v n 0
  · cases hi with
    | none => rfl
    | some v => exact clip_eq v n n
theorem places_gen (i j : Nat) : Builtin.Slice.slicePlaces (i : Int) (j : Int) 1 = j - i := by
  unfold Builtin.Slice.slicePlaces
  have h1 : (1 : Int) > 0 := by omega
  simp only [h1, if_true, Int.ediv_one]
  split <;> omega
theorem slicePart_ {v : Value} {o : Option Int} {Q : Option Int → Shared → Prop} (p : IsPart v o) (h : Q o s) : wpAny (model prog w) A (Builtin.Slice.slicePartIndex v) Q E s := by
  cases p with
  | none => exact slicePart_none h
  | int i t => exact slicePart_int h
theorem sliceApplied_gen {sl : Addr} {vl vu : Value} {lo hi : Option Int} {n : Nat} {Q : Int × Int × Nat → Shared → Prop} (hs : s.heap.IsSliceOf sl vl vu .none) (pl : IsPart vl lo) (pu : IsPart vu hi)
    (h : Q (((sIx n 0 lo : Nat) : Int), 1, sIx n n hi - sIx n 0 lo) s) : wpAny (model prog w) A (Builtin.Slice.sliceApplied (.ref sl) (pure (n : Int))) Q E s := by
  obtain ⟨os, hos, hcs, hds⟩ := id hs
  unfold Builtin.Slice.sliceApplied Builtin.Slice.sliceFields
  refine wpAny_bind (wpAny_bind (wpAny_field hos hds (x := vl) rfl (wpAny_bind (wpAny_field hos hds (x := vu) rfl (wpAny_bind (wpAny_field hos hds (x := .none) rfl (wpAny_pure ?_)))))))
  refine wpAny_bind (slicePart_none ?_)
  show wpAny _ _ (if ((1 : Int) == 0) = true then _ else _) _ _ s
  rw [if_neg (by decide)]
  refine wpAny_bind (slicePart_ pl (wpAny_bind (slicePart_ pu (wpAny_bind (wpAny_pure ?_)))))
  show wpAny _ _ (match Builtin.Slice.sliceAdjust lo hi 1 (n : Int) with | (lo, hi) => pure (lo, (1 : Int), Builtin.Slice.slicePlaces lo hi 1)) _ _ s
  rw [adjust_gen lo hi n]
  show wpAny _ _ (pure (((sIx n 0 lo : Nat) : Int), (1 : Int), Builtin.Slice.slicePlaces ((sIx n 0 lo : Nat) : Int) ((sIx n n hi : Nat) : Int) 1)) _ _ s
  rw [places_gen]
  exact wpAny_pure h
theorem pick_gen (xs : Array Value) (i k : Nat) : ((List.range k).filterMap fun (m : Nat) => xs[((i : Int) + (m : Int) * 1).toNat]?).toArray = ((xs.toList.drop i).take k).toArray := by
  have e : (fun (m : Nat) => xs[((i : Int) + (m : Int) * 1).toNat]?) = fun m => xs[i + m]? := by
    funext m
    have : ((i : Int) + (m : Int) * 1).toNat = i + m := by omega
    rw [this]
  rw [e]
  have := pick_run xs i k
  rw [List.filterMap_map] at this
  have e2 : ((fun x => xs[x]?) ∘ fun x => i + x) = fun m => xs[i + m]? := rfl
  rw [e2] at this
  rw [this]
theorem getItem_tuple_cut {t sl : Addr} {items : Array Value} {vl vu : Value} {lo hi : Option Int} {Q : Value → Shared → Prop} (ht : IsTup s.heap t items) (hs : s.heap.IsSliceOf sl vl vu .none) (pl : IsPart vl lo) (pu : IsPart vu hi)
    (hw : ¬ (sIx items.size 0 lo = 0 ∧ sIx items.size items.size hi = items.size))
    (h : Q (.ref s.heap.objs.size) { s with heap := s.heap.push { cls := .type "tuple", data := .seq ((items.toList.drop (sIx items.size 0 lo)).take (sIx items.size items.size hi - sIx items.size 0 lo)).toArray } })
    (hsz : items.size ≤ sizeLine) : wpAny (model prog w) A (getItem (.ref t) (.ref sl)) Q E s := by
  have htake : sizeOk (.seq ((items.toList.drop (sIx items.size 0 lo)).take (sIx items.size items.size hi - sIx items.size 0 lo)).toArray) := by
    show ((items.toList.drop (sIx items.size 0 lo)).take (sIx items.size items.size hi - sIx items.size 0 lo)).toArray.size ≤ sizeLine
    rw [List.size_toArray, List.length_take, List.length_drop, Array.length_toList]
    omega
  have hj : sIx items.size items.size hi ≤ items.size := sIx_le _ _ (Nat.le_refl _) hi
  obtain ⟨os, hos, hcs, hds⟩ := id hs
  have hTs : s.TypeIs (.ref sl) "slice" := ⟨os, hos, hcs⟩
  unfold getItem
  try with_reducible refine wpAny_holding ?_
  first | refine wpAny_bind (wpAny_pure ?_) | skip
  refine wpAny_bind (wpAny_sequenceKey ht.typeIs (by decide) ?_)
  refine wpAny_bind (wpAny_callSpecial?_slot (name := Str.ofString "__getitem__") ht.typeIs PyProof.Rows.slot_tuple_getitem
    (wpAny_call_entry PyProof.Rows.slot_tuple_getitem ht.typeIs entry_tuple_getitem ?_ (args_tuple_getitem _ _)))
  show wpAny _ _ (Builtin.Tuple.tupleItemsOf (.ref t) >>= _) _ _ s
  refine wpAny_bind (tupleItemsOf_ ht ?_)
  refine wpAny_bind (wpAny_typeOf hTs ?_)
  rw [if_pos (by decide)]
  refine wpAny_bind (sliceApplied_gen hs pl pu ?_)
  have hno : ¬ ((((sIx items.size 0 lo : Nat) : Int) == 0 && (1 : Int) == 1 && (sIx items.size items.size hi - sIx items.size 0 lo) == items.size) = true) := by
    intro q
    rw [Bool.and_eq_true, Bool.and_eq_true] at q
    have q1 : ((sIx items.size 0 lo : Nat) : Int) = 0 := eq_of_beq q.1.1
    have q2 : sIx items.size items.size hi - sIx items.size 0 lo = items.size := eq_of_beq q.2
    exact hw ⟨by omega, by omega⟩
  show wpAny _ _ (if (((sIx items.size 0 lo : Nat) : Int) == 0 && (1 : Int) == 1 && (sIx items.size items.size hi - sIx items.size 0 lo) == items.size) = true then _ else _) _ _ s
  rw [if_neg hno, pick_gen]
  first
    | exact wpAny_bind (m := Builtin.Tuple.tupleExact _) (wpAny_newObj_type (wpAny_pure ⟨_, rfl, wpAny_pure h⟩) htake)
    | exact wpAny_bind (m := Builtin.Tuple.tupleExact _) (wpAny_newObj_type (wpAny_bind (wpAny_pure (wpAny_pure ⟨_, rfl, wpAny_pure h⟩))) htake)
    | exact wpAny_bind (wpAny_bind (m := Builtin.Tuple.tupleExact _) (wpAny_newObj_type (wpAny_pure (wpAny_pure ⟨_, rfl, wpAny_pure h⟩)) htake))
    | exact wpAny_bind (wpAny_bind (m := Builtin.Tuple.tupleExact _) (wpAny_newObj_type (wpAny_pure ⟨_, rfl, wpAny_pure h⟩) htake))
end
end HT
namespace L2
open PySem PySem.Spec PyProof.Rows
/-! ### the parts of a slice -/
abbrev TO := St → Hp → (Option Int → Hp → Prop) → Prop
/-- a slice's part (left out, or an int) -/
def PO (X : Cx) (e : Option Expr) (t : TO) : Prop :=
  ∀ (pins : List (Addr × Obj)) (s : Shared) (σ : St) (H : Hp) (Q : Option Int → Hp → Prop), Inv X pins σ H s → t σ H Q →
    wpAny (model X.prog X.w) X.A (evalPart e X.env) (fun u s' => ∃ o H', Inv X pins σ H' s' ∧ IsPart u o ∧ Q o H') X.xe s
def tNoPart : TO := fun _ H Q => Q none H
def tPart (t : TE) : TO := fun σ H Q => t σ H fun x H1 => ∃ i, x = .int i ∧ Q (some i) H1
section
variable {X : Cx} {e : Expr} {te : TE} {lo hi : Option Expr} {tl th : TO} {pos p2 : Pos}
theorem po_none : PO X none tNoPart := by
  intro pins s σ H Q I h
  rw [evalPart_none]
  exact wpAny_pure ⟨none, H, I, .none, h⟩
theorem po_some (h : PE X e te) : PO X (some e) (tPart te) := by
  intro pins s σ H Q I hw
  rw [evalPart_some]
  refine thn (h pins s σ H _ I hw) fun u s1 ⟨x, H1, I1, r1, q1⟩ => ?_
  obtain ⟨i, rfl, q⟩ := q1
  obtain ⟨t, rfl⟩ := r1
  exact ⟨some i, H1, I1, .int i t, q⟩
/-- what a slice of a value is, by values: the slice object stands at sl -/
def SlR (X : Cx) (r : V → Option Int → Option Int → Hp → VK → Prop) : Prop :=
  ∀ (pins : List (Addr × Obj)) (s : Shared) (σ : St) (H : Hp) (x : V) (v vl vu : Value) (lo hi : Option Int) (sl : Addr) (Q : VK), Inv X pins σ H s → RelV x v → s.heap.IsSliceOf sl vl vu .none → IsPart vl lo → IsPart vu hi → r x lo hi H Q →
    ∃ T id, typeLookup (.type T) "__getitem__" = pure (some (.builtin id)) ∧ s.TypeIs v T ∧ wpAny (model X.prog X.w) X.A (getItem v (.ref sl)) (EP X pins σ Q) X.xe s
theorem SlR.or {r r' : V → Option Int → Option Int → Hp → VK → Prop} (h : SlR X r) (h' : SlR X r') : SlR X (fun x lo hi H Q => r x lo hi H Q ∨ r' x lo hi H Q) := by
  intro pins s σ H x v vl vu lo hi sl Q I rx hs pl pu q
  rcases q with q | q
  · exact h pins s σ H x v vl vu lo hi sl Q I rx hs pl pu q
  · exact h' pins s σ H x v vl vu lo hi sl Q I rx hs pl pu q
def tSl (r : V → Option Int → Option Int → Hp → VK → Prop) (te : TE) (tl th : TO) : TE := fun σ H Q => te σ H fun x H1 => tl σ H1 fun l H2 => th σ H2 fun u H3 => r x l u H3 Q
/-- a[lo:hi], any a -/
theorem pe_slice {r : V → Option Int → Option Int → Hp → VK → Prop} (hr : SlR X r) (he : PE X e te) (hl : PO X lo tl) (hu : PO X hi th) : PE X (.Subscript e (.Slice lo hi none p2) pos) (tSl r te tl th) := by
  intro pins s σ H Q I h
  refine Subscript_ (thn (he pins s σ H _ I h) fun v s1 ⟨x, H1, I1, r1, q1⟩ => ?_)
  refine wpAny_Slice (thn (hl pins s1 σ H1 _ I1 q1) fun vl s2 ⟨l, H2, I2, pl, q2⟩ => thn (hu pins s2 σ H2 _ I2 q2) fun vu s3 ⟨u, H3, I3, pu, q3⟩ => ?_)
  rw [evalPart_none]
  refine wpAny_pure ?_
  have I4 : Inv X pins σ H3 { s3 with heap := s3.heap.push { cls := .type "slice", data := .fields #[vl, vu, .none] } } := I3.kept (t' := s3.toks) fun b ob q => Heap.get?_push_of_some _ q
  obtain ⟨T, id, hT, ht, hg⟩ := hr pins { s3 with heap := s3.heap.push { cls := .type "slice", data := .fields #[vl, vu, .none] } } σ H3 x v vl vu l u s3.heap.objs.size Q I4 r1 (Heap.IsSliceOf.new ..) pl pu q3
  show wpAny (model X.prog X.w) X.A (subscriptTail e (.Slice lo hi none p2) v (.ref s3.heap.objs.size)) (EP X pins σ Q) X.xe { s3 with heap := s3.heap.push { cls := .type "slice", data := .fields #[vl, vu, .none] } }
  exact tail_any (ops := [.ref s3.heap.objs.size, v]) ht hT hg (by with_unfolding_all rfl)
/-- the items of xs[lo:hi] -/
def cutV (xs : List V) (lo hi : Option Int) : List V := (xs.drop (HT.sIx xs.length 0 lo)).take (HT.sIx xs.length xs.length hi - HT.sIx xs.length 0 lo)
theorem cutV_length (xs : List V) (lo hi : Option Int) : (cutV xs lo hi).length ≤ xs.length := by
  unfold cutV
  rw [List.length_take, List.length_drop]
  omega
/-- t[lo:hi], not the whole of it (the whole would be t itself) -/
def rSlT (K : PySem.W.Frag) : V → Option Int → Option Int → Hp → VK → Prop := fun x lo hi H Q => ∃ a xs, x = .ref a ∧ SqT K H a xs ∧
  ¬ (HT.sIx xs.length 0 lo = 0 ∧ HT.sIx xs.length xs.length hi = xs.length) ∧ ∀ p, H p = none → Q (.ref p) (upd H p (.tup (cutV xs lo hi)))
theorem sl_tup : SlR X (rSlT X.K) := by
  intro pins s σ H x v vl vu lo hi sl Q I rx hs pl pu h
  obtain ⟨a, xs, rfl, hx, hw, q⟩ := h
  cases rx
  obtain ⟨its, r, ht, hz⟩ := I.tuple hx
  have hlen : its.toArray.size = xs.length := by rw [List.size_toArray]; exact r.length.symm
  refine ⟨"tuple", _, PyProof.Rows.slot_tuple_getitem.lookup, ht.typeIs, ?_⟩
  refine HT.getItem_tuple_cut ht hs pl pu (by rw [hlen]; exact hw) ?_ (by rw [hlen]; exact hz)
  rw [hlen]
  refine ⟨.ref s.heap.objs.size, _, I.laid (t' := s.toks) (o := .tup (cutV xs lo hi)) (fun b ob q => Heap.get?_push_of_some _ q) (Nat.le_refl _) ?_, rfl, q _ (I.hok.fresh (Nat.le_refl _))⟩
  exact ⟨Nat.le_trans (cutV_length xs lo hi) hz, _, (r.drop (HT.sIx xs.length 0 lo)).take (HT.sIx xs.length xs.length hi - HT.sIx xs.length 0 lo), IsTup.new _ _⟩
/-! ### t < u, t + u -/
/-- t + u, t not empty: u empty gives t itself -/
def rCatT (K : PySem.W.Frag) : R2 := fun x y H Q => ∃ a b xs ys, x = .ref a ∧ y = .ref b ∧ SqT K H a xs ∧ SqT K H b ys ∧ xs ≠ [] ∧ xs.length + ys.length ≤ sizeLine ∧
  (ys = [] → Q (.ref a) H) ∧ (ys ≠ [] → ∀ p, H p = none → Q (.ref p) (upd H p (.tup (xs ++ ys))))
theorem Vals.nil_iff {xs : List V} {us : List Value} (r : Vals xs us) : us = [] ↔ xs = [] := by
  cases r with
  | nil => simp
  | cons _ _ => simp
theorem op_catT : OpR X (binaryOp .Add) (rCatT X.K) := by
  intro pins s σ H x y v u Q I rx ry h
  obtain ⟨a, b, xs, ys, rfl, rfl, ha, hb, hx, hz, q1, q2⟩ := h
  cases rx
  cases ry
  obtain ⟨its, r1, p1, _⟩ := I.tuple ha
  obtain ⟨its2, r2, p2, _⟩ := I.tuple hb
  refine HT.cat_tup p1 p2 (fun z => hx (r1.nil_iff.mp z)) (fun z => ⟨.ref a, H, I, rfl, q1 (r2.nil_iff.mp z)⟩) (fun z => ?_) (by rw [← r1.length, ← r2.length]; exact hz)
  refine ⟨.ref s.heap.objs.size, _, I.laid (t' := s.toks) (o := .tup (xs ++ ys)) (fun b ob q => Heap.get?_push_of_some _ q) (Nat.le_refl _) ?_, rfl, q2 (fun w => z (r2.nil_iff.mpr w)) _ (I.hok.fresh (Nat.le_refl _))⟩
  exact ⟨by rw [List.length_append]; exact hz, _, r1.append r2, IsTup.new _ _⟩
end
end L2
namespace L2
open PySem PySem.Spec PyProof.Rows
/-! ### places -/
/-- the place that an index of any sign means -/
def ixN (n : Nat) (i : Int) : Option Nat := if 0 ≤ i then (if i < n then some i.toNat else none) else if -(n : Int) ≤ i then some (i + n).toNat else none
def atI {α : Type} (xs : List α) (i : Int) : Option α := (ixN xs.length i).bind fun j => xs[j]?
theorem ixN_seq {n : Nat} {i : Int} {j : Nat} (h : ixN n i = some j) : seqIndex? i n = some j ∧ j < n ∧ -(n : Int) ≤ i ∧ i < n := by
  unfold ixN at h
  by_cases h0 : 0 ≤ i
  · rw [if_pos h0] at h
    by_cases h1 : i < n
    · rw [if_pos h1] at h
      have e : i.toNat = j := Option.some.inj h
      exact ⟨by rw [seqIndex_of h0 h1, e], by omega, by omega, h1⟩
    · rw [if_neg h1] at h; cases h
  · rw [if_neg h0] at h
    by_cases h1 : -(n : Int) ≤ i
    · rw [if_pos h1] at h
      have e : (i + n).toNat = j := Option.some.inj h
      exact ⟨by rw [seqIndex_neg (by omega) h1, e], by omega, h1, by omega⟩
    · rw [if_neg h1] at h; cases h
theorem atI_get {α : Type} {xs : List α} {i : Int} {v : α} (h : atI xs i = some v) : ∃ j, seqIndex? i xs.length = some j ∧ xs[j]? = some v ∧ j < xs.length ∧ -(xs.length : Int) ≤ i ∧ i < xs.length := by
  unfold atI at h
  cases e : ixN xs.length i with
  | none => rw [e] at h; cases h
  | some j =>
    rw [e] at h
    obtain ⟨h1, h2, h3, h4⟩ := ixN_seq e
    exact ⟨j, h1, h, h2, h3, h4⟩
/-! ### what may be subscripted -/
/-- what stands as an index of a plain subscript -/
def PlainIx (b : Expr) : Prop := ∀ o i, subscripted b false o i = operate [o, i] (getItem o i)
/-- a subscript by values -/
def IxR (X : Cx) (r : R2) : Prop :=
  ∀ (value slice : Expr) (pins : List (Addr × Obj)) (s : Shared) (σ : St) (H : Hp) (x y : V) (v u : Value) (Q : VK), Inv X pins σ H s → RelV x v → RelV y u → r x y H Q →
    subscripted slice false v u = operate [v, u] (getItem v u) → wpAny (model X.prog X.w) X.A (subscriptTail value slice v u) (EP X pins σ Q) X.xe s
/-- a call of a builtin's method by values: the receiver, the arguments -/
def MtR (X : Cx) (id : String) (r : V → List V → Hp → VK → Prop) : Prop :=
  ∀ (pins : List (Addr × Obj)) (s : Shared) (σ : St) (H : Hp) (x : V) (xs : List V) (v : Value) (us : List Value) (Q : VK), Inv X pins σ H s → RelV x v → Vals xs us → r x xs H Q →
    wpAny (model X.prog X.w) X.A (call (.builtin id) (v :: us)) (EP X pins σ Q) X.xe s
section
variable {X : Cx} {a b : Expr} {ta tb : TE} {pos : Pos}
theorem IxR.or {r r' : R2} (h : IxR X r) (h' : IxR X r') : IxR X (fun x y H Q => r x y H Q ∨ r' x y H Q) := by
  intro value slice pins s σ H x y v u Q I rx ry q hs
  rcases q with q | q
  · exact h value slice pins s σ H x y v u Q I rx ry q hs
  · exact h' value slice pins s σ H x y v u Q I rx ry q hs
/-- a[b] -/
theorem pe_ix {r : R2} (hr : IxR X r) (ha : PE X a ta) (hb : PE X b tb) (hs : PlainIx b) : PE X (.Subscript a b pos) (tOp r ta tb) := by
  intro pins s σ H Q I h
  exact Subscript_ (binT ha hb I h fun v u s2 x y H2 I2 rx ry q => hr a b pins s2 σ H2 x y v u Q I2 rx ry q (hs _ _))
def rIxL (K : PySem.W.Frag) : R2 := fun x y H Q => ∃ p xs i v, x = .ref p ∧ y = .int i ∧ SqL K H p xs ∧ atI xs i = some v ∧ Q v H
def rIxT (K : PySem.W.Frag) : R2 := fun x y H Q => ∃ p xs i v, x = .ref p ∧ y = .int i ∧ SqT K H p xs ∧ atI xs i = some v ∧ Q v H
def rIxS : R2 := fun x y H Q => ∃ z i c, x = .str z ∧ y = .int i ∧ z.length ≤ sizeLine ∧ atI z.cps.toList i = some c ∧ Q (.str ⟨#[c]⟩) H
theorem ix_list : IxR X (rIxL X.K) := by
  intro value slice pins s σ H x y v u Q I rx ry h hs
  obtain ⟨p, xs, i, z, rfl, rfl, hq, he, q⟩ := h
  cases rx
  obtain ⟨t, rfl⟩ := ry
  obtain ⟨its, r, pl, hz⟩ := I.list hq
  obtain ⟨j, h1, h2, h3, h4, h5⟩ := atI_get he
  obtain ⟨w, ew, rw'⟩ := r.get h2
  have hl := r.length
  have hn := line63
  have fin : EP X pins σ Q w s := ⟨z, H, I, rw', q⟩
  by_cases h0 : 0 ≤ i
  · have hj : i.toNat = j := by
      rw [seqIndex_of h0 h5] at h1
      exact Option.some.inj h1
    exact item_listR pl.isList h0 (by omega) (by rw [hj]; simpa using ew) fin hs
  · have hj : (i + (its.toArray.size : Int)).toNat = j := by
      rw [seqIndex_neg (by omega) h4] at h1
      rw [List.size_toArray, ← hl]
      exact Option.some.inj h1
    exact subscriptTail_builtinR (x := w) pl.isList.typeIs slot_list_getitem.lookup
      (wpAny_getItem_list_neg (Q := fun r s' => r = w ∧ EP X pins σ Q r s') pl.isList (by omega) (by rw [List.size_toArray] <;> omega) (by omega) (by rw [hj]; simpa using ew) ⟨rfl, fin⟩) hs
theorem ix_tup : IxR X (rIxT X.K) := by
  intro value slice pins s σ H x y v u Q I rx ry h hs
  obtain ⟨p, xs, i, z, rfl, rfl, hq, he, q⟩ := h
  cases rx
  obtain ⟨t, rfl⟩ := ry
  obtain ⟨its, r, pl, hz⟩ := I.tuple hq
  obtain ⟨j, h1, h2, h3, h4, h5⟩ := atI_get he
  obtain ⟨w, ew, rw'⟩ := r.get h2
  have hl := r.length
  have hn := line63
  have fin : EP X pins σ Q w s := ⟨z, H, I, rw', q⟩
  exact subscriptTail_builtinR (x := w) pl.typeIs slot_tuple_getitem.lookup
    (getItem_tuple (j := j) (Q := fun r s' => r = w ∧ EP X pins σ Q r s') pl (by omega) (by omega) (by rw [List.size_toArray, ← hl]; exact h1) (by simpa using ew) ⟨rfl, fin⟩) hs
theorem ix_str : IxR X rIxS := by
  intro value slice pins s σ H x y v u Q I rx ry h hs
  obtain ⟨z, i, c, rfl, rfl, hz, he, q⟩ := h
  obtain ⟨t, rfl⟩ := rx
  obtain ⟨t', rfl⟩ := ry
  obtain ⟨j, h1, h2, h3, h4, h5⟩ := atI_get he
  have hl : z.cps.toList.length = z.length := by simp [Str.length]
  rw [hl] at h1 h4 h5
  have hn := line63
  exact tail_any (typeIs_str s z t) slot_str_getitem.lookup (getItem_str (c := c) (by
    have e1 : decide (i < -(2 ^ 63 : Int)) = false := decide_eq_false (by omega)
    have e2 : decide (i ≥ 2 ^ 63) = false := decide_eq_false (by omega)
    rw [e1, e2, Bool.or_false]) (by rw [h1]; simpa using h2) ⟨.str ⟨#[c]⟩, H, I.tok _, ⟨_, rfl⟩, q⟩) hs
/-- list, tuple or str -/
def rIx (K : PySem.W.Frag) : R2 := fun x y H Q => rIxL K x y H Q ∨ rIxT K x y H Q ∨ rIxS x y H Q
theorem ix_seq : IxR X (rIx X.K) := ix_list.or (ix_tup.or ix_str)
/-! ### xs[i] = v, any sign -/
/-- the list's object behind a store -/
theorem mapSeq_set (its : List Value) (n j : Nat) (u : Value) : Obj.mapSeq (·.setIfInBounds j u) { cls := .type "list", data := .seq its.toArray n } = { cls := .type "list", data := .seq (its.set j u).toArray n } := by
  simp [Obj.mapSeq]
theorem Inv.lst {pins : List (Addr × Obj)} {σ : St} {H : Hp} {s : Shared} {p : Addr} {xs : List V} (I : Inv X pins σ H s) (h : H p = some (.lst xs)) :
    ∃ (its : List Value) (n : Nat), Vals xs its ∧ s.heap.get? p = some { cls := .type "list", data := .seq its.toArray n } ∧ xs.length ≤ sizeLine := by
  obtain ⟨z, its, n, r, e⟩ := I.hok p _ h
  exact ⟨its, n, r, e, z⟩
/-- the list at p is written by an update of its object -/
theorem Inv.lstUpd {pins : List (Addr × Obj)} {σ : St} {H : Hp} {s : Shared} {p : Addr} {xs ys : List V} {its its' : List Value} {n n' : Nat} {f : Obj → Obj} (I : Inv X pins σ H s) (h : H p = some (.lst xs))
    (ho : s.heap.get? p = some { cls := .type "list", data := .seq its.toArray n }) (hf : f { cls := .type "list", data := .seq its.toArray n } = { cls := .type "list", data := .seq its'.toArray n' }) (r : Vals ys its') (hz : ys.length ≤ sizeLine) (t : Nat) :
    Inv X pins σ (upd H p (.lst ys)) { s with heap := s.heap.update p f, toks := t } := by
  have e : (s.heap.update p f).get? p = some { cls := .type "list", data := .seq its'.toArray n' } := by
    rw [Heap.get?_update_self f ho (by rw [hf] <;> rfl), hf]
  refine I.write (x := p) (e := p) (by rw [h]; trivial) (.inl rfl) (fun b u hb q => (Heap.get?_update_other _ _ (Ne.symm hb)).trans q) ⟨_, e⟩ ?_
  exact ⟨hz, its', n', r, e⟩
def rSetL : V → V → V → Hp → (Hp → Prop) → Prop := fun o i v H Q => ∃ p xs k j, o = .ref p ∧ i = .int k ∧ H p = some (.lst xs) ∧ ixN xs.length k = some j ∧ Q (upd H p (.lst (xs.set j v)))
theorem set_list : PSet X rSetL := by
  intro pins s σ H o i v ov iv u Q I ro ri rv h
  obtain ⟨p, xs, k, j, rfl, rfl, hp, hj, q⟩ := h
  cases ro
  obtain ⟨t, rfl⟩ := ri
  obtain ⟨its, n, r, ho, hz⟩ := I.lst hp
  obtain ⟨h1, h2, h3, h4⟩ := ixN_seq hj
  have hl := r.length
  have hn := line63
  have I' : Inv X pins σ (upd H p (.lst (xs.set j v))) { s with heap := s.heap.update p (Obj.mapSeq (·.setIfInBounds j u)) } :=
    I.lstUpd hp ho (mapSeq_set its n j u) (r.set rv j) (by rw [List.length_set]; exact hz) s.toks
  by_cases h0 : 0 ≤ k
  · have hk : k.toNat = j := by
      rw [seqIndex_of h0 h4] at h1
      exact Option.some.inj h1
    exact PySem.W.ki_setAt ho h0 (by omega) (by rw [List.size_toArray, ← hl]; exact h4) (by rw [hk]; exact ⟨_, I', q⟩)
  · have hk : (k + (its.toArray.size : Int)).toNat = j := by
      rw [seqIndex_neg (by omega) h3] at h1
      rw [List.size_toArray, ← hl]
      exact Option.some.inj h1
    exact PySem.W.ki_setBack ho (by omega) (by rw [List.size_toArray, ← hl]; exact h3) (by omega) (by rw [hk]; exact ⟨_, I', q⟩)
/-! ### slices -/
theorem slice_bounds (lo hi : Option Int) (n : Nat) : (sliceBounds lo hi none n).1 = ((HT.sIx n 0 lo : Nat) : Int) ∧ (sliceBounds lo hi none n).2.1 = ((HT.sIx n n hi : Nat) : Int) ∧ (sliceBounds lo hi none n).2.2 = 1 := by
  refine ⟨?_, ?_, rfl⟩
  · cases lo with
    | none => simp [sliceBounds, HT.sIx]
    | some i =>
      simp only [sliceBounds, HT.sIx, Option.getD_none, show (1 : Int) > 0 by decide, if_true]
      by_cases h : i < 0
      · simp only [h, if_true] <;> omega
      · simp only [h, if_false] <;> omega
  · cases hi with
    | none => simp [sliceBounds, HT.sIx]
    | some i =>
      simp only [sliceBounds, HT.sIx, Option.getD_none, show (1 : Int) > 0 by decide, if_true]
      by_cases h : i < 0
      · simp only [h, if_true] <;> omega
      · simp only [h, if_false] <;> omega
theorem slicePick_cut (its : List Value) (lo hi : Option Int) : slicePick its.toArray lo hi none = ((its.drop (HT.sIx its.length 0 lo)).take (HT.sIx its.length its.length hi - HT.sIx its.length 0 lo)).toArray := by
  obtain ⟨h1, h2, h3⟩ := slice_bounds lo hi its.toArray.size
  unfold slicePick
  rw [h1, h2, h3]
  simp only [sliceRange_one, pick_run, List.size_toArray] <;> rfl
/-- xs[lo:hi] of a list: a new list -/
def rSlL (K : PySem.W.Frag) : V → Option Int → Option Int → Hp → VK → Prop := fun x lo hi H Q => ∃ a xs, x = .ref a ∧ SqL K H a xs ∧ ∀ p, H p = none → Q (.ref p) (upd H p (.lst (cutV xs lo hi)))
theorem sl_list : SlR X (rSlL X.K) := by
  intro pins s σ H x v vl vu lo hi sl Q I rx hs pl pu h
  obtain ⟨a, xs, rfl, hx, q⟩ := h
  cases rx
  obtain ⟨its, r, ht, hz⟩ := I.list hx
  have hlen := r.length
  refine ⟨"list", _, slot_list_getitem.lookup, ht.isList.typeIs, ?_⟩
  refine wpAny_getItem_list_slice ht.isList hs pl pu .none (by simp) ?_ (by rw [List.size_toArray] <;> omega)
  rw [slicePick_cut, ← hlen]
  refine ⟨.ref s.heap.objs.size, _, I.laid (t' := s.toks) (o := .lst (cutV xs lo hi)) (fun b ob q => Heap.get?_push_of_some _ q) (Nat.le_refl _) ?_, rfl, q _ (I.hok.fresh (Nat.le_refl _))⟩
  exact ⟨Nat.le_trans (cutV_length xs lo hi) hz, _, 0, (r.drop (HT.sIx xs.length 0 lo)).take (HT.sIx xs.length xs.length hi - HT.sIx xs.length 0 lo), Heap.get?_push_size _ rfl⟩
/-! ### in, not in: flat items -/
/-- == of flat values -/
def eqV : V → V → Bool
  | .non, .non => true
  | .bl a, .bl b => a == b
  | .bl a, .int b => (if a then 1 else 0) == b
  | .int a, .bl b => a == (if b then 1 else 0)
  | .int a, .int b => a == b
  | .str a, .str b => a == b
  | _, _ => false
theorem op_notIn_str : OpR X (compareOp .NotIn) (fun x y H Q => ∃ i j, x = .str i ∧ y = .str j ∧ Q (.bl (!(!(Builtin.Str.occurrences j i 0 j.length 1).isEmpty))) H) := by
  intro pins s σ H x y v u Q I rx ry h
  obtain ⟨i, j, rfl, rfl, q⟩ := h
  obtain ⟨t, rfl⟩ := rx
  obtain ⟨t', rfl⟩ := ry
  exact notIn_str ⟨.bl _, H, I, rfl, q⟩
/-! ### len, list(x), tuple(x) of any list or tuple that is read -/
theorem call_len_seq : CallR X (.builtin "len") (fun xs H Q => ∃ p ys, xs = [.ref p] ∧ (SqL X.K H p ys ∨ SqT X.K H p ys) ∧ Q (.int ys.length) H) := by
  intro pins s σ H xs us Q I r h
  obtain ⟨p, ys, rfl, hq, q⟩ := h
  obtain ⟨u, rfl, rx⟩ := vals1 r
  cases rx
  have hn := line63
  rcases hq with hq | hq
  · obtain ⟨its, r', pl, hz⟩ := I.list hq
    have hlen := r'.length
    exact Calls.call_len_list pl.isList (by simp only [List.size_toArray] <;> omega) ⟨.int ys.length, H, I.tok _, ⟨s.toks + 1, by rw [List.size_toArray, hlen]⟩, q⟩
  · obtain ⟨its, r', pl, hz⟩ := I.tuple hq
    have hlen := r'.length
    exact len_tuple pl (by simp only [List.size_toArray] <;> omega) ⟨.int ys.length, H, I.tok _, ⟨s.toks + 1, by rw [List.size_toArray, hlen]⟩, q⟩
theorem call_len_str : CallR X (.builtin "len") (fun xs H Q => ∃ z, xs = [.str z] ∧ z.length ≤ sizeLine ∧ Q (.int z.length) H) := by
  intro pins s σ H xs us Q I r h
  obtain ⟨z, rfl, hz, q⟩ := h
  obtain ⟨u, rfl, t, rfl⟩ := vals1 r
  have hn := line63
  exact len_str (by omega) ⟨.int z.length, H, I.tok _, ⟨_, rfl⟩, q⟩
theorem CallR.or {f : Value} {r r' : List V → Hp → VK → Prop} (h : CallR X f r) (h' : CallR X f r') : CallR X f (fun xs H Q => r xs H Q ∨ r' xs H Q) := by
  intro pins s σ H xs us Q I rs q
  rcases q with q | q
  · exact h pins s σ H xs us Q I rs q
  · exact h' pins s σ H xs us Q I rs q
/-! ### the call of a builtin's method: o.m(..) -/
/-- the value is of that builtin type -/
def tyV (K : PySem.W.Frag) (T : String) (x : V) (H : Hp) : Prop := match x with
  | .str _ => T = "str"
  | .int _ => T = "int"
  | .ref p => (T = "list" ∧ ∃ xs, SqL K H p xs) ∨ (T = "tuple" ∧ ∃ o, K.lookup p = some o ∧ o.cls = .type "tuple" ∧ o.dict = none) ∨
      (T = "dict" ∧ ((∃ kvs, H p = some (.dK kvs)) ∨ ∃ kvs, H p = some (.dT kvs))) ∨ (T = "set" ∧ ∃ S n, H p = some (.set S n))
  | _ => False
theorem tyV_is {pins : List (Addr × Obj)} {σ : St} {H : Hp} {s : Shared} {T : String} {x : V} {v : Value} (I : Inv X pins σ H s) (r : RelV x v) (ty : tyV X.K T x H) :
    s.TypeIs v T ∧ ∀ a, v = .ref a → ∃ ob, s.heap.get? a = some ob ∧ ob.dict = none := by
  cases x with
  | str z =>
    obtain ⟨t, rfl⟩ := r
    cases (show T = "str" from ty)
    exact ⟨typeIs_str s z t, fun _ e => nomatch e⟩
  | int i =>
    obtain ⟨t, rfl⟩ := r
    cases (show T = "int" from ty)
    exact ⟨typeIs_int s i t, fun _ e => nomatch e⟩
  | ref p =>
    cases r
    rcases ty with ⟨rfl, xs, hq⟩ | ⟨rfl, o, hk, hc, hd⟩ | ⟨rfl, hk⟩ | ⟨rfl, S, n, hk⟩
    · obtain ⟨its, _, pl, _⟩ := I.list hq
      refine ⟨pl.isList.typeIs, fun a e => ?_⟩
      cases e
      obtain ⟨o, n, e, c, hd, _⟩ := pl
      exact ⟨o, e, hd⟩
    · refine ⟨⟨o, I.kIn p o hk, hc⟩, fun a e => ?_⟩
      cases e
      exact ⟨o, I.kIn _ o hk, hd⟩
    · have z : ∃ o, s.heap.get? p = some o ∧ o.ExactDict := by
        rcases hk with ⟨kvs, hk⟩ | ⟨kvs, hk⟩
        · obtain ⟨_, _, _, _, o, _, _, e, ex, _⟩ := I.hok p _ hk
          exact ⟨o, e, ex⟩
        · obtain ⟨_, _, _, _, o, _, _, e, ex, _⟩ := I.hok p _ hk
          exact ⟨o, e, ex⟩
      obtain ⟨o, e, ex⟩ := z
      refine ⟨⟨o, e, ex.1⟩, fun a e2 => ?_⟩
      cases e2
      exact ⟨o, e, ex.2.1⟩
    · obtain ⟨o, _, _, _, e, ex, _⟩ := I.hok p _ hk
      refine ⟨⟨o, e, ex.1⟩, fun a e2 => ?_⟩
      cases e2
      exact ⟨o, e, ex.2.1⟩
  | _ => exact False.elim ty
def tBM0 (K : PySem.W.Frag) (T : String) (r : V → List V → Hp → VK → Prop) (to : TE) : TE := fun σ H Q => to σ H fun x H1 => tyV K T x H1 ∧ r x [] H1 Q
def tBM (K : PySem.W.Frag) (T : String) (r : V → List V → Hp → VK → Prop) (to : TE) (t : TA) : TE := fun σ H Q => to σ H fun x H1 => tyV K T x H1 ∧ t σ H1 fun xs H2 => r x xs H2 Q
variable {o e : Expr} {es : List Expr} {to : TE} {t : TA} {name : Str} {apos cpos : Pos} {T id : String} {r : V → List V → Hp → VK → Prop}
theorem pe_bm0 (pa : PlainAttrs T) (slot : Slot T name id) (hty : typeOf (.builtin id) = pure (.type "method_descriptor")) (hm : MtR X id r) (ho : PE X o to)
    (hbase : attributeBase o name X.env (eval o X.env) = eval o X.env := by rfl) (hline : (apos.endLine == cpos.line) = true := by rfl) : PE X (.Call (.Attribute o name apos) [] [] cpos) (tBM0 X.K T r to) := by
  intro pins s σ H Q I h
  refine wpAny_Call_method0_late hbase hline (thn (ho pins s σ H _ I h) fun v s1 ⟨x, H1, I1, r1, ty, q1⟩ => ?_)
  obtain ⟨h1, h2⟩ := tyV_is I1 r1 ty
  exact ⟨T, id, pa, slot, hty, h1, h2, Calls.callWith_builtin rfl (PySem.evalArgs_none (hm pins s1 σ H1 x [] v [] Q I1 r1 .nil q1))⟩
theorem pe_bm (pa : PlainAttrs T) (slot : Slot T name id) (hty : typeOf (.builtin id) = pure (.type "method_descriptor")) (hm : MtR X id r) (ho : PE X o to) (ha : PA X (e :: es) t)
    (hbase : attributeBase o name X.env (eval o X.env) = eval o X.env := by rfl)
    (hfew : ((backTo cpos (starEach (e :: es) X.env)).all (fun x => !x.1) && (backToKw cpos (keywordEach [] X.env)).all (fun x => x.1.isSome)
      && decide ((e :: es).length + ([] : List Keyword).length + (if ([] : List Keyword).isEmpty then 0 else 1) < 30)) = true := by rfl)
    (hline : (apos.endLine == cpos.line) = true := by rfl) (hs : starEach (e :: es) X.env = (false, eval e X.env) :: starEach es X.env := by rfl) (hplain : (backTo cpos (starEach es X.env)).any (·.1) = false := by rfl) :
    PE X (.Call (.Attribute o name apos) (e :: es) [] cpos) (tBM X.K T r to t) := by
  intro pins s σ H Q I h
  refine wpAny_Call_method_late hbase hfew hline rfl (thn (ho pins s σ H _ I h) fun v s1 ⟨x, H1, I1, r1, ty, q1⟩ => ?_)
  obtain ⟨h1, h2⟩ := tyV_is I1 r1 ty
  refine ⟨T, id, pa, slot, hty, h1, h2, ?_⟩
  have hA := ha cpos pins s1 σ H1 _ I1 q1
  rw [hs] at hA ⊢
  refine Calls.callWith_builtin (by show (false || (backTo cpos (starEach es X.env)).any (·.1)) = false; rw [hplain] <;> rfl) (Calls.evalArgs_plain ?_)
  exact thn hA fun us s2 ⟨vs, H2, I2, r2, q2⟩ => hm pins s2 σ H2 x vs v us Q I2 r1 r2 q2
/- xs.append(e), list.index on a module's tuple .. are MtR facts of 06m -/
end
end L2
namespace L2
open PySem PySem.Spec PyProof.Rows
def MtM (X : Cx) (id : String) (r : V → List V → Hp → VK → Prop) : Prop :=
  ∀ (pins : List (Addr × Obj)) (s : Shared) (σ : St) (H : Hp) (x : V) (xs : List V) (v : Value) (us : List Value) (Q : VK), Inv X pins σ H s → RelV x v → Vals xs us → r x xs H Q →
    wpAny (model X.prog X.w) X.A (call (.builtin id) (v :: us)) (EP X pins σ Q) X.xe s
/-! ### lists of values -/
theorem Vals.one : ∀ {x : V} {us : List Value}, Vals [x] us → ∃ u, us = [u] ∧ RelV x u
  | _, _, .cons r .nil => ⟨_, rfl, r⟩
theorem Vals.zero : ∀ {us : List Value}, Vals [] us → us = []
  | _, .nil => rfl
theorem Vals.dropLast {xs : List V} {us : List Value} (h : Vals xs us) : Vals xs.dropLast us.dropLast := by
  induction h with
  | nil => exact .nil
  | cons r t ih =>
    cases t with
    | nil => exact .nil
    | cons q t' => exact .cons r ih
theorem erase_last {α : Type} (l : List α) : l.eraseIdx (l.length - 1) = l.dropLast := by
  induction l with
  | nil => rfl
  | cons a r ih =>
    cases r with
    | nil => rfl
    | cons b r =>
      have e : (a :: b :: r).length - 1 = ((b :: r).length - 1) + 1 := by
        have h1 : (a :: b :: r).length = r.length + 2 := rfl
        have h2 : (b :: r).length = r.length + 1 := rfl
        omega
      rw [e, List.eraseIdx_cons_succ, ih]
      all_goals rfl
section
variable {X : Cx} {pins : List (Addr × Obj)} {σ : St} {H : Hp} {s : Shared} {l b : Addr} {xs ys zs : List V}
/-! ### the two steps: a tracked list is rewritten, a new list is laid -/
theorem Inv.lset {its its' : List Value} {n : Nat} {f : Array Value → Array Value} {t' : Nat} (I : Inv X pins σ H s) (hH : H l = some (.lst xs))
    (e : s.heap.get? l = some { cls := .type "list", data := .seq its.toArray n }) (hf : f its.toArray = its'.toArray) (hv : Vals ys its') (hz : ys.length ≤ sizeLine) :
    Inv X pins σ (upd H l (.lst ys)) { s with heap := s.heap.update l (Obj.mapSeq f), toks := t' } := by
  have q := PySem.IsL.update e f
  rw [hf] at q
  refine I.write (x := l) (e := l) (by rw [hH]; exact trivial) (.inl rfl) (fun b' u hb hu => (Heap.get?_update_other s.heap (Obj.mapSeq f) (Ne.symm hb)).trans hu) ⟨_, q⟩ ?_
  exact ⟨hz, its', _, hv, q⟩
theorem Inv.lnew {its : List Value} {t' : Nat} (I : Inv X pins σ H s) (hv : Vals ys its) (hz : ys.length ≤ sizeLine) :
    Inv X pins σ (upd H s.heap.objs.size (.lst ys)) { s with heap := s.heap.push { cls := .type "list", data := .seq its.toArray }, toks := t' } :=
  I.laid (fun _ _ q => Heap.get?_push_of_some _ q) (Nat.le_refl _) ⟨hz, its, 0, hv, Heap.get?_push_size _ rfl⟩
theorem Inv.fresh (I : Inv X pins σ H s) : H s.heap.objs.size = none := I.hok.fresh (Nat.le_refl _)
theorem Inv.lstM (I : Inv X pins σ H s) (hH : H l = some (.lst xs)) : xs.length ≤ sizeLine ∧ ∃ (its : List Value) (n : Nat), Vals xs its ∧ xs.length = its.length ∧ s.heap.get? l = some { cls := .type "list", data := .seq its.toArray n } := by
  obtain ⟨z, its, n, r, e⟩ := I.hok l _ hH
  exact ⟨z, its, n, r, r.length, e⟩
theorem notLongL {n : Nat} (h : n ≤ sizeLine) : Builtin.List.listTooLong n = false := by
  unfold Builtin.List.listTooLong
  exact decide_eq_false (by omega)
end
section
variable {X : Cx}
/-! ### methods -/
def rAppend : V → List V → Hp → VK → Prop := fun x vs H Q => ∃ l xs y, x = .ref l ∧ vs = [y] ∧ H l = some (.lst xs) ∧ xs.length < sizeLine ∧ Q .non (upd H l (.lst (xs ++ [y])))
theorem mt_append : MtM X "list.append" rAppend := by
  intro pins s σ H x vs v us Q I rx rv h
  obtain ⟨l, xs, y, rfl, rfl, hH, hz, q⟩ := h
  cases rx
  obtain ⟨u, rfl, ru⟩ := rv.one
  obtain ⟨z, its, n, r, hl, e⟩ := I.lstM hH
  refine call_meets F.slot_list_append ⟨_, e, rfl⟩ F.entry_list_append (F.args_list_append_2 _ _) (PySem.list_append l its.toArray n u (by rw [List.size_toArray]; omega)) ⟨e, ?_⟩
  refine ⟨.non, _, I.lset (its' := its ++ [u]) hH e (by simp) (r.append (.cons ru .nil)) ?_, rfl, q⟩
  rw [List.length_append, List.length_singleton]
  omega
def rExtend : V → List V → Hp → VK → Prop := fun x vs H Q => ∃ l b xs zs, x = .ref l ∧ vs = [.ref b] ∧ H l = some (.lst xs) ∧ H b = some (.lst zs) ∧ xs.length + zs.length ≤ sizeLine ∧ Q .non (upd H l (.lst (xs ++ zs)))
theorem mt_extend : MtM X "list.extend" rExtend := by
  intro pins s σ H x vs v us Q I rx rv h
  obtain ⟨l, b, xs, zs, rfl, rfl, hH, hB, hz, q⟩ := h
  cases rx
  obtain ⟨u, rfl, ru⟩ := rv.one
  cases ru
  obtain ⟨z, its, n, r, hl, e⟩ := I.lstM hH
  obtain ⟨z2, its2, n2, r2, hl2, e2⟩ := I.lstM hB
  have hsz : its.toArray.size + its2.toArray.size ≤ sizeLine := by rw [List.size_toArray, List.size_toArray]; omega
  have hlong : ¬ (!its.toArray.isEmpty && Builtin.List.listTooLong (its.toArray.size + its2.toArray.size)) = true := by
    rw [notLongL hsz, Bool.and_false]
    exact Bool.false_ne_true
  refine call_meets F.slot_list_extend ⟨_, e, rfl⟩ F.entry_list_extend (F.args_list_extend_2 _ _)
    (AutoSeq1.list_extend_list_list_0 l its.toArray n b its2.toArray n2 hlong (by rw [List.size_toArray]; omega) (by omega)) ⟨e, e2, ?_⟩
  refine ⟨.non, _, I.lset (its' := its ++ its2) hH e (by simp) (r.append r2) ?_, rfl, q⟩
  rw [List.length_append]
  omega
def rPop : V → List V → Hp → VK → Prop := fun x vs H Q => ∃ l xs y, x = .ref l ∧ vs = [] ∧ H l = some (.lst xs) ∧ xs[xs.length - 1]? = some y ∧ Q y (upd H l (.lst xs.dropLast))
theorem mt_pop : MtM X "list.pop" rPop := by
  intro pins s σ H x vs v us Q I rx rv h
  obtain ⟨l, xs, y, rfl, rfl, hH, hy, q⟩ := h
  cases rx
  have hus := rv.zero
  subst hus
  obtain ⟨z, its, n, r, hl, e⟩ := I.lstM hH
  obtain ⟨u, hu, ru⟩ := r.get hy
  have hy' : its.toArray[its.toArray.size - 1]? = some u := by
    show its.toArray[its.length - 1]? = some u
    rw [← Array.getElem?_toList, ← hl]
    exact hu
  refine call_meets F.slot_list_pop ⟨_, e, rfl⟩ F.entry_list_pop (F.args_list_pop_1 _) (MeetsSeq.list_pop_last l its.toArray n u hy' (by rw [List.size_toArray]; omega)) ⟨e, ?_⟩
  refine ⟨y, _, I.lset (its' := its.dropLast) hH e ?_ r.dropLast ?_, ru, q⟩
  · show its.toArray.eraseIdxIfInBounds (its.toArray.size - 1) = its.dropLast.toArray
    rw [List.size_toArray, List.eraseIdxIfInBounds_toArray, erase_last]
  · rw [List.length_dropLast]
    omega
/-! ### list + list, list += list, list * int -/
def rCat : R2 := fun x y H Q => ∃ l b xs zs, x = .ref l ∧ y = .ref b ∧ H l = some (.lst xs) ∧ H b = some (.lst zs) ∧ xs.length + zs.length ≤ sizeLine ∧ ∀ p, H p = none → Q (.ref p) (upd H p (.lst (xs ++ zs)))
theorem op_cat : OpR X (binaryOp .Add) rCat := by
  intro pins s σ H x y v u Q I rx ry h
  obtain ⟨l, b, xs, zs, rfl, rfl, hH, hB, hz, q⟩ := h
  cases rx
  cases ry
  obtain ⟨z, its, n, r, hl, e⟩ := I.lstM hH
  obtain ⟨z2, its2, n2, r2, hl2, e2⟩ := I.lstM hB
  refine PySem.P.add_list e e2 ?_ (by rw [List.size_toArray, List.size_toArray]; omega)
  have ea : its.toArray ++ its2.toArray = (its ++ its2).toArray := by simp
  rw [ea]
  exact ⟨.ref _, _, I.lnew (t' := s.toks) (r.append r2) (by rw [List.length_append]; omega), rfl, q _ I.fresh⟩
/-! ### del xs[i] -/
end
/-! ### xs[a:b] = ys -/
section
variable {prog : Program} {w : World} {A : Around} {E : Value → Shared → Prop} {s : Shared}
set_option maxRecDepth 100000 in
end
section
variable {X : Cx}
end
end L2
namespace Att
open PySem PySem.W PySem.Calls PyProof.Rows
/-! ### the script -/
theorem ints_of_wellAll {P : Params} {h : Heap} : ∀ (ns : List Int) (vs : List Value), WellAll P h vs (ns.map WData.int) → IntsAre vs ns := by
  intro ns
  induction ns with
  | nil =>
    intro vs w
    rw [List.map_nil] at w
    cases w
    exact .nil
  | cons n ns ih =>
    intro vs w
    rw [List.map_cons] at w
    cases w with
    | cons a b =>
      cases a
      exact .cons _ _ (ih _ b)
theorem script_of {l : OpenLaw} {n : Nat} (hn : l.most = some n) {P : Params} {h : Heap} {args : List WData} {vals : List Value}
    (hpre : l.row.toRowW.claim.pre args = true) (hwl : WellAll P h vals args) :
    ∃ a vs ns, vals = [Value.ref a] ∧ args = [WData.list (ns.map WData.int)] ∧ h.get? a = some { cls := .type "list", data := .seq vs.toArray } ∧ IntsAre vs ns ∧ ns.length ≤ n := by
  have hsh : WShape.hasAll [] args [.list .int] = true := (pre_splitW hpre).1
  have hc : l.pre.holds [] { args := args } = true := (pre_splitW hpre).2
  obtain ⟨d, r, rfl, h1, h2⟩ := hasAllW_cons hsh
  obtain rfl := hasAllW_nil h2
  obtain ⟨xs, rfl, h3⟩ := hasW_list h1
  obtain ⟨ns, rfl⟩ := items_int h3
  have hlen : ns.length ≤ n := by
    unfold OpenLaw.pre at hc
    have h4 : (WTm.not (.lt (.lit (.int (n : Int))) (.len (.arg 0)))).holds [] { args := [.list (ns.map .int)] } = true := by
      have h4 := (holds_andW hc).1
      rw [hn] at h4
      exact h4
    have h5 := condW_of h4 (w_not (w_lt w_lit (w_len_list (w_arg rfl))))
    rw [List.length_map] at h5
    refine Nat.le_of_not_lt fun q => ?_
    have q' : (n : Int) < ((ns.length : Nat) : Int) := by omega
    first
      | (rw [decide_eq_true q'] at h5; exact absurd h5 (by decide))
      | (simp at h5; omega)
  cases hwl with
  | cons w1 w2 =>
    cases w2
    cases w1 with
    | list ho hall => exact ⟨_, _, ns, rfl, rfl, ho, ints_of_wellAll ns _ hall, hlen⟩
theorem post_true (l : OpenLaw) (args : List WData) : l.row.toRowW.claim.post args (.bool true) args = true :=
  postW_of (r := l.row.toRowW) (X := (true == true))
    (show WShape.has [] (.bool true) .bool = true by first | rfl | decide | simp [WShape.has, WShape.arms, WShape.armsAll])
    (show (WTm.eq .res (.lit (.bool true))).value [] { args := args, res := some (.bool true), after := args } = some (.bool (true == true)) from w_eq_bool (w_res rfl) w_lit) rfl
/-! ### the attachment: holds_open's last premise (the goal 'hc' behind k_head) from a wpAny of the law's body -/
/-- the same from a codeAny of the CALL (for a layer whose function contracts speak of calls) -/
theorem attach_call {l : OpenLaw} {n : Nat} {q : Program} {loose : List Str} {XP : (Str → Option Value) → Heap → Prop} {YP : World → Heap → Prop} {d : DefRec}
    (hn : l.most = some n) (hdf : d.params.defaults = [])
    (call : ∀ (w : World) (s₀ s₁ : Shared) (mg mb : Str → Option Value) (fa : Addr) (o : Obj) (pm cd doc : Value) (a : Addr) (vs : List Value) (ns : List Int),
      Ground q loose [] XP w s₀ mg mb s₁.heap → YP w s₁.heap →
      s₁.heap.get? fa = some o → o.data = .func (docDef d.name d.params d.body d.scope pm cd doc) → s₁.heap.CodeRec cd d.name → mg d.name = some (.ref fa) →
      s₁.heap.get? a = some { cls := .type "list", data := .seq vs.toArray } → IntsAre vs ns → ns.length ≤ n → s₁.gens = #[] →
      codeAny (model l.prog w) callerA (.call (.ref fa) ⟨[.ref a], []⟩) (fun r s' => r = .ok (.ret (.bool true)) ∧ OldK s₁.heap s'.heap ∧ s'.os = s₁.os ∧ AllBare s'.gens) s₁) :
    WalkO q loose XP YP l.row.toRowW d [] (fun f vs => PySem.call f vs) := by
  intro w s₀ s₁ mg mb G Y fa o pm cd doc dV kV ho hd hcd hD hmg hg args vals as hpre hlay hrd hwl hlo
  obtain rfl : dV = .none := Dflts.none hD hdf
  obtain rfl : kV = .none := Dflts.noKw hD
  obtain ⟨a, vs, ns, rfl, rfl, hobj, hints, hlen⟩ := script_of hn hpre hwl
  refine enter_call (codeAny_mono (call w s₀ s₁ mg mb fa o pm cd doc a vs ns G Y ho (fd_plain hd) hcd hmg hobj hints hlen hg) fun r s' hq => ?_)
  obtain ⟨rfl, h2, h3, h4⟩ := hq
  exact ⟨.inl ⟨.bool true, .bool true, [], rfl, fun _ => rfl, .bool true, post_true l _, fun _ => ⟨List.Pairwise.nil, fun _ hm => (nomatch hm)⟩⟩, h2, h3, h4⟩
/-! ### rules over ANY heap (no ledger) from facts about the written part K: the library's own take a ledger (News) for what they write -/
section
variable {prog : Program} {w : World} {A : Around} {E : Value → Shared → Prop} {s : Shared} {K : Frag}
/-! the whole heap as the ledger: makes every rule that writes through a ledger a rule over any heap -/
def ledger (h : Heap) (L d : Addr) : List (Addr × Obj) := (List.range h.objs.size).filterMap fun a => if a = L ∨ a = d then none else (h.get? a).map fun o => (a, o)
end
end Att
namespace L2
open PySem PySem.Spec PyProof.Rows
theorem vals_ints : ∀ {vs : List Value} {ns : List Int}, IntsAre vs ns → Vals (ns.map V.int) vs
  | _, _, .nil => .nil
  | _, _, .cons n t h => .cons ⟨t, rfl⟩ (vals_ints h)
/-- nothing is tracked but the script, known to the object (or it is an object of the module) -/
def Only (H : Hp) : Prop := ∀ b, H b = none ∨ ∃ o xs, H b = some (.frz o (.lst xs))
/-- THE HEAD: the law's promise, at the heap behind the top. F, the promise of the law's def, may use that base is part of the heap (so K.In base, base.Ns mainGlobals mg stand in Mod) -/
theorem law_call {P : Program} {w : World} {K : PySem.W.Frag} {mg mb : Str → Option Value} {CX : CXT} {k : Nat} {fa a : Addr} {fd : FuncData} {x : Str} {sp : Sp} {s₁ : Shared} {vs : List Value} {ns : List Int}
    (KX : K.In s₁.heap) (hns : s₁.heap.Ns mainGlobals mg) (hb : s₁.heap.Ns builtinsNs mb) (hbb : ∀ x : Str, x ≠ "__name__" → mb x = bootBuiltins x) (hlim : s₁.heap.NoLimit) (hg : s₁.gens = #[])
    (ha : s₁.heap.get? a = some { cls := .type "list", data := .seq vs.toArray }) (hi : IntsAre vs ns) (hl : ns.length ≤ sizeLine) (hr : Room k callerA)
    (F : ∀ base : Heap, K.In base → base.Ns mainGlobals mg → FnOk P w K mg base CX k fa fd [x] sp) (hbind : ∀ (s : Shared) (u : Value), BindsTo s fd ⟨[u], []⟩ [(x, u)])
    (hsp : ∀ H : Hp, Only H → SqL K H a (ns.map V.int) → sp [.ref a] H (fun v _ => v = .bl true) fun _ _ _ => False)
    (hCX : ∀ H e s', CX [] H s₁ (fun _ _ _ => False) e s' → False) :
    codeAny (model P w) callerA (.call (.ref fa) ⟨[.ref a], []⟩) (fun r s' => r = .ok (.ret (.bool true)) ∧ OldK s₁.heap s'.heap ∧ s'.os = s₁.os ∧ AllBare s'.gens) s₁ := by
  have rv := vals_ints hi
  have lenV := hi.length
  -- from an abstract heap in which nothing but the script may be tracked
  have core : ∀ H : Hp, Only H → SqL K H a (ns.map V.int) → HOk P w H s₁.heap → (∀ b, H b ≠ none → b = a) → (H a ≠ none → K.lookup a = none) →
      codeAny (model P w) callerA (.call (.ref fa) ⟨[.ref a], []⟩) (fun r s' => r = .ok (.ret (.bool true)) ∧ OldK s₁.heap s'.heap ∧ s'.os = s₁.os ∧ AllBare s'.gens) s₁ := by
    intro H hO hS hok hA hK
    have base_of : ∀ {b : Addr} {o : Obj}, s₁.heap.get? b = some o → H b = none → (hidT s₁.heap H).get? b = some o := fun e n => hidT_get e n
    have noA : ∀ {b : Addr} {o : Obj} {es : Array DictEntry} {ep : Nat}, s₁.heap.get? b = some o → o.data = .dict es ep → H b = none := fun {b o es ep} e d => by
      cases q : H b with
      | none => rfl
      | some u =>
        have e' : b = a := hA b (by rw [q]; simp)
        subst e'
        rw [ha] at e; cases e
        have d' : Data.seq vs.toArray _ = Data.dict es ep := d
        cases d'
    have nsK : ∀ {b : Addr} {m : Str → Option Value}, s₁.heap.Ns b m → (hidT s₁.heap H).Ns b m := fun {b m} ⟨o, es, ep, e, d, r⟩ => ⟨o, es, ep, base_of e (noA e d), d, r⟩
    have hKb : K.In (hidT s₁.heap H) := fun b o e => base_of (KX b o e) (by
      cases q : H b with
      | none => rfl
      | some u =>
        have e' : b = a := hA b (by rw [q]; simp)
        subst e'
        rw [hK (by rw [q]; simp)] at e; cases e)
    have hM : Mod K mg (hidT s₁.heap H) := ⟨hKb, nsK hns, ⟨mb, nsK hb, hbb⟩, let ⟨mc, h1, h2⟩ := hlim; ⟨mc, nsK h1, h2⟩⟩
    have e0 : Env0 P w K mg (hidT s₁.heap H) callerA [] s₁ H := ⟨rfl, hM, fun b o e => of_hidT e, Nat.le_of_eq (hidT_size _ _), trivial, fun b hb => absurd (show b ∈ ([] : List Addr) from hb) (by simp), hok, .of_eq hg⟩
    refine codeAny_mono ((F _ hKb (nsK hns)).run callerA [] s₁ H ⟨[.ref a], []⟩ [.ref a] [.ref a] _ _ hr e0 (hbind s₁ (.ref a)) (.cons rfl .nil) (hsp H hO hS)) fun r s' h => ?_
    cases r with
    | error e => exact (hCX H e s' h).elim
    | ok fl =>
      cases fl with
      | next => exact False.elim h
      | brk => exact False.elim h
      | cont => exact False.elim h
      | ret u =>
        obtain ⟨v, H', os, bare, un, hok', r', q⟩ := h
        have q' : v = .bl true := q
        subst q'
        obtain rfl : u = Value.bool true := r'
        refine ⟨rfl, OldK.of_keep fun b o e => ?_, os, bare⟩
        cases q : H b with
        | none => exact un.keep b o e q (by intro z; exact absurd (show b ∈ ([] : List Addr) from z) (by simp)) (by simp)
        | some u =>
          rcases hO b with z | ⟨ob, xs, z⟩
          · rw [q] at z; cases z
          · have z2 := un.frzs b ob _ z
            obtain ⟨e1, _⟩ := hok b _ z
            obtain ⟨e2, _⟩ := hok' b _ z2
            rw [e] at e1; cases e1
            exact e2
  cases hk : K.lookup a with
  | some o =>
    -- the script is one of the module's own objects
    have e := KX a o hk
    rw [ha] at e
    cases e
    refine core (fun _ => none) (fun _ => .inl rfl) (.inr ⟨_, vs.toArray, _, hk, rfl, rfl, rfl, by rw [List.size_toArray, lenV]; exact hl, by simpa using rv⟩) (fun b u z => by have z' : (none : Option HO) = some u := z; cases z') (fun b z => absurd rfl z) fun z => absurd rfl z
  | none =>
    refine core (fun b => if b = a then some (.frz { cls := .type "list", data := .seq vs.toArray } (.lst (ns.map V.int))) else none) (fun b => ?_) (.inl (.inr ⟨{ cls := .type "list", data := .seq vs.toArray }, if_pos rfl⟩)) (fun b u z => ?_) (fun b z => ?_) fun _ => hk
    · by_cases hb : b = a
      · exact .inr ⟨_, _, if_pos hb⟩
      · exact .inl (if_neg hb)
    · by_cases hb : b = a
      · have z' := (if_pos hb).symm.trans z
        cases z'
        subst hb
        exact ⟨ha, by rw [List.length_map]; exact hl, vs, _, rv, ha⟩
      · have z' := (if_neg hb).symm.trans z
        cases z'
    · by_cases hb : b = a
      · exact hb
      · exact absurd (if_neg hb) z
end L2
namespace L2
open PySem PySem.Spec PyProof.Rows
abbrev KOf {K : PySem.W.Frag} {h : Heap} (_ : K.In h) : PySem.W.Frag := K
/-- the goal that k_head leaves (case hc), from the law's promise. F gives the function object fd (K's own) once, then the promise over every base -/
theorem walk_of {l : PySem.W.OpenLaw} {n k : Nat} {q : Program} {loose : List Str} {XP : (Str → Option Value) → Heap → Prop} {YP : World → Heap → Prop} {d : DefRec} {K : Params → PySem.W.Frag} {CX : World → CXT} {sp : World → Sp} {x : Str}
    (hn : l.most = some n) (hn2 : n ≤ sizeLine) (hdf : d.params.defaults = []) (hr : Room k callerA)
    (hY : ∀ (w : World) (h : Heap), YP w h → (K w.params).In h)
    (F : ∀ (w : World) (mg : Str → Option Value) (fa : Addr) (h : Heap), (K w.params).In h → h.Ns mainGlobals mg → mg d.name = some (.ref fa) →
      ∃ fd : FuncData, (∀ (s : Shared) (u : Value), BindsTo s fd ⟨[u], []⟩ [(x, u)]) ∧
        ∀ base : Heap, (K w.params).In base → base.Ns mainGlobals mg → FnOk l.prog w (K w.params) mg base (CX w) k fa fd [x] (sp w))
    (hsp : ∀ (w : World) (H : Hp) (a : Addr) (ns : List Int), ns.length ≤ n → Only H → SqL (K w.params) H a (ns.map V.int) → sp w [.ref a] H (fun v _ => v = .bl true) fun _ _ _ => False)
    (hCX : ∀ (w : World) (H : Hp) (s : Shared) (e : Value) (s' : Shared), CX w [] H s (fun _ _ _ => False) e s' → False) :
    PySem.W.WalkO q loose XP YP l.row.toRowW d [] (fun f vs => PySem.call f vs) := by
  refine Att.attach_call hn hdf fun w s₀ s₁ mg mb fa o pm cd doc a vs ns G Y ho hd hcd hmg hobj hints hlen hg => ?_
  have KX := hY w _ Y
  obtain ⟨fd, hb, hF⟩ := F w mg fa _ KX G.T.g hmg
  exact law_call KX G.T.g G.T.b G.T.builtins G.T.nolimit hg hobj hints (Nat.le_trans hlen hn2) hr hF hb (fun H hO hS => hsp w H a ns hlen hO hS) fun H e s' => hCX w H s₁ e s'
end L2
/- THE LAST THEOREM (shape; LID, My.* are yours):
   My.Adr: a structure of the addresses that your layer names (classes, functions); My.Txt K t: a structure (Prop) of the equations over K;
   My.txt_mk : {K} {implicit addresses ..} (e1 : nsIn K mainGlobals "law" = some (some (.ref f))) (e2 : K.lookup f = some ⟨oc, od, .func (fnOf "law" "law" params body scope dV kV doc pm an cdv ct), sl⟩) (e3 : codeIn K cdv "law" = true) .. : ∃ t, My.Txt K t
set_option maxRecDepth 100000 in
set_option maxHeartbeats 0 in
theorem PySem.Challenge.cw_LID_holds : PySem.Challenge.rw_LID.Holds := by
  w_on; o_law; k_head; (case hw => w_witness2)
  k_fill
  refine L2.walk_of (l := PySem.Challenge.rw_LID) (n := 63) (k := 40) (x := "script") (CX := fun w => ..) (sp := fun _ => My.sp_law) rfl (by decide) rfl ⟨rfl, by decide, by decide⟩ (fun w h Y => PySem.W.kIn_of Y) ?F ?S ?C
  case F =>
    intro w mg fa h KX G hmg
    have T : ∃ t, My.Txt (L2.KOf KX) t := by
      dsimp only [L2.KOf]                          -- K must stand as «<heap const> w.params» for k_is
      refine' My.txt_mk ?e1 ?e2 ?e3 ..
      (case e1 => PySem.W.k_is)                    -- in the order: a name -> its address -> its object -> its parts
      (case e2 => PySem.W.k_is)
      ..
    obtain ⟨t, T⟩ := T
    have e0 := hmg.symm.trans (PySem.W.mg_of KX G T.law)
    cases e0                                       -- fa is the law's own address
    exact ⟨_, fun s u => .of_eq rfl, fun base kb nb => My.law_fn T kb nb⟩     -- if «.of_eq rfl» comes too early: refine' ⟨_, ?b, fun base kb nb => My.law_fn T kb nb⟩; exact fun s u => .of_eq rfl
  case S => exact fun w H a ns hl hO hS => ..
  case C => exact ..
(the tactic k_is has no namespace: write k_is) -/
/-! SHORT WORDS over the layer: a def of the text, its body, what a loop and a test want. -/
namespace L2
open PySem PySem.Spec PyProof.Rows
/-! ### the text by places -/
def defArgs (s : Stmt) : Arguments := match s with
  | .FunctionDef _ a _ _ _ _ _ _ _ _ => a
  | _ => { posonlyargs := [], args := [], vararg := none, kwonlyargs := [], kw_defaults := [], kwarg := none, defaults := [] }
def defBody (s : Stmt) : List Stmt := match s with
  | .FunctionDef _ _ b _ _ _ _ _ _ _ => b
  | _ => []
def defScope (s : Stmt) : Scope := match s with
  | .FunctionDef _ _ _ _ _ _ sc _ _ _ => sc
  | _ => { kind := .function, names := [], isGenerator := false, isCoroutine := false }
/-! ### no exception leaves a def -/
abbrev CX0 : CXT := fun _ _ _ _ _ _ => False
abbrev E0 : XK := fun _ _ _ => False
theorem pass0 {X : Cx} : Passes CX0 X E0 := fun _ _ _ _ _ _ _ h => h.elim
/-! ### a def (or method) of the text as it stands behind the top -/
structure Fun (K : PySem.W.Frag) (x qual : Str) (st : Stmt) (f : Addr) (fd : FuncData) : Prop where
  ex : ∃ (oc : Value) (od : Option Addr) (kV doc pm : Value) (an : Option Addr) (cdv ct : Value) (osl : Array (Option Value)),
    fd = PySem.W.fnOf x qual (defArgs st) (defBody st) (defScope st) .none kV doc pm an cdv ct ∧ K.lookup f = some ⟨oc, od, .func fd, osl⟩ ∧ PySem.W.codeIn K cdv qual = true
  kp : PySem.W.keepIn K (.ref f) = true
section
variable {P : Program} {w : World} {K : PySem.W.Frag} {mg : Str → Option Value} {base : Heap}
/-- THE RULE for a def: its body as a term of rules, and the reading of that term -/
theorem Fun.ok {x qual : Str} {st : Stmt} {f : Addr} {fd : FuncData} {N ps : List Str} {k : Nat} {sp : Sp} (F : Fun K x qual st f fd) (S : FnScope N ps (defScope st)) (len : ∀ vs H Q E, sp vs H Q E → vs.length = ps.length)
    (hbody : ∀ (cdv : Value) (A : Around) (outer : List Env) (s : Shared) (H : Hp) (vs : List V) (Q : VK) (E : XK), Room k (A.deeper (envOfC qual (defScope st) s.heap.objs.size f cdv)) → sp vs H Q E →
      ∃ t, PSs (cxOf CX0 P w K mg base N qual (defScope st) f cdv A outer s H E).nox (defBody st) t ∧ t { nx := fun _ H' => Q .non H', rt := Q } (start N vs) H) : FnOk P w K mg base CX0 (k + 1) f fd ps sp := by
  obtain ⟨oc, od, kV, doc, pm, an, cdv, ct, osl, rfl, lk, hcd⟩ := F.ex
  refine fn_of lk hcd S len fun A outer s H vs Q E hr hsp => ?_
  obtain ⟨t, h, q⟩ := hbody cdv A outer s H vs Q E hr hsp
  exact ⟨t, h.nox, q⟩
/-- how its arguments bind (no defaults): h is «fun _ _ _ _ _ _ us hl => match us, hl with | [_, _], _ => rfl», one _ a parameter -/
theorem Fun.binds {x qual : Str} {st : Stmt} {f : Addr} {fd : FuncData} {ps : List Str} (F : Fun K x qual st f fd)
    (h : ∀ (kV doc pm : Value) (an : Option Addr) (cdv ct : Value) (us : List Value), us.length = ps.length → bindArgs (PySem.W.fnOf x qual (defArgs st) (defBody st) (defScope st) .none kV doc pm an cdv ct) ⟨us, []⟩ = pure (ps.zip us)) : Binds K fd ps [] := by
  obtain ⟨oc, od, kV, doc, pm, an, cdv, ct, osl, rfl, lk, hcd⟩ := F.ex
  exact .all (h kV doc pm an cdv ct)
theorem fun_mk {x qual : Str} {st : Stmt} {f : Addr} {oc : Value} {od an : Option Addr} {osl : Array (Option Value)} {kV doc pm cdv ct : Value} (l : K.lookup f = some ⟨oc, od, .func (PySem.W.fnOf x qual (defArgs st) (defBody st) (defScope st) .none kV doc pm an cdv ct), osl⟩)
    (c : PySem.W.codeIn K cdv qual = true) (k : PySem.W.keepIn K (.ref f) = true) : Fun K x qual st f (PySem.W.fnOf x qual (defArgs st) (defBody st) (defScope st) .none kV doc pm an cdv ct) := ⟨⟨oc, od, kV, doc, pm, an, cdv, ct, osl, rfl, l, c⟩, k⟩
end
/-! ### expressions in short: the name that stands in the i-th slot -/
section
variable {X : Cx}
theorem pv (i : Nat) {x : Str} {pos : Pos} (hN : X.N[i]? = some x := by rfl) (hv : Vis X.env.scope x := by first | exact Or.inl rfl | exact Or.inr (Or.inl rfl) | exact Or.inr (Or.inr rfl)) (hd : (x == ("__debug__" : Str)) = false := by decide)
    (hcd : (x == ("__classdict__" : Str)) = false := by decide) : PE X (.Name x pos) (tVar i) := pe_var hN hv hd hcd
end
/-! ### tests -/
theorem iteF {A B : Prop} (h : B) : if false = true then A else B := by
  rw [if_neg Bool.false_ne_true]
  exact h
theorem iteT {A B : Prop} (h : A) : if true = true then A else B := by
  rw [if_pos rfl]
  exact h
/-! ### heaps -/
end L2
namespace L2
open PySem PySem.Spec PyProof.Rows
def Xo (lo : Nat) (e C dx : Addr) (fl : Option Value) (H : Hp) (h : Heap) : Prop :=
  lo ≤ e ∧ H e = none ∧ ∃ oe vs, h.get? e = some oe ∧ oe.cls = .ref C ∧ oe.dict = some dx ∧ oe.data = .fields vs ∧ 1 < vs.size ∧
    match fl with
    | none => vs[1]? = some .none
    | some v => ∃ T oT ts, vs[1]? = some (.ref T) ∧ lo ≤ T ∧ T ≠ e ∧ H T = none ∧ h.get? T = some oT ∧ oT.data = .fields ts ∧ ts[3]? = some v
end L2
namespace L2
open PySem PySem.Spec PyProof.Rows
section
variable {X : Cx}
/-- // by a positive divisor below 2^64 -/
theorem op_fdivW : OpR X (binaryOp .FloorDiv) (rI (fun _ j => 0 < j ∧ j < 2 ^ 64) fun i j => .int (i / j)) := by
  refine opI fun i j t u s Q E hc h => ?_
  obtain ⟨h0, h1⟩ := hc
  have e : i.fdiv j = i / j := Int.fdiv_eq_ediv_of_nonneg i (Int.le_of_lt h0)
  refine floordiv_int (by omega) (by rw [e]; exact h) (.inl (PyProof.noPylong_of_log2 ?_))
  have h2 : j.natAbs < 2 ^ 64 := by omega
  have h3 : j.natAbs ≠ 0 := by omega
  have := (Nat.log2_lt h3).mpr h2
  omega
/-- t + u of tuples, whatever -/
theorem cat_tup0 {prog : Program} {w : World} {A : Around} {E : Value → Shared → Prop} {s : Shared} {t b : Addr} {ws : List Value} {Q : Value → Shared → Prop} (ht : IsTup s.heap t #[]) (hb : IsTup s.heap b ws.toArray)
    (h1 : Q (.ref b) s) : wpAny (model prog w) A (binaryOp .Add (.ref t) (.ref b)) Q E s := by
  obtain ⟨⟨cls, dd, data, sl⟩, ho, hc, n, hd⟩ := id ht
  obtain ⟨⟨cls2, dd2, data2, sl2⟩, ho2, hc2, n2, hd2⟩ := id hb
  simp only at hc hd hc2 hd2
  subst hc hd hc2 hd2
  exact concat_meets ⟨_, ho, rfl⟩ ⟨_, ho2, rfl⟩ noFill_tuple_add seq_tuple_add PySem.F.slot_tuple_add PySem.F.entry_tuple_add (PySem.F.args_tuple_add_2 _ _)
      (tuple_addW0 t b #[] ws.toArray n n2 dd dd2 sl sl2 (by simp)) ⟨ho, ho2, h1⟩
def rCatT0 (K : PySem.W.Frag) : R2 := fun x y H Q => ∃ a b ys, x = .ref a ∧ y = .ref b ∧ SqT K H a [] ∧ SqT K H b ys ∧ Q (.ref b) H
theorem op_catT0 : OpR X (binaryOp .Add) (rCatT0 X.K) := by
  intro pins s σ H x y v u Q I rx ry h
  obtain ⟨a, b, ys, rfl, rfl, ha, hb, q⟩ := h
  cases rx
  cases ry
  obtain ⟨its, r1, p1, _⟩ := I.tuple ha
  obtain ⟨its2, r2, p2, _⟩ := I.tuple hb
  cases r1
  exact cat_tup0 p1 p2 ⟨.ref b, H, I, rfl, q⟩
end
end L2
namespace HT
open PySem PyProof.Rows
section
variable {prog : Program} {w : World} {A : Around} {E : Value → Shared → Prop} {s : Shared}
theorem getItem_tuple_whole {t sl : Addr} {items : Array Value} {vl vu : Value} {lo hi : Option Int} {Q : Value → Shared → Prop} (ht : IsTup s.heap t items) (hs : s.heap.IsSliceOf sl vl vu .none) (pl : IsPart vl lo) (pu : IsPart vu hi)
    (hw : sIx items.size 0 lo = 0 ∧ sIx items.size items.size hi = items.size)
    (h : Q (.ref t) s) : wpAny (model prog w) A (getItem (.ref t) (.ref sl)) Q E s := by
  obtain ⟨os, hos, hcs, hds⟩ := id hs
  have hTs : s.TypeIs (.ref sl) "slice" := ⟨os, hos, hcs⟩
  unfold getItem
  try with_reducible refine wpAny_holding ?_
  first | refine wpAny_bind (wpAny_pure ?_) | skip
  refine wpAny_bind (wpAny_sequenceKey ht.typeIs (by decide) ?_)
  refine wpAny_bind (wpAny_callSpecial?_slot (name := Str.ofString "__getitem__") ht.typeIs PyProof.Rows.slot_tuple_getitem
    (wpAny_call_entry PyProof.Rows.slot_tuple_getitem ht.typeIs entry_tuple_getitem ?_ (args_tuple_getitem _ _)))
  show wpAny _ _ (Builtin.Tuple.tupleItemsOf (.ref t) >>= _) _ _ s
  refine wpAny_bind (tupleItemsOf_ ht ?_)
  refine wpAny_bind (wpAny_typeOf hTs ?_)
  rw [if_pos (by decide)]
  refine wpAny_bind (sliceApplied_gen hs pl pu ?_)
  have hno : ((((sIx items.size 0 lo : Nat) : Int) == 0 && (1 : Int) == 1 && (sIx items.size items.size hi - sIx items.size 0 lo) == items.size) = true) := by
    rw [hw.1, hw.2]; simp
  show wpAny _ _ (if (((sIx items.size 0 lo : Nat) : Int) == 0 && (1 : Int) == 1 && (sIx items.size items.size hi - sIx items.size 0 lo) == items.size) = true then _ else _) _ _ s
  rw [if_pos hno]
  unfold Builtin.Tuple.tupleIsExact
  refine wpAny_bind (wpAny_bind (wpAny_typeOf ht.typeIs ?_))
  refine wpAny_pure ?_
  rw [if_pos (by decide)]
  exact wpAny_bind (wpAny_rule (wpAny_pure ⟨_, rfl, wpAny_pure h⟩))
end
end HT
namespace L2
open PySem PySem.Spec PyProof.Rows
section
variable {X : Cx}
/-- t[lo:hi], the whole of it: t itself -/
def rSlTW (K : PySem.W.Frag) : V → Option Int → Option Int → Hp → VK → Prop := fun x lo hi H Q => ∃ a xs, x = .ref a ∧ SqT K H a xs ∧
  (HT.sIx xs.length 0 lo = 0 ∧ HT.sIx xs.length xs.length hi = xs.length) ∧ Q (.ref a) H
theorem sl_tupW : SlR X (rSlTW X.K) := by
  intro pins s σ H x v vl vu lo hi sl Q I rx hs pl pu h
  obtain ⟨a, xs, rfl, hx, hw, q⟩ := h
  cases rx
  obtain ⟨its, r, ht, hz⟩ := I.tuple hx
  have hlen : its.toArray.size = xs.length := by rw [List.size_toArray]; exact r.length.symm
  refine ⟨"tuple", _, PyProof.Rows.slot_tuple_getitem.lookup, ht.typeIs, ?_⟩
  exact HT.getItem_tuple_whole ht hs pl pu (by rw [hlen]; exact hw) ⟨.ref a, H, I, rfl, q⟩
end
end L2
namespace L2
open PySem PySem.Spec PyProof.Rows
section
variable {X : Cx} {pins : List (Addr × Obj)} {σ : St} {H : Hp} {s : Shared} {h' : Heap} {t' : Nat}
/-- several untracked records of ours have turned, and a new object is laid and tracked -/
theorem Inv.turnLay {ch : List Addr} {a : Addr} {o : HO} (I : Inv X pins σ H s) (hf : ∀ b ∈ ch, FpOk X pins H b) (k : ∀ b ob, b ∉ ch → s.heap.get? b = some ob → h'.get? b = some ob) (hp : s.heap.objs.size ≤ a)
    (new : ObjOk X.prog X.w (upd H a o) h' a o) : Inv X pins σ (upd H a o) { s with heap := h', toks := t' } := by
  have hn : H a = none := I.hok.fresh hp
  have nch : ∀ b u, H b = some u → b ∉ ch := fun b u e hb => by rw [(hf b hb).1] at e; cases e
  have na : ∀ b u, H b = some u → b ≠ a := fun b u e => ne_of_none e hn
  refine I.step (g' := s.gens) (d' := s.drawn) (ch := ch) (fun b hb => ?_) (fun b o _ _ hc e _ => k b o hc e) (fun b o _ _ hc e _ => ⟨o.slots, k b o hc e⟩)
    (fun b o _ e n => by rw [upd_ne (Nat.ne_of_lt (Nat.lt_of_lt_of_le (Heap.lt_size e) hp))]; exact n)
    (fun b o hc e => ⟨o, k b o hc e⟩) (fun b xs e => by rw [upd_ne (na b _ e)]; exact e) (fun b o u e => by rw [upd_ne (na b _ e)]; exact e) (fun b ps e => ⟨#[], by rw [upd_ne (na b _ e), e]; simp⟩) (fun m hm => ?_) (fun b u e => ?_) I.bare
  · obtain ⟨f0, f1, f2, f3, f4, f5⟩ := hf b hb
    exact ⟨f3, f1, f4, f5⟩
  · obtain ⟨ob, es, ep, ho, r⟩ := hm
    exact ⟨ob, es, ep, k _ ob (fun z => (hf _ z).2.1 rfl) ho, r⟩
  · by_cases hb : b = a
    · subst hb; rw [upd_same] at e; cases e; exact new
    · rw [upd_ne hb] at e
      refine (I.hok b u e).stay (fun c v hc q => k c v ?_ q) (fun c q => by rw [upd_ne (na c _ q)]; exact q) fun c xs q => by rw [upd_ne (na c _ q)]; exact q
      rcases hc with z | z
      · rw [z]; exact nch b u e
      · exact nch c _ z
/-- several untracked records of ours have turned -/
theorem Inv.turns {ch : List Addr} (I : Inv X pins σ H s) (hf : ∀ b ∈ ch, FpOk X pins H b) (k : ∀ b ob, b ∉ ch → s.heap.get? b = some ob → h'.get? b = some ob) : Inv X pins σ H { s with heap := h', toks := t' } := by
  have nch : ∀ b u, H b = some u → b ∉ ch := fun b u e hb => by rw [(hf b hb).1] at e; cases e
  refine I.step (g' := s.gens) (d' := s.drawn) (ch := ch) (fun b hb => ?_) (fun b o _ _ hc e _ => k b o hc e) (fun b o _ _ hc e _ => ⟨o.slots, k b o hc e⟩)
    (fun b o _ e n => n) (fun b o hc e => ⟨o, k b o hc e⟩) (fun b xs e => e) (fun b o u e => e) (fun b ps e => ⟨#[], by rw [e]; simp⟩) (fun m hm => ?_) (fun b u e => ?_) I.bare
  · obtain ⟨f0, f1, f2, f3, f4, f5⟩ := hf b hb
    exact ⟨f3, f1, f4, f5⟩
  · obtain ⟨ob, es, ep, ho, r⟩ := hm
    exact ⟨ob, es, ep, k _ ob (fun z => (hf _ z).2.1 rfl) ho, r⟩
  · refine (I.hok b u e).stay (fun c v hc q => k c v ?_ q) (fun c q => q) fun c xs q => q
    rcases hc with z | z
    · rw [z]; exact nch b u e
    · exact nch c _ z
end
/-! ### enumerate(list) -/
theorem boot_enum : bootBuiltins "enumerate" = some (.type "enumerate") := by decide +kernel
/-! ### reversed(list) -/
/-! ### zip(list, list) -/
end L2
namespace L2
open PySem PySem.Spec PyProof.Rows
/-! ### [e for t in it if c] -/
/-- what of the text a block must have -/
structure CompScope (scope : Scope) : Prop where
  kind : scope.kind = .function
  cell : ∀ y ∈ scope.names, y.2 ≠ .cell
  names : ∀ y ∈ scope.names, y.2 = .local → scope.names.lookup y.1 = some .local
section
variable {X : Cx} {pins : List (Addr × Obj)} {σ : St} {H : Hp} {s : Shared} {N : List Str} {scope : Scope} {cl : List (Str × Addr)} {C : Addr} {fp : List Addr} {capt : List (Option Nat)}
end
end L2
namespace L2
open PySem PySem.Spec PyProof.Rows
section
variable {X : Cx} {elt tg iter : Expr} {ifs : List Expr} {scope : Scope} {pos : Pos} {N : List Str} {capt : List (Option Nat)} {wi : TI} {g : TG} {tt : TT} {te : TE}
end
end L2
namespace M
open PySem PySem.Spec L2
/-! ### data, store, results -/
/-- data: texts are their codes, tuples are trees, a list or dict is a place of the store -/
inductive D where
  | non | bl (b : Bool) | int (i : Int) | str (cs : List Nat) | tup (xs : List D) | loc (n : Nat)
instance : Inhabited D := ⟨.non⟩
/-- a lambda's text: its qualified name, its parts, the names that it takes from around -/
structure LamS where
  qual : Str
  params : Arguments
  body : Expr
  scope : Scope
  caps : List Str
inductive MO where
  | lst (xs : List D) | frz (xs : List D) | dic (kvs : List (List Key × D)) | dkc (kvs : List (Key × D))
  /-- a dict with plain keys that is only read -/
  | dkf (kvs : List (Key × D))
  /-- a dict with tuples as keys that is only read -/
  | dtf (kvs : List (List Key × D))
  /-- an instance of a class of the module -/
  | ins (c : Str) (fs : List (Str × D))
  /-- the table of the code of a def of the module that makes lambdas -/
  | tab (x : Str)
  /-- a lambda, the j-th of the text, and what it took from around -/
  | clo (j : Nat) (l : LamS) (ds : List D)
  /-- an exception that was caught: its class's name and its field -/
  | exc (c : String) (d : D)
  /-- a place of which nothing is told -/
  | hid
abbrev Stor := List MO
abbrev MEnv := List (Option D)
/-- an exception: its class's name and its field -/
structure Xc where
  cls : String
  fld : D
inductive R (α : Type) where
  | ok (a : α) (st : Stor) | err (x : Xc) (st : Stor) | bad
/-- so that the simplifier rewrites by it, and leaves nothing for the kernel to unfold -/
theorem by_rfl {α : Sort u} {a b : α} (h : a = b) : a = b := h
def R.bind {α β : Type} (r : R α) (f : α → Stor → R β) : R β := match r with
  | .ok a st => f a st
  | .err x st => .err x st
  | .bad => .bad
@[simp] theorem R.bind_ok {α β : Type} (a : α) (st : Stor) (f : α → Stor → R β) : (R.ok a st).bind f = f a st := by_rfl rfl
@[simp] theorem R.bind_err {α β : Type} (x : Xc) (st : Stor) (f : α → Stor → R β) : (R.err x st : R α).bind f = .err x st := by_rfl rfl
@[simp] theorem R.bind_bad {α β : Type} (f : α → Stor → R β) : (R.bad : R α).bind f = .bad := by_rfl rfl
abbrev strOf (cs : List Nat) : Str := ⟨cs.toArray⟩
/-! ### how the abstract heap bears them -/
/-- a made tuple may stand where a tuple is asked -/
instance sqTOf {K : PySem.W.Frag} {H : Hp} {a : Addr} {xs : List V} : CoeTail (H a = some (.tup xs)) (SqT K H a xs) := ⟨SqT.of⟩
/-- items that make no key of a dict -/
def noKey : List D → Bool
  | [] => false
  | .int _ :: r => noKey r
  | .str _ :: r => noKey r
  | _ :: _ => true
/-- a tuple: a made one, or, where it is no key, one of the module -/
def TupA (K : PySem.W.Frag) (H : Hp) (a : Addr) (xs : List V) (ds : List D) : Prop :=
  H a = some (.tup xs) ∨ (noKey ds = true ∧ ∃ (o : Obj) (its : Array Value) (n : Nat), K.lookup a = some o ∧ o.cls = .type "tuple" ∧ o.data = .seq its n ∧ its.size ≤ sizeLine ∧ Vals xs its.toList)
theorem TupA.sqT {K : PySem.W.Frag} {H : Hp} {a : Addr} {xs : List V} {ds : List D} (h : TupA K H a xs ds) : SqT K H a xs := by
  rcases h with h | ⟨_, h⟩
  · exact SqT.of h
  · exact .inr h
mutual
def RepV (K : PySem.W.Frag) (μ : List Addr) (H : Hp) : D → V → Prop
  | .non, v => v = .non
  | .bl b, v => v = .bl b
  | .int i, v => v = .int i
  | .str cs, v => v = .str (strOf cs)
  | .tup ds, v => ∃ a xs, v = .ref a ∧ TupA K H a xs ds ∧ RepVs K μ H ds xs
  | .loc n, v => ∃ a, μ[n]? = some a ∧ v = .ref a
def RepVs (K : PySem.W.Frag) (μ : List Addr) (H : Hp) : List D → List V → Prop
  | [], vs => vs = []
  | d :: ds, vs => ∃ v r, vs = v :: r ∧ RepV K μ H d v ∧ RepVs K μ H ds r
end
/-- tuples and known things stay -/
structure Ext (H H' : Hp) : Prop where
  tup : ∀ b xs, H b = some (.tup xs) → H' b = some (.tup xs)
  frz : ∀ b o u, H b = some (.frz o u) → H' b = some (.frz o u)
theorem Ext.refl (H : Hp) : Ext H H := ⟨fun _ _ h => h, fun _ _ _ h => h⟩
theorem Ext.trans {H H1 H2 : Hp} (a : Ext H H1) (b : Ext H1 H2) : Ext H H2 := ⟨fun c xs h => b.tup c xs (a.tup c xs h), fun c o u h => b.frz c o u (a.frz c o u h)⟩
theorem Ext.sqT {K : PySem.W.Frag} {H H' : Hp} {a : Addr} {xs : List V} (e : Ext H H') (h : SqT K H a xs) : SqT K H' a xs := by
  rcases h with (h | ⟨o, h⟩) | h
  · exact .inl (.inl (e.tup _ _ h))
  · exact .inl (.inr ⟨o, e.frz _ _ _ h⟩)
  · exact .inr h
theorem Ext.tupA {K : PySem.W.Frag} {H H' : Hp} {a : Addr} {xs : List V} {ds : List D} (e : Ext H H') (h : TupA K H a xs ds) : TupA K H' a xs ds := by
  rcases h with h | h
  · exact .inl (e.tup _ _ h)
  · exact .inr h
theorem Ext.new {H : Hp} {p : Addr} {o : HO} (h : H p = none) : Ext H (upd H p o) :=
  ⟨fun b xs q => by rw [upd_ne (ne_of_none q h)]; exact q, fun b o' u q => by rw [upd_ne (ne_of_none q h)]; exact q⟩
structure Grow (μ : List Addr) (H : Hp) (μ' : List Addr) (H' : Hp) : Prop where
  pre : ∃ ν, μ' = μ ++ ν
  ext : Ext H H'
theorem Grow.refl (μ : List Addr) (H : Hp) : Grow μ H μ H := ⟨⟨[], by simp⟩, .refl H⟩
theorem Grow.trans {μ μ1 μ2 : List Addr} {H H1 H2 : Hp} (a : Grow μ H μ1 H1) (b : Grow μ1 H1 μ2 H2) : Grow μ H μ2 H2 := by
  obtain ⟨ν1, rfl⟩ := a.pre
  obtain ⟨ν2, rfl⟩ := b.pre
  exact ⟨⟨ν1 ++ ν2, by simp⟩, a.ext.trans b.ext⟩
theorem Grow.get {μ μ' : List Addr} {H H' : Hp} (g : Grow μ H μ' H') {n : Nat} {a : Addr} (h : μ[n]? = some a) : μ'[n]? = some a := by
  obtain ⟨ν, rfl⟩ := g.pre
  rw [List.getElem?_append_left (List.getElem?_eq_some_iff.mp h).1]; exact h
mutual
theorem RepV.mono {K : PySem.W.Frag} {μ μ' : List Addr} {H H' : Hp} (g : Grow μ H μ' H') : ∀ (d : D) {v : V}, RepV K μ H d v → RepV K μ' H' d v
  | .non, _, h => by simpa [RepV] using h
  | .bl _, _, h => by simpa [RepV] using h
  | .int _, _, h => by simpa [RepV] using h
  | .str _, _, h => by simpa [RepV] using h
  | .tup ds, _, h => by
    rw [RepV] at h ⊢
    obtain ⟨a, xs, rfl, h1, h2⟩ := h
    exact ⟨a, xs, rfl, g.ext.tupA h1, RepVs.mono g ds h2⟩
  | .loc n, _, h => by
    rw [RepV] at h ⊢
    obtain ⟨a, h1, rfl⟩ := h
    exact ⟨a, g.get h1, rfl⟩
theorem RepVs.mono {K : PySem.W.Frag} {μ μ' : List Addr} {H H' : Hp} (g : Grow μ H μ' H') : ∀ (ds : List D) {vs : List V}, RepVs K μ H ds vs → RepVs K μ' H' ds vs
  | [], _, h => by simpa [RepVs] using h
  | d :: ds, _, h => by
    rw [RepVs] at h ⊢
    obtain ⟨v, r, rfl, h1, h2⟩ := h
    exact ⟨v, r, rfl, RepV.mono g d h1, RepVs.mono g ds h2⟩
end
section
variable {K : PySem.W.Frag} {μ : List Addr} {H : Hp}
theorem RepVs.length : ∀ {ds : List D} {vs : List V}, RepVs K μ H ds vs → ds.length = vs.length
  | [], _, h => by rw [RepVs] at h; subst h; rfl
  | d :: ds, _, h => by
    rw [RepVs] at h
    obtain ⟨v, r, rfl, _, h2⟩ := h
    rw [List.length_cons, List.length_cons, RepVs.length h2]
theorem RepVs.get : ∀ {ds : List D} {vs : List V} {i : Nat} {d : D}, RepVs K μ H ds vs → ds[i]? = some d → ∃ v, vs[i]? = some v ∧ RepV K μ H d v
  | [], _, _, _, _, e => by simp at e
  | d :: ds, _, 0, _, h, e => by
    rw [RepVs] at h
    obtain ⟨v, r, rfl, h1, _⟩ := h
    simp at e; subst e
    exact ⟨v, rfl, h1⟩
  | d :: ds, _, i + 1, x, h, e => by
    rw [RepVs] at h
    obtain ⟨v, r, rfl, _, h2⟩ := h
    obtain ⟨u, h3, h4⟩ := RepVs.get (i := i) h2 (by simpa using e)
    exact ⟨u, by simpa using h3, h4⟩
theorem RepVs.append : ∀ {ds es : List D} {vs ws : List V}, RepVs K μ H ds vs → RepVs K μ H es ws → RepVs K μ H (ds ++ es) (vs ++ ws)
  | [], _, _, _, h, k => by rw [RepVs] at h; subst h; exact k
  | d :: ds, es, _, ws, h, k => by
    rw [RepVs] at h
    obtain ⟨v, r, rfl, h1, h2⟩ := h
    show RepVs K μ H (d :: (ds ++ es)) (v :: (r ++ ws))
    rw [RepVs]
    exact ⟨v, r ++ ws, rfl, h1, RepVs.append h2 k⟩
theorem RepVs.nil : RepVs K μ H [] [] := by rw [RepVs]
theorem RepVs.cons {d : D} {ds : List D} {v : V} {vs : List V} (h : RepV K μ H d v) (k : RepVs K μ H ds vs) : RepVs K μ H (d :: ds) (v :: vs) := by rw [RepVs]; exact ⟨v, vs, rfl, h, k⟩
theorem RepVs.take : ∀ {ds : List D} {vs : List V} (n : Nat), RepVs K μ H ds vs → RepVs K μ H (ds.take n) (vs.take n)
  | _, _, 0, _ => by simp [RepVs]
  | [], _, n + 1, h => by rw [RepVs] at h; subst h; simp [RepVs]
  | d :: ds, _, n + 1, h => by
    rw [RepVs] at h
    obtain ⟨v, r, rfl, h1, h2⟩ := h
    exact RepVs.cons h1 (RepVs.take n h2)
theorem RepVs.drop : ∀ {ds : List D} {vs : List V} (n : Nat), RepVs K μ H ds vs → RepVs K μ H (ds.drop n) (vs.drop n)
  | _, _, 0, h => h
  | [], _, n + 1, h => by rw [RepVs] at h; subst h; simp [RepVs]
  | d :: ds, _, n + 1, h => by
    rw [RepVs] at h
    obtain ⟨v, r, rfl, h1, h2⟩ := h
    exact RepVs.drop n h2
theorem RepVs.set {d : D} {v : V} (hd : RepV K μ H d v) : ∀ {ds : List D} {vs : List V} (i : Nat), RepVs K μ H ds vs → RepVs K μ H (ds.set i d) (vs.set i v)
  | [], _, _, h => by rw [RepVs] at h; subst h; simp [RepVs]
  | x :: ds, _, 0, h => by
    rw [RepVs] at h
    obtain ⟨w, r, rfl, h1, h2⟩ := h
    exact RepVs.cons hd h2
  | x :: ds, _, i + 1, h => by
    rw [RepVs] at h
    obtain ⟨w, r, rfl, h1, h2⟩ := h
    exact RepVs.cons h1 (RepVs.set hd i h2)
theorem RepV.int_iff {i : Int} {v : V} : RepV K μ H (.int i) v ↔ v = .int i := by rw [RepV]
theorem RepV.bl_iff {b : Bool} {v : V} : RepV K μ H (.bl b) v ↔ v = .bl b := by rw [RepV]
theorem RepV.non_iff {v : V} : RepV K μ H .non v ↔ v = .non := by rw [RepV]
theorem RepV.str_iff {cs : List Nat} {v : V} : RepV K μ H (.str cs) v ↔ v = .str (strOf cs) := by rw [RepV]
theorem RepV.tup_iff {ds : List D} {v : V} : RepV K μ H (.tup ds) v ↔ ∃ a xs, v = .ref a ∧ TupA K H a xs ds ∧ RepVs K μ H ds xs := by rw [RepV]
theorem RepV.loc_iff {n : Nat} {v : V} : RepV K μ H (.loc n) v ↔ ∃ a, μ[n]? = some a ∧ v = .ref a := by rw [RepV]
end
/-! ### the store -/
/-- pairs of a dict -/
def RepKV {κ : Type} (K : PySem.W.Frag) (μ : List Addr) (H : Hp) : List (κ × D) → List (κ × V) → Prop
  | [], vs => vs = []
  | (k, d) :: ds, vs => ∃ v r, vs = (k, v) :: r ∧ RepV K μ H d v ∧ RepKV K μ H ds r
theorem RepKV.mono {κ : Type} {K : PySem.W.Frag} {μ μ' : List Addr} {H H' : Hp} (g : Grow μ H μ' H') : ∀ {ds : List (κ × D)} {vs : List (κ × V)}, RepKV K μ H ds vs → RepKV K μ' H' ds vs
  | [], _, h => h
  | (k, d) :: ds, _, ⟨v, r, e, h1, h2⟩ => ⟨v, r, e, h1.mono g d, RepKV.mono g h2⟩
/-- a list that is only read: known to the object, or the module's own -/
def FrzL (K : PySem.W.Frag) (H : Hp) (a : Addr) (xs : List V) : Prop :=
  (∃ o, H a = some (.frz o (.lst xs))) ∨ ∃ (o : Obj) (its : Array Value) (n : Nat), K.lookup a = some o ∧ o.cls = .type "list" ∧ o.dict = none ∧ o.data = .seq its n ∧ its.size ≤ sizeLine ∧ Vals xs its.toList
theorem FrzL.sqL {K : PySem.W.Frag} {H : Hp} {a : Addr} {xs : List V} (h : FrzL K H a xs) : SqL K H a xs := by
  rcases h with h | h
  · exact .inl (.inr h)
  · exact .inr h
theorem FrzL.ext {K : PySem.W.Frag} {H H' : Hp} {a : Addr} {xs : List V} (e : Ext H H') (h : FrzL K H a xs) : FrzL K H' a xs := by
  rcases h with ⟨o, h⟩ | h
  · exact .inl ⟨o, e.frz _ _ _ h⟩
  · exact .inr h
def MO.mut : MO → Bool
  | .frz _ => false
  | .clo _ _ _ => false
  | .hid => false
  | .dkf _ => false
  | .dtf _ => false
  | .exc _ _ => false
  | _ => true
/-- a code object that is known -/
def CodeF (H : Hp) (c : Addr) (q : Str) : Prop := ∃ oc vs t, H c = some (.frz oc (.own 0)) ∧ oc.data = .fields vs ∧ vs[1]? = some (.str q t)
/-- cells that are known, and what they hold -/
def CellsF (H : Hp) : List (Str × Addr) → List V → Prop
  | [], vs => vs = []
  | (_, c) :: cl, vs => ∃ v r o u, vs = v :: r ∧ H c = some (.frz o (.own 0)) ∧ o.data = .cell (some u) ∧ RelV v u ∧ CellsF H cl r
theorem CodeF.ext {H H' : Hp} {c : Addr} {q : Str} (e : Ext H H') (h : CodeF H c q) : CodeF H' c q :=
  let ⟨oc, vs, t, h1, h2⟩ := h; ⟨oc, vs, t, e.frz _ _ _ h1, h2⟩
theorem CellsF.ext {H H' : Hp} (e : Ext H H') : ∀ {cl : List (Str × Addr)} {vs : List V}, CellsF H cl vs → CellsF H' cl vs
  | [], _, h => h
  | (_, c) :: cl, _, ⟨v, r, o, u, h1, h2, h3, h4, h5⟩ => ⟨v, r, o, u, h1, e.frz _ _ _ h2, h3, h4, CellsF.ext e h5⟩
def lamQual (x : Str) : Str := x ++ ".<locals>." ++ "<lambda>"
def RepO (K : PySem.W.Frag) (μ : List Addr) (H : Hp) (a : Addr) : MO → Prop
  | .lst ds => ∃ xs, H a = some (.lst xs) ∧ RepVs K μ H ds xs
  | .frz ds => ∃ xs, FrzL K H a xs ∧ RepVs K μ H ds xs
  | .dic kvs => ∃ ws, H a = some (.dT ws) ∧ RepKV K μ H kvs ws
  | .dkc kvs => ∃ ws, H a = some (.dK ws) ∧ RepKV K μ H kvs ws
  | .dkf kvs => ∃ ws o, H a = some (.frz o (.dK ws)) ∧ RepKV K μ H kvs ws
  | .dtf kvs => ∃ ws o, H a = some (.frz o (.dT ws)) ∧ RepKV K μ H kvs ws
  | .ins c fs => ∃ C dx ws, PySem.W.nsIn K mainGlobals c = some (some (.ref C)) ∧ H a = some (.ins C dx ws) ∧ RepKV K μ H fs ws
  | .tab x => (∃ (fa : Addr) (o : Obj) (fd : FuncData) (c : Addr), PySem.W.nsIn K mainGlobals x = some (some (.ref fa)) ∧ K.lookup fa = some o ∧ o.data = .func fd ∧ fd.code = .ref c ∧ PySem.W.codeHdIn K c a = true) ∧
      ∃ ps : Array Value, H a = some (.tbl ps) ∧ TriplesOk ps.toList ∧ ∀ pos cv, codeAmong pos ps.toList = some cv → ∃ c', cv = .ref c' ∧ CodeF H c' (lamQual x)
  | .clo _ l ds => ∃ (cl : List (Str × Addr)) (pm : Value) (c' : Addr) (ctv : Value) (vs : List V), H a = some (.frz (PySem.W.kla_obj "<lambda>" l.qual l.params l.body l.scope cl pm c' ctv) (.own 0)) ∧ CodeF H c' l.qual ∧
      cl.map (·.1) = l.caps ∧ (cl.map (·.2)).Nodup ∧ CellsF H cl vs ∧ RepVs K μ H ds vs
  | .exc c d => ∃ oe C dx od v fs, H a = some (.frz oe (.own 0)) ∧ oe.cls = .ref C ∧ oe.dict = some dx ∧ oe.data = .fields fs ∧ H dx = some (.frz od (.xd [("at", v)])) ∧ PySem.W.nsIn K mainGlobals (c : Str) = some (some (.ref C)) ∧ RepV K μ H d v
  | .hid => True
structure RepS (K : PySem.W.Frag) (μ : List Addr) (H : Hp) (st : Stor) : Prop where
  len : μ.length = st.length
  at_ : ∀ (n : Nat) (o : MO), st[n]? = some o → ∃ a, μ[n]? = some a ∧ RepO K μ H a o
  uniq : ∀ (i j : Nat) (a : Addr) (oi oj : MO), st[i]? = some oi → st[j]? = some oj → oi.mut = true → oj.mut = true → μ[i]? = some a → μ[j]? = some a → i = j
structure RepE (K : PySem.W.Frag) (μ : List Addr) (H : Hp) (env : MEnv) (σ : St) : Prop where
  len : env.length = σ.length
  at_ : ∀ (i : Nat) (d : D), env[i]? = some (some d) → ∃ v, σ[i]? = some (some v) ∧ RepV K μ H d v
theorem RepE.mono {K : PySem.W.Frag} {μ μ' : List Addr} {H H' : Hp} {env : MEnv} {σ : St} (g : Grow μ H μ' H') (h : RepE K μ H env σ) : RepE K μ' H' env σ :=
  ⟨h.len, fun i d e => let ⟨v, h1, h2⟩ := h.at_ i d e; ⟨v, h1, h2.mono g d⟩⟩
theorem RepE.set {K : PySem.W.Frag} {μ : List Addr} {H : Hp} {env : MEnv} {σ : St} {i : Nat} {d : D} {v : V} (h : RepE K μ H env σ) (r : RepV K μ H d v) : RepE K μ H (env.set i (some d)) (σ.set i (some v)) := by
  refine ⟨by simp [h.len], fun j e hj => ?_⟩
  by_cases hij : i = j
  · subst hij
    have hl : i < env.length := by
      have := (List.getElem?_eq_some_iff.mp hj).1; simpa using this
    rw [List.getElem?_set_self hl] at hj
    cases hj
    exact ⟨v, by rw [List.getElem?_set_self (by rw [← h.len]; exact hl)], r⟩
  · rw [List.getElem?_set_ne hij] at hj
    rw [List.getElem?_set_ne hij]
    exact h.at_ j e hj
/-- a new object of the store -/
theorem RepO.some_of {K : PySem.W.Frag} {μ : List Addr} {H : Hp} {a : Addr} {o : MO} (h : RepO K μ H a o) (hm : o.mut = true) : ∃ u, H a = some u := by
  cases o with
  | lst ds => obtain ⟨xs, h1, _⟩ := h; exact ⟨_, h1⟩
  | frz ds => cases hm
  | dic kvs => obtain ⟨xs, h1, _⟩ := h; exact ⟨_, h1⟩
  | dkc kvs => obtain ⟨xs, h1, _⟩ := h; exact ⟨_, h1⟩
  | dkf kvs => cases hm
  | dtf kvs => cases hm
  | ins c fs => obtain ⟨_, _, _, _, h1, _⟩ := h; exact ⟨_, h1⟩
  | tab x => obtain ⟨_, _, h1, _⟩ := h; exact ⟨_, h1⟩
  | clo j l ds => cases hm
  | exc c d => cases hm
  | hid => cases hm
theorem RepO.keep {K : PySem.W.Frag} {μ μ' : List Addr} {H H' : Hp} {a : Addr} {o : MO} (g : Grow μ H μ' H') (hk : o.mut = true → ∀ u, H a = some u → H' a = some u) (h : RepO K μ H a o) : RepO K μ' H' a o := by
  cases o with
  | lst ds => obtain ⟨xs, h1, h2⟩ := h; exact ⟨xs, hk rfl _ h1, h2.mono g ds⟩
  | frz ds => obtain ⟨xs, h1, h2⟩ := h; exact ⟨xs, h1.ext g.ext, h2.mono g ds⟩
  | dic kvs => obtain ⟨ws, h1, h2⟩ := h; exact ⟨ws, hk rfl _ h1, h2.mono g⟩
  | dkc kvs => obtain ⟨ws, h1, h2⟩ := h; exact ⟨ws, hk rfl _ h1, h2.mono g⟩
  | dkf kvs => obtain ⟨ws, o, h1, h2⟩ := h; exact ⟨ws, o, g.ext.frz _ _ _ h1, h2.mono g⟩
  | dtf kvs => obtain ⟨ws, o, h1, h2⟩ := h; exact ⟨ws, o, g.ext.frz _ _ _ h1, h2.mono g⟩
  | exc c d => obtain ⟨oe, C, dx, od, v, fs, h1, h2, h3, h4, h5, h6, h7⟩ := h; exact ⟨oe, C, dx, od, v, fs, g.ext.frz _ _ _ h1, h2, h3, h4, g.ext.frz _ _ _ h5, h6, h7.mono g d⟩
  | ins c fs => obtain ⟨C, dx, ws, h0, h1, h2⟩ := h; exact ⟨C, dx, ws, h0, hk rfl _ h1, h2.mono g⟩
  | tab x => obtain ⟨h0, ps, h1, h2, h3⟩ := h; exact ⟨h0, ps, hk rfl _ h1, h2, fun pos cv e => let ⟨c', e1, e2⟩ := h3 pos cv e; ⟨c', e1, e2.ext g.ext⟩⟩
  | clo j l ds => obtain ⟨cl, pm, c', ctv, vs, h1, h2, h3, h4, h5, h6⟩ := h; exact ⟨cl, pm, c', ctv, vs, g.ext.frz _ _ _ h1, h2.ext g.ext, h3, h4, h5.ext g.ext, h6.mono g ds⟩
  | hid => trivial
section
variable {K : PySem.W.Frag} {μ : List Addr} {H : Hp} {st : Stor} {p a : Addr} {xs : List V} {n : Nat} {mo mo' : MO} {o o' : HO}
/-- an object that the store does not name is laid (a tuple) -/
theorem RepS.lay (h : RepS K μ H st) (hp : H p = none) : RepS K μ (upd H p o) st :=
  ⟨h.len, fun n mo e => let ⟨a, h1, h2⟩ := h.at_ n mo e; ⟨a, h1, h2.keep ⟨⟨[], by simp⟩, .new hp⟩ fun _ u q => by rw [upd_ne (ne_of_none q hp)]; exact q⟩, h.uniq⟩
theorem Grow.lay (hp : H p = none) : Grow μ H μ (upd H p o) := ⟨⟨[], by simp⟩, .new hp⟩
theorem Grow.new (hp : H p = none) : Grow μ H (μ ++ [p]) (upd H p o) := ⟨⟨[p], rfl⟩, .new hp⟩
/-- a new object of the store -/
theorem RepS.new (h : RepS K μ H st) (hp : H p = none) (hn : RepO K (μ ++ [p]) (upd H p o) p mo) : RepS K (μ ++ [p]) (upd H p o) (st ++ [mo]) := by
  refine ⟨by simp [h.len], fun n mo1 e => ?_, fun i j b oi oj ei ej mi mj hi hj => ?_⟩
  · by_cases hl : n < st.length
    · rw [List.getElem?_append_left hl] at e
      obtain ⟨b, h1, h2⟩ := h.at_ n mo1 e
      exact ⟨b, by rw [List.getElem?_append_left (by rw [h.len]; exact hl)]; exact h1, h2.keep (Grow.new hp) fun _ u q => by rw [upd_ne (ne_of_none q hp)]; exact q⟩
    · have hl2 := (List.getElem?_eq_some_iff.mp e).1
      rw [List.length_append, List.length_singleton] at hl2
      have e2 : n = st.length := by omega
      subst e2
      rw [List.getElem?_append_right (Nat.le_refl _)] at e
      simp at e; subst e
      exact ⟨p, by rw [← h.len]; simp, hn⟩
  · have key : ∀ (k : Nat) (ok : MO), (st ++ [mo])[k]? = some ok → ok.mut = true → (μ ++ [p])[k]? = some b → (k < st.length ∧ st[k]? = some ok ∧ μ[k]? = some b ∧ b ≠ p) ∨ (k = st.length ∧ b = p) := fun k ok ek mk hk => by
      by_cases hl : k < st.length
      · rw [List.getElem?_append_left hl] at ek
        rw [List.getElem?_append_left (by rw [h.len]; exact hl)] at hk
        obtain ⟨c, h1, h2⟩ := h.at_ k ok ek
        rw [hk] at h1; cases h1
        obtain ⟨u, hu⟩ := h2.some_of mk
        exact .inl ⟨hl, ek, hk, ne_of_none hu hp⟩
      · have hl2 := (List.getElem?_eq_some_iff.mp ek).1
        rw [List.length_append, List.length_singleton] at hl2
        have e2 : k = st.length := by omega
        subst e2
        rw [← h.len] at hk
        simp at hk
        exact .inr ⟨rfl, hk.symm⟩
    rcases key i oi ei mi hi with ⟨_, a1, a2, a3⟩ | ⟨a1, a2⟩
    · rcases key j oj ej mj hj with ⟨_, b1, b2, b3⟩ | ⟨b1, b2⟩
      · exact h.uniq i j b oi oj a1 b1 mi mj a2 b2
      · exact absurd b2 a3
    · rcases key j oj ej mj hj with ⟨_, b1, b2, b3⟩ | ⟨b1, b2⟩
      · exact absurd a2 b3
      · rw [a1, b1]
theorem Ext.mut (h : H a = some o) (ht : ∀ ys, o ≠ .tup ys) (hf : ∀ w u, o ≠ .frz w u) : Ext H (upd H a o') :=
  ⟨fun b ys q => by rw [upd_ne (fun e => by subst e; rw [h] at q; exact ht _ (Option.some.inj q))]; exact q,
   fun b w u q => by rw [upd_ne (fun e => by subst e; rw [h] at q; exact hf _ _ (Option.some.inj q))]; exact q⟩
/-- an object of the store is written -/
theorem RepS.put (h : RepS K μ H st) (hn : st[n]? = some mo) (hm : mo.mut = true) (hm' : mo'.mut = true) (ha : μ[n]? = some a) (g : Ext H (upd H a o')) (new : RepO K μ (upd H a o') a mo') : RepS K μ (upd H a o') (st.set n mo') := by
  have hl := (List.getElem?_eq_some_iff.mp hn).1
  refine ⟨by simp [h.len], fun k ok e => ?_, fun i j b oi oj ei ej mi mj hi hj => ?_⟩
  · by_cases hk : n = k
    · subst hk
      rw [List.getElem?_set_self hl] at e; cases e
      exact ⟨a, ha, new⟩
    · rw [List.getElem?_set_ne hk] at e
      obtain ⟨b, h1, h2⟩ := h.at_ k ok e
      refine ⟨b, h1, h2.keep ⟨⟨[], by simp⟩, g⟩ fun hmk u q => ?_⟩
      rw [upd_ne (fun e2 => ?_)]
      · exact q
      · subst e2; exact hk (h.uniq n k b mo ok hn e hm hmk ha h1)
  · have key : ∀ (k : Nat) (ok : MO), (st.set n mo')[k]? = some ok → ok.mut = true → ∃ ok', st[k]? = some ok' ∧ ok'.mut = true := fun k ok ek mk => by
      by_cases hk : n = k
      · subst hk; exact ⟨mo, hn, hm⟩
      · rw [List.getElem?_set_ne hk] at ek; exact ⟨ok, ek, mk⟩
    obtain ⟨oi', ei', mi'⟩ := key i oi ei mi
    obtain ⟨oj', ej', mj'⟩ := key j oj ej mj
    exact h.uniq i j b oi' oj' ei' ej' mi' mj' hi hj
end
end M
namespace M
open PySem PySem.Spec L2
/-! ### what is wanted behind a denotation -/
/-- how an exception lies there -/
def ExcAt (X : Cx) (μ : List Addr) (H : Hp) (x : Xc) (e : Value) (s : Shared) : Prop :=
  ∃ a C dx lo fl v, e = .ref a ∧ X.s₀.heap.objs.size ≤ lo ∧ Xo lo a C dx fl H s.heap ∧ H dx = some (.xd [("at", v)]) ∧ PySem.W.nsIn X.K mainGlobals (x.cls : Str) = some (some (.ref C)) ∧ RepV X.K μ H x.fld v
def ErrOK (X : Cx) (μ : List Addr) (H : Hp) (x : Xc) (st : Stor) : Prop :=
  ∀ (pins : List (Addr × Obj)) (σ' : L2.St) (H' : Hp) (μ' : List Addr) (e : Value) (s' : Shared), Grow μ H μ' H' → RepS X.K μ' H' st → Inv X pins σ' H' s' → ExcAt X μ' H' x e s' → X.xe e s'
theorem ErrOK.mono {X : Cx} {μ μ1 : List Addr} {H H1 : Hp} {x : Xc} {st : Stor} (g : Grow μ H μ1 H1) (h : ErrOK X μ H x st) : ErrOK X μ1 H1 x st :=
  fun pins σ' H' μ' e s' g' => h pins σ' H' μ' e s' (g.trans g')
abbrev Rel (α β : Type) := List Addr → Hp → α → β → Prop
def Post {α β : Type} (X : Cx) (μ : List Addr) (H : Hp) (rel : Rel α β) (Q : β → Hp → Prop) (r : R α) : Prop := match r with
  | .ok a st => ∀ (b : β) (H' : Hp) (μ' : List Addr), Grow μ H μ' H' → RepS X.K μ' H' st → rel μ' H' a b → Q b H'
  | .err x st => ErrOK X μ H x st
  | .bad => False
section
variable {α β γ δ : Type} {X : Cx} {μ μ1 : List Addr} {H H1 : Hp} {rel : Rel α β} {rel2 : Rel γ δ} {Q Q' : β → Hp → Prop} {r : R α}
theorem Post.mono (g : Grow μ H μ1 H1) (h : Post X μ H rel Q r) : Post X μ1 H1 rel Q r := by
  cases r with
  | ok a st => exact fun b H' μ' g' => h b H' μ' (g.trans g')
  | err x st => exact ErrOK.mono g h
  | bad => exact h
theorem Post.imp (h : Post X μ H rel Q r) (k : ∀ b H', Q b H' → Q' b H') : Post X μ H rel Q' r := by
  cases r with
  | ok a st => exact fun b H' μ' g' h1 h2 => k b H' (h b H' μ' g' h1 h2)
  | err x st => exact h
  | bad => exact h
/-- the first of two: what it hands on -/
def Then (X : Cx) (μ : List Addr) (H : Hp) (rel : Rel α β) (rel2 : Rel γ δ) (Q2 : δ → Hp → Prop) (f : α → Stor → R γ) : β → Hp → Prop :=
  fun b H1 => ∃ μ1 st1 a, Grow μ H μ1 H1 ∧ RepS X.K μ1 H1 st1 ∧ rel μ1 H1 a b ∧ Post X μ1 H1 rel2 Q2 (f a st1)
theorem Post.bind {Q2 : δ → Hp → Prop} {f : α → Stor → R γ} (h : Post X μ H rel2 Q2 (r.bind f)) : Post X μ H rel (Then X μ H rel rel2 Q2 f) r := by
  cases r with
  | ok a st => exact fun b H' μ' g h1 h2 => ⟨μ', st, a, g, h1, h2, Post.mono g h⟩
  | err x st => exact h
  | bad => exact h
/-- a result that changes nothing -/
theorem Post.ret {a : α} {b : β} {st : Stor} (h : Post X μ H rel Q (.ok a st)) (hs : RepS X.K μ H st) (hr : rel μ H a b) : Q b H := h b H μ (.refl _ _) hs hr
end
abbrev relV (X : Cx) : Rel D V := fun μ H d v => RepV X.K μ H d v
abbrev relA (X : Cx) : Rel (List D) (List V) := fun μ H d v => RepVs X.K μ H d v
abbrev relB : Rel Bool Bool := fun _ _ a b => a = b
abbrev relO : Rel (Option Int) (Option Int) := fun _ _ a b => a = b
abbrev ME := MEnv → Stor → R D
abbrev MA := MEnv → Stor → R (List D)
abbrev MT := MEnv → Stor → R Bool
abbrev MP := MEnv → Stor → R (Option Int)
def tM (X : Cx) (m : ME) : TE := fun σ H Q => ∃ μ env st, RepE X.K μ H env σ ∧ RepS X.K μ H st ∧ Post X μ H (relV X) Q (m env st)
def tMA (X : Cx) (m : MA) : TA := fun σ H Q => ∃ μ env st, RepE X.K μ H env σ ∧ RepS X.K μ H st ∧ Post X μ H (relA X) Q (m env st)
def tMT (X : Cx) (m : MT) : TT := fun σ H Q => ∃ μ env st, RepE X.K μ H env σ ∧ RepS X.K μ H st ∧ Post X μ H relB Q (m env st)
def tMP (X : Cx) (m : MP) : TO := fun σ H Q => ∃ μ env st, RepE X.K μ H env σ ∧ RepS X.K μ H st ∧ Post X μ H relO Q (m env st)
def JE (X : Cx) (e : Expr) (m : ME) : Prop := PE X e (tM X m)
def JT (X : Cx) (e : Expr) (m : MT) : Prop := PT X e (tMT X m)
def JA (X : Cx) (es : List Expr) (m : MA) : Prop := PA X es (tMA X m)
def JP (X : Cx) (e : Option Expr) (m : MP) : Prop := PO X e (tMP X m)
section
variable {X : Cx} {e a b c : Expr} {es : List Expr} {t : TE} {ma mb mc : ME} {mA : MA} {pos : Pos}
theorem JE.of {m : ME} (h : PE X e t) (k : ∀ σ H Q, tM X m σ H Q → t σ H Q) : JE X e m := fun pins s σ H Q I q => h pins s σ H Q I (k σ H Q q)
theorem JT.of {t : TT} {m : MT} (h : PT X e t) (k : ∀ σ H Q, tMT X m σ H Q → t σ H Q) : JT X e m := fun pins s σ H Q I q => h pins s σ H Q I (k σ H Q q)
theorem JA.of {t : TA} {m : MA} (h : PA X es t) (k : ∀ σ H Q, tMA X m σ H Q → t σ H Q) : JA X es m := fun pos pins s σ H Q I q => h pos pins s σ H Q I (k σ H Q q)
theorem JP.of {o : Option Expr} {t : TO} {m : MP} (h : PO X o t) (k : ∀ σ H Q, tMP X m σ H Q → t σ H Q) : JP X o m := fun pins s σ H Q I q => h pins s σ H Q I (k σ H Q q)
/-! ### names and constants -/
def vr (i : Nat) : ME := fun env st => match env[i]? with | some (some d) => .ok d st | _ => .bad
def ct (d : D) : ME := fun _ st => .ok d st
theorem je_var (i : Nat) {x : Str} {pos : Pos} (hN : X.N[i]? = some x := by rfl) (hv : Vis X.env.scope x := by first | exact Or.inl rfl | exact Or.inr (Or.inl rfl) | exact Or.inr (Or.inr rfl)) (hd : (x == ("__debug__" : Str)) = false := by decide)
    (hcd : (x == ("__classdict__" : Str)) = false := by decide) : JE X (.Name x pos) (vr i) := JE.of (pe_var hN hv hd hcd) fun σ H Q ⟨μ, env, st, he, hs, hp⟩ => by
  unfold vr at hp
  split at hp
  · rename_i d e
    obtain ⟨v, h1, h2⟩ := he.at_ i d e
    exact ⟨v, h1, hp.ret hs h2⟩
  · exact hp.elim
theorem je_int {i j pos} : JE X (.Constant (.int i) j pos) (ct (.int i)) := JE.of pe_int fun σ H Q ⟨μ, env, st, he, hs, hp⟩ => hp.ret hs (RepV.int_iff.mpr rfl)
theorem je_bl {b j pos} : JE X (.Constant (.bool b) j pos) (ct (.bl b)) := JE.of pe_bl fun σ H Q ⟨μ, env, st, he, hs, hp⟩ => hp.ret hs (RepV.bl_iff.mpr rfl)
theorem je_non {j pos} : JE X (.Constant .none j pos) (ct .non) := JE.of pe_non fun σ H Q ⟨μ, env, st, he, hs, hp⟩ => hp.ret hs (RepV.non_iff.mpr rfl)
theorem je_str {x : Str} {j pos} (cs : List Nat) (h : x = strOf cs := by decide +kernel) : JE X (.Constant (.str x) j pos) (ct (.str cs)) := JE.of pe_str fun σ H Q ⟨μ, env, st, he, hs, hp⟩ => hp.ret hs (RepV.str_iff.mpr (by rw [h]))
/-! ### operations on values -/
def op2 (g : D → D → Stor → R D) (a b : ME) : ME := fun env st => (a env st).bind fun x st1 => (b env st1).bind fun y st2 => g x y st2
def op1 (g : D → Stor → R D) (a : ME) : ME := fun env st => (a env st).bind fun x st1 => g x st1
def rM (X : Cx) (g : D → D → Stor → R D) : R2 := fun x y H Q => ∃ μ st dx dy, RepS X.K μ H st ∧ RepV X.K μ H dx x ∧ RepV X.K μ H dy y ∧ Post X μ H (relV X) Q (g dx dy st)
def rM1 (X : Cx) (g : D → Stor → R D) : V → Hp → VK → Prop := fun x H Q => ∃ μ st dx, RepS X.K μ H st ∧ RepV X.K μ H dx x ∧ Post X μ H (relV X) Q (g dx st)
def rMC (X : Cx) (g : List D → Stor → R D) : List V → Hp → VK → Prop := fun xs H Q => ∃ μ st ds, RepS X.K μ H st ∧ RepVs X.K μ H ds xs ∧ Post X μ H (relV X) Q (g ds st)
def rMM (X : Cx) (g : D → List D → Stor → R D) : V → List V → Hp → VK → Prop := fun x xs H Q => ∃ μ st d ds, RepS X.K μ H st ∧ RepV X.K μ H d x ∧ RepVs X.K μ H ds xs ∧ Post X μ H (relV X) Q (g d ds st)
theorem OpR.weak {f : Value → Value → Sem Value} {r r' : R2} (h : OpR X f r) (k : ∀ x y H Q, r' x y H Q → r x y H Q) : OpR X f r' := fun pins s σ H x y v u Q I rx ry q => h pins s σ H x y v u Q I rx ry (k x y H Q q)
theorem UnR.weak {f : Value → Sem Value} {r r' : V → Hp → VK → Prop} (h : UnR X f r) (k : ∀ x H Q, r' x H Q → r x H Q) : UnR X f r' := fun pins s σ H x v Q I rx q => h pins s σ H x v Q I rx (k x H Q q)
theorem CallR.weak {f : Value} {r r' : List V → Hp → VK → Prop} (h : CallR X f r) (k : ∀ x H Q, r' x H Q → r x H Q) : CallR X f r' := fun pins s σ H x v Q I rx q => h pins s σ H x v Q I rx (k x H Q q)
theorem MtR.weak {id : String} {r r' : V → List V → Hp → VK → Prop} (h : MtR X id r) (k : ∀ x xs H Q, r' x xs H Q → r x xs H Q) : MtR X id r' := fun pins s σ H x xs v us Q I rx rs q => h pins s σ H x xs v us Q I rx rs (k x xs H Q q)
theorem IxR.weak {r r' : R2} (h : IxR X r) (k : ∀ x y H Q, r' x y H Q → r x y H Q) : IxR X r' := fun va sl pins s σ H x y v u Q I rx ry q => h va sl pins s σ H x y v u Q I rx ry (k x y H Q q)
theorem SlR.weak {r r' : V → Option Int → Option Int → Hp → VK → Prop} (h : SlR X r) (k : ∀ x l u H Q, r' x l u H Q → r x l u H Q) : SlR X r' := fun pins s σ H x v vl vu lo hi sl Q I rx hs pl pu q => h pins s σ H x v vl vu lo hi sl Q I rx hs pl pu (k x lo hi H Q q)
theorem PSet.weak {t t' : TSet} (h : PSet X t) (k : ∀ o i v H Q, t' o i v H Q → t o i v H Q) : PSet X t' := fun pins s σ H o i v ov iv u Q I ro ri rv q => h pins s σ H o i v ov iv u Q I ro ri rv (k o i v H Q q)
theorem tM_two {g : D → D → Stor → R D} {σ : L2.St} {H : Hp} {Q : VK} (h : tM X (op2 g ma mb) σ H Q) : tM X ma σ H fun x H1 => tM X mb σ H1 fun y H2 => rM X g x y H2 Q := by
  obtain ⟨μ, env, st, he, hs, hp⟩ := h
  refine ⟨μ, env, st, he, hs, hp.bind.imp ?_⟩
  rintro x H1 ⟨μ1, st1, d, g1, hs1, hx, hp1⟩
  refine ⟨μ1, env, st1, he.mono g1, hs1, hp1.bind.imp ?_⟩
  rintro y H2 ⟨μ2, st2, d2, g2, hs2, hy, hp2⟩
  exact ⟨μ2, st2, d, d2, hs2, hx.mono g2 _, hy, hp2⟩
theorem je_op {op : Operator} {g : D → D → Stor → R D} (ho : OpR X (binaryOp op) (rM X g)) (ha : JE X a ma) (hb : JE X b mb) : JE X (.BinOp a op b pos) (op2 g ma mb) :=
  JE.of (pe_op ho ha hb) fun σ H Q h => tM_two h
theorem je_cmp {op : CmpOp} {g : D → D → Stor → R D} (ho : OpR X (compareOp op) (rM X g)) (ha : JE X a ma) (hb : JE X b mb) (hm : behindInMarks op b = false) : JE X (.Compare a [op] [b] pos) (op2 g ma mb) :=
  JE.of (pe_cmpR ho ha hb hm) fun σ H Q h => tM_two h
theorem je_un {op : UnaryOp} {g : D → Stor → R D} (ho : UnR X (unaryOp op) (rM1 X g)) (ha : JE X a ma) : JE X (.UnaryOp op a pos) (op1 g ma) :=
  JE.of (pe_un ho ha) fun σ H Q ⟨μ, env, st, he, hs, hp⟩ => ⟨μ, env, st, he, hs, hp.bind.imp fun x H1 ⟨μ1, st1, d, g1, hs1, hx, hp1⟩ => ⟨μ1, st1, d, hs1, hx, hp1⟩⟩
/-! ### tests -/
/-- a bool -/
def tB1 (a : ME) : MT := fun env st => (a env st).bind fun x st1 => match x with | .bl b => .ok b st1 | _ => .bad
theorem jt_cmp {op : CmpOp} {g : D → D → Stor → R D} (ho : OpR X (compareOp op) (rM X g)) (ha : JE X a ma) (hb : JE X b mb) (hm : behindInMarks op b = false) : JT X (.Compare a [op] [b] pos) (tB1 (op2 g ma mb)) := by
  refine JT.of (pt_cmpR ho ha hb hm) fun σ H Q ⟨μ, env, st, he, hs, hp⟩ => ?_
  refine tM_two ⟨μ, env, st, he, hs, hp.bind.imp ?_⟩
  rintro x H1 ⟨μ1, st1, d, g1, hs1, hx, hp1⟩
  cases d with
  | bl b => exact ⟨b, RepV.bl_iff.mp hx, hp1.ret hs1 rfl⟩
  | _ => exact hp1.elim
/-- truth -/
def truV : D → Stor → Option Bool
  | .non, _ => some false
  | .bl b, _ => some b
  | .int i, _ => some (i != 0)
  | .str cs, _ => if cs.length ≤ 1000000 then some (!cs.isEmpty) else none
  | .tup ds, _ => some (!ds.isEmpty)
  | .loc n, st => match st[n]? with
    | some (.lst ds) => some (!ds.isEmpty)
    | some (.frz ds) => some (!ds.isEmpty)
    | _ => none
def tru (a : ME) : MT := fun env st => (a env st).bind fun x st1 => match truV x st1 with | some b => .ok b st1 | none => .bad
theorem lim_ok {n : Nat} (h : n ≤ 1000000) : n ≤ sizeLine := Nat.le_trans h (by decide)
theorem RepS.lst {K : PySem.W.Frag} {μ : List Addr} {H : Hp} {st : Stor} {n : Nat} {ds : List D} (h : RepS K μ H st) (e : st[n]? = some (.lst ds)) : ∃ p xs, μ[n]? = some p ∧ H p = some (.lst xs) ∧ RepVs K μ H ds xs := by
  obtain ⟨p, h1, xs, h2, h3⟩ := h.at_ n _ e
  exact ⟨p, xs, h1, h2, h3⟩
/-- the items of a list that is read -/
def itemsAt (st : Stor) (n : Nat) : Option (List D) := match st[n]? with
  | some (.lst ds) => some ds
  | some (.frz ds) => some ds
  | _ => none
theorem RepS.items {K : PySem.W.Frag} {μ : List Addr} {H : Hp} {st : Stor} {n : Nat} {ds : List D} (h : RepS K μ H st) (e : itemsAt st n = some ds) : ∃ p xs, μ[n]? = some p ∧ SqL K H p xs ∧ RepVs K μ H ds xs := by
  unfold itemsAt at e
  split at e
  · rename_i es q
    cases e
    obtain ⟨p, xs, h1, h2, h3⟩ := h.lst q
    exact ⟨p, xs, h1, SqL.of h2, h3⟩
  · rename_i es q
    cases e
    obtain ⟨p, h1, xs, h2, h3⟩ := h.at_ n _ q
    exact ⟨p, xs, h1, h2.sqL, h3⟩
  · cases e
theorem RepVs.isEmpty {K : PySem.W.Frag} {μ : List Addr} {H : Hp} {ds : List D} {xs : List V} (h : RepVs K μ H ds xs) : ds.isEmpty = xs.isEmpty := by
  have := h.length
  cases ds <;> cases xs <;> simp_all
theorem truV_ok {d : D} {st : Stor} {b : Bool} {μ : List Addr} {H : Hp} {v : V} (h : truV d st = some b) (hs : RepS X.K μ H st) (hv : RepV X.K μ H d v) : TruV X.K v H b := by
  cases d with
  | non => rw [RepV.non_iff] at hv; subst hv; cases h; rfl
  | bl c => rw [RepV.bl_iff] at hv; subst hv; cases h; rfl
  | int i => rw [RepV.int_iff] at hv; subst hv; cases h; rfl
  | str cs =>
    rw [RepV.str_iff] at hv; subst hv
    simp only [truV] at h
    split at h
    · rename_i hl
      cases h
      have e : (strOf cs).length = cs.length := by simp [Str.length, strOf]
      refine ⟨by rw [e]; exact lim_ok hl, ?_⟩
      rw [e]
      cases cs <;> simp
      omega
    · cases h
  | tup ds =>
    rw [RepV.tup_iff] at hv
    obtain ⟨a, xs, rfl, h1, h2⟩ := hv
    cases h
    exact .inr (.inl ⟨xs, h1.sqT, by rw [h2.isEmpty]⟩)
  | loc n =>
    rw [RepV.loc_iff] at hv
    obtain ⟨a, h1, rfl⟩ := hv
    have key : ∃ ds, itemsAt st n = some ds ∧ b = !ds.isEmpty := by
      unfold itemsAt
      simp only [truV] at h
      split at h
      · rename_i q; cases h; exact ⟨_, rfl, rfl⟩
      · rename_i q; cases h; exact ⟨_, rfl, rfl⟩
      · cases h
    obtain ⟨ds, q, rfl⟩ := key
    obtain ⟨p, xs, h3, h4, h5⟩ := hs.items q
    rw [h1] at h3; cases h3
    exact .inl ⟨xs, h4, by rw [h5.isEmpty]⟩
theorem jt_truth (ha : JE X a ma) (he : ∀ whole, isTrue a X.env whole = (do let v ← whole; standAt a.pos; holding [v] (truthy v)) := by intro _; rfl) : JT X a (tru ma) := by
  refine JT.of (pt_truth ha he) fun σ H Q ⟨μ, env, st, hE, hs, hp⟩ => ⟨μ, env, st, hE, hs, hp.bind.imp ?_⟩
  rintro x H1 ⟨μ1, st1, d, g1, hs1, hx, hp1⟩
  cases e : truV d st1 with
  | none => simp only [e] at hp1; exact hp1.elim
  | some b => simp only [e] at hp1; exact ⟨b, truV_ok e hs1 hx, hp1.ret hs1 rfl⟩
def JW (X : Cx) (e : Expr) (m : MT) : Prop := PW X e (tMT X m)
theorem JW.jt {m : MT} (h : JW X e m) : JT X e m := PW.pt h
theorem JW.of {t : TT} {m : MT} (h : PW X e t) (k : ∀ σ H Q, tMT X m σ H Q → t σ H Q) : JW X e m := fun w pins s σ H Q I q => h w pins s σ H Q I (k σ H Q q)
def andT (a b : MT) : MT := fun env st => (a env st).bind fun x st1 => if x then b env st1 else .ok false st1
def orT (a b : MT) : MT := fun env st => (a env st).bind fun x st1 => if x then .ok true st1 else b env st1
def notT (a : MT) : MT := fun env st => (a env st).bind fun x st1 => .ok (!x) st1
variable {ta tb tc : MT} {rest : List Expr}
theorem jw_and1 (ha : JT X a ta) : JW X (.BoolOp .And [a] pos) ta := pw_and1 ha
theorem jw_or1 (ha : JT X a ta) : JW X (.BoolOp .Or [a] pos) ta := pw_or1 ha
theorem jw_and (ha : JT X a ta) (hb : JW X (.BoolOp .And (b :: rest) pos) tb) : JW X (.BoolOp .And (a :: b :: rest) pos) (andT ta tb) := by
  refine JW.of (pw_and ha hb) fun σ H Q ⟨μ, env, st, hE, hs, hp⟩ => ⟨μ, env, st, hE, hs, hp.bind.imp ?_⟩
  rintro x H1 ⟨μ1, st1, d, g1, hs1, rfl, hp1⟩
  cases d with
  | true => exact iteT ⟨μ1, env, st1, hE.mono g1, hs1, hp1⟩
  | false => exact iteF (hp1.ret hs1 rfl)
theorem jw_or (ha : JT X a ta) (hb : JW X (.BoolOp .Or (b :: rest) pos) tb) : JW X (.BoolOp .Or (a :: b :: rest) pos) (orT ta tb) := by
  refine JW.of (pw_or ha hb) fun σ H Q ⟨μ, env, st, hE, hs, hp⟩ => ⟨μ, env, st, hE, hs, hp.bind.imp ?_⟩
  rintro x H1 ⟨μ1, st1, d, g1, hs1, rfl, hp1⟩
  cases d with
  | true => exact iteT (hp1.ret hs1 rfl)
  | false => exact iteF ⟨μ1, env, st1, hE.mono g1, hs1, hp1⟩
theorem jt_not (ha : JT X a ta) : JT X (.UnaryOp .Not a pos) (notT ta) := by
  refine JT.of (pt_not ha) fun σ H Q ⟨μ, env, st, hE, hs, hp⟩ => ⟨μ, env, st, hE, hs, hp.bind.imp ?_⟩
  rintro x H1 ⟨μ1, st1, d, g1, hs1, rfl, hp1⟩
  exact hp1.ret hs1 rfl
/-! ### and, or, not as values: bools -/
def andV (a b : ME) : ME := fun env st => (a env st).bind fun x st1 => match x with | .bl true => b env st1 | .bl false => .ok (.bl false) st1 | _ => .bad
def orV (a b : ME) : ME := fun env st => (a env st).bind fun x st1 => match x with | .bl true => .ok (.bl true) st1 | .bl false => b env st1 | _ => .bad
theorem je_one {op} {m : ME} (h : JE X a m) : JE X (.BoolOp op [a] pos) m := pe_one h
theorem je_and (ha : JE X a ma) (hb : JE X (.BoolOp .And (b :: rest) pos) mb) : JE X (.BoolOp .And (a :: b :: rest) pos) (andV ma mb) := by
  refine JE.of (pe_and ha hb) fun σ H Q ⟨μ, env, st, hE, hs, hp⟩ => ⟨μ, env, st, hE, hs, hp.bind.imp ?_⟩
  rintro x H1 ⟨μ1, st1, d, g1, hs1, hx, hp1⟩
  cases d with
  | bl c =>
    refine ⟨c, RepV.bl_iff.mp hx, ?_⟩
    cases c with
    | true => exact iteT ⟨μ1, env, st1, hE.mono g1, hs1, hp1⟩
    | false => exact iteF (hp1.ret hs1 (RepV.bl_iff.mpr rfl))
  | _ => exact hp1.elim
theorem je_or (ha : JE X a ma) (hb : JE X (.BoolOp .Or (b :: rest) pos) mb) : JE X (.BoolOp .Or (a :: b :: rest) pos) (orV ma mb) := by
  refine JE.of (pe_or ha hb) fun σ H Q ⟨μ, env, st, hE, hs, hp⟩ => ⟨μ, env, st, hE, hs, hp.bind.imp ?_⟩
  rintro x H1 ⟨μ1, st1, d, g1, hs1, hx, hp1⟩
  cases d with
  | bl c =>
    refine ⟨c, RepV.bl_iff.mp hx, ?_⟩
    cases c with
    | true => exact iteT (hp1.ret hs1 (RepV.bl_iff.mpr rfl))
    | false => exact iteF ⟨μ1, env, st1, hE.mono g1, hs1, hp1⟩
  | _ => exact hp1.elim
/-! ### argument lists, displays -/
def nilA : MA := fun _ st => .ok [] st
def consA (a : ME) (r : MA) : MA := fun env st => (a env st).bind fun x st1 => (r env st1).bind fun xs st2 => .ok (x :: xs) st2
theorem ja_nil : JA X [] nilA := JA.of pa_nil fun σ H Q ⟨μ, env, st, hE, hs, hp⟩ => hp.ret hs RepVs.nil
theorem ja_cons {e : Expr} {es : List Expr} {m : ME} {mA : MA} (h : JE X e m) (hr : JA X es mA) (hs : starEach (e :: es) X.env = (false, eval e X.env) :: starEach es X.env := by rfl) : JA X (e :: es) (consA m mA) := by
  refine JA.of (pa_cons h hr hs) fun σ H Q ⟨μ, env, st, hE, hs, hp⟩ => ⟨μ, env, st, hE, hs, hp.bind.imp ?_⟩
  rintro x H1 ⟨μ1, st1, d, g1, hs1, hx, hp1⟩
  refine ⟨μ1, env, st1, hE.mono g1, hs1, hp1.bind.imp ?_⟩
  rintro xs H2 ⟨μ2, st2, ds, g2, hs2, hxs, hp2⟩
  exact hp2.ret hs2 (RepVs.cons (hx.mono g2 _) hxs)
def tupE (m : MA) : ME := fun env st => (m env st).bind fun ds st1 => if ds.length ≤ 1000000 then .ok (.tup ds) st1 else .bad
def lstE (m : MA) : ME := fun env st => (m env st).bind fun ds st1 => if ds.length ≤ 1000000 then .ok (.loc st1.length) (st1 ++ [.lst ds]) else .bad
theorem je_tup {es : List Expr} {mA : MA} {x1} (h : JA X es mA) : JE X (.Tuple es x1 pos) (tupE mA) := by
  refine JE.of (pe_tup h) fun σ H Q ⟨μ, env, st, hE, hs, hp⟩ => ⟨μ, env, st, hE, hs, hp.bind.imp ?_⟩
  rintro xs H1 ⟨μ1, st1, ds, g1, hs1, hxs, hp1⟩
  dsimp only at hp1
  split at hp1
  · rename_i hl
    refine ⟨by rw [← hxs.length]; exact lim_ok hl, fun p hn => ?_⟩
    exact hp1 _ _ μ1 (Grow.lay hn) (hs1.lay hn) (RepV.tup_iff.mpr ⟨p, xs, rfl, .inl upd_same, hxs.mono (Grow.lay hn) _⟩)
  · exact hp1.elim
/-- a new list -/
theorem Post.newList {μ : List Addr} {H : Hp} {st : Stor} {ds : List D} {xs : List V} {p : Addr} {Q : VK} (h : Post X μ H (relV X) Q (.ok (.loc st.length) (st ++ [.lst ds]))) (hs : RepS X.K μ H st) (hx : RepVs X.K μ H ds xs) (hn : H p = none) :
    Q (.ref p) (upd H p (.lst xs)) := by
  have g : Grow μ H (μ ++ [p]) (upd H p (.lst xs)) := Grow.new hn
  refine h _ _ (μ ++ [p]) g (hs.new hn ⟨xs, upd_same, hx.mono g _⟩) (RepV.loc_iff.mpr ⟨p, ?_, rfl⟩)
  rw [← hs.len]; simp
theorem je_lst {es : List Expr} {mA : MA} (h : JA X es mA) : JE X (.List es pos) (lstE mA) := by
  refine JE.of (pe_lst h) fun σ H Q ⟨μ, env, st, hE, hs, hp⟩ => ⟨μ, env, st, hE, hs, hp.bind.imp ?_⟩
  rintro xs H1 ⟨μ1, st1, ds, g1, hs1, hxs, hp1⟩
  dsimp only at hp1
  split at hp1
  · rename_i hl
    exact ⟨by rw [← hxs.length]; exact lim_ok hl, fun p hn => hp1.newList hs1 hxs hn⟩
  · exact hp1.elim
end
end M
namespace M
open PySem PySem.Spec L2
section
variable {X : Cx} {e a b c : Expr} {es : List Expr} {t : TE} {ma mb mc : ME} {mA : MA} {pos : Pos}
theorem strOf_len (cs : List Nat) : (strOf cs).length = cs.length := by simp [Str.length, strOf]
theorem strOf_app (a b : List Nat) : strOf a ++ strOf b = strOf (a ++ b) := by
  show Str.append _ _ = _
  simp [Str.append, strOf]
theorem strOf_inj {a b : List Nat} : strOf a = strOf b ↔ a = b := by
  constructor
  · intro h
    have := congrArg (fun s : Str => s.cps.toList) h
    simpa [strOf] using this
  · intro h; rw [h]
/-! ### + - * // % ** -/
def addV : D → D → Stor → R D
  | .int i, .int j, st => .ok (.int (i + j)) st
  | .str a, .str b, st => if a.length + b.length ≤ 1000000 then .ok (.str (a ++ b)) st else .bad
  | .tup a, .tup b, st => if a.length + b.length ≤ 1000000 then .ok (.tup (a ++ b)) st else .bad
  | .loc m, .loc n, st => match st[m]?, st[n]? with
    | some (.lst a), some (.lst b) => if a.length + b.length ≤ 1000000 then .ok (.loc st.length) (st ++ [.lst (a ++ b)]) else .bad
    | _, _ => .bad
  | _, _, _ => .bad
theorem op_addV : OpR X (binaryOp .Add) (rM X addV) := by
  refine OpR.weak (OpR.or op_add (OpR.or op_add_str (OpR.or op_catT (OpR.or op_catT0 op_cat)))) ?_
  rintro x y H Q ⟨μ, st, dx, dy, hs, hx, hy, hp⟩
  cases dx with
  | int i =>
    cases dy with
    | int j =>
      rw [RepV.int_iff] at hx hy; subst hx hy
      exact .inl ⟨i, j, rfl, rfl, hp.ret hs (RepV.int_iff.mpr rfl)⟩
    | _ => exact hp.elim
  | str i =>
    cases dy with
    | str j =>
      rw [RepV.str_iff] at hx hy; subst hx hy
      simp only [addV] at hp
      split at hp
      · rename_i hl
        refine .inr (.inl ⟨_, _, rfl, rfl, ?_, ?_⟩)
        · rw [strOf_len, strOf_len]; exact lim_ok hl
        · rw [strOf_app]; exact hp.ret hs (RepV.str_iff.mpr rfl)
      · exact hp.elim
    | _ => exact hp.elim
  | tup i =>
    cases dy with
    | tup j =>
      rw [RepV.tup_iff] at hx hy
      obtain ⟨p, xs, rfl, h1, h2⟩ := hx
      obtain ⟨q, ys, rfl, h3, h4⟩ := hy
      simp only [addV] at hp
      split at hp
      · rename_i hl
        by_cases hx0 : xs = []
        · subst hx0
          have hi : i = [] := by have := h2.length; simpa using this
          subst hi
          exact .inr (.inr (.inr (.inl ⟨p, q, ys, rfl, rfl, h1.sqT, h3.sqT, hp.ret hs (RepV.tup_iff.mpr ⟨q, ys, rfl, h3, h4⟩)⟩)))
        · refine .inr (.inr (.inl ⟨p, q, xs, ys, rfl, rfl, h1.sqT, h3.sqT, hx0, by rw [← h2.length, ← h4.length]; exact lim_ok hl, fun hy0 => ?_, fun _ r hr => ?_⟩))
          · subst hy0
            have hj : j = [] := by have := h4.length; simpa using this
            subst hj
            exact hp.ret hs (RepV.tup_iff.mpr ⟨p, xs, rfl, by rw [List.append_nil]; exact h1, by rw [List.append_nil]; exact h2⟩)
          · exact hp _ _ μ (Grow.lay hr) (hs.lay hr) (RepV.tup_iff.mpr ⟨r, _, rfl, .inl upd_same, (h2.append h4).mono (Grow.lay hr) _⟩)
      · exact hp.elim
    | _ => exact hp.elim
  | loc m =>
    cases dy with
    | loc n =>
      rw [RepV.loc_iff] at hx hy
      obtain ⟨p, h1, rfl⟩ := hx
      obtain ⟨q, h2, rfl⟩ := hy
      simp only [addV] at hp
      split at hp
      · rename_i da db e1 e2
        split at hp
        · rename_i hl
          obtain ⟨p', xs, h3, h4, h5⟩ := hs.lst e1
          obtain ⟨q', ys, h6, h7, h8⟩ := hs.lst e2
          rw [h1] at h3; cases h3
          rw [h2] at h6; cases h6
          exact .inr (.inr (.inr (.inr ⟨p, q, xs, ys, rfl, rfl, h4, h7, by rw [← h5.length, ← h8.length]; exact lim_ok hl, fun r hr => hp.newList hs (h5.append h8) hr⟩)))
        · exact hp.elim
      · exact hp.elim
    | _ => exact hp.elim
  | _ => exact hp.elim
/-- two ints -/
def intV (C : Int → Int → Prop) [∀ i j, Decidable (C i j)] (g : Int → Int → D) : D → D → Stor → R D
  | .int i, .int j, st => if C i j then .ok (g i j) st else .bad
  | _, _, _ => .bad
theorem op_intV {f : Value → Value → Sem Value} {C : Int → Int → Prop} [∀ i j, Decidable (C i j)] {g : Int → Int → D} {gv : Int → Int → V} (h : OpR X f (rI C gv)) (hg : ∀ i j μ H, RepV X.K μ H (g i j) (gv i j)) : OpR X f (rM X (intV C g)) := by
  refine OpR.weak h ?_
  rintro x y H Q ⟨μ, st, dx, dy, hs, hx, hy, hp⟩
  cases dx with
  | int i =>
    cases dy with
    | int j =>
      rw [RepV.int_iff] at hx hy; subst hx hy
      simp only [intV] at hp
      split at hp
      · rename_i hc
        exact ⟨i, j, rfl, rfl, hc, hp.ret hs (hg i j μ H)⟩
      · exact hp.elim
    | _ => exact hp.elim
  | _ => exact hp.elim
theorem OpR.top {f : Value → Value → Sem Value} {gv : Int → Int → V} (h : OpR X f (rI0 gv)) : OpR X f (rI (fun _ _ => True) gv) := OpR.weak h fun x y H Q ⟨i, j, a, b, _, q⟩ => ⟨i, j, a, b, q⟩
def mulV : D → D → Stor → R D := intV (fun i j => (-(2 ^ 64) < i ∧ i < 2 ^ 64) ∨ (-(2 ^ 64) < j ∧ j < 2 ^ 64)) fun i j => .int (i * j)
theorem op_mulV : OpR X (binaryOp .Mult) (rM X mulV) := op_intV (OpR.weak op_mul fun x y H Q h => h) fun i j μ H => RepV.int_iff.mpr rfl
def fdivV : D → D → Stor → R D := intV (fun _ j => 0 < j ∧ j < 2 ^ 64) fun i j => .int (i / j)
theorem op_fdivV : OpR X (binaryOp .FloorDiv) (rM X fdivV) := op_intV op_fdivW fun i j μ H => RepV.int_iff.mpr rfl
def modV : D → D → Stor → R D := intV (fun _ j => 0 < j) fun i j => .int (i % j)
theorem op_modV : OpR X (binaryOp .Mod) (rM X modV) := op_intV op_mod fun i j μ H => RepV.int_iff.mpr rfl
def ltV : D → D → Stor → R D := intV (fun _ _ => True) fun i j => .bl (decide (i < j))
theorem op_ltV : OpR X (compareOp .Lt) (rM X ltV) := op_intV (OpR.top op_lt) fun i j μ H => RepV.bl_iff.mpr rfl
def leV : D → D → Stor → R D := intV (fun _ _ => True) fun i j => .bl (decide (i ≤ j))
theorem op_leV : OpR X (compareOp .LtE) (rM X leV) := op_intV (OpR.top op_le) fun i j μ H => RepV.bl_iff.mpr rfl
def gtV : D → D → Stor → R D := intV (fun _ _ => True) fun i j => .bl (decide (j < i))
theorem op_gtV : OpR X (compareOp .Gt) (rM X gtV) := op_intV (OpR.top op_gt) fun i j μ H => RepV.bl_iff.mpr rfl
def negV : D → Stor → R D
  | .int i, st => .ok (.int (-i)) st
  | _, _ => .bad
theorem un_negV : UnR X (unaryOp .USub) (rM1 X negV) := by
  refine UnR.weak un_neg ?_
  rintro x H Q ⟨μ, st, dx, hs, hx, hp⟩
  cases dx with
  | int i => rw [RepV.int_iff] at hx; subst hx; exact ⟨i, rfl, hp.ret hs (RepV.int_iff.mpr rfl)⟩
  | _ => exact hp.elim
/-- is None, is not None -/
def isNoneV : D → D → Stor → R D
  | .non, .non, st => .ok (.bl true) st
  | _, .non, st => .ok (.bl false) st
  | _, _, _ => .bad
theorem RepV.none_iff' {K : PySem.W.Frag} {μ : List Addr} {H : Hp} {d : D} {v : V} (h : RepV K μ H d v) : decide (v = .non) = (match d with | .non => true | _ => false) := by
  cases d with
  | non => rw [RepV.non_iff] at h; subst h; rfl
  | bl b => rw [RepV.bl_iff] at h; subst h; rfl
  | int b => rw [RepV.int_iff] at h; subst h; rfl
  | str b => rw [RepV.str_iff] at h; subst h; rfl
  | tup b => rw [RepV.tup_iff] at h; obtain ⟨_, _, rfl, _⟩ := h; rfl
  | loc b => rw [RepV.loc_iff] at h; obtain ⟨_, _, rfl⟩ := h; rfl
theorem op_isNoneV : OpR X (compareOp .Is) (rM X isNoneV) := by
  refine OpR.weak op_isN ?_
  rintro x y H Q ⟨μ, st, dx, dy, hs, hx, hy, hp⟩
  cases dy with
  | non =>
    rw [RepV.non_iff] at hy
    refine ⟨hy, ?_⟩
    rw [hx.none_iff']
    cases dx <;> exact hp.ret hs (RepV.bl_iff.mpr rfl)
  | _ => cases dx <;> exact hp.elim
/-! ### a[b] -/
def ixV : D → D → Stor → R D
  | .loc n, .int i, st => match (itemsAt st n).bind fun ds => atI ds i with | some d => .ok d st | none => .bad
  | .tup ds, .int i, st => match atI ds i with | some d => .ok d st | none => .bad
  | .str cs, .int i, st => if cs.length ≤ 1000000 then (match atI cs i with | some c => .ok (.str [c]) st | none => .bad) else .bad
  | _, _, _ => .bad
theorem RepVs.atI {K : PySem.W.Frag} {μ : List Addr} {H : Hp} {ds : List D} {xs : List V} {i : Int} {d : D} (h : RepVs K μ H ds xs) (e : L2.atI ds i = some d) : ∃ v, L2.atI xs i = some v ∧ RepV K μ H d v := by
  unfold L2.atI at e ⊢
  rw [← h.length]
  cases q : ixN ds.length i with
  | none => rw [q] at e; cases e
  | some j =>
    rw [q] at e
    exact h.get (by simpa using e)
theorem ix_V : IxR X (rM X ixV) := by
  refine IxR.weak ix_seq ?_
  rintro x y H Q ⟨μ, st, dx, dy, hs, hx, hy, hp⟩
  cases dy with
  | int i =>
    rw [RepV.int_iff] at hy; subst hy
    cases dx with
    | loc n =>
      rw [RepV.loc_iff] at hx
      obtain ⟨p, h1, rfl⟩ := hx
      simp only [ixV] at hp
      cases e : itemsAt st n with
      | none => rw [e] at hp; exact hp.elim
      | some ds =>
        rw [e] at hp
        cases e2 : L2.atI ds i with
        | none => simp only [Option.bind_some, e2] at hp; exact hp.elim
        | some d =>
          simp only [Option.bind_some, e2] at hp
          obtain ⟨p', xs, h3, h4, h5⟩ := hs.items e
          rw [h1] at h3; cases h3
          obtain ⟨v, h6, h7⟩ := h5.atI e2
          exact .inl ⟨p, xs, i, v, rfl, rfl, h4, h6, hp.ret hs h7⟩
    | tup ds =>
      rw [RepV.tup_iff] at hx
      obtain ⟨p, xs, rfl, h1, h2⟩ := hx
      simp only [ixV] at hp
      cases e2 : L2.atI ds i with
      | none => simp only [e2] at hp; exact hp.elim
      | some d =>
        simp only [e2] at hp
        obtain ⟨v, h6, h7⟩ := h2.atI e2
        exact .inr (.inl ⟨p, xs, i, v, rfl, rfl, h1.sqT, h6, hp.ret hs h7⟩)
    | str cs =>
      rw [RepV.str_iff] at hx; subst hx
      simp only [ixV] at hp
      split at hp
      · rename_i hl
        cases e2 : L2.atI cs i with
        | none => simp only [e2] at hp; exact hp.elim
        | some c =>
          simp only [e2] at hp
          exact .inr (.inr ⟨_, i, c, rfl, rfl, by rw [strOf_len]; exact lim_ok hl, by simpa [strOf] using e2, hp.ret hs (RepV.str_iff.mpr rfl)⟩)
      · exact hp.elim
    | _ => exact hp.elim
  | _ => cases dx <;> exact hp.elim
theorem je_ix (ha : JE X a ma) (hb : JE X b mb) (hs : PlainIx b := by exact fun _ _ => rfl) : JE X (.Subscript a b pos) (op2 ixV ma mb) :=
  JE.of (pe_ix ix_V ha hb hs) fun σ H Q h => tM_two h
end
end M
namespace M
open PySem PySem.Spec L2
section
variable {X : Cx} {e a b c : Expr} {es : List Expr} {t : TE} {ma mb mc : ME} {mA : MA} {pos p2 : Pos}
/-! ### slices -/
def cut {α : Type} (xs : List α) (lo hi : Option Int) : List α := (xs.drop (HT.sIx xs.length 0 lo)).take (HT.sIx xs.length xs.length hi - HT.sIx xs.length 0 lo)
theorem RepVs.cut {K : PySem.W.Frag} {μ : List Addr} {H : Hp} {ds : List D} {xs : List V} (h : RepVs K μ H ds xs) (lo hi : Option Int) : RepVs K μ H (M.cut ds lo hi) (cutV xs lo hi) := by
  unfold M.cut cutV
  rw [← h.length]
  exact (h.drop _).take _
theorem cut_whole {α : Type} {xs : List α} {lo hi : Option Int} (h : HT.sIx xs.length 0 lo = 0 ∧ HT.sIx xs.length xs.length hi = xs.length) : cut xs lo hi = xs := by
  unfold cut
  rw [h.1, h.2]
  simp
theorem sRange_eq (i j : Nat) : sliceRange (i : Int) (j : Int) 1 = (List.range (j - i)).map fun k => i + k := by
  unfold sliceRange
  simp only [show (1 : Int) > 0 by decide, if_true]
  have e : (if (i : Int) < (j : Int) then ((j : Int) - (i : Int) + 1 - 1) / 1 else 0).toNat = j - i := by
    split
    · rw [Int.ediv_one]; omega
    · omega
  rw [e]
  refine List.map_congr_left fun k _ => ?_
  omega
theorem sIdx_eq (lo hi : Option Int) (n : Nat) : Builtin.Str.strSliceIndices lo hi 1 n = (List.range (HT.sIx n n hi - HT.sIx n 0 lo)).map fun k => HT.sIx n 0 lo + k := by
  rw [← sRange_eq]
  unfold Builtin.Str.strSliceIndices
  simp only [show (1 : Int) > 0 by decide, if_true]
  congr 1
  · cases lo with
    | none => rfl
    | some v =>
      show max 0 (min (if v < 0 then v + (n : Int) else v) (n : Int)) = ((if v < 0 then (v + (n : Int)).toNat else min v.toNat n : Nat) : Int)
      split <;> omega
  · cases hi with
    | none => rfl
    | some v =>
      show max 0 (min (if v < 0 then v + (n : Int) else v) (n : Int)) = ((if v < 0 then (v + (n : Int)).toNat else min v.toNat n : Nat) : Int)
      split <;> omega
theorem pick_cut (cs : List Nat) (i k : Nat) : ((List.range k).map fun m => i + m).filterMap (fun m => cs[m]?) = (cs.drop i).take k := by
  induction k generalizing i with
  | zero => simp
  | succ k ih =>
    rw [List.range_succ_eq_map, List.map_cons, List.filterMap_cons, List.map_map]
    have e : ((fun m => i + m) ∘ Nat.succ) = fun m => (i + 1) + m := by funext m; simp; omega
    rw [e, ih (i + 1)]
    cases q : cs[i]? with
    | none =>
      have hl : cs.length ≤ i := List.getElem?_eq_none_iff.mp q
      simp [q, List.drop_eq_nil_of_le hl, List.drop_eq_nil_of_le (Nat.le_succ_of_le hl)]
    | some c =>
      have hl := (List.getElem?_eq_some_iff.mp q).1
      have hc := (List.getElem?_eq_some_iff.mp q).2
      simp [q, List.drop_eq_getElem_cons hl, hc]
theorem slice_str (cs : List Nat) (lo hi : Option Int) : Txt.slice (strOf cs) lo hi = strOf (cut cs lo hi) := by
  have e : (strOf cs).length = cs.length := by simp [Str.length, strOf]
  unfold Txt.slice
  rw [e, sIdx_eq]
  have hj : HT.sIx cs.length cs.length hi ≤ cs.length := HT.sIx_le _ _ (Nat.le_refl _) hi
  have q : ((List.range (HT.sIx cs.length cs.length hi - HT.sIx cs.length 0 lo)).map fun k => HT.sIx cs.length 0 lo + k).filterMap (fun m => (strOf cs).cps[m]?) = cut cs lo hi := by
    have : (fun (m : Nat) => (strOf cs).cps[m]?) = fun (m : Nat) => cs[m]? := by funext m; simp [strOf]
    rw [this, pick_cut]; rfl
  split
  · rename_i h
    rw [Bool.and_eq_true] at h
    have h2 : HT.sIx cs.length cs.length hi - HT.sIx cs.length 0 lo = cs.length := by simpa using h.2
    have h3 : cut cs lo hi = cs := by
      unfold cut
      rw [h2]
      by_cases hz : cs.length = 0
      · have : cs = [] := List.length_eq_zero_iff.mp hz
        subst this; simp
      · have : HT.sIx cs.length 0 lo = 0 := by omega
        rw [this]; simp
    rw [h3]
  · rw [q]
def slV : D → Option Int → Option Int → Stor → R D
  | .loc n, lo, hi, st => match itemsAt st n with | some ds => .ok (.loc st.length) (st ++ [.lst (cut ds lo hi)]) | none => .bad
  | .tup ds, lo, hi, st => .ok (.tup (cut ds lo hi)) st
  | .str cs, lo, hi, st => if cs.length ≤ 1000000 then .ok (.str (cut cs lo hi)) st else .bad
  | _, _, _, _ => .bad
def rMS (X : Cx) (g : D → Option Int → Option Int → Stor → R D) : V → Option Int → Option Int → Hp → VK → Prop := fun x lo hi H Q => ∃ μ st dx, RepS X.K μ H st ∧ RepV X.K μ H dx x ∧ Post X μ H (relV X) Q (g dx lo hi st)
def rSlS : V → Option Int → Option Int → Hp → VK → Prop := fun x lo hi H Q => ∃ cs, x = .str (strOf cs) ∧ cs.length ≤ sizeLine ∧ Q (.str (strOf (cut cs lo hi))) H
theorem sl_str : SlR X rSlS := by
  intro pins s σ H x v vl vu lo hi sl Q I rx hs pl pu h
  obtain ⟨cs, rfl, hz, q⟩ := h
  obtain ⟨t, rfl⟩ := rx
  obtain ⟨l, el, ml⟩ : ∃ l : Option (Int × Tok), vl = partValue l ∧ l.map (·.1) = lo := by
    cases pl with
    | none => exact ⟨none, rfl, rfl⟩
    | int i u => exact ⟨some (i, u), rfl, rfl⟩
  obtain ⟨u, eu, mu⟩ : ∃ l : Option (Int × Tok), vu = partValue l ∧ l.map (·.1) = hi := by
    cases pu with
    | none => exact ⟨none, rfl, rfl⟩
    | int i u => exact ⟨some (i, u), rfl, rfl⟩
  subst el eu
  have hs' : s.heap.IsSlice sl l u none := hs
  refine ⟨"str", _, F.slot_str_getitem.lookup, typeIs_str _ _ _, wpAny_getItem_str_slice (l := l) (u := u) (st := none) hs' rfl ?_⟩
  have e : Txt.slice (strOf cs) lo hi = strOf (cut cs lo hi) := slice_str cs lo hi
  unfold Txt.slice at e
  unfold sliceMade slicePicked
  rw [ml, mu]
  split
  · rename_i h
    have h' : ((1 : Int) == 1 && (Builtin.Str.strSliceIndices lo hi 1 (strOf cs).length).length == (strOf cs).length) = true := h
    rw [if_pos h'] at e
    exact ⟨.str (strOf cs), H, I, ⟨t, rfl⟩, by rw [← e] at q; exact q⟩
  · rename_i h
    have h' : ¬ ((1 : Int) == 1 && (Builtin.Str.strSliceIndices lo hi 1 (strOf cs).length).length == (strOf cs).length) = true := h
    rw [if_neg h'] at e
    have e' : ({ cps := ((Builtin.Str.strSliceIndices lo hi ((Option.map (·.1) (none : Option (Int × Tok))).getD 1) (strOf cs).length).filterMap fun x => (strOf cs).cps[x]?).toArray } : Str) = strOf (cut cs lo hi) := e
    rw [e']
    refine ⟨?_, .str (strOf (cut cs lo hi)), H, I.tok _, ⟨_, rfl⟩, q⟩
    have : (strOf (cut cs lo hi)).length = (cut cs lo hi).length := by simp [Str.length, strOf]
    rw [this]
    refine Nat.le_trans ?_ hz
    unfold cut
    rw [List.length_take, List.length_drop]
    omega
theorem sl_V : SlR X (rMS X slV) := by
  refine SlR.weak (SlR.or sl_list (SlR.or sl_tup (SlR.or sl_tupW sl_str))) ?_
  rintro x lo hi H Q ⟨μ, st, dx, hs, hx, hp⟩
  cases dx with
  | loc n =>
    rw [RepV.loc_iff] at hx
    obtain ⟨p, h1, rfl⟩ := hx
    simp only [slV] at hp
    cases e : itemsAt st n with
    | none => rw [e] at hp; exact hp.elim
    | some ds =>
      rw [e] at hp
      obtain ⟨p', xs, h3, h4, h5⟩ := hs.items e
      rw [h1] at h3; cases h3
      exact .inl ⟨p, xs, rfl, h4, fun q hq => hp.newList hs (h5.cut lo hi) hq⟩
  | tup ds =>
    rw [RepV.tup_iff] at hx
    obtain ⟨p, xs, rfl, h1, h2⟩ := hx
    by_cases hw : HT.sIx xs.length 0 lo = 0 ∧ HT.sIx xs.length xs.length hi = xs.length
    · refine .inr (.inr (.inl ⟨p, xs, rfl, h1.sqT, hw, hp.ret hs ?_⟩))
      rw [← h2.length] at hw
      rw [cut_whole hw]; exact RepV.tup_iff.mpr ⟨p, xs, rfl, h1, h2⟩
    · exact .inr (.inl ⟨p, xs, rfl, h1.sqT, hw, fun q hq => hp _ _ μ (Grow.lay hq) (hs.lay hq) (RepV.tup_iff.mpr ⟨q, _, rfl, .inl upd_same, (h2.cut lo hi).mono (Grow.lay hq) _⟩)⟩)
  | str cs =>
    rw [RepV.str_iff] at hx; subst hx
    simp only [slV] at hp
    split at hp
    · rename_i hl
      exact .inr (.inr (.inr ⟨cs, rfl, lim_ok hl, hp.ret hs (RepV.str_iff.mpr rfl)⟩))
    · exact hp.elim
  | _ => exact hp.elim
def noP : MP := fun _ st => .ok none st
def inP (m : ME) : MP := fun env st => (m env st).bind fun x st1 => match x with | .int i => .ok (some i) st1 | _ => .bad
theorem jp_none : JP X none noP := JP.of po_none fun σ H Q ⟨μ, env, st, hE, hs, hp⟩ => hp.ret hs rfl
theorem jp_some {m : ME} (h : JE X e m) : JP X (some e) (inP m) := by
  refine JP.of (po_some h) fun σ H Q ⟨μ, env, st, hE, hs, hp⟩ => ⟨μ, env, st, hE, hs, hp.bind.imp ?_⟩
  rintro x H1 ⟨μ1, st1, d, g1, hs1, hx, hp1⟩
  cases d with
  | int i => exact ⟨i, RepV.int_iff.mp hx, hp1.ret hs1 rfl⟩
  | _ => exact hp1.elim
def slE (a : ME) (l h : MP) : ME := fun env st => (a env st).bind fun x st1 => (l env st1).bind fun lo st2 => (h env st2).bind fun hi st3 => slV x lo hi st3
theorem je_slice {lo hi : Option Expr} {ml mh : MP} (he : JE X e ma) (hl : JP X lo ml) (hu : JP X hi mh) : JE X (.Subscript e (.Slice lo hi none p2) pos) (slE ma ml mh) := by
  refine JE.of (pe_slice sl_V he hl hu) fun σ H Q ⟨μ, env, st, hE, hs, hp⟩ => ⟨μ, env, st, hE, hs, hp.bind.imp ?_⟩
  rintro x H1 ⟨μ1, st1, d, g1, hs1, hx, hp1⟩
  refine ⟨μ1, env, st1, hE.mono g1, hs1, hp1.bind.imp ?_⟩
  rintro l H2 ⟨μ2, st2, l', g2, hs2, rfl, hp2⟩
  refine ⟨μ2, env, st2, (hE.mono g1).mono g2, hs2, hp2.bind.imp ?_⟩
  rintro u H3 ⟨μ3, st3, u', g3, hs3, rfl, hp3⟩
  exact ⟨μ3, st3, d, hs3, hx.mono (g2.trans g3) _, hp3⟩
/-! ### calls of built-ins and their methods -/
def callE (g : List D → Stor → R D) (mA : MA) : ME := fun env st => (mA env st).bind fun ds st1 => g ds st1
theorem tMA_call {g : List D → Stor → R D} {σ : L2.St} {H : Hp} {Q : VK} (h : tM X (callE g mA) σ H Q) : tMA X mA σ H fun vs H1 => rMC X g vs H1 Q := by
  obtain ⟨μ, env, st, hE, hs, hp⟩ := h
  refine ⟨μ, env, st, hE, hs, hp.bind.imp ?_⟩
  rintro xs H1 ⟨μ1, st1, ds, g1, hs1, hx, hp1⟩
  exact ⟨μ1, st1, ds, hs1, hx, hp1⟩
theorem je_callB {x : Str} {p : Pos} {id : String} {g : List D → Stor → R D} (hc : CallR X (.builtin id) (rMC X g)) (hg : Gl X x) (hm : X.mg x = none) (hv : bootBuiltins x = some (.builtin id)) (ha : JA X (e :: es) mA) (hn : x ≠ "__name__" := by decide) (hdb : (x == ("__debug__" : Str)) = false := by decide)
    (he : starEach (e :: es) X.env = (false, eval e X.env) :: starEach es X.env := by rfl) (hpl : (backTo pos (starEach es X.env)).any (·.1) = false := by rfl) : JE X (.Call (.Name x p) (e :: es) [] pos) (callE g mA) :=
  JE.of (pe_callB hc hg hm hv ha hn hdb he hpl) fun σ H Q h => tMA_call h
end
end M
namespace M
open PySem PySem.Spec L2
/-! ### statements -/
inductive Out where
  | nx (env : MEnv) | rt (d : D) | bk (env : MEnv) | cn (env : MEnv)
abbrev MS := MEnv → Stor → R Out
def PostS (X : Cx) (μ : List Addr) (H : Hp) (E : Ends) (r : R Out) : Prop := match r with
  | .ok (.nx env) st => ∀ (σ' : L2.St) (H' : Hp) (μ' : List Addr), Grow μ H μ' H' → RepS X.K μ' H' st → RepE X.K μ' H' env σ' → E.nx σ' H'
  | .ok (.rt d) st => ∀ (v : V) (H' : Hp) (μ' : List Addr), Grow μ H μ' H' → RepS X.K μ' H' st → RepV X.K μ' H' d v → E.rt v H'
  | .ok (.bk env) st => ∀ (σ' : L2.St) (H' : Hp) (μ' : List Addr), Grow μ H μ' H' → RepS X.K μ' H' st → RepE X.K μ' H' env σ' → E.bk σ' H'
  | .ok (.cn env) st => ∀ (σ' : L2.St) (H' : Hp) (μ' : List Addr), Grow μ H μ' H' → RepS X.K μ' H' st → RepE X.K μ' H' env σ' → E.ct σ' H'
  | .err x st => ErrOK X μ H x st
  | .bad => False
def tMS (X : Cx) (m : MS) : TS := fun E σ H => ∃ μ env st, RepE X.K μ H env σ ∧ RepS X.K μ H st ∧ PostS X μ H E (m env st)
def JS (X : Cx) (s : Stmt) (m : MS) : Prop := PS X s (tMS X m)
def JSs (X : Cx) (s : List Stmt) (m : MS) : Prop := PSs X s (tMS X m)
section
variable {X : Cx} {e a b c : Expr} {es : List Expr} {t : TE} {ma mb mc : ME} {mA : MA} {pos p2 : Pos} {s : Stmt} {ss : List Stmt} {m m1 m2 : MS} {μ μ1 : List Addr} {H H1 : Hp} {E E' : Ends} {r : R Out}
theorem PostS.mono (g : Grow μ H μ1 H1) (h : PostS X μ H E r) : PostS X μ1 H1 E r := by
  match r, h with
  | .ok (.nx _) _, h => exact fun σ' H' μ' g' => h σ' H' μ' (g.trans g')
  | .ok (.rt _) _, h => exact fun σ' H' μ' g' => h σ' H' μ' (g.trans g')
  | .ok (.bk _) _, h => exact fun σ' H' μ' g' => h σ' H' μ' (g.trans g')
  | .ok (.cn _) _, h => exact fun σ' H' μ' g' => h σ' H' μ' (g.trans g')
  | .err _ _, h => exact ErrOK.mono g h
  | .bad, h => exact h
theorem JS.of {t : TS} (h : PS X s t) (k : ∀ E σ H, tMS X m E σ H → t E σ H) : JS X s m := fun pins s σ H D I q => h pins s σ H D I (k D σ H q)
theorem JSs.of {t : TS} (h : PSs X ss t) (k : ∀ E σ H, tMS X m E σ H → t E σ H) : JSs X ss m := fun pins s σ H D I q => h pins s σ H D I (k D σ H q)
theorem PostS.nx {env : MEnv} {st : Stor} {σ : L2.St} (h : PostS X μ H E (.ok (.nx env) st)) (hs : RepS X.K μ H st) (hE : RepE X.K μ H env σ) : E.nx σ H := h σ H μ (.refl _ _) hs hE
def skipS : MS := fun env st => .ok (.nx env) st
def seqS (a b : MS) : MS := fun env st => (a env st).bind fun o st1 => match o with | .nx env1 => b env1 st1 | o => .ok o st1
def retS (m : ME) : MS := fun env st => (m env st).bind fun d st1 => .ok (.rt d) st1
def exprS (m : ME) : MS := fun env st => (m env st).bind fun _ st1 => .ok (.nx env) st1
def ifS (c : MT) (a b : MS) : MS := fun env st => (c env st).bind fun x st1 => if x then a env st1 else b env st1
theorem js_nil : JSs X [] skipS := JSs.of pss_nil fun E σ H ⟨μ, env, st, hE, hs, hp⟩ => hp.nx hs hE
theorem js_one (h : JS X s m) : JSs X [s] m := pss_one h
theorem PostS.seq (h : PostS X μ H E (r.bind fun o st1 => match o with | .nx env1 => m2 env1 st1 | o => .ok o st1)) : PostS X μ H { E with nx := tMS X m2 E } r := by
  match r, h with
  | .ok (.nx env1) st1, h => exact fun σ' H' μ' g hs hE => ⟨μ', env1, st1, hE, hs, PostS.mono g h⟩
  | .ok (.rt _) _, h => exact h
  | .ok (.bk _) _, h => exact h
  | .ok (.cn _) _, h => exact h
  | .err _ _, h => exact h
  | .bad, h => exact h
theorem js_cons (h1 : JS X s m1) (h2 : JSs X ss m2) : JSs X (s :: ss) (seqS m1 m2) :=
  JSs.of (pss_cons h1 h2) fun E σ H ⟨μ, env, st, hE, hs, hp⟩ => ⟨μ, env, st, hE, hs, PostS.seq hp⟩
/-- an expression's value handed to a statement's rest -/
theorem PostS.val {α β : Type} {rel : Rel α β} {r : R α} {f : α → Stor → R Out} (h : PostS X μ H E (r.bind f)) : Post X μ H rel (fun b H1 => ∃ μ1 st1 a, Grow μ H μ1 H1 ∧ RepS X.K μ1 H1 st1 ∧ rel μ1 H1 a b ∧ PostS X μ1 H1 E (f a st1)) r := by
  cases r with
  | ok a st => exact fun b H' μ' g h1 h2 => ⟨μ', st, a, g, h1, h2, PostS.mono g h⟩
  | err x st => exact h
  | bad => exact h
theorem js_ret (h : JE X e ma) : JS X (.Return (some e) pos) (retS ma) := by
  refine JS.of (ps_ret h) fun E σ H ⟨μ, env, st, hE, hs, hp⟩ => ⟨μ, env, st, hE, hs, hp.val.imp ?_⟩
  rintro v H1 ⟨μ1, st1, d, g1, hs1, hv, hp1⟩
  exact hp1 v H1 μ1 (.refl _ _) hs1 hv
theorem js_expr (h : JE X e ma) (hs : swapsWith e none pos.line X.env = pure false := by rfl) : JS X (.Expr e pos) (exprS ma) := by
  refine JS.of (ps_expr h hs) fun E σ H ⟨μ, env, st, hE, hs, hp⟩ => ⟨μ, env, st, hE, hs, hp.val.imp ?_⟩
  rintro v H1 ⟨μ1, st1, d, g1, hs1, hv, hp1⟩
  exact hp1.nx hs1 (hE.mono g1)
theorem js_if {sa sb : List Stmt} {tc : MT} (hc : JT X c tc) (ha : JSs X sa m1) (hb : JSs X sb m2) : JS X (.If c sa sb pos) (ifS tc m1 m2) := by
  refine JS.of (ps_if hc ha hb) fun E σ H ⟨μ, env, st, hE, hs, hp⟩ => ⟨μ, env, st, hE, hs, hp.val.imp ?_⟩
  rintro v H1 ⟨μ1, st1, d, g1, hs1, rfl, hp1⟩
  cases d with
  | true => exact iteT ⟨μ1, env, st1, hE.mono g1, hs1, hp1⟩
  | false => exact iteF ⟨μ1, env, st1, hE.mono g1, hs1, hp1⟩
/-! ### targets -/
abbrev MG := D → MEnv → Stor → R MEnv
abbrev MGs := List D → MEnv → Stor → R MEnv
abbrev relE (X : Cx) : Rel MEnv L2.St := fun μ H env σ => RepE X.K μ H env σ
def tMG (X : Cx) (m : MG) : TG := fun v σ H Q => ∃ μ env st d, RepE X.K μ H env σ ∧ RepS X.K μ H st ∧ RepV X.K μ H d v ∧ Post X μ H (relE X) Q (m d env st)
def tMGs (X : Cx) (m : MGs) : TGs := fun vs σ H Q => ∃ μ env st ds, RepE X.K μ H env σ ∧ RepS X.K μ H st ∧ RepVs X.K μ H ds vs ∧ Post X μ H (relE X) Q (m ds env st)
def JG (X : Cx) (t : Expr) (m : MG) : Prop := PG X t (tMG X m)
def JGs (X : Cx) (ts : List Expr) (m : MGs) : Prop := PGs X ts (tMGs X m)
theorem JG.of {g : TG} {m : MG} (h : PG X e g) (k : ∀ v σ H Q, tMG X m v σ H Q → g v σ H Q) : JG X e m := fun pins s σ H v u Q I r q => h pins s σ H v u Q I r (k v σ H Q q)
theorem JGs.of {g : TGs} {m : MGs} (h : PGs X es g) (k : ∀ v σ H Q, tMGs X m v σ H Q → g v σ H Q) : JGs X es m := fun pins s σ H v u Q I r q => h pins s σ H v u Q I r (k v σ H Q q)
def nameG (i : Nat) : MG := fun d env st => .ok (env.set i (some d)) st
theorem jg_name (i : Nat) {x : Str} (hN : X.N.Nodup) (hi : X.N[i]? = some x := by rfl) (hx : Loc X.env.scope x := by first | exact Or.inl rfl | exact Or.inr rfl) (hf : X.fn x = true ∨ X.env.scope.names.lookup x = some .local := by first | exact .inl rfl | exact .inr rfl | assumption) : JG X (.Name x pos) (nameG i) :=
  JG.of (pg_name hN hi hx hf) fun v σ H Q ⟨μ, env, st, d, hE, hs, hv, hp⟩ => hp.ret hs (hE.set hv)
def nilG : MGs := fun ds env st => match ds with | [] => .ok env st | _ => .bad
def consG (g : MG) (r : MGs) : MGs := fun ds env st => match ds with | d :: ds => (g d env st).bind fun env1 st1 => r ds env1 st1 | _ => .bad
theorem jgs_nil : JGs X [] nilG := JGs.of pgs_nil fun vs σ H Q ⟨μ, env, st, ds, hE, hs, hv, hp⟩ => by
  cases ds with
  | nil => rw [RepVs] at hv; exact ⟨hv, hp.ret hs hE⟩
  | cons _ _ => exact hp.elim
theorem jgs_cons {g : MG} {gs : MGs} (h1 : JG X e g) (h2 : JGs X es gs) (hs : (assignEach (e :: es) X.env).map (·.2) = assign e X.env :: (assignEach es X.env).map (·.2) := by rfl) : JGs X (e :: es) (consG g gs) :=
  JGs.of (pgs_cons h1 h2 hs) fun vs σ H Q ⟨μ, env, st, ds, hE, hs, hv, hp⟩ => by
  cases ds with
  | nil => exact hp.elim
  | cons d ds =>
    rw [RepVs] at hv
    obtain ⟨v, r, rfl, h3, h4⟩ := hv
    refine ⟨v, r, rfl, μ, env, st, d, hE, hs, h3, (Post.bind hp).imp ?_⟩
    rintro σ1 H1 ⟨μ1, st1, env1, g1, hs1, hE1, hp1⟩
    exact ⟨μ1, env1, st1, ds, hE1, hs1, h4.mono g1 _, hp1⟩
def tupG (n : Nat) (g : MGs) : MG := fun d env st => match d with | .tup ds => if ds.length = n then g ds env st else .bad | _ => .bad
theorem jg_tup {gs : MGs} {k : Nat} (n : Nat) (hc : X.calm = true) (h : JGs X es gs) (hn : (assignEach es X.env).length = n := by rfl) (hst : (assignEach es X.env).findIdx? (·.1) = none := by rfl) : JG X (.Tuple es k pos) (tupG n gs) :=
  JG.of (pg_tup hc h hn hst) fun v σ H Q ⟨μ, env, st, d, hE, hs, hv, hp⟩ => by
  cases d with
  | tup ds =>
    rw [RepV.tup_iff] at hv
    obtain ⟨p, xs, rfl, h1, h2⟩ := hv
    simp only [tupG] at hp
    split at hp
    · rename_i hl
      exact ⟨p, xs, rfl, h1.sqT, by rw [← h2.length]; exact hl, μ, env, st, ds, hE, hs, h2, hp⟩
    · exact hp.elim
  | _ => exact hp.elim
/-- o[i] = v of a list -/
def setV : D → D → D → Stor → R Unit
  | .loc n, .int i, d, st => match st[n]? with
    | some (.lst ds) => (match ixN ds.length i with | some j => .ok () (st.set n (.lst (ds.set j d))) | none => .bad)
    | _ => .bad
  | _, _, _, _ => .bad
abbrev relU : Rel Unit Unit := fun _ _ _ _ => True
def rMSet (X : Cx) (g : D → D → D → Stor → R Unit) : TSet := fun o i v H Q => ∃ μ st d1 d2 d3, RepS X.K μ H st ∧ RepV X.K μ H d1 o ∧ RepV X.K μ H d2 i ∧ RepV X.K μ H d3 v ∧ Post X μ H relU (fun _ => Q) (g d1 d2 d3 st)
/-- a list of the store is written -/
theorem putLst {st : Stor} {n : Nat} {ds ds' : List D} {p : Addr} {xs ys : List V} (hs : RepS X.K μ H st) (e : st[n]? = some (.lst ds)) (hp : μ[n]? = some p) (hx : H p = some (.lst xs)) (hy : RepVs X.K μ H ds' ys) :
    Grow μ H μ (upd H p (.lst ys)) ∧ RepS X.K μ (upd H p (.lst ys)) (st.set n (.lst ds')) := by
  have g : Ext H (upd H p (.lst ys)) := Ext.mut hx (fun _ z => nomatch z) (fun _ _ z => nomatch z)
  have g' : Grow μ H μ (upd H p (.lst ys)) := ⟨⟨[], by simp⟩, g⟩
  exact ⟨g', hs.put e rfl rfl hp g ⟨ys, upd_same, hy.mono g' _⟩⟩
theorem set_V : PSet X (rMSet X setV) := by
  refine PSet.weak set_list ?_
  rintro o i v H Q ⟨μ, st, d1, d2, d3, hs, h1, h2, h3, hp⟩
  cases d1 with
  | loc n =>
    cases d2 with
    | int k =>
      rw [RepV.loc_iff] at h1
      rw [RepV.int_iff] at h2
      obtain ⟨p, hn, rfl⟩ := h1
      subst h2
      simp only [setV] at hp
      cases e : st[n]? with
      | none => rw [e] at hp; exact hp.elim
      | some mo =>
        cases mo with
        | lst ds =>
          rw [e] at hp
          simp only at hp
          obtain ⟨p', xs, q1, q2, q3⟩ := hs.lst e
          rw [hn] at q1; cases q1
          cases e2 : ixN ds.length k with
          | none => rw [e2] at hp; exact hp.elim
          | some j =>
            rw [e2] at hp
            obtain ⟨g, hs'⟩ := putLst hs e hn q2 (RepVs.set h3 j q3)
            exact ⟨p, xs, k, j, rfl, rfl, q2, by rw [← q3.length]; exact e2, hp () _ μ g hs' trivial⟩
        | _ => rw [e] at hp; exact hp.elim
    | _ => exact hp.elim
  | _ => exact hp.elim
def subG (g : D → D → D → Stor → R Unit) (o i : ME) : MG := fun d env st => (o env st).bind fun x st1 => (i env st1).bind fun y st2 => (g x y d st2).bind fun _ st3 => .ok env st3
theorem jg_sub {o i : Expr} {mo mi : ME} {g : D → D → D → Stor → R Unit} (hset : PSet X (rMSet X g)) (ho : JE X o mo) (hi : JE X i mi)
    (ha : ∀ v, assign (.Subscript o i pos) X.env v = (do
      let ov ← holding [v] (eval o X.env)
      let iv ← holding [v, ov] (eval i X.env)
      standAt pos
      holding [v, ov, iv] (setItem ov iv v)
      release [v, ov, iv] []) := by intro _; rfl) : JG X (.Subscript o i pos) (subG g mo mi) := by
  refine JG.of (pg_sub ho hi hset ha) fun v σ H Q ⟨μ, env, st, d, hE, hs, hv, hp⟩ => ⟨μ, env, st, hE, hs, (Post.bind hp).imp ?_⟩
  rintro x H1 ⟨μ1, st1, dx, g1, hs1, hx, hp1⟩
  refine ⟨μ1, env, st1, hE.mono g1, hs1, (Post.bind hp1).imp ?_⟩
  rintro y H2 ⟨μ2, st2, dy, g2, hs2, hy, hp2⟩
  refine ⟨μ2, st2, dx, dy, d, hs2, hx.mono g2 _, hy, (hv.mono g1 _).mono g2 _, (Post.bind hp2).imp ?_⟩
  rintro _ H3 ⟨μ3, st3, _, g3, hs3, _, hp3⟩
  exact hp3.ret hs3 (((hE.mono g1).mono g2).mono g3)
def asgS (m : ME) (g : MG) : MS := fun env st => (m env st).bind fun d st1 => (g d env st1).bind fun env1 st2 => .ok (.nx env1) st2
theorem js_asg {tg : Expr} {g : MG} (he : JE X e ma) (hg : JG X tg g) (hs : swapsWithSole [tg] e pos.line X.env = pure false := by rfl) (hw : swappedStores [tg] e X.env = pure none := by rfl) (h1 : (assignEach [tg] X.env).map (·.2) = [assign tg X.env] := by rfl) : JS X (.Assign [tg] e pos) (asgS ma g) := by
  refine JS.of (ps_asg he hg hs hw h1) fun E σ H ⟨μ, env, st, hE, hs, hp⟩ => ⟨μ, env, st, hE, hs, hp.val.imp ?_⟩
  rintro x H1 ⟨μ1, st1, d, g1, hs1, hx, hp1⟩
  refine ⟨μ1, env, st1, d, hE.mono g1, hs1, hx, hp1.val.imp ?_⟩
  rintro σ2 H2 ⟨μ2, st2, env2, g2, hs2, hE2, hp2⟩
  exact hp2.nx hs2 hE2
def setS (i : Nat) (m : ME) : MS := asgS m (nameG i)
/-- name = value -/
theorem js_set (i : Nat) {x : Str} {pos' : Pos} (he : JE X e ma) (hN : X.N.Nodup) (hi : X.N[i]? = some x := by rfl) (hx : Loc X.env.scope x := by first | exact Or.inl rfl | exact Or.inr rfl) (hs : swapsWith e (some (.Name x pos')) pos.line X.env = pure false := by rfl)
    (hf : X.fn x = true ∨ X.env.scope.names.lookup x = some .local := by first | exact .inl rfl | exact .inr rfl | assumption) : JS X (.Assign [.Name x pos'] e pos) (setS i ma) := by
  refine JS.of (ps_set hN hi hx he hs hf) fun E σ H ⟨μ, env, st, hE, hs, hp⟩ => ⟨μ, env, st, hE, hs, hp.val.imp ?_⟩
  rintro x H1 ⟨μ1, st1, d, g1, hs1, hx, hp1⟩
  exact hp1.nx hs1 ((hE.mono g1).set hx)
end
end M
namespace M
open PySem PySem.Spec L2
/-! ### while -/
def whileS (c : MT) (b : MS) : Nat → MS
  | 0, _, _ => .bad
  | n + 1, env, st => (c env st).bind fun x st1 => if x then (b env st1).bind fun o st2 => (match o with
      | .nx env2 => whileS c b n env2 st2
      | .cn env2 => whileS c b n env2 st2
      | .bk env2 => .ok (.nx env2) st2
      | .rt d => .ok (.rt d) st2) else .ok (.nx env) st1
section
variable {X : Cx} {e a b c : Expr} {es : List Expr} {t : TE} {ma mb mc : ME} {mA : MA} {pos p2 : Pos} {s : Stmt} {ss body : List Stmt} {m m1 m2 mb : MS} {μ μ1 : List Addr} {H H1 : Hp} {E E' : Ends} {r : R Out} {tc : MT}
/-- what a loop's body hands on -/
theorem PostS.loop {nxt : MEnv → Stor → R Out} {N : L2.St → Hp → Prop}
    (h : PostS X μ H E (r.bind fun o st2 => (match o with
      | .nx env2 => nxt env2 st2
      | .cn env2 => nxt env2 st2
      | .bk env2 => .ok (.nx env2) st2
      | .rt d => .ok (.rt d) st2)))
    (hN : ∀ env2 st2 σ' H' μ', Grow μ H μ' H' → RepS X.K μ' H' st2 → RepE X.K μ' H' env2 σ' → PostS X μ' H' E (nxt env2 st2) → N σ' H') :
    PostS X μ H { E with nx := N, ct := N, bk := E.nx } r := by
  match r, h with
  | .ok (.nx env1) st1, h => exact fun σ' H' μ' g hs hE => hN env1 st1 σ' H' μ' g hs hE (PostS.mono g h)
  | .ok (.cn env1) st1, h => exact fun σ' H' μ' g hs hE => hN env1 st1 σ' H' μ' g hs hE (PostS.mono g h)
  | .ok (.rt _) _, h => exact h
  | .ok (.bk _) _, h => exact h
  | .err _ _, h => exact h
  | .bad, h => exact h
theorem js_while (n : Nat) (hc : JT X c tc) (hb : JSs X body mb) (hp : PassesOwn (model X.prog X.w) X.A X.env X.xe) : JS X (.While c body [] pos) (whileS tc mb n) := by
  refine JS.of (ps_while hp hc hb) fun E σ H h => ?_
  refine ⟨fun k σ H => tMS X (whileS tc mb k) E σ H, ⟨n, h⟩, ?_⟩
  rintro k σ H ⟨μ, env, st, hE, hs, hp⟩
  cases k with
  | zero => exact hp.elim
  | succ k =>
    refine ⟨μ, env, st, hE, hs, (PostS.val hp).imp ?_⟩
    rintro v H1 ⟨μ1, st1, d, g1, hs1, rfl, hp1⟩
    cases d with
    | false => exact iteF (hp1.nx hs1 (hE.mono g1))
    | true =>
      refine iteT ⟨fun σ' H' => tMS X (whileS tc mb k) E σ' H', fun σ' H' q => ⟨k, Nat.lt_succ_self _, q⟩, μ1, env, st1, hE.mono g1, hs1, ?_⟩
      exact PostS.loop (nxt := whileS tc mb k) hp1 fun env2 st2 σ' H' μ' g hs2 hE2 q => ⟨μ', env2, st2, hE2, hs2, q⟩
/-! ### what is walked -/
/-- the items, and the objects of the store that must stay as they are meanwhile -/
abbrev Src := List D × List (Nat × MO)
abbrev MI := MEnv → Stor → R Src
def okG (gs : List (Nat × MO)) (st : Stor) : Prop := ∀ g ∈ gs, st[g.1]? = some g.2
@[simp] theorem okG_nil (st : Stor) : okG [] st := fun _ h => nomatch h
def ItRep (X : Cx) (μ : List Addr) (H : Hp) (J : It) (s : Src) : Prop := ∀ (H' : Hp) (μ' : List Addr) (st' : Stor), Grow μ H μ' H' → RepS X.K μ' H' st' → okG s.2 st' →
  (∀ (i : Nat) (d : D), s.1[i]? = some d → J.go i H' ∧ ∀ x H'', J.yld i H' x H'' → Grow μ' H' μ' H'' ∧ RepS X.K μ' H'' st' ∧ RepV X.K μ' H'' d x) ∧ J.stop s.1.length H'
abbrev relI (X : Cx) : Rel Src It := fun μ H s J => ItRep X μ H J s
def tMI (X : Cx) (m : MI) : TI := fun σ H Q => ∃ μ env st, RepE X.K μ H env σ ∧ RepS X.K μ H st ∧ Post X μ H (relI X) (fun J H' => Q J H') (m env st)
def JI (X : Cx) (tg iter : Expr) (m : MI) : Prop := PI X tg iter (tMI X m)
theorem JI.of {tg iter : Expr} {wi : TI} {m : MI} (h : PI X tg iter wi) (k : ∀ σ H Q, tMI X m σ H Q → wi σ H Q) : JI X tg iter m := fun pins s σ H R I q => h pins s σ H R I (k σ H R q)
open Classical in
noncomputable def forGo (g : MG) (b : MS) (gs : List (Nat × MO)) : List D → MS
  | [], env, st => if okG gs st then .ok (.nx env) st else .bad
  | d :: r, env, st => if okG gs st then (g d env st).bind fun env1 st1 => (b env1 st1).bind fun o st2 => (match o with
      | .nx env2 => forGo g b gs r env2 st2
      | .cn env2 => forGo g b gs r env2 st2
      | .bk env2 => .ok (.nx env2) st2
      | .rt d => .ok (.rt d) st2) else .bad
noncomputable def forS (mi : MI) (g : MG) (b : MS) : MS := fun env st => (mi env st).bind fun s st1 => forGo g b s.2 s.1 env st1
theorem js_for {tg iter : Expr} {mi : MI} {g : MG} (hi : JI X tg iter mi) (hg : JG X tg g) (hb : JSs X body mb) (hp : PassesOwn (model X.prog X.w) X.A X.env X.xe) (hc : X.calm = true)
    (hs : ∀ x, foldedSetIterable iter X.env x = pure x := by intro _; rfl) : JS X (.For tg iter body [] pos) (forS mi g mb) := by
  refine JS.of (ps_for hp hc hi hg hb hs) fun E σ H ⟨μ, env, st, hE, hs, hp⟩ => ⟨μ, env, st, hE, hs, (PostS.val hp).imp ?_⟩
  rintro J H1 ⟨μ1, st1, s, g1, hs1, hJ, hp1⟩
  refine ⟨fun i k σ H => ∃ μ2 env2 st2, Grow μ1 H1 μ2 H ∧ RepE X.K μ2 H env2 σ ∧ RepS X.K μ2 H st2 ∧ PostS X μ2 H E (forGo g mb s.2 (s.1.drop i) env2 st2) ∧ i ≤ s.1.length ∧ k = s.1.length - i,
    ⟨_, μ1, env, st1, .refl _ _, hE.mono g1, hs1, by simpa using hp1, Nat.zero_le _, rfl⟩, ?_⟩
  rintro i k σ2 H2 ⟨μ2, env2, st2, g2, hE2, hs2, hp2, hi, rfl⟩
  by_cases hlt : i < s.1.length
  · have e1 : s.1.drop i = s.1[i] :: s.1.drop (i + 1) := List.drop_eq_getElem_cons hlt
    rw [e1, forGo] at hp2
    by_cases ok : okG s.2 st2
    · rw [if_pos ok] at hp2
      obtain ⟨q1, q2⟩ := (hJ H2 μ2 st2 g2 hs2 ok).1 i s.1[i] (List.getElem?_eq_getElem hlt)
      refine .inr ⟨q1, fun σ' H' => ∃ μ3 env3 st3, Grow μ1 H1 μ3 H' ∧ RepE X.K μ3 H' env3 σ' ∧ RepS X.K μ3 H' st3 ∧ PostS X μ3 H' E (forGo g mb s.2 (s.1.drop (i + 1)) env3 st3), ?_, ?_⟩
      · rintro σ' H' ⟨μ3, env3, st3, g3, hE3, hs3, hp3⟩
        exact ⟨s.1.length - (i + 1), by omega, μ3, env3, st3, g3, hE3, hs3, hp3, by omega, rfl⟩
      · intro x H3 hx
        obtain ⟨g3, hs3, hd⟩ := q2 x H3 hx
        refine ⟨μ2, env2, st2, s.1[i], hE2.mono g3, hs3, hd, (PostS.val (PostS.mono g3 hp2)).imp ?_⟩
        rintro σ4 H4 ⟨μ4, st4, env4, g4, hs4, hE4, hp4⟩
        refine ⟨μ4, env4, st4, hE4, hs4, ?_⟩
        exact PostS.loop (nxt := forGo g mb s.2 (s.1.drop (i + 1))) hp4 fun env5 st5 σ' H' μ' g5 hs5 hE5 q => ⟨μ', env5, st5, ((g2.trans g3).trans g4).trans g5, hE5, hs5, q⟩
    · rw [if_neg ok] at hp2; exact hp2.elim
  · have e1 : s.1.drop i = [] := List.drop_eq_nil_of_le (by omega)
    rw [e1, forGo] at hp2
    have e2 : i = s.1.length := by omega
    by_cases ok : okG s.2 st2
    · rw [if_pos ok] at hp2
      refine .inl ⟨by rw [e2]; exact (hJ H2 μ2 st2 g2 hs2 ok).2, hp2.nx hs2 hE2⟩
    · rw [if_neg ok] at hp2; exact hp2.elim
/-! ### lists, tuples, ranges walked -/
def seqI (m : ME) : MI := fun env st => (m env st).bind fun d st1 => match d with
  | .loc n => (match st1[n]? with
    | some (.lst ds) => .ok (ds, [(n, .lst ds)]) st1
    | some (.frz ds) => .ok (ds, [(n, .frz ds)]) st1
    | _ => .bad)
  | .tup ds => .ok (ds, []) st1
  | _ => .bad
theorem PI.or {tg l : Expr} {w1 w2 : TI} (h1 : PI X tg l w1) (h2 : PI X tg l w2) : PI X tg l (fun σ H R => w1 σ H R ∨ w2 σ H R) := fun pins s σ H R I h => h.elim (h1 pins s σ H R I) (h2 pins s σ H R I)
theorem itl_rep {n : Nat} {ds : List D} {p : Addr} {o : MO} {st : Stor} (ho : o = .lst ds ∨ o = .frz ds) (hp : μ[n]? = some p) : ItRep X μ H (Itl X.K p) (ds, [(n, o)]) := by
  intro H' μ' st' g hs ok
  have e : st'[n]? = some o := (ok (n, o) (by simp))
  have e2 : itemsAt st' n = some ds := by
    unfold itemsAt
    rcases ho with rfl | rfl <;> rw [e]
  obtain ⟨p', xs, q1, q2, q3⟩ := hs.items e2
  rw [g.get hp] at q1; cases q1
  refine ⟨fun i d hd => ?_, xs, q2, Nat.le_of_eq q3.length.symm⟩
  obtain ⟨v, h1, h2⟩ := q3.get hd
  refine ⟨⟨xs, v, q2, h1⟩, ?_⟩
  rintro x H'' ⟨rfl, hx⟩
  have := hx xs q2
  rw [h1] at this; cases this
  exact ⟨.refl _ _, hs, h2⟩
theorem itt_rep {ds : List D} {p : Addr} {xs : List V} (hq : SqT X.K H p xs) (hd : RepVs X.K μ H ds xs) : ItRep X μ H (Itt X.K p) (ds, []) := by
  intro H' μ' st' g hs ok
  have hq' := g.ext.sqT hq
  have hd' := hd.mono g ds
  refine ⟨fun i d e => ?_, xs, hq', Nat.le_of_eq hd.length.symm⟩
  obtain ⟨v, h1, h2⟩ := hd'.get e
  refine ⟨⟨xs, v, hq', h1⟩, ?_⟩
  rintro x H'' ⟨rfl, hx⟩
  have := hx xs hq'
  rw [h1] at this; cases this
  exact ⟨.refl _ _, hs, h2⟩
theorem ji_seq {tg l : Expr} (h : JE X l ma) : JI X tg l (seqI ma) := by
  refine JI.of (PI.or (pi_list h) (pi_tup h)) fun σ H R hh => ?_
  -- which of the two is decided by the value
  obtain ⟨μ, env, st, hE, hs, hp⟩ := hh
  unfold seqI at hp
  cases hr : ma env st with
  | bad => rw [hr] at hp; exact hp.elim
  | err x st1 =>
    rw [hr] at hp
    refine .inl ⟨μ, env, st, hE, hs, ?_⟩
    rw [hr]; exact hp
  | ok d st1 =>
    rw [hr, M.R.bind_ok] at hp
    cases d with
    | loc n =>
      simp only at hp
      refine .inl ⟨μ, env, st, hE, hs, ?_⟩
      rw [hr]
      intro v H1 μ1 g1 hs1 hv
      obtain ⟨p, q1, rfl⟩ := RepV.loc_iff.mp hv
      cases e : st1[n]? with
      | none => rw [e] at hp; exact hp.elim
      | some mo =>
        cases mo with
        | lst ds =>
          rw [e] at hp
          obtain ⟨p', xs, r1, r2, r3⟩ := hs1.lst e
          rw [q1] at r1; cases r1
          exact ⟨p, rfl, ⟨xs, SqL.of r2⟩, hp _ _ _ g1 hs1 (itl_rep (st := st1) (.inl rfl) q1)⟩
        | frz ds =>
          rw [e] at hp
          obtain ⟨p', r1, xs, r2, r3⟩ := hs1.at_ n _ e
          rw [q1] at r1; cases r1
          exact ⟨p, rfl, ⟨xs, r2.sqL⟩, hp _ _ _ g1 hs1 (itl_rep (st := st1) (.inr rfl) q1)⟩
        | _ => rw [e] at hp; exact hp.elim
    | tup ds =>
      refine .inr ⟨μ, env, st, hE, hs, ?_⟩
      rw [hr]
      intro v H1 μ1 g1 hs1 hv
      obtain ⟨p, xs, rfl, q1, q2⟩ := RepV.tup_iff.mp hv
      exact ⟨p, rfl, ⟨xs, q1.sqT⟩, hp _ _ _ g1 hs1 (itt_rep q1.sqT q2)⟩
    | _ => exact hp.elim
/-- lo, lo + 1, .. (n of them) -/
def upto (lo : Int) (n : Nat) : List D := (List.range n).map fun (k : Nat) => .int (lo + k)
def range1I (mA : MA) : MI := fun env st => (mA env st).bind fun ds st1 => match ds with
  | [.int j] => if -(2 ^ 62) ≤ j ∧ j < 2 ^ 62 then .ok (upto 0 j.toNat, []) st1 else .bad
  | _ => .bad
theorem itr_rep (lo : Int) (n : Nat) : ItRep X μ H (Itr lo n) (upto lo n, []) := by
  intro H' μ' st' g hs ok
  refine ⟨fun i d e => ?_, by show n ≤ _; simp [upto]⟩
  have hi : i < n := by have := (List.getElem?_eq_some_iff.mp e).1; simpa [upto] using this
  simp [upto, hi] at e
  subst e
  refine ⟨hi, ?_⟩
  rintro x H'' ⟨rfl, rfl⟩
  exact ⟨.refl _ _, hs, RepV.int_iff.mpr rfl⟩
theorem RepVs.one {K : PySem.W.Frag} {μ : List Addr} {H : Hp} {d : D} {vs : List V} (h : RepVs K μ H [d] vs) : ∃ v, vs = [v] ∧ RepV K μ H d v := by
  rw [RepVs] at h
  obtain ⟨v, r, rfl, q1, q2⟩ := h
  rw [RepVs] at q2; subst q2
  exact ⟨v, rfl, q1⟩
theorem ji_range1 {tg : Expr} {p : Pos} (ha : JA X [a] mA) (hg : Gl X "range") (hm : X.mg "range" = none) (hs : starEach [a] X.env = [(false, eval a X.env)] := by rfl) : JI X tg (.Call (.Name "range" p) [a] [] pos) (range1I mA) := by
  refine JI.of (pi_range1 hg hm ha hs) fun σ H R ⟨μ, env, st, hE, hs, hp⟩ => ⟨μ, env, st, hE, hs, (Post.bind hp).imp ?_⟩
  rintro vs H1 ⟨μ1, st1, ds, g1, hs1, hv, hp1⟩
  dsimp only at hp1
  split at hp1
  · split at hp1
    · rename_i hc
      obtain ⟨v, rfl, q1⟩ := RepVs.one hv
      rw [RepV.int_iff] at q1; subst q1
      exact ⟨_, rfl, hc.1, hc.2, hp1 _ _ _ (.refl _ _) hs1 (itr_rep 0 _)⟩
    · exact hp1.elim
  · exact hp1.elim
end
/-! ### defs -/
abbrev FD := List D → Stor → R D
def PostF (K : PySem.W.Frag) (μ : List Addr) (H : Hp) (Q : VK) (r : R D) : Prop := match r with
  | .ok d st => ∀ (v : V) (H' : Hp) (μ' : List Addr), Grow μ H μ' H' → RepS K μ' H' st → RepV K μ' H' d v → Q v H'
  | _ => False
/-- what a def promises -/
def spM (K : PySem.W.Frag) (n : Nat) (fd : FD) : Sp := fun vs H Q _ => vs.length = n ∧ ∃ μ ds st, RepVs K μ H ds vs ∧ RepS K μ H st ∧ PostF K μ H Q (fd ds st)
def startM (n : Nat) (ds : List D) : MEnv := ds.map some ++ List.replicate (n - ds.length) none
/-- a def's body run: n names -/
def fnM (n : Nat) (m : MS) : FD := fun ds st => (m (startM n ds) st).bind fun o st1 => match o with
  | .rt d => .ok d st1
  | .nx _ => .ok .non st1
  | _ => .bad
theorem RepVs.start {K : PySem.W.Frag} {μ : List Addr} {H : Hp} {ds : List D} {vs : List V} (N : List Str) (h : RepVs K μ H ds vs) : RepE K μ H (startM N.length ds) (L2.start N vs) := by
  unfold startM L2.start
  refine ⟨by simp [h.length], fun i d e => ?_⟩
  rw [← h.length]
  by_cases hi : i < ds.length
  · rw [List.getElem?_append_left (by simpa using hi)] at e
    rw [List.getElem?_append_left (by rw [List.length_map, ← h.length]; exact hi)]
    rw [List.getElem?_map] at e ⊢
    cases q : ds[i]? with
    | none => rw [q] at e; cases e
    | some d' =>
      rw [q] at e; cases e
      obtain ⟨v, q1, q2⟩ := h.get q
      exact ⟨v, by rw [q1]; rfl, q2⟩
  · rw [List.getElem?_append_right (by simpa using hi)] at e
    rw [List.getElem?_replicate] at e
    split at e <;> cases e
section
variable {P : Program} {w : World} {K : PySem.W.Frag} {mg : Str → Option Value} {base : Heap}
/-- THE RULE for a def without exceptions: its body's denotation -/
theorem fn_ok {x qual : Str} {st : Stmt} {f : Addr} {fd : FuncData} {N ps : List Str} {k : Nat} {m : MS} (F : Fun K x qual st f fd) (S : FnScope N ps (defScope st))
    (hbody : ∀ (cdv : Value) (A : Around) (outer : List Env) (s : Shared) (H : Hp), Room k (A.deeper (PyProof.Rows.envOfC qual (defScope st) s.heap.objs.size f cdv)) →
      JSs (cxOf CX0 P w K mg base N qual (defScope st) f cdv A outer s H E0).nox (defBody st) m) : FnOk P w K mg base CX0 (k + 1) f fd ps (spM K ps.length (fnM N.length m)) := by
  refine F.ok S (fun vs H Q E h => h.1) (fun cdv A outer s H vs Q E hr h => ?_)
  obtain ⟨hl, μ, ds, sto, hv, hs, hp⟩ := h
  refine ⟨_, hbody cdv A outer s H hr, μ, startM N.length ds, sto, RepVs.start N hv, hs, ?_⟩
  unfold fnM at hp
  cases hr : m (startM N.length ds) sto with
  | bad => rw [hr] at hp; exact hp.elim
  | err x st1 => rw [hr] at hp; exact hp.elim
  | ok o st1 =>
    rw [hr] at hp
    cases o with
    | rt d => exact hp
    | nx env => exact fun σ' H' μ' g hs' _ => hp .non H' μ' g hs' (RepV.non_iff.mpr rfl)
    | bk env => exact hp.elim
    | cn env => exact hp.elim
end
section
variable {X : Cx} {e : Expr} {es : List Expr} {mA : MA} {pos p : Pos} {x : Str} {k : Nat} {f : Addr} {fd : FuncData} {ps : List Str} {F : FD} {dvs : List V} {ds : List Value} {dd : List D}
/-- f(e, ..): the written arguments, then the defaults -/
def R.sure {α : Type} (r : R α) : R α := match r with
  | .ok a st => .ok a st
  | _ => .bad
@[simp] theorem R.sure_ok {α : Type} (a : α) (st : Stor) : (R.ok a st).sure = .ok a st := by_rfl rfl
def callF (F : FD) (dd : List D) (mA : MA) : ME := fun env st => (mA env st).bind fun as st1 => (F (as ++ dd) st1).sure
theorem je_call (G : FnOk X.prog X.w X.K X.mg X.base CX0 k f fd ps (spM X.K ps.length F)) (hr : Room k X.A) (hm : X.mg x = some (.ref f)) (hk : PySem.W.keepIn X.K (.ref f) = true) (hb : Binds X.K fd ps ds) (hd : Vals dvs ds)
    (hdd : ∀ μ H, RepVs X.K μ H dd dvs) (ha : JA X (e :: es) mA) (hlen : (e :: es).length + dvs.length = ps.length := by rfl) (hg : Gl X x := by rfl) (hdb : (x == ("__debug__" : Str)) = false := by decide) (he : starEach (e :: es) X.env = (false, eval e X.env) :: starEach es X.env := by rfl) (hpl : (backTo pos (starEach es X.env)).any (·.1) = false := by rfl)
    (hA : ∀ env st as st1, mA env st = .ok as st1 → as.length = (e :: es).length := by intros; rfl) :
    JE X (.Call (.Name x p) (e :: es) [] pos) (callF F dd mA) := by
  refine JE.of (pe_call G hr hg hm hk hb hd pass0 ha hdb he hpl) fun σ H Q ⟨μ, env, st, hE, hs, hp⟩ => ⟨μ, env, st, hE, hs, ?_⟩
  cases hr : mA env st with
  | bad => unfold callF at hp; rw [hr] at hp; exact hp
  | err y st1 => unfold callF at hp; rw [hr] at hp; exact hp
  | ok as st1 =>
    unfold callF at hp
    rw [hr] at hp
    intro vs H1 μ1 g1 hs1 hv
    have hv' : RepVs X.K μ1 H1 (as ++ dd) (vs ++ dvs) := hv.append (hdd μ1 H1)
    refine ⟨?_, μ1, as ++ dd, st1, hv', hs1, ?_⟩
    · rw [List.length_append, ← hv.length, hA env st as st1 hr]; exact hlen
    · have hp2 := Post.mono g1 (show Post X μ H (relV X) Q (F (as ++ dd) st1).sure from hp)
      cases hF : F (as ++ dd) st1 with
      | ok d st2 => rw [hF] at hp2; exact hp2
      | err y st2 => rw [hF] at hp2; exact hp2.elim
      | bad => rw [hF] at hp2; exact hp2.elim
end
end M
namespace M
open PySem PySem.Spec L2
/-! ### what a call leaves behind: garbage is forgotten -/
mutual
def under (n : Nat) : D → Prop
  | .loc k => k < n
  | .tup ds => unders n ds
  | _ => True
def unders (n : Nat) : List D → Prop
  | [] => True
  | d :: ds => under n d ∧ unders n ds
end
@[simp] theorem under_non (n : Nat) : under n .non = True := by simp [under]
@[simp] theorem under_bl (n : Nat) (b : Bool) : under n (.bl b) = True := by simp [under]
@[simp] theorem under_int (n : Nat) (i : Int) : under n (.int i) = True := by simp [under]
@[simp] theorem under_str (n : Nat) (c : List Nat) : under n (.str c) = True := by simp [under]
@[simp] theorem under_tup (n : Nat) (ds : List D) : under n (.tup ds) = unders n ds := by simp [under]
@[simp] theorem under_loc (n k : Nat) : under n (.loc k) = (k < n) := by simp [under]
@[simp] theorem unders_nil (n : Nat) : unders n [] = True := by simp [unders]
@[simp] theorem unders_cons (n : Nat) (d : D) (ds : List D) : unders n (d :: ds) = (under n d ∧ unders n ds) := by simp [unders]
def underO (n : Nat) : MO → Prop
  | .lst ds => unders n ds
  | .frz ds => unders n ds
  | .dic kvs => ∀ p ∈ kvs, under n p.2
  | .dkc kvs => ∀ p ∈ kvs, under n p.2
  | .dkf kvs => ∀ p ∈ kvs, under n p.2
  | .dtf kvs => ∀ p ∈ kvs, under n p.2
  | .exc _ d => under n d
  | .ins _ fs => ∀ p ∈ fs, under n p.2
  | .tab _ => True
  | .clo _ _ ds => unders n ds
  | .hid => True
mutual
theorem RepV.under {K : PySem.W.Frag} {μ : List Addr} {H : Hp} : ∀ (d : D) {v : V}, RepV K μ H d v → M.under μ.length d
  | .non, _, _ => by simp
  | .bl _, _, _ => by simp
  | .int _, _, _ => by simp
  | .str _, _, _ => by simp
  | .tup ds, _, h => by
    obtain ⟨a, xs, _, _, h2⟩ := RepV.tup_iff.mp h
    rw [under_tup]; exact RepVs.unders ds h2
  | .loc n, _, h => by
    obtain ⟨a, h1, _⟩ := RepV.loc_iff.mp h
    rw [under_loc]; exact (List.getElem?_eq_some_iff.mp h1).1
theorem RepVs.unders {K : PySem.W.Frag} {μ : List Addr} {H : Hp} : ∀ (ds : List D) {vs : List V}, RepVs K μ H ds vs → M.unders μ.length ds
  | [], _, _ => by simp
  | d :: ds, _, h => by
    rw [RepVs] at h
    obtain ⟨v, r, _, h1, h2⟩ := h
    rw [unders_cons]; exact ⟨RepV.under d h1, RepVs.unders ds h2⟩
end
mutual
theorem RepV.down {K : PySem.W.Frag} {μ ν : List Addr} {H : Hp} : ∀ (d : D) {v : V}, RepV K (μ ++ ν) H d v → M.under μ.length d → RepV K μ H d v
  | .non, _, h, _ => by simpa [RepV] using h
  | .bl _, _, h, _ => by simpa [RepV] using h
  | .int _, _, h, _ => by simpa [RepV] using h
  | .str _, _, h, _ => by simpa [RepV] using h
  | .tup ds, _, h, u => by
    obtain ⟨a, xs, e, h1, h2⟩ := RepV.tup_iff.mp h
    rw [under_tup] at u
    exact RepV.tup_iff.mpr ⟨a, xs, e, h1, RepVs.down ds h2 u⟩
  | .loc n, _, h, u => by
    obtain ⟨a, h1, e⟩ := RepV.loc_iff.mp h
    rw [under_loc] at u
    rw [List.getElem?_append_left u] at h1
    exact RepV.loc_iff.mpr ⟨a, h1, e⟩
theorem RepVs.down {K : PySem.W.Frag} {μ ν : List Addr} {H : Hp} : ∀ (ds : List D) {vs : List V}, RepVs K (μ ++ ν) H ds vs → M.unders μ.length ds → RepVs K μ H ds vs
  | [], _, h, _ => by simpa [RepVs] using h
  | d :: ds, _, h, u => by
    rw [RepVs] at h ⊢
    obtain ⟨v, r, e, h1, h2⟩ := h
    rw [unders_cons] at u
    exact ⟨v, r, e, RepV.down d h1 u.1, RepVs.down ds h2 u.2⟩
end
theorem RepKV.under {κ : Type} {K : PySem.W.Frag} {μ : List Addr} {H : Hp} : ∀ {ds : List (κ × D)} {vs : List (κ × V)}, RepKV K μ H ds vs → ∀ p ∈ ds, M.under μ.length p.2
  | [], _, _, _, hp => nomatch hp
  | (k, d) :: ds, _, ⟨v, r, e, h1, h2⟩, p, hp => by
    rcases List.mem_cons.mp hp with rfl | hp
    · exact RepV.under d h1
    · exact RepKV.under h2 p hp
theorem RepKV.down {κ : Type} {K : PySem.W.Frag} {μ ν : List Addr} {H : Hp} : ∀ {ds : List (κ × D)} {vs : List (κ × V)}, RepKV K (μ ++ ν) H ds vs → (∀ p ∈ ds, M.under μ.length p.2) → RepKV K μ H ds vs
  | [], _, h, _ => h
  | (k, d) :: ds, _, ⟨v, r, e, h1, h2⟩, u => ⟨v, r, e, RepV.down d h1 (u (k, d) (by simp)), RepKV.down h2 fun p hp => u p (List.mem_cons_of_mem _ hp)⟩
theorem RepO.under {K : PySem.W.Frag} {μ : List Addr} {H : Hp} {a : Addr} {o : MO} (h : RepO K μ H a o) : underO μ.length o := by
  cases o with
  | lst ds => obtain ⟨xs, _, h2⟩ := h; exact RepVs.unders ds h2
  | frz ds => obtain ⟨xs, _, h2⟩ := h; exact RepVs.unders ds h2
  | dic ds => obtain ⟨xs, _, h2⟩ := h; exact h2.under
  | dkc ds => obtain ⟨xs, _, h2⟩ := h; exact h2.under
  | dkf ds => obtain ⟨xs, _, _, h2⟩ := h; exact h2.under
  | dtf ds => obtain ⟨xs, _, _, h2⟩ := h; exact h2.under
  | exc c d => obtain ⟨_, _, _, _, _, _, _, _, _, _, _, _, h7⟩ := h; exact RepV.under d h7
  | ins c ds => obtain ⟨_, _, xs, _, _, h2⟩ := h; exact h2.under
  | tab x => trivial
  | clo j l ds => obtain ⟨_, _, _, _, xs, _, _, _, _, _, h2⟩ := h; exact RepVs.unders ds h2
  | hid => trivial
theorem RepO.down {K : PySem.W.Frag} {μ ν : List Addr} {H : Hp} {a : Addr} {o : MO} (h : RepO K (μ ++ ν) H a o) (u : underO μ.length o) : RepO K μ H a o := by
  cases o with
  | lst ds => obtain ⟨xs, h1, h2⟩ := h; exact ⟨xs, h1, RepVs.down ds h2 u⟩
  | frz ds => obtain ⟨xs, h1, h2⟩ := h; exact ⟨xs, h1, RepVs.down ds h2 u⟩
  | dic ds => obtain ⟨xs, h1, h2⟩ := h; exact ⟨xs, h1, h2.down u⟩
  | dkc ds => obtain ⟨xs, h1, h2⟩ := h; exact ⟨xs, h1, h2.down u⟩
  | dkf ds => obtain ⟨xs, o, h1, h2⟩ := h; exact ⟨xs, o, h1, h2.down u⟩
  | dtf ds => obtain ⟨xs, o, h1, h2⟩ := h; exact ⟨xs, o, h1, h2.down u⟩
  | exc c d => obtain ⟨oe, C, dx, od, v, fs, h1, h2, h3, h4, h5, h6, h7⟩ := h; exact ⟨oe, C, dx, od, v, fs, h1, h2, h3, h4, h5, h6, RepV.down d h7 u⟩
  | ins c ds => obtain ⟨C, dx, xs, h0, h1, h2⟩ := h; exact ⟨C, dx, xs, h0, h1, h2.down u⟩
  | tab x => exact h
  | clo j l ds => obtain ⟨cl, pm, c', ctv, vs, h1, h2, h3, h4, h5, h6⟩ := h; exact ⟨cl, pm, c', ctv, vs, h1, h2, h3, h4, h5, RepVs.down ds h6 u⟩
  | hid => trivial
theorem RepO.up {K : PySem.W.Frag} {μ : List Addr} {H : Hp} {a : Addr} {o : MO} (ν : List Addr) (h : RepO K μ H a o) : RepO K (μ ++ ν) H a o := h.keep ⟨⟨ν, rfl⟩, .refl H⟩ fun _ _ q => q
theorem take_get {α : Type} {l l' : List α} (h : l'.take l.length = l) {n : Nat} {o : α} (e : l[n]? = some o) : l'[n]? = some o := by
  have hl := (List.getElem?_eq_some_iff.mp e).1
  rw [← h, List.getElem?_take] at e
  rw [if_pos hl] at e; exact e
/-- the old part of the store again -/
theorem RepS.back {K : PySem.W.Frag} {μ ν : List Addr} {H H' : Hp} {st st' : Stor} (h0 : RepS K μ H st) (h : RepS K (μ ++ ν) H' st') (ht : st'.take st.length = st) : RepS K μ H' st := by
  refine ⟨h0.len, fun n o e => ?_, fun i j a oi oj ei ej mi mj hi hj => ?_⟩
  · obtain ⟨a, h1, h2⟩ := h.at_ n o (take_get ht e)
    obtain ⟨a0, h3, h4⟩ := h0.at_ n o e
    have hn : n < μ.length := by rw [h0.len]; exact (List.getElem?_eq_some_iff.mp e).1
    rw [List.getElem?_append_left hn] at h1
    exact ⟨a, h1, h2.down h4.under⟩
  · have up : ∀ k, μ[k]? = some a → (μ ++ ν)[k]? = some a := fun k hk => by rw [List.getElem?_append_left (List.getElem?_eq_some_iff.mp hk).1]; exact hk
    exact h.uniq i j a oi oj (take_get ht ei) (take_get ht ej) mi mj (up i hi) (up j hj)
theorem RepS.back1 {K : PySem.W.Frag} {μ ν : List Addr} {H H' : Hp} {st st' : Stor} {k : Nat} {o : MO} {a : Addr} (h0 : RepS K μ H st) (h : RepS K (μ ++ ν) H' st') (ht : st'.take st.length = st) (hk : st.length ≤ k) (e : st'[k]? = some o) (u : underO st.length o) (ha : (μ ++ ν)[k]? = some a) :
    RepS K (μ ++ [a]) H' (st ++ [o]) := by
  have hb := h0.back h ht
  obtain ⟨a', q1, q2⟩ := h.at_ k o e
  rw [ha] at q1; cases q1
  have key : ∀ (n : Nat) (on : MO) (c : Addr), (st ++ [o])[n]? = some on → (μ ++ [a])[n]? = some c → (n < st.length ∧ st[n]? = some on ∧ μ[n]? = some c) ∨ (n = st.length ∧ on = o ∧ c = a) := fun n on c e1 e2 => by
    by_cases hn : n < st.length
    · rw [List.getElem?_append_left hn] at e1
      rw [List.getElem?_append_left (by rw [h0.len]; exact hn)] at e2
      exact .inl ⟨hn, e1, e2⟩
    · have hl := (List.getElem?_eq_some_iff.mp e1).1
      rw [List.length_append, List.length_singleton] at hl
      have en : n = st.length := by omega
      subst en
      rw [List.getElem?_append_right (Nat.le_refl _)] at e1
      rw [← h0.len, List.getElem?_append_right (Nat.le_refl _)] at e2
      simp at e1 e2
      exact .inr ⟨rfl, e1.symm, e2.symm⟩
  refine ⟨by simp [h0.len], fun n on e1 => ?_, fun i j c oi oj ei ej mi mj hi hj => ?_⟩
  · have hn : n < (μ ++ [a]).length := by
      have := (List.getElem?_eq_some_iff.mp e1).1
      simpa [h0.len] using this
    obtain ⟨c, hc⟩ : ∃ c, (μ ++ [a])[n]? = some c := ⟨_, List.getElem?_eq_getElem hn⟩
    rcases key n on c e1 hc with ⟨h1, h2, h3⟩ | ⟨h1, rfl, rfl⟩
    · obtain ⟨c', h4, h5⟩ := hb.at_ n on h2
      rw [h3] at h4; cases h4
      exact ⟨c, hc, h5.up _⟩
    · exact ⟨c, hc, (q2.down (by rw [h0.len]; exact u)).up _⟩
  · have up : ∀ k, μ[k]? = some c → (μ ++ ν)[k]? = some c := fun k hk => by rw [List.getElem?_append_left (List.getElem?_eq_some_iff.mp hk).1]; exact hk
    rcases key i oi c ei hi with ⟨h1, h2, h3⟩ | ⟨h1, rfl, rfl⟩
    · rcases key j oj c ej hj with ⟨g1, g2, g3⟩ | ⟨g1, rfl, rfl⟩
      · exact hb.uniq i j c oi oj h2 g2 mi mj h3 g3
      · have := h.uniq i k c oi oj (take_get ht h2) e mi mj (up i h3) ha
        omega
    · rcases key j oj c ej hj with ⟨g1, g2, g3⟩ | ⟨g1, _, _⟩
      · have := h.uniq j k c oj oi (take_get ht g2) e mj mi (up j g3) ha
        omega
      · rw [h1, g1]
open Classical in
/-- a result without what was made on the way: plain data, or one new object at the store's end -/
noncomputable def gc (st : Stor) (r : R D) : R D := match r with
  | .ok d st' => if st'.take st.length = st ∧ under st.length d then .ok d st else (match d with
    | .loc k => (match st'[k]? with
      | some o => if st'.take st.length = st ∧ st.length ≤ k ∧ underO st.length o then .ok (.loc st.length) (st ++ [o]) else .ok d st'
      | none => .ok d st')
    | d => .ok d st')
  | r => r
noncomputable def gcF (F : FD) : FD := fun ds st => gc st (F ds st)
theorem gc_post {K : PySem.W.Frag} {μ : List Addr} {H : Hp} {Q : VK} {st : Stor} {r : R D} (hs : RepS K μ H st) (h : PostF K μ H Q (gc st r)) : PostF K μ H Q r := by
  cases r with
  | bad => exact h
  | err x st' => exact h
  | ok d st' =>
    unfold gc at h
    dsimp only at h
    by_cases c1 : st'.take st.length = st ∧ under st.length d
    · rw [if_pos c1] at h
      intro v H' μ' g hs' hv
      obtain ⟨ν, rfl⟩ := g.pre
      exact h v H' μ ⟨⟨[], by simp⟩, g.ext⟩ (hs.back hs' c1.1) (RepV.down d hv (by rw [hs.len]; exact c1.2))
    · rw [if_neg c1] at h
      cases d with
      | loc k =>
        dsimp only at h
        cases e : st'[k]? with
        | none => rw [e] at h; exact h
        | some o =>
          rw [e] at h
          dsimp only at h
          by_cases c2 : st'.take st.length = st ∧ st.length ≤ k ∧ underO st.length o
          · rw [if_pos c2] at h
            intro v H' μ' g hs' hv
            obtain ⟨ν, rfl⟩ := g.pre
            obtain ⟨a, h1, rfl⟩ := RepV.loc_iff.mp hv
            refine h _ H' (μ ++ [a]) ⟨⟨[a], rfl⟩, g.ext⟩ (hs.back1 hs' c2.1 c2.2.1 e c2.2.2 h1) (RepV.loc_iff.mpr ⟨a, ?_, rfl⟩)
            rw [← hs.len]; simp
          · rw [if_neg c2] at h; exact h
      | _ => exact h
theorem sp_gc {K : PySem.W.Frag} {n : Nat} {F : FD} {vs : List V} {H : Hp} {Q : VK} {E : XK} (h : spM K n (gcF F) vs H Q E) : spM K n F vs H Q E := by
  obtain ⟨hl, μ, ds, st, h1, h2, h3⟩ := h
  exact ⟨hl, μ, ds, st, h1, h2, gc_post h2 h3⟩
/-- .. as the simplifier wants it -/
theorem gc_flat {st : Stor} {g : List MO} {d : D} (h : under st.length d) : gc st (.ok d (st ++ g)) = .ok d st := by
  unfold gc
  dsimp only
  rw [if_pos ⟨by simp, h⟩]
theorem gc_new {st : Stor} {g g' : List MO} {o : MO} (h : underO st.length o) : gc st (.ok (.loc (st.length + g.length)) (st ++ g ++ o :: g')) = .ok (.loc st.length) (st ++ [o]) := by
  unfold gc
  dsimp only
  rw [if_neg (by simp)]
  have e : (st ++ g ++ o :: g')[st.length + g.length]? = some o := by
    rw [List.getElem?_append_right (by simp)]; simp
  rw [e]
  dsimp only
  rw [if_pos ⟨by simp, by omega, h⟩]
end M
namespace M
open PySem PySem.Spec L2
section
variable {X : Cx} {e a b c : Expr} {es : List Expr} {ma mb mc : ME} {mA : MA} {pos p2 p : Pos}
/-! ### len, int, list, tuple, min, max -/
def lenV : List D → Stor → R D
  | [.str cs], st => if cs.length ≤ 1000000 then .ok (.int cs.length) st else .bad
  | [.tup ds], st => .ok (.int ds.length) st
  | [.loc n], st => match itemsAt st n with | some ds => .ok (.int ds.length) st | none => .bad
  | _, _ => .bad
theorem call_lenV : CallR X (.builtin "len") (rMC X lenV) := by
  refine CallR.weak (CallR.or call_len_str call_len_seq) ?_
  rintro xs H Q ⟨μ, st, ds, hs, hv, hp⟩
  unfold lenV at hp
  split at hp
  · rename_i cs
    split at hp
    · rename_i hl
      obtain ⟨v, rfl, q⟩ := RepVs.one hv
      rw [RepV.str_iff] at q; subst q
      exact .inl ⟨_, rfl, by rw [strOf_len]; exact lim_ok hl, by rw [strOf_len]; exact hp.ret hs (RepV.int_iff.mpr rfl)⟩
    · exact hp.elim
  · obtain ⟨v, rfl, q⟩ := RepVs.one hv
    obtain ⟨p, ys, rfl, q1, q2⟩ := RepV.tup_iff.mp q
    exact .inr ⟨p, ys, rfl, .inr q1.sqT, by rw [← q2.length]; exact hp.ret hs (RepV.int_iff.mpr rfl)⟩
  · rename_i n
    cases e : itemsAt st n with
    | none => rw [e] at hp; exact hp.elim
    | some ds =>
      rw [e] at hp
      obtain ⟨v, rfl, q⟩ := RepVs.one hv
      obtain ⟨p, q1, rfl⟩ := RepV.loc_iff.mp q
      obtain ⟨p', ys, r1, r2, r3⟩ := hs.items e
      rw [q1] at r1; cases r1
      exact .inr ⟨p, ys, rfl, .inl r2, by rw [← r3.length]; exact hp.ret hs (RepV.int_iff.mpr rfl)⟩
  · exact hp.elim
/-! ### isinstance -/
def tyD : D → Stor → Option String
  | .non, _ => some "NoneType"
  | .bl _, _ => some "bool"
  | .int _, _ => some "int"
  | .str _, _ => some "str"
  | .tup _, _ => some "tuple"
  | .loc n, st => match st[n]? with
    | some (.lst _) => some "list"
    | some (.frz _) => some "list"
    | some (.dic _) => some "dict"
    | some (.dkc _) => some "dict"
    | _ => none
theorem isinst_D {pins : List (Addr × Obj)} {σ : L2.St} {μ : List Addr} {H : Hp} {s : Shared} {A : Around} {E : Value → Shared → Prop} {Q : Value → Shared → Prop} {cv : Value} {k : Bool} {d : D} {st : Stor} {x : V} {u : Value} {T : String}
    (I : Inv X pins σ H s) (hs : RepS X.K μ H st) (hd : RepV X.K μ H d x) (rx : RelV x u) (ht : tyD d st = some T) (e : PySem.W.kitOne X.K (.type T) cv = some k) (h : ∀ tk, Q (.bool k) { s with toks := tk }) :
    wpAny (model X.prog X.w) A (call (.builtin "isinstance") [u, cv]) Q E s := by
  cases d with
  | non => rw [RepV.non_iff] at hd; subst hd; cases ht; exact isinst_ok I rx (.non) e h
  | bl y => rw [RepV.bl_iff] at hd; subst hd; cases ht; exact isinst_ok I rx (.bl y) e h
  | int y => rw [RepV.int_iff] at hd; subst hd; cases ht; exact isinst_ok I rx (.int y) e h
  | str y => rw [RepV.str_iff] at hd; subst hd; cases ht; exact isinst_ok I rx (.str _) e h
  | tup ds =>
    obtain ⟨a, xs, rfl, q1, q2⟩ := RepV.tup_iff.mp hd
    cases ht
    obtain ⟨its, _, p, _⟩ := I.tuple (q1.sqT)
    obtain ⟨o, h1, h2, _⟩ := p
    cases (show u = Value.ref a from rx)
    exact PySem.W.kia_one PySem.W.kitx_tuple I.kIn ⟨o, h1, h2⟩ e (fun z => nomatch z) h
  | loc n =>
    obtain ⟨a, q1, rfl⟩ := RepV.loc_iff.mp hd
    simp only [tyD] at ht
    have lst : ∀ ds, itemsAt st n = some ds → PySem.W.kitOne X.K (.type "list") cv = some k → wpAny (model X.prog X.w) A (call (.builtin "isinstance") [u, cv]) Q E s := fun ds e1 e2 => by
      obtain ⟨p', ys, r1, r2, r3⟩ := hs.items e1
      rw [q1] at r1; cases r1
      obtain ⟨its, _, p, _⟩ := I.list r2
      cases (show u = Value.ref a from rx)
      exact PySem.W.kia_one PySem.W.kitx_list I.kIn p.isList.typeIs e2 (fun z => nomatch z) h
    cases e1 : st[n]? with
    | none => rw [e1] at ht; cases ht
    | some mo =>
      rw [e1] at ht
      cases mo with
      | lst ds => cases ht; exact lst ds (by unfold itemsAt; rw [e1]) e
      | frz ds => cases ht; exact lst ds (by unfold itemsAt; rw [e1]) e
      | dic kvs =>
        cases ht
        obtain ⟨p', r1, ws, r2, _⟩ := hs.at_ n _ e1
        rw [q1] at r1; cases r1
        exact isinst_ok I rx (.dT r2) e h
      | dkc kvs =>
        cases ht
        obtain ⟨p', r1, ws, r2, _⟩ := hs.at_ n _ e1
        rw [q1] at r1; cases r1
        exact isinst_ok I rx (.dK r2) e h
      | _ => cases ht
/-- what a built-in type is under -/
def subTy (t T : String) : Bool := t == T || (t == "bool" && T == "int")
def isV (T : String) : D → Stor → R D := fun d st => match tyD d st with | some t => .ok (.bl (subTy t T)) st | none => .bad
def tysD : List String := ["NoneType", "bool", "int", "str", "tuple", "list", "dict"]
theorem tyD_mem {d : D} {st : Stor} {t : String} (h : tyD d st = some t) : t ∈ tysD := by
  cases d with
  | loc n =>
    simp only [tyD] at h
    split at h <;> cases h <;> decide
  | _ => cases h; decide
def rIs (X : Cx) (T : String) : List V → Hp → VK → Prop := fun xs H Q => ∃ μ st d x, xs = [x, .ty T] ∧ RepS X.K μ H st ∧ RepV X.K μ H d x ∧ Post X μ H (relV X) Q (isV T d st)
theorem call_isV {T : String} (hT : ∀ t ∈ tysD, PySem.W.kitOne X.K (.type t) (.type T) = some (subTy t T)) : CallR X (.builtin "isinstance") (rIs X T) := by
  rintro pins s σ H xs us Q I hr ⟨μ, st, d, x, rfl, hs, hd, hp⟩
  obtain ⟨u, w', rfl, r1, r2⟩ := vals2 hr
  cases (show w' = Value.type T from r2)
  unfold isV at hp
  cases e : tyD d st with
  | none => rw [e] at hp; exact hp.elim
  | some t =>
    rw [e] at hp
    exact isinst_D I hs hd r1 e (hT t (tyD_mem e)) fun tk => ⟨.bl (subTy t T), H, I.tok tk, rfl, hp.ret hs (RepV.bl_iff.mpr rfl)⟩
theorem kit_int {K : PySem.W.Frag} : ∀ t ∈ tysD, PySem.W.kitOne K (.type t) (.type "int") = some (subTy t "int") := by
  intro t ht
  simp only [tysD, List.mem_cons, List.not_mem_nil, or_false] at ht
  rcases ht with rfl | rfl | rfl | rfl | rfl | rfl | rfl <;> rfl
theorem kit_bool {K : PySem.W.Frag} : ∀ t ∈ tysD, PySem.W.kitOne K (.type t) (.type "bool") = some (subTy t "bool") := by
  intro t ht
  simp only [tysD, List.mem_cons, List.not_mem_nil, or_false] at ht
  rcases ht with rfl | rfl | rfl | rfl | rfl | rfl | rfl <;> rfl
theorem kit_str {K : PySem.W.Frag} : ∀ t ∈ tysD, PySem.W.kitOne K (.type t) (.type "str") = some (subTy t "str") := by
  intro t ht
  simp only [tysD, List.mem_cons, List.not_mem_nil, or_false] at ht
  rcases ht with rfl | rfl | rfl | rfl | rfl | rfl | rfl <;> rfl
/-- isinstance(e, T) -/
theorem je_isV {T : String} {xT : Str} (hT : ∀ t ∈ tysD, PySem.W.kitOne X.K (.type t) (.type T) = some (subTy t T)) (h : JE X e ma) (hg : Gl X "isinstance") (hm : X.mg "isinstance" = none) (hgT : Gl X xT) (hmT : X.mg xT = none)
    (hv : bootBuiltins xT = some (.type T)) (hb : bootBuiltins "isinstance" = some (.builtin "isinstance")) (hnT : xT ≠ "__name__" := by decide) (hdT : (xT == ("__debug__" : Str)) = false := by decide)
    (hs1 : starEach [e, .Name xT p2] X.env = [(false, eval e X.env), (false, eval (.Name xT p2) X.env)] := by rfl) (hs2 : starEach [.Name xT p2] X.env = [(false, eval (.Name xT p2) X.env)] := by rfl) (hpl : (backTo pos (starEach [.Name xT p2] X.env)).any (·.1) = false := by rfl) :
    JE X (.Call (.Name "isinstance" p) [e, .Name xT p2] [] pos) (op1 (isV T) ma) := by
  refine JE.of (pe_callB (call_isV hT) hg hm hb (pa_cons h (pa_cons (pe_bltn (v := .ty T) hgT hmT hv rfl hnT hdT) pa_nil hs2) hs1) (by decide) (by decide) hs1 hpl) fun σ H Q ⟨μ, env, st, hE, hs, hp⟩ => ⟨μ, env, st, hE, hs, (Post.bind hp).imp ?_⟩
  rintro x H1 ⟨μ1, st1, d, g1, hs1, hx, hp1⟩
  exact ⟨μ1, st1, d, x, rfl, hs1, hx, hp1⟩
end
end M
namespace M
open PySem PySem.Spec PySem.SeqAt L2
/-! ### == of data: tuples part by part -/
mutual
def eqD : D → D → Bool
  | .non, .non => true
  | .bl a, .bl b => a == b
  | .bl a, .int b => (if a then 1 else 0) == b
  | .int a, .bl b => a == (if b then 1 else 0)
  | .int a, .int b => a == b
  | .str a, .str b => a == b
  | .tup a, .tup b => eqDs a b
  | _, _ => false
def eqDs : List D → List D → Bool
  | [], [] => true
  | a :: as, b :: bs => eqD a b && eqDs as bs
  | _, _ => false
end
/-! no list within; how deep tuples lie in one another -/
mutual
def flat : D → Bool
  | .loc _ => false
  | .tup ds => flats ds
  | _ => true
def flats : List D → Bool
  | [] => true
  | d :: ds => flat d && flats ds
end
mutual
def dep : D → Nat
  | .tup ds => deps ds + 1
  | _ => 0
def deps : List D → Nat
  | [] => 0
  | d :: ds => max (dep d) (deps ds)
end
/-! how deep == goes into both -/
mutual
def cdep : D → D → Nat
  | .tup a, .tup b => cdeps a b + 1
  | _, _ => 0
def cdeps : List D → List D → Nat
  | a :: as, b :: bs => max (cdep a b) (cdeps as bs)
  | _, _ => 0
end
@[simp] theorem cdep_tup (a b : List D) : cdep (.tup a) (.tup b) = cdeps a b + 1 := by simp [cdep]
@[simp] theorem cdep_non (d : D) : cdep .non d = 0 := by simp [cdep]
@[simp] theorem cdep_bl (b : Bool) (d : D) : cdep (.bl b) d = 0 := by simp [cdep]
@[simp] theorem cdep_int (b : Int) (d : D) : cdep (.int b) d = 0 := by simp [cdep]
@[simp] theorem cdep_str (b : List Nat) (d : D) : cdep (.str b) d = 0 := by simp [cdep]
@[simp] theorem cdep_loc (b : Nat) (d : D) : cdep (.loc b) d = 0 := by simp [cdep]
@[simp] theorem cdep_non' (d : D) : cdep d .non = 0 := by cases d <;> simp [cdep]
@[simp] theorem cdep_bl' (b : Bool) (d : D) : cdep d (.bl b) = 0 := by cases d <;> simp [cdep]
@[simp] theorem cdep_int' (b : Int) (d : D) : cdep d (.int b) = 0 := by cases d <;> simp [cdep]
@[simp] theorem cdep_str' (b : List Nat) (d : D) : cdep d (.str b) = 0 := by cases d <;> simp [cdep]
@[simp] theorem cdeps_nil (bs : List D) : cdeps [] bs = 0 := by simp [cdeps]
@[simp] theorem cdeps_nil' (as : List D) : cdeps as [] = 0 := by cases as <;> simp [cdeps]
@[simp] theorem cdeps_cons (a b : D) (as bs : List D) : cdeps (a :: as) (b :: bs) = max (cdep a b) (cdeps as bs) := by simp [cdeps]
@[simp] theorem flat_bl (b : Bool) : flat (.bl b) = true := by simp [flat]
@[simp] theorem flat_int (b : Int) : flat (.int b) = true := by simp [flat]
@[simp] theorem flat_str (b : List Nat) : flat (.str b) = true := by simp [flat]
@[simp] theorem flat_tup (b : List D) : flat (.tup b) = flats b := by simp [flat]
@[simp] theorem flats_nil : flats [] = true := by simp [flats]
@[simp] theorem flats_cons (d : D) (ds : List D) : flats (d :: ds) = (flat d && flats ds) := by simp [flats]
@[simp] theorem dep_non : dep .non = 0 := by simp [dep]
@[simp] theorem dep_bl (b : Bool) : dep (.bl b) = 0 := by simp [dep]
@[simp] theorem dep_int (b : Int) : dep (.int b) = 0 := by simp [dep]
@[simp] theorem dep_str (b : List Nat) : dep (.str b) = 0 := by simp [dep]
@[simp] theorem dep_tup (b : List D) : dep (.tup b) = deps b + 1 := by simp [dep]
@[simp] theorem deps_nil : deps [] = 0 := by simp [deps]
@[simp] theorem deps_cons (d : D) (ds : List D) : deps (d :: ds) = max (dep d) (deps ds) := by simp [deps]
mutual
theorem cdep_le : ∀ (a b : D), cdep a b ≤ dep a
  | .tup a, .tup b => by rw [cdep_tup, dep_tup]; exact Nat.succ_le_succ (cdeps_le a b)
  | .tup a, .non => by simp
  | .tup a, .bl _ => by simp
  | .tup a, .int _ => by simp
  | .tup a, .str _ => by simp
  | .tup a, .loc _ => by simp [cdep]
  | .non, _ => by simp
  | .bl _, _ => by simp
  | .int _, _ => by simp
  | .str _, _ => by simp
  | .loc _, _ => by simp
theorem cdeps_le : ∀ (a b : List D), cdeps a b ≤ deps a
  | [], b => by simp
  | a :: as, [] => by simp
  | a :: as, b :: bs => by
    rw [cdeps_cons, deps_cons]
    have h1 := cdep_le a b
    have h2 := cdeps_le as bs
    omega
end
/-- the answer at a place -/
def eqJ (as bs : List D) (j : Nat) : Bool := match as[j]?, bs[j]? with | some a, some b => eqD a b | _, _ => true
theorem eqDs_all : ∀ (as bs : List D), eqDs as bs = ((List.range (min as.length bs.length)).all (eqJ as bs) && as.length == bs.length)
  | [], [] => by simp [eqDs]
  | [], b :: bs => by simp [eqDs]
  | a :: as, [] => by simp [eqDs]
  | a :: as, b :: bs => by
    rw [eqDs, eqDs_all as bs]
    have e1 : min (a :: as).length (b :: bs).length = min as.length bs.length + 1 := by simp
    rw [e1, List.range_succ_eq_map, List.all_cons, List.all_map]
    have e2 : ((a :: as).length == (b :: bs).length) = (as.length == bs.length) := by
      rw [Bool.eq_iff_iff]; simp
    rw [e2]
    have e3 : eqJ (a :: as) (b :: bs) 0 = eqD a b := rfl
    rw [e3, Bool.and_assoc]
    rfl
mutual
theorem eqD_refl : ∀ (d : D), flat d = true → eqD d d = true
  | .non, _ => by simp [eqD]
  | .bl _, _ => by simp [eqD]
  | .int _, _ => by simp [eqD]
  | .str _, _ => by simp [eqD]
  | .tup ds, h => by rw [eqD]; exact eqDs_refl ds (by simpa using h)
  | .loc _, h => by simp [flat] at h
theorem eqDs_refl : ∀ (ds : List D), flats ds = true → eqDs ds ds = true
  | [], _ => by simp [eqDs]
  | d :: ds, h => by
    rw [flats_cons, Bool.and_eq_true] at h
    rw [eqDs, eqD_refl d h.1, eqDs_refl ds h.2]; rfl
end
section
variable {X : Cx} {pins : List (Addr × Obj)} {σ : L2.St} {μ : List Addr} {H : Hp} {s : Shared}
mutual
theorem rep_same (I : Inv X pins σ H s) : ∀ (d1 d2 : D) {v : V}, flat d1 = true → flat d2 = true → RepV X.K μ H d1 v → RepV X.K μ H d2 v → d1 = d2
  | .non, d2, _, _, f2, h1, h2 => by
    rw [RepV.non_iff] at h1; subst h1
    cases d2 with
    | non => rfl
    | bl _ => rw [RepV.bl_iff] at h2; cases h2
    | int _ => rw [RepV.int_iff] at h2; cases h2
    | str _ => rw [RepV.str_iff] at h2; cases h2
    | tup _ => obtain ⟨_, _, q, _⟩ := RepV.tup_iff.mp h2; cases q
    | loc _ => simp [flat] at f2
  | .bl b, d2, _, _, f2, h1, h2 => by
    rw [RepV.bl_iff] at h1; subst h1
    cases d2 with
    | bl _ => rw [RepV.bl_iff] at h2; cases h2; rfl
    | non => rw [RepV.non_iff] at h2; cases h2
    | int _ => rw [RepV.int_iff] at h2; cases h2
    | str _ => rw [RepV.str_iff] at h2; cases h2
    | tup _ => obtain ⟨_, _, q, _⟩ := RepV.tup_iff.mp h2; cases q
    | loc _ => simp [flat] at f2
  | .int b, d2, _, _, f2, h1, h2 => by
    rw [RepV.int_iff] at h1; subst h1
    cases d2 with
    | int _ => rw [RepV.int_iff] at h2; cases h2; rfl
    | non => rw [RepV.non_iff] at h2; cases h2
    | bl _ => rw [RepV.bl_iff] at h2; cases h2
    | str _ => rw [RepV.str_iff] at h2; cases h2
    | tup _ => obtain ⟨_, _, q, _⟩ := RepV.tup_iff.mp h2; cases q
    | loc _ => simp [flat] at f2
  | .str b, d2, _, _, f2, h1, h2 => by
    rw [RepV.str_iff] at h1; subst h1
    cases d2 with
    | str _ => rw [RepV.str_iff] at h2; injection h2 with h3; rw [strOf_inj.mp h3]
    | non => rw [RepV.non_iff] at h2; cases h2
    | bl _ => rw [RepV.bl_iff] at h2; cases h2
    | int _ => rw [RepV.int_iff] at h2; cases h2
    | tup _ => obtain ⟨_, _, q, _⟩ := RepV.tup_iff.mp h2; cases q
    | loc _ => simp [flat] at f2
  | .tup as, d2, _, f1, f2, h1, h2 => by
    obtain ⟨a, xs, rfl, q1, q2⟩ := RepV.tup_iff.mp h1
    cases d2 with
    | tup bs =>
      obtain ⟨b, ys, e, r1, r2⟩ := RepV.tup_iff.mp h2
      cases e
      rw [I.tuple_inj (r1.sqT) (q1.sqT)] at r2
      rw [reps_same I as bs (by simpa using f1) (by simpa using f2) q2 r2]
    | non => rw [RepV.non_iff] at h2; cases h2
    | bl _ => rw [RepV.bl_iff] at h2; cases h2
    | int _ => rw [RepV.int_iff] at h2; cases h2
    | str _ => rw [RepV.str_iff] at h2; cases h2
    | loc _ => simp [flat] at f2
  | .loc _, _, _, f1, _, _, _ => by simp [flat] at f1
theorem reps_same (I : Inv X pins σ H s) : ∀ (as bs : List D) {vs : List V}, flats as = true → flats bs = true → RepVs X.K μ H as vs → RepVs X.K μ H bs vs → as = bs
  | [], bs, _, _, _, h1, h2 => by
    rw [RepVs] at h1; subst h1
    cases bs with
    | nil => rfl
    | cons _ _ => rw [RepVs] at h2; obtain ⟨_, _, q, _⟩ := h2; cases q
  | a :: as, bs, _, f1, f2, h1, h2 => by
    rw [RepVs] at h1
    obtain ⟨v, r, rfl, q1, q2⟩ := h1
    cases bs with
    | nil => rw [RepVs] at h2; cases h2
    | cons b bs =>
      rw [RepVs] at h2
      obtain ⟨v', r', e, r1, r2⟩ := h2
      cases e
      rw [flats_cons, Bool.and_eq_true] at f1 f2
      rw [rep_same I a b f1.1 f2.1 q1 r1, reps_same I as bs f1.2 f2.2 q2 r2]
end
/-! the two readings at once: the items' answer, and == itself -/
mutual
theorem eq_at (I : Inv X pins σ H s) : ∀ (d1 d2 : D) {A : Around} {x y : V} {u w : Value}, flat d1 = true → flat d2 = true → A.units + cdep d1 d2 < cLine → RepV X.K μ H d1 x → RepV X.K μ H d2 y → RelV x u → RelV y w →
    EqAt A s u w (eqD d1 d2) ∧ RcAt A s u w (eqD d1 d2) ∧ RcNeAt A s u w (!eqD d1 d2)
  | d1, d2, A, x, y, u, w, f1, f2, hu, h1, h2, r1, r2 => by
    cases d1 with
    | loc _ => simp [flat] at f1
    | non =>
      rw [RepV.non_iff] at h1; subst h1
      cases (show u = Value.none from r1)
      cases d2 with
      | loc _ => simp [flat] at f2
      | non => rw [RepV.non_iff] at h2; subst h2; cases (show w = Value.none from r2); exact ⟨EqAt.same _, RcAt.none_none, RcNeAt.none_none⟩
      | bl b => rw [RepV.bl_iff] at h2; subst h2; cases (show w = Value.bool b from r2); exact ⟨EqAt.none_bool b, RcAt.none_bool b, RcNeAt.none_bool b⟩
      | int b => rw [RepV.int_iff] at h2; subst h2; obtain ⟨t, rfl⟩ := r2; exact ⟨EqAt.none_int b t, RcAt.none_int b t, RcNeAt.none_int b t⟩
      | str b => rw [RepV.str_iff] at h2; subst h2; obtain ⟨t, rfl⟩ := r2; exact ⟨EqAt.none_str _ t, RcAt.none_str _ t, RcNeAt.none_str _ t⟩
      | tup bs =>
        obtain ⟨b, ys, rfl, q1, q2⟩ := RepV.tup_iff.mp h2
        cases (show w = Value.ref b from r2)
        obtain ⟨its, _, p, _⟩ := I.tuple (q1.sqT)
        exact ⟨EqAt.none_tuple p (by omega), RcAt.none_tuple p (by omega), RcNeAt.none_tuple p (by omega)⟩
    | bl a =>
      rw [RepV.bl_iff] at h1; subst h1
      cases (show u = Value.bool a from r1)
      cases d2 with
      | loc _ => simp [flat] at f2
      | non => rw [RepV.non_iff] at h2; subst h2; cases (show w = Value.none from r2); exact ⟨EqAt.bool_none a, RcAt.bool_none a, RcNeAt.bool_none a⟩
      | bl b => rw [RepV.bl_iff] at h2; subst h2; cases (show w = Value.bool b from r2); simp only [eqD]; exact ⟨EqAt.bool_bool a b, RcAt.bool_bool a b, RcNeAt.bool_bool a b⟩
      | int b => rw [RepV.int_iff] at h2; subst h2; obtain ⟨t, rfl⟩ := r2; simp only [eqD]; exact ⟨EqAt.bool_int a b t, RcAt.bool_int a b t, RcNeAt.bool_int a b t⟩
      | str b => rw [RepV.str_iff] at h2; subst h2; obtain ⟨t, rfl⟩ := r2; exact ⟨EqAt.bool_str a _ t, RcAt.bool_str a _ t, RcNeAt.bool_str a _ t⟩
      | tup bs =>
        obtain ⟨b, ys, rfl, q1, q2⟩ := RepV.tup_iff.mp h2
        cases (show w = Value.ref b from r2)
        obtain ⟨its, _, p, _⟩ := I.tuple (q1.sqT)
        exact ⟨EqAt.bool_tuple a p (by omega), RcAt.bool_tuple a p (by omega), RcNeAt.bool_tuple a p (by omega)⟩
    | int a =>
      rw [RepV.int_iff] at h1; subst h1
      obtain ⟨ta, rfl⟩ := r1
      cases d2 with
      | loc _ => simp [flat] at f2
      | non => rw [RepV.non_iff] at h2; subst h2; cases (show w = Value.none from r2); exact ⟨EqAt.int_none a ta, RcAt.int_none a ta, RcNeAt.int_none a ta⟩
      | bl b => rw [RepV.bl_iff] at h2; subst h2; cases (show w = Value.bool b from r2); simp only [eqD]; exact ⟨EqAt.int_bool a ta b, RcAt.int_bool a ta b, RcNeAt.int_bool a ta b⟩
      | int b => rw [RepV.int_iff] at h2; subst h2; obtain ⟨t, rfl⟩ := r2; simp only [eqD]; exact ⟨EqAt.int_int a ta b t, RcAt.int_int a ta b t, RcNeAt.int_int a ta b t⟩
      | str b => rw [RepV.str_iff] at h2; subst h2; obtain ⟨t, rfl⟩ := r2; exact ⟨EqAt.int_str a ta _ t, RcAt.int_str a ta _ t, RcNeAt.int_str a ta _ t⟩
      | tup bs =>
        obtain ⟨b, ys, rfl, q1, q2⟩ := RepV.tup_iff.mp h2
        cases (show w = Value.ref b from r2)
        obtain ⟨its, _, p, _⟩ := I.tuple (q1.sqT)
        exact ⟨EqAt.int_tuple a ta p (by omega), RcAt.int_tuple a ta p (by omega), RcNeAt.int_tuple a ta p (by omega)⟩
    | str a =>
      rw [RepV.str_iff] at h1; subst h1
      obtain ⟨ta, rfl⟩ := r1
      cases d2 with
      | loc _ => simp [flat] at f2
      | non => rw [RepV.non_iff] at h2; subst h2; cases (show w = Value.none from r2); exact ⟨EqAt.str_none _ ta, RcAt.str_none _ ta, RcNeAt.str_none _ ta⟩
      | bl b => rw [RepV.bl_iff] at h2; subst h2; cases (show w = Value.bool b from r2); exact ⟨EqAt.str_bool _ ta b, RcAt.str_bool _ ta b, RcNeAt.str_bool _ ta b⟩
      | int b => rw [RepV.int_iff] at h2; subst h2; obtain ⟨t, rfl⟩ := r2; exact ⟨EqAt.str_int _ ta b t, RcAt.str_int _ ta b t, RcNeAt.str_int _ ta b t⟩
      | str b =>
        rw [RepV.str_iff] at h2; subst h2; obtain ⟨t, rfl⟩ := r2
        have e : (strOf a == strOf b) = eqD (.str a) (.str b) := by
          rw [eqD, Bool.eq_iff_iff, beq_iff_eq, beq_iff_eq]; exact strOf_inj
        rw [← e]
        exact ⟨EqAt.str_str _ ta _ t, RcAt.str_str _ ta _ t, RcNeAt.str_str _ ta _ t⟩
      | tup bs =>
        obtain ⟨b, ys, rfl, q1, q2⟩ := RepV.tup_iff.mp h2
        cases (show w = Value.ref b from r2)
        obtain ⟨its, _, p, _⟩ := I.tuple (q1.sqT)
        exact ⟨EqAt.str_tuple _ ta p (by omega), RcAt.str_tuple _ ta p (by omega), RcNeAt.str_tuple _ ta p (by omega)⟩
    | tup as =>
      have h1' := h1
      have h2' := h2
      obtain ⟨a, xs, rfl, q1, q2⟩ := RepV.tup_iff.mp h1
      cases (show u = Value.ref a from r1)
      obtain ⟨its, ra, p, _⟩ := I.tuple (q1.sqT)
      cases d2 with
      | loc _ => simp [flat] at f2
      | non => rw [RepV.non_iff] at h2; subst h2; cases (show w = Value.none from r2); exact ⟨EqAt.tuple_none p (by omega), RcAt.tuple_none p (by omega), RcNeAt.tuple_none p (by omega)⟩
      | bl b => rw [RepV.bl_iff] at h2; subst h2; cases (show w = Value.bool b from r2); exact ⟨EqAt.tuple_bool b p (by omega), RcAt.tuple_bool b p (by omega), RcNeAt.tuple_bool b p (by omega)⟩
      | int b => rw [RepV.int_iff] at h2; subst h2; obtain ⟨t, rfl⟩ := r2; exact ⟨EqAt.tuple_int b t p (by omega), RcAt.tuple_int b t p (by omega), RcNeAt.tuple_int b t p (by omega)⟩
      | str b => rw [RepV.str_iff] at h2; subst h2; obtain ⟨t, rfl⟩ := r2; exact ⟨EqAt.tuple_str _ t p (by omega), RcAt.tuple_str _ t p (by omega), RcNeAt.tuple_str _ t p (by omega)⟩
      | tup bs =>
        obtain ⟨b, ys, rfl, g1, g2⟩ := RepV.tup_iff.mp h2
        cases (show w = Value.ref b from r2)
        obtain ⟨its2, rb, p2, _⟩ := I.tuple (g1.sqT)
        rw [cdep_tup] at hu
        rw [flat_tup] at f1 f2
        have items := eqs_at I as bs (A := A.in1) f1 f2 (by show A.units + 1 + cdeps as bs < cLine; omega) q2 g2 ra rb
        have la : as.length = its.toArray.size := by rw [List.size_toArray, q2.length, ra.length]
        have lb : bs.length = its2.toArray.size := by rw [List.size_toArray, g2.length, rb.length]
        have e : ((List.range (min its.toArray.size its2.toArray.size)).all (eqJ as bs) && its.toArray.size == its2.toArray.size) = eqD (.tup as) (.tup bs) := by
          rw [eqD, eqDs_all, la, lb]
        have rc : RcAt A s (.ref a) (.ref b) (eqD (.tup as) (.tup bs)) := by
          rw [← e]
          exact RcAt.tuples p p2 (by omega) fun j j1 j2 => items j (by simpa using j1) (by simpa using j2)
        have ne : RcNeAt A s (.ref a) (.ref b) (!eqD (.tup as) (.tup bs)) := by
          rw [← e]
          exact RcNeAt.tuples p p2 (by omega) fun j j1 j2 => items j (by simpa using j1) (by simpa using j2)
        refine ⟨?_, rc, ne⟩
        by_cases hab : a = b
        · subst hab
          have : (D.tup as) = .tup bs := rep_same I _ _ (by simpa using f1) (by simpa using f2) h1' h2'
          rw [← this, eqD_refl _ (by simpa using f1)]
          exact EqAt.same _
        · exact EqAt.of_refs hab rc
theorem eqs_at (I : Inv X pins σ H s) : ∀ (as bs : List D) {A : Around} {xs ys : List V} {us ws : List Value}, flats as = true → flats bs = true → A.units + cdeps as bs < cLine → RepVs X.K μ H as xs → RepVs X.K μ H bs ys → Vals xs us → Vals ys ws →
    ∀ (j : Nat) (h1 : j < us.length) (h2 : j < ws.length), EqAt A s us[j] ws[j] (eqJ as bs j)
  | [], bs, A, xs, ys, us, ws, _, _, _, h1, _, r1, _, j, j1, _ => by
    rw [RepVs] at h1; subst h1; cases r1; simp at j1
  | a :: as, [], A, xs, ys, us, ws, _, _, _, _, h2, _, r2, j, _, j2 => by
    rw [RepVs] at h2; subst h2; cases r2; simp at j2
  | a :: as, b :: bs, A, xs, ys, us, ws, f1, f2, hu, h1, h2, r1, r2, j, j1, j2 => by
    rw [RepVs] at h1 h2
    obtain ⟨v, r, rfl, q1, q2⟩ := h1
    obtain ⟨v', r', rfl, g1, g2⟩ := h2
    cases r1 with
    | cons r1 t1 =>
    cases r2 with
    | cons r2 t2 =>
    rw [flats_cons, Bool.and_eq_true] at f1 f2
    rw [cdeps_cons] at hu
    cases j with
    | zero => exact (eq_at I a b f1.1 f2.1 (by omega) q1 g1 r1 r2).1
    | succ j => exact eqs_at I as bs f1.2 f2.2 (by omega) q2 g2 t1 t2 j (by simpa using j1) (by simpa using j2)
end
end
end M
namespace M
open PySem PySem.Spec PySem.SeqAt L2
/-- == by the store; L: how deep tuples may lie -/
def eqR (L : Nat) : D → D → Stor → Option Bool
  | .loc m, .loc n, st => match itemsAt st m, itemsAt st n with
    | some a, some b => if flats a = true ∧ flats b = true ∧ cdeps a b + 1 < L then some (eqDs a b) else none
    | _, _ => none
  | .loc m, .non, st => (itemsAt st m).map fun _ => false
  | .loc m, .tup b, st => if 0 < L then (itemsAt st m).map fun _ => false else none
  | .non, .loc n, st => (itemsAt st n).map fun _ => false
  | .tup a, .loc n, st => if 0 < L then (itemsAt st n).map fun _ => false else none
  | d1, d2, _ => if flat d1 = true ∧ flat d2 = true ∧ cdep d1 d2 < L then some (eqD d1 d2) else none
section
variable {X : Cx} {pins : List (Addr × Obj)} {σ : L2.St} {μ : List Addr} {H : Hp} {s : Shared} {L : Nat}
theorem eqs_lists {as bs : List D} {A : Around} {xs ys : List V} {a b : Addr} (I : Inv X pins σ H s) (f1 : flats as = true) (f2 : flats bs = true) (hu : A.units + 1 + cdeps as bs < cLine) (h1 : RepVs X.K μ H as xs) (h2 : RepVs X.K μ H bs ys)
    (q1 : SqL X.K H a xs) (q2 : SqL X.K H b ys) : RcAt A s (.ref a) (.ref b) (eqDs as bs) ∧ RcNeAt A s (.ref a) (.ref b) (!eqDs as bs) := by
  obtain ⟨its, ra, p, _⟩ := I.list q1
  obtain ⟨its2, rb, p2, _⟩ := I.list q2
  have la : as.length = its.toArray.size := by rw [List.size_toArray, h1.length, ra.length]
  have lb : bs.length = its2.toArray.size := by rw [List.size_toArray, h2.length, rb.length]
  by_cases hl : its.toArray.size = its2.toArray.size
  · have items := eqs_at I as bs (A := A.in1) f1 f2 hu h1 h2 ra rb
    have e : ((List.range its.toArray.size).all (eqJ as bs)) = eqDs as bs := by
      rw [eqDs_all, la, lb, ← hl, Nat.min_self]; simp
    rw [← e]
    exact ⟨RcAt.lists p.isList p2.isList hl (by omega) fun j j1 j2 => items j (by simpa using j1) (by simpa using j2), RcNeAt.lists p.isList p2.isList hl (by omega) fun j j1 j2 => items j (by simpa using j1) (by simpa using j2)⟩
  · have e : eqDs as bs = false := by
      rw [eqDs_all, la, lb, Bool.and_eq_false_iff]
      exact .inr (by simpa using hl)
    have hl' : (its.toArray.size != its2.toArray.size) = true := by simpa using hl
    rw [e]
    exact ⟨RcAt.lists_lengths p.isList p2.isList hl' (by omega), RcNeAt.lists_lengths p.isList p2.isList hl' (by omega)⟩
theorem eqR_at {d1 d2 : D} {st : Stor} {k : Bool} {A : Around} {x y : V} {u w : Value} (I : Inv X pins σ H s) (hs : RepS X.K μ H st) (e : eqR L d1 d2 st = some k) (hu : A.units + L < cLine) (h1 : RepV X.K μ H d1 x) (h2 : RepV X.K μ H d2 y) (r1 : RelV x u) (r2 : RelV y w) :
    RcAt A s u w k ∧ RcNeAt A s u w (!k) := by
  have plain : ∀ {d1 d2 : D}, RepV X.K μ H d1 x → RepV X.K μ H d2 y → (if flat d1 = true ∧ flat d2 = true ∧ cdep d1 d2 < L then some (eqD d1 d2) else none) = some k → RcAt A s u w k ∧ RcNeAt A s u w (!k) := fun {d1 d2} h1 h2 e => by
    split at e
    · rename_i c
      cases e
      exact (eq_at I d1 d2 c.1 c.2.1 (by omega) h1 h2 r1 r2).2
    · cases e
  have list : ∀ {n : Nat} {v : V} {z : Value} {ds : List D}, RepV X.K μ H (.loc n) v → RelV v z → itemsAt st n = some ds → ∃ p its, z = .ref p ∧ s.heap.IsList p its := fun {n v z ds} h r q => by
    obtain ⟨p, q1, rfl⟩ := RepV.loc_iff.mp h
    obtain ⟨p', xs, g1, g2, g3⟩ := hs.items q
    rw [q1] at g1; cases g1
    cases (show z = Value.ref p from r)
    obtain ⟨its, _, pl, _⟩ := I.list g2
    exact ⟨p, _, rfl, pl.isList⟩
  have tuple : ∀ {bs : List D} {v : V} {z : Value}, RepV X.K μ H (.tup bs) v → RelV v z → ∃ p its, z = .ref p ∧ s.heap.IsTuple p its := fun {bs v z} h r => by
    obtain ⟨p, xs, rfl, q1, _⟩ := RepV.tup_iff.mp h
    cases (show z = Value.ref p from r)
    obtain ⟨its, _, pl, _⟩ := I.tuple (q1.sqT)
    exact ⟨p, _, rfl, pl⟩
  match d1, d2, e, h1, h2 with
  | .loc m, .loc n, e, h1, h2 =>
    simp only [eqR] at e
    cases e1 : itemsAt st m with
    | none => rw [e1] at e; cases e
    | some as =>
      cases e2 : itemsAt st n with
      | none => rw [e1, e2] at e; cases e
      | some bs =>
        rw [e1, e2] at e
        dsimp only at e
        split at e
        · rename_i c
          cases e
          obtain ⟨p, q1, rfl⟩ := RepV.loc_iff.mp h1
          obtain ⟨p', xs, g1, g2, g3⟩ := hs.items e1
          rw [q1] at g1; cases g1
          obtain ⟨q, q2, rfl⟩ := RepV.loc_iff.mp h2
          obtain ⟨q', ys, k1, k2, k3⟩ := hs.items e2
          rw [q2] at k1; cases k1
          cases (show u = Value.ref p from r1)
          cases (show w = Value.ref q from r2)
          exact eqs_lists I c.1 c.2.1 (by omega) g3 k3 g2 k2
        · cases e
  | .loc m, .non, e, h1, h2 =>
    simp only [eqR] at e
    cases e1 : itemsAt st m with
    | none => rw [e1] at e; cases e
    | some as =>
      rw [e1] at e; cases e
      obtain ⟨p, its, rfl, pl⟩ := list h1 r1 e1
      rw [RepV.non_iff] at h2; subst h2; cases (show w = Value.none from r2)
      exact ⟨RcAt.list_none pl (by omega), RcNeAt.list_none pl (by omega)⟩
  | .non, .loc n, e, h1, h2 =>
    simp only [eqR] at e
    cases e1 : itemsAt st n with
    | none => rw [e1] at e; cases e
    | some as =>
      rw [e1] at e; cases e
      obtain ⟨p, its, rfl, pl⟩ := list h2 r2 e1
      rw [RepV.non_iff] at h1; subst h1; cases (show u = Value.none from r1)
      exact ⟨RcAt.none_list pl (by omega), RcNeAt.none_list pl (by omega)⟩
  | .loc m, .tup bs, e, h1, h2 =>
    simp only [eqR] at e
    split at e
    · cases e1 : itemsAt st m with
      | none => rw [e1] at e; cases e
      | some as =>
        rw [e1] at e; cases e
        obtain ⟨p, its, rfl, pl⟩ := list h1 r1 e1
        obtain ⟨q, its2, rfl, pt⟩ := tuple h2 r2
        exact ⟨RcAt.list_tuple pl pt (by omega), RcNeAt.list_tuple pl pt (by omega)⟩
    · cases e
  | .tup as, .loc n, e, h1, h2 =>
    simp only [eqR] at e
    split at e
    · cases e1 : itemsAt st n with
      | none => rw [e1] at e; cases e
      | some as =>
        rw [e1] at e; cases e
        obtain ⟨p, its, rfl, pl⟩ := list h2 r2 e1
        obtain ⟨q, its2, rfl, pt⟩ := tuple h1 r1
        exact ⟨RcAt.tuple_list pt pl (by omega), RcNeAt.tuple_list pt pl (by omega)⟩
    · cases e
  | .non, .non, e, h1, h2 => exact plain h1 h2 (by simpa only [eqR] using e)
  | .non, .bl _, e, h1, h2 => exact plain h1 h2 (by simpa only [eqR] using e)
  | .non, .int _, e, h1, h2 => exact plain h1 h2 (by simpa only [eqR] using e)
  | .non, .str _, e, h1, h2 => exact plain h1 h2 (by simpa only [eqR] using e)
  | .non, .tup _, e, h1, h2 => exact plain h1 h2 (by simpa only [eqR] using e)
  | .bl _, d2, e, h1, h2 => exact plain h1 h2 (by simpa only [eqR] using e)
  | .int _, d2, e, h1, h2 => exact plain h1 h2 (by simpa only [eqR] using e)
  | .str _, d2, e, h1, h2 => exact plain h1 h2 (by simpa only [eqR] using e)
  | .tup _, .non, e, h1, h2 => exact plain h1 h2 (by simpa only [eqR] using e)
  | .tup _, .bl _, e, h1, h2 => exact plain h1 h2 (by simpa only [eqR] using e)
  | .tup _, .int _, e, h1, h2 => exact plain h1 h2 (by simpa only [eqR] using e)
  | .tup _, .str _, e, h1, h2 => exact plain h1 h2 (by simpa only [eqR] using e)
  | .tup _, .tup _, e, h1, h2 => exact plain h1 h2 (by simpa only [eqR] using e)
  | .loc _, .bl _, e, h1, h2 => simp [eqR, flat] at e
  | .loc _, .int _, e, h1, h2 => simp [eqR, flat] at e
  | .loc _, .str _, e, h1, h2 => simp [eqR, flat] at e
def eqV (L : Nat) : D → D → Stor → R D := fun d1 d2 st => match eqR L d1 d2 st with | some k => .ok (.bl k) st | none => .bad
def neV (L : Nat) : D → D → Stor → R D := fun d1 d2 st => match eqR L d1 d2 st with | some k => .ok (.bl (!k)) st | none => .bad
theorem op_eqV (hu : X.A.units + L < cLine) : OpR X (compareOp .Eq) (rM X (eqV L)) := by
  rintro pins s σ H x y v u Q I rx ry ⟨μ, st, dx, dy, hs, hx, hy, hp⟩
  unfold eqV at hp
  cases e : eqR L dx dy st with
  | none => rw [e] at hp; exact hp.elim
  | some k =>
    rw [e] at hp
    exact (eqR_at I hs e hu hx hy rx ry).1 X.prog X.w X.xe _ ⟨.bl k, H, I, rfl, hp.ret hs (RepV.bl_iff.mpr rfl)⟩
theorem op_neV (hu : X.A.units + L < cLine) : OpR X (compareOp .NotEq) (rM X (neV L)) := by
  rintro pins s σ H x y v u Q I rx ry ⟨μ, st, dx, dy, hs, hx, hy, hp⟩
  unfold neV at hp
  cases e : eqR L dx dy st with
  | none => rw [e] at hp; exact hp.elim
  | some k =>
    rw [e] at hp
    exact (eqR_at I hs e hu hx hy rx ry).2 X.prog X.w X.xe _ ⟨.bl (!k), H, I, rfl, hp.ret hs (RepV.bl_iff.mpr rfl)⟩
end
end M
namespace M
open PySem PySem.Spec L2
/-! ### methods of lists and texts -/
def isTy (T : String) (d : D) (st : Stor) : Bool := match d with
  | .str _ => T == "str"
  | .loc n => (match st[n]? with
    | some (.lst _) => T == "list"
    | some (.frz _) => T == "list"
    | some (.dic _) => T == "dict"
    | some (.dkc _) => T == "dict"
    | _ => false)
  | _ => false
section
variable {X : Cx} {e a b c o : Expr} {es : List Expr} {ma mb mc mo : ME} {mA : MA} {pos p2 p apos cpos : Pos} {T id : String} {name : Str} {g : D → List D → Stor → R D}
theorem isTy_ok {μ : List Addr} {H : Hp} {d : D} {st : Stor} {v : V} (h : isTy T d st = true) (hs : RepS X.K μ H st) (hv : RepV X.K μ H d v) : tyV X.K T v H := by
  cases d with
  | str cs => rw [RepV.str_iff] at hv; subst hv; exact eq_of_beq h
  | loc n =>
    obtain ⟨p, q1, rfl⟩ := RepV.loc_iff.mp hv
    simp only [isTy] at h
    cases e : st[n]? with
    | none => rw [e] at h; cases h
    | some o =>
      rw [e] at h
      obtain ⟨p', r1, r2⟩ := hs.at_ n o e
      rw [q1] at r1; cases r1
      cases o with
      | lst ds => obtain ⟨xs, r3, _⟩ := r2; exact .inl ⟨eq_of_beq h, xs, SqL.of r3⟩
      | frz ds => obtain ⟨xs, r3, _⟩ := r2; exact .inl ⟨eq_of_beq h, xs, r3.sqL⟩
      | dic ds => obtain ⟨xs, r3, _⟩ := r2; exact .inr (.inr (.inl ⟨eq_of_beq h, .inr ⟨xs, r3⟩⟩))
      | dkc ds => obtain ⟨xs, r3, _⟩ := r2; exact .inr (.inr (.inl ⟨eq_of_beq h, .inl ⟨xs, r3⟩⟩))
      | _ => cases h
  | _ => simp [isTy] at h
def methE (T : String) (g : D → List D → Stor → R D) (mo : ME) (mA : MA) : ME := fun env st => (mo env st).bind fun x st1 => if isTy T x st1 = true then (mA env st1).bind fun xs st2 => g x xs st2 else .bad
def meth0E (T : String) (g : D → List D → Stor → R D) (mo : ME) : ME := fun env st => (mo env st).bind fun x st1 => if isTy T x st1 = true then g x [] st1 else .bad
theorem je_meth (pa : PlainAttrs T) (slot : Slot T name id) (hty : typeOf (.builtin id) = pure (.type "method_descriptor")) (hm : MtR X id (rMM X g)) (ho : JE X o mo) (ha : JA X (e :: es) mA)
    (hbase : attributeBase o name X.env (eval o X.env) = eval o X.env := by rfl)
    (hfew : ((backTo cpos (starEach (e :: es) X.env)).all (fun x => !x.1) && (backToKw cpos (keywordEach [] X.env)).all (fun x => x.1.isSome)
      && decide ((e :: es).length + ([] : List Keyword).length + (if ([] : List Keyword).isEmpty then 0 else 1) < 30)) = true := by rfl)
    (hline : (apos.endLine == cpos.line) = true := by rfl) (hs : starEach (e :: es) X.env = (false, eval e X.env) :: starEach es X.env := by rfl) (hplain : (backTo cpos (starEach es X.env)).any (·.1) = false := by rfl) : JE X (.Call (.Attribute o name apos) (e :: es) [] cpos) (methE T g mo mA) := by
  refine JE.of (pe_bm pa slot hty hm ho ha hbase hfew hline hs hplain) fun σ H Q ⟨μ, env, st, hE, hs, hp⟩ => ⟨μ, env, st, hE, hs, (Post.bind hp).imp ?_⟩
  rintro x H1 ⟨μ1, st1, d, g1, hs1, hx, hp1⟩
  dsimp only at hp1
  split at hp1
  · rename_i hT
    refine ⟨isTy_ok hT hs1 hx, μ1, env, st1, hE.mono g1, hs1, (Post.bind hp1).imp ?_⟩
    rintro xs H2 ⟨μ2, st2, ds, g2, hs2, hxs, hp2⟩
    exact ⟨μ2, st2, d, ds, hs2, hx.mono g2 _, hxs, hp2⟩
  · exact hp1.elim
theorem je_meth0 (pa : PlainAttrs T) (slot : Slot T name id) (hty : typeOf (.builtin id) = pure (.type "method_descriptor")) (hm : MtR X id (rMM X g)) (ho : JE X o mo)
    (hbase : attributeBase o name X.env (eval o X.env) = eval o X.env := by rfl) (hline : (apos.endLine == cpos.line) = true := by rfl) : JE X (.Call (.Attribute o name apos) [] [] cpos) (meth0E T g mo) := by
  refine JE.of (pe_bm0 pa slot hty hm ho hbase hline) fun σ H Q ⟨μ, env, st, hE, hs, hp⟩ => ⟨μ, env, st, hE, hs, (Post.bind hp).imp ?_⟩
  rintro x H1 ⟨μ1, st1, d, g1, hs1, hx, hp1⟩
  dsimp only at hp1
  split at hp1
  · rename_i hT
    exact ⟨isTy_ok hT hs1 hx, μ1, st1, d, [], hs1, hx, RepVs.nil, hp1⟩
  · exact hp1.elim
/-! lists -/
def appendV : D → List D → Stor → R D
  | .loc n, [d], st => match st[n]? with
    | some (.lst ds) => if ds.length < 1000000 then .ok .non (st.set n (.lst (ds ++ [d]))) else .bad
    | _ => .bad
  | _, _, _ => .bad
/-- a method that rewrites a list and hands back None -/
theorem wr_lst {μ : List Addr} {H : Hp} {st : Stor} {n : Nat} {ds ds' : List D} {p : Addr} {xs ys : List V} {Q : VK} (hp : Post X μ H (relV X) Q (.ok .non (st.set n (.lst ds')))) (hs : RepS X.K μ H st) (e : st[n]? = some (.lst ds)) (hq : μ[n]? = some p) (hx : H p = some (.lst xs)) (hy : RepVs X.K μ H ds' ys) :
    Q .non (upd H p (.lst ys)) := by
  obtain ⟨g, hs'⟩ := putLst hs e hq hx hy
  exact hp _ _ μ g hs' (RepV.non_iff.mpr rfl)
theorem mt_appendV : MtR X "list.append" (rMM X appendV) := by
  refine MtR.weak mt_append ?_
  rintro x xs H Q ⟨μ, st, d, ds, hs, hx, hxs, hp⟩
  unfold appendV at hp
  split at hp
  · rename_i n d' 
    cases e : st[n]? with
    | none => rw [e] at hp; exact hp.elim
    | some mo =>
      cases mo with
      | lst l =>
        rw [e] at hp
        dsimp only at hp
        split at hp
        · rename_i hl
          obtain ⟨p, q1, rfl⟩ := RepV.loc_iff.mp hx
          obtain ⟨y, rfl, q2⟩ := RepVs.one hxs
          obtain ⟨p', ys, r1, r2, r3⟩ := hs.lst e
          rw [q1] at r1; cases r1
          refine ⟨p, ys, y, rfl, rfl, r2, by rw [← r3.length]; exact Nat.lt_of_lt_of_le hl (by decide), wr_lst hp hs e q1 r2 (r3.append (RepVs.cons q2 RepVs.nil))⟩
        · exact hp.elim
      | _ => rw [e] at hp; exact hp.elim
  · exact hp.elim
/-! all, any of a list of bools -/
end
end M
namespace M
open PySem PySem.Spec L2
section
variable {X : Cx} {e a b c l : Expr} {es : List Expr} {ma mb mc : ME} {mA : MA} {pos p2 p tpos : Pos} {μ : List Addr} {H : Hp}
/-! ### enumerate, reversed, zip of lists -/
def enumL : Nat → List D → List D
  | _, [] => []
  | k, d :: ds => .tup [.int k, d] :: enumL (k + 1) ds
theorem enumL_get : ∀ (ds : List D) (k i : Nat), (enumL k ds)[i]? = (ds[i]?).map fun d => .tup [.int ((k + i : Nat) : Int), d]
  | [], k, i => by simp [enumL]
  | d :: ds, k, 0 => by simp [enumL]
  | d :: ds, k, i + 1 => by
    have := enumL_get ds (k + 1) i
    simp only [enumL, List.getElem?_cons_succ]
    rw [this, show k + 1 + i = k + (i + 1) by omega]
theorem enumL_len : ∀ (ds : List D) (k : Nat), (enumL k ds).length = ds.length
  | [], _ => rfl
  | _ :: ds, k => by simp [enumL, enumL_len ds (k + 1)]
end
end M
namespace M
open PySem PySem.Spec L2
/-! ### [e for t in it if c] -/
section
variable {X : Cx} {elt tg iter c : Expr} {ifs : List Expr} {scope : Scope} {pos : Pos} {N : List Str} {capt : List (Option Nat)} {mi : MI} {g : MG} {t : MT} {me : ME}
/-- what a block takes from around stands in cells there -/
def FreeOk (sc sc0 : Scope) : Prop := ∀ x ∈ sc.names, x.2 = .free → sc0.names.lookup x.1 = some .cell ∨ sc0.names.lookup x.1 = some .free
instance (sc sc0 : Scope) : Decidable (FreeOk sc sc0) := inferInstanceAs (Decidable (∀ x ∈ sc.names, x.2 = .free → sc0.names.lookup x.1 = some .cell ∨ sc0.names.lookup x.1 = some .free))
end
end M
namespace M
open PySem PySem.Spec L2
theorem lenA_nil : ∀ (env : MEnv) (st : Stor) (as : List D) (st1 : Stor), nilA env st = .ok as st1 → as.length = ([] : List Expr).length := by
  intro env st as st1 h
  cases h; rfl
theorem lenA_cons {e : Expr} {es : List Expr} {a : ME} {r : MA} (h : ∀ (env : MEnv) (st : Stor) (as : List D) (st1 : Stor), r env st = .ok as st1 → as.length = es.length) :
    ∀ (env : MEnv) (st : Stor) (as : List D) (st1 : Stor), consA a r env st = .ok as st1 → as.length = (e :: es).length := by
  intro env st as st1 q
  unfold consA at q
  cases h1 : a env st with
  | bad => rw [h1] at q; cases q
  | err x s => rw [h1] at q; cases q
  | ok x s =>
    rw [h1, R.bind_ok] at q
    cases h2 : r env s with
    | bad => rw [h2] at q; cases q
    | err x s => rw [h2] at q; cases q
    | ok xs s2 =>
      rw [h2, R.bind_ok] at q
      cases q
      rw [List.length_cons, List.length_cons, h env s xs _ h2]
/-- enough for any while -/
def fuel : Nat := 1000000
/-- the script as the law finds it -/
theorem script_rep {K : PySem.W.Frag} {H : Hp} {a : Addr} {ns : List Int} (hO : Only H) (hS : SqL K H a (ns.map V.int)) : RepS K [a] H [.frz (ns.map D.int)] := by
  have hv : ∀ (μ : List Addr) (l : List Int), RepVs K μ H (l.map D.int) (l.map V.int) := fun μ l => by
    induction l with
    | nil => exact RepVs.nil
    | cons i l ih => exact RepVs.cons (RepV.int_iff.mpr rfl) ih
  refine ⟨rfl, fun n o e => ?_, fun i j b oi oj ei ej mi mj _ _ => ?_⟩
  · match n, e with
    | 0, e =>
      simp at e; subst e
      refine ⟨a, rfl, _, ?_, hv _ ns⟩
      rcases hS with (h | ⟨o, h⟩) | h
      · rcases hO a with z | ⟨o, xs, z⟩
        · rw [z] at h; cases h
        · rw [z] at h; cases h
      · exact .inl ⟨o, h⟩
      · exact .inr h
    | n + 1, e => simp at e
  · match i, ei with
    | 0, ei => simp at ei; subst ei; cases mi
    | i + 1, ei => simp at ei
theorem holds_of {l : PySem.W.OpenLaw} {k : Nat} {q : Program} {loose : List Str} {XP : (Str → Option Value) → Heap → Prop} {YP : World → Heap → Prop} {d : DefRec} {K : Params → PySem.W.Frag} {F : FD} {x : Str}
    (hn : l.most = some 63) (hdf : d.params.defaults = []) (hr : Room k callerA)
    (hY : ∀ (w : World) (h : Heap), YP w h → (K w.params).In h)
    (G : ∀ (w : World) (mg : Str → Option Value) (fa : Addr) (h : Heap), (K w.params).In h → h.Ns mainGlobals mg → mg d.name = some (.ref fa) →
      ∃ fd : FuncData, (∀ (s : Shared) (u : Value), BindsTo s fd ⟨[u], []⟩ [(x, u)]) ∧ ∀ base : Heap, (K w.params).In base → base.Ns mainGlobals mg → FnOk l.prog w (K w.params) mg base CX0 k fa fd [x] (spM (K w.params) 1 F))
    (hF : ∀ ns : List Int, ns.length ≤ 63 → ∃ st, F [.loc 0] [.frz (ns.map D.int)] = .ok (.bl true) st) :
    PySem.W.WalkO q loose XP YP l.row.toRowW d [] (fun f vs => PySem.call f vs) :=
  L2.walk_of (n := 63) (k := k) (x := x) (CX := fun _ => CX0) (sp := fun w => spM (K w.params) 1 F) hn (by decide) hdf hr hY G
    (fun w H a ns hl hO hS => by
      obtain ⟨st, e⟩ := hF ns hl
      refine ⟨rfl, [a], [.loc 0], _, RepVs.cons (RepV.loc_iff.mpr ⟨a, rfl, rfl⟩) RepVs.nil, script_rep hO hS, ?_⟩
      rw [e]
      exact fun v H' μ' _ _ hv => RepV.bl_iff.mp hv) fun _ _ _ _ _ z => z
end M
namespace M
open L2
/-! ### running a denotation by the simplifier -/
theorem gc_same {st : Stor} {d : D} (h : under st.length d) : gc st (.ok d st) = .ok d st := by
  have := gc_flat (st := st) (g := []) h
  simpa using this
theorem gc_new0 {st : Stor} {o : MO} (h : underO st.length o) : gc st (.ok (.loc st.length) (st ++ [o])) = .ok (.loc st.length) (st ++ [o]) := by
  have := gc_new (st := st) (g := []) (g' := []) h
  simpa using this
theorem get_app {st l : Stor} {n : Nat} {o : MO} (h : st[n]? = some o) : (st ++ l)[n]? = some o := by rw [List.getElem?_append_left (List.getElem?_eq_some_iff.mp h).1]; exact h
theorem atI_ofNat {α : Type} (xs : List α) (k : Nat) : atI xs (k : Int) = xs[k]? := by
  unfold atI ixN
  rw [if_pos (by omega)]
  by_cases h : k < xs.length
  · rw [if_pos (by omega)]; simp
  · rw [if_neg (by omega)]; simp; omega
/-! loops -/
theorem forGo_all {g : MG} {b : MS} {gs : List (Nat × MO)} {items : List D} (I : List D → MEnv → Stor → Prop) {env : MEnv} {st : Stor} (h0 : I [] env st)
    (step : ∀ pre d post env st, items = pre ++ d :: post → I pre env st → okG gs st ∧ ∃ env1 st1, g d env st = .ok env1 st1 ∧ ∃ env2 st2, (b env1 st1 = .ok (.nx env2) st2 ∨ b env1 st1 = .ok (.cn env2) st2) ∧ I (pre ++ [d]) env2 st2)
    (hend : ∀ env st, I items env st → okG gs st) : ∃ env' st', forGo g b gs items env st = .ok (.nx env') st' ∧ I items env' st' := by
  have key : ∀ (post pre : List D) (env : MEnv) (st : Stor), items = pre ++ post → I pre env st → ∃ env' st', forGo g b gs post env st = .ok (.nx env') st' ∧ I items env' st' := by
    intro post
    induction post with
    | nil =>
      intro pre env st e hI
      have : items = pre := by simpa using e
      subst this
      exact ⟨env, st, by rw [forGo, if_pos (hend env st hI)], hI⟩
    | cons d post ih =>
      intro pre env st e hI
      obtain ⟨ok, env1, st1, h1, env2, st2, h2, hI2⟩ := step pre d post env st e hI
      obtain ⟨env', st', h3, h4⟩ := ih (pre ++ [d]) env2 st2 (by simp [e]) hI2
      refine ⟨env', st', ?_, h4⟩
      rw [forGo, if_pos ok, h1, R.bind_ok]
      rcases h2 with h2 | h2 <;> (rw [h2, R.bind_ok]; exact h3)
  exact key items [] env st rfl h0
/-! all the words for the simplifier -/
section
variable (env : MEnv) (st : Stor) (a b : ME) (x y : D) (mA : MA) (tc ta tb : MT) (m1 m2 : MS)
@[simp] theorem r_vr (i : Nat) : vr i env st = match env[i]? with | some (some d) => .ok d st | _ => .bad := by_rfl rfl
@[simp] theorem r_ct (d : D) : ct d env st = .ok d st := by_rfl rfl
@[simp] theorem r_op2 (g : D → D → Stor → R D) : op2 g a b env st = (a env st).bind fun x st1 => (b env st1).bind fun y st2 => g x y st2 := by_rfl rfl
@[simp] theorem r_op1 (g : D → Stor → R D) : op1 g a env st = (a env st).bind fun x st1 => g x st1 := by_rfl rfl
@[simp] theorem r_tB1  : tB1 a env st = (a env st).bind fun x st1 => match x with | .bl b => .ok b st1 | _ => .bad := by_rfl rfl
@[simp] theorem r_tru  : tru a env st = (a env st).bind fun x st1 => match truV x st1 with | some b => .ok b st1 | none => .bad := by_rfl rfl
@[simp] theorem r_andT  : andT ta tb env st = (ta env st).bind fun x st1 => if x then tb env st1 else .ok false st1 := by_rfl rfl
@[simp] theorem r_orT  : orT ta tb env st = (ta env st).bind fun x st1 => if x then .ok true st1 else tb env st1 := by_rfl rfl
@[simp] theorem r_notT  : notT ta env st = (ta env st).bind fun x st1 => .ok (!x) st1 := by_rfl rfl
@[simp] theorem r_andV  : andV a b env st = (a env st).bind fun x st1 => match x with | .bl true => b env st1 | .bl false => .ok (.bl false) st1 | _ => .bad := by_rfl rfl
@[simp] theorem r_orV  : orV a b env st = (a env st).bind fun x st1 => match x with | .bl true => .ok (.bl true) st1 | .bl false => b env st1 | _ => .bad := by_rfl rfl
@[simp] theorem r_nilA  : nilA env st = .ok [] st := by_rfl rfl
@[simp] theorem r_consA  : consA a mA env st = (a env st).bind fun x st1 => (mA env st1).bind fun xs st2 => .ok (x :: xs) st2 := by_rfl rfl
@[simp] theorem r_tupE  : tupE mA env st = (mA env st).bind fun ds st1 => if ds.length ≤ 1000000 then .ok (.tup ds) st1 else .bad := by_rfl rfl
@[simp] theorem r_lstE  : lstE mA env st = (mA env st).bind fun ds st1 => if ds.length ≤ 1000000 then .ok (.loc st1.length) (st1 ++ [.lst ds]) else .bad := by_rfl rfl
@[simp] theorem r_noP  : noP env st = .ok none st := by_rfl rfl
@[simp] theorem r_inP  : inP a env st = (a env st).bind fun x st1 => match x with | .int i => .ok (some i) st1 | _ => .bad := by_rfl rfl
@[simp] theorem r_slE (l h : MP) : slE a l h env st = (a env st).bind fun x st1 => (l env st1).bind fun lo st2 => (h env st2).bind fun hi st3 => slV x lo hi st3 := by_rfl rfl
@[simp] theorem r_callE (g : List D → Stor → R D) : callE g mA env st = (mA env st).bind fun ds st1 => g ds st1 := by_rfl rfl
@[simp] theorem r_skipS  : skipS env st = .ok (.nx env) st := by_rfl rfl
@[simp] theorem r_seqS  : seqS m1 m2 env st = (m1 env st).bind fun o st1 => match o with | .nx env1 => m2 env1 st1 | o => .ok o st1 := by_rfl rfl
@[simp] theorem r_retS  : retS a env st = (a env st).bind fun d st1 => .ok (.rt d) st1 := by_rfl rfl
@[simp] theorem r_exprS  : exprS a env st = (a env st).bind fun _ st1 => .ok (.nx env) st1 := by_rfl rfl
@[simp] theorem r_ifS  : ifS tc m1 m2 env st = (tc env st).bind fun x st1 => if x then m1 env st1 else m2 env st1 := by_rfl rfl
@[simp] theorem r_asgS (g : MG) : asgS a g env st = (a env st).bind fun d st1 => (g d env st1).bind fun env1 st2 => .ok (.nx env1) st2 := by_rfl rfl
@[simp] theorem r_setS (i : Nat) : setS i a env st = (a env st).bind fun d st1 => .ok (.nx (env.set i (some d))) st1 := by_rfl rfl
@[simp] theorem r_subG (g : D → D → D → Stor → R Unit) (d : D) : subG g a b d env st = (a env st).bind fun x st1 => (b env st1).bind fun y st2 => (g x y d st2).bind fun _ st3 => .ok env st3 := by_rfl rfl
@[simp] theorem r_callF (F : FD) (dd : List D) : callF F dd mA env st = (mA env st).bind fun as st1 => (F (as ++ dd) st1).sure := by_rfl rfl
@[simp] theorem r_methE (T : String) (g : D → List D → Stor → R D) : methE T g a mA env st = (a env st).bind fun x st1 => if isTy T x st1 = true then (mA env st1).bind fun xs st2 => g x xs st2 else .bad := by_rfl rfl
@[simp] theorem r_meth0E (T : String) (g : D → List D → Stor → R D) : meth0E T g a env st = (a env st).bind fun x st1 => if isTy T x st1 = true then g x [] st1 else .bad := by_rfl rfl
@[simp] theorem r_forS (mi : MI) (g : MG) : forS mi g m1 env st = (mi env st).bind fun s st1 => forGo g m1 s.2 s.1 env st1 := by_rfl rfl
@[simp] theorem r_seqI  : seqI a env st = (a env st).bind fun d st1 => match d with
  | .loc n => (match st1[n]? with
    | some (.lst ds) => .ok (ds, [(n, .lst ds)]) st1
    | some (.frz ds) => .ok (ds, [(n, .frz ds)]) st1
    | _ => .bad)
  | .tup ds => .ok (ds, []) st1
  | _ => .bad := by_rfl rfl
@[simp] theorem r_range1I  : range1I mA env st = (mA env st).bind fun ds st1 => match ds with
  | [.int j] => if -(2 ^ 62) ≤ j ∧ j < 2 ^ 62 then .ok (upto 0 j.toNat, []) st1 else .bad
  | _ => .bad := by_rfl rfl
@[simp] theorem r_add_int (i j : Int) : addV (.int i) (.int j) st = .ok (.int (i + j)) st := by_rfl rfl
theorem r_mul_int (i j : Int) (h : (-(2 ^ 64) < i ∧ i < 2 ^ 64) ∨ (-(2 ^ 64) < j ∧ j < 2 ^ 64)) : mulV (.int i) (.int j) st = .ok (.int (i * j)) st := by
  unfold mulV intV; dsimp only; rw [if_pos h]
theorem r_fdiv_int (i j : Int) (h : 0 < j ∧ j < 2 ^ 64) : fdivV (.int i) (.int j) st = .ok (.int (i / j)) st := by
  unfold fdivV intV; dsimp only; rw [if_pos h]
theorem r_mod_int (i j : Int) (h : 0 < j) : modV (.int i) (.int j) st = .ok (.int (i % j)) st := by
  unfold modV intV; dsimp only; rw [if_pos h]
@[simp] theorem r_lt_int (i j : Int) : ltV (.int i) (.int j) st = .ok (.bl (decide (i < j))) st := by simp [ltV, intV]
@[simp] theorem r_le_int (i j : Int) : leV (.int i) (.int j) st = .ok (.bl (decide (i ≤ j))) st := by simp [leV, intV]
@[simp] theorem r_gt_int (i j : Int) : gtV (.int i) (.int j) st = .ok (.bl (decide (j < i))) st := by simp [gtV, intV]
@[simp] theorem r_neg_int (i : Int) : negV (.int i) st = .ok (.int (-i)) st := by_rfl rfl
@[simp] theorem r_eq_int (L : Nat) (i j : Int) : eqV (L + 1) (.int i) (.int j) st = .ok (.bl (decide (i = j))) st := by
  have e : (i == j) = decide (i = j) := by rw [Bool.eq_iff_iff]; simp
  simp only [eqV, eqR, eqD, e, flat_int, cdep_int]
  rw [if_pos ⟨trivial, trivial, Nat.succ_pos L⟩]
@[simp] theorem r_ne_int (L : Nat) (i j : Int) : neV (L + 1) (.int i) (.int j) st = .ok (.bl (!decide (i = j))) st := by
  have e : (i == j) = decide (i = j) := by rw [Bool.eq_iff_iff]; simp
  simp only [neV, eqR, eqD, e, flat_int, cdep_int]
  rw [if_pos ⟨trivial, trivial, Nat.succ_pos L⟩]
@[simp] theorem r_eq_str (L : Nat) (i j : List Nat) : eqV (L + 1) (.str i) (.str j) st = .ok (.bl (decide (i = j))) st := by
  have e : (i == j) = decide (i = j) := by rw [Bool.eq_iff_iff]; simp
  simp only [eqV, eqR, eqD, e, flat_str, cdep_str]
  rw [if_pos ⟨trivial, trivial, Nat.succ_pos L⟩]
@[simp] theorem r_ne_str (L : Nat) (i j : List Nat) : neV (L + 1) (.str i) (.str j) st = .ok (.bl (!decide (i = j))) st := by
  have e : (i == j) = decide (i = j) := by rw [Bool.eq_iff_iff]; simp
  simp only [neV, eqR, eqD, e, flat_str, cdep_str]
  rw [if_pos ⟨trivial, trivial, Nat.succ_pos L⟩]
theorem r_ne_lists (L m n : Nat) (ds : List D) (h1 : itemsAt st m = some ds) (h2 : itemsAt st n = some ds) (hf : flats ds = true) (hd : deps ds + deps ds + 1 < L) : neV L (.loc m) (.loc n) st = .ok (.bl false) st := by
  have e : eqR L (.loc m) (.loc n) st = some true := by
    simp only [eqR, h1, h2]
    rw [if_pos ⟨hf, hf, by have := cdeps_le ds ds; omega⟩, eqDs_refl _ hf]
  unfold neV; rw [e]; rfl
theorem r_ix_loc (n : Nat) (i : Int) (ds : List D) (d : D) (h : itemsAt st n = some ds) (hi : atI ds i = some d) : ixV (.loc n) (.int i) st = .ok d st := by
  simp [ixV, h, hi]
theorem r_ix_tup (i : Int) (ds : List D) (d : D) (hi : atI ds i = some d) : ixV (.tup ds) (.int i) st = .ok d st := by
  simp [ixV, hi]
theorem r_len_loc (n : Nat) (ds : List D) (h : itemsAt st n = some ds) : lenV [.loc n] st = .ok (.int ds.length) st := by simp [lenV, h]
@[simp] theorem r_is_int (T : String) (i : Int) : isV T (.int i) st = .ok (.bl (subTy "int" T)) st := by_rfl rfl
@[simp] theorem r_is_str (T : String) (i : List Nat) : isV T (.str i) st = .ok (.bl (subTy "str" T)) st := by_rfl rfl
@[simp] theorem r_is_tup (T : String) (i : List D) : isV T (.tup i) st = .ok (.bl (subTy "tuple" T)) st := by_rfl rfl
end
end M
namespace L2
open PySem PySem.Spec PyProof.Rows
/-! ### lists of pairs as tables -/
section
variable {κ : Type} [DecidableEq κ]
end
/-! ### a tracked dict, its keys ints and texts or tuples of these -/
section
variable {P : Program} {w : World} {H : Hp} {h : Heap} {a : Addr}
end
section
variable {X : Cx} {pins : List (Addr × Obj)} {σ : St} {H : Hp} {s : Shared} {a : Addr} {y v : V} {u r : Value} {o : Option V} {A : Around} {E : Value → Shared → Prop}
end
section
variable {X : Cx} {pins : List (Addr × Obj)} {σ : St} {H : Hp} {s : Shared} {a : Addr} {kvs : List (Key × V)} {k : Key} {u : Value} {A : Around} {E : Value → Shared → Prop}
end
/-! ### readings and rules -/
section
variable {X : Cx} {o i e value : Expr} {pos pos' tpos : Pos} {td ty tv : TE}
end
/-! ### displays -/
section
variable {X : Cx} {pos : Pos}
end
/-! ### methods -/
/-- a method call o.m(e) of a built-in, with one argument: what must be seen of the text -/
structure M1 (X : Cx) (o : Expr) (m : Str) (apos : Pos) (e : Expr) (cpos : Pos) : Prop where
  base : attributeBase o m X.env (eval o X.env) = eval o X.env
  few : ((backTo cpos (starEach [e] X.env)).all (fun x => !x.1) && (backToKw cpos (keywordEach [] X.env)).all (fun x => x.1.isSome)
    && decide (([e] : List Expr).length + ([] : List Keyword).length + (if ([] : List Keyword).isEmpty then 0 else 1) < 30)) = true
  line : (apos.endLine == cpos.line) = true
  trees : backTo cpos (starEach [e] X.env) = [(false, eval e X.env)]
structure M2 (X : Cx) (o : Expr) (m : Str) (apos : Pos) (e f : Expr) (cpos : Pos) : Prop where
  base : attributeBase o m X.env (eval o X.env) = eval o X.env
  few : ((backTo cpos (starEach [e, f] X.env)).all (fun x => !x.1) && (backToKw cpos (keywordEach [] X.env)).all (fun x => x.1.isSome)
    && decide (([e, f] : List Expr).length + ([] : List Keyword).length + (if ([] : List Keyword).isEmpty then 0 else 1) < 30)) = true
  line : (apos.endLine == cpos.line) = true
  trees : backTo cpos (starEach [e, f] X.env) = [(false, eval e X.env), (false, eval f X.env)]
section
variable {X : Cx} {pins : List (Addr × Obj)} {σ : St} {H : Hp} {s : Shared} {a : Addr} {y d : V} {u r : Value} {o : Option V} {A : Around} {E : Value → Shared → Prop}
end
section
variable {X : Cx} {o e f : Expr} {apos cpos : Pos} {td ty tx : TE}
end
/-! ### dict(d): a copy -/
section
variable {X : Cx} {pins : List (Addr × Obj)} {σ : St} {H : Hp} {s : Shared} {a : Addr} {kvs : List (Key × V)} {A : Around} {E : Value → Shared → Prop}
end
section
variable {X : Cx} {pins : List (Addr × Obj)} {σ : St} {H : Hp} {s : Shared} {a : Addr} {y : V} {u : Value} {A : Around} {E : Value → Shared → Prop}
end
end L2
namespace L2
open PySem PySem.Spec PyProof.Rows
/-! ### d.setdefault(k, v), k a tuple -/
section
variable {X : Cx} {pins : List (Addr × Obj)} {σ : St} {H : Hp} {s : Shared} {a b : Addr} {v : V} {u r : Value} {A : Around} {E : Value → Shared → Prop} {kvs : List (List Key × V)} {k : List Key}
end
end L2
namespace M
open PySem PySem.Spec L2
/-! ### dicts whose keys are tuples of ints and texts -/
section
variable {X : Cx} {e a b c o : Expr} {es : List Expr} {ma mb mc mo : ME} {mA : MA} {pos p2 p apos cpos : Pos}
end
end M
namespace L2
open PySem PySem.Spec PyProof.Rows
/-! ### for c in text (of signs below 128) -/
end L2
namespace M
open PySem PySem.Spec L2
section
variable {X : Cx} {tg l : Expr} {ml : ME} {μ : List Addr} {H : Hp}
end
end M
namespace L2
open PySem PySem.Spec PyProof.Rows
end L2
namespace M
open PySem PySem.Spec L2
end M
namespace M
open L2
/-! ### more rules for running, and plain facts -/
theorem cut_map {α β : Type} (f : α → β) (l : List α) (lo hi : Option Int) : cut (l.map f) lo hi = (cut l lo hi).map f := by
  unfold cut
  rw [List.length_map, List.map_take, List.map_drop]
theorem cut_len {α : Type} (l : List α) (lo hi : Option Int) : (cut l lo hi).length ≤ l.length := by
  unfold cut
  rw [List.length_take, List.length_drop]; omega
theorem unders_ints (n : Nat) (cs : List Int) : unders n (cs.map D.int) := by
  induction cs with
  | nil => simp
  | cons c cs ih => simp [ih]
theorem upto_len (lo : Int) (n : Nat) : (upto lo n).length = n := by simp [upto]
section
variable (st : Stor)
theorem r_ix_str (cs : List Nat) (i : Int) (c : Nat) (h : cs.length ≤ 1000000) (hi : atI cs i = some c) : ixV (.str cs) (.int i) st = .ok (.str [c]) st := by simp [ixV, h, hi]
theorem r_add_str (a b : List Nat) (h : a.length + b.length ≤ 1000000) : addV (.str a) (.str b) st = .ok (.str (a ++ b)) st := by simp [addV, h]
theorem r_sl_str (cs : List Nat) (lo hi : Option Int) (h : cs.length ≤ 1000000) : slV (.str cs) lo hi st = .ok (.str (cut cs lo hi)) st := by simp [slV, h]
theorem r_len_str (cs : List Nat) (h : cs.length ≤ 1000000) : lenV [.str cs] st = .ok (.int cs.length) st := by simp [lenV, h]
end
end M
namespace M
open PySem PySem.Spec L2
section
variable {X : Cx}
/-! ### k in d, k not in d, d[k] = v, d[k] (keys that are tuples), l.pop() -/
/-- l.pop() -/
def popV : D → List D → Stor → R D
  | .loc n, [], st => match st[n]? with
    | some (.lst ds) => (match ds[ds.length - 1]? with | some d => .ok d (st.set n (.lst ds.dropLast)) | none => .bad)
    | _ => .bad
  | _, _, _ => .bad
theorem RepVs.dropLast {K : PySem.W.Frag} {μ : List Addr} {H : Hp} : ∀ {ds : List D} {xs : List V}, RepVs K μ H ds xs → RepVs K μ H ds.dropLast xs.dropLast
  | [], xs, h => by rw [RepVs] at h; subst h; exact RepVs.nil
  | [d], xs, h => by obtain ⟨v, rfl, _⟩ := RepVs.one h; exact RepVs.nil
  | d :: e :: ds, xs, h => by
    rw [RepVs] at h
    obtain ⟨v, r, rfl, h1, h2⟩ := h
    obtain ⟨w, r', rfl, h3, h4⟩ := (by rw [RepVs] at h2; exact h2 : ∃ v r', r = v :: r' ∧ RepV K μ H e v ∧ RepVs K μ H ds r')
    rw [List.dropLast_cons_cons, List.dropLast_cons_cons]
    exact RepVs.cons h1 (RepVs.dropLast h2)
theorem mt_popV : MtR X "list.pop" (rMM X popV) := by
  refine MtR.weak mt_pop ?_
  rintro x xs H Q ⟨μ, st, d, ds, hs, hx, hxs, hp⟩
  unfold popV at hp
  split at hp
  · rename_i n
    cases e : st[n]? with
    | none => rw [e] at hp; exact hp.elim
    | some mo =>
      cases mo with
      | lst l =>
        rw [e] at hp
        dsimp only at hp
        cases e2 : l[l.length - 1]? with
        | none => rw [e2] at hp; exact hp.elim
        | some d =>
          rw [e2] at hp
          obtain ⟨p, q1, rfl⟩ := RepV.loc_iff.mp hx
          rw [RepVs] at hxs
          obtain ⟨p', ys, r1, r2, r3⟩ := hs.lst e
          rw [q1] at r1; cases r1
          obtain ⟨v, z1, z2⟩ := r3.get e2
          obtain ⟨g, hs'⟩ := putLst hs e q1 r2 r3.dropLast
          exact ⟨p, ys, v, rfl, hxs, r2, by rw [← r3.length]; exact z1, hp _ _ μ g hs' (z2.mono g _)⟩
      | _ => rw [e] at hp; exact hp.elim
  · exact hp.elim
end
end M
namespace L2
open PySem PySem.Spec PyProof.Rows
theorem strs_are : ∀ (ys : List Str) (its : List Value), Vals (ys.map V.str) its → StrsAre its ys
  | [], _, h => by cases h; exact .nil
  | y :: ys, _, h => by
    cases h with
    | cons r1 r2 =>
      obtain ⟨t, rfl⟩ := r1
      exact .cons y t (strs_are ys _ r2)
/-- x.join(list of texts) -/
theorem mt_joinS {X : Cx} : MtR X "str.join" (fun x xs H Q => ∃ (z : Str) (p : Addr) (ys : List Str), x = .str z ∧ xs = [.ref p] ∧ SqL X.K H p (ys.map V.str) ∧ (ys.map fun y => y.length).sum + ys.length * z.length ≤ 16777216 ∧ Q (.str (Txt.join z ys)) H) := by
  rintro pins s σ H x xs v us Q I rx rxs ⟨z, p, ys, rfl, rfl, hq, hz, h⟩
  obtain ⟨t, rfl⟩ := rx
  cases rxs with
  | cons r1 r2 =>
    cases r2
    cases r1
    obtain ⟨its, rv, pl, _⟩ := I.list hq
    exact join_list pl.isList (strs_are ys its rv) hz fun t' k => ⟨.str (Txt.join z ys), H, I.kept (t' := k) fun b u h => h, ⟨t', rfl⟩, h⟩
end L2
namespace M
open PySem PySem.Spec L2
section
variable {X : Cx}
def textsOf : List D → Option (List (List Nat))
  | [] => some []
  | .str cs :: r => (textsOf r).map (cs :: ·)
  | _ :: _ => none
theorem texts_are {K : PySem.W.Frag} {μ : List Addr} {H : Hp} : ∀ {ds : List D} {xs : List V} {ts : List (List Nat)}, textsOf ds = some ts → RepVs K μ H ds xs → xs = (ts.map strOf).map V.str
  | [], _, _, e, h => by cases e; rw [RepVs] at h; exact h
  | d :: ds, _, ts, e, h => by
    rw [RepVs] at h
    obtain ⟨v, t, rfl, h1, h2⟩ := h
    cases d with
    | str cs =>
      simp only [textsOf] at e
      cases q : textsOf ds with
      | none => rw [q] at e; cases e
      | some ts' =>
        rw [q] at e; cases e
        rw [RepV.str_iff] at h1; subst h1
        rw [texts_are q h2]; rfl
    | _ => simp [textsOf] at e
def joinM (sep : List Nat) (ts : List (List Nat)) : List Nat := (Txt.join (strOf sep) (ts.map strOf)).cps.toList
def joinV : D → List D → Stor → R D
  | .str sep, [.loc n], st => match (itemsAt st n).bind textsOf with
    | some ts => if (ts.map List.length).sum + ts.length * sep.length ≤ 1000000 then .ok (.str (joinM sep ts)) st else .bad
    | none => .bad
  | _, _, _ => .bad
theorem mt_joinV : MtR X "str.join" (rMM X joinV) := by
  refine MtR.weak mt_joinS ?_
  rintro x xs H Q ⟨μ, st, d, ds, hs, hx, hxs, hp⟩
  unfold joinV at hp
  split at hp
  · rename_i sep n
    cases e : itemsAt st n with
    | none => rw [e] at hp; exact hp.elim
    | some l =>
      rw [e] at hp
      cases e2 : textsOf l with
      | none => simp only [Option.bind_some, e2] at hp; exact hp.elim
      | some ts =>
        simp only [Option.bind_some, e2] at hp
        split at hp
        · rename_i hl
          obtain ⟨v, rfl, q⟩ := RepVs.one hxs
          obtain ⟨p, q1, rfl⟩ := RepV.loc_iff.mp q
          obtain ⟨p', ys, r1, r2, r3⟩ := hs.items e
          rw [q1] at r1; cases r1
          rw [texts_are e2 r3] at r2
          obtain rfl := RepV.str_iff.mp hx
          refine ⟨_, p, ts.map strOf, rfl, rfl, r2, ?_, hp.ret hs (RepV.str_iff.mpr rfl)⟩
          rw [List.map_map, List.length_map]
          have e3 : (ts.map ((fun y : Str => y.length) ∘ strOf)) = ts.map List.length := List.map_congr_left fun t _ => by
            show (strOf t).cps.size = t.length
            simp
          rw [e3]
          have e4 : (strOf sep).length = sep.length := by show (strOf sep).cps.size = sep.length; simp
          rw [e4]; omega
        · exact hp.elim
  · exact hp.elim
end
end M
namespace M
open PySem PySem.Spec L2
/-! ### join and split are one another's way back -/
def joinL (sep : List Nat) : List (List Nat) → List Nat
  | [] => []
  | [t] => t
  | t :: u :: r => t ++ sep ++ joinL sep (u :: r)
theorem join_toList (sep : Str) : ∀ (ts : List Str), (sep.join ts).cps.toList = joinL sep.cps.toList (ts.map fun t => t.cps.toList)
  | [] => by rw [PyProof.Rows.join_nil]; rfl
  | [t] => by rw [PyProof.Rows.join_one]; rfl
  | t :: u :: r => by
    have ih := join_toList sep (u :: r)
    rw [List.map_cons] at ih
    rw [PyProof.Rows.join_cons_cons, List.map_cons, List.map_cons, joinL, ← ih]
    show (t.cps ++ sep.cps ++ (sep.join (u :: r)).cps).toList = _
    simp
theorem joinM_eq (sep : List Nat) (ts : List (List Nat)) : joinM sep ts = joinL sep ts := by
  unfold joinM
  rw [show Txt.join (strOf sep) (ts.map strOf) = (strOf sep).join (ts.map strOf) from StrLaws.glued_eq_join _ _, join_toList, List.map_map]
  have : (fun t : Str => t.cps.toList) ∘ strOf = id := by funext t; simp
  rw [this, List.map_id]
end M
namespace L2
open PySem PySem.Spec PyProof.Rows
end L2
namespace M
open PySem PySem.Spec L2
/-! ### text * n -/
section
variable {X : Cx} {a b c : Expr} {ma mb mc : ME} {pos : Pos}
/-! ### a op1 b op2 c -/
/-! ### str(i), str(text) -/
end
end M
namespace M
open PySem PySem.Spec L2
section
variable {X : Cx} {pos : Pos} {x : Str}
/-! ### a module's constants; what is never reached -/
theorem je_globV {d : D} {v : V} {u : Value} (hg : Gl X x) (hm : X.mg x = some u) (r : RelV v u) (hv : ∀ μ H, RepV X.K μ H d v) (hd : (x == ("__debug__" : Str)) = false := by decide) : JE X (.Name x pos) (ct d) :=
  JE.of (pe_glob hg hm r hd) fun σ H Q ⟨μ, env, st, hE, hs, hp⟩ => hp.ret hs (hv μ H)
theorem je_globI {i : Int} (h : ∃ t, X.mg x = some (.int i t)) (hg : Gl X x := by rfl) (hd : (x == ("__debug__" : Str)) = false := by decide) : JE X (.Name x pos) (ct (.int i)) := by
  obtain ⟨t, h⟩ := h
  exact je_globV (v := .int i) hg h ⟨t, rfl⟩ (fun _ _ => RepV.int_iff.mpr rfl) hd
end
end M
namespace M
open L2
section
variable (st : Stor)
theorem r_join (sep : List Nat) (n : Nat) (ts : List (List Nat)) (h : itemsAt st n = some (ts.map D.str)) (hl : (ts.map List.length).sum + ts.length * sep.length ≤ 1000000) : joinV (.str sep) [.loc n] st = .ok (.str (joinL sep ts)) st := by
  have e : textsOf (ts.map D.str) = some ts := by
    clear h hl
    induction ts with
    | nil => rfl
    | cons t ts ih => simp [textsOf, ih]
  simp only [joinV, h, Option.bind_some, e]
  rw [if_pos hl, joinM_eq]
end
end M
namespace M
open L2
/-! split at one sign, plainly -/
theorem joinL_cons (sep t : List Nat) (ts : List (List Nat)) (h : ts ≠ []) : joinL sep (t :: ts) = t ++ sep ++ joinL sep ts := by
  cases ts with
  | nil => exact absurd rfl h
  | cons u r => rfl
theorem joinL_nil (ts : List (List Nat)) : joinL [] ts = ts.flatten := by
  induction ts with
  | nil => rfl
  | cons t ts ih =>
    cases ts with
    | nil => simp [joinL]
    | cons u r => rw [joinL_cons _ _ _ (by simp), ih]; simp
end M
namespace M
open L2
/-- a loop without early leave, by the turn's number -/
theorem forGo_ix {g : MG} {b : MS} {gs : List (Nat × MO)} {items : List D} (I : Nat → MEnv → Stor → Prop) {env : MEnv} {st : Stor} (h0 : I 0 env st)
    (step : ∀ i d env st, items[i]? = some d → I i env st → okG gs st ∧ ∃ env1 st1, g d env st = .ok env1 st1 ∧ ∃ env2 st2, (b env1 st1 = .ok (.nx env2) st2 ∨ b env1 st1 = .ok (.cn env2) st2) ∧ I (i + 1) env2 st2)
    (hend : ∀ env st, I items.length env st → okG gs st) : ∃ env' st', forGo g b gs items env st = .ok (.nx env') st' ∧ I items.length env' st' := by
  refine forGo_all (fun pre env st => I pre.length env st) h0 (fun pre d post env st e hI => ?_) hend
  have := step pre.length d env st (by rw [e]; simp) hI
  simpa using this
theorem upto_get {lo : Int} {n i : Nat} {d : D} (h : (upto lo n)[i]? = some d) : i < n ∧ d = .int (lo + (i : Nat)) := by
  have h2 : i < n := by
    have := (List.getElem?_eq_some_iff.mp h).1
    rwa [upto_len] at this
  unfold upto at h
  rw [List.getElem?_map, List.getElem?_range h2] at h
  exact ⟨h2, (Option.some.inj h).symm⟩
theorem enum_get {xs : List D} {i : Nat} {d : D} (h : (enumL 0 xs)[i]? = some d) : ∃ x, xs[i]? = some x ∧ d = .tup [.int (i : Nat), x] := by
  rw [enumL_get] at h
  cases e : xs[i]? with
  | none => rw [e] at h; cases h
  | some x =>
    rw [e] at h
    simp at h
    exact ⟨x, rfl, h.symm⟩
end M
namespace M
open L2
theorem pickS (cs : List Nat) (i : Int) (h0 : 0 ≤ i) (h1 : i < cs.length) (hl : cs.length ≤ 1000000) : ∃ c, c ∈ cs ∧ ∀ st, ixV (.str cs) (.int i) st = .ok (.str [c]) st := by
  obtain ⟨j, rfl⟩ := Int.eq_ofNat_of_zero_le h0
  have hj : j < cs.length := by omega
  exact ⟨cs[j], List.getElem_mem hj, fun st => r_ix_str st cs _ _ hl (by rw [atI_ofNat]; exact List.getElem?_eq_getElem hj)⟩
end M
namespace M
open L2
end M
namespace M
open L2
/-! ### while, without fuel -/
theorem whileS_succ {c : MT} {b : MS} : ∀ (n : Nat) (env : MEnv) (st : Stor), whileS c b n env st ≠ .bad → whileS c b (n + 1) env st = whileS c b n env st
  | 0, env, st, h => absurd (by rw [whileS]) h
  | n + 1, env, st, h => by
    rw [whileS] at h
    rw [whileS, whileS]
    cases e : c env st with
    | bad => rfl
    | err x s => rfl
    | ok x st1 =>
      rw [e, R.bind_ok] at h
      rw [R.bind_ok, R.bind_ok]
      cases x with
      | false => rfl
      | true =>
        rw [if_pos rfl] at h ⊢
        rw [if_pos rfl]
        cases e2 : b env st1 with
        | bad => rfl
        | err x s => rfl
        | ok o st2 =>
          rw [e2, R.bind_ok] at h
          rw [R.bind_ok, R.bind_ok]
          cases o with
          | nx env2 => exact whileS_succ n env2 st2 h
          | cn env2 => exact whileS_succ n env2 st2 h
          | bk env2 => rfl
          | rt d => rfl
theorem whileS_add {c : MT} {b : MS} {n : Nat} {env : MEnv} {st : Stor} (h : whileS c b n env st ≠ .bad) : ∀ k, whileS c b (n + k) env st = whileS c b n env st
  | 0 => rfl
  | k + 1 => by
    have := whileS_add h k
    rw [← Nat.add_assoc, whileS_succ (n + k) env st (by rw [this]; exact h), this]
open Classical in
noncomputable def whileW (c : MT) (b : MS) : MS := fun env st => if h : ∃ n, whileS c b n env st ≠ .bad then whileS c b (Classical.choose h) env st else .bad
theorem whileW_of {c : MT} {b : MS} {n : Nat} {env : MEnv} {st : Stor} (h : whileS c b n env st ≠ .bad) : whileW c b env st = whileS c b n env st := by
  have hx : ∃ n, whileS c b n env st ≠ .bad := ⟨n, h⟩
  unfold whileW
  rw [dif_pos hx]
  have h2 := Classical.choose_spec hx
  generalize Classical.choose hx = m at h2 ⊢
  by_cases hmn : m ≤ n
  · obtain ⟨k, rfl⟩ := Nat.le.dest hmn
    exact (whileS_add h2 k).symm
  · obtain ⟨k, rfl⟩ := Nat.le.dest (show n ≤ m by omega)
    exact whileS_add h k
theorem whileW_ex {c : MT} {b : MS} {env : MEnv} {st : Stor} : whileW c b env st = .bad ∨ ∃ n, whileW c b env st = whileS c b n env st := by
  unfold whileW
  split
  · exact .inr ⟨_, rfl⟩
  · exact .inl rfl
/-- a turn of a while -/
theorem whileW_eq (c : MT) (b : MS) (env : MEnv) (st : Stor) : whileW c b env st = (c env st).bind fun x st1 => if x then (b env st1).bind fun o st2 => (match o with
      | .nx env2 => whileW c b env2 st2
      | .cn env2 => whileW c b env2 st2
      | .bk env2 => .ok (.nx env2) st2
      | .rt d => .ok (.rt d) st2) else .ok (.nx env) st1 := by
  have one : ∀ n, whileS c b (n + 1) env st = (c env st).bind fun x st1 => if x then (b env st1).bind fun o st2 => (match o with
      | .nx env2 => whileS c b n env2 st2
      | .cn env2 => whileS c b n env2 st2
      | .bk env2 => .ok (.nx env2) st2
      | .rt d => .ok (.rt d) st2) else .ok (.nx env) st1 := fun n => by rw [whileS] <;> rfl
  have bd : (∀ n, whileS c b (n + 1) env st = .bad) → whileW c b env st = .bad := fun h => by
    unfold whileW
    rw [dif_neg]
    rintro ⟨n, hn⟩
    cases n with
    | zero => exact hn (by rw [whileS])
    | succ n => exact hn (h n)
  have go : ∀ (env2 : MEnv) (st2 : Stor), (∀ n, whileS c b (n + 1) env st = whileS c b n env2 st2) → whileW c b env st = whileW c b env2 st2 := fun env2 st2 h => by
    by_cases hx : ∃ n, whileS c b n env2 st2 ≠ .bad
    · obtain ⟨n, hn⟩ := hx
      rw [whileW_of hn, ← h n, whileW_of (n := n + 1) (by rw [h n]; exact hn)]
    · have e2 : whileW c b env2 st2 = .bad := by unfold whileW; rw [dif_neg hx]
      rw [e2]
      refine bd fun n => ?_
      rw [h n]
      by_cases q : whileS c b n env2 st2 = .bad
      · exact q
      · exact absurd ⟨n, q⟩ hx
  cases e : c env st with
  | bad => rw [R.bind_bad]; exact bd fun n => by rw [one n, e, R.bind_bad]
  | err x s =>
    rw [R.bind_err]
    have : whileS c b 1 env st = .err x s := by rw [one 0, e, R.bind_err]
    rw [whileW_of (n := 1) (by rw [this]; exact fun z => nomatch z), this]
  | ok x st1 =>
    rw [R.bind_ok]
    cases x with
    | false =>
      have : whileS c b 1 env st = .ok (.nx env) st1 := by rw [one 0, e, R.bind_ok]; rfl
      rw [whileW_of (n := 1) (by rw [this]; exact fun z => nomatch z), this]; rfl
    | true =>
      rw [if_pos rfl]
      cases e2 : b env st1 with
      | bad => rw [R.bind_bad]; exact bd fun n => by rw [one n, e, R.bind_ok, if_pos rfl, e2, R.bind_bad]
      | err x s =>
        rw [R.bind_err]
        have : whileS c b 1 env st = .err x s := by rw [one 0, e, R.bind_ok, if_pos rfl, e2, R.bind_err]
        rw [whileW_of (n := 1) (by rw [this]; exact fun z => nomatch z), this]
      | ok o st2 =>
        rw [R.bind_ok]
        cases o with
        | nx env2 => exact go env2 st2 fun n => by rw [one n, e, R.bind_ok, if_pos rfl, e2, R.bind_ok]
        | cn env2 => exact go env2 st2 fun n => by rw [one n, e, R.bind_ok, if_pos rfl, e2, R.bind_ok]
        | bk env2 =>
          have : whileS c b 1 env st = .ok (.nx env2) st2 := by rw [one 0, e, R.bind_ok, if_pos rfl, e2, R.bind_ok]
          rw [whileW_of (n := 1) (by rw [this]; exact fun z => nomatch z), this]
        | rt d =>
          have : whileS c b 1 env st = .ok (.rt d) st2 := by rw [one 0, e, R.bind_ok, if_pos rfl, e2, R.bind_ok]
          rw [whileW_of (n := 1) (by rw [this]; exact fun z => nomatch z), this]
/-! ### more of texts -/
/-- t.rstrip(c), c one sign -/
def rstripL (c : Nat) (cs : List Nat) : List Nat := (cs.reverse.dropWhile (fun x => decide (x = c))).reverse
end M
namespace M
open L2
theorem rstripL_nil (c : Nat) : rstripL c [] = [] := rfl
end M
namespace L2
open PySem PySem.Spec PyProof.Rows
section
variable {X : Cx} {a b : Expr} {rest : List Expr} {pos : Pos} {ta tb : TE}
end
end L2
namespace M
open PySem PySem.Spec L2
section
variable {X : Cx} {a b c : Expr} {ma mb mc : ME} {pos : Pos} {rest : List Expr}
/-! while -/
theorem js_whileW {body : List Stmt} {tc : MT} {mb : MS} (hc : JT X c tc) (hb : JSs X body mb) (hp : PassesOwn (model X.prog X.w) X.A X.env X.xe) : JS X (.While c body [] pos) (whileW tc mb) := by
  rintro pins s σ H D I ⟨μ, env, st, hE, hs, q⟩
  rcases whileW_ex (c := tc) (b := mb) (env := env) (st := st) with e | ⟨n, e⟩
  · rw [e] at q; exact q.elim
  · rw [e] at q
    exact js_while n hc hb hp pins s σ H D I ⟨μ, env, st, hE, hs, q⟩
/-! c in t, t.rstrip(c) -/
end
end M
namespace L2
open PySem PySem.Spec PyProof.Rows PySem.Builtin PySem.Builtin.Str
/-! ### text * truth -/
end L2
namespace M
open PySem PySem.Spec L2
/-! ### defs with a default -/
structure FunD (K : PySem.W.Frag) (x qual : Str) (st : Stmt) (f : Addr) (fd : FuncData) : Prop where
  ex : ∃ (oc : Value) (od : Option Addr) (dV kV doc pm : Value) (an : Option Addr) (cdv ct : Value) (osl : Array (Option Value)),
    fd = PySem.W.fnOf x qual (defArgs st) (defBody st) (defScope st) dV kV doc pm an cdv ct ∧ K.lookup f = some ⟨oc, od, .func fd, osl⟩ ∧ PySem.W.codeIn K cdv qual = true
  kp : PySem.W.keepIn K (.ref f) = true
section
variable {P : Program} {w : World} {K : PySem.W.Frag} {mg : Str → Option Value} {base : Heap}
end
section
variable {X : Cx} {e : Expr} {es : List Expr} {mA : MA} {pos p : Pos} {x : Str} {k : Nat} {f : Addr} {fd : FuncData} {ps : List Str} {F : FD} {i : Int}
end
end M
namespace M
open PySem PySem.Spec L2
/-- room for == of deeper things -/
theorem huL (L : Nat) {A : Around} {k : Nat} (hr : Room k A) (h : L ≤ 16 * k + 200) : A.units + L < cLine := by have := hr.un; omega
end M
namespace M
/-! ### trees -/
inductive Tr where
  | lf (s : List Nat) | jn (l r : Tr)
namespace Tr
def isSj : Tr → Bool
  | .jn (.lf s) _ => s == [83]
  | _ => false
def val : Tr → Bool
  | .lf _ => true
  | .jn l r => val r && (match l with
    | .lf s => s == [83] || s == [75]
    | .jn _ _ => isSj l && val l)
def lv : Tr → Nat
  | .lf _ => 1
  | .jn l r => lv l + lv r
def dp : Tr → Nat
  | .lf _ => 0
  | .jn l r => max (dp l) (dp r) + 1
theorem val_jn_leaf (s : List Nat) (r : Tr) : val (.jn (.lf s) r) = (val r && (s == [83] || s == [75])) := by rw [val]
theorem val_jn_jn (a b r : Tr) : val (.jn (.jn a b) r) = (val r && (isSj (.jn a b) && val (.jn a b))) := by rw [val]
theorem val_parts {l r : Tr} (h : val (.jn l r) = true) : val l = true ∧ val r = true := by
  cases l with
  | lf s => rw [val_jn_leaf, Bool.and_eq_true] at h; exact ⟨rfl, h.1⟩
  | jn a b => rw [val_jn_jn, Bool.and_eq_true, Bool.and_eq_true] at h; exact ⟨h.2.2, h.1⟩
theorem dp_lt_lv (t : Tr) : dp t < lv t := by
  induction t with
  | lf s => simp [dp, lv]
  | jn l r h1 h2 => rw [dp, lv]; omega
/-- what a joint of two values becomes that is itself none -/
def redex : Tr → Tr → Option Tr
  | .jn (.lf s) b, _ => if s = [75] then some b else none
  | .jn (.jn _ u) v, r => some (.jn (.jn u r) (.jn v r))
  | .lf _, _ => none
/-- one step -/
def step : Tr → Option Tr
  | .lf _ => none
  | .jn l r => if val l = false then (step l).map (fun x => .jn x r) else if val r = false then (step r).map (fun x => .jn l x) else if val (.jn l r) = true then none else redex l r
/-- a run of at most n steps -/
def run : Nat → Tr → Tr × Nat
  | 0, t => (t, 0)
  | n + 1, t => match step t with
    | none => (t, 0)
    | some u => ((run n u).1, (run n u).2 + 1)
/-! frames: what waits above -/
inductive Fr where
  | fl (r : Tr) | fr (l : Tr)
def fill : Fr → Tr → Tr
  | .fl r, t => .jn t r
  | .fr l, t => .jn l t
def plug (fs : List Fr) (t : Tr) : Tr := fs.foldr fill t
theorem plug_cons (fs : List Fr) (f : Fr) (t : Tr) : plug (f :: fs) t = fill f (plug fs t) := rfl
/-! trees of `S` and `K` alone are never stuck -/
def sk : Tr → Prop
  | .lf s => s = [83] ∨ s = [75]
  | .jn l r => sk l ∧ sk r
end Tr
open Tr
/-- as the program holds it -/
def enc : Tr → D
  | .lf s => .str s
  | .jn l r => .tup [enc l, enc r, .int (lv (.jn l r) : Nat), .bl (val (.jn l r))]
theorem enc_flat (t : Tr) : flat (enc t) = true := by
  induction t with
  | lf s => simp [enc]
  | jn l r h1 h2 => simp [enc, h1, h2]
theorem enc_under (n : Nat) (t : Tr) : under n (enc t) := by
  induction t with
  | lf s => simp [enc]
  | jn l r h1 h2 => simp [enc, h1, h2]
/-- a tree held against a text -/
theorem r_eq_enc (L : Nat) (t : Tr) (s : List Nat) (st : Stor) : eqV (L + 1) (enc t) (.str s) st = .ok (.bl (match t with | .lf c => decide (c = s) | .jn _ _ => false)) st := by
  cases t with
  | lf c => exact r_eq_str st L c s
  | jn l r =>
    have hf := enc_flat (.jn l r)
    unfold eqV
    have : eqR (L + 1) (enc (.jn l r)) (.str s) st = some false := by
      rw [enc] at hf ⊢
      simp only [eqR]
      rw [if_pos ⟨hf, by simp, by simp⟩]
      simp [eqD]
    rw [this]
theorem enc_is_str (t : Tr) (st : Stor) : isV "str" (enc t) st = .ok (.bl (match t with | .lf _ => true | .jn _ _ => false)) st := by
  cases t with
  | lf s => rw [enc]; simp [subTy]
  | jn l r => rw [enc]; simp [subTy]
end M
namespace M
open PySem PySem.Spec L2 PyProof.Rows
end M
namespace M
open L2
/-! ### more of lists -/
/-- l.extend(m) -/
def extendV : D → List D → Stor → R D
  | .loc n, [.loc m], st => match st[n]?, st[m]? with
    | some (.lst a), some (.lst b) => if a.length + b.length ≤ 1000000 then .ok .non (st.set n (.lst (a ++ b))) else .bad
    | _, _ => .bad
  | _, _, _ => .bad
end M
namespace M
open PySem PySem.Spec L2
section
variable {X : Cx}
theorem mt_extendV : MtR X "list.extend" (rMM X extendV) := by
  refine MtR.weak mt_extend ?_
  rintro x xs H Q ⟨μ, st, d, ds, hs, hx, hxs, hp⟩
  unfold extendV at hp
  split at hp
  · rename_i n m
    split at hp
    · rename_i a b e1 e2
      split at hp
      · rename_i hl
        obtain ⟨p, q1, rfl⟩ := RepV.loc_iff.mp hx
        obtain ⟨v, rfl, q⟩ := RepVs.one hxs
        obtain ⟨p2, q2, rfl⟩ := RepV.loc_iff.mp q
        obtain ⟨p', ys, r1, r2, r3⟩ := hs.lst e1
        rw [q1] at r1; cases r1
        obtain ⟨p2', zs, s1, s2, s3⟩ := hs.lst e2
        rw [q2] at s1; cases s1
        obtain ⟨g, hs'⟩ := putLst hs e1 q1 r2 (r3.append s3)
        refine ⟨p, p2, ys, zs, rfl, rfl, r2, s2, ?_, hp _ _ μ g hs' (RepV.non_iff.mpr rfl)⟩
        rw [← r3.length, ← s3.length]; exact lim_ok hl
      · exact hp.elim
    · exact hp.elim
  · exact hp.elim
end
end M
namespace M
open PySem PySem.Spec L2
section
variable {X : Cx} {pos p : Pos} {x : Str} {k : Nat} {f : Addr} {fd : FuncData} {F : FD}
end
end M
namespace L2
open PySem PySem.Spec PyProof.Rows
/-! ### cells put among what is known, for a call's time -/
section
variable {P : Program} {w : World} {H H' : Hp} {h h' : Heap} {L : List (Addr × Obj)}
end
section
variable {X : Cx} {k : Nat} {f : Addr} {fd : FuncData} {ps : List Str} {sp : Sp} {dvs : List V} {ds : List Value} {pins : List (Addr × Obj)} {σ : St} {H : Hp} {s : Shared} {Q : VK} {us : List Value} {vs : List V}
end
end L2
namespace L2
open PySem PySem.Spec PyProof.Rows
/-- the module of the built-ins, of the base -/
def BMain (mg : Str → Option Value) (base : Heap) : Prop :=
  ∃ bm o, mg "__builtins__" = some (.ref bm) ∧ bm ≠ builtinsNs ∧ bm ≠ mainGlobals ∧ base.get? bm = some o ∧ o.cls = .type "module" ∧ o.dict = some builtinsNs ∧ o.data = .plain
def TabP (H : Hp) (P : Addr) (q : Str) : Prop := ∃ ps : Array Value, H P = some (.tbl ps) ∧ TriplesOk ps.toList ∧ ∀ pos cv, codeAmong pos ps.toList = some cv → ∃ c', cv = .ref c' ∧ M.CodeF H c' q
/-- a lambda was made -/
structure LamNew (H H' : Hp) (P f c' : Addr) (q : Str) (ob : Obj) : Prop where
  new : H' f = some (.frz ob (.own 0))
  nf : H f = none
  code : M.CodeF H' c' q
  tab : TabP H' P q
  same : ∀ b u, b ≠ P → H b = some u → H' b = some u
section
variable {X : Cx} {P c : Addr} {q : Str} {params : Arguments} {body : Expr} {scope : Scope} {clos : List (Str × Addr)} {pos : Pos}
end
end L2
namespace L2
open PySem PySem.Spec PyProof.Rows
/-! ### a lambda is called -/
/-- a lambda's scope: the names taken from around, then the parameters -/
structure LamScope (cn ps : List Str) (sc : Scope) : Prop where
  kind : sc.kind = .function
  co : sc.isCoroutine = false
  gen : sc.isGenerator = false
  nd : (cn ++ ps).Nodup
  free : ∀ y ∈ sc.names, y.2 = .free → y.1 ∈ cn
  nocell : ∀ y ∈ sc.names, y.2 ≠ .cell
  isfree : ∀ x ∈ cn, sc.names.lookup x = some .free
  par : ∀ x ∈ ps, sc.names.lookup x = some .local
/-- the context of a lambda's body -/
def lamCx (P : Program) (w : World) (K : PySem.W.Frag) (mg : Str → Option Value) (base : Heap) (N : List Str) (qual : Str) (scope : Scope) (f : Addr) (cd : Value) (cl : List (Str × Addr)) (A : Around) (outer : List Env) (s : Shared) (H : Hp) : Cx where
  prog := P
  w := w
  K := K
  mg := mg
  base := base
  A := A.deeper (PySem.W.envX qual scope s.heap.objs.size f cd cl)
  N := N
  s₀ := s
  H₀ := H
  env := PySem.W.envX qual scope s.heap.objs.size f cd cl
  outer := outer
  stack := PySem.W.envX qual scope s.heap.objs.size f cd cl :: outer
  ex := []
  calm := true
  fn := fun _ => false
  pn := []
  xe := fun _ _ => False
section
variable {P : Program} {w : World} {K : PySem.W.Frag} {mg : Str → Option Value} {base : Heap} {A : Around} {outer : List Env} {s : Shared} {H : Hp} {qual : Str} {params : Arguments} {body : Expr} {scope : Scope} {cl : List (Str × Addr)} {pm ctv : Value} {c' f : Addr} {k : Nat}
  {cn ps : List Str} {us : List Value} {vs vs0 : List V} {Q : VK} {t : TE}
end
end L2
namespace M
open PySem PySem.Spec L2
/-! ### what is told of data needs but the tuples -/
mutual
theorem RepV.tupMono {K : PySem.W.Frag} {μ : List Addr} {H H' : Hp} (e : ∀ b xs, H b = some (.tup xs) → H' b = some (.tup xs)) : ∀ (d : D) {v : V}, RepV K μ H d v → RepV K μ H' d v
  | .non, _, h => by simpa [RepV] using h
  | .bl _, _, h => by simpa [RepV] using h
  | .int _, _, h => by simpa [RepV] using h
  | .str _, _, h => by simpa [RepV] using h
  | .tup ds, _, h => by
    rw [RepV] at h ⊢
    obtain ⟨a, xs, rfl, h1, h2⟩ := h
    exact ⟨a, xs, rfl, h1.elim (fun z => .inl (e _ _ z)) .inr, RepVs.tupMono e ds h2⟩
  | .loc n, _, h => by
    rw [RepV] at h ⊢
    exact h
theorem RepVs.tupMono {K : PySem.W.Frag} {μ : List Addr} {H H' : Hp} (e : ∀ b xs, H b = some (.tup xs) → H' b = some (.tup xs)) : ∀ (ds : List D) {vs : List V}, RepVs K μ H ds vs → RepVs K μ H' ds vs
  | [], _, h => by simpa [RepVs] using h
  | d :: ds, _, h => by
    rw [RepVs] at h ⊢
    obtain ⟨v, r, rfl, h1, h2⟩ := h
    exact ⟨v, r, rfl, RepV.tupMono e d h1, RepVs.tupMono e ds h2⟩
end
def MO.isClo : MO → Bool
  | .clo _ _ _ => true
  | _ => false
/-! ### a lambda's promise -/
structure LamOk (P : Program) (w : World) (K : PySem.W.Frag) (mg : Str → Option Value) (base : Heap) (k : Nat) (l : LamS) (ps : List Str) (m : ME) : Prop where
  sc : LamScope l.caps ps l.scope
  bind : ∀ cl pm c' ctv (us : List Value), us.length = ps.length → bindArgs (PySem.W.kla_fn "<lambda>" l.qual l.params l.body l.scope cl pm (.ref c') ctv) ⟨us, []⟩ = pure (ps.zip us)
  body : ∀ (f : Addr) (cd : Value) (cl : List (Str × Addr)) (A : Around) (outer : List Env) (s : Shared) (H : Hp), Room k (A.deeper (PySem.W.envX l.qual l.scope s.heap.objs.size f cd cl)) →
    JE (lamCx P w K mg base (l.caps ++ ps) l.qual l.scope f cd cl A outer s H) l.body m
end M
namespace M
open PySem PySem.Spec L2
/-! ### a name that holds a lambda is called -/
section
variable {X : Cx} {e : Expr} {es : List Expr} {mA : MA} {pos p : Pos} {x : Str} {k : Nat} {Λ : Nat → LamS} {G : Nat → FD}
end
end M
namespace M
open PySem PySem.Spec L2
/-! ### arguments among which are lambdas -/
inductive LA where
  | v (d : D) | l (j : Nat) (cap : List Nat)
abbrev ML := MEnv → Stor → R (List LA)
structure LamAtX (X : Cx) (l : LamS) (cap : List Nat) : Prop where
  nd : l.caps.Nodup
  cell : ∀ x ∈ l.caps, X.env.kindOf x = some .cell
  ix : cap.map (fun i => X.N[i]?) = l.caps.map some
section
variable {X : Cx} {Λ : Nat → LamS} {μ μ' : List Addr} {H H' : Hp}
end
section
variable {X : Cx} {Λ : Nat → LamS} {μ : List Addr} {H H' : Hp} {st : Stor} {e : Expr} {es : List Expr} {ma : ME} {m : ML}
end
/-! ### the cells of this frame -/
section
variable {X : Cx} {Λ : Nat → LamS} {H : Hp} {env : MEnv}
end
section
variable {X : Cx} {Λ : Nat → LamS} {e : Expr} {es : List Expr} {m : ML} {pos p : Pos} {x : Str} {k : Nat} {f : Addr} {fd : FuncData} {ps : List Str} {F : FD} {dvs : List V} {ds : List Value} {dd : List D}
end
end M
namespace M
open PySem PySem.Spec L2 PyProof.Rows
/-! ### the head, with tables of code -/
structure TabK (K : PySem.W.Frag) (x : Str) (P : Addr) : Prop where
  code : ∃ (fa : Addr) (o : Obj) (fd : FuncData) (c : Addr), PySem.W.nsIn K mainGlobals x = some (some (.ref fa)) ∧ K.lookup fa = some o ∧ o.data = .func fd ∧ fd.code = .ref c ∧ PySem.W.codeHdIn K c P = true
  out : K.lookup P = none
theorem law_callT {P : Program} {w : World} {K : PySem.W.Frag} {mg mb : Str → Option Value} {k : Nat} {fa a : Addr} {fd : FuncData} {x : Str} {sp : Sp} {s₁ : Shared} {vs : List Value} {ns : List Int} {ts : List (Str × Addr)}
    (KX : K.In s₁.heap) (hns : s₁.heap.Ns mainGlobals mg) (hb : s₁.heap.Ns builtinsNs mb) (hbb : ∀ x : Str, x ≠ "__name__" → mb x = bootBuiltins x) (hlim : s₁.heap.NoLimit) (hg : s₁.gens = #[])
    (hbm : ∃ bm ob, mg "__builtins__" = some (.ref bm) ∧ bm ≠ builtinsNs ∧ s₁.heap.get? bm = some ob ∧ ob.cls = .type "module" ∧ ob.dict = some builtinsNs ∧ ob.data = .plain)
    (ht : ∀ p ∈ ts, s₁.heap.get? p.2 = some (PySem.W.tabObj #[])) (hk : ∀ p ∈ ts, TabK K p.1 p.2)
    (ha : s₁.heap.get? a = some { cls := .type "list", data := .seq vs.toArray }) (hi : IntsAre vs ns) (hl : ns.length ≤ sizeLine) (hr : Room k callerA)
    (F : ∀ base : Heap, K.In base → base.Ns mainGlobals mg → BMain mg base → FnOk P w K mg base CX0 k fa fd [x] sp) (hbind : ∀ (s : Shared) (u : Value), BindsTo s fd ⟨[u], []⟩ [(x, u)])
    (hsp : ∀ H : Hp, FrzL K H a (ns.map V.int) → (∀ p ∈ ts, H p.2 = some (.tbl #[])) → sp [.ref a] H (fun v _ => v = .bl true) fun _ _ _ => False) :
    codeAny (model P w) callerA (.call (.ref fa) ⟨[.ref a], []⟩) (fun r s' => r = .ok (.ret (.bool true)) ∧ OldK s₁.heap s'.heap ∧ s'.os = s₁.os ∧ AllBare s'.gens) s₁ := by
  have rv := vals_ints hi
  have lenV := hi.length
  have core : ∀ H : Hp, FrzL K H a (ns.map V.int) → (∀ p ∈ ts, H p.2 = some (.tbl #[])) → HOk P w H s₁.heap → (∀ b u, H b = some u → (b = a ∧ K.lookup a = none ∧ ∃ o xs, u = .frz o (.lst xs)) ∨ (∃ p ∈ ts, b = p.2 ∧ u = .tbl #[])) →
      codeAny (model P w) callerA (.call (.ref fa) ⟨[.ref a], []⟩) (fun r s' => r = .ok (.ret (.bool true)) ∧ OldK s₁.heap s'.heap ∧ s'.os = s₁.os ∧ AllBare s'.gens) s₁ := by
    intro H hS hT hok hA
    have base_of : ∀ {b : Addr} {o : Obj}, s₁.heap.get? b = some o → H b = none → (hidT s₁.heap H).get? b = some o := fun e n => hidT_get e n
    have noH : ∀ {b : Addr} {o : Obj}, s₁.heap.get? b = some o → o.cls ≠ .type "list" → (∀ vs, o.data ≠ .fields vs) → H b = none := fun {b o} e d1 d2 => by
      cases q : H b with
      | none => rfl
      | some u =>
        rcases hA b u q with ⟨rfl, _⟩ | ⟨p, hp, rfl, _⟩
        · rw [ha] at e; cases e; exact absurd rfl d1
        · rw [ht p hp] at e; cases e; exact absurd rfl (d2 _)
    have noA : ∀ {b : Addr} {o : Obj} {es : Array DictEntry} {ep : Nat}, s₁.heap.get? b = some o → o.data = .dict es ep → H b = none := fun {b o es ep} e d => by
      cases q : H b with
      | none => rfl
      | some u =>
        rcases hA b u q with ⟨rfl, _⟩ | ⟨p, hp, rfl, _⟩
        · rw [ha] at e; cases e
          have d' : Data.seq vs.toArray _ = Data.dict es ep := d
          cases d'
        · rw [ht p hp] at e; cases e
          have d' : Data.fields #[] = Data.dict es ep := d
          cases d'
    have nsK : ∀ {b : Addr} {m : Str → Option Value}, s₁.heap.Ns b m → (hidT s₁.heap H).Ns b m := fun {b m} ⟨o, es, ep, e, d, r⟩ => ⟨o, es, ep, base_of e (noA e d), d, r⟩
    have hKb : K.In (hidT s₁.heap H) := fun b o e => base_of (KX b o e) (by
      cases q : H b with
      | none => rfl
      | some u =>
        rcases hA b u q with ⟨rfl, z, _⟩ | ⟨p, hp, rfl, _⟩
        · rw [z] at e; cases e
        · rw [(hk p hp).out] at e; cases e)
    have hM : Mod K mg (hidT s₁.heap H) := ⟨hKb, nsK hns, ⟨mb, nsK hb, hbb⟩, let ⟨mc, h1, h2⟩ := hlim; ⟨mc, nsK h1, h2⟩⟩
    have e0 : Env0 P w K mg (hidT s₁.heap H) callerA [] s₁ H := ⟨rfl, hM, fun b o e => of_hidT e, Nat.le_of_eq (hidT_size _ _), trivial, fun b hb => absurd (show b ∈ ([] : List Addr) from hb) (by simp), hok, .of_eq hg⟩
    have hBM : BMain mg (hidT s₁.heap H) := by
      obtain ⟨bm, ob, b1, b2, b3, b4, b5, b6⟩ := hbm
      refine ⟨bm, ob, b1, b2, fun z => ?_, base_of b3 (noH b3 (by rw [b4]; simp) fun vs z => by rw [b6] at z; cases z), b4, b5, b6⟩
      obtain ⟨o, es, ep, e, d, _⟩ := hns
      rw [← z, b3] at e; cases e
      rw [b6] at d; cases d
    refine codeAny_mono ((F _ hKb (nsK hns) hBM).run callerA [] s₁ H ⟨[.ref a], []⟩ [.ref a] [.ref a] _ _ hr e0 (hbind s₁ (.ref a)) (.cons rfl .nil) (hsp H hS hT)) fun r s' h => ?_
    cases r with
    | error e => exact False.elim h
    | ok fl =>
      cases fl with
      | next => exact False.elim h
      | brk => exact False.elim h
      | cont => exact False.elim h
      | ret u =>
        obtain ⟨v, H', os, bare, un, hok', r', q⟩ := h
        have q' : v = .bl true := q
        subst q'
        obtain rfl : u = Value.bool true := r'
        refine ⟨rfl, ⟨fun b o e => ?_, fun b o e => un.there b o e (by simp)⟩, os, bare⟩
        cases q : H b with
        | none => exact .inl (un.keep b o e q (by intro z; exact absurd (show b ∈ ([] : List Addr) from z) (by simp)) (by simp))
        | some u =>
          rcases hA b u q with ⟨rfl, _, ob, xs, rfl⟩ | ⟨p, hp, rfl, rfl⟩
          · have z2 := un.frzs _ ob _ q
            obtain ⟨e1, _⟩ := hok _ _ q
            obtain ⟨e2, _⟩ := hok' _ _ z2
            rw [e] at e1; cases e1
            exact .inl e2
          · obtain ⟨more, z2⟩ := un.tbls p.2 #[] q
            have e2 : s'.heap.get? p.2 = some (PySem.W.tabObj (#[] ++ more)) := hok' _ _ z2
            obtain ⟨_, _, _, c, _, _, _, _, hcd⟩ := (hk p hp).code
            have hTA := (PySem.W.codeHd_of_K KX hcd).tab (ht p hp)
            rw [ht p hp] at e; cases e
            exact .inr (.inl ⟨hTA.isCodeTable, rfl, #[], more, rfl, e2⟩)
  have nt : ∀ p ∈ ts, p.2 ≠ a := fun p hp z => by
    have := ht p hp
    rw [z, ha] at this; cases this
  cases hka : K.lookup a with
  | some o =>
    have e := KX a o hka
    rw [ha] at e
    cases e
    let H : Hp := fun b => if (ts.map (·.2)).contains b = true then some (.tbl #[]) else none
    have hin : ∀ p ∈ ts, H p.2 = some (.tbl #[]) := fun p hp => if_pos (by simp; exact ⟨p.1, hp⟩)
    refine core H (.inr ⟨_, vs.toArray, _, hka, rfl, rfl, rfl, by rw [List.size_toArray, lenV]; exact hl, by simpa using rv⟩) hin (fun b u z => ?_) fun b u z => ?_
    · by_cases hb : (ts.map (·.2)).contains b = true
      · have z : (if (ts.map (·.2)).contains b = true then some (HO.tbl #[]) else none) = some u := z
        rw [if_pos hb] at z; cases z
        obtain ⟨p, hp, rfl⟩ := List.mem_map.mp (List.contains_iff_mem.mp hb)
        exact ht p hp
      · have z : (if (ts.map (·.2)).contains b = true then some (HO.tbl #[]) else none) = some u := z
        rw [if_neg hb] at z; cases z
    · by_cases hb : (ts.map (·.2)).contains b = true
      · have z : (if (ts.map (·.2)).contains b = true then some (HO.tbl #[]) else none) = some u := z
        rw [if_pos hb] at z; cases z
        obtain ⟨p, hp, rfl⟩ := List.mem_map.mp (List.contains_iff_mem.mp hb)
        exact .inr ⟨p, hp, rfl, rfl⟩
      · have z : (if (ts.map (·.2)).contains b = true then some (HO.tbl #[]) else none) = some u := z
        rw [if_neg hb] at z; cases z
  | none =>
    let H : Hp := fun b => if b = a then some (.frz { cls := .type "list", data := .seq vs.toArray } (.lst (ns.map V.int))) else if (ts.map (·.2)).contains b = true then some (.tbl #[]) else none
    have hin : ∀ p ∈ ts, H p.2 = some (.tbl #[]) := fun p hp => (if_neg (nt p hp)).trans (if_pos (by simp; exact ⟨p.1, hp⟩))
    have hat : H a = some (.frz { cls := .type "list", data := .seq vs.toArray } (.lst (ns.map V.int))) := if_pos rfl
    have hcase : ∀ b u, H b = some u → (b = a ∧ u = .frz { cls := .type "list", data := .seq vs.toArray } (.lst (ns.map V.int))) ∨ ∃ p ∈ ts, b = p.2 ∧ u = .tbl #[] := fun b u z => by
      by_cases hba : b = a
      · subst hba
        rw [hat] at z; cases z
        exact .inl ⟨rfl, rfl⟩
      · have z : (if b = a then some (HO.frz { cls := .type "list", data := .seq vs.toArray } (.lst (ns.map V.int))) else if (ts.map (·.2)).contains b = true then some (HO.tbl #[]) else none) = some u := z
        rw [if_neg hba] at z
        by_cases hb : (ts.map (·.2)).contains b = true
        · rw [if_pos hb] at z; cases z
          obtain ⟨p, hp, rfl⟩ := List.mem_map.mp (List.contains_iff_mem.mp hb)
          exact .inr ⟨p, hp, rfl, rfl⟩
        · rw [if_neg hb] at z; cases z
    refine core H (.inl ⟨_, hat⟩) hin (fun b u z => ?_) fun b u z => ?_
    · rcases hcase b u z with ⟨rfl, rfl⟩ | ⟨p, hp, rfl, rfl⟩
      · exact ⟨ha, by rw [List.length_map]; exact hl, vs, _, rv, ha⟩
      · exact ht p hp
    · rcases hcase b u z with ⟨rfl, rfl⟩ | h
      · exact .inl ⟨rfl, hka, _, _, rfl⟩
      · exact .inr h
/-- the script and the tables as the law finds them -/
theorem script_repT {K : PySem.W.Frag} {H : Hp} {a : Addr} {ns : List Int} {ts : List (Str × Addr)} (hnd : (ts.map (·.2)).Nodup) (hS : FrzL K H a (ns.map V.int)) (hT : ∀ p ∈ ts, H p.2 = some (.tbl #[])) (hk : ∀ p ∈ ts, TabK K p.1 p.2) :
    RepS K (a :: ts.map (·.2)) H (.frz (ns.map D.int) :: ts.map fun p => .tab p.1) := by
  have hv : ∀ (μ : List Addr) (l : List Int), RepVs K μ H (l.map D.int) (l.map V.int) := fun μ l => by
    induction l with
    | nil => exact RepVs.nil
    | cons i l ih => exact RepVs.cons (RepV.int_iff.mpr rfl) ih
  refine ⟨by simp, fun n o e => ?_, fun i j b oi oj ei ej mi mj hi hj => ?_⟩
  · match n, e with
    | 0, e =>
      simp at e; subst e
      exact ⟨a, rfl, _, hS, hv _ ns⟩
    | n + 1, e =>
      rw [List.getElem?_cons_succ, List.getElem?_map] at e
      cases q : ts[n]? with
      | none => rw [q] at e; cases e
      | some p =>
        rw [q] at e; cases e
        have hp := List.mem_of_getElem? q
        refine ⟨p.2, by rw [List.getElem?_cons_succ, List.getElem?_map, q]; rfl, (hk p hp).code, #[], hT p hp, trivial, fun pos cv z => by cases z⟩
  · match i, j, ei, ej, hi, hj with
    | 0, _, ei, _, _, _ => simp at ei; subst ei; cases mi
    | _ + 1, 0, _, ej, _, _ => simp at ej; subst ej; cases mj
    | i + 1, j + 1, _, _, hi, hj =>
      rw [List.getElem?_cons_succ] at hi hj
      have h1 := (List.getElem?_eq_some_iff.mp hi).1
      rw [(List.getElem?_inj h1 hnd).mp (hi.trans hj.symm)]
theorem holds_ofT (ts : List (Str × Addr)) {l : PySem.W.OpenLaw} {k : Nat} {q : Program} {loose : List Str} {XP : (Str → Option Value) → Heap → Prop} {YP : World → Heap → Prop} {d : DefRec} {K : Params → PySem.W.Frag} {F : FD} {x : Str}
    (hn : l.most = some 63) (hdf : d.params.defaults = []) (hr : Room k callerA) (hnd : (ts.map (·.2)).Nodup)
    (hY : ∀ (w : World) (h : Heap), YP w h → (K w.params).In h ∧ ∀ P ∈ ts.map (·.2), h.get? P = some (PySem.W.tabObj #[]))
    (G : ∀ (w : World) (mg : Str → Option Value) (fa : Addr) (h : Heap), (K w.params).In h → h.Ns mainGlobals mg → mg d.name = some (.ref fa) →
      ∃ fd : FuncData, (∀ (s : Shared) (u : Value), BindsTo s fd ⟨[u], []⟩ [(x, u)]) ∧ (∀ p ∈ ts, TabK (K w.params) p.1 p.2) ∧ ∀ base : Heap, (K w.params).In base → base.Ns mainGlobals mg → BMain mg base → FnOk l.prog w (K w.params) mg base CX0 k fa fd [x] (spM (K w.params) 1 F))
    (hF : ∀ ns : List Int, ns.length ≤ 63 → ∃ st, F [.loc 0] (.frz (ns.map D.int) :: ts.map fun p => .tab p.1) = .ok (.bl true) st) :
    PySem.W.WalkO q loose XP YP l.row.toRowW d [] (fun f vs => PySem.call f vs) := by
  refine Att.attach_call hn hdf fun w s₀ s₁ mg mb fa o pm cd doc a vs ns G0 Y ho hd hcd hmg hobj hints hlen hg => ?_
  obtain ⟨KX, hT⟩ := hY w _ Y
  obtain ⟨fd, hb, hk, hF'⟩ := G w mg fa _ KX G0.T.g hmg
  refine law_callT (ts := ts) KX G0.T.g G0.T.b G0.T.builtins G0.T.nolimit hg G0.T.bmain (fun p hp => hT p.2 (List.mem_map.mpr ⟨p, hp, rfl⟩)) hk hobj hints (Nat.le_trans hlen (by decide)) hr hF' hb fun H hS hTb => ?_
  obtain ⟨st, e⟩ := hF ns hlen
  refine ⟨rfl, a :: ts.map (·.2), [.loc 0], _, RepVs.cons (RepV.loc_iff.mpr ⟨a, rfl, rfl⟩) RepVs.nil, script_repT hnd hS hTb hk, ?_⟩
  rw [e]
  exact fun v H' μ' _ _ hv => RepV.bl_iff.mp hv
/-! ### a def that makes lambdas: it knows its own code -/
structure FunT (K : PySem.W.Frag) (x : Str) (st : Stmt) (f : Addr) (fd : FuncData) : Prop where
  ex : ∃ (oc : Value) (od : Option Addr) (dV kV doc pm : Value) (an : Option Addr) (c : Addr) (ct : Value) (osl : Array (Option Value)),
    fd = PySem.W.fnOf x x (defArgs st) (defBody st) (defScope st) dV kV doc pm an (.ref c) ct ∧ K.lookup f = some ⟨oc, od, .func fd, osl⟩ ∧ PySem.W.codeIn K (.ref c) x = true
  ns : PySem.W.nsIn K mainGlobals x = some (some (.ref f))
  kp : PySem.W.keepIn K (.ref f) = true
end M
namespace M
open PySem PySem.Spec L2
end M
namespace M
open L2
/-! ### running lambdas -/
@[simp] theorem isClo_lst (l : List D) : (MO.lst l).isClo = false := rfl
@[simp] theorem isClo_frz (l : List D) : (MO.frz l).isClo = false := rfl
@[simp] theorem isClo_tab (x : PySem.Str) : (MO.tab x).isClo = false := rfl
@[simp] theorem isClo_dic (l : List (List Key × D)) : (MO.dic l).isClo = false := rfl
@[simp] theorem isClo_dkc (l : List (Key × D)) : (MO.dkc l).isClo = false := rfl
@[simp] theorem isClo_dkf (l : List (Key × D)) : (MO.dkf l).isClo = false := rfl
@[simp] theorem isClo_exc (c : String) (d : D) : (MO.exc c d).isClo = false := rfl
@[simp] theorem isClo_dtf (l : List (List Key × D)) : (MO.dtf l).isClo = false := rfl
end M
namespace M
open PySem PySem.Spec L2
section
variable {X : Cx} {elt tg iter c : Expr} {ifs : List Expr} {scope : Scope} {pos : Pos} {N : List Str} {capt : List (Option Nat)} {mi : MI} {g : MG} {t : MT} {me : ME}
end
end M
namespace L2
open PySem PySem.Spec PyProof.Rows
/-! ### enumerate(text), of signs below 128 -/
def Ites (x : Str) : It :=
  ⟨fun i _ => i < x.cps.size,
   fun i H y H' => ∃ p c, H p = none ∧ y = .ref p ∧ x.cps[i]? = some c ∧ H' = upd H p (.tup [.int i, .str ⟨#[c]⟩]),
   fun i _ => x.cps.size ≤ i⟩
theorem turn_enumS {P : Program} {w : World} {K : PySem.W.Frag} {elts : List Expr} {x1 : Nat} {pos : Pos} (x : Str) (t : Tok) (e it : Addr) (hne : e ≠ it) :
    Turn P w K (.Tuple elts x1 pos) (Ites x) [e, it] e (fun i h => i ≤ x.cps.size ∧ ∃ old, IsEnum h e it (i : Int) old ∧ h.IsStrIter it "str_ascii_iterator" x t i) where
  mem := by simp
  obj := fun i h st b hb => by
    obtain ⟨_, old, h1, h2⟩ := st
    rcases List.mem_cons.mp hb with rfl | hb
    · exact ⟨_, h1, fun v z => by cases z⟩
    · have e : b = it := by simpa using hb
      subst e
      obtain ⟨o, q, c, d⟩ := h2
      exact ⟨o, q, fun v z => by rw [d] at z; cases z⟩
  keep := fun i h h' st k => by
    obtain ⟨h0, old, h1, h2⟩ := st
    refine ⟨h0, old, k e (by simp) _ h1, ?_⟩
    obtain ⟨o, q, c, d⟩ := h2
    exact ⟨o, k it (by simp) o q, c, d⟩
  item := by
    intro X hP hw hK hc i pins s σ H E I hf st hg
    subst hP hw hK
    obtain ⟨_, old, h1, h2⟩ := st
    have hi : i < x.cps.size := hg
    have D := Draws.strAscii (prog := X.prog) (w := X.w) (A := X.A.in1) (I.ok.hd hc) it x t
    refine wpAny_pyNext_enum_itemD D h1 h2 hi hne (by simpa using hne) fun u h₁ tk hPu heo hit ht hsz hk => ?_
    refine ⟨_, rfl, wpAny_letOwnedTupleGo_enum heo fun h₂ he₂ hs₂ => ?_⟩
    replace hs₂ : Heap.SameBut e h₁ h₂ := hs₂
    have hlt : e < s.heap.objs.size := Heap.lt_size h1
    have itlt : it < s.heap.objs.size := by obtain ⟨o, q, _⟩ := h2; exact Heap.lt_size q
    have ht2 : h₂.get? s.heap.objs.size = some { cls := .type "tuple", data := .seq #[.int i tk, u] } := by rw [hs₂.2 _ (Nat.ne_of_gt hlt)]; exact ht
    have kk : ∀ b ob, b ∉ [e, it] → s.heap.get? b = some ob → h₂.get? b = some ob := fun b ob hb q => by
      have b1 : b ≠ e := fun z => hb (by simp [z])
      have b2 : b ≠ it := fun z => hb (by simp [z])
      exact hs₂.extBut b ob b1 (hk b ob b1 b2 q)
    obtain ⟨c, t2, hcx, rfl⟩ := hPu
    refine ⟨.ref s.heap.objs.size, upd H s.heap.objs.size (.tup [.int i, .str ⟨#[c]⟩]), I.turnLay hf kk (Nat.le_refl _) ?_, rfl, ⟨_, c, I.hok.fresh (Nat.le_refl _), rfl, hcx, rfl⟩, ?_, fun b hb => ?_⟩
    · refine ⟨by show 2 ≤ sizeLine; decide, [.int i tk, .str ⟨#[c]⟩ t2], .cons ⟨_, rfl⟩ (.cons ⟨_, rfl⟩ .nil), ?_⟩
      exact ⟨_, ht2, rfl, _, rfl⟩
    · refine ⟨hi, .str ⟨#[c]⟩ t2, ?_, ?_⟩
      · have : ((i : Nat) : Int) + 1 = ((i + 1 : Nat) : Int) := by omega
        rw [← this]; exact he₂
      · obtain ⟨o, q, c, d⟩ := hit
        exact ⟨o, hs₂.extBut it o (Ne.symm hne) q, c, d⟩
    · rw [upd_ne]
      · exact (hf b hb).1
      · intro z; subst z
        rcases List.mem_cons.mp hb with z | z
        · exact Nat.ne_of_gt hlt z
        · exact Nat.ne_of_gt itlt (by simpa using z)
  done := by
    intro X hP hw hK hc i pins s σ H E I hf st hg
    subst hP hw hK
    obtain ⟨h0, old, h1, h2⟩ := st
    have hi : x.cps.size ≤ i := hg
    have hii : i = x.cps.size := by omega
    subst hii
    have D := Draws.strAscii (prog := X.prog) (w := X.w) (A := X.A.in1) (I.ok.hd hc) it x t
    exact wpAny_pyNext_enum_endD D h1 h2 fun h' eb => ⟨rfl, I.turns (t' := s.toks) (ch := [e, it]) hf fun b o hb q => eb b o (fun z => hb (by simp [z])) q⟩
  self := fun _ _ _ _ _ st h => by
    obtain ⟨_, old, h1, h2⟩ := st
    exact wpAny_pyIter_enum h1 h
def iEnumS (ta : TA) : TI := fun σ H R => ta σ H fun vs H1 => ∃ x, vs = [.str x] ∧ strIterType x = "str_ascii_iterator" ∧ R (Ites x) H1
theorem pi_enumS {X : Cx} {elts : List Expr} {x1 : Nat} {tpos : Pos} {a : Expr} {ta : TA} {p pos : Pos} (hg : Gl X "enumerate") (hm : X.mg "enumerate" = none) (ha : PA X [a] ta) (hs : starEach [a] X.env = [(false, eval a X.env)] := by rfl) :
    PI X (.Tuple elts x1 tpos) (.Call (.Name "enumerate" p) [a] [] pos) (iEnumS ta) := by
  intro pins s σ H R I h
  refine Call_ (ld_blt I hg hm boot_enum (PyProof.Rows.callWith_type1 (thn (ha pos pins s σ H _ I h) fun us s1 ⟨vs, H1, I1, r1, q1⟩ => ?_) hs rfl))
  obtain ⟨x, e, hq, q⟩ := q1
  subst e
  cases r1 with
  | cons r rr =>
    cases rr
    obtain ⟨t, rfl⟩ := r
    refine call_enumerate_str fun h' he hit hsz hk => ?_
    rw [hq] at hit
    refine wpAny_pyIter_enum he ?_
    have I2 : Inv X pins σ H1 { s1 with heap := h' } := I1.kept (t' := s1.toks) hk
    refine ⟨s1.heap.objs.size + 1, [s1.heap.objs.size + 1, s1.heap.objs.size], _, _, H1, rfl, I2, turn_enumS x t _ _ (Nat.ne_of_gt (Nat.lt_succ_self _)), ⟨Nat.zero_le _, .none, he, hit⟩, fun b hb => ?_, q⟩
    have hb' : s1.heap.objs.size ≤ b := by
      rcases List.mem_cons.mp hb with z | z
      · rw [z]; exact Nat.le_succ _
      · have : b = s1.heap.objs.size := by simpa using z
        rw [this]; exact Nat.le_refl _
    exact I1.fpOk hb' (I1.hok.fresh hb')
end L2
namespace M
open PySem PySem.Spec L2
section
variable {X : Cx} {a : Expr} {mA : MA} {μ : List Addr} {H : Hp} {p pos tpos : Pos}
def enumSI (mA : MA) : MI := fun env st => (mA env st).bind fun ds st1 => match ds with
  | [.str cs] => if cs.all (fun c => decide (c < 128)) = true then .ok (enumL 0 (cs.map fun c => D.str [c]), []) st1 else .bad
  | _ => .bad
@[simp] theorem r_enumSI (env : MEnv) (st : Stor) : enumSI mA env st = (mA env st).bind fun ds st1 => match ds with
  | [.str cs] => if cs.all (fun c => decide (c < 128)) = true then .ok (enumL 0 (cs.map fun c => D.str [c]), []) st1 else .bad
  | _ => .bad := by_rfl rfl
theorem ites_rep (cs : List Nat) : ItRep X μ H (Ites (strOf cs)) (enumL 0 (cs.map fun c => D.str [c]), []) := by
  intro H' μ' st' g hs ok
  refine ⟨fun i d e => ?_, by show (strOf cs).cps.size ≤ _; rw [enumL_len]; simp⟩
  obtain ⟨y, e1, rfl⟩ := enum_get e
  rw [List.getElem?_map] at e1
  obtain ⟨c, e2, rfl⟩ := Option.map_eq_some_iff.mp e1
  refine ⟨by show i < (strOf cs).cps.size; simpa using (List.getElem?_eq_some_iff.mp e2).1, ?_⟩
  rintro x H'' ⟨pp, c', hn, rfl, hc, rfl⟩
  have : c' = c := by
    have h2 : cs[i]? = some c' := by simpa using hc
    rw [e2] at h2; exact (Option.some.inj h2).symm
  subst this
  refine ⟨Grow.lay hn, hs.lay hn, RepV.tup_iff.mpr ⟨pp, _, rfl, .inl upd_same, ?_⟩⟩
  exact RepVs.cons (RepV.int_iff.mpr rfl) (RepVs.cons (RepV.str_iff.mpr rfl) RepVs.nil)
theorem ji_enumS {elts : List Expr} {x1 : Nat} (ha : JA X [a] mA) (hg : Gl X "enumerate") (hm : X.mg "enumerate" = none) (hs : starEach [a] X.env = [(false, eval a X.env)] := by rfl) : JI X (.Tuple elts x1 tpos) (.Call (.Name "enumerate" p) [a] [] pos) (enumSI mA) := by
  refine JI.of (pi_enumS hg hm ha hs) fun σ H R ⟨μ, env, st, hE, hs, hp⟩ => ⟨μ, env, st, hE, hs, (Post.bind hp).imp ?_⟩
  rintro vs H1 ⟨μ1, st1, ds, g1, hs1, hv, hp1⟩
  dsimp only at hp1
  split at hp1
  · rename_i cs
    split at hp1
    · rename_i hc
      obtain ⟨v, rfl, q1⟩ := RepVs.one hv
      obtain rfl := RepV.str_iff.mp q1
      refine ⟨strOf cs, rfl, ?_, hp1 _ _ _ (.refl _ _) hs1 (ites_rep cs)⟩
      unfold strIterType
      rw [if_pos]
      show (cs.toArray.all _) = true
      rw [List.all_toArray]; exact hc
    · exact hp1.elim
  · exact hp1.elim
end
end M
namespace M
open PySem PySem.Spec PySem.SeqAt L2
/-! ### tuples of the module's top -/
section
variable {X : Cx} {pos : Pos} {x : Str} {L : Nat}
/-! ### x in a list of flat things -/
end
end M
namespace M
open PySem PySem.Spec L2
/-! ### a, b = a list -/
section
variable {prog : Program} {w : World} {A : Around} {E : Value → Shared → Prop} {s : Shared}
end
section
variable {X : Cx} {es : List Expr} {pos : Pos}
end
end M
namespace M
open L2
end M
namespace M
open PySem PySem.Spec L2
section
variable {X : Cx}
end
end M
namespace M
open L2
/-! ### dicts whose keys are ints and texts -/
end M
namespace M
open PySem PySem.Spec L2
section
variable {X : Cx} {K : PySem.W.Frag} {μ : List Addr} {H : Hp}
end
section
variable {X : Cx} {a b o i : Expr} {ma mb : ME} {pos : Pos}
/-! displays -/
end
end M
namespace M
open PySem PySem.Spec PySem.SeqAt L2
/-- ==, where lists of different lengths may hold what they will -/
def eqNV (L : Nat) : D → D → Stor → R D
  | .loc m, .loc n, st => match itemsAt st m, itemsAt st n with
    | some a, some b => if a.length = b.length then eqV L (.loc m) (.loc n) st else if 1 < L then .ok (.bl false) st else .bad
    | _, _ => .bad
  | d1, d2, st => eqV L d1 d2 st
theorem r_eqNV_nil (L m n : Nat) (ds : List D) (st : Stor) (h1 : itemsAt st m = some ds) (h2 : itemsAt st n = some []) (hL : 1 < L) : eqNV L (.loc m) (.loc n) st = .ok (.bl ds.isEmpty) st := by
  unfold eqNV
  simp only [h1, h2]
  cases ds with
  | nil =>
    have e : eqR L (.loc m) (.loc n) st = some true := by
      simp only [eqR, h1, h2]
      rw [if_pos ⟨by simp, by simp, by simp; omega⟩]
      simp [eqDs]
    rw [if_pos rfl]
    unfold eqV; rw [e]; rfl
  | cons d ds =>
    rw [if_neg (by simp), if_pos hL]; rfl
theorem op_eqNV {X : Cx} {L : Nat} (hu : X.A.units + L < cLine) : OpR X (compareOp .Eq) (rM X (eqNV L)) := by
  rintro pins s σ H x y v u Q I rx ry ⟨μ, st, dx, dy, hs, hx, hy, hp⟩
  have old : Post X μ H (relV X) Q (eqV L dx dy st) → wpAny (model X.prog X.w) X.A (compareOp .Eq v u) (EP X pins σ Q) X.xe s := fun hp => op_eqV hu pins s σ H x y v u Q I rx ry ⟨μ, st, dx, dy, hs, hx, hy, hp⟩
  by_cases hll : ∃ m n, dx = .loc m ∧ dy = .loc n
  · obtain ⟨m, n, rfl, rfl⟩ := hll
    simp only [eqNV] at hp
    cases e1 : itemsAt st m with
    | none => rw [e1] at hp; exact hp.elim
    | some as =>
      cases e2 : itemsAt st n with
      | none => rw [e1, e2] at hp; exact hp.elim
      | some bs =>
        rw [e1, e2] at hp
        dsimp only at hp
        split at hp
        · exact old hp
        · rename_i hl
          split at hp
          · rename_i h1L
            obtain ⟨p, q1, rfl⟩ := RepV.loc_iff.mp hx
            obtain ⟨p', xs, g1, g2, g3⟩ := hs.items e1
            rw [q1] at g1; cases g1
            obtain ⟨q, q2, rfl⟩ := RepV.loc_iff.mp hy
            obtain ⟨q', ys, k1, k2, k3⟩ := hs.items e2
            rw [q2] at k1; cases k1
            cases (show v = Value.ref p from rx)
            cases (show u = Value.ref q from ry)
            obtain ⟨its, ra, pl, _⟩ := I.list g2
            obtain ⟨its2, rb, pl2, _⟩ := I.list k2
            have la : as.length = its.toArray.size := by rw [List.size_toArray, g3.length, ra.length]
            have lb : bs.length = its2.toArray.size := by rw [List.size_toArray, k3.length, rb.length]
            have hl' : (its.toArray.size != its2.toArray.size) = true := by rw [← la, ← lb]; simpa using hl
            exact RcAt.lists_lengths pl.isList pl2.isList hl' (by omega) X.prog X.w X.xe _ ⟨.bl false, H, I, rfl, hp.ret hs (RepV.bl_iff.mpr rfl)⟩
          · exact hp.elim
  · refine old ?_
    have e : eqNV L dx dy st = eqV L dx dy st := by
      unfold eqNV
      split
      · exact absurd ⟨_, _, rfl, rfl⟩ hll
      · rfl
    rwa [e] at hp
end M
namespace L2
open PySem PySem.Spec PyProof.Rows
/-! ### for k in d (a dict with plain keys) -/
end L2
namespace M
open PySem PySem.Spec L2
section
variable {X : Cx} {tg l a b : Expr} {ml ma mb : ME} {μ : List Addr} {H : Hp} {K : PySem.W.Frag} {st : Stor} {pos : Pos}
end
end M
namespace L2
open PySem PySem.Spec PyProof.Rows
/-! ### the module's dicts: their keys are walked -/
end L2
namespace L2
open PySem PySem.Spec PyProof.Rows
/-! ### l.extend(t), t a tuple -/
end L2
namespace M
open PySem PySem.Spec L2
end M
namespace M
open PySem PySem.Spec L2
/-! ### the module's dicts, whose keys are texts -/
/-- the module's dict at a: its keys and values -/
def keyT (tb : List (List Nat × D)) : List (Key × D) := tb.map fun p => (Sum.inr (strOf p.1), p.2)
structure DictK (w : World) (K : PySem.W.Frag) (a : Addr) (tb : List (List Nat × D)) : Prop where
  low : (a == sysModules) = false
  at_ : ∀ P : Program, ∃ (kvs : List (Key × V)) (vs : List (Key × Value)) (ep : Nat), (∀ μ H, RepKV K μ H (keyT tb) kvs) ∧ KV kvs vs ∧ ∀ h : Heap, K.In h → h.DictAt (mixKind P w) a vs ep
/-- the rows of such a dict -/
inductive Rws (K : PySem.W.Frag) (w : World) : List DictEntry → List (List Nat × D) → Prop
  | nil : Rws K w [] []
  | i {h : Int} {x : Str} {t u : Tok} {cs : List Nat} {n : Int} {es : List DictEntry} {tb : List (List Nat × D)} (hx : x = strOf cs) (hh : h = keyH w (.inr x)) (r : Rws K w es tb) : Rws K w (⟨h, .str x t, .int n u⟩ :: es) ((cs, .int n) :: tb)
section
variable {X : Cx} {tg b : Expr} {mb : ME} {pos pos' : Pos} {x : Str} {tb : List (List Nat × D)}
end
end M
namespace M
open PySem PySem.Spec PySem.SeqAt L2
/-! ### i << j -/
/-! ### dict(d), d != e: dicts with text keys and flat values -/
section
variable {X : Cx} {L : Nat}
end
end M
namespace M
open PySem PySem.Spec L2
/-! ### figures: str(i), int(text) of numbers from 0 to 999; G.get(k) of the module's dicts -/
/-! sound -/
section
variable {X : Cx} {b : Expr} {mb : ME} {x : Str} {tb : List (List Nat × D)} {cpos apos pos' : Pos}
end
end M
namespace L2
open PySem PySem.Spec PyProof.Rows
/-! ### len(d), d's keys tuples -/
section
variable {prog : Program} {w : World} {A : Around} {E : Value → Shared → Prop} {s : Shared} {d : Addr} {o : Obj} {es : Array DictEntry} {ep : Nat}
end
end L2
namespace M
open PySem PySem.Spec L2
/-! ### what a call that changes old objects leaves -/
section
variable {K : PySem.W.Frag} {μ ν : List Addr} {H H' : Hp} {st st' : Stor}
end
/-! ### instances of the module's own classes -/
/-! sound -/
section
variable {X : Cx} {K : PySem.W.Frag} {μ : List Addr} {H : Hp} {e o a b value : Expr} {es : List Expr} {me mo mv ma mb : ME} {mA : MA} {pos pos' apos p : Pos} {c f m x : Str} {C g : Addr} {F : FD} {fd : FuncData} {ps : List Str} {k : Nat}
end
end M
namespace M
open PySem
def clsBody : Stmt → List Stmt
  | .ClassDef _ _ _ body _ _ _ _ _ _ _ => body
  | _ => []
end M
namespace L2
open PySem PySem.Spec PyProof.Rows
end L2
namespace M
open PySem PySem.Spec L2
end M
namespace L2
open PySem PySem.Spec PyProof.Rows
/-! ### for k in d, d's keys being tuples -/
section
variable {P : Program} {w : World} {A : Around} {E : Value → Shared → Prop} {s : Shared} {d it : Addr} {od : Obj} {es : Array DictEntry} {i ep : Nat}
end
end L2
namespace M
open PySem PySem.Spec L2
section
variable {X : Cx} {tg l a b : Expr} {ml ma mb : ME} {μ : List Addr} {H : Hp} {K : PySem.W.Frag} {st : Stor} {pos : Pos}
end
end M
namespace L2
open PySem PySem.Spec PyProof.Rows
/-! ### an exception that is on its way -/
section
variable {X : Cx} {pins : List (Addr × Obj)} {σ : St} {H : Hp} {s : Shared} {h' : Heap} {lo : Nat} {e C dx : Addr} {E : Value → Shared → Prop}
/-- things that no one knows change -/
theorem Inv.chg {ch : List Addr} {t' : Nat} (I : Inv X pins σ H s) (hpn : ∀ p ∈ X.pn ++ pins, p.1 < lo) (hlo : X.s₀.heap.objs.size ≤ lo) (hc : ∀ b ∈ ch, lo ≤ b ∧ H b = none ∧ ∃ o vs, s.heap.get? b = some o ∧ o.data = .fields vs)
    (k : ∀ b o, s.heap.get? b = some o → b ∉ frs X.stack → b ∉ ch → h'.get? b = some o) (sl : ∀ b o, s.heap.get? b = some o → b ∈ frs X.stack → ∃ sl, h'.get? b = some { o with slots := sl }) : Inv X pins σ H { s with heap := h', toks := t' } := by
  have nk : ∀ b u, H b = some u → b ∉ frs X.stack ∧ b ∉ ch := fun b u q => ⟨fun z => (by rw [I.stkFree b z] at q; cases q), fun z => (by rw [(hc b z).2.1] at q; cases q)⟩
  have un : Un (frs X.stack) ch H H s.heap h' := by
    refine ⟨fun b o q _ hb hx => k b o q hb hx, fun b o q _ hb _ => sl b o q hb, fun b o _ q _ => q, fun b o q hx => ?_, fun _ _ q => q, fun _ _ _ q => q, fun b ps q => ⟨#[], by rw [q]; simp⟩⟩
    by_cases hb : b ∈ frs X.stack
    · obtain ⟨z, q2⟩ := sl b o q hb; exact ⟨_, q2⟩
    · exact ⟨o, k b o q hb hx⟩
  have hok : HOk X.prog X.w H h' := fun a o q => (I.hok a o q).stay (fun b u hb hu => by
    have : b ∉ frs X.stack ∧ b ∉ ch := by
      rcases hb with rfl | hb
      · exact nk _ _ q
      · exact nk _ _ hb
    exact k b u hu this.1 this.2) (fun _ q => q) (fun _ _ q => q)
  refine I.call (g' := s.gens) (d' := s.drawn) (ch := ch) un hok I.bare fun b hb => ?_
  obtain ⟨h1, h2, o, vs, h3, h4⟩ := hc b hb
  refine ⟨.inr (Nat.le_trans hlo h1), fun z => ?_, fun x c hx z => ?_, fun p hp z => Nat.lt_irrefl _ (Nat.lt_of_lt_of_le (hpn p hp) (by rw [z]; exact h1))⟩
  · obtain ⟨m, ⟨o', es, ep, ho', hd', _⟩, _⟩ := I.loc
    rw [z, ho'] at h3; cases h3; rw [hd'] at h4; cases h4
  · obtain ⟨v, o', ho', hd'⟩ := I.cell x c hx
    rw [z, h3] at ho'; cases ho'; rw [hd'] at h4; cases h4
theorem dict_mapF (o : Obj) (f) : (o.mapFields f).dict = o.dict := by
  obtain ⟨c, d, dt, sl⟩ := o; cases dt <;> rfl
/-- where the frame is the one that runs -/
structure Own (X : Cx) : Prop where
  stk : X.stack = X.env :: X.outer
  frm : X.env.frame = some X.env.locals
  pn : X.pn = []
/-- a new entry is laid -/
theorem entry_x {head : Value} {hn : Bool} {Q : Unit → Shared → Prop} {oe : Obj} {vs : Array Value} (I : Inv X pins σ H s) (W : Own X) (hpn : ∀ p ∈ X.pn ++ pins, p.1 < lo) (hlo : X.s₀.heap.objs.size ≤ lo) (h1 : lo ≤ e) (h2 : H e = none) (ho : s.heap.get? e = some oe) (hc : oe.cls = .ref C) (hdx : oe.dict = some dx) (hd : oe.data = .fields vs) (hz : 1 < vs.size)
    (hlo2 : lo ≤ s.heap.objs.size)
    (hQ : ∀ h', Inv X pins σ H { s with heap := h' } → Xo lo e C dx (some (rawInt X.env.locals)) H h' → Q () { s with heap := h' }) :
    wpAny (model X.prog X.w) X.A (do let a ← frameOf X.env; let pl ← entryPlaceOf X.env.locals hn; let b ← EntryCells.newEntry head a .none (rawInt X.env.locals) .none pl; setField (.ref e) 1 b) Q E s := by
  have hfr : X.A.frames = some (X.env :: X.outer) := by rw [I.ok.frames, W.stk]
  have hl : s.heap.FunFrames X.base (X.env :: X.outer) := by have := I.stack; rwa [W.stk] at this
  have hene : e ∉ frs X.stack := fun hm => by
    rw [W.stk] at hm
    obtain ⟨_, o, ho', hnf⟩ := hl.mem hm
    rw [ho] at ho'; cases ho'; exact hnf vs hd
  refine wpAny_bind (wpAny_frameOf_fun hfr hl W.frm fun g1 so => ?_)
  refine wpAny_bind (wpAny_entryPlaceOf fun pl hpl => ?_)
  unfold EntryCells.newEntry newFields
  refine wpAny_bind (wpAny_newObj_type ?_ (hpl.sizeOk5 _ _ _ _ _))
  generalize htb : ({ cls := .type "traceback", dict := none, data := .fields ([head, Value.ref X.env.locals, .none, rawInt X.env.locals, .none] ++ (if pl.isEmpty then List.replicate 6 Value.none else pl)).toArray } : Obj) = tb
  have so2 : ∀ b, b ∉ frs X.stack → g1.get? b = s.heap.get? b := fun b hb => so.2.1 b (by rw [W.stk] at hb; exact hb)
  have he1 : g1.get? e = some oe := (so2 e hene).trans ho
  have he2 := Heap.get?_push_of_some (h := g1) tb he1
  refine wpAny_setField he2 hd hz ?_
  have hT : g1.objs.size ≠ e := Nat.ne_of_gt (Heap.lt_size he1)
  have hgs : g1.objs.size = s.heap.objs.size := so.1
  have old : ∀ b o, b ≠ e → g1.get? b = some o → ((g1.push tb).update e (Obj.mapFields (·.setIfInBounds 1 (Value.ref g1.objs.size)))).get? b = some o := fun b o hb q => by
    rw [Heap.get?_update_other _ _ (Ne.symm hb)]; exact Heap.get?_push_of_some _ q
  refine hQ _ (I.chg (lo := lo) (ch := [e]) (t' := s.toks) hpn hlo (fun b hb => ?_) (fun b o q hb hx => ?_) fun b o q hb => ?_) ⟨h1, h2, _, _, Heap.get?_update_self _ he2 (Obj.isFreed_of_fields (Obj.data_mapFields hd _)), (Obj.cls_mapFields _ _).trans hc, (dict_mapF _ _).trans hdx, Obj.data_mapFields hd _, by simpa using hz, g1.objs.size, tb, _, by simp [hz], by omega, hT, I.hok.fresh (by omega), ?_, by rw [← htb], ?_⟩
  · have : b = e := by simpa using hb
    subst this
    exact ⟨h1, h2, oe, vs, ho, hd⟩
  · exact old b o (by simpa using hx) (by rw [so2 b hb]; exact q)
  · obtain ⟨z, q2⟩ := so.2.2 b o q
    exact ⟨z, old b _ (fun z => hene (z ▸ hb)) q2⟩
  · rw [Heap.get?_update_other _ _ (Ne.symm hT)]
    exact Heap.get?_push_size g1 (by rw [← htb]; rfl)
  · rcases hpl with rfl | ⟨_, _, _, _, _, _, _, rfl⟩ <;> simp
/-- an entry is written -/
theorem flight_x {v : Value} {fr : Option Addr} {Q : Unit → Shared → Prop} (I : Inv X pins σ H s) (W : Own X) (hpn : ∀ p ∈ X.pn ++ pins, p.1 < lo) (hlo : X.s₀.heap.objs.size ≤ lo) (x : Xo lo e C dx (some v) H s.heap)
    (hQ : ∀ h', Inv X pins σ H { s with heap := h' } → Xo lo e C dx (some (fr.elim .none fun f => rawInt f)) H h' → Q () { s with heap := h' }) : wpAny (model X.prog X.w) X.A (setFlight (.ref e) fr) Q E s := by
  obtain ⟨h1, h2, oe, vs, ho, hc, hdx, hd, hz, T, oT, ts, k1, k2, k3, k4, k5, k6, k7⟩ := x
  have hz3 : 3 < ts.size := (Array.getElem?_eq_some_iff.mp k7).1
  unfold setFlight
  refine wpAny_bind (wpAny_field ho hd k1 ?_)
  rw [if_pos (show (Value.ref T != Value.none) = true by simp)]
  refine wpAny_setField k5 k6 hz3 ?_
  have nf : T ∉ frs X.stack := fun hm => by
    obtain ⟨_, o, ho', hnf⟩ := I.stack.mem hm
    rw [k5] at ho'; cases ho'; exact hnf ts k6
  refine hQ _ (I.chg (lo := lo) (ch := [T]) (t' := s.toks) hpn hlo (fun b hb => ?_) (fun b o q hb hx => ?_) fun b o q hb => ?_) ⟨h1, h2, oe, vs, ?_, hc, hdx, hd, hz, T, _, _, k1, k2, k3, k4, Heap.get?_update_self _ k5 (Obj.isFreed_of_fields (Obj.data_mapFields k6 _)), Obj.data_mapFields k6 _, by simp [hz3]⟩
  · have : b = T := by simpa using hb
    subst this
    exact ⟨k2, k4, oT, ts, k5, k6⟩
  · rw [Heap.get?_update_other _ _ (fun z => hx (by simp [← z]))]; exact q
  · have ne : T ≠ b := fun z => nf (by rw [z]; exact hb)
    exact ⟨o.slots, by rw [Heap.get?_update_other _ _ ne]; exact q⟩
  · rw [Heap.get?_update_other _ _ k3]; exact ho
/-- the frame is noted -/
theorem note_x {fl : Option Value} {Q : Unit → Shared → Prop} (I : Inv X pins σ H s) (W : Own X) (hpn : ∀ p ∈ X.pn ++ pins, p.1 < lo) (hlo : X.s₀.heap.objs.size ≤ lo) (x : Xo lo e C dx fl H s.heap)
    (hQ : ∀ h', Inv X pins σ H { s with heap := h' } → Xo lo e C dx (some (rawInt X.env.locals)) H h' → Q () { s with heap := h' }) : wpAny (model X.prog X.w) X.A (noteFrame (.ref e) X.env) Q E s := by
  have hsz : lo ≤ s.heap.objs.size := by
    obtain ⟨h1, _, oe, _, ho, _⟩ := x
    exact Nat.le_of_lt (Nat.lt_of_le_of_lt h1 (Heap.lt_size ho))
  unfold noteFrame
  simp only [W.frm]
  cases fl with
  | none =>
    obtain ⟨h1, h2, oe, vs, ho, hc, hdx, hd, hz, h0⟩ := x
    refine wpAny_bind (wpAny_field ho hd h0 ?_)
    rw [if_neg (by decide)]
    exact entry_x I W hpn hlo h1 h2 ho hc hdx hd hz hsz hQ
  | some v =>
    obtain ⟨h1, h2, oe, vs, ho, hc, hdx, hd, hz, T, oT, ts, k1, k2, k3, k4, k5, k6, k7⟩ := id x
    refine wpAny_bind (wpAny_field ho hd k1 ?_)
    rw [if_pos (show (Value.ref T != Value.none) = true by simp)]
    refine wpAny_bind (wpAny_field k5 k6 k7 ?_)
    by_cases hv : (v == rawInt X.env.locals) = true
    · rw [if_pos hv]
      have hv2 : v = rawInt X.env.locals := by simpa using hv
      rw [hv2] at x
      exact wpAny_pure (hQ s.heap I x)
    · rw [if_neg hv]
      have hz3 : 3 < ts.size := (Array.getElem?_eq_some_iff.mp k7).1
      refine wpAny_bind (wpAny_setField k5 k6 hz3 ?_)
      have nf : T ∉ frs X.stack := fun hm => by
        obtain ⟨_, o, ho', hnf⟩ := I.stack.mem hm
        rw [k5] at ho'; cases ho'; exact hnf ts k6
      have I2 : Inv X pins σ H { s with heap := s.heap.update T (Obj.mapFields (·.setIfInBounds 3 Value.none)) } := I.chg (lo := lo) (ch := [T]) (t' := s.toks) hpn hlo (fun b hb => by
        have : b = T := by simpa using hb
        subst this
        exact ⟨k2, k4, oT, ts, k5, k6⟩) (fun b o q hb hx => by rw [Heap.get?_update_other _ _ (fun z => hx (by simp [← z]))]; exact q) (fun b o q hb => ⟨o.slots, by
          have ne : T ≠ b := fun z => nf (by rw [z]; exact hb)
          rw [Heap.get?_update_other _ _ ne]; exact q⟩)
      exact entry_x (s := { s with heap := s.heap.update T (Obj.mapFields (·.setIfInBounds 3 Value.none)) }) I2 W hpn hlo h1 h2 (by rw [Heap.get?_update_other _ _ k3]; exact ho) hc hdx hd hz (by rw [Heap.size_after_update]; exact hsz) hQ
end
end L2
namespace L2
open PySem PySem.Spec PyProof.Rows
/-! ### exceptions that leave a def -/
theorem Xo.low {lo lo' : Nat} {e C dx : Addr} {fl : Option Value} {H : Hp} {h : Heap} (hl : lo' ≤ lo) (x : Xo lo e C dx fl H h) : Xo lo' e C dx fl H h := by
  obtain ⟨h1, h2, oe, vs, ho, hc, hdx, hd, hz, r⟩ := x
  refine ⟨Nat.le_trans hl h1, h2, oe, vs, ho, hc, hdx, hd, hz, ?_⟩
  cases fl with
  | none => exact r
  | some v =>
    obtain ⟨T, oT, ts, k1, k2, k⟩ := r
    exact ⟨T, oT, ts, k1, Nat.le_trans hl k2, k⟩
/-- how an exception lies behind a call: its object, its class at C, its dict at dx -/
def CXM (P : Program) (w : World) : CXT := fun outer H s E ev s' =>
  ∃ e C dx v H', ev = .ref e ∧ s'.os = s.os ∧ AllBare s'.gens ∧ Un (frs outer) [] H H' s.heap s'.heap ∧ HOk P w H' s'.heap ∧ H' dx = some (.xd [("at", v)]) ∧ Xo s.heap.objs.size e C dx (some .none) H' s'.heap ∧ E (.ref C) (some dx) H'
/-- what is wanted of an exception while the def still runs -/
def Rz (X : Cx) (W : Addr → Addr → Hp → Prop) : Value → Shared → Prop := fun ev s' =>
  ∃ e C dx v fl lo σ H, ev = .ref e ∧ X.s₀.heap.objs.size ≤ lo ∧ Inv X [] σ H s' ∧ Xo lo e C dx fl H s'.heap ∧ H dx = some (.xd [("at", v)]) ∧ W C dx H
theorem Inv.nopins {X : Cx} {pins : List (Addr × Obj)} {σ : St} {H : Hp} {s : Shared} (I : Inv X pins σ H s) : Inv X [] σ H s := I.pins_of fun p hp => absurd hp (by simp)
section
variable {X : Cx} {W : Addr → Addr → Hp → Prop} {P : Program} {w : World}
theorem Rz.passes (O : Own X) : PassesOwn (model X.prog X.w) X.A X.env (Rz X W) := by
  rintro ev s' ⟨e, C, dx, v, fl, lo, σ, H, rfl, hlo, I, x, hdx, hW⟩
  unfold notedBy
  refine note_x I O (by rw [O.pn]; simp) hlo x fun h1 I1 x1 => ?_
  obtain ⟨h1', h2, oe, vs, ho, hc, hd', hd, hz, T, oT, ts, k1, k2, k3⟩ := id x1
  unfold cameBackBy
  refine wpAny_bind (wpAny_field ho hd k1 ?_)
  rw [if_neg (by simp)]
  rw [O.frm]
  exact flight_x (s := { s' with heap := h1 }) I1 O (by rw [O.pn]; simp) hlo x1 fun h2 I2 x2 => ⟨e, C, dx, v, _, lo, σ, H, rfl, hlo, I2, x2, hdx, hW⟩
end
/-- it leaves the def -/
theorem Rz.leave {CX : CXT} {P : Program} {w : World} {K : PySem.W.Frag} {mg : Str → Option Value} {base : Heap} {N : List Str} {qual : Str} {scope : Scope} {f : Addr} {cd : Value} {A : Around} {outer : List Env} {s : Shared} {H : Hp} {E : XK} {W : Addr → Addr → Hp → Prop} (hE : CX = CXM P w) (hw : ∀ C dx H', W C dx H' → E (.ref C) (some dx) H')
    {ev : Value} {s' : Shared} (h : Rz (cxOf CX P w K mg base N qual scope f cd A outer s H E) W ev s') : (cxOf CX P w K mg base N qual scope f cd A outer s H E).xe ev s' := by
  subst hE
  obtain ⟨e, C, dx, v, fl, lo, σ, H', rfl, hlo, I, x, hdx, hW⟩ := h
  have O : Own (cxOf (CXM P w) P w K mg base N qual scope f cd A outer s H E) := ⟨rfl, rfl, rfl⟩
  show wpAny _ _ (leaving _ _) _ _ _
  unfold leaving
  refine wpAny_bind (note_x I O (by rw [O.pn]; simp) hlo x fun h1 I1 x1 => ?_)
  refine flight_x (s := { s' with heap := h1 }) (fr := none) I1 O (by rw [O.pn]; simp) hlo x1 fun h2 I2 x2 => ?_
  exact ⟨e, C, dx, v, H', rfl, I2.os, I2.bare, I2.base, I2.hok, hdx, x2.low hlo, hw C dx H' hW⟩
end L2
namespace L2
open PySem PySem.Spec PyProof.Rows
/-! ### an own exception of the second rank, under one that has an __init__ -/
section
variable {prog : Program} {w : World} {A : Around} {E : Value → Shared → Prop} {h : Heap} {g : Array GenState} {d : Drawn} {t : Nat} {os : OsState}
variable {nm q nm1 q1 : Str} {C N C1 N1 : Addr} {bs bm bs1 bm1 : List Value} {hdct hdct1 : Bool} {sn sn1 : List Str} {sub sub1 : List Value} {ab ab1 : Bool} {col col1 : Option Bool} {dd dd1 : Option Addr} {k0 k1 k2 k3 k5 j0 j1 j2 j3 j5 : Option Value} {newId1 : String} {mN mN1 : Str → Option Value}
theorem lookup2 {name : Str} {x : Value} {Q : Option Value → Shared → Prop} (hC : h.get? C = some (excClassObj nm q C N bs (.ref C1 :: bm) hdct sn sub ab col dd k0 k1 k2 k3 k5 "ValueError.__new__")) (hn : h.Ns N mN) (h0 : mN name = none)
    (hC1 : h.get? C1 = some (excClassObj nm1 q1 C1 N1 bs1 bm1 hdct1 sn1 sub1 ab1 col1 dd1 j0 j1 j2 j3 j5 newId1)) (hn1 : h.Ns N1 mN1) (h1 : mN1 name = some x) (hq : Q (some x) ⟨h, g, d, t, os⟩) : wpAny (model prog w) A (typeLookup (.ref C) name) Q E ⟨h, g, d, t, os⟩ := by
  rw [typeLookup_eq]
  refine wpAny_bind (wpAny_mroOf_exc hC ?_)
  rw [lookupAlong_cons]
  refine wpAny_bind (wpAny_classOwn_exc hC hn ?_)
  rw [h0]
  show wpAny _ _ (lookupAlong (.ref C1 :: bm) name) _ _ _
  rw [lookupAlong_cons]
  refine wpAny_bind (wpAny_classOwn_exc hC1 hn1 ?_)
  rw [h1]
  exact wpAny_pure hq
theorem new2 {R : Result → Shared → Prop} {rest : List Value} (c1 : bm.contains (.type "ValueError") = true) (c2 : bm.contains (.type "AttributeError") = false) (c3 : bm.contains (.type "NameError") = false)
    (hC : h.get? C = some (excClassObj nm q C N bs bm hdct sn sub ab col dd k0 k1 k2 k3 k5 "ValueError.__new__"))
    (hq : R (.ok (.ret (.ref (h.objs.size + 1)))) ⟨(h.push { cls := .type "tuple", data := .seq rest.toArray }).push { cls := .ref C, data := .fields #[.ref h.objs.size, .none, .none, .none, .bool false, .none] }, g, d, t, os⟩) (hrest : rest.length ≤ sizeLine) :
    codeAny (model prog w) A (.call (.builtin "ValueError.__new__") ⟨.ref C :: rest, []⟩) R ⟨h, g, d, t, os⟩ := by
  have Fn := PySem.F.excBase_ValueError
  have e1 : (Value.ref C :: bm).contains (.type "ValueError") = true := by rw [List.contains_cons, c1, Bool.or_true]
  have e2 : (Value.ref C :: bm).contains (.type "AttributeError") = false := by rw [List.contains_cons, c2]; rfl
  have e3 : (Value.ref C :: bm).contains (.type "NameError") = false := by rw [List.contains_cons, c3]; rfl
  refine codeAny_call_builtin_code (Code.quiet_builtin _ Fn.quiet) ?_
  have hstar := Fn.noStar
  simp only [checkBuiltinCall, Fn.newKind, Fn.newSplit, Fn.newRow]
  repeat (first | refine wpAny_loadPart_at hC ?_ | (refine wpAny_isSubtype_exc hC ?_; rw [e1]) | refine wpAny_staticBase_exc hC ?_ | refine wpAny_madeBy_exc hC ?_ | simp only [bne_self_eq_false, Bool.false_eq_true, if_false] | wp_step)
  have hends := Fn.ends
  refine codeAny_builtinAt Fn.entry ?_
  unfold Builtin.«BaseException.__new__»
  refine PySem.wpAt_bind ((show PySem.wpAt _ _ _ (stack >>= _) _ _ _ from PySem.wpAt_bind (PySem.wpAt_stack fun p below => PySem.wpAt_of_wpAny ?_)))
  wp_walk
  refine PySem.wpAt_of_wpAny ?_
  rw [Fn.owner]
  repeat (first | with_reducible refine wpAny_madeHere_exc Fn.canon hC ?_ | with_reducible refine wpAny_loadPart_at hC ?_ | (with_reducible refine wpAny_isSubtype_exc hC ?_; first | rw [e1] | rw [e2] | rw [e3]) | wp_step)
  refine (show R _ _ from ?_)
  rw [Heap.size_push]
  exact hq
theorem made2 {Q : Value → Shared → Prop} {rest : List Value} {fI : Addr} {oI : Obj} (c1 : (Value.ref C1 :: bm).contains (.type "ValueError") = true) (c2 : (Value.ref C1 :: bm).contains (.type "AttributeError") = false) (c3 : (Value.ref C1 :: bm).contains (.type "NameError") = false)
    (hC : h.get? C = some (excClassObj nm q C N bs (.ref C1 :: bm) hdct sn sub ab col dd k0 k1 k2 k3 k5 "ValueError.__new__")) (hn : h.Ns N mN) (h0 : mN "__init__" = none)
    (hC1 : h.get? C1 = some (excClassObj nm1 q1 C1 N1 bs1 bm1 hdct1 sn1 sub1 ab1 col1 dd1 j0 j1 j2 j3 j5 newId1)) (hn1 : h.Ns N1 mN1) (h1 : mN1 "__init__" = some (.ref fI)) (hfI : h.get? fI = some oI) (hfc : oI.cls = .type "function")
    (hq : ∀ h' e, Heap.MadeExcOf h h' e (.ref C) rest → e = h.objs.size + 1 → wpAny (model prog w) (A.under (.builtin "type.__call__" ⟨.ref C :: rest, []⟩)) (call (.ref fI) (.ref e :: rest)) (fun r s' => r = .none ∧ Q (.ref e) s') E ⟨h', g, d, t, os⟩) (hrest : rest.length ≤ sizeLine) :
    wpAny (model prog w) A (call (.ref C) rest) Q E ⟨h, g, d, t, os⟩ := by
  have f1 := tc_lookup
  have f2 := tc_bind (.ref C)
  have hT : (⟨h, g, d, t, os⟩ : Shared).TypeIs (.ref C) "type" := ⟨_, hC, rfl⟩
  refine wpAny_call (codeAny_of_tree (show wpAny _ _ (callAny (.ref C) _) _ _ _ from ?_))
  repeat (any_goals (first | assumption | with_reducible refine wpAny_loadPart_at hC ?_ | wp_step))
  refine ⟨rfl, codeAny_call_builtin_at (Code.quiet_builtin _ (by decide +kernel)) entry_typeCall (wpAny_check_type_call_sub hC ?_)⟩
  repeat (first | with_reducible refine wpAny_loadPart_at hC ?_ | with_reducible refine wpAny_madeBy_exc hC ?_ | wp_step)
  refine new2 c1 c2 c3 hC (show wpAny _ _ _ _ _ _ from ?_) hrest
  have K : ∀ b o, h.get? b = some o → ((h.push { cls := .type "tuple", data := .seq rest.toArray }).push { cls := .ref C, data := .fields #[.ref h.objs.size, .none, .none, .none, .bool false, .none] }).get? b = some o := fun b o q => Heap.get?_push_of_some _ (Heap.get?_push_of_some _ q)
  have kn : ∀ {a : Addr} {m : Str → Option Value}, h.Ns a m → ((h.push { cls := .type "tuple", data := .seq rest.toArray }).push { cls := .ref C, data := .fields #[.ref h.objs.size, .none, .none, .none, .bool false, .none] }).Ns a m := fun x => let ⟨o, es, ep, e, r⟩ := x; ⟨o, es, ep, K _ _ e, r⟩
  have hget : ((h.push { cls := .type "tuple", data := .seq rest.toArray }).push { cls := .ref C, data := .fields #[.ref h.objs.size, .none, .none, .none, .bool false, .none] }).get? (h.objs.size + 1) = some { cls := .ref C, data := .fields #[.ref h.objs.size, .none, .none, .none, .bool false, .none] } := by heap_get
  have hme : Heap.MadeExcOf h ((h.push { cls := .type "tuple", data := .seq rest.toArray }).push { cls := .ref C, data := .fields #[.ref h.objs.size, .none, .none, .none, .bool false, .none] }) (h.objs.size + 1) (.ref C) rest :=
    ⟨K, Heap.get?_none_of_le (Nat.le_succ _), h.objs.size, hget, Heap.get?_none_of_le (Nat.le_refl _), Heap.get?_push_of_some _ (Heap.get?_push_at rfl rfl)⟩
  have hcC : (Value.ref C :: Value.ref C1 :: bm).contains (.ref C) = true := by simp
  have hC2 := K _ _ hC
  unfold isInstance
  repeat (first | with_reducible refine wpAny_loadPart_at hget ?_ | (refine wpAny_isSubtype_exc hC2 ?_; rw [hcC]) | wp_step)
  refine (show wpAny _ _ (typeLookup (.ref C) _) _ _ _ from lookup2 hC2 (kn hn) h0 (K _ _ hC1) (kn hn1) h1 ?_)
  refine wpAny_holding (wpAny_bind ?_)
  unfold bindSpecial
  refine wpAny_bind (wpAny_typeOf (T := "function") ⟨_, K _ _ hfI, hfc⟩ ?_)
  rw [if_pos (by decide)]
  refine wpAny_pure (wpAny_bind (wpAny_mono (hq _ (h.objs.size + 1) hme rfl) (fun r s' hr => ?_) fun _ _ x => x))
  obtain ⟨rfl, hQ⟩ := hr
  wp_walk
  exact hQ
end
end L2
set_option maxHeartbeats 0
namespace L2
open PySem PySem.Spec PyProof.Rows
/-! ### what stands in its __init__ -/
section
variable {prog : Program} {w : World} {A : Around} {E : Value → Shared → Prop} {h : Heap} {g : Array GenState} {d : Drawn} {t : Nat} {os : OsState}
variable {nm q : Str} {C N C1 N1 : Addr} {bs bm : List Value} {hdct : Bool} {sn : List Str} {sub : List Value} {ab : Bool} {col : Option Bool} {dd : Option Addr} {k0 k1 k2 k3 k5 : Option Value} {newId : String} {mN mN1 : Str → Option Value}
/-- ValueError.__init__(self, x) -/
theorem base_init {R : Result → Shared → Prop} {e tt : Addr} {oe : Obj} {u : Value} (c1 : bm.contains (.type "ValueError") = true) (hC : h.get? C = some (excClassObj nm q C N bs bm hdct sn sub ab col dd k0 k1 k2 k3 k5 newId))
    (he : h.get? e = some { cls := .ref C, data := .fields #[.ref tt, .none, .none, .none, .bool false, .none] })
    (hq : R (.ok (.ret .none)) ⟨(h.push { cls := .type "tuple", data := .seq #[u] }).update e (Obj.mapFields (·.setIfInBounds 0 (.ref h.objs.size))), g, d, t, os⟩) :
    codeAny (model prog w) A (.call (.builtin "ValueError.__init__") ⟨[.ref e, u], []⟩) R ⟨h, g, d, t, os⟩ := by
  have F := PySem.F.excBase_ValueError
  have e1 : (Value.ref C :: bm).contains (.type "ValueError") = true := by rw [List.contains_cons, c1, Bool.or_true]
  refine codeAny_call_builtin (by first | exact F.init.plain | decide +kernel) F.initEntry ?_
  have hshort := F.noStar
  simp only [checkBuiltinCall, F.initKind, F.initSplit, F.initRow]
  repeat (first | with_reducible refine wpAny_loadPart_at he ?_ | with_reducible refine wpAny_loadPart_at hC ?_ | (refine wpAny_isSubtype_exc hC ?_; rw [e1]) | wp_step)
  exact hq
/-- the classes as they lie: C under C1 under ValueError -/
structure Two (h : Heap) (C C1 fI : Addr) : Prop where
  c : ∃ nm q N bs sn sub ab col dd k0 k1 k2 k3 k5 mN, h.get? C = some (excClassObj nm q C N bs [.ref C1, .type "ValueError", .type "Exception", .type "BaseException", .type "object"] true sn sub ab col dd k0 k1 k2 k3 k5 "ValueError.__new__") ∧ h.Ns N mN ∧ ∀ x : Str, x ∈ ([("__init__" : Str), "at", "__setattr__", "__getattribute__", "__getattr__", "__class__"] : List Str) → mN x = none
  c1 : ∃ nm q N bs bm hd sn sub ab col dd k0 k1 k2 k3 k5 nid mN, h.get? C1 = some (excClassObj nm q C1 N bs bm hd sn sub ab col dd k0 k1 k2 k3 k5 nid) ∧ h.Ns N mN ∧ mN "__init__" = some (.ref fI) ∧ ∀ x : Str, x ∈ ([("at" : Str), "__setattr__", "__getattribute__", "__getattr__", "__class__"] : List Str) → mN x = none
  f : ∃ oI, h.get? fI = some oI ∧ oI.cls = .type "function"
theorem lookupN {fI : Addr} {name : Str} {y : Option Value} {Q : Option Value → Shared → Prop} (T : Two h C C1 fI) (hm : name ∈ ([("at" : Str), "__setattr__", "__getattribute__", "__getattr__", "__class__"] : List Str)) (hB : typeLookup (.type "ValueError") name = pure y) (hq : Q y ⟨h, g, d, t, os⟩) :
    wpAny (model prog w) A (typeLookup (.ref C) name) Q E ⟨h, g, d, t, os⟩ := by
  obtain ⟨nm, q, N, bs, sn, sub, ab, col, dd, k0, k1, k2, k3, k5, mN, h1, h2, h3⟩ := T.c
  obtain ⟨nm', q', N', bs', bm', hd', sn', sub', ab', col', dd', k0', k1', k2', k3', k5', nid, mN', g1, g2, g3, g4⟩ := T.c1
  have hm2 : mroOf (.type "ValueError") = pure [.type "ValueError", .type "Exception", .type "BaseException", .type "object"] := PySem.F.store_ValueError.mro
  have hr : lookupAlong [.type "ValueError", .type "Exception", .type "BaseException", .type "object"] name = pure y := by rw [typeLookup_eq, hm2] at hB; exact hB
  rw [typeLookup_eq]
  refine wpAny_bind (wpAny_mroOf_exc h1 ?_)
  rw [lookupAlong_cons]
  refine wpAny_bind (wpAny_classOwn_exc h1 h2 ?_)
  rw [h3 name (List.mem_cons_of_mem _ hm)]
  refine (show wpAny _ _ (lookupAlong (.ref C1 :: _) name) _ _ _ from ?_)
  rw [lookupAlong_cons]
  refine wpAny_bind (wpAny_classOwn_exc g1 g2 ?_)
  rw [g4 name hm]
  refine (show wpAny _ _ (lookupAlong [.type "ValueError", .type "Exception", .type "BaseException", .type "object"] name) _ _ _ from ?_)
  rw [hr]
  exact wpAny_pure hq
theorem at_none : typeLookup (.type "ValueError") "at" = pure none := by rw [typeLookup_type, builtinLookup_eq_fast]; kernel_rfl
/-- the store itself -/
theorem store2_body {fI x : Addr} {o : Obj} {v : Value} {tk0 : Tok} {vs : Array Value} {Q : Unit → Shared → Prop} (T : Two h C C1 fI) (hx : h.get? x = some o) (hc : o.cls = .ref C) (hfd : o.data = .fields vs) (hdn : o.dict = none)
    (hq : ∀ h' tk, h'.get? x = some { o with dict := some h.objs.size } → h'.Ns1 h.objs.size (fun y => if y = "at" then some v else none) → (∀ b ob, b ≠ x → h.get? b = some ob → h'.get? b = some ob) → Q () ⟨h', g, d, tk, os⟩) :
    wpAny (model prog w) A (Builtin.«object.__setattr__» ⟨[.ref x, .str "at" tk0, v], []⟩) (fun fin s' => fin = .done (.ret .none) ∧ Q () s') E ⟨h, g, d, t, os⟩ := by
  have SF := PySem.F.store_ValueError
  have hpass := SF.passes (.ref x)
  obtain ⟨nm, q, N, bs, sn, sub, ab, col, dd, k0, k1, k2, k3, k5, mN, hC, hN, _⟩ := id T.c
  unfold Builtin.«object.__setattr__»
  repeat (first | rw [refuse_eq] | (rw [refuseLoop_ref, refuseLoop_ref, hpass]) | (with_reducible refine wpAny_loadPart_at hx ?_; rw [hc]) | with_reducible refine wpAny_mroOf_exc hC ?_ | (with_reducible refine lookupN T (by decide) at_none ?_) | wp_step)
  have hif : ¬ ((!true || !typeHasDict (Value.ref C)) = true) := by simp [typeHasDict]
  simp only [hdn, hfd]
  rw [if_neg hif]
  · have hx1 : (h.push { cls := .type "dict", data := .dict #[] }).get? x = some o := Heap.get?_push_of_some _ hx
    have hxs : x ≠ h.objs.size := Nat.ne_of_lt (Heap.lt_size hx)
    refine wpAny_bind (wpAny_alloc' (wpAny_bind (wpAny_update' hx1 ?_)))
    refine wpAny_pure ?_
    generalize hG : ((h.push { cls := .type "dict", data := .dict #[] }).update x fun o => { cls := o.cls, dict := some h.objs.size, data := o.data, slots := o.slots }) = G
    have hgd : G.get? h.objs.size = some { cls := .type "dict", data := .dict #[] } := by rw [← hG]; exact (Heap.get?_update_ne _ _ _ _ hxs.symm).trans (Heap.get?_push_at rfl rfl)
    have hnd : G.Ns h.objs.size (fun _ => none) := ⟨_, #[], _, hgd, rfl, fun e he => absurd he (by simp), fun _ => rfl⟩
    refine (show wpAny _ _ (Builtin.ObjectAttr.storeInDict h.objs.size (.str "at" tk0) "at" v) _ _ _ from ?_)
    unfold Builtin.ObjectAttr.storeInDict Builtin.ObjectAttr.newKeyGuard
    refine wpAny_bind (wpAny_pure (wpAny_bind (wpAny_nsSet1 (Heap.Ns1.of_empty hnd) fun h' hn' hs => ?_)))
    obtain ⟨oD, esD, epD, hoD, hdD, hcD⟩ := hn'.count (Within.cons "at" v Within.nil)
    refine wpAny_bind (wpAny_lookBehind hoD (by rw [hdD]; exact pastItsLine_dict (Nat.le_trans hcD (by rw [List.length_cons, List.length_nil, sizeLine_eq]; omega))) ?_)
    wp_walk
    refine ⟨rfl, hq h' _ ?_ hn' fun b ob hb q => ?_⟩
    · refine (hs.2 x hxs).trans ?_
      rw [← hG]
      refine Heap.get?_update_self _ hx1 ?_
      have hfr := (Heap.get?_some_iff.mp hx).2
      obtain ⟨oc, od, odt, osl⟩ := o
      cases odt <;> first | rfl | exact hfr
    · refine (hs.2 b (Nat.ne_of_lt (Heap.lt_size q))).trans ?_
      rw [← hG]
      exact (Heap.get?_update_ne _ _ _ _ hb).trans (Heap.get?_push_of_some _ q)
end
end L2
set_option maxHeartbeats 0
namespace L2
open PySem PySem.Spec PyProof.Rows
section
variable {prog : Program} {w : World} {A : Around} {E : Value → Shared → Prop} {h : Heap} {g : Array GenState} {d : Drawn} {t : Nat} {os : OsState} {C C1 fI : Addr}
theorem check2 {x : Addr} {o : Obj} {v : Value} {tk0 : Tok} {Q : Unit → Shared → Prop} (T : Two h C C1 fI) (hx : h.get? x = some o) (hc : o.cls = .ref C) (hq : Q () ⟨h, g, d, t, os⟩) :
    wpAny (model prog w) A (checkBuiltinCall "object.__setattr__" ⟨[.ref x, .str "at" tk0, v], []⟩) Q E ⟨h, g, d, t, os⟩ := by
  have SF := PySem.F.store_ValueError
  obtain ⟨nm, q, N, bs, sn, sub, ab, col, dd, k0, k1, k2, k3, k5, mN, hC, hN, _⟩ := id T.c
  have hco : (Value.ref C :: [Value.ref C1, .type "ValueError", .type "Exception", .type "BaseException", .type "object"]).contains (.type "object") = true := by simp
  have ha := SF.args (.ref x) (.str "at" tk0) v
  simp only [checkBuiltinCall, SF.kind, SF.split]
  refine wpAny_bind ?_
  unfold isInstance
  repeat (first | (with_reducible refine wpAny_loadPart_at hx ?_; rw [hc]) | (refine wpAny_isSubtype_exc hC ?_; rw [hco]) | wp_step)
  exact hq
theorem store2 {x : Addr} {o : Obj} {v : Value} {vs : Array Value} {Q : Unit → Shared → Prop} (T : Two h C C1 fI) (hx : h.get? x = some o) (hc : o.cls = .ref C) (hfd : o.data = .fields vs) (hdn : o.dict = none)
    (hq : ∀ h' tk, h'.get? x = some { o with dict := some h.objs.size } → h'.Ns1 h.objs.size (fun y => if y = "at" then some v else none) → (∀ b ob, b ≠ x → h.get? b = some ob → h'.get? b = some ob) → Q () ⟨h', g, d, tk, os⟩) :
    wpAny (model prog w) A (setAttr (.ref x) "at" v) Q E ⟨h, g, d, t, os⟩ := by
  have SF := PySem.F.store_ValueError
  have f3 := SF.slot.bind (.ref x)
  unfold setAttr callSpecial? specialOf
  repeat (any_goals (first | assumption | (with_reducible refine wpAny_loadPart_at hx ?_; rw [hc]) | (with_reducible refine lookupN T (by decide) SF.slot.lookup ?_) | wp_step))
  refine codeAny_call_builtin SF.slot.plain SF.entry (check2 T hx hc ?_)
  refine wpAny_mono (store2_body (E := fun _ _ => False) T hx hc hfd hdn hq) (fun fin s' hr => ?_) fun _ _ x => False.elim x
  obtain ⟨rfl, hQ⟩ := hr
  exact wpAny_pure (wpAny_pure hQ)
end
end L2
set_option maxHeartbeats 0
namespace L2
open PySem PySem.Spec PyProof.Rows
section
variable {prog : Program} {w : World} {A : Around} {E : Value → Shared → Prop} {h : Heap} {g : Array GenState} {d : Drawn} {t : Nat} {os : OsState} {C C1 fI : Addr}
theorem load2_body {x dx : Addr} {o : Obj} {v : Value} {vs : Array Value} {tk : Tok} {mA : Str → Option Value} {Q : Fin → Shared → Prop} (T : Two h C C1 fI) (hx : h.get? x = some o) (hc : o.cls = .ref C) (hfd : o.data = .fields vs) (hdx : o.dict = some dx) (hns : h.Ns1 dx mA) (hv : mA "at" = some v)
    (hq : Q (.done (.ret v)) ⟨h, g, d, t, os⟩) : wpAny (model prog w) A (Builtin.«object.__getattribute__» ⟨[.ref x, .str "at" tk], []⟩) Q E ⟨h, g, d, t, os⟩ := by
  obtain ⟨nm, q, N, bs, sn, sub, ab, col, dd, k0, k1, k2, k3, k5, mN, hC, hN, _⟩ := id T.c
  unfold Builtin.«object.__getattribute__»
  repeat (any_goals (first | assumption | (with_reducible refine wpAny_loadPart_at hx ?_; rw [hc]) | (with_reducible refine lookupN T (by decide) at_none ?_) | wp_step))
  simp only [hfd]
  unfold instanceDict Builtin.ObjectAttr.inDict
  repeat (first | (with_reducible refine wpAny_loadPart_at hx ?_; rw [hc]) | with_reducible refine wpAny_loadPart_at hC ?_ | wp_step)
  rw [hdx]
  repeat (first | (with_reducible refine wpAny_nsGet hns.ns ?_; rw [hv]) | wp_step)
  exact hq
theorem checkG {x : Addr} {o : Obj} {tk0 : Tok} {Q : Unit → Shared → Prop} (T : Two h C C1 fI) (hx : h.get? x = some o) (hc : o.cls = .ref C) (hq : Q () ⟨h, g, d, t, os⟩) :
    wpAny (model prog w) A (checkBuiltinCall "BaseException.__getattribute__" ⟨[.ref x, .str "at" tk0], []⟩) Q E ⟨h, g, d, t, os⟩ := by
  obtain ⟨nm, q, N, bs, sn, sub, ab, col, dd, k0, k1, k2, k3, k5, mN, hC, hN, _⟩ := id T.c
  have hk : builtinKind "BaseException.__getattribute__" = some .slot := by decide +kernel
  have hsplit : splitId "BaseException.__getattribute__" = some ("BaseException", "__getattribute__") := by decide +kernel
  have hco : (Value.ref C :: [Value.ref C1, .type "ValueError", .type "Exception", .type "BaseException", .type "object"]).contains (.type "BaseException") = true := by simp
  have ha := PySem.F.args_bexc_ga (.ref x) (.str "at" tk0)
  simp only [checkBuiltinCall, hk, hsplit]
  refine wpAny_bind ?_
  unfold isInstance
  repeat (first | (with_reducible refine wpAny_loadPart_at hx ?_; rw [hc]) | (refine wpAny_isSubtype_exc hC ?_; rw [hco]) | wp_step)
  exact hq
/-- e.at -/
theorem load2 {x dx : Addr} {o : Obj} {v : Value} {vs : Array Value} {mA : Str → Option Value} {expr : Bool} {Q : Value → Shared → Prop} (T : Two h C C1 fI) (hx : h.get? x = some o) (hc : o.cls = .ref C) (hfd : o.data = .fields vs) (hdx : o.dict = some dx) (hns : h.Ns1 dx mA) (hv : mA "at" = some v)
    (hh : handedOut v = pure v) (hq : ∀ tk, Q v ⟨h, g, d, tk, os⟩) : wpAny (model prog w) A (getAttr (.ref x) "at" expr) Q E ⟨h, g, d, t, os⟩ := by
  have FB := PySem.F.attrBase_ValueError
  have f3 := FB.ga.bind (.ref x)
  have hx0 : (expr && onTheHeap (Value.builtin "BaseException.__getattribute__")) = false := by cases expr <;> rfl
  have hx2 : (Value.builtin "BaseException.__getattribute__" == Value.builtin "object.__getattribute__") = false := by decide +kernel
  have hx1 : (onTheHeap (Value.ref C) && Value.builtin "BaseException.__getattribute__" == Value.builtin "object.__getattribute__") = false := by rw [hx2]; rfl
  unfold getAttr getAttrBy
  repeat (any_goals (first | assumption | (with_reducible refine wpAny_loadPart_at hx ?_; rw [hc]) | (with_reducible refine lookupN T (by decide) FB.ga.lookup ?_) | (with_reducible refine lookupN T (by decide) FB.noGetattr ?_) | wp_step))
  refine codeAny_call_builtin FB.ga.plain PySem.F.entry_bexc_ga (checkG T hx hc (load2_body T hx hc hfd hdx hns hv ?_))
  refine (show wpAny _ _ (handedOut v) _ _ _ from ?_)
  rw [hh]
  exact wpAny_pure (hq _)
end
end L2
set_option maxHeartbeats 0
namespace L2
open PySem PySem.Spec PyProof.Rows
section
variable {prog : Program} {w : World} {A : Around} {E : Value → Shared → Prop} {h : Heap} {g : Array GenState} {d : Drawn} {t : Nat} {os : OsState} {C C1 fI : Addr}
theorem lk_ve_class : typeLookup (.type "ValueError") "__class__" = pure (some (.builtin "object.__class__")) := by rw [typeLookup_type, builtinLookup_eq_fast]; kernel_rfl
theorem cls2_get {x : Addr} {o : Obj} {R : Result → Shared → Prop} (T : Two h C C1 fI) (hx : h.get? x = some o) (hc : o.cls = .ref C) (hq : R (.ok (.ret (.ref C))) ⟨h, g, d, t, os⟩) :
    codeAny (model prog w) A (.call (.builtin "getset_descriptor.__get__") ⟨[.builtin "object.__class__", .ref x, .ref C], []⟩) R ⟨h, g, d, t, os⟩ := by
  obtain ⟨nm, q, N, bs, sn, sub, ab, col, dd, k0, k1, k2, k3, k5, mN, hC, hN, _⟩ := id T.c
  have hT5 : (⟨h, g, d, t, os⟩ : Shared).TypeIs (.builtin "object.__class__") "getset_descriptor" := PySem.F.typeOf_object_class
  have hco : (Value.ref C :: [Value.ref C1, .type "ValueError", .type "Exception", .type "BaseException", .type "object"]).contains (.type (".".intercalate ("object.__class__".cutAt '.').dropLast)) = true := by
    rw [PySem.F.owner_object_class]; simp
  refine codeAny_call_builtin PySem.F.slot_gs_get.plain PySem.F.entry_gs_get (PySem.F.slot_gs_get.check _ _ _ _ _ _ _ _ hT5 (PySem.F.args_gs_get _ _ _) ?_)
  repeat (any_goals (first | assumption | (with_reducible refine wpAny_loadPart_at hx ?_; rw [hc]) | (refine wpAny_isSubtype_exc hC ?_; rw [hco]) | wp_step))
  refine ⟨Code.quiet_builtin _ (by decide +kernel), codeAny_builtin PySem.F.entry_object_class ?_⟩
  repeat (any_goals (first | assumption | (with_reducible refine wpAny_loadPart_at hx ?_; rw [hc]) | wp_step))
theorem cls2_body {x : Addr} {o : Obj} {tk : Tok} {Q : Fin → Shared → Prop} (T : Two h C C1 fI) (hx : h.get? x = some o) (hc : o.cls = .ref C) (hq : Q (.done (.ret (.ref C))) ⟨h, g, d, t, os⟩) :
    wpAny (model prog w) A (Builtin.«object.__getattribute__» ⟨[.ref x, .str "__class__" tk], []⟩) Q E ⟨h, g, d, t, os⟩ := by
  obtain ⟨nm, q, N, bs, sn, sub, ab, col, dd, k0, k1, k2, k3, k5, mN, hC, hN, _⟩ := id T.c
  have hT5 : (⟨h, g, d, t, os⟩ : Shared).TypeIs (.builtin "object.__class__") "getset_descriptor" := PySem.F.typeOf_object_class
  have f5 := PySem.F.typeOf_object_class
  have f6 := PySem.F.slot_gs_get.lookup
  have f7 := PySem.F.slot_gs_set.lookup
  repeat (any_goals (first | assumption | (with_reducible refine wpAny_loadPart_at hx ?_; rw [hc]) | (with_reducible refine lookupN T (by decide) lk_ve_class ?_) | wp_step))
  refine cls2_get T hx hc ?_
  repeat (any_goals (first | assumption | wp_step))
theorem cls2_check {x : Addr} {o : Obj} {nv : Value} {Q : Unit → Shared → Prop} (T : Two h C C1 fI) (hx : h.get? x = some o) (hc : o.cls = .ref C) (hq : Q () ⟨h, g, d, t, os⟩) :
    wpAny (model prog w) A (checkBuiltinCall "BaseException.__getattribute__" ⟨[.ref x, nv], []⟩) Q E ⟨h, g, d, t, os⟩ := by
  obtain ⟨nm, q, N, bs, sn, sub, ab, col, dd, k0, k1, k2, k3, k5, mN, hC, hN, _⟩ := id T.c
  have hk : builtinKind "BaseException.__getattribute__" = some .slot := by decide +kernel
  have hsplit : splitId "BaseException.__getattribute__" = some ("BaseException", "__getattribute__") := by decide +kernel
  have hco : (Value.ref C :: [Value.ref C1, .type "ValueError", .type "Exception", .type "BaseException", .type "object"]).contains (.type "BaseException") = true := by simp
  have ha := PySem.F.args_bexc_ga (.ref x) nv
  simp only [checkBuiltinCall, hk, hsplit]
  refine wpAny_bind ?_
  unfold isInstance
  repeat (first | (with_reducible refine wpAny_loadPart_at hx ?_; rw [hc]) | (refine wpAny_isSubtype_exc hC ?_; rw [hco]) | wp_step)
  exact hq
theorem cls2_by {x : Addr} {o : Obj} {tk : Tok} {Q : Value → Shared → Prop} (T : Two h C C1 fI) (hx : h.get? x = some o) (hc : o.cls = .ref C) (hq : Q (.ref C) ⟨h, g, d, t, os⟩) : wpAny (model prog w) A (getAttrBy (.ref x) (.str "__class__" tk) false) Q E ⟨h, g, d, t, os⟩ := by
  have FB := PySem.F.attrBase_ValueError
  have f3 := FB.ga.bind (.ref x)
  have hx2 : (Value.builtin "BaseException.__getattribute__" == Value.builtin "object.__getattribute__") = false := by decide +kernel
  have hx1 : (onTheHeap (Value.ref C) && Value.builtin "BaseException.__getattribute__" == Value.builtin "object.__getattribute__") = false := by rw [hx2]; rfl
  repeat (any_goals (first | assumption | (with_reducible refine wpAny_loadPart_at hx ?_; rw [hc]) | (with_reducible refine lookupN T (by decide) FB.ga.lookup ?_) | (with_reducible refine lookupN T (by decide) FB.noGetattr ?_) | wp_step))
  refine codeAny_call_builtin FB.ga.plain PySem.F.entry_bexc_ga (cls2_check T hx hc (cls2_body T hx hc ?_))
  repeat (any_goals (first | assumption | wp_step))
theorem cls2 {x : Addr} {o : Obj} {Q : Option Value → Shared → Prop} (T : Two h C C1 fI) (hx : h.get? x = some o) (hc : o.cls = .ref C) (hq : Q (some (.ref C)) ⟨h, g, d, t + 1, os⟩) : wpAny (model prog w) A (getAttr? (.ref x) "__class__") Q E ⟨h, g, d, t, os⟩ := by
  unfold getAttr? getAttrBy?
  repeat (any_goals (first | assumption | with_reducible apply cls2_by T hx hc | wp_step))
end
end L2
set_option maxHeartbeats 0
namespace L2
open PySem PySem.Spec PyProof.Rows
/-! ### the steps of an exception's __init__ -/
def tFs (te : TE) : TE := fun σ H Q => te σ H fun y H1 => ∃ n : Int, y = .int n ∧ n.natAbs.log2 < 1920 ∧ ∀ z, Q (.str z) H1
/-- an exception that was made, and one that has its attribute -/
def Ex0 (e C tt : Addr) (h : Heap) : Prop := h.get? e = some { cls := .ref C, data := .fields #[.ref tt, .none, .none, .none, .bool false, .none] }
def Ex1 (e C dx : Addr) (h : Heap) : Prop := ∃ tt, h.get? e = some { cls := .ref C, dict := some dx, data := .fields #[.ref tt, .none, .none, .none, .bool false, .none] }
section
variable {X : Cx} {e : Expr} {te : TE} {p pos p1 p2 p3 : Pos} {x : Str} {j : Nat} {pins : List (Addr × Obj)} {σ : St} {H : Hp} {s : Shared}
theorem pe_fstr (he : PE X e te) : PE X (.JoinedStr [.Constant (.str "refused at ") j p1, .FormattedValue e (-1) none p2] p3) (tFs te) := by
  intro pins s σ H Q I h
  refine JoinedStr_many (joinParts_cons ?_)
  refine thn (pe_str pins s σ H (fun v H1 => v = .str "refused at " ∧ H1 = H) I ⟨rfl, rfl⟩) fun v s1 ⟨y, H1, I1, ry, e1, e2⟩ => ?_
  subst e1; subst e2
  obtain ⟨t, rfl⟩ := (show ∃ t, v = Value.str "refused at " t from ry)
  have h0 : (Str.empty ++ ("refused at " : Str)).length = 11 := by decide
  refine ⟨by rw [h0, sizeLine_eq]; omega, joinParts_cons (FormattedValue_plain (thn (he pins s1 σ H1 _ I1 h) fun u s2 ⟨y2, H2, I2, r2, n, e3, hn, q⟩ => ?_))⟩
  subst e3
  obtain ⟨t2, rfl⟩ := (show ∃ t, u = Value.int n t from r2)
  have hl := int_text_len_1921 hn
  have h2 : (Str.empty ++ ("refused at " : Str) ++ Str.ofString (toString n)).length ≤ sizeLine := by rw [strLen_append, h0, sizeLine_eq]; omega
  exact formatField_int_small hn ⟨h2, joinParts_nil ⟨.str _, H2, (I2.tok _), ⟨_, rfl⟩, q _⟩ h2⟩
theorem ve_find (K : PySem.W.Frag) : PySem.W.findCls K (.type "ValueError") (.type "type") "__init__" = some (.val (.builtin "ValueError.__init__")) := by rfl
theorem gm_ve {pl : Sem Bool} {Q : Value × List Value → Shared → Prop} (I : Inv X pins σ H s) (h : Q (.builtin "ValueError.__init__", []) { s with toks := s.toks + 1 }) : wpAny (model X.prog X.w) X.A (getMethod (.type "ValueError") "__init__" pl) Q X.xe s := by
  obtain ⟨m, F⟩ := I.fr
  exact PySem.W.method_type F I.mod.kin (PySem.W.kitMeta_of (by decide +kernel)) (by decide +kernel) (ve_find X.K) (by rfl) h
/-- an object that is known by what is true of it is written, and others are laid -/
theorem Inv.ext2 {a dx : Addr} {φ φ' : Heap → Prop} {o2 : HO} {h' : Heap} {t' : Nat} (I : Inv X pins σ H s) (ha : H a = some (.ext φ)) (k : ∀ b u, b ≠ a → s.heap.get? b = some u → h'.get? b = some u) (new : φ' h') (hex : ∃ u, h'.get? a = some u) (st : ∀ h1 h2 : Heap, φ' h1 → (∀ o, h1.get? a = some o → h2.get? a = some o) → φ' h2) :
    Inv X pins σ (upd H a (.ext φ')) { s with heap := h', toks := t' } :=
  I.write (x := a) (e := a) (by rw [ha]; trivial) (.inl rfl) k hex ⟨new, hex, st⟩
theorem Ex0.ok {a C tt : Addr} {h : Heap} (x : Ex0 a C tt h) : (∃ u, h.get? a = some u) ∧ ∀ h1 h2 : Heap, Ex0 a C tt h1 → (∀ o, h1.get? a = some o → h2.get? a = some o) → Ex0 a C tt h2 := ⟨⟨_, x⟩, fun h1 h2 y k => k _ y⟩
theorem Ex1.ok {a C dx : Addr} {h : Heap} (x : Ex1 a C dx h) : (∃ u, h.get? a = some u) ∧ ∀ h1 h2 : Heap, Ex1 a C dx h1 → (∀ o, h1.get? a = some o → h2.get? a = some o) → Ex1 a C dx h2 :=
  let ⟨tt, y⟩ := x; ⟨⟨_, y⟩, fun h1 h2 ⟨t2, z⟩ k => ⟨t2, k _ z⟩⟩
theorem vals_two {x y : V} {us : List Value} (r : Vals [x, y] us) : ∃ u v, us = [u, v] ∧ RelV x u ∧ RelV y v := by
  cases r with
  | cons w1 r2 =>
    cases r2 with
    | cons w2 r3 =>
      cases r3
      exact ⟨_, _, rfl, w1, w2⟩
def tInit (C : Addr) (t : TA) : TE := fun σ H Q => t σ H fun vs H1 => ∃ a tt z, vs = [.ref a, .str z] ∧ H1 a = some (.ext (Ex0 a C tt)) ∧ ∀ t2, Q .non (upd H1 a (.ext (Ex0 a C t2)))
/-- ValueError.__init__(self, text) -/
theorem pe_base {C C1 fI : Addr} {a : Expr} {t : TA} {pl : Sem Bool} (hT : ∀ h, X.K.In h → Two h C C1 fI) (hg : Gl X "ValueError") (hm : X.mg "ValueError" = none) (pa : PA X [a, e] t)
    (hst : starEach [a, e] X.env = (false, eval a X.env) :: starEach [e] X.env := by rfl) (hpl : (backTo pos (starEach [e] X.env)).any (·.1) = false := by rfl)
    (ht : eval (.Call (.Attribute (.Name "ValueError" p1) "__init__" p2) [a, e] [] pos) X.env = (do
      let ov ← eval (.Name "ValueError" p1) X.env
      standAt p2.atName
      let (f, first) ← holding [ov] (getMethod ov "__init__" pl)
      callWith pos f first (backTo pos (starEach [a, e] X.env)) (backToKw pos (keywordEach [] X.env))) := by rfl) :
    PE X (.Call (.Attribute (.Name "ValueError" p1) "__init__" p2) [a, e] [] pos) (tInit C t) := by
  intro pins s σ H Q I h
  refine PySem.W.methodCall_KW (pl := pl) (ld_blt I hg hm PyProof.Rows.Boot.«ValueError» ?_) ht
  refine gm_ve I ?_
  refine PyProof.Rows.callWith_builtin1 (thn (pa pos pins _ σ H _ (I.tok _) h) fun us s1 ⟨vs, H1, I1, r1, q1⟩ => ?_) hst hpl
  obtain ⟨a', tt, z, rfl, hx, q⟩ := q1
  obtain ⟨u1, u2, rfl, w1, w2⟩ := vals_two r1
  cases (show _ = Value.ref a' from w1)
  obtain ⟨nm, q', N, bs, sn, sub, ab, col, dd, k0, k1, k2, k3, k5, mN, hC, hN, _⟩ := (hT s1.heap I1.kIn).c
  have he : Ex0 a' C tt s1.heap := (show ObjOk X.prog X.w H1 s1.heap a' (.ext _) from I1.hok a' _ hx).1
  obtain ⟨hp, g, d, tk, os⟩ := s1
  refine wpAny_call (base_init (oe := ⟨.none, none, .fields #[], #[]⟩) (by simp) hC he ?_)
  have x1 : Ex0 a' C hp.objs.size ((hp.push { cls := .type "tuple", data := .seq #[u2] }).update a' (Obj.mapFields (·.setIfInBounds 0 (.ref hp.objs.size)))) := (Heap.get?_update_self _ (Heap.get?_push_of_some _ he) rfl).trans rfl
  exact ⟨.non, _, I1.ext2 (a := a') (dx := a') (o2 := .lst []) (t' := tk) hx (fun b u hb hu => by rw [Heap.get?_update_other _ _ (Ne.symm hb)]; exact Heap.get?_push_of_some _ hu) x1 x1.ok.1 x1.ok.2, rfl, q _⟩
def tAt (C : Addr) (ta tv : TE) : TS := fun D σ H => tv σ H fun y H1 => ta σ H1 fun x H2 => ∃ a tt, x = .ref a ∧ H2 a = some (.ext (Ex0 a C tt)) ∧ ∀ dx, H2 dx = none → dx ≠ a → D.nx σ (upd (upd H2 dx (.xd [("at", y)])) a (.ext (Ex1 a C dx)))
/-- self.at = v -/
theorem ps_at {C C1 fI : Addr} {o value : Expr} {ta tv : TE} {pos' : Pos} (hT : ∀ h, X.K.In h → Two h C C1 fI) (ha : PE X o ta) (hv : PE X value tv) (hs : swapsWith value (some (.Attribute o "at" pos')) pos.line X.env = pure false) : PS X (.Assign [.Attribute o "at" pos'] value pos) (tAt C ta tv) := by
  intro pins s σ H D I h
  refine plainObj_wpAny_Assign_Attribute (thn (hv pins s σ H _ I h) fun u s1 ⟨y, H1, I1, ry, q⟩ => thn (ha pins s1 σ H1 _ I1 q) fun ov s2 ⟨x, H2, I2, rx, a, tt, ex, ea, q2⟩ => ?_) hs
  subst ex
  obtain rfl : ov = Value.ref a := rx
  have he : Ex0 a C tt s2.heap := (show ObjOk X.prog X.w H2 s2.heap a (.ext _) from I2.hok a _ ea).1
  have T := hT s2.heap I2.kIn
  have hfr : H2 s2.heap.objs.size = none := I2.hok.fresh (Nat.le_refl _)
  have hne : s2.heap.objs.size ≠ a := Nat.ne_of_gt (Heap.lt_size he)
  obtain ⟨hp, g, d, tk, os⟩ := s2
  refine store2 T he rfl rfl rfl fun h' tk' g1 g2 g3 => ?_
  have x1 : Ex1 a C hp.objs.size h' := ⟨tt, g1⟩
  have un : Un X.fs [] H2 (upd (upd H2 hp.objs.size (.xd [("at", y)])) a (.ext (Ex1 a C hp.objs.size))) hp h' := by
    have nb : ∀ b u, hp.get? b = some u → H2 b = none → b ≠ a ∧ b ≠ hp.objs.size := fun b u q1 q2 => ⟨fun z => (by rw [z, ea] at q2; cases q2), Nat.ne_of_lt (Heap.lt_size q1)⟩
    have nt : ∀ b u, H2 b = some u → u ≠ .ext (Ex0 a C tt) → b ≠ a ∧ b ≠ hp.objs.size := fun b u q1 q2 => ⟨fun z => (by rw [z, ea] at q1; exact q2 (Option.some.inj q1).symm), fun z => (by rw [z, hfr] at q1; cases q1)⟩
    refine ⟨fun b o q1 q2 _ _ => g3 b o (nb b o q1 q2).1 q1, fun b o q1 q2 _ _ => ⟨o.slots, g3 b o (nb b o q1 q2).1 q1⟩, fun b o q1 q2 _ => ?_, fun b o q1 _ => ?_, fun b xs q1 => ?_, fun b o u q1 => ?_, fun b ps q1 => ⟨#[], ?_⟩⟩
    · rw [upd_ne (nb b o q1 q2).1, upd_ne (nb b o q1 q2).2]; exact q2
    · by_cases z : b = a
      · rw [z]; exact ⟨_, g1⟩
      · exact ⟨o, g3 b o z q1⟩
    · have := nt b _ q1 (fun z => by cases z)
      rw [upd_ne this.1, upd_ne this.2]; exact q1
    · have := nt b _ q1 (fun z => by cases z)
      rw [upd_ne this.1, upd_ne this.2]; exact q1
    · have := nt b _ q1 (fun z => by cases z)
      rw [upd_ne this.1, upd_ne this.2, q1]; simp
  have hok : HOk X.prog X.w (upd (upd H2 hp.objs.size (.xd [("at", y)])) a (.ext (Ex1 a C hp.objs.size))) h' := by
    intro b ob q1
    by_cases z : b = a
    · subst z
      rw [upd_same] at q1; cases q1
      exact ⟨x1, x1.ok.1, x1.ok.2⟩
    · rw [upd_ne z] at q1
      by_cases z2 : b = hp.objs.size
      · subst z2
        rw [upd_same] at q1; cases q1
        refine ⟨_, g2, fun f => ?_⟩
        by_cases zf : f = "at"
        · subst zf
          have e1 : List.lookup ("at" : Str) [(("at" : Str), y)] = some y := by rw [List.lookup]; simp
          rw [e1, if_pos rfl]
          exact ry
        · have e1 : List.lookup f [(("at" : Str), y)] = none := by
            have : (f == ("at" : Str)) = false := by simpa using zf
            rw [List.lookup, this]; rfl
          rw [e1, if_neg zf]
          trivial
      · rw [upd_ne z2] at q1
        have ne : ∀ b' u, H2 b' = some u → u ≠ .ext (Ex0 a C tt) → b' ≠ a ∧ b' ≠ hp.objs.size := fun b u q1 q2 => ⟨fun z => (by rw [z, ea] at q1; exact q2 (Option.some.inj q1).symm), fun z => (by rw [z, hfr] at q1; cases q1)⟩
        refine (I2.hok b ob q1).stay (fun b' u hb hu => g3 b' u (fun z3 => ?_) hu) (fun b' q3 => ?_) fun b' xs q3 => ?_
        · rcases hb with rfl | hb
          · exact z z3
          · rw [z3, ea] at hb; cases hb
        · have := ne b' _ q3 (fun z => by cases z)
          rw [upd_ne this.1, upd_ne this.2]; exact q3
        · have := ne b' _ q3 (fun z => by cases z)
          rw [upd_ne this.1, upd_ne this.2]; exact q3
  exact ⟨σ, _, I2.un (t' := tk') un hok, q2 _ hfr hne⟩
end
end L2
set_option maxHeartbeats 0
namespace L2
open PySem PySem.Spec PyProof.Rows
/-! ### an exception is made -/
def spI (C : Addr) : Sp := fun vs H Q _ => ∃ a tt, ∃ n : Int, vs = [.ref a, .int n] ∧ n.natAbs.log2 < 1920 ∧ H a = some (.ext (Ex0 a C tt)) ∧ ∀ dx, H dx = none → dx ≠ a → Q .non (upd (upd H dx (.xd [("at", .int n)])) a (.ext (Ex1 a C dx)))
def tV (i : Nat) : TE := fun σ H Q => ∃ v, σ[i]? = some (some v) ∧ Q v H
def tBody (C : Addr) : TS := tSeq (tDrop (tInit C (tCons (tV 0) (tCons (tFs (tV 1)) tNil)))) (tAt C (tV 0) (tV 1))
theorem upd_twice {H : Hp} {a dx : Addr} {x y z : HO} (h : dx ≠ a) : upd (upd (upd H a x) dx y) a z = upd (upd H dx y) a z := by
  funext b
  by_cases h1 : b = a
  · subst h1; rw [upd_same, upd_same]
  · rw [upd_ne h1, upd_ne h1]
    by_cases h2 : b = dx
    · subst h2; rw [upd_same, upd_same]
    · rw [upd_ne h2, upd_ne h2, upd_ne h1]
theorem init_fn {P : Program} {w : World} {K : PySem.W.Frag} {mg : Str → Option Value} {base : Heap} {qual : Str} {st : Stmt} {f C : Addr} {fd : FuncData} (F : Fun K "__init__" qual st f fd) (S : FnScope ["self", "at"] ["self", "at"] (defScope st))
    (hbody : ∀ (cdv : Value) (A : Around) (outer : List Env) (s : Shared) (H : Hp) (E : XK), PSs (cxOf CX0 P w K mg base ["self", "at"] qual (defScope st) f cdv A outer s H E).nox (defBody st) (tBody C)) :
    FnOk P w K mg base CX0 1 f fd ["self", "at"] (spI C) := by
  refine F.ok (k := 0) S (fun vs H Q E ⟨a, tt, n, e, _⟩ => by rw [e]; rfl) (fun cdv A outer s H vs Q E hr h => ⟨_, hbody cdv A outer s H E, ?_⟩)
  obtain ⟨a, tt, n, rfl, hn, ha, q⟩ := h
  refine ⟨.ref a, rfl, .int n, rfl, n, rfl, hn, fun z => ⟨a, tt, z, rfl, ha, fun t2 => ?_⟩⟩
  refine ⟨.int n, rfl, .ref a, rfl, a, t2, rfl, upd_same, fun dx h1 h2 => ?_⟩
  rw [upd_ne h2] at h1
  have := q dx h1 h2
  rw [upd_twice h2]
  exact this
section
variable {X : Cx} {pins : List (Addr × Obj)} {σ : St} {H : Hp} {s : Shared}
theorem Inv.forget {a : Addr} {φ : Heap → Prop} {H' : Hp} (I : Inv X pins σ H s) (ha : H a = some (.ext φ)) (h1 : H' a = none) (h2 : ∀ b, b ≠ a → H' b = H b) : Inv X pins σ H' s := by
  have nn : ∀ b, H b = none → H' b = none := fun b q => by
    by_cases z : b = a
    · rw [z]; exact h1
    · rw [h2 b z]; exact q
  have ne : ∀ b u, H b = some u → (∀ φ, u ≠ .ext φ) → H' b = some u := fun b u q k => by
    rw [h2 b (fun z => by rw [z, ha] at q; exact k _ (Option.some.inj q).symm)]; exact q
  have base : Un X.fs X.ex X.H₀ H' X.s₀.heap s.heap := by
    obtain ⟨k1, k2, k3, k4, k5, k6, k7⟩ := I.base
    exact ⟨k1, k2, fun b o q n hx => nn b (k3 b o q n hx), k4, fun b xs q => ne b _ (k5 b xs q) (fun _ z => by cases z), fun b o u q => ne b _ (k6 b o u q) (fun _ z => by cases z), fun b ps q => let ⟨m, z⟩ := k7 b ps q; ⟨m, ne b _ z (fun _ z => by cases z)⟩⟩
  have hok : HOk X.prog X.w H' s.heap := fun b o q => by
    have hb : b ≠ a := fun z => by rw [z, h1] at q; cases q
    rw [h2 b hb] at q
    exact (I.hok b o q).stay (fun _ _ _ z => z) (fun b' z => ne b' _ z (fun _ z => by cases z)) fun b' xs z => ne b' _ z (fun _ z => by cases z)
  exact ⟨I.ok, I.os, I.bare, base, I.loc, I.cell, nn _ I.free, fun x c e => nn _ (I.freeC x c e), fun p hp => let ⟨a1, a2, a3, a4, a5⟩ := I.pin p hp; ⟨a1, nn _ a2, a3, a4, a5⟩, hok, I.len⟩
theorem exc_make {C C1 fI : Addr} {fd : FuncData} {k : Nat} {u : Value} {n : Int} {Q : Value → Shared → Prop} {E : Value → Shared → Prop} (G : FnOk X.prog X.w X.K X.mg X.base CX0 k fI fd ["self", "at"] (spI C)) (hT : ∀ h, X.K.In h → Two h C C1 fI) (hr : Room (k + 1) X.A) (hb : Binds X.K fd ["self", "at"] []) (I : Inv X pins σ H s)
    (ru : RelV (.int n) u) (hn : n.natAbs.log2 < 1920) (h : ∀ e dx s', Inv X pins σ (upd H dx (.xd [("at", .int n)])) s' → H dx = none → Xo s.heap.objs.size e C dx none (upd H dx (.xd [("at", .int n)])) s'.heap → Ex1 e C dx s'.heap → Q (.ref e) s') :
    wpAny (model X.prog X.w) X.A (call (.ref C) [u]) Q E s := by
  obtain ⟨hp, g, d, tk, os⟩ := s
  have T := hT hp I.kIn
  obtain ⟨nm, q, N, bs, sn, sub, ab, col, dd, k0, k1, k2, k3, k5, mN, c1, c2, c3⟩ := T.c
  obtain ⟨nm', q', N', bs', bm', hd', sn', sub', ab', col', dd', k0', k1', k2', k3', k5', nid, mN', g1, g2, g3, g4⟩ := T.c1
  obtain ⟨oI, i1, i2⟩ := T.f
  refine made2 (by simp) (by simp) (by simp) c1 c2 (c3 _ (by simp)) g1 g2 g3 i1 i2 (fun h' e hm he => ?_) (by rw [sizeLine_eq]; simp)
  obtain ⟨t, hte, _, _⟩ := hm.there
  have x0 : Ex0 e C t h' := hte
  have hle : hp.objs.size ≤ e := by rw [he]; exact Nat.le_succ _
  have I2 : Inv X pins σ (upd H e (.ext (Ex0 e C t))) ⟨h', g, d, tk, os⟩ := I.laid (t' := tk) hm.keeps hle ⟨x0, x0.ok.1, x0.ok.2⟩
  have hne : H e = none := I.hok.fresh hle
  refine wpAny_call (codeAny_mono (G.run _ X.stack _ _ ⟨[.ref e, u], []⟩ [.ref e, u] [.ref e, .int n] (fun v H2 => v = .non ∧ ∃ dx, upd H e (.ext (Ex0 e C t)) dx = none ∧ dx ≠ e ∧ H2 = upd (upd (upd H e (.ext (Ex0 e C t))) dx (.xd [("at", .int n)])) e (.ext (Ex1 e C dx))) E0 (hr.make C [u] [])
    (I2.env0.make C [u] []) (hb _ [.ref e, u] I2.kIn rfl) (.cons rfl (.cons ru .nil)) ⟨e, t, n, rfl, hn, upd_same, fun dx h1 h2 => ⟨rfl, dx, h1, h2, rfl⟩⟩) fun r s' hq => ?_)
  cases r with
  | error x => exact hq.elim
  | ok fl =>
    cases fl with
    | ret v =>
      obtain ⟨v', H', I3, rv, rfl, dx, d1, d2, rfl⟩ := I2.after hq
      refine ⟨rv, ?_⟩
      rw [upd_ne d2] at d1
      rw [upd_twice d2] at I3
      have x1 : Ex1 e C dx s'.heap := (show ObjOk X.prog X.w _ s'.heap e (.ext _) from I3.hok e _ upd_same).1
      have hue : upd H dx (.xd [("at", .int n)]) e = none := by rw [upd_ne (Ne.symm d2)]; exact hne
      have I4 : Inv X pins σ (upd H dx (.xd [("at", .int n)])) s' := I3.forget (a := e) upd_same hue fun b hb => by rw [upd_ne hb]
      obtain ⟨tt, hx⟩ := id x1
      exact h e dx s' I4 d1 ⟨hle, hue, _, _, hx, rfl, rfl, rfl, by simp, rfl⟩ x1
    | next => exact hq.elim
    | brk => exact hq.elim
    | cont => exact hq.elim
end
end L2
set_option maxHeartbeats 0
namespace L2
open PySem PySem.Spec PyProof.Rows
/-! ### raise -/
theorem raise2 {prog : Program} {w : World} {A : Around} {E : Value → Shared → Prop} {env : Env} {s : Shared} {x : Sem Value} {Q : Flow → Shared → Prop} (hh : A.handled = none)
    (h : wpAny (model prog w) A x (fun v s₁ => ∃ e C C1 fI dx tt, v = .ref e ∧ Two s₁.heap C C1 fI ∧ s₁.heap.get? e = some { cls := .ref C, dict := some dx, data := .fields #[.ref tt, .none, .none, .none, .bool false, .none] } ∧ E (.ref e) s₁) E s) :
    wpAny (model prog w) A (raiseStmt env (some x) none) Q E s := by
  unfold raiseStmt
  refine wpAny_bind (wpAny_mono h (fun v s₁ h₁ => ?_) fun _ _ x => x)
  obtain ⟨e, C, C1, fI, dx, tt, rfl, T, he, hE⟩ := h₁
  obtain ⟨nm, q, N, bs, sn, sub, ab, col, dd, k0, k1, k2, k3, k5, mN, hC, hN, _⟩ := T.c
  have hco : (Value.ref C :: [Value.ref C1, .type "ValueError", .type "Exception", .type "BaseException", .type "object"]).contains (.type "BaseException") = true := by simp
  obtain ⟨hp, g, d, tk, os⟩ := s₁
  repeat (first | with_reducible refine wpAny_loadPart_at he ?_ | with_reducible refine wpAny_loadPart_at hC ?_ | (refine wpAny_isSubtype_exc hC ?_; rw [hco]) | wp_step)
  exact wpAny_raiseNew_none hh hE
section
variable {X : Cx} {pins : List (Addr × Obj)} {σ : St} {H : Hp} {s : Shared}
/-- C(e), an exception -/
theorem ev_exc {C C1 fI : Addr} {fd : FuncData} {k : Nat} {x : Str} {e : Expr} {t : TA} {np cpos : Pos} {Q : Value → Shared → Prop} (G : FnOk X.prog X.w X.K X.mg X.base CX0 k fI fd ["self", "at"] (spI C)) (hT : ∀ h, X.K.In h → Two h C C1 fI) (hr : Room (k + 1) X.A) (hb : Binds X.K fd ["self", "at"] []) (hg : Gl X x) (hm : X.mg x = some (.ref C)) (hk : PySem.W.keepIn X.K (.ref C) = true) (he : PA X [e] t) (I : Inv X pins σ H s)
    (h : t σ H fun vs H1 => ∃ n : Int, vs = [.int n] ∧ n.natAbs.log2 < 1920 ∧ ∀ a dx s', Inv X pins σ (upd H1 dx (.xd [("at", .int n)])) s' → H1 dx = none → (∃ lo, X.s₀.heap.objs.size ≤ lo ∧ Xo lo a C dx none (upd H1 dx (.xd [("at", .int n)])) s'.heap) → Ex1 a C dx s'.heap → Q (.ref a) s')
    (hdb : (x == ("__debug__" : Str)) = false := by decide) (hst : starEach [e] X.env = (false, eval e X.env) :: starEach [] X.env := by rfl) (hpl : (backTo cpos (starEach [] X.env)).any (·.1) = false := by rfl) :
    wpAny (model X.prog X.w) X.A (eval (.Call (.Name x np) [e] [] cpos) X.env) Q X.xe s := by
  refine wpAny_Call_Name_kw (ld_glob I hg hm ?_ hdb)
  refine PySem.W.callWith_K (h₀ := X.base) I.ok.mod.kin hk (thn (he cpos pins s σ H _ I h) fun us s1 ⟨vs, H1, I1, r, q⟩ => ⟨I1.kIn, ?_⟩) hst hpl
  obtain ⟨n, rfl, hn, q⟩ := q
  cases r with
  | cons w1 r2 =>
    cases r2
    exact exc_make G hT hr hb I1 w1 hn fun a dx s' I2 hd x x1 => q a dx s' I2 hd ⟨_, I1.sz, x⟩ x1
end
end L2
namespace M
open PySem PySem.Spec L2
/-- raise C(e) -/
def raiseS (c : String) (mA : MA) : MS := fun env st => (mA env st).bind fun ds st1 => match ds with
  | [.int n] => if n.natAbs.log2 < 1920 then .err ⟨c, .int n⟩ st1 else .bad
  | _ => .bad
theorem js_raise {X : Cx} {C C1 fI : Addr} {fd : FuncData} {k : Nat} {x : Str} {c : String} {e : Expr} {mA : MA} {np cpos pos : Pos} (G : FnOk X.prog X.w X.K X.mg X.base CX0 k fI fd ["self", "at"] (spI C)) (hT : ∀ h, X.K.In h → Two h C C1 fI) (hr : Room (k + 1) X.A) (hb : Binds X.K fd ["self", "at"] [])
    (h0 : PySem.W.nsIn X.K mainGlobals (c : Str) = some (some (.ref C))) (hg : Gl X x) (hm : X.mg x = some (.ref C)) (hk : PySem.W.keepIn X.K (.ref C) = true) (hc : X.calm = true) (ha : JA X [e] mA) (hdb : (x == ("__debug__" : Str)) = false := by decide) (hst : starEach [e] X.env = (false, eval e X.env) :: starEach [] X.env := by rfl) (hpl : (backTo cpos (starEach [] X.env)).any (·.1) = false := by rfl) :
    JS X (.Raise (some (.Call (.Name x np) [e] [] cpos)) none pos) (raiseS c mA) := by
  rintro pins s σ H D I ⟨μ, env, st, hE, hs, hp⟩
  rw [arm_exec_Raise]
  refine wpAny_bind (wpAny_standAt (raise2 (I.ok.hd hc) (wpAny_bind ?_)))
  refine wpAny_mono (ev_exc (Q := fun v s' => ∃ e C C1 fI dx tt, v = .ref e ∧ Two s'.heap C C1 fI ∧ s'.heap.get? e = some { cls := .ref C, dict := some dx, data := .fields #[.ref tt, .none, .none, .none, .bool false, .none] } ∧ X.xe (.ref e) s') G hT hr hb hg hm hk ha I ⟨μ, env, st, hE, hs, ?_⟩ hdb hst hpl) (fun v s' hv => ?_) fun _ _ x => x
  · unfold raiseS at hp
    cases e1 : mA env st with
    | bad => rw [e1] at hp; exact hp.elim
    | err y st1 => rw [e1] at hp; exact hp
    | ok ds st1 =>
      rw [e1] at hp
      simp only [R.bind_ok] at hp
      intro vs H1 μ1 g1 hs1 hv1
      split at hp
      · rename_i n
        split at hp
        · rename_i hn
          obtain ⟨v, e2, hv2⟩ := hv1.get (i := 0) (d := .int n) rfl
          have el := hv1.length
          have : vs = [v] := by
            cases vs with
            | nil => cases e2
            | cons a r => cases r with
              | nil => simpa using e2
              | cons b r => simp at el
          subst this
          rw [RepV.int_iff] at hv2; subst hv2
          refine ⟨n, rfl, hn, fun a dx s' I2 hd hx x1 => ?_⟩
          obtain ⟨lo, hlo, x⟩ := hx
          obtain ⟨tt, hx1⟩ := x1
          exact ⟨a, C, C1, fI, dx, tt, rfl, hT _ I2.kIn, hx1, hp pins σ _ μ1 (.ref a) s' (g1.trans (Grow.lay hd)) (hs1.lay hd) I2 ⟨a, C, dx, lo, none, .int n, rfl, hlo, x, upd_same, h0, RepV.int_iff.mpr rfl⟩⟩
        · exact hp.elim
      · exact hp.elim
  · exact wpAny_bind (wpAny_standAt (wpAny_pure hv))
end M
set_option maxHeartbeats 0
namespace L2
open PySem PySem.Spec PyProof.Rows
section
variable {X : Cx} {CX : CXT} {k : Nat} {f C : Addr} {fd : FuncData} {ps : List Str} {sp : Sp} {dvs : List V} {ds : List Value} {x m : Str} {p pos apos : Pos} {e o : Expr} {es : List Expr} {ta : TE} {t : TA} {pins : List (Addr × Obj)} {σ : St} {H : Hp} {s : Shared} {Q : VK}
theorem PA.nox (h : PA X.nox es t) : PA X es t := fun pos pins s σ H Q I hw =>
  wpAny_mono (h pos pins s σ H Q (I.wish _) hw) (fun _ _ ⟨v, H', I', r, q⟩ => ⟨v, H', I'.unwish, r, q⟩) fun _ _ z => False.elim z
/-- f(e, ..), where f may raise: what is wanted of the exception is said at the call -/
theorem ev_callX {E' : Value → Shared → Prop} (F : FnOk X.prog X.w X.K X.mg X.base CX k f fd ps sp) (hr : Room k X.A) (hg : Gl X x) (hm : X.mg x = some (.ref f)) (hk : PySem.W.keepIn X.K (.ref f) = true) (hb : Binds X.K fd ps ds) (hd : Vals dvs ds)
    (ha : PA (X.wish E') (e :: es) t) (I : Inv X pins σ H s) (h : t σ H fun vs H1 => ∃ E, sp (vs ++ dvs) H1 Q E ∧ ∀ s1 ev s', Inv X pins σ H1 s1 → CX X.stack H1 s1 E ev s' → E' ev s')
    (hdb : (x == ("__debug__" : Str)) = false := by decide) (he : starEach (e :: es) X.env = (false, eval e X.env) :: starEach es X.env := by rfl) (hpl : (backTo pos (starEach es X.env)).any (·.1) = false := by rfl) :
    wpAny (model X.prog X.w) X.A (eval (.Call (.Name x p) (e :: es) [] pos) X.env) (EP X pins σ Q) E' s := by
  have J := I.wish E'
  refine wpAny_Call_Name_kw (ld_glob I hg hm ?_ hdb)
  refine PySem.W.callWith_K (h₀ := X.base) I.ok.mod.kin hk (thn (ha pos pins s σ H _ J h) fun us s1 ⟨vs, H1, I1, r, E, q, hx⟩ => ⟨I1.unwish.kIn, ?_⟩) he hpl
  have I2 : Inv X pins σ H1 s1 := I1.unwish
  have r2 : Vals (vs ++ dvs) (us ++ ds) := r.append hd
  have hl : (us ++ ds).length = ps.length := by rw [← r2.length]; exact F.len _ _ _ _ q
  refine wpAny_call (codeAny_mono (F.run X.A X.stack s1 H1 ⟨us, []⟩ (us ++ ds) (vs ++ dvs) Q E hr I2.env0 (hb s1 us I2.kIn hl) r2 q) fun r s' hq => ?_)
  cases r with
  | error e => exact hx s1 e s' I2 hq
  | ok fl =>
    cases fl with
    | ret u => exact I2.after hq
    | next => exact False.elim hq
    | brk => exact False.elim hq
    | cont => exact False.elim hq
end
end L2
namespace M
open PySem PySem.Spec L2
/-! ### defs that raise -/
def PostX (K : PySem.W.Frag) (μ : List Addr) (H : Hp) (Q : VK) (E : XK) (r : R D) : Prop := match r with
  | .ok d st => ∀ (v : V) (H' : Hp) (μ' : List Addr), Grow μ H μ' H' → RepS K μ' H' st → RepV K μ' H' d v → Q v H'
  | .err x st => ∀ (C dx : Addr) (v : V) (H' : Hp) (μ' : List Addr), Grow μ H μ' H' → RepS K μ' H' st → H' dx = some (.xd [("at", v)]) → PySem.W.nsIn K mainGlobals (x.cls : Str) = some (some (.ref C)) → RepV K μ' H' x.fld v → E (.ref C) (some dx) H'
  | .bad => False
def spX (K : PySem.W.Frag) (n : Nat) (fd : FD) : Sp := fun vs H Q E => vs.length = n ∧ ∃ μ ds st, RepVs K μ H ds vs ∧ RepS K μ H st ∧ PostX K μ H Q E (fd ds st)
section
variable {P : Program} {w : World} {K : PySem.W.Frag} {mg : Str → Option Value} {base : Heap}
theorem fn_okX {x qual : Str} {st : Stmt} {f : Addr} {fd : FuncData} {N ps : List Str} {k : Nat} {m : MS} (F : Fun K x qual st f fd) (S : FnScope N ps (defScope st))
    (hbody : ∀ (cdv : Value) (A : Around) (outer : List Env) (s : Shared) (H : Hp) (E : XK) (W : Addr → Addr → Hp → Prop), Room k (A.deeper (PyProof.Rows.envOfC qual (defScope st) s.heap.objs.size f cdv)) →
      JSs ((cxOf (CXM P w) P w K mg base N qual (defScope st) f cdv A outer s H E).wish (Rz (cxOf (CXM P w) P w K mg base N qual (defScope st) f cdv A outer s H E) W)) (defBody st) m) : FnOk P w K mg base (CXM P w) (k + 1) f fd ps (spX K ps.length (fnM N.length m)) := by
  obtain ⟨oc, od, kV, doc, pm, an, cdv, ct, osl, rfl, lk, hcd⟩ := F.ex
  refine fn_of lk hcd S (fun vs H Q E h => h.1) fun A outer s H vs Q E hr hsp => ?_
  obtain ⟨hl, μ, ds, sto, hv, hs, hp⟩ := hsp
  refine ⟨_, fun pins s' σ H' D I hw => wpAny_mono (hbody cdv A outer s H E (fun C dx H' => E (.ref C) (some dx) H') hr pins s' σ H' D (I.wish _) hw) (fun _ _ q => q.unwish) (fun ev s2 z => Rz.leave rfl (fun C dx H' h => h) z), μ, startM N.length ds, sto, RepVs.start N hv, hs, ?_⟩
  unfold fnM at hp
  cases hr : m (startM N.length ds) sto with
  | bad => rw [hr] at hp; exact hp.elim
  | err x st1 =>
    rw [hr] at hp
    rintro pins σ' H' μ' e s' g hs' I ⟨a, C, dx, lo, fl, v, rfl, hlo, xo, hdx, hns, hv⟩
    exact ⟨a, C, dx, v, fl, lo, σ', H', rfl, hlo, I.unwish.nopins, xo, hdx, hp C dx v H' μ' g hs' hdx hns hv⟩
  | ok o st1 =>
    rw [hr] at hp
    cases o with
    | rt d => exact hp
    | nx env => exact fun σ' H' μ' g hs' _ => hp .non H' μ' g hs' (RepV.non_iff.mpr rfl)
    | bk env => exact hp.elim
    | cn env => exact hp.elim
/-- what a raising def leaves behind -/
noncomputable def gcX (st : Stor) (r : R D) : R D := open Classical in match r with
  | .err x st' => if st'.take st.length = st ∧ under st.length x.fld then .err x st else .err x st'
  | r => gc st r
noncomputable def gcFX (F : FD) : FD := fun ds st => gcX st (F ds st)
theorem gc_isOk (st : Stor) (d : D) (st' : Stor) : ∃ d2 st2, gc st (.ok d st') = .ok d2 st2 := by
  unfold gc
  dsimp only
  repeat' (first | split | exact ⟨_, _, rfl⟩)
theorem sp_gcX {n : Nat} {F : FD} {vs : List V} {H : Hp} {Q : VK} {E : XK} (h : spX K n (gcFX F) vs H Q E) : spX K n F vs H Q E := by
  obtain ⟨hl, μ, ds, st, h1, h2, h3⟩ := h
  refine ⟨hl, μ, ds, st, h1, h2, ?_⟩
  unfold gcFX at h3
  cases e : F ds st with
  | bad => rw [e] at h3; exact h3
  | ok d st' =>
    rw [e] at h3
    have h4 : PostX K μ H Q E (gc st (.ok d st')) := h3
    obtain ⟨d2, st2, e2⟩ := gc_isOk st d st'
    have h5 : PostF K μ H Q (gc st (.ok d st')) := by rw [e2] at h4 ⊢; exact h4
    exact gc_post h2 h5
  | err x st' =>
    rw [e] at h3
    unfold gcX at h3
    dsimp only at h3
    split at h3
    · rename_i c
      intro C dx v H' μ' g hs' hdx hns hv
      obtain ⟨ν, rfl⟩ := g.pre
      exact h3 C dx v H' μ ⟨⟨[], by simp⟩, g.ext⟩ (h2.back hs' c.1) hdx hns (RepV.down x.fld hv (by rw [h2.len]; exact c.2))
    · exact h3
end
section
variable {X : Cx} {e : Expr} {es : List Expr} {mA : MA} {pos p : Pos} {x : Str} {k : Nat} {f : Addr} {fd : FuncData} {ps : List Str} {F : FD} {dvs : List V} {ds : List Value} {dd : List D}
/-- what came back, or what the exception is -/
def xkOf (X : Cx) (μ : List Addr) (H : Hp) (x : Xc) (st : Stor) : XK := fun cv odx H' => ∃ C dx v μ', cv = .ref C ∧ odx = some dx ∧ Grow μ H μ' H' ∧ RepS X.K μ' H' st ∧ H' dx = some (.xd [("at", v)]) ∧ PySem.W.nsIn X.K mainGlobals (x.cls : Str) = some (some (.ref C)) ∧ RepV X.K μ' H' x.fld v
end
end M
set_option maxHeartbeats 0
namespace L2
open PySem PySem.Spec PyProof.Rows
/-! ### an exception is caught -/
section
variable {X : Cx} {pins : List (Addr × Obj)} {σ : St} {H : Hp} {s : Shared}
/-- the name goes -/
theorem goes_ok {M : Model} {A : Around} {E : Value → Shared → Prop} {i : Nat} {x : Str} {pos : Pos} {Q : Unit → Shared → Prop} (I : Inv X pins σ H s) (hN : X.N.Nodup) (hi : X.N[i]? = some x) (hk : X.env.scope.names.lookup x = some .local)
    (h : ∀ s', Heap.SameBut X.env.locals s.heap s'.heap → Inv X pins (σ.set i none) H s' → Q () s') : wpAny M A (do bindName X.env x .none; unbindBehindTheSuite X.env x pos) Q E s := by
  obtain ⟨m, hn, hl⟩ := id I.loc
  have hcls : (X.env.scope.kind == .class || (X.env.scope.kind == .module && X.env.locals != X.env.globals)) = false := by rw [I.ok.kind]; rfl
  have hiσ : i < σ.length := by rw [I.len]; exact (List.getElem?_eq_some_iff.mp hi).1
  have cne := I.cne
  refine wpAny_nameGoes_keeps hk hn hcls fun h' v hn' hs => ?_
  obtain ⟨oL, _, _, hoL, _⟩ := id hn
  have tracked : HOk X.prog X.w H h' := fun b ob e => by
    refine (I.hok b ob e).stay (fun c w' hc q => (hs.2 c ?_).trans q) (fun _ q => q) fun _ _ q => q
    rintro rfl
    rcases hc with rfl | hc
    · rw [I.free] at e; cases e
    · rw [I.free] at hc; cases hc
  refine h _ hs ⟨I.ok, I.os, I.bare, ⟨fun b o e n hb hx => ?_, fun b o e n hb hx => ?_, I.base.free, fun b o e hx => ?_, I.base.tups, I.base.frzs, I.base.tbls⟩, ⟨_, hn', fun j y v' e1 e2 e3 => ?_⟩, fun y c e => ?_, I.free, I.freeC, fun p hp => ?_, tracked, by simpa using I.len⟩
  · exact (hs.2 b (Nat.ne_of_lt (Nat.lt_of_lt_of_le (Heap.lt_size e) I.ok.above))).trans (I.base.keep b o e n hb hx)
  · obtain ⟨sl, e1⟩ := I.base.slot b o e n hb hx
    exact ⟨sl, (hs.2 b (Nat.ne_of_lt (Nat.lt_of_lt_of_le (Heap.lt_size e) I.ok.above))).trans e1⟩
  · obtain ⟨o', e1⟩ := I.base.there b o e hx
    exact ⟨o', (hs.2 b (Nat.ne_of_lt (Nat.lt_of_lt_of_le (Heap.lt_size e) I.ok.above))).trans e1⟩
  · by_cases hj : j = i
    · subst hj
      rw [List.getElem?_set_self hiσ] at e2
      cases e2
    · rw [List.getElem?_set_ne (Ne.symm hj)] at e2
      obtain ⟨u', r', q⟩ := hl j y v' e1 e2 e3
      refine ⟨u', r', ?_⟩
      rcases q with ⟨k, e⟩ | ⟨k, c, e, z⟩
      · refine .inl ⟨k, ?_⟩
        have : y ≠ x := fun e => hj (nodup_ix hN e1 (e ▸ hi))
        simp [this, e]
      · exact .inr ⟨k, c, e, z.sameBut hs (cne y c e)⟩
  · obtain ⟨w', z⟩ := I.cell y c e
    exact ⟨w', z.sameBut hs (cne y c e)⟩
  · obtain ⟨e, n, ne, nf, d⟩ := I.pin p hp
    exact ⟨(hs.2 p.1 ne).trans e, n, ne, nf, d⟩
/-- the exception is known from now on -/
theorem Inv.tag {lo : Nat} {e dx : Addr} {oe od : Obj} {vs : Array Value} {fs : List (Str × V)} (I : Inv X pins σ H s) (hpn : ∀ p ∈ X.pn ++ pins, p.1 < lo) (hlo : X.s₀.heap.objs.size ≤ lo) (h1 : lo ≤ e) (h2 : H e = none) (ho : s.heap.get? e = some oe) (hd : oe.data = .fields vs)
    (hdx : H dx = some (.xd fs)) (hod : s.heap.get? dx = some od) : Inv X pins σ (upd (upd H dx (.frz od (.xd fs))) e (.frz oe (.own 0))) s := by
  have ne : dx ≠ e := fun z => by rw [z, h2] at hdx; cases hdx
  have val : ∀ b, b ≠ e → b ≠ dx → upd (upd H dx (.frz od (.xd fs))) e (.frz oe (.own 0)) b = H b := fun b q1 q2 => by rw [upd_ne q1, upd_ne q2]
  have some_ : ∀ b u, H b = some u → u ≠ .xd fs → upd (upd H dx (.frz od (.xd fs))) e (.frz oe (.own 0)) b = some u := fun b u q k => by
    rw [val b (fun z => by rw [z, h2] at q; cases q) (fun z => by rw [z, hdx] at q; exact k (Option.some.inj q).symm)]; exact q
  have none_ : ∀ b, b ≠ e → H b = none → upd (upd H dx (.frz od (.xd fs))) e (.frz oe (.own 0)) b = none := fun b q1 q => by
    rw [val b q1 (fun z => by rw [z, hdx] at q; cases q)]; exact q
  have base : Un X.fs X.ex X.H₀ (upd (upd H dx (.frz od (.xd fs))) e (.frz oe (.own 0))) X.s₀.heap s.heap := by
    obtain ⟨k1, k2, k3, k4, k5, k6, k7⟩ := I.base
    refine ⟨k1, k2, fun b o q n hx => none_ b (fun z => ?_) (k3 b o q n hx), k4, fun b xs q => some_ b _ (k5 b xs q) (fun z => by cases z), fun b o u q => some_ b _ (k6 b o u q) (fun z => by cases z), fun b ps q => let ⟨m, z⟩ := k7 b ps q; ⟨m, some_ b _ z (fun z => by cases z)⟩⟩
    have := Heap.lt_size q
    rw [z] at this
    exact Nat.lt_irrefl _ (Nat.lt_of_lt_of_le this (Nat.le_trans hlo h1))
  have ho2 : ∀ a b, H b = some (.own a) → upd (upd H dx (.frz od (.xd fs))) e (.frz oe (.own 0)) b = some (.own a) := fun a b q => some_ b _ q (fun z => by cases z)
  have ht2 : ∀ b xs, H b = some (.tup xs) → upd (upd H dx (.frz od (.xd fs))) e (.frz oe (.own 0)) b = some (.tup xs) := fun b xs q => some_ b _ q (fun z => by cases z)
  have hok : HOk X.prog X.w (upd (upd H dx (.frz od (.xd fs))) e (.frz oe (.own 0))) s.heap := fun b o q => by
    by_cases z : b = e
    · subst z
      rw [upd_same] at q; cases q
      exact ⟨ho, _, ho⟩
    · by_cases z2 : b = dx
      · subst z2
        rw [upd_ne z, upd_same] at q; cases q
        exact ⟨hod, (I.hok b _ hdx).stay (fun _ _ _ z => z) (ho2 b) ht2⟩
      · rw [val b z z2] at q
        exact (I.hok b o q).stay (fun _ _ _ z => z) (ho2 b) ht2
  refine ⟨I.ok, I.os, I.bare, base, I.loc, I.cell, none_ _ (fun z => ?_) I.free, fun x c q => none_ _ (fun z => ?_) (I.freeC x c q), fun p hp => ?_, hok, I.len⟩
  · obtain ⟨m, ⟨o', es, ep, ho', hd', _⟩, _⟩ := I.loc
    rw [z, ho] at ho'; cases ho'; rw [hd] at hd'; cases hd'
  · obtain ⟨v, o', ho', hd'⟩ := I.cell x c q
    rw [z, ho] at ho'; cases ho'; rw [hd] at hd'; cases hd'
  · obtain ⟨a1, a2, a3, a4, a5⟩ := I.pin p hp
    exact ⟨a1, none_ _ (fun z => Nat.lt_irrefl _ (Nat.lt_of_lt_of_le (hpn p hp) (by rw [z]; exact h1))) a2, a3, a4, a5⟩
/-- while an exception is handled -/
abbrev Cx.mark (X : Cx) (v : Value) : Cx := { X with A := X.A.mark (some v), calm := false }
theorem Cx.Ok.mark {X : Cx} (ok : X.Ok) (v : Value) : (X.mark v).Ok :=
  ⟨ok.mod, ok.kind, ok.glob, ok.blt, ok.above, ok.inj, ok.has, ok.cab, (fun z => by cases z), ok.frames, ok.stk, ok.exf, ok.bs, ok.bsz, ok.noex, ok.exfs, ok.funs, ok.frf⟩
theorem Inv.mark (I : Inv X pins σ H s) (v : Value) : Inv (X.mark v) pins σ H s := ⟨I.ok.mark v, I.os, I.bare, I.base, I.loc, I.cell, I.free, I.freeC, I.pin, I.hok, I.len⟩
theorem Inv.unmark {v : Value} (ok : X.Ok) (I : Inv (X.mark v) pins σ H s) : Inv X pins σ H s := ⟨ok, I.os, I.bare, I.base, I.loc, I.cell, I.free, I.freeC, I.pin, I.hok, I.len⟩
end
theorem match2 {prog : Program} {w : World} {A : Around} {E : Value → Shared → Prop} {h : Heap} {g : Array GenState} {d : Drawn} {t : Nat} {os : OsState} {C C1 fI e : Addr} {oe : Obj} {Q : Bool → Shared → Prop}
    (T : Two h C C1 fI) (hB : ∃ nm q N bs bm hd sn sub ab col dd k0 k1 k2 k3 k5 nid, h.get? C1 = some (excClassObj nm q C1 N bs bm hd sn sub ab col dd k0 k1 k2 k3 k5 nid) ∧ bm.contains (.type "BaseException") = true) (he : h.get? e = some oe) (hcls : oe.cls = .ref C)
    (hq : Q true ⟨h, g, d, t, os⟩) : wpAny (model prog w) A (excMatches (.ref e) (.ref C1)) Q E ⟨h, g, d, t, os⟩ := by
  obtain ⟨nm, q, N, bs, sn, sub, ab, col, dd, k0, k1, k2, k3, k5, mN, hC, _, _⟩ := T.c
  obtain ⟨nm', q', N', bs', bm', hd', sn', sub', ab', col', dd', k0', k1', k2', k3', k5', nid, hC1, hbm⟩ := hB
  have hcB : (Value.ref C1 :: bm').contains (.type "BaseException") = true := by rw [List.contains_cons, hbm, Bool.or_true]
  have hcC : (Value.ref C :: [Value.ref C1, .type "ValueError", .type "Exception", .type "BaseException", .type "object"]).contains (.ref C1) = true := by simp
  have f := tc_notTuple
  unfold excMatches
  repeat (first | (with_reducible refine wpAny_loadPart_at he ?_; rw [hcls]) | with_reducible refine wpAny_loadPart_at hC1 ?_ | (with_reducible refine wpAny_isSubtype_exc hC1 ?_; rw [hcB]) | (with_reducible refine wpAny_isSubtype_exc hC ?_; rw [hcC]) | wp_step)
  exact hq
end L2
set_option maxHeartbeats 0
namespace L2
open PySem PySem.Spec PyProof.Rows
/-- a statement that runs a call and keeps its value at most -/
def BodyOf (X : Cx) (st : Stmt) (c : Expr) (i : Option Nat) : Prop := ∀ (E' : Value → Shared → Prop) (pins : List (Addr × Obj)) (s : Shared) (σ : St) (H : Hp) (D : Ends) (Q : VK), Inv X pins σ H s →
  (∀ v H1, Q v H1 → D.nx (match i with | some i => σ.set i (some v) | none => σ) H1) → wpAny (model X.prog X.w) X.A (eval c X.env) (EP X pins σ Q) E' s → wpAny (model X.prog X.w) X.A (execs [st] X.env) (SP X pins D) E' s
section
variable {X : Cx} {c : Expr} {pos : Pos}
theorem bo_set (i : Nat) {x : Str} {pos' : Pos} (hN : X.N.Nodup) (hi : X.N[i]? = some x := by rfl) (hx : Loc X.env.scope x := by first | exact Or.inl rfl | exact Or.inr rfl) (hs : swapsWith c (some (.Name x pos')) pos.line X.env = pure false := by rfl)
    (hf : X.fn x = true ∨ X.env.scope.names.lookup x = some .local := by first | exact .inl rfl | exact .inr rfl | assumption) : BodyOf X (.Assign [.Name x pos'] c pos) c (some i) := fun E' pins s σ H D Q I hq h =>
  wpAny_execs_cons (wpAny_Assign_Name (thn h fun v s1 ⟨y, H1, I1, r1, q1⟩ => store_ok I1 hN hi hx r1 (fun s2 I2 => wpAny_execs_nil ⟨_, H1, I2, hq _ _ q1⟩) hf) hs)
end
end L2
namespace M
open PySem PySem.Spec L2
def setO (i : Option Nat) (d : D) (env : MEnv) : MEnv := match i with | some i => env.set i (some d) | none => env
/-- try: [x =] f(..)  except C as e: y = e -/
def tryS (i : Option Nat) (ie iy : Nat) (F : FD) (dd : List D) (mA : MA) (ok : String → Bool) : MS := fun env st => match mA env st with
  | .ok as st1 => (match F (as ++ dd) st1 with
    | .ok d st2 => .ok (.nx (setO i d env)) st2
    | .err x st2 => if ok x.cls then .ok (.nx ((env.set iy (some (.loc st2.length))).set ie none)) (st2 ++ [.exc x.cls x.fld]) else .bad
    | .bad => .bad)
  | _ => .bad
section
variable {K : PySem.W.Frag} {μ : List Addr} {H : Hp} {st : Stor} {dx e : Addr} {od oe : Obj} {fs : List (Str × V)}
theorem RepO.notXd {a : Addr} {o : MO} (h : RepO K μ H a o) (hm : o.mut = true) : H a ≠ some (.xd fs) := by
  cases o with
  | lst ds => obtain ⟨xs, h1, _⟩ := h; rw [h1]; intro z; cases z
  | frz ds => cases hm
  | dic kvs => obtain ⟨xs, h1, _⟩ := h; rw [h1]; intro z; cases z
  | dkc kvs => obtain ⟨xs, h1, _⟩ := h; rw [h1]; intro z; cases z
  | dkf kvs => cases hm
  | dtf kvs => cases hm
  | ins c fs => obtain ⟨_, _, _, _, h1, _⟩ := h; rw [h1]; intro z; cases z
  | tab x => obtain ⟨_, _, h1, _⟩ := h; rw [h1]; intro z; cases z
  | clo j l ds => cases hm
  | exc c d => cases hm
  | hid => cases hm
theorem Grow.freeze (hdx : H dx = some (.xd fs)) : Grow μ H μ (upd H dx (.frz od (.xd fs))) :=
  ⟨⟨[], by simp⟩, ⟨fun b xs q => by rw [upd_ne (ne_of q hdx (by intro z; cases z))]; exact q, fun b o u q => by rw [upd_ne (ne_of q hdx (by intro z; cases z))]; exact q⟩⟩
theorem RepS.freeze (h : RepS K μ H st) (hdx : H dx = some (.xd fs)) : RepS K μ (upd H dx (.frz od (.xd fs))) st :=
  ⟨h.len, fun n o e => let ⟨a, h1, h2⟩ := h.at_ n o e; ⟨a, h1, h2.keep (Grow.freeze hdx) fun hm u q => by rw [upd_ne (fun z => h2.notXd hm (by rw [z]; exact hdx))]; exact q⟩, h.uniq⟩
theorem RepS.tag {c : String} {d : D} {v : V} {C : Addr} {vs : Array Value} (h : RepS K μ H st) (he : H e = none) (hdx : H dx = some (.xd [("at", v)])) (hc : oe.cls = .ref C) (hd : oe.dict = some dx) (hf : oe.data = .fields vs) (hn : PySem.W.nsIn K mainGlobals (c : Str) = some (some (.ref C))) (hv : RepV K μ H d v) :
    Grow μ H (μ ++ [e]) (upd (upd H dx (.frz od (.xd [("at", v)]))) e (.frz oe (.own 0))) ∧ RepS K (μ ++ [e]) (upd (upd H dx (.frz od (.xd [("at", v)]))) e (.frz oe (.own 0))) (st ++ [.exc c d]) := by
  have ne : e ≠ dx := fun z => by rw [z, hdx] at he; cases he
  have he1 : upd H dx (.frz od (.xd [("at", v)])) e = none := by rw [upd_ne ne]; exact he
  have g1 : Grow μ H μ (upd H dx (.frz od (.xd [("at", v)]))) := Grow.freeze hdx
  have g2 : Grow μ (upd H dx (.frz od (.xd [("at", v)]))) (μ ++ [e]) (upd (upd H dx (.frz od (.xd [("at", v)]))) e (.frz oe (.own 0))) := Grow.new he1
  refine ⟨g1.trans g2, (h.freeze hdx).new he1 ⟨oe, C, dx, od, v, vs, upd_same, hc, hd, hf, ?_, hn, (hv.mono g1 d).mono g2 d⟩⟩
  rw [upd_ne (Ne.symm ne), upd_same]
end
section
variable {X : Cx} {e : Expr} {es : List Expr} {mA : MA} {pos p p1 p2 p3 p4 p5 p6 : Pos} {x c1 n y : Str} {k : Nat} {f C1 : Addr} {fd : FuncData} {ps : List Str} {F : FD} {dvs : List V} {ds : List Value} {dd : List D} {bst : Stmt} {i : Option Nat} {ie iy : Nat} {ok : String → Bool}
theorem js_try (O : Own X) (G : FnOk X.prog X.w X.K X.mg X.base (CXM X.prog X.w) k f fd ps (spX X.K ps.length F)) (hr : Room k X.A) (hm : X.mg x = some (.ref f)) (hk : PySem.W.keepIn X.K (.ref f) = true) (hb : Binds X.K fd ps ds) (hd : Vals dvs ds)
    (hdd : ∀ μ H, RepVs X.K μ H dd dvs) (ha : JA X.nox (e :: es) mA) (hBo : BodyOf X bst (.Call (.Name x p) (e :: es) [] pos) i) (hN : X.N.Nodup) (hie : X.N[ie]? = some n) (hke : X.env.scope.names.lookup n = some .local) (hiy : X.N[iy]? = some y) (hky : X.env.scope.names.lookup y = some .local)
    (hT : ∀ c C, ok c = true → PySem.W.nsIn X.K mainGlobals (c : Str) = some (some (.ref C)) → ∃ fI, ∀ h, X.K.In h → Two h C C1 fI)
    (hB : ∀ h, X.K.In h → ∃ nm q N bs bm hd sn sub ab col dd k0 k1 k2 k3 k5 nid, h.get? C1 = some (excClassObj nm q C1 N bs bm hd sn sub ab col dd k0 k1 k2 k3 k5 nid) ∧ bm.contains (.type "BaseException") = true)
    (hgc : Gl X c1) (hmc : X.mg c1 = some (.ref C1)) (hlen : (e :: es).length + dvs.length = ps.length := by rfl) (hg : Gl X x := by rfl) (hdb : (x == ("__debug__" : Str)) = false := by decide) (hdb1 : (c1 == ("__debug__" : Str)) = false := by decide)
    (hdn : (n == ("__debug__" : Str)) = false := by decide) (hcn : (n == ("__classdict__" : Str)) = false := by decide)
    (he : starEach (e :: es) X.env = (false, eval e X.env) :: starEach es X.env := by rfl) (hpl : (backTo pos (starEach es X.env)).any (·.1) = false := by rfl)
    (hA : ∀ env st as st1, mA env st = .ok as st1 → as.length = (e :: es).length := by intros; rfl) :
    JS X (.Try [bst] [.ExceptHandler (some (.Name c1 p1)) (some n) [.Assign [.Name y p2] (.Name n p3) p4] p5] [] [] p6) (tryS i ie iy F dd mA ok) := by
  rintro pins s σ H D I ⟨μ, env, st, hE, hs, hp⟩
  unfold tryS at hp
  cases hr2 : mA env st with
  | bad => rw [hr2] at hp; exact hp.elim
  | err y st1 => rw [hr2] at hp; exact hp.elim
  | ok as st1 =>
    rw [hr2] at hp
    dsimp only at hp
    cases hF : F (as ++ dd) st1 with
    | bad => rw [hF] at hp; exact hp.elim
    | ok d st2 =>
      rw [hF] at hp
      have hcall : wpAny (model X.prog X.w) X.A (eval (.Call (.Name x p) (e :: es) [] pos) X.env) (EP X pins σ (fun v H1 => ∃ μ', Grow μ H μ' H1 ∧ RepS X.K μ' H1 st2 ∧ RepV X.K μ' H1 d v)) (fun _ _ => False) s := by
        refine ev_callX (t := tMA X.nox mA) (E' := fun _ _ => False) G hr hg hm hk hb hd (PA.nox (X := X.wish fun _ _ => False) ha) I ⟨μ, env, st, hE, hs, ?_⟩ hdb he hpl
        rw [hr2]
        intro vs H1 μ1 g1 hs1 hv
        have hv' : RepVs X.K μ1 H1 (as ++ dd) (vs ++ dvs) := hv.append (hdd μ1 H1)
        have hl2 : (vs ++ dvs).length = ps.length := by rw [List.length_append, ← hv.length, hA env st as st1 hr2]; exact hlen
        refine ⟨fun _ _ _ => False, ⟨hl2, μ1, as ++ dd, st1, hv', hs1, ?_⟩, ?_⟩
        · rw [hF]; exact fun v H' μ' g hs' hv => ⟨μ', g1.trans g, hs', hv⟩
        · rintro s1 ev s' I1 ⟨_, _, _, _, _, _, _, _, _, _, _, _, z⟩
          exact z.elim
      refine wpAny_Try_except (wpAny_mono (hBo (fun _ _ => False) pins s σ H D _ I ?_ hcall) (fun fl s1 q => ?_) fun _ _ z => z.elim)
      · rintro v H1 ⟨μ', g, hs', hv⟩
        refine hp _ H1 μ' g hs' ?_
        cases i with
        | none => exact hE.mono g
        | some i => exact (hE.mono g).set hv
      · cases fl with
        | next => exact wpAny_execs_nil q
        | ret v => exact q
        | brk => exact q
        | cont => exact q
    | err z st2 =>
      rw [hF] at hp
      dsimp only at hp
      by_cases hok : ok z.cls = true
      · rw [if_pos hok] at hp
        have hcall : wpAny (model X.prog X.w) X.A (eval (.Call (.Name x p) (e :: es) [] pos) X.env) (EP X pins σ (fun v H1 => False)) (fun ev s1 => ∃ a C dx v lo fl H' μ', ev = .ref a ∧ X.s₀.heap.objs.size ≤ lo ∧ (∀ p ∈ X.pn ++ pins, p.1 < lo) ∧ Inv X pins σ H' s1 ∧ Xo lo a C dx fl H' s1.heap ∧ H' dx = some (.xd [("at", v)]) ∧ PySem.W.nsIn X.K mainGlobals (z.cls : Str) = some (some (.ref C)) ∧ RepV X.K μ' H' z.fld v ∧ Grow μ H μ' H' ∧ RepS X.K μ' H' st2) s := by
          refine ev_callX (t := tMA X.nox mA) G hr hg hm hk hb hd (PA.nox (X := X.wish _) ha) I ⟨μ, env, st, hE, hs, ?_⟩ hdb he hpl
          rw [hr2]
          intro vs H1 μ1 g1 hs1 hv
          have hv' : RepVs X.K μ1 H1 (as ++ dd) (vs ++ dvs) := hv.append (hdd μ1 H1)
          have hl2 : (vs ++ dvs).length = ps.length := by rw [List.length_append, ← hv.length, hA env st as st1 hr2]; exact hlen
          refine ⟨xkOf X μ1 H1 z st2, ⟨hl2, μ1, as ++ dd, st1, hv', hs1, by rw [hF]; exact fun C dx v H' μ' g hs' hdx hns hv => ⟨C, dx, v, μ', rfl, rfl, g, hs', hdx, hns, hv⟩⟩, ?_⟩
          rintro s1 ev s' I1 ⟨a, C, dx, v, H', rfl, hos, hb, un, hok, hdx, x, C', dx', v', μ', e1, e2, g, hs', hdx', hns, hv3⟩
          cases e1; cases e2
          exact ⟨a, C, dx, v', _, _, H', μ', rfl, I1.sz, fun p hp => Heap.lt_size (I1.pin p hp).1, I1.call' (ch := []) hos un hok hb (fun b hb => absurd hb (by simp)), x, hdx', hns, hv3, g1.trans g, hs'⟩
        refine wpAny_Try_except (wpAny_mono (hBo _ pins s σ H D _ I (fun _ _ z => z.elim) hcall) (fun fl s1 q => ?_) fun ev s1 q => ?_)
        · cases fl with
          | next => exact wpAny_execs_nil q
          | ret v => exact q
          | brk => exact q
          | cont => exact q
        obtain ⟨a, C, dx, v, lo, fl, H', μ', rfl, hlo, hpp, I1, x, hdx, hns, hv, g, hs'⟩ := q
        refine note_x I1 O hpp hlo x fun h2 I2 x2 => ?_
        refine flight_x (fr := none) I2 O hpp hlo x2 fun h3 I3 x3 => ?_
        obtain ⟨fI, hT2⟩ := hT _ _ hok hns
        obtain ⟨hp1, gn1, d1, t1, os1⟩ := s1
        obtain ⟨_, _, oe, vs, ho, hc, hdx2, hfd, hz, _⟩ := id x3
        have O' : Own (X.mark (.ref a)) := ⟨O.stk, O.frm, O.pn⟩
        refine wpAny_handleBy_cons ?_ (by simp [byPass])
        refine codeAny_handlers_test (ld_glob (X := X.mark (.ref a)) (I3.mark _) hgc hmc ?_ hdb1)
        refine match2 (hT2 h3 I3.kIn) (hB _ I3.kIn) ho hc ?_
        refine codeAny_handlers_suite_as (flight_x (X := X.mark (.ref a)) (fr := none) (I3.mark _) O' hpp hlo x3 fun h4 I4 x4 => ?_)
        obtain ⟨q1, q2, oe4, vs4, ho4, hc4, hdx4, hfd4, hz4, _⟩ := id x4
        obtain ⟨od, hod⟩ : ∃ od, h4.get? dx = some od := by
          obtain ⟨mA, ⟨o, es, ep, h1, h2⟩, _⟩ := (show ObjOk X.prog X.w H' h4 dx (.xd _) from I4.hok dx _ hdx)
          exact ⟨o, h1⟩
        have I5 := I4.tag hpp hlo q1 q2 ho4 hfd4 hdx hod
        obtain ⟨gT, sT⟩ := hs'.tag (oe := oe4) (od := od) (c := z.cls) (d := z.fld) q2 hdx hc4 hdx4 hfd4 hns hv
        refine store_ok (X := X.mark (.ref a)) I5 hN hie (.inl hke) (v := .ref a) rfl (fun s6 I6 => ?_) (.inr hke)
        have hps : PSs (X.mark (.ref a)).nox [.Assign [.Name y p2] (.Name n p3) p4] _ := pss_one (ps_set (X := (X.mark (.ref a)).nox) hN hiy (.inl hky) (pe_var hie (.inl hke) hdn hcn) rfl (.inr hky))
        have hil : ie < σ.length := by rw [I.len]; exact (List.getElem?_eq_some_iff.mp hie).1
        refine wpAny_mono (hps pins s6 _ _ { nx := fun σ' H2 => σ' = (σ.set ie (some (.ref a))).set iy (some (.ref a)) ∧ H2 = upd (upd H' dx (.frz od (.xd [("at", v)]))) a (.frz oe4 (.own 0)), rt := fun _ _ => False } (I6.wish _) ⟨.ref a, by rw [List.getElem?_set_self hil], rfl, rfl⟩) (fun fl s7 q => ?_) fun _ _ z => z.elim
        cases fl with
        | ret v => obtain ⟨_, _, _, _, _, q⟩ := q; exact q.elim
        | brk => obtain ⟨_, _, _, q⟩ := q; exact q.elim
        | cont => obtain ⟨_, _, _, q⟩ := q; exact q.elim
        | next =>
          obtain ⟨σ7, H7, I7, rfl, rfl⟩ := q
          refine goes_ok (X := X) (I7.unwish.unmark I.ok) hN hie hke fun s8 _ I8 => ⟨_, _, I8, ?_⟩
          refine hp _ _ _ (g.trans gT) sT ?_
          have hE2 := hE.mono (g.trans gT)
          refine ⟨by simp [hE2.len], fun j d0 ej => ?_⟩
          by_cases j1 : ie = j
          · subst j1
            rw [List.getElem?_set_self (by simpa [hE2.len] using hil)] at ej; cases ej
          · rw [List.getElem?_set_ne j1] at ej ⊢
            by_cases j2 : iy = j
            · subst j2
              have hl : iy < env.length := by have := (List.getElem?_eq_some_iff.mp ej).1; simpa using this
              rw [List.getElem?_set_self hl] at ej
              cases ej
              refine ⟨.ref a, by rw [List.getElem?_set_self (by simpa [← hE2.len] using hl)], RepV.loc_iff.mpr ⟨a, ?_, rfl⟩⟩
              rw [← hs'.len]; simp
            · rw [List.getElem?_set_ne j2] at ej
              rw [List.getElem?_set_ne j2, List.getElem?_set_ne j1]
              exact hE2.at_ j d0 ej
      · rw [if_neg hok] at hp; exact hp.elim
end
end M
set_option maxHeartbeats 0
namespace L2
open PySem PySem.Spec PyProof.Rows PySem.W
/-! ### classes of exceptions, as the fragment has them -/
def nsOkIn (K : Frag) (N : Addr) (no : List Str) (init : Option Value) : Bool := match K.lookup N with
  | some ⟨_, _, .dict es _, _⟩ => es.toList.all (fun e => match e.key with | .str _ _ => true | _ => false) && no.all (fun x => (nsFind es x).isNone) && (match init with | none => true | some v => nsFind es "__init__" == some v)
  | _ => false
theorem nsOkIn_ok {K : Frag} {h : Heap} {N : Addr} {no : List Str} {init : Option Value} (X : K.In h) (q : nsOkIn K N no init = true) : ∃ mN, h.Ns N mN ∧ (∀ x ∈ no, mN x = none) ∧ ∀ v, init = some v → mN "__init__" = some v := by
  unfold nsOkIn at q
  split at q
  · rename_i cl d es ep sl ho
    simp only [Bool.and_eq_true] at q
    obtain ⟨⟨q1, q2⟩, q3⟩ := q
    refine ⟨nsFind es, ⟨_, es, ep, X _ _ ho, rfl, fun e he => ?_, fun _ => rfl⟩, fun x hx => ?_, fun v hv => ?_⟩
    · have := List.all_eq_true.mp q1 e (by simpa using he)
      split at this
      · rename_i n t hk; exact ⟨n, t, hk⟩
      · cases this
    · simpa using List.all_eq_true.mp q2 x hx
    · subst hv
      simpa using q3
  · cases q
def xcIn (K : Frag) (C : Addr) (bm0 : Option (List Value)) (no : List Str) (init : Option Value) : Bool := match K.lookup C with
  | some ⟨.type "type", _, .cls cd, sl⟩ => (match cd.mro, sl.toList with
    | .ref C' :: bm, [_, _, _, _, some (.builtin n), _] => C' == C && !cd.hasDel && (match bm0 with | none => true | some b => cd.hasDict && n == "ValueError.__new__" && bm == b) && nsOkIn K cd.ns no init
    | _, _ => false)
  | _ => false
theorem xcIn_ok {K : Frag} {h : Heap} {C : Addr} {bm0 : Option (List Value)} {no : List Str} {init : Option Value} (X : K.In h) (q : xcIn K C bm0 no init = true) : ∃ nm qn N bs bm hdct sn sub ab col dd k0 k1 k2 k3 k5 newId mN,
    h.get? C = some (excClassObj nm qn C N bs bm hdct sn sub ab col dd k0 k1 k2 k3 k5 newId) ∧ h.Ns N mN ∧ (∀ x ∈ no, mN x = none) ∧ (∀ v, init = some v → mN "__init__" = some v) ∧ ∀ b, bm0 = some b → bm = b ∧ hdct = true ∧ newId = "ValueError.__new__" := by
  unfold xcIn at q
  split at q
  · rename_i dd cd sl ho
    split at q
    · rename_i C' bm k0 k1 k2 k3 n k5 hm hs
      simp only [Bool.and_eq_true, beq_iff_eq, Bool.not_eq_true'] at q
      obtain ⟨⟨⟨rfl, hdel⟩, hb⟩, hns⟩ := q
      obtain ⟨nm, bs, mro, ns, qn, hd, sn, sub, ab, col, del⟩ := cd
      dsimp only at hm hdel hb hns
      subst hm hdel
      have hsl : sl = #[k0, k1, k2, k3, some (.builtin n), k5] := by
        obtain ⟨l⟩ := sl
        simp only at hs
        rw [hs]
      subst hsl
      obtain ⟨mN, n1, n2, n3⟩ := nsOkIn_ok X hns
      refine ⟨nm, qn, ns, bs, bm, hd, sn, sub, ab, col, dd, k0, k1, k2, k3, k5, n, mN, X _ _ ho, n1, n2, n3, fun b e => ?_⟩
      subst e
      simp only [Bool.and_eq_true, beq_iff_eq] at hb
      exact ⟨hb.2, hb.1.1, hb.1.2⟩
    · cases q
  · cases q
def fnIn (K : Frag) (f : Addr) : Bool := match K.lookup f with
  | some ⟨.type "function", _, _, _⟩ => true
  | _ => false
def twoIn (K : Frag) (C C1 fI : Addr) : Bool :=
  xcIn K C (some [.ref C1, .type "ValueError", .type "Exception", .type "BaseException", .type "object"]) [("__init__" : Str), "at", "__setattr__", "__getattribute__", "__getattr__", "__class__"] none &&
  xcIn K C1 none [("at" : Str), "__setattr__", "__getattribute__", "__getattr__", "__class__"] (some (.ref fI)) && fnIn K fI
theorem two_ok {K : Frag} {h : Heap} {C C1 fI : Addr} (q : twoIn K C C1 fI = true) (X : K.In h) : Two h C C1 fI := by
  unfold twoIn at q
  simp only [Bool.and_eq_true] at q
  obtain ⟨⟨q1, q2⟩, q3⟩ := q
  obtain ⟨nm, qn, N, bs, bm, hd, sn, sub, ab, col, dd, k0, k1, k2, k3, k5, nid, mN, a1, a2, a3, a4, a5⟩ := xcIn_ok X q1
  obtain ⟨rfl, rfl, rfl⟩ := a5 _ rfl
  obtain ⟨nm', qn', N', bs', bm', hd', sn', sub', ab', col', dd', k0', k1', k2', k3', k5', nid', mN', b1, b2, b3, b4, _⟩ := xcIn_ok X q2
  refine ⟨⟨nm, qn, N, bs, sn, sub, ab, col, dd, k0, k1, k2, k3, k5, mN, a1, a2, a3⟩, ⟨nm', qn', N', bs', bm', hd', sn', sub', ab', col', dd', k0', k1', k2', k3', k5', nid', mN', b1, b2, b4 _ rfl, b3⟩, ?_⟩
  unfold fnIn at q3
  split at q3
  · rename_i ho; exact ⟨_, X _ _ ho, rfl⟩
  · cases q3
/-- isinstance of an exception -/
theorem kitx_exc {K : Frag} {a C C1 fI : Addr} {o : Obj} (hT : ∀ h, K.In h → Two h C C1 fI) (hc : o.cls = .ref C) : KitX K (.ref a) (.ref C) (fun h => h.get? a = some o) where
  ty := fun M h _ p => hc ▸ (Looks.ld p).andThen .now
  it := fun _ h X _ => by
    obtain ⟨nm, q, N, bs, sn, sub, ab, col, dd, k0, k1, k2, k3, k5, mN, hC, _⟩ := (hT h X).c
    intro A' Q' E' s' k q
    unfold isType loadHead
    exact wpAny_bind (wpAny_loadPart (k _ _ hC) (wpAny_pure q))
  ne := fun h tp dd its n sl X htp => by
    obtain ⟨nm, q, N, bs, sn, sub, ab, col, dd, k0, k1, k2, k3, k5, mN, hC, _⟩ := (hT h X).c
    refine Bool.eq_false_iff.mpr fun q => ?_
    have e : C = tp := Value.ref.inj (beq_iff_eq.mp q)
    subst e
    have z := congrArg Obj.cls (Option.some.inj (hC.symm.trans htp))
    exact absurd z (by intro w; injection w with w; exact absurd w (by decide))
  ca := fun {prog w A E Q s} X p k => by
    obtain ⟨h, g, d, t, os⟩ := s
    exact cls2 (hT h X) p hc k
end L2
namespace M
open PySem PySem.Spec L2
def exCls (c : String) : Bool := c == "NoProgram" || c == "NoTree"
def subX (c T : String) : Bool := c == T || T == "OneError" || T == "ValueError"
/-- isinstance(e, C), e a caught exception -/
def isXV (T : String) : D → Stor → R D := fun d st => match d with
  | .loc n => (match st[n]? with
    | some (.exc c _) => if exCls c then .ok (.bl (subX c T)) st else .bad
    | _ => .bad)
  | _ => .bad
/-- e.at -/
def atV : D → Stor → R D := fun d st => match d with
  | .loc n => (match st[n]? with
    | some (.exc c (.int i)) => if exCls c then .ok (.int i) st else .bad
    | _ => .bad)
  | _ => .bad
/-- the module's exceptions -/
structure ExcK (K : PySem.W.Frag) (C1 fI CP CT : Addr) : Prop where
  nP : PySem.W.nsIn K mainGlobals (("NoProgram" : String) : Str) = some (some (.ref CP))
  nT : PySem.W.nsIn K mainGlobals (("NoTree" : String) : Str) = some (some (.ref CT))
  tP : twoIn K CP C1 fI = true
  tT : twoIn K CT C1 fI = true
  b1 : PySem.W.ktsIn K C1 "BaseException" = true
  kPT : PySem.W.kitOne K (.ref CP) (.ref CT) = some false
  kTP : PySem.W.kitOne K (.ref CT) (.ref CP) = some false
  kPV : PySem.W.kitOne K (.ref CP) (.type "ValueError") = some true
  kTV : PySem.W.kitOne K (.ref CT) (.type "ValueError") = some true
section
variable {K : PySem.W.Frag} {C1 fI CP CT : Addr}
theorem kit_self {v : Value} : PySem.W.kitOne K v v = some true := by unfold PySem.W.kitOne; rw [if_pos (by simp)]
theorem exCls_cases {c : String} (h : exCls c = true) : c = "NoProgram" ∨ c = "NoTree" := by simpa [exCls] using h
theorem ExcK.two (k : ExcK K C1 fI CP CT) {c : String} {C : Addr} (h : exCls c = true) (hn : PySem.W.nsIn K mainGlobals (c : Str) = some (some (.ref C))) : ∀ h, K.In h → Two h C C1 fI := by
  rcases exCls_cases h with rfl | rfl
  · rw [k.nP] at hn; cases hn; exact fun h X => two_ok k.tP X
  · rw [k.nT] at hn; cases hn; exact fun h X => two_ok k.tT X
theorem ExcK.bse (k : ExcK K C1 fI CP CT) (h : Heap) (X : K.In h) : ∃ nm q N bs bm hd sn sub ab col dd k0 k1 k2 k3 k5 nid, h.get? C1 = some (excClassObj nm q C1 N bs bm hd sn sub ab col dd k0 k1 k2 k3 k5 nid) ∧ bm.contains (.type "BaseException") = true := by
  obtain ⟨nm, qn, N, bs, bm, hdct, sn, sub, ab, col, dd, k0, k1, k2, k3, k5, newId, h1, h2, _⟩ := PySem.W.kts_cls X k.b1
  exact ⟨nm, qn, N, bs, bm, hdct, sn, sub, ab, col, dd, k0, k1, k2, k3, k5, newId, h1, h2⟩
/-- which class is which -/
def KitT (K : PySem.W.Frag) (CP CT : Addr) (T : String) (cv : Value) : Prop := (T = "NoProgram" ∧ cv = .ref CP) ∨ (T = "NoTree" ∧ cv = .ref CT) ∨ (T = "ValueError" ∧ cv = .type "ValueError")
theorem ExcK.kit (k : ExcK K C1 fI CP CT) {c T : String} {C : Addr} {cv : Value} (h : exCls c = true) (hn : PySem.W.nsIn K mainGlobals (c : Str) = some (some (.ref C))) (ht : KitT K CP CT T cv) : PySem.W.kitOne K (.ref C) cv = some (subX c T) := by
  rcases exCls_cases h with rfl | rfl
  · rw [k.nP] at hn; cases hn
    rcases ht with ⟨rfl, rfl⟩ | ⟨rfl, rfl⟩ | ⟨rfl, rfl⟩
    · exact kit_self
    · exact k.kPT
    · exact k.kPV
  · rw [k.nT] at hn; cases hn
    rcases ht with ⟨rfl, rfl⟩ | ⟨rfl, rfl⟩ | ⟨rfl, rfl⟩
    · exact k.kTP
    · exact kit_self
    · exact k.kTV
end
section
variable {X : Cx} {e : Expr} {ma : ME} {p p2 pos : Pos} {C1 fI CP CT : Addr}
def rIx (X : Cx) (T : String) (cv : V) : List V → Hp → VK → Prop := fun xs H Q => ∃ μ st d x, xs = [x, cv] ∧ RepS X.K μ H st ∧ RepV X.K μ H d x ∧ Post X μ H (relV X) Q (isXV T d st)
theorem call_isX {T : String} {cv : V} {cu : Value} (k : ExcK X.K C1 fI CP CT) (ht : KitT X.K CP CT T cu) (hcv : ∀ u, RelV cv u → u = cu) : CallR X (.builtin "isinstance") (rIx X T cv) := by
  rintro pins s σ H xs us Q I hr ⟨μ, st, d, x, rfl, hs, hd, hp⟩
  obtain ⟨u, w', rfl, r1, r2⟩ := vals2 hr
  cases hcv _ r2
  unfold isXV at hp
  split at hp
  · rename_i n
    split at hp
    · rename_i c d2 e1
      split at hp
      · rename_i hc
        obtain ⟨a, q1, rfl⟩ := RepV.loc_iff.mp hd
        obtain ⟨a', r3, oe, C, dx, od, v, fs, h1, h2, h3, h4, h5, h6, h7⟩ := hs.at_ n _ e1
        rw [q1] at r3; cases r3
        cases (show u = Value.ref a from r1)
        have ho : s.heap.get? a = some oe := (show ObjOk X.prog X.w H s.heap a (.frz oe (.own 0)) from I.hok a _ h1).1
        exact PySem.W.kia_one (kitx_exc (k.two hc h6) h2) I.kIn ho (k.kit hc h6 ht) (fun z => nomatch z) fun tk => ⟨.bl (subX c T), H, I.tok tk, rfl, hp.ret hs (RepV.bl_iff.mpr rfl)⟩
      · exact hp.elim
    · exact hp.elim
  · exact hp.elim
theorem je_isX {T : String} {cv : V} {cu : Value} {xT : Str} (k : ExcK X.K C1 fI CP CT) (ht : KitT X.K CP CT T cu) (hcv : ∀ u, RelV cv u → u = cu) (hT : PE X (.Name xT p2) (tC cv)) (h : JE X e ma) (hg : Gl X "isinstance") (hm : X.mg "isinstance" = none)
    (hb : bootBuiltins "isinstance" = some (.builtin "isinstance"))
    (hs1 : starEach [e, .Name xT p2] X.env = [(false, eval e X.env), (false, eval (.Name xT p2) X.env)] := by rfl) (hs2 : starEach [.Name xT p2] X.env = [(false, eval (.Name xT p2) X.env)] := by rfl) (hpl : (backTo pos (starEach [.Name xT p2] X.env)).any (·.1) = false := by rfl) :
    JE X (.Call (.Name "isinstance" p) [e, .Name xT p2] [] pos) (op1 (isXV T) ma) := by
  refine JE.of (pe_callB (call_isX k ht hcv) hg hm hb (pa_cons h (pa_cons hT pa_nil hs2) hs1) (by decide) (by decide) hs1 hpl) fun σ H Q ⟨μ, env, st, hE, hs, hp⟩ => ⟨μ, env, st, hE, hs, (Post.bind hp).imp ?_⟩
  rintro x H1 ⟨μ1, st1, d, g1, hs1, hx, hp1⟩
  exact ⟨μ1, st1, d, x, rfl, hs1, hx, hp1⟩
theorem je_isXc {T : String} {C : Addr} {xT : Str} (k : ExcK X.K C1 fI CP CT) (ht : KitT X.K CP CT T (.ref C)) (hgT : Gl X xT) (hmT : X.mg xT = some (.ref C)) (h : JE X e ma) (hg : Gl X "isinstance") (hm : X.mg "isinstance" = none)
    (hb : bootBuiltins "isinstance" = some (.builtin "isinstance")) (hdT : (xT == ("__debug__" : Str)) = false := by decide)
    (hs1 : starEach [e, .Name xT p2] X.env = [(false, eval e X.env), (false, eval (.Name xT p2) X.env)] := by rfl) (hs2 : starEach [.Name xT p2] X.env = [(false, eval (.Name xT p2) X.env)] := by rfl) (hpl : (backTo pos (starEach [.Name xT p2] X.env)).any (·.1) = false := by rfl) :
    JE X (.Call (.Name "isinstance" p) [e, .Name xT p2] [] pos) (op1 (isXV T) ma) := je_isX (cv := .ref C) k ht (fun u r => r) (pe_glob hgT hmT rfl hdT) h hg hm hb hs1 hs2 hpl
theorem je_isXv {xT : Str} (k : ExcK X.K C1 fI CP CT) (hgT : Gl X xT) (hmT : X.mg xT = none) (hv : bootBuiltins xT = some (.type "ValueError")) (h : JE X e ma) (hg : Gl X "isinstance") (hm : X.mg "isinstance" = none)
    (hb : bootBuiltins "isinstance" = some (.builtin "isinstance")) (hnT : xT ≠ "__name__" := by decide) (hdT : (xT == ("__debug__" : Str)) = false := by decide)
    (hs1 : starEach [e, .Name xT p2] X.env = [(false, eval e X.env), (false, eval (.Name xT p2) X.env)] := by rfl) (hs2 : starEach [.Name xT p2] X.env = [(false, eval (.Name xT p2) X.env)] := by rfl) (hpl : (backTo pos (starEach [.Name xT p2] X.env)).any (·.1) = false := by rfl) :
    JE X (.Call (.Name "isinstance" p) [e, .Name xT p2] [] pos) (op1 (isXV "ValueError") ma) := je_isX (cv := .ty "ValueError") k (.inr (.inr ⟨rfl, rfl⟩)) (fun u r => r) (pe_bltn hgT hmT hv rfl hnT hdT) h hg hm hb hs1 hs2 hpl
theorem je_at (k : ExcK X.K C1 fI CP CT) (he : JE X e ma) (hb : attributeBase e "at" X.env (eval e X.env) = eval e X.env := by rfl) : JE X (.Attribute e "at" pos) (op1 atV ma) := by
  rintro pins s σ H Q I ⟨μ, env, st, hE, hs, hp⟩
  refine attr_of hb (thn (he pins s σ H _ I ⟨μ, env, st, hE, hs, Post.bind hp⟩) fun u s1 ⟨x, H1, I1, rx, μ1, st1, d, g1, hs1, hd, hp1⟩ => ?_)
  unfold atV at hp1
  dsimp only at hp1
  split at hp1
  · rename_i n
    split at hp1
    · rename_i c i e1
      split at hp1
      · rename_i hc
        obtain ⟨a, q1, rfl⟩ := RepV.loc_iff.mp hd
        obtain ⟨a', r3, oe, C, dx, od, v, fs, h1, h2, h3, h4, h5, h6, h7⟩ := hs1.at_ n _ e1
        rw [q1] at r3; cases r3
        cases (show u = Value.ref a from rx)
        rw [RepV.int_iff] at h7; subst h7
        have ho : s1.heap.get? a = some oe := (show ObjOk X.prog X.w H1 s1.heap a (.frz oe (.own 0)) from I1.hok a _ h1).1
        obtain ⟨_, mA, hns, hl⟩ := (show ObjOk X.prog X.w H1 s1.heap dx (.frz od (.xd _)) from I1.hok dx _ h5)
        have hl2 := hl "at"
        obtain ⟨w, hw, rw2⟩ : ∃ w, mA "at" = some w ∧ RelV (.int i) w := by
          cases hm : mA "at" with
          | none => rw [hm] at hl2; exact hl2.elim
          | some w => rw [hm] at hl2; exact ⟨w, rfl, hl2⟩
        obtain ⟨h, g, dd, t, os⟩ := s1
        refine load2 (k.two hc h6 _ I1.kIn) ho h2 h4 h3 hns hw ?_ fun tk => ⟨.int i, H1, I1.tok tk, rw2, hp1.ret hs1 (RepV.int_iff.mpr rfl)⟩
        obtain ⟨tk, rfl⟩ : ∃ tk, w = .int i tk := by
          cases w <;> simp [RelV] at rw2
          exact ⟨_, by rw [rw2]⟩
        rfl
      · exact hp1.elim
    · exact hp1.elim
  · exact hp1.elim
end
end M
namespace L2
open PySem PySem.Spec PyProof.Rows PySem.Calls
section
variable {X : Cx}
end
end L2
namespace M
open PySem PySem.Spec L2
section
variable {X : Cx}
end
end M
namespace M
end M
namespace L2
open PySem PySem.Spec PyProof.Rows
section
variable {X : Cx}
end
end L2
namespace M
open PySem PySem.Spec L2
end M
namespace M
open PySem PySem.Spec L2
/-- a sign not in a text -/
def notInSV : D → D → Stor → R D
  | .str [c], .str cs, st => if cs.length ≤ 1000000 then .ok (.bl (!decide (c ∈ cs))) st else .bad
  | _, _, _ => .bad
theorem op_notInSV {X : Cx} : OpR X (compareOp .NotIn) (rM X notInSV) := by
  refine OpR.weak op_notIn_str ?_
  rintro x y H Q ⟨μ, st, dx, dy, hs, hx, hy, hp⟩
  unfold notInSV at hp
  split at hp
  · rename_i c cs
    split at hp
    · obtain rfl := RepV.str_iff.mp hx
      obtain rfl := RepV.str_iff.mp hy
      refine ⟨_, _, rfl, rfl, ?_⟩
      have e := PySem.StrLaws.found_one (strOf cs) c
      have e2 : (strOf [c]) = ⟨#[c]⟩ := rfl
      rw [e2, e]
      refine hp.ret hs (RepV.bl_iff.mpr ?_)
      simp
    · exact hp.elim
  · exact hp.elim
end M
set_option maxHeartbeats 0
namespace Law
open PySem PySem.Spec L2 M
def top (i : Nat) : Stmt := PySem.Challenge.pw_oneofall_k57_no_texts.main.body.getD i (.Pass ⟨0, 0, 0, 0⟩)
abbrev s_p_joint : Stmt := top 5
abbrev s_p_is_done : Stmt := top 6
abbrev s_p_leaves : Stmt := top 7
abbrev s_p_is_value : Stmt := top 8
abbrev s_p_tree_read : Stmt := top 11
abbrev s_p_may_stand : Stmt := top 12
abbrev s_p_tree_show : Stmt := top 13
abbrev s_l_cell_at : Stmt := top 15
abbrev s_l_draws : Stmt := top 16
abbrev s_l_text : Stmt := top 17
abbrev s_l_sign : Stmt := top 18
abbrev s_l_spoilt : Stmt := top 19
abbrev s_l_chain : Stmt := top 20
abbrev s_l_fault : Stmt := top 21
abbrev s_l_found : Stmt := top 22
abbrev s_p_law : Stmt := top 23
abbrev s_init : Stmt := (clsBody (top 1)).getD 0 (.Pass ⟨0, 0, 0, 0⟩)
/-! ### the denotations -/
noncomputable def b_p_is_value : MS :=
    (retS (orV (op1 (isV "str") (vr 0)) (op2 ixV (vr 0) (ct (.int 3)))))
noncomputable def F_p_is_value : FD := gcF (fnM 1 b_p_is_value)
noncomputable def b_p_is_done : MS :=
    (seqS (ifS (notT (tru (callF F_p_is_value [] (consA (vr 1) nilA)))) (retS (ct (.bl false))) skipS)
    (seqS (ifS (tru (op1 (isV "str") (vr 0))) (retS (orV (op2 (eqV 800) (vr 0) (ct (.str [83]))) (op2 (eqV 800) (vr 0) (ct (.str [75]))))) skipS)
    (retS (andV (op2 (eqV 800) (op2 ixV (vr 0) (ct (.int 0))) (ct (.str [83]))) (op2 ixV (vr 0) (ct (.int 3)))))))
noncomputable def F_p_is_done : FD := gcF (fnM 2 b_p_is_done)
noncomputable def b_p_leaves : MS :=
    (seqS (ifS (tru (op1 (isV "str") (vr 0))) (retS (ct (.int 1))) skipS)
    (retS (op2 ixV (vr 0) (ct (.int 2)))))
noncomputable def F_p_leaves : FD := gcF (fnM 1 b_p_leaves)
noncomputable def b_p_joint : MS :=
    (retS (tupE (consA (vr 0) (consA (vr 1) (consA (op2 addV (callF F_p_leaves [] (consA (vr 0) nilA)) (callF F_p_leaves [] (consA (vr 1) nilA))) (consA (callF F_p_is_done [] (consA (vr 0) (consA (vr 1) nilA))) nilA))))))
noncomputable def F_p_joint : FD := gcF (fnM 2 b_p_joint)
noncomputable def b_p_may_stand : MS :=
    (seqS (setS 2 (op2 ixV (vr 1) (op1 negV (ct (.int 1)))))
    (seqS (ifS (andT (tB1 (op2 (eqV 800) (callE lenV (consA (vr 1) nilA)) (ct (.int 1)))) (tB1 (op2 (eqV 800) (callE lenV (consA (vr 2) nilA)) (ct (.int 1))))) (retS (ct (.bl false))) skipS)
    (seqS (ifS (tB1 (op2 (eqV 800) (callE lenV (consA (vr 2) nilA)) (ct (.int 2)))) (retS (op2 (eqV 800) (vr 0) (ct (.str [41])))) skipS)
    (seqS (ifS (tB1 (op2 (eqV 800) (vr 0) (ct (.str [40])))) (retS (op2 leV (callE lenV (consA (vr 1) nilA)) (ct (.int 300)))) skipS)
    (retS (orV (op2 (eqV 800) (vr 0) (ct (.str [83]))) (op2 (eqV 800) (vr 0) (ct (.str [75])))))))))
noncomputable def F_p_may_stand : FD := gcF (fnM 3 b_p_may_stand)
noncomputable def b_p_tree_read : MS :=
    (seqS (setS 1 (lstE (consA (lstE nilA) nilA)))
    (seqS (forS (enumSI (consA (vr 0) nilA)) (tupG 2 (consG (nameG 2) (consG (nameG 3) nilG))) (seqS (ifS (notT (tru (callF F_p_may_stand [] (consA (vr 3) (consA (vr 1) nilA))))) (raiseS "NoTree" (consA (vr 2) nilA)) skipS)
    (ifS (tB1 (op2 (eqV 800) (vr 3) (ct (.str [40])))) (exprS (methE "list" appendV (vr 1) (consA (lstE nilA) nilA))) (ifS (tB1 (op2 (eqV 800) (vr 3) (ct (.str [41])))) (seqS (setS 4 (meth0E "list" popV (vr 1)))
    (exprS (methE "list" appendV (op2 ixV (vr 1) (op1 negV (ct (.int 1)))) (consA (callF F_p_joint [] (consA (op2 ixV (vr 4) (ct (.int 0))) (consA (op2 ixV (vr 4) (ct (.int 1))) nilA))) nilA)))) (exprS (methE "list" appendV (op2 ixV (vr 1) (op1 negV (ct (.int 1)))) (consA (vr 3) nilA)))))))
    (seqS (ifS (tB1 (op2 (eqNV 800) (op2 ixV (vr 1) (ct (.int 0))) (lstE nilA))) (raiseS "NoTree" (consA (callE lenV (consA (vr 0) nilA)) nilA)) skipS)
    (retS (op2 ixV (op2 ixV (vr 1) (ct (.int 0))) (ct (.int 0)))))))
noncomputable def F_p_tree_read : FD := gcFX (fnM 5 b_p_tree_read)
noncomputable def b_p_tree_show : MS :=
    (seqS (setS 1 (lstE nilA))
    (seqS (setS 2 (lstE (consA (vr 0) nilA)))
    (seqS (whileW (tru (vr 2)) (seqS (setS 3 (meth0E "list" popV (vr 2)))
    (ifS (tru (op1 (isV "str") (vr 3))) (exprS (methE "list" appendV (vr 1) (consA (vr 3) nilA))) (seqS (exprS (methE "list" appendV (vr 1) (consA (ct (.str [40])) nilA)))
    (exprS (methE "list" extendV (vr 2) (consA (lstE (consA (ct (.str [41])) (consA (op2 ixV (vr 3) (ct (.int 1))) (consA (op2 ixV (vr 3) (ct (.int 0))) nilA)))) nilA)))))))
    (retS (methE "str" joinV (ct (.str [])) (consA (vr 1) nilA))))))
noncomputable def F_p_tree_show : FD := gcF (fnM 4 b_p_tree_show)
noncomputable def b_l_cell_at : MS :=
    (seqS (ifS (tB1 (op2 ltV (vr 1) (callE lenV (consA (vr 0) nilA)))) (retS (op2 ixV (vr 0) (vr 1))) skipS)
    (retS (ct (.int 0))))
noncomputable def F_l_cell_at : FD := gcF (fnM 2 b_l_cell_at)
noncomputable def b_l_draws : MS :=
    (seqS (setS 4 (op2 modV (op2 modV (op2 addV (op2 mulV (callF F_l_cell_at [] (consA (vr 0) (consA (ct (.int 0)) nilA))) (ct (.int 7919))) (ct (.int 13))) (ct (.int 10007))) (ct (.int 3))))
    (seqS (ifS (tB1 (op2 (eqV 800) (vr 4) (ct (.int 0)))) (retS (slE (vr 0) (inP (vr 1)) (inP (op2 addV (vr 1) (vr 2))))) skipS)
    (seqS (setS 5 (callF F_l_cell_at [] (consA (vr 0) (consA (vr 1) nilA))))
    (seqS (setS 6 (lstE nilA))
    (seqS (ifS (tB1 (op2 (eqV 800) (vr 4) (ct (.int 1)))) (seqS (forS (range1I (consA (vr 2) nilA)) (nameG 7) (seqS (exprS (methE "list" appendV (vr 6) (consA (op2 modV (vr 5) (vr 3)) nilA)))
    (setS 5 (op2 fdivV (vr 5) (vr 3)))))
    (retS (vr 6))) skipS)
    (seqS (setS 8 (op2 modV (vr 5) (ct (.int 2147483647))))
    (seqS (forS (range1I (consA (op2 addV (ct (.int 1)) (op2 modV (vr 5) (vr 2))) nilA)) (nameG 7) (seqS (setS 8 (op2 modV (op2 addV (op2 addV (op2 mulV (vr 8) (ct (.int 48271))) (ct (.int 11))) (vr 7)) (ct (.int 2147483647))))
    (exprS (methE "list" appendV (vr 6) (consA (op2 modV (op2 mulV (op2 fdivV (vr 8) (ct (.int 64))) (ct (.int 69621))) (ct (.int 1000003))) nilA)))))
    (retS (vr 6)))))))))
noncomputable def F_l_draws : FD := gcF (fnM 9 b_l_draws)
noncomputable def b_l_text : MS :=
    (seqS (setS 1 (lstE nilA))
    (seqS (forS (seqI (vr 0)) (nameG 2) (ifS (andT (tB1 (op2 ltV (op2 modV (vr 2) (ct (.int 5))) (ct (.int 2)))) (tB1 (op2 gtV (callE lenV (consA (vr 1) nilA)) (ct (.int 1))))) (seqS (setS 3 (meth0E "list" popV (vr 1)))
    (exprS (methE "list" appendV (vr 1) (consA (op2 addV (op2 addV (op2 addV (ct (.str [40])) (meth0E "list" popV (vr 1))) (vr 3)) (ct (.str [41]))) nilA)))) (exprS (methE "list" appendV (vr 1) (consA (op2 ixV (ct (.str [83, 75])) (op2 modV (op2 fdivV (vr 2) (ct (.int 5))) (ct (.int 2)))) nilA)))))
    (seqS (ifS (tB1 (op2 (eqNV 800) (vr 1) (lstE nilA))) (exprS (methE "list" appendV (vr 1) (consA (ct (.str [75])) nilA))) skipS)
    (seqS (whileW (tB1 (op2 gtV (callE lenV (consA (vr 1) nilA)) (ct (.int 1)))) (seqS (setS 3 (meth0E "list" popV (vr 1)))
    (exprS (methE "list" appendV (vr 1) (consA (op2 addV (op2 addV (op2 addV (ct (.str [40])) (meth0E "list" popV (vr 1))) (vr 3)) (ct (.str [41]))) nilA)))))
    (retS (op2 ixV (vr 1) (ct (.int 0))))))))
noncomputable def F_l_text : FD := gcF (fnM 4 b_l_text)
noncomputable def b_l_sign : MS :=
    (seqS (ifS (tB1 (op2 (eqV 800) (op2 modV (vr 0) (ct (.int 2))) (ct (.int 0)))) (retS (op2 ixV (ct (.str [83, 75, 40, 41])) (op2 modV (op2 fdivV (vr 0) (ct (.int 2))) (ct (.int 4))))) skipS)
    (seqS (setS 1 (ct (.str [32, 33, 34, 35, 36, 38, 39, 40, 41, 42, 43, 44, 45, 46, 47, 48, 49, 50, 51, 52, 53, 54, 55, 56, 57, 58, 59, 60, 61, 62, 63, 64, 65, 66, 67, 68, 69, 70, 71, 72, 73, 74, 75, 76, 77, 78, 79, 80, 81, 82, 83, 84, 85, 86, 87, 88, 89, 90, 91, 92, 93, 94, 95, 96, 97, 98, 99, 100, 101, 102, 103, 104, 105, 106, 107, 108, 109, 110, 111, 112, 113, 114, 115, 116, 117, 118, 119, 120, 121, 122, 123, 124, 125, 126, 10])))
    (retS (op2 ixV (vr 1) (op2 modV (op2 fdivV (vr 0) (ct (.int 2))) (ct (.int 95)))))))
noncomputable def F_l_sign : FD := gcF (fnM 2 b_l_sign)
noncomputable def b_l_spoilt : MS :=
    (seqS (setS 3 (op2 modV (op2 fdivV (vr 1) (ct (.int 5))) (callE lenV (consA (vr 0) nilA))))
    (seqS (ifS (tB1 (op2 (eqV 800) (op2 modV (vr 1) (ct (.int 5))) (ct (.int 0)))) (retS (op2 addV (op2 addV (slE (vr 0) noP (inP (vr 3))) (callF F_l_sign [] (consA (vr 2) nilA))) (slE (vr 0) (inP (vr 3)) noP))) skipS)
    (seqS (ifS (tB1 (op2 (eqV 800) (op2 modV (vr 1) (ct (.int 5))) (ct (.int 1)))) (retS (op2 addV (op2 addV (slE (vr 0) noP (inP (vr 3))) (callF F_l_sign [] (consA (vr 2) nilA))) (slE (vr 0) (inP (op2 addV (vr 3) (ct (.int 1)))) noP))) skipS)
    (seqS (ifS (tB1 (op2 (eqV 800) (op2 modV (vr 1) (ct (.int 5))) (ct (.int 2)))) (retS (op2 addV (slE (vr 0) noP (inP (vr 3))) (slE (vr 0) (inP (op2 addV (vr 3) (ct (.int 1)))) noP))) skipS)
    (seqS (ifS (tB1 (op2 (eqV 800) (op2 modV (vr 1) (ct (.int 5))) (ct (.int 3)))) (retS (slE (vr 0) noP (inP (vr 3)))) skipS)
    (retS (op2 addV (vr 0) (op2 ixV (lstE (consA (callF F_l_sign [] (consA (vr 2) nilA)) (consA (ct (.str [40, 83, 75, 41])) (consA (ct (.str [75])) nilA)))) (op2 modV (op2 fdivV (vr 1) (ct (.int 5))) (ct (.int 3)))))))))))
noncomputable def F_l_spoilt : FD := gcF (fnM 4 b_l_spoilt)
noncomputable def b_l_chain : MS :=
    (seqS (setS 2 (ct (.str [])))
    (seqS (setS 3 (ct (.str [])))
    (seqS (forS (range1I (consA (vr 0) nilA)) (nameG 4) (seqS (setS 5 (op2 ixV (ct (.str [83, 75])) (op2 modV (op2 fdivV (vr 1) (ct (.int 2))) (ct (.int 2)))))
    (seqS (ifS (tB1 (op2 (eqV 800) (op2 modV (vr 1) (ct (.int 2))) (ct (.int 0)))) (seqS (setS 2 (op2 addV (op2 addV (vr 2) (ct (.str [40]))) (vr 5)))
    (setS 3 (op2 addV (ct (.str [41])) (vr 3)))) (seqS (setS 2 (op2 addV (vr 2) (ct (.str [40]))))
    (setS 3 (op2 addV (op2 addV (vr 5) (ct (.str [41]))) (vr 3)))))
    (setS 1 (op2 modV (op2 addV (op2 mulV (vr 1) (ct (.int 48271))) (ct (.int 11))) (ct (.int 2147483647)))))))
    (retS (op2 addV (op2 addV (vr 2) (ct (.str [83]))) (vr 3))))))
noncomputable def F_l_chain : FD := gcF (fnM 6 b_l_chain)
noncomputable def b_l_fault : MS :=
    (seqS (setS 1 (lstE nilA))
    (seqS (setS 2 (ct (.bl false)))
    (seqS (forS (range1I (consA (callE lenV (consA (vr 0) nilA)) nilA)) (nameG 3) (seqS (setS 4 (op2 ixV (vr 0) (vr 3)))
    (seqS (ifS (orT (tru (vr 2)) (tB1 (op2 notInSV (vr 4) (ct (.str [83, 75, 40, 41]))))) (retS (vr 3)) skipS)
    (seqS (ifS (tB1 (op2 (eqV 800) (vr 4) (ct (.str [41])))) (ifS (orT (tB1 (op2 (eqNV 800) (vr 1) (lstE nilA))) (tB1 (op2 (neV 800) (meth0E "list" popV (vr 1)) (ct (.int 2))))) (retS (vr 3)) skipS) (ifS (andT (tB1 (op2 (neV 800) (vr 1) (lstE nilA))) (tB1 (op2 (eqV 800) (op2 ixV (vr 1) (op1 negV (ct (.int 1)))) (ct (.int 2))))) (retS (vr 3)) skipS))
    (seqS (ifS (andT (tB1 (op2 (eqV 800) (vr 4) (ct (.str [40])))) (tB1 (op2 (eqV 800) (callE lenV (consA (vr 1) nilA)) (ct (.int 300))))) (retS (vr 3)) skipS)
    (ifS (tB1 (op2 (eqV 800) (vr 4) (ct (.str [40])))) (exprS (methE "list" appendV (vr 1) (consA (ct (.int 0)) nilA))) (ifS (tB1 (op2 (eqNV 800) (vr 1) (lstE nilA))) (setS 2 (ct (.bl true))) (asgS (op2 addV (op2 ixV (vr 1) (op1 negV (ct (.int 1)))) (ct (.int 1))) (subG setV (vr 1) (op1 negV (ct (.int 1))))))))))))
    (seqS (ifS (tru (vr 2)) (retS (ct .non)) skipS)
    (retS (callE lenV (consA (vr 0) nilA)))))))
noncomputable def F_l_fault : FD := gcF (fnM 5 b_l_fault)
noncomputable def b_l_found : MS :=
    (seqS (setS 1 (ct .non))
    (seqS (setS 2 (ct .non))
    (seqS (tryS (some 1) 3 2 F_p_tree_read [] (consA (vr 0) nilA) exCls)
    (seqS (ifS (tB1 (op2 isNoneV (vr 2) (ct .non))) (retS (lstE (consA (ct (.str [116, 114, 101, 101])) (consA (vr 1) nilA)))) skipS)
    (seqS (ifS (orT (tru (op1 (isXV "NoProgram") (vr 2))) (orT (notT (tru (op1 (isXV "NoTree") (vr 2)))) (notT (tru (op1 (isXV "ValueError") (vr 2)))))) (retS (lstE (consA (ct (.str [111, 116, 104, 101, 114])) (consA (ct (.int 0)) nilA)))) skipS)
    (seqS (ifS (orT (notT (tru (op1 (isV "int") (op1 atV (vr 2))))) (tru (op1 (isV "bool") (op1 atV (vr 2))))) (retS (lstE (consA (ct (.str [111, 116, 104, 101, 114])) (consA (ct (.int 0)) nilA)))) skipS)
    (retS (lstE (consA (ct (.str [110, 111, 110, 101])) (consA (op1 atV (vr 2)) nilA))))))))))
noncomputable def F_l_found : FD := gcF (fnM 4 b_l_found)
noncomputable def b_p_law : MS :=
    (seqS (setS 1 (callF F_l_text [] (consA (callF F_l_draws [] (consA (vr 0) (consA (ct (.int 3)) (consA (ct (.int 50)) (consA (ct (.int 10)) nilA))))) nilA)))
    (seqS (setS 2 (callF F_l_spoilt [] (consA (vr 1) (consA (callF F_l_cell_at [] (consA (vr 0) (consA (ct (.int 0)) nilA))) (consA (callF F_l_cell_at [] (consA (vr 0) (consA (ct (.int 1)) nilA))) nilA)))))
    (seqS (setS 3 (callF F_l_fault [] (consA (vr 2) nilA)))
    (seqS (ifS (tB1 (op2 (eqV 800) (op2 modV (callF F_l_cell_at [] (consA (vr 0) (consA (ct (.int 2)) nilA))) (ct (.int 8))) (ct (.int 1)))) (seqS (setS 2 (callF F_l_chain [] (consA (op2 addV (ct (.int 290)) (op2 modV (op2 fdivV (callF F_l_cell_at [] (consA (vr 0) (consA (ct (.int 2)) nilA))) (ct (.int 8))) (ct (.int 40)))) (consA (op2 modV (callF F_l_cell_at [] (consA (vr 0) (consA (ct (.int 1)) nilA))) (ct (.int 2147483647))) nilA))))
    (setS 3 (callF F_l_fault [] (consA (vr 2) nilA)))) skipS)
    (seqS (setS 4 (callF F_l_found [] (consA (vr 2) nilA)))
    (seqS (ifS (tB1 (op2 isNoneV (vr 3) (ct .non))) (ifS (orT (tB1 (op2 (neV 800) (op2 ixV (vr 4) (ct (.int 0))) (ct (.str [116, 114, 101, 101])))) (tB1 (op2 (neV 800) (callF F_p_tree_show [] (consA (op2 ixV (vr 4) (ct (.int 1))) nilA)) (vr 2)))) (retS (ct (.bl false))) skipS) (ifS (tB1 (op2 (neV 800) (vr 4) (lstE (consA (ct (.str [110, 111, 110, 101])) (consA (vr 3) nilA))))) (retS (ct (.bl false))) skipS))
    (seqS (setS 5 (callF F_l_found [] (consA (vr 1) nilA)))
    (retS (andV (op2 (eqV 800) (op2 ixV (vr 5) (ct (.int 0))) (ct (.str [116, 114, 101, 101]))) (andV (op2 (eqV 800) (callF F_p_tree_show [] (consA (op2 ixV (vr 5) (ct (.int 1))) nilA)) (vr 1)) (op2 (eqV 800) (op2 ixV (callF F_l_found [] (consA (vr 2) nilA)) (ct (.int 0))) (op2 ixV (vr 4) (ct (.int 0))))))))))))))
noncomputable def F_p_law : FD := gcF (fnM 6 b_p_law)
/-! ### the text as it stands behind the top -/
structure Adr where
  a_p_joint : Addr
  d_p_joint : FuncData
  a_p_is_done : Addr
  d_p_is_done : FuncData
  a_p_leaves : Addr
  d_p_leaves : FuncData
  a_p_is_value : Addr
  d_p_is_value : FuncData
  a_p_tree_read : Addr
  d_p_tree_read : FuncData
  a_p_may_stand : Addr
  d_p_may_stand : FuncData
  a_p_tree_show : Addr
  d_p_tree_show : FuncData
  a_l_cell_at : Addr
  d_l_cell_at : FuncData
  a_l_draws : Addr
  d_l_draws : FuncData
  a_l_text : Addr
  d_l_text : FuncData
  a_l_sign : Addr
  d_l_sign : FuncData
  a_l_spoilt : Addr
  d_l_spoilt : FuncData
  a_l_chain : Addr
  d_l_chain : FuncData
  a_l_fault : Addr
  d_l_fault : FuncData
  a_l_found : Addr
  d_l_found : FuncData
  a_p_law : Addr
  d_p_law : FuncData
  a_init : Addr
  d_init : FuncData
  c_One : Addr
  c_P : Addr
  c_T : Addr
structure Txt (K : PySem.W.Frag) (mg : Str → Option Value) (A : Adr) : Prop where
  f_p_joint : Fun K "joint" "joint" s_p_joint A.a_p_joint A.d_p_joint
  m_p_joint : mg "joint" = some (.ref A.a_p_joint)
  b_p_joint : Binds K A.d_p_joint ["left", "right"] []
  f_p_is_done : Fun K "is_done" "is_done" s_p_is_done A.a_p_is_done A.d_p_is_done
  m_p_is_done : mg "is_done" = some (.ref A.a_p_is_done)
  b_p_is_done : Binds K A.d_p_is_done ["left", "right"] []
  f_p_leaves : Fun K "leaves" "leaves" s_p_leaves A.a_p_leaves A.d_p_leaves
  m_p_leaves : mg "leaves" = some (.ref A.a_p_leaves)
  b_p_leaves : Binds K A.d_p_leaves ["tree"] []
  f_p_is_value : Fun K "is_value" "is_value" s_p_is_value A.a_p_is_value A.d_p_is_value
  m_p_is_value : mg "is_value" = some (.ref A.a_p_is_value)
  b_p_is_value : Binds K A.d_p_is_value ["tree"] []
  f_p_tree_read : Fun K "tree_read" "tree_read" s_p_tree_read A.a_p_tree_read A.d_p_tree_read
  m_p_tree_read : mg "tree_read" = some (.ref A.a_p_tree_read)
  b_p_tree_read : Binds K A.d_p_tree_read ["text"] []
  f_p_may_stand : Fun K "may_stand" "may_stand" s_p_may_stand A.a_p_may_stand A.d_p_may_stand
  m_p_may_stand : mg "may_stand" = some (.ref A.a_p_may_stand)
  b_p_may_stand : Binds K A.d_p_may_stand ["sign", "opened"] []
  f_p_tree_show : Fun K "tree_show" "tree_show" s_p_tree_show A.a_p_tree_show A.d_p_tree_show
  m_p_tree_show : mg "tree_show" = some (.ref A.a_p_tree_show)
  b_p_tree_show : Binds K A.d_p_tree_show ["tree"] []
  f_l_cell_at : Fun K "_law_cell_at" "_law_cell_at" s_l_cell_at A.a_l_cell_at A.d_l_cell_at
  m_l_cell_at : mg "_law_cell_at" = some (.ref A.a_l_cell_at)
  b_l_cell_at : Binds K A.d_l_cell_at ["_law_script", "_law_k"] []
  f_l_draws : Fun K "_law_draws" "_law_draws" s_l_draws A.a_l_draws A.d_l_draws
  m_l_draws : mg "_law_draws" = some (.ref A.a_l_draws)
  b_l_draws : Binds K A.d_l_draws ["_law_script", "_law_at", "_law_many", "_law_base"] []
  f_l_text : Fun K "_law_text" "_law_text" s_l_text A.a_l_text A.d_l_text
  m_l_text : mg "_law_text" = some (.ref A.a_l_text)
  b_l_text : Binds K A.d_l_text ["_law_cells"] []
  f_l_sign : Fun K "_law_sign" "_law_sign" s_l_sign A.a_l_sign A.d_l_sign
  m_l_sign : mg "_law_sign" = some (.ref A.a_l_sign)
  b_l_sign : Binds K A.d_l_sign ["_law_cell"] []
  f_l_spoilt : Fun K "_law_spoilt" "_law_spoilt" s_l_spoilt A.a_l_spoilt A.d_l_spoilt
  m_l_spoilt : mg "_law_spoilt" = some (.ref A.a_l_spoilt)
  b_l_spoilt : Binds K A.d_l_spoilt ["_law_text_here", "_law_cell", "_law_more"] []
  f_l_chain : Fun K "_law_chain" "_law_chain" s_l_chain A.a_l_chain A.d_l_chain
  m_l_chain : mg "_law_chain" = some (.ref A.a_l_chain)
  b_l_chain : Binds K A.d_l_chain ["_law_many", "_law_bits"] []
  f_l_fault : Fun K "_law_fault" "_law_fault" s_l_fault A.a_l_fault A.d_l_fault
  m_l_fault : mg "_law_fault" = some (.ref A.a_l_fault)
  b_l_fault : Binds K A.d_l_fault ["_law_text_here"] []
  f_l_found : Fun K "_law_found" "_law_found" s_l_found A.a_l_found A.d_l_found
  m_l_found : mg "_law_found" = some (.ref A.a_l_found)
  b_l_found : Binds K A.d_l_found ["_law_text_here"] []
  f_p_law : Fun K "law" "law" s_p_law A.a_p_law A.d_p_law
  m_p_law : mg "law" = some (.ref A.a_p_law)
  b_p_law : Binds K A.d_p_law ["_law_script"] []
  x_i : Fun K "__init__" "OneError.__init__" s_init A.a_init A.d_init
  x_b : Binds K A.d_init ["self", "at"] []
  x_k : ExcK K A.c_One A.a_init A.c_P A.c_T
  x_m1 : mg "OneError" = some (.ref A.c_One)
  x_mP : mg "NoProgram" = some (.ref A.c_P)
  x_mT : mg "NoTree" = some (.ref A.c_T)
  x_eP : PySem.W.keepIn K (.ref A.c_P) = true
  x_eT : PySem.W.keepIn K (.ref A.c_T) = true
  v_MOST_BRACKETS : ∃ t, mg "MOST_BRACKETS" = some (.int 300 t)
  z_ValueError : mg "ValueError" = none
  z_bool : mg "bool" = none
  z_enumerate : mg "enumerate" = none
  z_int : mg "int" = none
  z_isinstance : mg "isinstance" = none
  z_len : mg "len" = none
  z_range : mg "range" = none
  z_str : mg "str" = none
section
variable {P : Program} {w : World} {K : PySem.W.Frag} {mg : Str → Option Value} {base : Heap} {Ad : Adr}
theorem sc_init : FnScope ["self", "at"] ["self", "at"] (defScope s_init) := ⟨rfl, rfl, rfl, by decide +kernel, rfl, by decide +kernel, by decide +kernel⟩
theorem ok_init (T : Txt K mg Ad) {C : Addr} (hT : ∀ h, K.In h → Two h C Ad.c_One Ad.a_init) : FnOk P w K mg base CX0 1 Ad.a_init Ad.d_init ["self", "at"] (spI C) :=
  init_fn T.x_i sc_init fun cdv A outer s H E => pss_cons (ps_expr (pe_base hT rfl T.z_ValueError (pa_cons (pv 0) (pa_cons (pe_fstr (pv 1)) pa_nil)))) (pss_one (ps_at hT (pv 0) (pv 1) rfl))
theorem sc_p_is_value : FnScope ["tree"] ["tree"] (defScope s_p_is_value) := ⟨rfl, rfl, rfl, by decide +kernel, rfl, by decide +kernel, by decide +kernel⟩
theorem ok_p_is_value (T : Txt K mg Ad) : FnOk P w K mg base CX0 41 Ad.a_p_is_value Ad.d_p_is_value ["tree"] (spM K 1 F_p_is_value) := by
  refine FnOk.imp (fn_ok (m := b_p_is_value) T.f_p_is_value sc_p_is_value fun cdv A outer s H hr => ?_) fun vs H Q E h => sp_gc h
  exact (js_one (js_ret (je_or (je_isV kit_str (je_var 0) rfl T.z_isinstance rfl T.z_str (by decide +kernel) (by decide +kernel)) (je_one (je_ix (je_var 0) je_int)))))
theorem sc_p_is_done : FnScope ["left", "right"] ["left", "right"] (defScope s_p_is_done) := ⟨rfl, rfl, rfl, by decide +kernel, rfl, by decide +kernel, by decide +kernel⟩
theorem ok_p_is_done (T : Txt K mg Ad) : FnOk P w K mg base CX0 42 Ad.a_p_is_done Ad.d_p_is_done ["left", "right"] (spM K 2 F_p_is_done) := by
  refine FnOk.imp (fn_ok (m := b_p_is_done) T.f_p_is_done sc_p_is_done fun cdv A outer s H hr => ?_) fun vs H Q E h => sp_gc h
  exact (js_cons (js_if (jt_not (jt_truth (je_call ((ok_p_is_value T).mono (by decide)) hr T.m_p_is_value T.f_p_is_value.kp T.b_p_is_value .nil (fun _ _ => RepVs.nil) (ja_cons (je_var 1) ja_nil) rfl rfl (by decide) rfl rfl (lenA_cons lenA_nil)))) (js_one (js_ret je_bl)) js_nil)
    (js_cons (js_if (jt_truth (je_isV kit_str (je_var 0) rfl T.z_isinstance rfl T.z_str (by decide +kernel) (by decide +kernel))) (js_one (js_ret (je_or (je_cmp (op_eqV (huL 800 hr (by omega))) (je_var 0) (je_str [83]) (nomark _)) (je_one (je_cmp (op_eqV (huL 800 hr (by omega))) (je_var 0) (je_str [75]) (nomark _)))))) js_nil)
    (js_one (js_ret (je_and (je_cmp (op_eqV (huL 800 hr (by omega))) (je_ix (je_var 0) je_int) (je_str [83]) (nomark _)) (je_one (je_ix (je_var 0) je_int)))))))
theorem sc_p_leaves : FnScope ["tree"] ["tree"] (defScope s_p_leaves) := ⟨rfl, rfl, rfl, by decide +kernel, rfl, by decide +kernel, by decide +kernel⟩
theorem ok_p_leaves (T : Txt K mg Ad) : FnOk P w K mg base CX0 41 Ad.a_p_leaves Ad.d_p_leaves ["tree"] (spM K 1 F_p_leaves) := by
  refine FnOk.imp (fn_ok (m := b_p_leaves) T.f_p_leaves sc_p_leaves fun cdv A outer s H hr => ?_) fun vs H Q E h => sp_gc h
  exact (js_cons (js_if (jt_truth (je_isV kit_str (je_var 0) rfl T.z_isinstance rfl T.z_str (by decide +kernel) (by decide +kernel))) (js_one (js_ret je_int)) js_nil)
    (js_one (js_ret (je_ix (je_var 0) je_int))))
theorem sc_p_joint : FnScope ["left", "right"] ["left", "right"] (defScope s_p_joint) := ⟨rfl, rfl, rfl, by decide +kernel, rfl, by decide +kernel, by decide +kernel⟩
theorem ok_p_joint (T : Txt K mg Ad) : FnOk P w K mg base CX0 43 Ad.a_p_joint Ad.d_p_joint ["left", "right"] (spM K 2 F_p_joint) := by
  refine FnOk.imp (fn_ok (m := b_p_joint) T.f_p_joint sc_p_joint fun cdv A outer s H hr => ?_) fun vs H Q E h => sp_gc h
  exact (js_one (js_ret (je_tup (ja_cons (je_var 0) (ja_cons (je_var 1) (ja_cons (je_op op_addV (je_call ((ok_p_leaves T).mono (by decide)) hr T.m_p_leaves T.f_p_leaves.kp T.b_p_leaves .nil (fun _ _ => RepVs.nil) (ja_cons (je_var 0) ja_nil) rfl rfl (by decide) rfl rfl (lenA_cons lenA_nil)) (je_call ((ok_p_leaves T).mono (by decide)) hr T.m_p_leaves T.f_p_leaves.kp T.b_p_leaves .nil (fun _ _ => RepVs.nil) (ja_cons (je_var 1) ja_nil) rfl rfl (by decide) rfl rfl (lenA_cons lenA_nil))) (ja_cons (je_call ((ok_p_is_done T).mono (by decide)) hr T.m_p_is_done T.f_p_is_done.kp T.b_p_is_done .nil (fun _ _ => RepVs.nil) (ja_cons (je_var 0) (ja_cons (je_var 1) ja_nil)) rfl rfl (by decide) rfl rfl (lenA_cons (lenA_cons lenA_nil))) ja_nil)))))))
theorem sc_p_may_stand : FnScope ["sign", "opened", "parts"] ["sign", "opened"] (defScope s_p_may_stand) := ⟨rfl, rfl, rfl, by decide +kernel, rfl, by decide +kernel, by decide +kernel⟩
theorem ok_p_may_stand (T : Txt K mg Ad) : FnOk P w K mg base CX0 41 Ad.a_p_may_stand Ad.d_p_may_stand ["sign", "opened"] (spM K 2 F_p_may_stand) := by
  refine FnOk.imp (fn_ok (m := b_p_may_stand) T.f_p_may_stand sc_p_may_stand fun cdv A outer s H hr => ?_) fun vs H Q E h => sp_gc h
  exact (js_cons (js_set 2 (je_ix (je_var 1) (je_un un_negV je_int)) sc_p_may_stand.nd)
    (js_cons (js_if (JW.jt (jw_and (jt_cmp (op_eqV (huL 800 hr (by omega))) (je_callB call_lenV rfl T.z_len (by decide +kernel) (ja_cons (je_var 1) ja_nil)) je_int (nomark _)) (jw_and1 (jt_cmp (op_eqV (huL 800 hr (by omega))) (je_callB call_lenV rfl T.z_len (by decide +kernel) (ja_cons (je_var 2) ja_nil)) je_int (nomark _))))) (js_one (js_ret je_bl)) js_nil)
    (js_cons (js_if (jt_cmp (op_eqV (huL 800 hr (by omega))) (je_callB call_lenV rfl T.z_len (by decide +kernel) (ja_cons (je_var 2) ja_nil)) je_int (nomark _)) (js_one (js_ret (je_cmp (op_eqV (huL 800 hr (by omega))) (je_var 0) (je_str [41]) (nomark _)))) js_nil)
    (js_cons (js_if (jt_cmp (op_eqV (huL 800 hr (by omega))) (je_var 0) (je_str [40]) (nomark _)) (js_one (js_ret (je_cmp op_leV (je_callB call_lenV rfl T.z_len (by decide +kernel) (ja_cons (je_var 1) ja_nil)) (je_globI T.v_MOST_BRACKETS) (nomark _)))) js_nil)
    (js_one (js_ret (je_or (je_cmp (op_eqV (huL 800 hr (by omega))) (je_var 0) (je_str [83]) (nomark _)) (je_one (je_cmp (op_eqV (huL 800 hr (by omega))) (je_var 0) (je_str [75]) (nomark _))))))))))
theorem sc_p_tree_read : FnScope ["text", "opened", "at", "sign", "parts"] ["text"] (defScope s_p_tree_read) := ⟨rfl, rfl, rfl, by decide +kernel, rfl, by decide +kernel, by decide +kernel⟩
theorem ok_p_tree_read (T : Txt K mg Ad) : FnOk P w K mg base (CXM P w) 44 Ad.a_p_tree_read Ad.d_p_tree_read ["text"] (spX K 1 F_p_tree_read) := by
  refine FnOk.imp (fn_okX (m := b_p_tree_read) T.f_p_tree_read sc_p_tree_read fun cdv A outer s H E W hr => ?_) fun vs H Q E h => sp_gcX h
  exact (js_cons (js_set 1 (je_lst (ja_cons (je_lst ja_nil) ja_nil)) sc_p_tree_read.nd)
    (js_cons (js_for (ji_enumS (ja_cons (je_var 0) ja_nil) rfl T.z_enumerate) (jg_tup 2 rfl (jgs_cons (jg_name 2 sc_p_tree_read.nd) (jgs_cons (jg_name 3 sc_p_tree_read.nd) jgs_nil))) (js_cons (js_if (jt_not (jt_truth (je_call ((ok_p_may_stand T).mono (by decide)) hr T.m_p_may_stand T.f_p_may_stand.kp T.b_p_may_stand .nil (fun _ _ => RepVs.nil) (ja_cons (je_var 3) (ja_cons (je_var 1) ja_nil)) rfl rfl (by decide) rfl rfl (lenA_cons (lenA_cons lenA_nil))))) (js_one (js_raise (ok_init T (fun h X => two_ok T.x_k.tT X)) (fun h X => two_ok T.x_k.tT X) (hr.mono (by decide)) T.x_b T.x_k.nT rfl T.x_mT T.x_eT rfl (ja_cons (je_var 2) ja_nil))) js_nil)
    (js_one (js_if (jt_cmp (op_eqV (huL 800 hr (by omega))) (je_var 3) (je_str [40]) (nomark _)) (js_one (js_expr (je_meth PySem.F.plainAttrs_list PySem.F.slot_list_append PySem.F.type_list_append mt_appendV (je_var 1) (ja_cons (je_lst ja_nil) ja_nil)))) (js_one (js_if (jt_cmp (op_eqV (huL 800 hr (by omega))) (je_var 3) (je_str [41]) (nomark _)) (js_cons (js_set 4 (je_meth0 PySem.F.plainAttrs_list PySem.F.slot_list_pop PySem.F.type_list_pop mt_popV (je_var 1)) sc_p_tree_read.nd)
    (js_one (js_expr (je_meth PySem.F.plainAttrs_list PySem.F.slot_list_append PySem.F.type_list_append mt_appendV (je_ix (je_var 1) (je_un un_negV je_int)) (ja_cons (je_call ((ok_p_joint T).mono (by decide)) hr T.m_p_joint T.f_p_joint.kp T.b_p_joint .nil (fun _ _ => RepVs.nil) (ja_cons (je_ix (je_var 4) je_int) (ja_cons (je_ix (je_var 4) je_int) ja_nil)) rfl rfl (by decide) rfl rfl (lenA_cons (lenA_cons lenA_nil))) ja_nil))))) (js_one (js_expr (je_meth PySem.F.plainAttrs_list PySem.F.slot_list_append PySem.F.type_list_append mt_appendV (je_ix (je_var 1) (je_un un_negV je_int)) (ja_cons (je_var 3) ja_nil))))))))) (Rz.passes ⟨rfl, rfl, rfl⟩) rfl)
    (js_cons (js_if (jt_cmp (op_eqNV (huL 800 hr (by omega))) (je_ix (je_var 1) je_int) (je_lst ja_nil) (nomark _)) (js_one (js_raise (ok_init T (fun h X => two_ok T.x_k.tT X)) (fun h X => two_ok T.x_k.tT X) (hr.mono (by decide)) T.x_b T.x_k.nT rfl T.x_mT T.x_eT rfl (ja_cons (je_callB call_lenV rfl T.z_len (by decide +kernel) (ja_cons (je_var 0) ja_nil)) ja_nil))) js_nil)
    (js_one (js_ret (je_ix (je_ix (je_var 1) je_int) je_int))))))
theorem sc_p_tree_show : FnScope ["tree", "pieces", "waiting", "part"] ["tree"] (defScope s_p_tree_show) := ⟨rfl, rfl, rfl, by decide +kernel, rfl, by decide +kernel, by decide +kernel⟩
theorem ok_p_tree_show (T : Txt K mg Ad) : FnOk P w K mg base CX0 41 Ad.a_p_tree_show Ad.d_p_tree_show ["tree"] (spM K 1 F_p_tree_show) := by
  refine FnOk.imp (fn_ok (m := b_p_tree_show) T.f_p_tree_show sc_p_tree_show fun cdv A outer s H hr => ?_) fun vs H Q E h => sp_gc h
  exact (js_cons (js_set 1 (je_lst ja_nil) sc_p_tree_show.nd)
    (js_cons (js_set 2 (je_lst (ja_cons (je_var 0) ja_nil)) sc_p_tree_show.nd)
    (js_cons (js_whileW (jt_truth (je_var 2)) (js_cons (js_set 3 (je_meth0 PySem.F.plainAttrs_list PySem.F.slot_list_pop PySem.F.type_list_pop mt_popV (je_var 2)) sc_p_tree_show.nd)
    (js_one (js_if (jt_truth (je_isV kit_str (je_var 3) rfl T.z_isinstance rfl T.z_str (by decide +kernel) (by decide +kernel))) (js_one (js_expr (je_meth PySem.F.plainAttrs_list PySem.F.slot_list_append PySem.F.type_list_append mt_appendV (je_var 1) (ja_cons (je_var 3) ja_nil)))) (js_cons (js_expr (je_meth PySem.F.plainAttrs_list PySem.F.slot_list_append PySem.F.type_list_append mt_appendV (je_var 1) (ja_cons (je_str [40]) ja_nil)))
    (js_one (js_expr (je_meth PySem.F.plainAttrs_list PySem.F.slot_list_extend PySem.F.type_list_extend mt_extendV (je_var 2) (ja_cons (je_lst (ja_cons (je_str [41]) (ja_cons (je_ix (je_var 3) je_int) (ja_cons (je_ix (je_var 3) je_int) ja_nil)))) ja_nil)))))))) PassesOwn.never)
    (js_one (js_ret (je_meth PySem.F.plainAttrs_str PySem.F.slot_str_join PySem.F.type_str_join mt_joinV (je_str []) (ja_cons (je_var 1) ja_nil)))))))
theorem sc_l_cell_at : FnScope ["_law_script", "_law_k"] ["_law_script", "_law_k"] (defScope s_l_cell_at) := ⟨rfl, rfl, rfl, by decide +kernel, rfl, by decide +kernel, by decide +kernel⟩
theorem ok_l_cell_at (T : Txt K mg Ad) : FnOk P w K mg base CX0 41 Ad.a_l_cell_at Ad.d_l_cell_at ["_law_script", "_law_k"] (spM K 2 F_l_cell_at) := by
  refine FnOk.imp (fn_ok (m := b_l_cell_at) T.f_l_cell_at sc_l_cell_at fun cdv A outer s H hr => ?_) fun vs H Q E h => sp_gc h
  exact (js_cons (js_if (jt_cmp op_ltV (je_var 1) (je_callB call_lenV rfl T.z_len (by decide +kernel) (ja_cons (je_var 0) ja_nil)) (nomark _)) (js_one (js_ret (je_ix (je_var 0) (je_var 1)))) js_nil)
    (js_one (js_ret je_int)))
theorem sc_l_draws : FnScope ["_law_script", "_law_at", "_law_many", "_law_base", "_law_way", "_law_cell", "_law_draws_here", "_law_k", "_law_state"] ["_law_script", "_law_at", "_law_many", "_law_base"] (defScope s_l_draws) := ⟨rfl, rfl, rfl, by decide +kernel, rfl, by decide +kernel, by decide +kernel⟩
theorem ok_l_draws (T : Txt K mg Ad) : FnOk P w K mg base CX0 42 Ad.a_l_draws Ad.d_l_draws ["_law_script", "_law_at", "_law_many", "_law_base"] (spM K 4 F_l_draws) := by
  refine FnOk.imp (fn_ok (m := b_l_draws) T.f_l_draws sc_l_draws fun cdv A outer s H hr => ?_) fun vs H Q E h => sp_gc h
  exact (js_cons (js_set 4 (je_op op_modV (je_op op_modV (je_op op_addV (je_op op_mulV (je_call ((ok_l_cell_at T).mono (by decide)) hr T.m_l_cell_at T.f_l_cell_at.kp T.b_l_cell_at .nil (fun _ _ => RepVs.nil) (ja_cons (je_var 0) (ja_cons je_int ja_nil)) rfl rfl (by decide) rfl rfl (lenA_cons (lenA_cons lenA_nil))) je_int) je_int) je_int) je_int) sc_l_draws.nd)
    (js_cons (js_if (jt_cmp (op_eqV (huL 800 hr (by omega))) (je_var 4) je_int (nomark _)) (js_one (js_ret (je_slice (je_var 0) (jp_some (je_var 1)) (jp_some (je_op op_addV (je_var 1) (je_var 2)))))) js_nil)
    (js_cons (js_set 5 (je_call ((ok_l_cell_at T).mono (by decide)) hr T.m_l_cell_at T.f_l_cell_at.kp T.b_l_cell_at .nil (fun _ _ => RepVs.nil) (ja_cons (je_var 0) (ja_cons (je_var 1) ja_nil)) rfl rfl (by decide) rfl rfl (lenA_cons (lenA_cons lenA_nil))) sc_l_draws.nd)
    (js_cons (js_set 6 (je_lst ja_nil) sc_l_draws.nd)
    (js_cons (js_if (jt_cmp (op_eqV (huL 800 hr (by omega))) (je_var 4) je_int (nomark _)) (js_cons (js_for (ji_range1 (ja_cons (je_var 2) ja_nil) rfl T.z_range) (jg_name 7 sc_l_draws.nd) (js_cons (js_expr (je_meth PySem.F.plainAttrs_list PySem.F.slot_list_append PySem.F.type_list_append mt_appendV (je_var 6) (ja_cons (je_op op_modV (je_var 5) (je_var 3)) ja_nil)))
    (js_one (js_set 5 (je_op op_fdivV (je_var 5) (je_var 3)) sc_l_draws.nd))) PassesOwn.never rfl)
    (js_one (js_ret (je_var 6)))) js_nil)
    (js_cons (js_set 8 (je_op op_modV (je_var 5) je_int) sc_l_draws.nd)
    (js_cons (js_for (ji_range1 (ja_cons (je_op op_addV je_int (je_op op_modV (je_var 5) (je_var 2))) ja_nil) rfl T.z_range) (jg_name 7 sc_l_draws.nd) (js_cons (js_set 8 (je_op op_modV (je_op op_addV (je_op op_addV (je_op op_mulV (je_var 8) je_int) je_int) (je_var 7)) je_int) sc_l_draws.nd)
    (js_one (js_expr (je_meth PySem.F.plainAttrs_list PySem.F.slot_list_append PySem.F.type_list_append mt_appendV (je_var 6) (ja_cons (je_op op_modV (je_op op_mulV (je_op op_fdivV (je_var 8) je_int) je_int) je_int) ja_nil))))) PassesOwn.never rfl)
    (js_one (js_ret (je_var 6))))))))))
theorem sc_l_text : FnScope ["_law_cells", "_law_stack", "_law_cell", "_law_right"] ["_law_cells"] (defScope s_l_text) := ⟨rfl, rfl, rfl, by decide +kernel, rfl, by decide +kernel, by decide +kernel⟩
theorem ok_l_text (T : Txt K mg Ad) : FnOk P w K mg base CX0 41 Ad.a_l_text Ad.d_l_text ["_law_cells"] (spM K 1 F_l_text) := by
  refine FnOk.imp (fn_ok (m := b_l_text) T.f_l_text sc_l_text fun cdv A outer s H hr => ?_) fun vs H Q E h => sp_gc h
  exact (js_cons (js_set 1 (je_lst ja_nil) sc_l_text.nd)
    (js_cons (js_for (ji_seq (je_var 0)) (jg_name 2 sc_l_text.nd) (js_one (js_if (JW.jt (jw_and (jt_cmp op_ltV (je_op op_modV (je_var 2) je_int) je_int (nomark _)) (jw_and1 (jt_cmp op_gtV (je_callB call_lenV rfl T.z_len (by decide +kernel) (ja_cons (je_var 1) ja_nil)) je_int (nomark _))))) (js_cons (js_set 3 (je_meth0 PySem.F.plainAttrs_list PySem.F.slot_list_pop PySem.F.type_list_pop mt_popV (je_var 1)) sc_l_text.nd)
    (js_one (js_expr (je_meth PySem.F.plainAttrs_list PySem.F.slot_list_append PySem.F.type_list_append mt_appendV (je_var 1) (ja_cons (je_op op_addV (je_op op_addV (je_op op_addV (je_str [40]) (je_meth0 PySem.F.plainAttrs_list PySem.F.slot_list_pop PySem.F.type_list_pop mt_popV (je_var 1))) (je_var 3)) (je_str [41])) ja_nil))))) (js_one (js_expr (je_meth PySem.F.plainAttrs_list PySem.F.slot_list_append PySem.F.type_list_append mt_appendV (je_var 1) (ja_cons (je_ix (je_str [83, 75]) (je_op op_modV (je_op op_fdivV (je_var 2) je_int) je_int)) ja_nil)))))) PassesOwn.never rfl)
    (js_cons (js_if (jt_cmp (op_eqNV (huL 800 hr (by omega))) (je_var 1) (je_lst ja_nil) (nomark _)) (js_one (js_expr (je_meth PySem.F.plainAttrs_list PySem.F.slot_list_append PySem.F.type_list_append mt_appendV (je_var 1) (ja_cons (je_str [75]) ja_nil)))) js_nil)
    (js_cons (js_whileW (jt_cmp op_gtV (je_callB call_lenV rfl T.z_len (by decide +kernel) (ja_cons (je_var 1) ja_nil)) je_int (nomark _)) (js_cons (js_set 3 (je_meth0 PySem.F.plainAttrs_list PySem.F.slot_list_pop PySem.F.type_list_pop mt_popV (je_var 1)) sc_l_text.nd)
    (js_one (js_expr (je_meth PySem.F.plainAttrs_list PySem.F.slot_list_append PySem.F.type_list_append mt_appendV (je_var 1) (ja_cons (je_op op_addV (je_op op_addV (je_op op_addV (je_str [40]) (je_meth0 PySem.F.plainAttrs_list PySem.F.slot_list_pop PySem.F.type_list_pop mt_popV (je_var 1))) (je_var 3)) (je_str [41])) ja_nil))))) PassesOwn.never)
    (js_one (js_ret (je_ix (je_var 1) je_int)))))))
theorem sc_l_sign : FnScope ["_law_cell", "_law_some"] ["_law_cell"] (defScope s_l_sign) := ⟨rfl, rfl, rfl, by decide +kernel, rfl, by decide +kernel, by decide +kernel⟩
theorem ok_l_sign (T : Txt K mg Ad) : FnOk P w K mg base CX0 41 Ad.a_l_sign Ad.d_l_sign ["_law_cell"] (spM K 1 F_l_sign) := by
  refine FnOk.imp (fn_ok (m := b_l_sign) T.f_l_sign sc_l_sign fun cdv A outer s H hr => ?_) fun vs H Q E h => sp_gc h
  exact (js_cons (js_if (jt_cmp (op_eqV (huL 800 hr (by omega))) (je_op op_modV (je_var 0) je_int) je_int (nomark _)) (js_one (js_ret (je_ix (je_str [83, 75, 40, 41]) (je_op op_modV (je_op op_fdivV (je_var 0) je_int) je_int)))) js_nil)
    (js_cons (js_set 1 (je_str [32, 33, 34, 35, 36, 38, 39, 40, 41, 42, 43, 44, 45, 46, 47, 48, 49, 50, 51, 52, 53, 54, 55, 56, 57, 58, 59, 60, 61, 62, 63, 64, 65, 66, 67, 68, 69, 70, 71, 72, 73, 74, 75, 76, 77, 78, 79, 80, 81, 82, 83, 84, 85, 86, 87, 88, 89, 90, 91, 92, 93, 94, 95, 96, 97, 98, 99, 100, 101, 102, 103, 104, 105, 106, 107, 108, 109, 110, 111, 112, 113, 114, 115, 116, 117, 118, 119, 120, 121, 122, 123, 124, 125, 126, 10]) sc_l_sign.nd)
    (js_one (js_ret (je_ix (je_var 1) (je_op op_modV (je_op op_fdivV (je_var 0) je_int) je_int))))))
theorem sc_l_spoilt : FnScope ["_law_text_here", "_law_cell", "_law_more", "_law_at"] ["_law_text_here", "_law_cell", "_law_more"] (defScope s_l_spoilt) := ⟨rfl, rfl, rfl, by decide +kernel, rfl, by decide +kernel, by decide +kernel⟩
theorem ok_l_spoilt (T : Txt K mg Ad) : FnOk P w K mg base CX0 42 Ad.a_l_spoilt Ad.d_l_spoilt ["_law_text_here", "_law_cell", "_law_more"] (spM K 3 F_l_spoilt) := by
  refine FnOk.imp (fn_ok (m := b_l_spoilt) T.f_l_spoilt sc_l_spoilt fun cdv A outer s H hr => ?_) fun vs H Q E h => sp_gc h
  exact (js_cons (js_set 3 (je_op op_modV (je_op op_fdivV (je_var 1) je_int) (je_callB call_lenV rfl T.z_len (by decide +kernel) (ja_cons (je_var 0) ja_nil))) sc_l_spoilt.nd)
    (js_cons (js_if (jt_cmp (op_eqV (huL 800 hr (by omega))) (je_op op_modV (je_var 1) je_int) je_int (nomark _)) (js_one (js_ret (je_op op_addV (je_op op_addV (je_slice (je_var 0) jp_none (jp_some (je_var 3))) (je_call ((ok_l_sign T).mono (by decide)) hr T.m_l_sign T.f_l_sign.kp T.b_l_sign .nil (fun _ _ => RepVs.nil) (ja_cons (je_var 2) ja_nil) rfl rfl (by decide) rfl rfl (lenA_cons lenA_nil))) (je_slice (je_var 0) (jp_some (je_var 3)) jp_none)))) js_nil)
    (js_cons (js_if (jt_cmp (op_eqV (huL 800 hr (by omega))) (je_op op_modV (je_var 1) je_int) je_int (nomark _)) (js_one (js_ret (je_op op_addV (je_op op_addV (je_slice (je_var 0) jp_none (jp_some (je_var 3))) (je_call ((ok_l_sign T).mono (by decide)) hr T.m_l_sign T.f_l_sign.kp T.b_l_sign .nil (fun _ _ => RepVs.nil) (ja_cons (je_var 2) ja_nil) rfl rfl (by decide) rfl rfl (lenA_cons lenA_nil))) (je_slice (je_var 0) (jp_some (je_op op_addV (je_var 3) je_int)) jp_none)))) js_nil)
    (js_cons (js_if (jt_cmp (op_eqV (huL 800 hr (by omega))) (je_op op_modV (je_var 1) je_int) je_int (nomark _)) (js_one (js_ret (je_op op_addV (je_slice (je_var 0) jp_none (jp_some (je_var 3))) (je_slice (je_var 0) (jp_some (je_op op_addV (je_var 3) je_int)) jp_none)))) js_nil)
    (js_cons (js_if (jt_cmp (op_eqV (huL 800 hr (by omega))) (je_op op_modV (je_var 1) je_int) je_int (nomark _)) (js_one (js_ret (je_slice (je_var 0) jp_none (jp_some (je_var 3))))) js_nil)
    (js_one (js_ret (je_op op_addV (je_var 0) (je_ix (je_lst (ja_cons (je_call ((ok_l_sign T).mono (by decide)) hr T.m_l_sign T.f_l_sign.kp T.b_l_sign .nil (fun _ _ => RepVs.nil) (ja_cons (je_var 2) ja_nil) rfl rfl (by decide) rfl rfl (lenA_cons lenA_nil)) (ja_cons (je_str [40, 83, 75, 41]) (ja_cons (je_str [75]) ja_nil)))) (je_op op_modV (je_op op_fdivV (je_var 1) je_int) je_int))))))))))
theorem sc_l_chain : FnScope ["_law_many", "_law_bits", "_law_ahead", "_law_behind", "_law_k", "_law_leaf"] ["_law_many", "_law_bits"] (defScope s_l_chain) := ⟨rfl, rfl, rfl, by decide +kernel, rfl, by decide +kernel, by decide +kernel⟩
theorem ok_l_chain (T : Txt K mg Ad) : FnOk P w K mg base CX0 41 Ad.a_l_chain Ad.d_l_chain ["_law_many", "_law_bits"] (spM K 2 F_l_chain) := by
  refine FnOk.imp (fn_ok (m := b_l_chain) T.f_l_chain sc_l_chain fun cdv A outer s H hr => ?_) fun vs H Q E h => sp_gc h
  exact (js_cons (js_set 2 (je_str []) sc_l_chain.nd)
    (js_cons (js_set 3 (je_str []) sc_l_chain.nd)
    (js_cons (js_for (ji_range1 (ja_cons (je_var 0) ja_nil) rfl T.z_range) (jg_name 4 sc_l_chain.nd) (js_cons (js_set 5 (je_ix (je_str [83, 75]) (je_op op_modV (je_op op_fdivV (je_var 1) je_int) je_int)) sc_l_chain.nd)
    (js_cons (js_if (jt_cmp (op_eqV (huL 800 hr (by omega))) (je_op op_modV (je_var 1) je_int) je_int (nomark _)) (js_cons (js_set 2 (je_op op_addV (je_op op_addV (je_var 2) (je_str [40])) (je_var 5)) sc_l_chain.nd)
    (js_one (js_set 3 (je_op op_addV (je_str [41]) (je_var 3)) sc_l_chain.nd))) (js_cons (js_set 2 (je_op op_addV (je_var 2) (je_str [40])) sc_l_chain.nd)
    (js_one (js_set 3 (je_op op_addV (je_op op_addV (je_var 5) (je_str [41])) (je_var 3)) sc_l_chain.nd))))
    (js_one (js_set 1 (je_op op_modV (je_op op_addV (je_op op_mulV (je_var 1) je_int) je_int) je_int) sc_l_chain.nd)))) PassesOwn.never rfl)
    (js_one (js_ret (je_op op_addV (je_op op_addV (je_var 2) (je_str [83])) (je_var 3)))))))
theorem sc_l_fault : FnScope ["_law_text_here", "_law_parts", "_law_whole", "_law_at", "_law_sign_here"] ["_law_text_here"] (defScope s_l_fault) := ⟨rfl, rfl, rfl, by decide +kernel, rfl, by decide +kernel, by decide +kernel⟩
theorem ok_l_fault (T : Txt K mg Ad) : FnOk P w K mg base CX0 41 Ad.a_l_fault Ad.d_l_fault ["_law_text_here"] (spM K 1 F_l_fault) := by
  refine FnOk.imp (fn_ok (m := b_l_fault) T.f_l_fault sc_l_fault fun cdv A outer s H hr => ?_) fun vs H Q E h => sp_gc h
  exact (js_cons (js_set 1 (je_lst ja_nil) sc_l_fault.nd)
    (js_cons (js_set 2 je_bl sc_l_fault.nd)
    (js_cons (js_for (ji_range1 (ja_cons (je_callB call_lenV rfl T.z_len (by decide +kernel) (ja_cons (je_var 0) ja_nil)) ja_nil) rfl T.z_range) (jg_name 3 sc_l_fault.nd) (js_cons (js_set 4 (je_ix (je_var 0) (je_var 3)) sc_l_fault.nd)
    (js_cons (js_if (JW.jt (jw_or (jt_truth (je_var 2)) (jw_or1 (jt_cmp op_notInSV (je_var 4) (je_str [83, 75, 40, 41]) rfl)))) (js_one (js_ret (je_var 3))) js_nil)
    (js_cons (js_if (jt_cmp (op_eqV (huL 800 hr (by omega))) (je_var 4) (je_str [41]) (nomark _)) (js_one (js_if (JW.jt (jw_or (jt_cmp (op_eqNV (huL 800 hr (by omega))) (je_var 1) (je_lst ja_nil) (nomark _)) (jw_or1 (jt_cmp (op_neV (huL 800 hr (by omega))) (je_meth0 PySem.F.plainAttrs_list PySem.F.slot_list_pop PySem.F.type_list_pop mt_popV (je_var 1)) je_int (nomark _))))) (js_one (js_ret (je_var 3))) js_nil)) (js_one (js_if (JW.jt (jw_and (jt_cmp (op_neV (huL 800 hr (by omega))) (je_var 1) (je_lst ja_nil) (nomark _)) (jw_and1 (jt_cmp (op_eqV (huL 800 hr (by omega))) (je_ix (je_var 1) (je_un un_negV je_int)) je_int (nomark _))))) (js_one (js_ret (je_var 3))) js_nil)))
    (js_cons (js_if (JW.jt (jw_and (jt_cmp (op_eqV (huL 800 hr (by omega))) (je_var 4) (je_str [40]) (nomark _)) (jw_and1 (jt_cmp (op_eqV (huL 800 hr (by omega))) (je_callB call_lenV rfl T.z_len (by decide +kernel) (ja_cons (je_var 1) ja_nil)) je_int (nomark _))))) (js_one (js_ret (je_var 3))) js_nil)
    (js_one (js_if (jt_cmp (op_eqV (huL 800 hr (by omega))) (je_var 4) (je_str [40]) (nomark _)) (js_one (js_expr (je_meth PySem.F.plainAttrs_list PySem.F.slot_list_append PySem.F.type_list_append mt_appendV (je_var 1) (ja_cons je_int ja_nil)))) (js_one (js_if (jt_cmp (op_eqNV (huL 800 hr (by omega))) (je_var 1) (je_lst ja_nil) (nomark _)) (js_one (js_set 2 je_bl sc_l_fault.nd)) (js_one (js_asg (je_op op_addV (je_ix (je_var 1) (je_un un_negV je_int)) je_int) (jg_sub set_V (je_var 1) (je_un un_negV je_int)))))))))))) PassesOwn.never rfl)
    (js_cons (js_if (jt_truth (je_var 2)) (js_one (js_ret je_non)) js_nil)
    (js_one (js_ret (je_callB call_lenV rfl T.z_len (by decide +kernel) (ja_cons (je_var 0) ja_nil))))))))
theorem sc_l_found : FnScope ["_law_text_here", "_law_tree", "_law_fault_here", "e"] ["_law_text_here"] (defScope s_l_found) := ⟨rfl, rfl, rfl, by decide +kernel, rfl, by decide +kernel, by decide +kernel⟩
theorem ok_l_found (T : Txt K mg Ad) : FnOk P w K mg base CX0 45 Ad.a_l_found Ad.d_l_found ["_law_text_here"] (spM K 1 F_l_found) := by
  refine FnOk.imp (fn_ok (m := b_l_found) T.f_l_found sc_l_found fun cdv A outer s H hr => ?_) fun vs H Q E h => sp_gc h
  exact (js_cons (js_set 1 je_non sc_l_found.nd)
    (js_cons (js_set 2 je_non sc_l_found.nd)
    (js_cons (js_try (ie := 3) (iy := 2) ⟨rfl, rfl, rfl⟩ ((ok_p_tree_read T).mono (by decide)) hr T.m_p_tree_read T.f_p_tree_read.kp T.b_p_tree_read .nil (fun _ _ => RepVs.nil) (ja_cons (je_var 0) ja_nil) (bo_set 1 sc_l_found.nd) sc_l_found.nd rfl rfl rfl rfl (fun c C h hn => ⟨_, T.x_k.two h hn⟩) T.x_k.bse rfl T.x_m1 rfl rfl (by decide) (by decide) (by decide) (by decide) rfl rfl (lenA_cons lenA_nil))
    (js_cons (js_if (jt_cmp op_isNoneV (je_var 2) je_non (nomark _)) (js_one (js_ret (je_lst (ja_cons (je_str [116, 114, 101, 101]) (ja_cons (je_var 1) ja_nil))))) js_nil)
    (js_cons (js_if (JW.jt (jw_or (jt_truth (je_isXc T.x_k (.inl ⟨rfl, rfl⟩) rfl T.x_mP (je_var 2) rfl T.z_isinstance (by decide +kernel))) (jw_or (jt_not (jt_truth (je_isXc T.x_k (.inr (.inl ⟨rfl, rfl⟩)) rfl T.x_mT (je_var 2) rfl T.z_isinstance (by decide +kernel)))) (jw_or1 (jt_not (jt_truth (je_isXv T.x_k rfl T.z_ValueError (by decide +kernel) (je_var 2) rfl T.z_isinstance (by decide +kernel)))))))) (js_one (js_ret (je_lst (ja_cons (je_str [111, 116, 104, 101, 114]) (ja_cons je_int ja_nil))))) js_nil)
    (js_cons (js_if (JW.jt (jw_or (jt_not (jt_truth (je_isV kit_int (je_at T.x_k (je_var 2)) rfl T.z_isinstance rfl T.z_int (by decide +kernel) (by decide +kernel)))) (jw_or1 (jt_truth (je_isV kit_bool (je_at T.x_k (je_var 2)) rfl T.z_isinstance rfl T.z_bool (by decide +kernel) (by decide +kernel)))))) (js_one (js_ret (je_lst (ja_cons (je_str [111, 116, 104, 101, 114]) (ja_cons je_int ja_nil))))) js_nil)
    (js_one (js_ret (je_lst (ja_cons (je_str [110, 111, 110, 101]) (ja_cons (je_at T.x_k (je_var 2)) ja_nil)))))))))))
theorem sc_p_law : FnScope ["_law_script", "_law_good", "_law_text_here", "_law_due", "_law_found_here", "_law_other"] ["_law_script"] (defScope s_p_law) := ⟨rfl, rfl, rfl, by decide +kernel, rfl, by decide +kernel, by decide +kernel⟩
theorem ok_p_law (T : Txt K mg Ad) : FnOk P w K mg base CX0 46 Ad.a_p_law Ad.d_p_law ["_law_script"] (spM K 1 F_p_law) := by
  refine FnOk.imp (fn_ok (m := b_p_law) T.f_p_law sc_p_law fun cdv A outer s H hr => ?_) fun vs H Q E h => sp_gc h
  exact (js_cons (js_set 1 (je_call ((ok_l_text T).mono (by decide)) hr T.m_l_text T.f_l_text.kp T.b_l_text .nil (fun _ _ => RepVs.nil) (ja_cons (je_call ((ok_l_draws T).mono (by decide)) hr T.m_l_draws T.f_l_draws.kp T.b_l_draws .nil (fun _ _ => RepVs.nil) (ja_cons (je_var 0) (ja_cons je_int (ja_cons je_int (ja_cons je_int ja_nil)))) rfl rfl (by decide) rfl rfl (lenA_cons (lenA_cons (lenA_cons (lenA_cons lenA_nil))))) ja_nil) rfl rfl (by decide) rfl rfl (lenA_cons lenA_nil)) sc_p_law.nd)
    (js_cons (js_set 2 (je_call ((ok_l_spoilt T).mono (by decide)) hr T.m_l_spoilt T.f_l_spoilt.kp T.b_l_spoilt .nil (fun _ _ => RepVs.nil) (ja_cons (je_var 1) (ja_cons (je_call ((ok_l_cell_at T).mono (by decide)) hr T.m_l_cell_at T.f_l_cell_at.kp T.b_l_cell_at .nil (fun _ _ => RepVs.nil) (ja_cons (je_var 0) (ja_cons je_int ja_nil)) rfl rfl (by decide) rfl rfl (lenA_cons (lenA_cons lenA_nil))) (ja_cons (je_call ((ok_l_cell_at T).mono (by decide)) hr T.m_l_cell_at T.f_l_cell_at.kp T.b_l_cell_at .nil (fun _ _ => RepVs.nil) (ja_cons (je_var 0) (ja_cons je_int ja_nil)) rfl rfl (by decide) rfl rfl (lenA_cons (lenA_cons lenA_nil))) ja_nil))) rfl rfl (by decide) rfl rfl (lenA_cons (lenA_cons (lenA_cons lenA_nil)))) sc_p_law.nd)
    (js_cons (js_set 3 (je_call ((ok_l_fault T).mono (by decide)) hr T.m_l_fault T.f_l_fault.kp T.b_l_fault .nil (fun _ _ => RepVs.nil) (ja_cons (je_var 2) ja_nil) rfl rfl (by decide) rfl rfl (lenA_cons lenA_nil)) sc_p_law.nd)
    (js_cons (js_if (jt_cmp (op_eqV (huL 800 hr (by omega))) (je_op op_modV (je_call ((ok_l_cell_at T).mono (by decide)) hr T.m_l_cell_at T.f_l_cell_at.kp T.b_l_cell_at .nil (fun _ _ => RepVs.nil) (ja_cons (je_var 0) (ja_cons je_int ja_nil)) rfl rfl (by decide) rfl rfl (lenA_cons (lenA_cons lenA_nil))) je_int) je_int (nomark _)) (js_cons (js_set 2 (je_call ((ok_l_chain T).mono (by decide)) hr T.m_l_chain T.f_l_chain.kp T.b_l_chain .nil (fun _ _ => RepVs.nil) (ja_cons (je_op op_addV je_int (je_op op_modV (je_op op_fdivV (je_call ((ok_l_cell_at T).mono (by decide)) hr T.m_l_cell_at T.f_l_cell_at.kp T.b_l_cell_at .nil (fun _ _ => RepVs.nil) (ja_cons (je_var 0) (ja_cons je_int ja_nil)) rfl rfl (by decide) rfl rfl (lenA_cons (lenA_cons lenA_nil))) je_int) je_int)) (ja_cons (je_op op_modV (je_call ((ok_l_cell_at T).mono (by decide)) hr T.m_l_cell_at T.f_l_cell_at.kp T.b_l_cell_at .nil (fun _ _ => RepVs.nil) (ja_cons (je_var 0) (ja_cons je_int ja_nil)) rfl rfl (by decide) rfl rfl (lenA_cons (lenA_cons lenA_nil))) je_int) ja_nil)) rfl rfl (by decide) rfl rfl (lenA_cons (lenA_cons lenA_nil))) sc_p_law.nd)
    (js_one (js_set 3 (je_call ((ok_l_fault T).mono (by decide)) hr T.m_l_fault T.f_l_fault.kp T.b_l_fault .nil (fun _ _ => RepVs.nil) (ja_cons (je_var 2) ja_nil) rfl rfl (by decide) rfl rfl (lenA_cons lenA_nil)) sc_p_law.nd))) js_nil)
    (js_cons (js_set 4 (je_call ((ok_l_found T).mono (by decide)) hr T.m_l_found T.f_l_found.kp T.b_l_found .nil (fun _ _ => RepVs.nil) (ja_cons (je_var 2) ja_nil) rfl rfl (by decide) rfl rfl (lenA_cons lenA_nil)) sc_p_law.nd)
    (js_cons (js_if (jt_cmp op_isNoneV (je_var 3) je_non (nomark _)) (js_one (js_if (JW.jt (jw_or (jt_cmp (op_neV (huL 800 hr (by omega))) (je_ix (je_var 4) je_int) (je_str [116, 114, 101, 101]) (nomark _)) (jw_or1 (jt_cmp (op_neV (huL 800 hr (by omega))) (je_call ((ok_p_tree_show T).mono (by decide)) hr T.m_p_tree_show T.f_p_tree_show.kp T.b_p_tree_show .nil (fun _ _ => RepVs.nil) (ja_cons (je_ix (je_var 4) je_int) ja_nil) rfl rfl (by decide) rfl rfl (lenA_cons lenA_nil)) (je_var 2) (nomark _))))) (js_one (js_ret je_bl)) js_nil)) (js_one (js_if (jt_cmp (op_neV (huL 800 hr (by omega))) (je_var 4) (je_lst (ja_cons (je_str [110, 111, 110, 101]) (ja_cons (je_var 3) ja_nil))) (nomark _)) (js_one (js_ret je_bl)) js_nil)))
    (js_cons (js_set 5 (je_call ((ok_l_found T).mono (by decide)) hr T.m_l_found T.f_l_found.kp T.b_l_found .nil (fun _ _ => RepVs.nil) (ja_cons (je_var 1) ja_nil) rfl rfl (by decide) rfl rfl (lenA_cons lenA_nil)) sc_p_law.nd)
    (js_one (js_ret (je_and (je_cmp (op_eqV (huL 800 hr (by omega))) (je_ix (je_var 5) je_int) (je_str [116, 114, 101, 101]) (nomark _)) (je_and (je_cmp (op_eqV (huL 800 hr (by omega))) (je_call ((ok_p_tree_show T).mono (by decide)) hr T.m_p_tree_show T.f_p_tree_show.kp T.b_p_tree_show .nil (fun _ _ => RepVs.nil) (ja_cons (je_ix (je_var 5) je_int) ja_nil) rfl rfl (by decide) rfl rfl (lenA_cons lenA_nil)) (je_var 1) (nomark _)) (je_one (je_cmp (op_eqV (huL 800 hr (by omega))) (je_ix (je_call ((ok_l_found T).mono (by decide)) hr T.m_l_found T.f_l_found.kp T.b_l_found .nil (fun _ _ => RepVs.nil) (ja_cons (je_var 2) ja_nil) rfl rfl (by decide) rfl rfl (lenA_cons lenA_nil)) je_int) (je_ix (je_var 4) je_int) (nomark _))))))))))))))
end
theorem all_mk {l : PySem.W.OpenLaw} {w : World} {K : PySem.W.Frag} {h : Heap} {mg : Str → Option Value} {fa f0 f1 f2 f3 f4 f5 f6 f7 f8 f9 f10 f11 f12 f13 f14 f15 : Addr} (X : K.In h) (G : h.Ns mainGlobals mg) (hfa : mg "law" = some (.ref fa))
    {od0 an0 : Option Addr} {sl0 : Array (Option Value)} {oc0 kV0 dc0 pm0 cd0 ct0 : Value}
    {od1 an1 : Option Addr} {sl1 : Array (Option Value)} {oc1 kV1 dc1 pm1 cd1 ct1 : Value}
    {od2 an2 : Option Addr} {sl2 : Array (Option Value)} {oc2 kV2 dc2 pm2 cd2 ct2 : Value}
    {od3 an3 : Option Addr} {sl3 : Array (Option Value)} {oc3 kV3 dc3 pm3 cd3 ct3 : Value}
    {od4 an4 : Option Addr} {sl4 : Array (Option Value)} {oc4 kV4 dc4 pm4 cd4 ct4 : Value}
    {od5 an5 : Option Addr} {sl5 : Array (Option Value)} {oc5 kV5 dc5 pm5 cd5 ct5 : Value}
    {od6 an6 : Option Addr} {sl6 : Array (Option Value)} {oc6 kV6 dc6 pm6 cd6 ct6 : Value}
    {od7 an7 : Option Addr} {sl7 : Array (Option Value)} {oc7 kV7 dc7 pm7 cd7 ct7 : Value}
    {od8 an8 : Option Addr} {sl8 : Array (Option Value)} {oc8 kV8 dc8 pm8 cd8 ct8 : Value}
    {od9 an9 : Option Addr} {sl9 : Array (Option Value)} {oc9 kV9 dc9 pm9 cd9 ct9 : Value}
    {od10 an10 : Option Addr} {sl10 : Array (Option Value)} {oc10 kV10 dc10 pm10 cd10 ct10 : Value}
    {od11 an11 : Option Addr} {sl11 : Array (Option Value)} {oc11 kV11 dc11 pm11 cd11 ct11 : Value}
    {od12 an12 : Option Addr} {sl12 : Array (Option Value)} {oc12 kV12 dc12 pm12 cd12 ct12 : Value}
    {od13 an13 : Option Addr} {sl13 : Array (Option Value)} {oc13 kV13 dc13 pm13 cd13 ct13 : Value}
    {od14 an14 : Option Addr} {sl14 : Array (Option Value)} {oc14 kV14 dc14 pm14 cd14 ct14 : Value}
    {od15 an15 : Option Addr} {sl15 : Array (Option Value)} {oc15 kV15 dc15 pm15 cd15 ct15 : Value}
    {C_One C_P C_T fI : Addr} {odI anI : Option Addr} {slI : Array (Option Value)} {ocI kVI dcI pmI cdI ctI : Value} (x1 : PySem.W.nsIn K mainGlobals "OneError" = some (some (.ref C_One))) (xP : PySem.W.nsIn K mainGlobals "NoProgram" = some (some (.ref C_P))) (xT : PySem.W.nsIn K mainGlobals "NoTree" = some (some (.ref C_T)))
    (xa : PySem.W.findIn K (.ref C_One) "__init__" = some (some (.ref fI))) (xl : K.lookup fI = some ⟨ocI, odI, .func (PySem.W.fnOf "__init__" "OneError.__init__" (defArgs s_init) (defBody s_init) (defScope s_init) .none kVI dcI pmI anI cdI ctI), slI⟩) (xc : PySem.W.codeIn K cdI "OneError.__init__" = true) (xk : PySem.W.keepIn K (.ref fI) = true)
    (xr_tP : twoIn K C_P C_One fI = true) (xr_tT : twoIn K C_T C_One fI = true) (xr_b : PySem.W.ktsIn K C_One "BaseException" = true) (xr_1 : PySem.W.kitOne K (.ref C_P) (.ref C_T) = some false) (xr_2 : PySem.W.kitOne K (.ref C_T) (.ref C_P) = some false) (xr_3 : PySem.W.kitOne K (.ref C_P) (.type "ValueError") = some true) (xr_4 : PySem.W.kitOne K (.ref C_T) (.type "ValueError") = some true) (xeP : PySem.W.keepIn K (.ref C_P) = true) (xeT : PySem.W.keepIn K (.ref C_T) = true)
    (a0 : PySem.W.nsIn K mainGlobals "joint" = some (some (.ref f0))) (l0 : K.lookup f0 = some ⟨oc0, od0, .func (PySem.W.fnOf "joint" "joint" (defArgs s_p_joint) (defBody s_p_joint) (defScope s_p_joint) .none kV0 dc0 pm0 an0 cd0 ct0), sl0⟩) (c0 : PySem.W.codeIn K cd0 "joint" = true) (k0 : PySem.W.keepIn K (.ref f0) = true)
    (a1 : PySem.W.nsIn K mainGlobals "is_done" = some (some (.ref f1))) (l1 : K.lookup f1 = some ⟨oc1, od1, .func (PySem.W.fnOf "is_done" "is_done" (defArgs s_p_is_done) (defBody s_p_is_done) (defScope s_p_is_done) .none kV1 dc1 pm1 an1 cd1 ct1), sl1⟩) (c1 : PySem.W.codeIn K cd1 "is_done" = true) (k1 : PySem.W.keepIn K (.ref f1) = true)
    (a2 : PySem.W.nsIn K mainGlobals "leaves" = some (some (.ref f2))) (l2 : K.lookup f2 = some ⟨oc2, od2, .func (PySem.W.fnOf "leaves" "leaves" (defArgs s_p_leaves) (defBody s_p_leaves) (defScope s_p_leaves) .none kV2 dc2 pm2 an2 cd2 ct2), sl2⟩) (c2 : PySem.W.codeIn K cd2 "leaves" = true) (k2 : PySem.W.keepIn K (.ref f2) = true)
    (a3 : PySem.W.nsIn K mainGlobals "is_value" = some (some (.ref f3))) (l3 : K.lookup f3 = some ⟨oc3, od3, .func (PySem.W.fnOf "is_value" "is_value" (defArgs s_p_is_value) (defBody s_p_is_value) (defScope s_p_is_value) .none kV3 dc3 pm3 an3 cd3 ct3), sl3⟩) (c3 : PySem.W.codeIn K cd3 "is_value" = true) (k3 : PySem.W.keepIn K (.ref f3) = true)
    (a4 : PySem.W.nsIn K mainGlobals "tree_read" = some (some (.ref f4))) (l4 : K.lookup f4 = some ⟨oc4, od4, .func (PySem.W.fnOf "tree_read" "tree_read" (defArgs s_p_tree_read) (defBody s_p_tree_read) (defScope s_p_tree_read) .none kV4 dc4 pm4 an4 cd4 ct4), sl4⟩) (c4 : PySem.W.codeIn K cd4 "tree_read" = true) (k4 : PySem.W.keepIn K (.ref f4) = true)
    (a5 : PySem.W.nsIn K mainGlobals "may_stand" = some (some (.ref f5))) (l5 : K.lookup f5 = some ⟨oc5, od5, .func (PySem.W.fnOf "may_stand" "may_stand" (defArgs s_p_may_stand) (defBody s_p_may_stand) (defScope s_p_may_stand) .none kV5 dc5 pm5 an5 cd5 ct5), sl5⟩) (c5 : PySem.W.codeIn K cd5 "may_stand" = true) (k5 : PySem.W.keepIn K (.ref f5) = true)
    (a6 : PySem.W.nsIn K mainGlobals "tree_show" = some (some (.ref f6))) (l6 : K.lookup f6 = some ⟨oc6, od6, .func (PySem.W.fnOf "tree_show" "tree_show" (defArgs s_p_tree_show) (defBody s_p_tree_show) (defScope s_p_tree_show) .none kV6 dc6 pm6 an6 cd6 ct6), sl6⟩) (c6 : PySem.W.codeIn K cd6 "tree_show" = true) (k6 : PySem.W.keepIn K (.ref f6) = true)
    (a7 : PySem.W.nsIn K mainGlobals "_law_cell_at" = some (some (.ref f7))) (l7 : K.lookup f7 = some ⟨oc7, od7, .func (PySem.W.fnOf "_law_cell_at" "_law_cell_at" (defArgs s_l_cell_at) (defBody s_l_cell_at) (defScope s_l_cell_at) .none kV7 dc7 pm7 an7 cd7 ct7), sl7⟩) (c7 : PySem.W.codeIn K cd7 "_law_cell_at" = true) (k7 : PySem.W.keepIn K (.ref f7) = true)
    (a8 : PySem.W.nsIn K mainGlobals "_law_draws" = some (some (.ref f8))) (l8 : K.lookup f8 = some ⟨oc8, od8, .func (PySem.W.fnOf "_law_draws" "_law_draws" (defArgs s_l_draws) (defBody s_l_draws) (defScope s_l_draws) .none kV8 dc8 pm8 an8 cd8 ct8), sl8⟩) (c8 : PySem.W.codeIn K cd8 "_law_draws" = true) (k8 : PySem.W.keepIn K (.ref f8) = true)
    (a9 : PySem.W.nsIn K mainGlobals "_law_text" = some (some (.ref f9))) (l9 : K.lookup f9 = some ⟨oc9, od9, .func (PySem.W.fnOf "_law_text" "_law_text" (defArgs s_l_text) (defBody s_l_text) (defScope s_l_text) .none kV9 dc9 pm9 an9 cd9 ct9), sl9⟩) (c9 : PySem.W.codeIn K cd9 "_law_text" = true) (k9 : PySem.W.keepIn K (.ref f9) = true)
    (a10 : PySem.W.nsIn K mainGlobals "_law_sign" = some (some (.ref f10))) (l10 : K.lookup f10 = some ⟨oc10, od10, .func (PySem.W.fnOf "_law_sign" "_law_sign" (defArgs s_l_sign) (defBody s_l_sign) (defScope s_l_sign) .none kV10 dc10 pm10 an10 cd10 ct10), sl10⟩) (c10 : PySem.W.codeIn K cd10 "_law_sign" = true) (k10 : PySem.W.keepIn K (.ref f10) = true)
    (a11 : PySem.W.nsIn K mainGlobals "_law_spoilt" = some (some (.ref f11))) (l11 : K.lookup f11 = some ⟨oc11, od11, .func (PySem.W.fnOf "_law_spoilt" "_law_spoilt" (defArgs s_l_spoilt) (defBody s_l_spoilt) (defScope s_l_spoilt) .none kV11 dc11 pm11 an11 cd11 ct11), sl11⟩) (c11 : PySem.W.codeIn K cd11 "_law_spoilt" = true) (k11 : PySem.W.keepIn K (.ref f11) = true)
    (a12 : PySem.W.nsIn K mainGlobals "_law_chain" = some (some (.ref f12))) (l12 : K.lookup f12 = some ⟨oc12, od12, .func (PySem.W.fnOf "_law_chain" "_law_chain" (defArgs s_l_chain) (defBody s_l_chain) (defScope s_l_chain) .none kV12 dc12 pm12 an12 cd12 ct12), sl12⟩) (c12 : PySem.W.codeIn K cd12 "_law_chain" = true) (k12 : PySem.W.keepIn K (.ref f12) = true)
    (a13 : PySem.W.nsIn K mainGlobals "_law_fault" = some (some (.ref f13))) (l13 : K.lookup f13 = some ⟨oc13, od13, .func (PySem.W.fnOf "_law_fault" "_law_fault" (defArgs s_l_fault) (defBody s_l_fault) (defScope s_l_fault) .none kV13 dc13 pm13 an13 cd13 ct13), sl13⟩) (c13 : PySem.W.codeIn K cd13 "_law_fault" = true) (k13 : PySem.W.keepIn K (.ref f13) = true)
    (a14 : PySem.W.nsIn K mainGlobals "_law_found" = some (some (.ref f14))) (l14 : K.lookup f14 = some ⟨oc14, od14, .func (PySem.W.fnOf "_law_found" "_law_found" (defArgs s_l_found) (defBody s_l_found) (defScope s_l_found) .none kV14 dc14 pm14 an14 cd14 ct14), sl14⟩) (c14 : PySem.W.codeIn K cd14 "_law_found" = true) (k14 : PySem.W.keepIn K (.ref f14) = true)
    (a15 : PySem.W.nsIn K mainGlobals "law" = some (some (.ref f15))) (l15 : K.lookup f15 = some ⟨oc15, od15, .func (PySem.W.fnOf "law" "law" (defArgs s_p_law) (defBody s_p_law) (defScope s_p_law) .none kV15 dc15 pm15 an15 cd15 ct15), sl15⟩) (c15 : PySem.W.codeIn K cd15 "law" = true) (k15 : PySem.W.keepIn K (.ref f15) = true)
    {t_MOST_BRACKETS : Tok} (v_MOST_BRACKETS : PySem.W.nsIn K mainGlobals "MOST_BRACKETS" = some (some (.int 300 t_MOST_BRACKETS)))
    (z_ValueError : PySem.W.nsIn K mainGlobals "ValueError" = some none)
    (z_bool : PySem.W.nsIn K mainGlobals "bool" = some none)
    (z_enumerate : PySem.W.nsIn K mainGlobals "enumerate" = some none)
    (z_int : PySem.W.nsIn K mainGlobals "int" = some none)
    (z_isinstance : PySem.W.nsIn K mainGlobals "isinstance" = some none)
    (z_len : PySem.W.nsIn K mainGlobals "len" = some none)
    (z_range : PySem.W.nsIn K mainGlobals "range" = some none)
    (z_str : PySem.W.nsIn K mainGlobals "str" = some none)
    : ∃ fd : FuncData, (∀ (s : Shared) (v : Value), BindsTo s fd ⟨[v], []⟩ [("_law_script", v)]) ∧ ∀ base : Heap, K.In base → base.Ns mainGlobals mg → FnOk l.prog w K mg base CX0 46 fa fd ["_law_script"] (spM K 1 F_p_law) := by
  have e := hfa.symm.trans (PySem.W.mg_of X G a15)
  cases e
  have F0 := fun_mk (st := s_p_joint) l0 c0 k0
  have F1 := fun_mk (st := s_p_is_done) l1 c1 k1
  have F2 := fun_mk (st := s_p_leaves) l2 c2 k2
  have F3 := fun_mk (st := s_p_is_value) l3 c3 k3
  have F4 := fun_mk (st := s_p_tree_read) l4 c4 k4
  have F5 := fun_mk (st := s_p_may_stand) l5 c5 k5
  have F6 := fun_mk (st := s_p_tree_show) l6 c6 k6
  have F7 := fun_mk (st := s_l_cell_at) l7 c7 k7
  have F8 := fun_mk (st := s_l_draws) l8 c8 k8
  have F9 := fun_mk (st := s_l_text) l9 c9 k9
  have F10 := fun_mk (st := s_l_sign) l10 c10 k10
  have F11 := fun_mk (st := s_l_spoilt) l11 c11 k11
  have F12 := fun_mk (st := s_l_chain) l12 c12 k12
  have F13 := fun_mk (st := s_l_fault) l13 c13 k13
  have F14 := fun_mk (st := s_l_found) l14 c14 k14
  have F15 := fun_mk (st := s_p_law) l15 c15 k15
  have b0 := F0.binds (ps := ["left", "right"]) fun _ _ _ _ _ _ us hl => match us, hl with | [_, _], _ => rfl
  have b1 := F1.binds (ps := ["left", "right"]) fun _ _ _ _ _ _ us hl => match us, hl with | [_, _], _ => rfl
  have b2 := F2.binds (ps := ["tree"]) fun _ _ _ _ _ _ us hl => match us, hl with | [_], _ => rfl
  have b3 := F3.binds (ps := ["tree"]) fun _ _ _ _ _ _ us hl => match us, hl with | [_], _ => rfl
  have b4 := F4.binds (ps := ["text"]) fun _ _ _ _ _ _ us hl => match us, hl with | [_], _ => rfl
  have b5 := F5.binds (ps := ["sign", "opened"]) fun _ _ _ _ _ _ us hl => match us, hl with | [_, _], _ => rfl
  have b6 := F6.binds (ps := ["tree"]) fun _ _ _ _ _ _ us hl => match us, hl with | [_], _ => rfl
  have b7 := F7.binds (ps := ["_law_script", "_law_k"]) fun _ _ _ _ _ _ us hl => match us, hl with | [_, _], _ => rfl
  have b8 := F8.binds (ps := ["_law_script", "_law_at", "_law_many", "_law_base"]) fun _ _ _ _ _ _ us hl => match us, hl with | [_, _, _, _], _ => rfl
  have b9 := F9.binds (ps := ["_law_cells"]) fun _ _ _ _ _ _ us hl => match us, hl with | [_], _ => rfl
  have b10 := F10.binds (ps := ["_law_cell"]) fun _ _ _ _ _ _ us hl => match us, hl with | [_], _ => rfl
  have b11 := F11.binds (ps := ["_law_text_here", "_law_cell", "_law_more"]) fun _ _ _ _ _ _ us hl => match us, hl with | [_, _, _], _ => rfl
  have b12 := F12.binds (ps := ["_law_many", "_law_bits"]) fun _ _ _ _ _ _ us hl => match us, hl with | [_, _], _ => rfl
  have b13 := F13.binds (ps := ["_law_text_here"]) fun _ _ _ _ _ _ us hl => match us, hl with | [_], _ => rfl
  have b14 := F14.binds (ps := ["_law_text_here"]) fun _ _ _ _ _ _ us hl => match us, hl with | [_], _ => rfl
  have b15 := F15.binds (ps := ["_law_script"]) fun _ _ _ _ _ _ us hl => match us, hl with | [_], _ => rfl
  have FI := fun_mk (st := s_init) xl xc xk
  have bI := FI.binds (ps := ["self", "at"]) fun _ _ _ _ _ _ us hl => match us, hl with | [_, _], _ => rfl
  exact ⟨_, fun s v => .of_eq rfl, fun base _ _ => ok_p_law (Ad := ⟨_, _, _, _, _, _, _, _, _, _, _, _, _, _, _, _, _, _, _, _, _, _, _, _, _, _, _, _, _, _, _, _, _, _, _, _, _⟩) ⟨F0, PySem.W.mg_of X G a0, b0, F1, PySem.W.mg_of X G a1, b1, F2, PySem.W.mg_of X G a2, b2, F3, PySem.W.mg_of X G a3, b3, F4, PySem.W.mg_of X G a4, b4, F5, PySem.W.mg_of X G a5, b5, F6, PySem.W.mg_of X G a6, b6, F7, PySem.W.mg_of X G a7, b7, F8, PySem.W.mg_of X G a8, b8, F9, PySem.W.mg_of X G a9, b9, F10, PySem.W.mg_of X G a10, b10, F11, PySem.W.mg_of X G a11, b11, F12, PySem.W.mg_of X G a12, b12, F13, PySem.W.mg_of X G a13, b13, F14, PySem.W.mg_of X G a14, b14, F15, PySem.W.mg_of X G a15, b15, FI, bI, ⟨xP, xT, xr_tP, xr_tT, xr_b, xr_1, xr_2, xr_3, xr_4⟩, PySem.W.mg_of X G x1, PySem.W.mg_of X G xP, PySem.W.mg_of X G xT, xeP, xeT, ⟨_, PySem.W.mg_of X G v_MOST_BRACKETS⟩, PySem.W.mg_none_of X G z_ValueError, PySem.W.mg_none_of X G z_bool, PySem.W.mg_none_of X G z_enumerate, PySem.W.mg_none_of X G z_int, PySem.W.mg_none_of X G z_isinstance, PySem.W.mg_none_of X G z_len, PySem.W.mg_none_of X G z_range, PySem.W.mg_none_of X G z_str⟩⟩
end Law
set_option maxHeartbeats 0
namespace Law
open L2 M Tr
theorem is_value_ok (t : Tr) (st : Stor) : F_p_is_value [enc t] st = .ok (.bl (val t)) st := by
  unfold F_p_is_value gcF fnM b_p_is_value
  have h1 := enc_is_str t st
  cases t with
  | lf s => simp [startM, h1, gc_same, val]
  | jn l r =>
    have j3 : ixV (enc (.jn l r)) (.int 3) st = .ok (.bl (val (.jn l r))) st := by rw [enc]; exact r_ix_tup st 3 _ _ rfl
    generalize enc (.jn l r) = X at *
    simp [startM, h1, j3, gc_same]
theorem leaves_ok (t : Tr) (st : Stor) : F_p_leaves [enc t] st = .ok (.int (lv t : Nat)) st := by
  unfold F_p_leaves gcF fnM b_p_leaves
  have h1 := enc_is_str t st
  cases t with
  | lf s => simp [startM, h1, truV, gc_same, lv]
  | jn l r =>
    have j2 : ixV (enc (.jn l r)) (.int 2) st = .ok (.int (lv (.jn l r) : Nat)) st := by rw [enc]; exact r_ix_tup st 2 _ _ rfl
    generalize enc (.jn l r) = X at *
    simp [startM, h1, truV, j2, gc_same]
theorem is_done_ok (l r : Tr) (st : Stor) : F_p_is_done [enc l, enc r] st = .ok (.bl (val (.jn l r))) st := by
  unfold F_p_is_done gcF fnM b_p_is_done
  have hv := is_value_ok r st
  rw [show startM 2 [enc l, enc r] = [some (enc l), some (enc r)] from rfl]
  cases hr : val r with
  | false =>
    rw [hr] at hv
    have e : val (.jn l r) = false := by
      cases q : val (.jn l r) with
      | false => rfl
      | true => rw [(val_parts q).2] at hr; cases hr
    simp [hv, truV, e, gc_same]
  | true =>
    rw [hr] at hv
    have h1 := enc_is_str l st
    cases l with
    | lf s =>
      rw [val_jn_leaf, hr]
      have e1 := r_eq_enc 799 (.lf s) [83] st
      have e2 := r_eq_enc 799 (.lf s) [75] st
      generalize enc (.lf s) = X at *
      by_cases hs : s = [83]
      · simp [hv, truV, h1, e1, hs, gc_same]
      · by_cases hs2 : s = [75]
        · simp [hv, truV, h1, e1, e2, hs, hs2, gc_same]
        · simp [hv, truV, h1, e1, e2, hs, hs2, gc_same]
    | jn a b =>
      rw [val_jn_jn, hr]
      have j0 : ixV (enc (.jn a b)) (.int 0) st = .ok (enc a) st := by rw [enc]; exact r_ix_tup st 0 _ _ rfl
      have j3 : ixV (enc (.jn a b)) (.int 3) st = .ok (.bl (val (.jn a b))) st := by rw [enc]; exact r_ix_tup st 3 _ _ rfl
      have e1 := r_eq_enc 799 a [83] st
      generalize enc (.jn a b) = X at *
      cases a with
      | lf s =>
        by_cases hs : s = [83]
        · subst hs
          simp [hv, truV, h1, j0, j3, e1, isSj, gc_same]
        · simp [hv, truV, h1, j0, j3, e1, hs, isSj, gc_same]
      | jn a c =>
        simp [hv, truV, h1, j0, j3, e1, isSj, gc_same]
theorem joint_ok (l r : Tr) (st : Stor) : F_p_joint [enc l, enc r] st = .ok (enc (.jn l r)) st := by
  unfold F_p_joint gcF fnM b_p_joint
  have h1 := leaves_ok l st
  have h2 := leaves_ok r st
  have h3 := is_done_ok l r st
  have hu1 := enc_under st.length l
  have hu2 := enc_under st.length r
  have e : enc (.jn l r) = .tup [enc l, enc r, .int ((lv l : Nat) + (lv r : Nat)), .bl (val (.jn l r))] := by rw [enc, lv]; simp
  rw [e]
  generalize enc l = X at *
  generalize enc r = Y at *
  simp [startM, h1, h2, h3, gc_same, hu1, hu2]
end Law
set_option maxHeartbeats 0
namespace Law
open L2 M Tr
def cellI (ns : List Int) (k : Nat) : Int := if k < ns.length then ns.getD k 0 else 0
theorem cell_ok (ns : List Int) (n k : Nat) (st : Stor) (h : itemsAt st n = some (ns.map D.int)) : F_l_cell_at [.loc n, .int k] st = .ok (.int (cellI ns k)) st := by
  unfold F_l_cell_at gcF fnM b_l_cell_at cellI
  by_cases h1 : k < ns.length
  · simp [startM, r_len_loc st n _ h, h1, r_ix_loc st n k _ (.int (ns.getD k 0)) h (by rw [atI_ofNat]; simp [h1]), gc_same]
  · simp [startM, r_len_loc st n _ h, h1, gc_same]
theorem cut_len2 {α : Type} (l : List α) (a m : Nat) : (cut l (some (a : Int)) (some ((a : Int) + (m : Int)))).length ≤ m := by
  unfold cut
  rw [show (a : Int) + (m : Int) = ((a + m : Nat) : Int) by omega, HT.sIx_nat, HT.sIx_nat, List.length_take]
  omega
theorem draws_ok (ns : List Int) (n a m b : Nat) (st : Stor) (h : itemsAt st n = some (ns.map D.int)) (hn : ns.length ≤ 63) (hm : 0 < m) (hm2 : m ≤ 63) (hb : 0 < b) (hb2 : b ≤ 1000) :
    ∃ xs : List Int, xs.length ≤ m ∧ F_l_draws [.loc n, .int a, .int m, .int b] st = .ok (.loc st.length) (st ++ [.lst (xs.map D.int)]) := by
  have c0 : F_l_cell_at [.loc n, .int 0] st = .ok (.int (cellI ns 0)) st := cell_ok ns n 0 st h
  have ca : F_l_cell_at [.loc n, .int a] st = .ok (.int (cellI ns a)) st := cell_ok ns n a st h
  generalize cellI ns 0 = w0 at c0
  generalize cellI ns a = w at ca
  have m1 : ∀ s, mulV (.int w0) (.int 7919) s = .ok (.int (w0 * 7919)) s := fun s => r_mul_int s _ _ (by omega)
  unfold F_l_draws gcF fnM b_l_draws
  generalize hb1 : (seqS (exprS (methE "list" appendV (vr 6) (consA (op2 modV (vr 5) (vr 3)) nilA))) _ : MS) = B1
  generalize hb2 : (seqS (setS 8 (op2 modV (op2 addV _ _) _)) _ : MS) = B2
  rw [show startM 9 [D.loc n, .int a, .int m, .int b] = [some (.loc n), some (.int a), some (.int m), some (.int b), none, none, none, none, none] from rfl]
  have e3 : (w0 * 7919 + 13) % 10007 % 3 = 0 ∨ (w0 * 7919 + 13) % 10007 % 3 = 1 ∨ (w0 * 7919 + 13) % 10007 % 3 = 2 := by omega
  rcases e3 with e3 | e3 | e3
  · have s1 : slV (.loc n) (some (a : Int)) (some ((a : Int) + (m : Int))) st = .ok (.loc st.length) (st ++ [.lst ((cut ns (some (a : Int)) (some ((a : Int) + (m : Int)))).map D.int)]) := by simp [slV, h, cut_map]
    have hcl := cut_len2 ns a m
    generalize cut ns (some (a : Int)) (some ((a : Int) + (m : Int))) = xs at s1 hcl
    refine ⟨xs, by omega, ?_⟩
    have hu := unders_ints st.length xs
    generalize xs.map D.int = X at *
    simp [c0, m1, r_mod_int, e3, s1]
    exact gc_new0 hu
  · obtain ⟨env', st', h1, xs, v, a7, hx, rfl, rfl⟩ := forGo_ix (g := nameG 7) (b := B1) (gs := []) (items := upto 0 m)
      (fun i env s => ∃ (xs : List Int) (v : Int) (a7 : Option D), xs.length = i ∧ env = [some (.loc n), some (.int a), some (.int m), some (.int b), some (.int 1), some (.int v), some (.loc st.length), a7, none] ∧ s = st ++ [.lst (xs.map D.int)])
      (env := [some (.loc n), some (.int a), some (.int m), some (.int b), some (.int 1), some (.int w), some (.loc st.length), none, none]) (st := st ++ [.lst []]) ⟨[], w, none, rfl, rfl, rfl⟩ (by
        rintro i d env s hi ⟨xs, v, a7, hx, rfl, rfl⟩
        obtain ⟨hi', rfl⟩ := upto_get hi
        have g1 : ∀ s i, modV (.int i) (.int (b : Int)) s = .ok (.int (i % (b : Int))) s := fun s i => r_mod_int s i _ (by omega)
        have f1 : ∀ s i, fdivV (.int i) (.int (b : Int)) s = .ok (.int (i / (b : Int))) s := fun s i => r_fdiv_int s i _ (by omega)
        have hl : (xs.map D.int).length < 1000000 := by rw [List.length_map]; omega
        refine ⟨by simp, _, _, rfl, [some (.loc n), some (.int a), some (.int m), some (.int b), some (.int 1), some (.int (v / (b : Int))), some (.loc st.length), some (.int (0 + (i : Nat))), none], st ++ [.lst ((xs ++ [v % (b : Int)]).map D.int)], .inl ?_, xs ++ [v % (b : Int)], _, _, by simp [hx], rfl, rfl⟩
        rw [← hb1, List.map_append]
        generalize xs.map D.int = X at *
        simp [g1, f1, isTy, appendV, hl]) (fun _ _ _ => by simp)
    rw [upto_len] at hx
    refine ⟨xs, by omega, ?_⟩
    have hr1 : -4611686018427387904 ≤ (m : Int) := by omega
    have hr2 : (m : Int) < 4611686018427387904 := by omega
    have hu := unders_ints st.length xs
    generalize xs.map D.int = X at *
    simp [c0, m1, r_mod_int, e3, ca, hr1, hr2, h1]
    exact gc_new0 hu
  · obtain ⟨q, hq⟩ : ∃ q : Nat, 1 + w % (m : Int) = (q : Nat) := Int.eq_ofNat_of_zero_le (by have := Int.emod_nonneg w (show (m : Int) ≠ 0 by omega); omega)
    have hq1 : q ≤ m := by
      have := Int.emod_lt_of_pos w (show 0 < (m : Int) by omega)
      omega
    have g0 : ∀ s i, modV (.int i) (.int (m : Int)) s = .ok (.int (i % (m : Int))) s := fun s i => r_mod_int s i _ (by omega)
    obtain ⟨env', st', h1, xs, v, a7, hx, hv1, rfl, rfl⟩ := forGo_ix (g := nameG 7) (b := B2) (gs := []) (items := upto 0 q)
      (fun i env s => ∃ (xs : List Int) (v : Int) (a7 : Option D), xs.length = i ∧ (0 ≤ v ∧ v < 2147483647) ∧ env = [some (.loc n), some (.int a), some (.int m), some (.int b), some (.int 2), some (.int w), some (.loc st.length), a7, some (.int v)] ∧ s = st ++ [.lst (xs.map D.int)])
      (env := [some (.loc n), some (.int a), some (.int m), some (.int b), some (.int 2), some (.int w), some (.loc st.length), none, some (.int (w % 2147483647))]) (st := st ++ [.lst []]) ⟨[], w % 2147483647, none, rfl, by omega, rfl, rfl⟩ (by
        rintro i d env s hi ⟨xs, v, a7, hx, hv, rfl, rfl⟩
        obtain ⟨hi', rfl⟩ := upto_get hi
        have m2 : ∀ s, mulV (.int v) (.int 48271) s = .ok (.int (v * 48271)) s := fun s => r_mul_int s _ _ (by omega)
        have hl : (xs.map D.int).length < 1000000 := by rw [List.length_map]; omega
        generalize hv' : (v * 48271 + 11 + (0 + (i : Int))) % 2147483647 = v'
        have hv2 : 0 ≤ v' ∧ v' < 2147483647 := by omega
        have m3 : ∀ s, mulV (.int (v' / 64)) (.int 69621) s = .ok (.int (v' / 64 * 69621)) s := fun s => r_mul_int s _ _ (by omega)
        refine ⟨by simp, _, _, rfl, [some (.loc n), some (.int a), some (.int m), some (.int b), some (.int 2), some (.int w), some (.loc st.length), some (.int (0 + (i : Nat))), some (.int v')], st ++ [.lst ((xs ++ [v' / 64 * 69621 % 1000003]).map D.int)], .inl ?_, xs ++ [v' / 64 * 69621 % 1000003], _, _, by simp [hx], hv2, rfl, rfl⟩
        rw [← hb2, List.map_append]
        generalize xs.map D.int = X at *
        generalize (0 + (i : Int)) = i' at *
        simp [m2, hv', r_mod_int, r_fdiv_int, m3, isTy, appendV, hl]) (fun _ _ _ => by simp)
    rw [upto_len] at hx
    refine ⟨xs, by omega, ?_⟩
    have hr1 : -4611686018427387904 ≤ (q : Int) := by omega
    have hr2 : (q : Int) < 4611686018427387904 := by omega
    have hu := unders_ints st.length xs
    generalize xs.map D.int = X at *
    simp [c0, m1, r_mod_int, e3, ca, g0, hq, hr1, hr2, h1]
    exact gc_new0 hu
end Law
set_option maxHeartbeats 0
namespace M
namespace Tr
/-- a tree's text, in pieces; as one -/
def pcs : Tr → List (List Nat)
  | .lf s => [s]
  | .jn l r => [40] :: (pcs l ++ (pcs r ++ [[41]]))
def shw : Tr → List Nat
  | .lf s => s
  | .jn l r => 40 :: (shw l ++ (shw r ++ [41]))
theorem pcs_shw (t : Tr) : (pcs t).flatten = shw t := by
  induction t with
  | lf s => simp [pcs, shw]
  | jn l r h1 h2 => simp [pcs, shw, h1, h2]
def wn : Tr → Nat
  | .lf _ => 1
  | .jn l r => wn l + wn r + 2
def wnW (W : List Tr) : Nat := (W.map wn).sum
def pcsW (W : List Tr) : List (List Nat) := (W.reverse.map pcs).flatten
theorem wnW_snoc (W : List Tr) (t : Tr) : wnW (W ++ [t]) = wnW W + wn t := by simp [wnW]
theorem pcsW_snoc (W : List Tr) (t : Tr) : pcsW (W ++ [t]) = pcs t ++ pcsW W := by simp [pcsW]
theorem wn_pos (t : Tr) : 0 < wn t := by cases t <;> simp [wn]
theorem wnW_len (W : List Tr) : W.length ≤ wnW W := by
  induction W with
  | nil => simp [wnW]
  | cons y W ih => have := wn_pos y; simp [wnW] at ih ⊢; omega
theorem wn_lv (t : Tr) : wn t + 2 = 3 * lv t := by
  induction t with
  | lf s => rfl
  | jn l r h1 h2 => rw [wn, lv]; omega
end Tr
end M
namespace Law
open L2 M Tr
theorem popG2 (st g : Stor) (O ds : List D) (d : D) : popV (.loc (st.length + 1)) [] (st ++ .lst O :: .lst (ds ++ [d]) :: g) = .ok d (st ++ .lst O :: .lst ds :: g) := by simp [popV]
theorem tree_show_ok (t : Tr) (st : Stor) (hw : wn t ≤ 400000) (hl : (shw t).length ≤ 1000000) : F_p_tree_show [enc t] st = .ok (.str (shw t)) st := by
  unfold F_p_tree_show gcF fnM b_p_tree_show
  generalize hB1 : (seqS (setS 3 (meth0E "list" popV (vr 2))) _ : MS) = B1
  let E : Option D → MEnv := fun a3 => [some (enc t), some (.loc st.length), some (.loc (st.length + 1)), a3]
  let S : List (List Nat) → List Tr → Stor → Stor := fun O W g => st ++ .lst (O.map D.str) :: .lst (W.map enc) :: g
  have loop1 : ∀ (k : Nat) (O : List (List Nat)) (W : List Tr) (g : Stor) (a3 : Option D), wnW W ≤ k → O.length + wnW W ≤ 800000 → ∃ a3' g', whileW (tru (vr 2)) B1 (E a3) (S O W g) = .ok (.nx (E a3')) (S (O ++ pcsW W) [] g') := by
    intro k
    induction k with
    | zero =>
      intro O W g a3 hk _
      have hwl := wnW_len W
      cases W with
      | nil =>
        refine ⟨a3, g, ?_⟩
        rw [whileW_eq]
        have tv : truV (.loc (st.length + 1)) (S O [] g) = some false := by simp [truV, S]
        have hp : pcsW [] = [] := rfl
        rw [hp, List.append_nil]
        generalize S O [] g = Z at *
        simp [E, tv]
      | cons y W => simp at hwl; omega
    | succ k ih =>
      intro O W g a3 hk hb
      rcases List.eq_nil_or_concat W with rfl | ⟨W', y, rfl⟩
      · exact ih O [] g a3 (by simp [wnW]) hb
      · rw [List.concat_eq_append] at *
        rw [wnW_snoc] at hk hb
        have hwp := wn_pos y
        have tv : truV (.loc (st.length + 1)) (S O (W' ++ [y]) g) = some true := by simp [truV, S]
        have pv : popV (.loc (st.length + 1)) [] (S O (W' ++ [y]) g) = .ok (enc y) (S O W' g) := by
          show popV _ _ (st ++ .lst _ :: .lst ((W' ++ [y]).map enc) :: g) = _
          rw [List.map_append]
          exact popG2 st g _ _ _
        have it1 : isTy "list" (.loc (st.length + 1)) (S O (W' ++ [y]) g) = true := by simp [isTy, S]
        have is1 := enc_is_str y
        have wl := wnW_len W'
        cases y with
        | lf s =>
          have ap : appendV (.loc st.length) [.str s] (S O W' g) = .ok .non (S (O ++ [s]) W' g) := by
            have hlt : (O.map D.str).length < 1000000 := by rw [List.length_map]; omega
            show appendV _ _ (st ++ .lst (O.map D.str) :: _) = R.ok _ (st ++ .lst ((O ++ [s]).map D.str) :: _)
            rw [List.map_append]
            show _ = R.ok _ (st ++ .lst (O.map D.str ++ [.str s]) :: _)
            generalize O.map D.str = OO at *
            simp [appendV, hlt]
          have it2 : isTy "list" (.loc st.length) (S O W' g) = true := by simp [isTy, S]
          have bd : B1 (E a3) (S O (W' ++ [.lf s]) g) = .ok (.nx (E (some (.str s)))) (S (O ++ [s]) W' g) := by
            rw [← hB1]
            rw [show enc (.lf s) = .str s from rfl] at pv is1
            generalize S O (W' ++ [.lf s]) g = Z0 at *
            generalize S (O ++ [s]) W' g = Z2 at *
            generalize S O W' g = Z1 at *
            simp [E, it1, pv, is1, truV, it2, ap]
          obtain ⟨a3', g', hr⟩ := ih (O ++ [s]) W' g (some (.str s)) (by omega) (by simp; omega)
          refine ⟨a3', g', ?_⟩
          rw [whileW_eq]
          have hp : O ++ pcsW (W' ++ [.lf s]) = O ++ [s] ++ pcsW W' := by rw [pcsW_snoc]; simp [pcs]
          rw [hp, ← hr]
          generalize S O (W' ++ [.lf s]) g = Z0 at *
          have te : tru (vr 2) (E a3) Z0 = .ok true Z0 := by simp [E, tv]
          rw [te, R.bind_ok, if_pos rfl, bd, R.bind_ok]
        | jn l r =>
          rw [wn] at hk hb
          have x0 : ∀ s1, ixV (enc (.jn l r)) (.int 0) s1 = .ok (enc l) s1 := fun s1 => by rw [enc]; exact r_ix_tup s1 0 _ _ rfl
          have x1 : ∀ s1, ixV (enc (.jn l r)) (.int 1) s1 = .ok (enc r) s1 := fun s1 => by rw [enc]; exact r_ix_tup s1 1 _ _ rfl
          have ap : appendV (.loc st.length) [.str [40]] (S O W' g) = .ok .non (S (O ++ [[40]]) W' g) := by
            have hlt : (O.map D.str).length < 1000000 := by rw [List.length_map]; omega
            show appendV _ _ (st ++ .lst (O.map D.str) :: _) = R.ok _ (st ++ .lst ((O ++ [[40]]).map D.str) :: _)
            rw [List.map_append]
            show _ = R.ok _ (st ++ .lst (O.map D.str ++ [.str [40]]) :: _)
            generalize O.map D.str = OO at *
            simp [appendV, hlt]
          have it2 : isTy "list" (.loc st.length) (S O W' g) = true := by simp [isTy, S]
          let g1 : Stor := g ++ [.lst [.str [41], enc r, enc l]]
          have ls : ∀ e0 e1 e2, lstE (consA (ct (.str [41])) (consA (op2 ixV (vr 3) (ct (.int 1))) (consA (op2 ixV (vr 3) (ct (.int 0))) nilA))) [e0, e1, e2, some (enc (.jn l r))] (S (O ++ [[40]]) W' g) = .ok (.loc (st.length + (g.length + 2))) (S (O ++ [[40]]) W' g1) := fun e0 e1 e2 => by
            have e : S (O ++ [[40]]) W' g1 = S (O ++ [[40]]) W' g ++ [.lst [.str [41], enc r, enc l]] := by simp [S, g1]
            have el : (S (O ++ [[40]]) W' g).length = st.length + (g.length + 2) := by simp [S]
            rw [e, ← el]
            generalize S (O ++ [[40]]) W' g = Z at *
            generalize enc (.jn l r) = J at *
            simp [x0, x1]
          have ex : extendV (.loc (st.length + 1)) [.loc (st.length + (g.length + 2))] (S (O ++ [[40]]) W' g1) = .ok .non (S (O ++ [[40]]) (W' ++ [.lf [41], r, l]) g1) := by
            have q1 : (S (O ++ [[40]]) W' g1)[st.length + 1]? = some (.lst (W'.map enc)) := by simp [S]
            have q2 : (S (O ++ [[40]]) W' g1)[st.length + (g.length + 2)]? = some (.lst [.str [41], enc r, enc l]) := by
              have e : S (O ++ [[40]]) W' g1 = S (O ++ [[40]]) W' g ++ [.lst [.str [41], enc r, enc l]] := by simp [S, g1]
              have el : (S (O ++ [[40]]) W' g).length = st.length + (g.length + 2) := by simp [S]
              rw [e, ← el]; simp
            unfold extendV
            simp only [q1, q2]
            rw [if_pos (by simp; omega)]
            simp [S]
            rfl
          have it3 : isTy "list" (.loc (st.length + 1)) (S (O ++ [[40]]) W' g) = true := by simp [isTy, S]
          have it4 : isTy "list" (.loc (st.length + 1)) (S (O ++ [[40]]) W' g1) = true := by simp [isTy, S]
          have bd : B1 (E a3) (S O (W' ++ [.jn l r]) g) = .ok (.nx (E (some (enc (.jn l r))))) (S (O ++ [[40]]) (W' ++ [.lf [41], r, l]) g1) := by
            rw [← hB1]
            generalize hLS : lstE (consA (ct (.str [41])) _) = LS at *
            generalize S O (W' ++ [.jn l r]) g = Z0 at *
            generalize S (O ++ [[40]]) (W' ++ [.lf [41], r, l]) g1 = Z4 at *
            generalize S (O ++ [[40]]) W' g1 = Z3 at *
            generalize S (O ++ [[40]]) W' g = Z2 at *
            generalize S O W' g = Z1 at *
            generalize enc (.jn l r) = J at *
            simp [E, it1, pv, is1, truV, it2, ap, ls, ex, it3, it4]
          have hwn : wnW (W' ++ [.lf [41], r, l]) = wnW W' + (wn l + wn r + 1) := by simp [wnW, wn]; omega
          obtain ⟨a3', g', hr⟩ := ih (O ++ [[40]]) (W' ++ [.lf [41], r, l]) g1 (some (enc (.jn l r))) (by rw [hwn]; omega) (by rw [hwn]; simp; omega)
          refine ⟨a3', g', ?_⟩
          rw [whileW_eq]
          have hp : O ++ pcsW (W' ++ [.jn l r]) = O ++ [[40]] ++ pcsW (W' ++ [.lf [41], r, l]) := by
            rw [pcsW_snoc, show W' ++ [.lf [41], r, l] = ((W' ++ [Tr.lf [41]]) ++ [r]) ++ [l] by simp, pcsW_snoc, pcsW_snoc, pcsW_snoc]
            simp [pcs]
          rw [hp, ← hr]
          generalize S O (W' ++ [.jn l r]) g = Z0 at *
          have te : tru (vr 2) (E a3) Z0 = .ok true Z0 := by simp [E, tv]
          rw [te, R.bind_ok, if_pos rfl, bd, R.bind_ok]
  obtain ⟨a3', g', hr⟩ := loop1 (wnW [t]) [] [t] [] none (Nat.le_refl _) (by simp [wnW]; omega)
  have hr2 : whileW (tru (vr 2)) B1 (E none) (st ++ [.lst [], .lst [enc t]]) = .ok (.nx (E a3')) (S (pcs t) [] g') := by
    rw [show pcs t = [] ++ pcsW [t] by simp [pcsW]]
    exact hr
  have hlen : ((pcs t).map List.length).sum = (shw t).length := by rw [← pcs_shw, List.length_flatten]
  have jn := r_join (S (pcs t) [] g') [] st.length (pcs t) (by simp [S, itemsAt]) (by rw [hlen]; simp; exact hl)
  rw [joinL_nil, pcs_shw] at jn
  have fin : gc st (.ok (.str (shw t)) (S (pcs t) [] g')) = .ok (.str (shw t)) st := gc_flat (by simp)
  rw [show startM 4 [enc t] = [some (enc t), none, none, none] from rfl]
  have l1 : ∀ env, lstE nilA env st = .ok (.loc st.length) (st ++ [.lst []]) := fun env => by simp
  have l2 : ∀ e1 er, lstE (consA (vr 0) nilA) (some (enc t) :: e1 :: er) (st ++ [.lst []]) = .ok (.loc (st.length + 1)) (st ++ [.lst [], .lst [enc t]]) := fun e1 er => by simp
  generalize hL1 : lstE nilA = L1 at *
  generalize hL2 : lstE (consA (vr 0) nilA) = L2 at *
  generalize S (pcs t) [] g' = Z3 at *
  generalize (st ++ [.lst [], .lst [enc t]] : Stor) = Z2 at *
  generalize (st ++ [.lst []] : Stor) = Z1 at *
  simp only [E] at hr2
  generalize enc t = T at *
  have is0 : isTy "str" (.str []) Z3 = true := rfl
  simp [l1, l2, hr2, jn, is0, fin]
end Law
set_option maxHeartbeats 0
namespace M
theorem forGo_step {g : MG} {b : MS} {gs : List (Nat × MO)} {d : D} {r : List D} {env env1 env2 : MEnv} {st st1 st2 : Stor} (ho : okG gs st) (hg : g d env st = .ok env1 st1) (hb : b env1 st1 = .ok (.nx env2) st2) :
    forGo g b gs (d :: r) env st = forGo g b gs r env2 st2 := by
  rw [forGo, if_pos ho, hg, R.bind_ok, hb, R.bind_ok]
theorem forGo_end {g : MG} {b : MS} {gs : List (Nat × MO)} {env : MEnv} {st : Stor} (ho : okG gs st) : forGo g b gs [] env st = .ok (.nx env) st := by
  rw [forGo, if_pos ho]
end M
namespace Law
open L2 M Tr
/-- the first loop's turn -/
theorem atI_last {α : Type} (l : List α) (a : α) : atI (l ++ [a]) (-1) = some a := by
  have e : ixN (l ++ [a]).length (-1) = some l.length := by
    unfold ixN
    rw [List.length_append, List.length_singleton]
    simp
    all_goals omega
  unfold atI
  rw [e]
  simp
/-- what stands open: the outer list at p, its last one at q -/
structure Opn (S : Stor) (p q : Nat) (os : List D) (ps : List Tr) : Prop where
  po : S[p]? = some (.lst (os ++ [.loc q]))
  qo : S[q]? = some (.lst (ps.map enc))
  ne : p ≠ q
theorem may_ok {S : Stor} {p q : Nat} {os : List D} {ps : List Tr} (h : Opn S p q os ps) (c : Nat) (b : Bool) (ho : os.length ≤ 10000)
    (h1 : ¬ (os = [] ∧ ps.length = 1)) (h2 : b = if ps.length = 2 then decide (c = 41) else if c = 40 then decide (os.length + 1 ≤ 300) else (decide (c = 83) || decide (c = 75))) :
    F_p_may_stand [.str [c], .loc p] S = .ok (.bl b) S := by
  have ip : itemsAt S p = some (os ++ [.loc q]) := by unfold itemsAt; rw [h.po]
  have iq : itemsAt S q = some (ps.map enc) := by unfold itemsAt; rw [h.qo]
  have ix : ixV (.loc p) (.int (-1)) S = .ok (.loc q) S := r_ix_loc S p _ _ _ ip (atI_last _ _)
  have lp : lenV [.loc p] S = .ok (.int ((os.length : Int) + 1)) S := by
    have := r_len_loc S p _ ip
    rw [List.length_append, List.length_singleton] at this
    rw [this]; simp
  have lq : lenV [.loc q] S = .ok (.int (ps.length : Nat)) S := by
    have := r_len_loc S q _ iq
    rwa [List.length_map] at this
  unfold F_p_may_stand gcF fnM b_p_may_stand
  rw [show startM 3 [D.str [c], .loc p] = [some (.str [c]), some (.loc p), none] from rfl]
  by_cases hp2 : ps.length = 2
  · rw [if_pos hp2] at h2
    have c1 : ¬ ((ps.length : Int) = 1) := by omega
    have c2 : ((ps.length : Int) = 2) := by omega
    rw [c2] at lq
    by_cases ho1 : os = []
    · subst ho1
      simp [ix, lp, lq, h2, gc_same]
    · have c3 : ¬ ((os.length : Int) + 1 = 1) := by
        have : os.length ≠ 0 := fun z => ho1 (List.length_eq_zero_iff.mp z)
        omega
      generalize ((os.length : Nat) : Int) + 1 = ol at *
      simp [ix, lp, lq, c3, h2, gc_same]
  · rw [if_neg hp2] at h2
    have c2 : ¬ ((ps.length : Int) = 2) := by omega
    have c3 : ¬ ((os.length : Int) + 1 = 1 ∧ (ps.length : Int) = 1) := by
      rintro ⟨z1, z2⟩
      exact h1 ⟨List.length_eq_zero_iff.mp (by omega), by omega⟩
    have t1 : andT (tB1 (op2 (eqV 800) (callE lenV (consA (vr 1) nilA)) (ct (.int 1)))) (tB1 (op2 (eqV 800) (callE lenV (consA (vr 2) nilA)) (ct (.int 1)))) [some (.str [c]), some (.loc p), some (.loc q)] S = .ok false S := by
      by_cases z1 : (os.length : Int) + 1 = 1
      · have z2 : ¬ ((ps.length : Int) = 1) := fun z => c3 ⟨z1, z⟩
        generalize ((os.length : Nat) : Int) + 1 = ol at *
        generalize ((ps.length : Nat) : Int) = pl at *
        simp [lp, lq, z1, z2]
      · generalize ((os.length : Nat) : Int) + 1 = ol at *
        generalize ((ps.length : Nat) : Int) = pl at *
        simp [lp, lq, z1]
    generalize hT1 : andT (tB1 _) (tB1 _) = T1 at *
    by_cases hc : c = 40
    · rw [if_pos hc] at h2
      have e3 : decide (os.length + 1 ≤ 300) = decide ((os.length : Int) + 1 ≤ 300) := by
        by_cases z : os.length + 1 ≤ 300
        · rw [decide_eq_true z, decide_eq_true (by omega)]
        · rw [decide_eq_false z, decide_eq_false (by omega)]
      rw [e3] at h2
      subst hc
      generalize ((os.length : Nat) : Int) + 1 = ol at *
      generalize ((ps.length : Nat) : Int) = pl at *
      simp [ix, t1, lp, lq, c2, h2, gc_same]
    · rw [if_neg hc] at h2
      generalize ((os.length : Nat) : Int) + 1 = ol at *
      generalize ((ps.length : Nat) : Int) = pl at *
      by_cases h83 : c = 83
      · subst h83
        simp [ix, t1, lp, lq, c2, h2, gc_same]
      · by_cases h75 : c = 75
        · subst h75
          simp [ix, t1, lp, lq, c2, h2, gc_same]
        · simp [ix, t1, lp, lq, c2, h2, hc, h83, h75, gc_same]
noncomputable abbrev rdB (RZ : MS) : MS := (seqS (ifS (notT (tru (callF F_p_may_stand [] (consA (vr 3) (consA (vr 1) nilA))))) RZ skipS)
    (ifS (tB1 (op2 (eqV 800) (vr 3) (ct (.str [40])))) (exprS (methE "list" appendV (vr 1) (consA (lstE nilA) nilA))) (ifS (tB1 (op2 (eqV 800) (vr 3) (ct (.str [41])))) (seqS (setS 4 (meth0E "list" popV (vr 1)))
    (exprS (methE "list" appendV (op2 ixV (vr 1) (op1 negV (ct (.int 1)))) (consA (callF F_p_joint [] (consA (op2 ixV (vr 4) (ct (.int 0))) (consA (op2 ixV (vr 4) (ct (.int 1))) nilA))) nilA)))) (exprS (methE "list" appendV (op2 ixV (vr 1) (op1 negV (ct (.int 1)))) (consA (vr 3) nilA))))))
/-- a leaf's sign -/
theorem read_leaf (RZ : MS) {S : Stor} {p q : Nat} {os : List D} {ps : List Tr} (h : Opn S p q os ps) (ho : os.length ≤ 10000) (h1 : ¬ (os = [] ∧ ps.length = 1)) (hp : ps.length < 2) (c : Nat) (hc : c = 83 ∨ c = 75) (a0 a2 a4 : Option D) :
    rdB RZ [a0, some (.loc p), a2, some (.str [c]), a4] S = .ok (.nx [a0, some (.loc p), a2, some (.str [c]), a4]) (S.set q (.lst ((ps ++ [Tr.lf [c]]).map enc))) := by
  have mo := may_ok h c true ho h1 (by
    rw [if_neg (by omega), if_neg (by rcases hc with rfl | rfl <;> decide)]
    rcases hc with rfl | rfl <;> rfl)
  have ip : itemsAt S p = some (os ++ [.loc q]) := by unfold itemsAt; rw [h.po]
  have ix : ixV (.loc p) (.int (-1)) S = .ok (.loc q) S := r_ix_loc S p _ _ _ ip (atI_last _ _)
  have ap : appendV (.loc q) [.str [c]] S = .ok .non (S.set q (.lst ((ps ++ [Tr.lf [c]]).map enc))) := by
    unfold appendV
    simp only [h.qo]
    rw [if_pos (by rw [List.length_map]; omega), List.map_append]
    rfl
  have it : isTy "list" (.loc q) S = true := by simp [isTy, h.qo]
  have n40 : ¬ c = 40 := by rcases hc with rfl | rfl <;> decide
  have n41 : ¬ c = 41 := by rcases hc with rfl | rfl <;> decide
  generalize S.set q (.lst ((ps ++ [Tr.lf [c]]).map enc)) = Z at *
  simp [rdB, mo, truV, n40, n41, ix, it, ap]
/-- a bracket that opens -/
theorem read_open (RZ : MS) {S : Stor} {p q : Nat} {os : List D} {ps : List Tr} (h : Opn S p q os ps) (ho : os.length + 1 ≤ 300) (h1 : ¬ (os = [] ∧ ps.length = 1)) (hp : ps.length < 2) (a0 a2 a4 : Option D) :
    rdB RZ [a0, some (.loc p), a2, some (.str [40]), a4] S = .ok (.nx [a0, some (.loc p), a2, some (.str [40]), a4]) (S.set p (.lst (os ++ [.loc q] ++ [.loc S.length])) ++ [.lst []]) := by
  have mo := may_ok h 40 true (by omega) h1 (by rw [if_neg (by omega), if_pos rfl, decide_eq_true ho])
  have it : isTy "list" (.loc p) S = true := by simp [isTy, h.po]
  have hlt : p < S.length := (List.getElem?_eq_some_iff.mp h.po).1
  have l1 : ∀ env, lstE nilA env S = .ok (.loc S.length) (S ++ [.lst []]) := fun env => by simp
  have it2 : isTy "list" (.loc p) (S ++ [.lst []]) = true := by simp [isTy, get_app h.po]
  have ap : appendV (.loc p) [.loc S.length] (S ++ [.lst []]) = .ok .non (S.set p (.lst (os ++ [.loc q] ++ [.loc S.length])) ++ [.lst []]) := by
    unfold appendV
    simp only [show (S ++ [MO.lst []])[p]? = _ from get_app h.po]
    rw [if_pos (by simp; omega), List.set_append_left _ _ hlt]
  generalize hL1 : lstE nilA = L1 at *
  generalize (S.set p (.lst (os ++ [.loc q] ++ [.loc S.length])) ++ [.lst []] : Stor) = Z2 at *
  generalize (S ++ [.lst []] : Stor) = Z1 at *
  simp [rdB, hL1, mo, truV, it, it2, l1, ap]
/-- a bracket that closes -/
theorem read_close (RZ : MS) {S : Stor} {p q m : Nat} {os : List D} {ps : List Tr} {l r : Tr} (h : Opn S p m (os ++ [.loc q]) [l, r]) (hq : S[q]? = some (.lst (ps.map enc))) (hpq : p ≠ q) (ho : os.length ≤ 1000) (hp : ps.length < 2) (a0 a2 a4 : Option D) :
    rdB RZ [a0, some (.loc p), a2, some (.str [41]), a4] S = .ok (.nx [a0, some (.loc p), a2, some (.str [41]), some (.loc m)]) ((S.set p (.lst (os ++ [.loc q]))).set q (.lst ((ps ++ [Tr.jn l r]).map enc))) := by
  have mo := may_ok h 41 true (by simp; omega) (by simp) (by simp)
  have it : isTy "list" (.loc p) S = true := by simp [isTy, h.po]
  have hlt : p < S.length := (List.getElem?_eq_some_iff.mp h.po).1
  let S1 : Stor := S.set p (.lst (os ++ [.loc q]))
  have pv : popV (.loc p) [] S = .ok (.loc m) S1 := by
    unfold popV
    simp only [h.po]
    simp [S1]
  have hp1 : S1[p]? = some (.lst (os ++ [.loc q])) := by simp [S1, hlt]
  have hm1 : S1[m]? = some (.lst ([l, r].map enc)) := by
    show (S.set p _)[m]? = _
    rw [List.getElem?_set_ne h.ne, h.qo]
  have hq1 : S1[q]? = some (.lst (ps.map enc)) := by
    show (S.set p _)[q]? = _
    rw [List.getElem?_set_ne hpq, hq]
  have ix : ixV (.loc p) (.int (-1)) S1 = .ok (.loc q) S1 := r_ix_loc S1 p _ _ _ (by unfold itemsAt; rw [hp1]) (atI_last _ _)
  have im : itemsAt S1 m = some [enc l, enc r] := by unfold itemsAt; rw [hm1]; rfl
  have x0 : ixV (.loc m) (.int 0) S1 = .ok (enc l) S1 := r_ix_loc S1 m 0 _ _ im rfl
  have x1 : ixV (.loc m) (.int 1) S1 = .ok (enc r) S1 := r_ix_loc S1 m 1 _ _ im rfl
  have j1 := joint_ok l r S1
  have ap : appendV (.loc q) [enc (.jn l r)] S1 = .ok .non (S1.set q (.lst ((ps ++ [Tr.jn l r]).map enc))) := by
    unfold appendV
    simp only [hq1]
    rw [if_pos (by rw [List.length_map]; omega), List.map_append]
    rfl
  have itq : isTy "list" (.loc q) S1 = true := by simp [isTy, hq1]
  change _ = R.ok _ (S1.set q (.lst ((ps ++ [Tr.jn l r]).map enc)))
  generalize S1.set q (.lst ((ps ++ [Tr.jn l r]).map enc)) = Z2 at *
  generalize S1 = Z1 at *
  generalize enc (.jn l r) = J at *
  generalize enc l = L at *
  generalize enc r = R' at *
  simp [rdB, mo, truV, it, pv, ix, itq, x0, x1, j1, ap]
/-- a sign that may not stand -/
theorem read_bad (RZ : MS) {S : Stor} {p : Nat} {c : Nat} {x : Xc} (mo : F_p_may_stand [.str [c], .loc p] S = .ok (.bl false) S) (a0 a2 a4 : Option D) (hz : RZ [a0, some (.loc p), a2, some (.str [c]), a4] S = .err x S) :
    rdB RZ [a0, some (.loc p), a2, some (.str [c]), a4] S = .err x S := by
  simp [rdB, mo, truV, hz]
theorem may_whole {S : Stor} {p q : Nat} {ps : List Tr} (h : Opn S p q [] ps) (c : Nat) (h1 : ps.length = 1) : F_p_may_stand [.str [c], .loc p] S = .ok (.bl false) S := by
  have ip : itemsAt S p = some ([] ++ [.loc q]) := by unfold itemsAt; rw [h.po]
  have iq : itemsAt S q = some (ps.map enc) := by unfold itemsAt; rw [h.qo]
  have ix : ixV (.loc p) (.int (-1)) S = .ok (.loc q) S := r_ix_loc S p _ _ _ ip (atI_last _ _)
  have lp : lenV [.loc p] S = .ok (.int 1) S := by
    have := r_len_loc S p _ ip
    rw [this]; rfl
  have lq : lenV [.loc q] S = .ok (.int 1) S := by
    have := r_len_loc S q _ iq
    rw [List.length_map, h1] at this
    rw [this]; rfl
  unfold F_p_may_stand gcF fnM b_p_may_stand
  rw [show startM 3 [D.str [c], .loc p] = [some (.str [c]), some (.loc p), none] from rfl]
  simp [ix, lp, lq, gc_same]
noncomputable abbrev readG : MG := tupG 2 (consG (nameG 2) (consG (nameG 3) nilG))
def sgs (cs : List Nat) : List D := cs.map fun c => D.str [c]
theorem sgs_cons (c : Nat) (cs : List Nat) : sgs (c :: cs) = .str [c] :: sgs cs := rfl
theorem enum_cons (k : Nat) (d : D) (ds : List D) : enumL k (d :: ds) = .tup [.int (k : Nat), d] :: enumL (k + 1) ds := rfl
end Law
set_option maxHeartbeats 0
namespace Law
open L2 M Tr
/-! [19], pure: what is open, the innermost first -/
def may : List (List Tr) → Nat → Bool
  | [], _ => false
  | top :: rest, c => if rest = [] ∧ top.length = 1 then false else if top.length = 2 then decide (c = 41) else if c = 40 then decide (rest.length + 1 ≤ 300) else (decide (c = 83) || decide (c = 75))
theorem may_cons (top : List Tr) (rest : List (List Tr)) (c : Nat) : may (top :: rest) c = if rest = [] ∧ top.length = 1 then false else if top.length = 2 then decide (c = 41) else if c = 40 then decide (rest.length + 1 ≤ 300) else (decide (c = 83) || decide (c = 75)) := rfl
def shut : List Tr → List (List Tr) → List (List Tr)
  | [l, r], t2 :: r2 => (t2 ++ [Tr.jn l r]) :: r2
  | _, _ => []
def stp : List (List Tr) → Nat → List (List Tr)
  | [], _ => []
  | top :: rest, c => if c = 40 then [] :: top :: rest else if c = 41 then shut top rest else (top ++ [Tr.lf [c]]) :: rest
def run (k : Nat) (R : List (List Tr)) : List Nat → Nat ⊕ List (List Tr)
  | [] => .inr R
  | c :: cs => if may R c = true then run (k + 1) (stp R c) cs else .inl k
/-- below the innermost -/
def Lw : List (List Tr) → Prop
  | [] => False
  | m :: rest => (rest = [] → m = []) ∧ m.length ≤ 1 ∧ (∀ t ∈ m, sk t) ∧ (rest ≠ [] → Lw rest)
def Iv : List (List Tr) → Prop
  | [] => False
  | m :: rest => (rest = [] → m.length ≤ 1) ∧ m.length ≤ 2 ∧ (∀ t ∈ m, sk t) ∧ (rest ≠ [] → Lw rest) ∧ rest.length ≤ 300
theorem Iv.step {R : List (List Tr)} {c : Nat} (h : Iv R) (hm : may R c = true) : Iv (stp R c) := by
  cases R with
  | nil => exact h
  | cons top rest =>
    obtain ⟨h1, h2, h3, h4, h5⟩ := h
    rw [may_cons] at hm
    split at hm
    · cases hm
    · rename_i hw
      by_cases ht : top.length = 2
      · rw [if_pos ht] at hm
        have hc : c = 41 := by simpa using hm
        subst hc
        match top, ht with
        | [l, r], _ =>
          cases rest with
          | nil => have := h1 rfl; simp at this
          | cons t2 r2 =>
            obtain ⟨k1, k2, k3, k4⟩ := h4 (by simp)
            show Iv ((t2 ++ [Tr.jn l r]) :: r2)
            refine ⟨fun e => by rw [k1 e]; simp, by simp; omega, fun t ht => ?_, k4, by simp at h5; omega⟩
            rcases List.mem_append.mp ht with ht | ht
            · exact k3 t ht
            · obtain rfl := List.mem_singleton.mp ht
              exact ⟨h3 l (by simp), h3 r (by simp)⟩
      · rw [if_neg ht] at hm
        by_cases hc : c = 40
        · subst hc
          rw [if_pos rfl] at hm
          have h6 : rest.length + 1 ≤ 300 := by simpa using hm
          show Iv ([] :: top :: rest)
          refine ⟨by simp, by simp, by simp, fun _ => ⟨fun e => ?_, by omega, h3, h4⟩, by simpa using h6⟩
          have := h1 e
          exact List.length_eq_zero_iff.mp (by have : ¬ top.length = 1 := fun z => hw ⟨e, z⟩; omega)
        · rw [if_neg hc] at hm
          have hc2 : c = 83 ∨ c = 75 := by simpa using hm
          have n41 : ¬ c = 41 := by omega
          show Iv (if c = 40 then _ else if c = 41 then _ else (top ++ [Tr.lf [c]]) :: rest)
          rw [if_neg hc, if_neg n41]
          refine ⟨fun e => ?_, by simp; omega, fun t ht => ?_, h4, h5⟩
          · have := h1 e
            have : ¬ top.length = 1 := fun z => hw ⟨e, z⟩
            rw [List.length_append, List.length_singleton]; omega
          · rcases List.mem_append.mp ht with ht | ht
            · exact h3 t ht
            · obtain rfl := List.mem_singleton.mp ht
              rcases hc2 with rfl | rfl
              · exact .inl rfl
              · exact .inr rfl
def shws (l : List Tr) : List Nat := (l.map shw).flatten
def txt : List (List Tr) → List Nat
  | [] => []
  | top :: rest => (if rest = [] then [] else txt rest ++ [40]) ++ shws top
theorem txt_cons (top : List Tr) (rest : List (List Tr)) : txt (top :: rest) = (if rest = [] then [] else txt rest ++ [40]) ++ shws top := rfl
theorem stp_cons (top : List Tr) (rest : List (List Tr)) (c : Nat) : stp (top :: rest) c = if c = 40 then [] :: top :: rest else if c = 41 then shut top rest else (top ++ [Tr.lf [c]]) :: rest := rfl
theorem shws_app (l : List Tr) (t : Tr) : shws (l ++ [t]) = shws l ++ shw t := by simp [shws]
theorem stp_txt {R : List (List Tr)} {c : Nat} (h : Iv R) (hm : may R c = true) : txt (stp R c) = txt R ++ [c] := by
  cases R with
  | nil => exact h.elim
  | cons top rest =>
    obtain ⟨h1, h2, h3, h4, h5⟩ := h
    rw [may_cons] at hm
    split at hm
    · cases hm
    · rename_i hw
      by_cases ht : top.length = 2
      · rw [if_pos ht] at hm
        have hc : c = 41 := by simpa using hm
        subst hc
        match top, ht with
        | [l, r], _ =>
          cases rest with
          | nil => have := h1 rfl; simp at this
          | cons t2 r2 =>
            show txt ((t2 ++ [Tr.jn l r]) :: r2) = _
            have hne : ¬ (t2 :: r2 = []) := by simp
            simp only [txt_cons, shws_app, if_neg hne]
            simp [shws, shw]
      · rw [if_neg ht] at hm
        by_cases hc : c = 40
        · subst hc
          show txt ([] :: top :: rest) = _
          rw [txt, if_neg (by simp)]
          simp [shws]
        · rw [if_neg hc] at hm
          have hc2 : c = 83 ∨ c = 75 := by simpa using hm
          have n41 : ¬ c = 41 := by omega
          show txt (if c = 40 then _ else if c = 41 then _ else (top ++ [Tr.lf [c]]) :: rest) = _
          rw [if_neg hc, if_neg n41, txt, txt, shws_app]
          simp [shw]
theorem run_txt : ∀ (cs : List Nat) (k : Nat) (R R' : List (List Tr)), Iv R → run k R cs = .inr R' → Iv R' ∧ txt R' = txt R ++ cs
  | [], k, R, R', h, e => by cases e; exact ⟨h, by simp⟩
  | c :: cs, k, R, R', h, e => by
    rw [run] at e
    split at e
    · rename_i hm
      obtain ⟨h1, h2⟩ := run_txt cs (k + 1) _ R' (h.step hm) e
      exact ⟨h1, by rw [h2, stp_txt h hm]; simp⟩
    · cases e
/-- a tree's text is gone through -/
theorem run_shw (t : Tr) : sk t → ∀ (top : List Tr) (rest : List (List Tr)) (k : Nat) (cs : List Nat), ¬ (rest = [] ∧ top.length = 1) → top.length < 2 → rest.length + 1 + dp t ≤ 301 → ∃ k', run k (top :: rest) (shw t ++ cs) = run k' ((top ++ [t]) :: rest) cs := by
  induction t with
  | lf s =>
    intro hs top rest k cs h1 h2 h3
    obtain ⟨c, hc, rfl⟩ : ∃ c, (c = 83 ∨ c = 75) ∧ s = [c] := by
      rcases hs with rfl | rfl
      · exact ⟨83, .inl rfl, rfl⟩
      · exact ⟨75, .inr rfl, rfl⟩
    refine ⟨k + 1, ?_⟩
    have n40 : ¬ c = 40 := by omega
    have n41 : ¬ c = 41 := by omega
    show run k (top :: rest) (c :: cs) = _
    rw [run, if_pos (by rw [may_cons, if_neg h1, if_neg (by omega), if_neg n40]; simpa using hc)]
    rw [stp_cons, if_neg n40, if_neg n41]
  | jn l r ihl ihr =>
    intro hs top rest k cs h1 h2 h3
    rw [dp] at h3
    have e0 : shw (.jn l r) ++ cs = 40 :: (shw l ++ (shw r ++ (41 :: cs))) := by simp [shw]
    rw [e0, run, if_pos (by rw [may_cons, if_neg h1, if_neg (by omega), if_pos rfl]; simp; omega)]
    show ∃ k', run (k + 1) ([] :: top :: rest) _ = _
    obtain ⟨k1, e1⟩ := ihl hs.1 [] (top :: rest) (k + 1) (shw r ++ (41 :: cs)) (by simp) (by simp) (by simp; omega)
    rw [e1]
    obtain ⟨k2, e2⟩ := ihr hs.2 [l] (top :: rest) k1 (41 :: cs) (by simp) (by simp) (by simp; omega)
    rw [show ([] : List Tr) ++ [l] = [l] from rfl, e2, run, if_pos (by rw [may_cons]; simp)]
    exact ⟨k2 + 1, rfl⟩
theorem run_good (t : Tr) (hs : sk t) (hd : dp t ≤ 300) : run 0 [[]] (shw t) = .inr [[t]] := by
  obtain ⟨k, e⟩ := run_shw t hs [] [] 0 [] (by simp) (by simp) (by simp; omega)
  rw [List.append_nil] at e
  rw [e]; rfl
/-- the outermost at the end -/
theorem Lw.last {R : List (List Tr)} (h : Lw R) : ∃ i, R = i ++ [[]] := by
  induction R with
  | nil => exact h.elim
  | cons m rest ih =>
    obtain ⟨h1, h2, h3, h4⟩ := h
    by_cases e : rest = []
    · exact ⟨[], by rw [e, h1 e]; rfl⟩
    · obtain ⟨i, rfl⟩ := ih (h4 e)
      exact ⟨m :: i, rfl⟩
theorem Iv.fin {R : List (List Tr)} (h : Iv R) : (∃ t, R = [[t]] ∧ sk t) ∨ ∃ i, R = i ++ [[]] := by
  cases R with
  | nil => exact h.elim
  | cons m rest =>
    obtain ⟨h1, h2, h3, h4, h5⟩ := h
    by_cases e : rest = []
    · subst e
      have := h1 rfl
      match m, this with
      | [], _ => exact .inr ⟨[], rfl⟩
      | [t], _ => exact .inl ⟨t, rfl, h3 t (by simp)⟩
    · obtain ⟨i, e2⟩ := (h4 e).last
      exact .inr ⟨m :: i, by rw [e2]; rfl⟩
end Law
set_option maxHeartbeats 0
namespace Law
open L2 M Tr
/-- the lists that stand open lie in the store -/
def QO (S : Stor) : List Nat → List (List Tr) → Prop
  | [], [] => True
  | q :: qs, l :: R => S[q]? = some (.lst (l.map enc)) ∧ QO S qs R
  | _, _ => False
theorem QO.set {S : Stor} {x : Nat} {o : MO} : ∀ {qs : List Nat} {R : List (List Tr)}, QO S qs R → x ∉ qs → QO (S.set x o) qs R
  | [], [], _, _ => trivial
  | q :: qs, l :: R, h, hx => by
    refine ⟨?_, QO.set h.2 fun z => hx (by simp [z])⟩
    rw [List.getElem?_set_ne (fun z => hx (by simp [z])), h.1]
  | [], _ :: _, h, _ => h.elim
  | _ :: _, [], h, _ => h.elim
theorem QO.app {S g : Stor} : ∀ {qs : List Nat} {R : List (List Tr)}, QO S qs R → QO (S ++ g) qs R
  | [], [], _ => trivial
  | q :: qs, l :: R, h => ⟨get_app h.1, QO.app h.2⟩
  | [], _ :: _, h => h.elim
  | _ :: _, [], h => h.elim
theorem QO.lt {S : Stor} : ∀ {qs : List Nat} {R : List (List Tr)}, QO S qs R → ∀ q ∈ qs, q < S.length
  | [], [], _, q, hq => by simp at hq
  | q :: qs, l :: R, h, x, hx => by
    rcases List.mem_cons.mp hx with rfl | hx
    · exact (List.getElem?_eq_some_iff.mp h.1).1
    · exact QO.lt h.2 x hx
  | [], _ :: _, h, _, _ => h.elim
  | _ :: _, [], h, _, _ => h.elim
theorem QO.len {S : Stor} : ∀ {qs : List Nat} {R : List (List Tr)}, QO S qs R → qs.length = R.length
  | [], [], _ => rfl
  | q :: qs, l :: R, h => by simp [QO.len h.2]
  | [], _ :: _, h => h.elim
  | _ :: _, [], h => h.elim
theorem QO.last {S : Stor} {b : List Tr} : ∀ {i : List (List Tr)} {qs : List Nat}, QO S qs (i ++ [b]) → ∃ qi q, qs = qi ++ [q] ∧ S[q]? = some (.lst (b.map enc))
  | [], [q], h => ⟨[], q, rfl, h.1⟩
  | [], [], h => h.elim
  | [], _ :: _ :: _, h => h.2.elim
  | l :: i, [], h => h.elim
  | l :: i, q :: qs, h => by
    obtain ⟨qi, q', e, h2⟩ := QO.last (i := i) h.2
    exact ⟨q :: qi, q', by rw [e]; rfl, h2⟩
def lcs (qs : List Nat) : List D := qs.reverse.map D.loc
theorem lcs_cons (q : Nat) (qs : List Nat) : lcs (q :: qs) = lcs qs ++ [.loc q] := by simp [lcs]
theorem lcs_len (qs : List Nat) : (lcs qs).length = qs.length := by simp [lcs]
structure Op2 (st S : Stor) (p : Nat) (qs : List Nat) (R : List (List Tr)) : Prop where
  po : S[p]? = some (.lst (lcs qs))
  qo : QO S qs R
  nd : (p :: qs).Nodup
  ge : ∀ q ∈ p :: qs, st.length ≤ q
  pre : S.take st.length = st
theorem take_set {α : Type} {S : List α} {n x : Nat} {o : α} (h : n ≤ x) : (S.set x o).take n = S.take n := by
  rw [List.take_set]
  exact List.set_eq_of_length_le (by rw [List.length_take]; omega)
theorem take_app {α : Type} {S st g : List α} (h : S.take st.length = st) : (S ++ g).take st.length = st := by
  have hl : st.length ≤ S.length := by
    have := congrArg List.length h
    rw [List.length_take] at this; omega
  rw [List.take_append_of_le_length hl, h]
noncomputable abbrev rzT : MS := raiseS "NoTree" (consA (vr 2) nilA)
theorem rz_ok (a0 a1 a3 a4 : Option D) (k : Nat) (hk : k ≤ 100000) (S : Stor) : rzT [a0, a1, some (.int (k : Nat)), a3, a4] S = .err ⟨"NoTree", .int (k : Nat)⟩ S := by
  have hlog : ((k : Nat) : Int).natAbs.log2 < 1920 := by
    have : k < 2 ^ 1920 := Nat.lt_of_lt_of_le (by omega : k < 2 ^ 20) (Nat.pow_le_pow_right (by decide) (by decide))
    by_cases z : k = 0
    · subst z; decide
    · exact (Nat.log2_lt z).mpr this
  unfold rzT raiseS
  rw [show consA (vr 2) nilA [a0, a1, some (.int (k : Nat)), a3, a4] S = .ok [.int (k : Nat)] S from rfl, R.bind_ok]
  dsimp only
  rw [if_pos hlog]
theorem may_is {st S : Stor} {p : Nat} {qs : List Nat} {R : List (List Tr)} (h : Op2 st S p qs R) (hi : Iv R) (c : Nat) : F_p_may_stand [.str [c], .loc p] S = .ok (.bl (may R c)) S := by
  have hql := h.qo.len
  match R, qs, h, hi with
  | [], _, _, hi => exact hi.elim
  | top :: rest, q :: qs, h, hi =>
    have op : Opn S p q (lcs qs) top := ⟨by rw [h.po, lcs_cons], h.qo.1, fun z => by have := h.nd; simp [z] at this⟩
    have e0 : lcs qs = [] ↔ rest = [] := by
      have := h.qo.len
      rw [← List.length_eq_zero_iff, lcs_len, ← List.length_eq_zero_iff (l := rest)]
      simp at this; omega
    have el : (lcs qs).length = rest.length := by rw [lcs_len]; simpa using h.qo.len
    rw [may_cons]
    by_cases hw : rest = [] ∧ top.length = 1
    · rw [if_pos hw]
      have op2 := op
      rw [e0.mpr hw.1] at op2
      exact may_whole op2 c hw.2
    · rw [if_neg hw]
      exact may_ok op c _ (by have := hi.2.2.2.2; omega) (fun z => hw ⟨e0.mp z.1, z.2⟩) (by rw [el])
/-- one sign that may stand -/
theorem read_step {st S : Stor} {p : Nat} {qs : List Nat} {R : List (List Tr)} (h : Op2 st S p qs R) (hi : Iv R) (c : Nat) (hm : may R c = true) (RZ : MS) (a0 a2 a4 : Option D) :
    ∃ S' qs' a4', Op2 st S' p qs' (stp R c) ∧ rdB RZ [a0, some (.loc p), a2, some (.str [c]), a4] S = .ok (.nx [a0, some (.loc p), a2, some (.str [c]), a4']) S' := by
  have hql := h.qo.len
  match R, qs, h, hi, hm with
  | [], _, _, hi, _ => exact hi.elim
  | top :: rest, q :: qs, h, hi, hm =>
    have nd := h.nd
    have hpq : p ≠ q := fun z => by simp [z] at nd
    have hp2 : p ∉ qs := fun z => by simp [z] at nd
    have hq2 : q ∉ qs := fun z => by simp [z] at nd
    have op : Opn S p q (lcs qs) top := ⟨by rw [h.po, lcs_cons], h.qo.1, hpq⟩
    have el : (lcs qs).length = rest.length := by rw [lcs_len]; simpa using h.qo.len
    have e0 : lcs qs = [] ↔ rest = [] := by
      rw [← List.length_eq_zero_iff, el, List.length_eq_zero_iff]
    have hpl : p < S.length := (List.getElem?_eq_some_iff.mp h.po).1
    have hqlt : q < S.length := (List.getElem?_eq_some_iff.mp h.qo.1).1
    have hlo := h.qo.lt
    obtain ⟨i1, i2, i3, i4, i5⟩ := id hi
    rw [may_cons] at hm
    by_cases hw : rest = [] ∧ top.length = 1
    · rw [if_pos hw] at hm; cases hm
    · rw [if_neg hw] at hm
      have hw' : ¬ (lcs qs = [] ∧ top.length = 1) := fun z => hw ⟨e0.mp z.1, z.2⟩
      by_cases ht : top.length = 2
      · rw [if_pos ht] at hm
        have hc : c = 41 := by simpa using hm
        subst hc
        match top, ht, op, h, hi with
        | [l, r], _, op, h, hi =>
          match rest, qs, h, hi, hlo, el, op, nd, hp2, hq2 with
          | [], _, _, hi, _, _, _, _, _, _ => have := hi.1 rfl; simp at this
          | t2 :: r2, q2 :: qs, h, hi, hlo, el, op, nd, hp2, hq2 =>
            have hpq2 : p ≠ q2 := fun z => hp2 (by simp [z])
            have hk := (hi.2.2.2.1 (by simp)).2.1
            rw [lcs_cons] at op
            have rc := read_close RZ (ps := t2) op h.qo.2.1 hpq2 (by rw [lcs_cons] at el; simp at el i5; omega) (by omega) a0 a2 a4
            refine ⟨_, q2 :: qs, _, ?_, rc⟩
            have n1 : q2 ∉ qs := fun z => by simp [z] at nd
            have n2 : p ∉ qs := fun z => by simp [z] at nd
            refine ⟨?_, ⟨?_, ?_⟩, ?_, ?_, ?_⟩
            · rw [List.getElem?_set_ne (Ne.symm hpq2), List.getElem?_set_self hpl, lcs_cons]
            · rw [List.getElem?_set_self (by rw [List.length_set]; exact (List.getElem?_eq_some_iff.mp h.qo.2.1).1)]
            · exact (h.qo.2.2.set n2).set n1
            · simp only [List.nodup_cons, List.mem_cons, not_or] at nd ⊢
              exact ⟨⟨hpq2, n2⟩, n1, nd.2.2.2⟩
            · intro x hx
              exact h.ge x (by
                simp only [List.mem_cons] at hx ⊢
                rcases hx with hx | hx | hx <;> simp [hx])
            · rw [take_set (h.ge q2 (by simp)), take_set (h.ge p (by simp)), h.pre]
          | t2 :: r2, [], h, _, _, _, _, _, _, _ => exact h.qo.2.elim
      · rw [if_neg ht] at hm
        by_cases hc : c = 40
        · subst hc
          rw [if_pos rfl] at hm
          have h6 : rest.length + 1 ≤ 300 := by simpa using hm
          have ro := read_open RZ op (by omega) hw' (by omega) a0 a2 a4
          refine ⟨_, S.length :: q :: qs, _, ?_, ro⟩
          have n0 : S.length ∉ p :: q :: qs := fun z => by
            rcases List.mem_cons.mp z with z | z
            · omega
            · have := hlo _ z; omega
          refine ⟨?_, ⟨?_, ?_⟩, ?_, ?_, ?_⟩
          · rw [List.getElem?_append_left (by simpa using hpl), List.getElem?_set_self hpl, lcs_cons, lcs_cons]
          · rw [List.getElem?_append_right (by simp)]; simp
          · exact (h.qo.set (by simp; exact ⟨hpq, hp2⟩)).app
          · simp only [List.nodup_cons, List.mem_cons, not_or] at nd n0 ⊢
            exact ⟨⟨Ne.symm n0.1, nd.1⟩, n0.2, nd.2⟩
          · intro x hx
            have hle : st.length ≤ S.length := by have := h.ge p (by simp); omega
            rcases List.mem_cons.mp hx with rfl | hx
            · exact h.ge _ (by simp)
            · rcases List.mem_cons.mp hx with rfl | hx
              · exact hle
              · exact h.ge x (by simp only [List.mem_cons] at hx ⊢; exact .inr hx)
          · exact take_app (by rw [take_set (h.ge p (by simp)), h.pre])
        · rw [if_neg hc] at hm
          have hc2 : c = 83 ∨ c = 75 := by simpa using hm
          have n41 : ¬ c = 41 := by omega
          have rl := read_leaf RZ op (by omega) hw' (by omega) c hc2 a0 a2 a4
          rw [stp_cons, if_neg hc, if_neg n41]
          refine ⟨_, q :: qs, _, ?_, rl⟩
          refine ⟨?_, ⟨?_, ?_⟩, nd, h.ge, ?_⟩
          · rw [List.getElem?_set_ne (Ne.symm hpq), h.po]
          · rw [List.getElem?_set_self hqlt]
          · exact h.qo.2.set hq2
          · rw [take_set (h.ge q (by simp)), h.pre]
  | _ :: _, [], h, _, _ => exact h.qo.elim
theorem read_run {st : Stor} {p : Nat} : ∀ (cs : List Nat) (S : Stor) (qs : List Nat) (R : List (List Tr)) (k : Nat) (a0 a2 a3 a4 : Option D), Op2 st S p qs R → Iv R → k + cs.length ≤ 100000 →
    (∀ j, run k R cs = .inl j → ∃ S', S'.take st.length = st ∧ forGo readG (rdB rzT) [] (enumL k (sgs cs)) [a0, some (.loc p), a2, a3, a4] S = .err ⟨"NoTree", .int (j : Nat)⟩ S') ∧
    (∀ R', run k R cs = .inr R' → ∃ S' qs' a2' a3' a4', Op2 st S' p qs' R' ∧ forGo readG (rdB rzT) [] (enumL k (sgs cs)) [a0, some (.loc p), a2, a3, a4] S = .ok (.nx [a0, some (.loc p), a2', a3', a4']) S')
  | [], S, qs, R0, k, a0, a2, a3, a4, h, hi, hk => by
    refine ⟨(fun j e => by cases e), (fun R' e => ?_)⟩
    cases e
    exact ⟨S, qs, a2, a3, a4, h, forGo_end (by simp)⟩
  | c :: cs, S, qs, R0, k, a0, a2, a3, a4, h, hi, hk => by
    have eG : readG (.tup [.int (k : Nat), .str [c]]) [a0, some (.loc p), a2, a3, a4] S = .ok [a0, some (.loc p), some (.int (k : Nat)), some (.str [c]), a4] S := rfl
    rw [sgs_cons, enum_cons, run]
    cases hm : may R0 c with
    | true =>
      obtain ⟨S', qs', a4', h2, e2⟩ := read_step h hi c hm rzT a0 (some (.int (k : Nat))) a4
      have ih := read_run cs S' qs' (stp R0 c) (k + 1) a0 (some (.int (k : Nat))) (some (.str [c])) a4' h2 (hi.step hm) (by simp at hk; omega)
      rw [if_pos rfl, forGo_step (by simp) eG e2]
      exact ih
    | false =>
      rw [if_neg (by simp)]
      refine ⟨(fun j e => ?_), (fun R' e => by cases e)⟩
      cases e
      have mo := may_is h hi c
      rw [hm] at mo
      have eb := read_bad rzT mo a0 (some (.int (k : Nat))) a4 (rz_ok a0 (some (.loc p)) (some (.str [c])) a4 k (by simp at hk; omega) S)
      refine ⟨S, h.pre, ?_⟩
      rw [forGo, if_pos (by simp), eG, M.R.bind_ok, eb]
      rfl
end Law
set_option maxHeartbeats 0
namespace Law
open L2 M Tr
theorem gcX_errT {st S : Stor} {x : Xc} (hp : S.take st.length = st) (h : under st.length x.fld) : gcX st (.err x S) = .err x st := by
  unfold gcX
  dsimp only
  rw [if_pos ⟨hp, h⟩]
theorem gcX_okT {st S : Stor} {d : D} (hp : S.take st.length = st) (h : under st.length d) : gcX st (.ok d S) = .ok d st := by
  have e : S = st ++ S.drop st.length := by
    conv => lhs; rw [← List.take_append_drop st.length S]
    rw [hp]
  rw [e]
  exact gc_flat h
theorem op0 (st : Stor) : Op2 st (st ++ [.lst [], .lst [.loc st.length]]) (st.length + 1) [st.length] [[]] := by
  refine ⟨by simp [lcs], ⟨by simp, trivial⟩, by simp, fun q hq => ?_, by simp⟩
  simp at hq; omega
theorem iv0 : Iv [[]] := ⟨by simp, by simp, by simp, by simp, by simp⟩
section
variable (cs : List Nat) (hlo : ∀ c ∈ cs, c < 128) (hlen : cs.length ≤ 90000) (st : Stor)
include hlo hlen
theorem read_inl (j : Nat) (hr : run 0 [[]] cs = .inl j) : F_p_tree_read [.str cs] st = .err ⟨"NoTree", .int (j : Nat)⟩ st := by
  obtain ⟨S', hp, e⟩ := (read_run cs (st ++ [.lst [], .lst [.loc st.length]]) [st.length] [[]] 0 (some (.str cs)) none none none (op0 st) iv0 (by omega)).1 j hr
  have hall : cs.all (fun c => decide (c < 128)) = true := by
    rw [List.all_eq_true]; intro x hx; simpa using hlo x hx
  have l0 : ∀ env, lstE (consA (lstE nilA) nilA) env st = .ok (.loc (st.length + 1)) (st ++ [.lst [], .lst [.loc st.length]]) := fun env => by simp
  have gg := gcX_errT (x := ⟨"NoTree", .int (j : Nat)⟩) hp (by simp)
  unfold F_p_tree_read gcFX fnM b_p_tree_read
  rw [show startM 5 [D.str cs] = [some (.str cs), none, none, none, none] from rfl]
  generalize hRB : rdB rzT = RB at *
  unfold rdB rzT at hRB
  rw [hRB]
  generalize hRG : readG = RG at *
  unfold readG at hRG
  rw [hRG]
  generalize hL0 : lstE (consA (lstE nilA) nilA) = L0 at *
  unfold sgs at e
  generalize (⟨"NoTree", .int (j : Nat)⟩ : Xc) = XX at *
  generalize (st ++ [.lst [], .lst [.loc st.length]] : Stor) = Z0 at *
  simp only [r_seqS, r_setS, l0, R.bind_ok, List.set_cons_succ, List.set_cons_zero, r_forS, r_enumSI, r_consA, r_nilA, r_vr, List.getElem?_cons_succ, List.getElem?_cons_zero, hall, if_true, e]
  exact gg
theorem read_ok (t : Tr) (hr : run 0 [[]] cs = .inr [[t]]) : F_p_tree_read [.str cs] st = .ok (enc t) st := by
  obtain ⟨S', qs, a2, a3, a4, op, e⟩ := (read_run cs (st ++ [.lst [], .lst [.loc st.length]]) [st.length] [[]] 0 (some (.str cs)) none none none (op0 st) iv0 (by omega)).2 _ hr
  obtain ⟨q, rfl⟩ : ∃ q, qs = [q] := by
    have := op.qo.len
    match qs, this with
    | [q], _ => exact ⟨q, rfl⟩
  have hall : cs.all (fun c => decide (c < 128)) = true := by
    rw [List.all_eq_true]; intro x hx; simpa using hlo x hx
  have l0 : ∀ env, lstE (consA (lstE nilA) nilA) env st = .ok (.loc (st.length + 1)) (st ++ [.lst [], .lst [.loc st.length]]) := fun env => by simp
  have hq : S'[q]? = some (.lst [enc t]) := op.qo.1
  have hpp : S'[st.length + 1]? = some (.lst [.loc q]) := op.po
  have ix0 : ∀ Z : Stor, ixV (.loc (st.length + 1)) (.int 0) (S' ++ Z) = .ok (.loc q) (S' ++ Z) := fun Z => r_ix_loc _ _ 0 [.loc q] _ (by unfold itemsAt; rw [get_app hpp]) rfl
  have ix1 : ∀ Z : Stor, ixV (.loc q) (.int 0) (S' ++ Z) = .ok (enc t) (S' ++ Z) := fun Z => r_ix_loc _ _ 0 [enc t] _ (by unfold itemsAt; rw [get_app hq]) rfl
  have ix00 := ix0 []
  rw [List.append_nil] at ix00
  have ls : ∀ env, lstE nilA env S' = .ok (.loc S'.length) (S' ++ [.lst []]) := fun env => by simp
  have eq : eqNV 800 (.loc q) (.loc S'.length) (S' ++ [.lst []]) = .ok (.bl false) (S' ++ [.lst []]) := by
    have := r_eqNV_nil 800 q S'.length [enc t] (S' ++ [.lst []]) (by unfold itemsAt; rw [get_app hq]) (by unfold itemsAt; simp) (by decide)
    simpa using this
  have gg := gcX_okT (d := enc t) (take_app (g := [.lst []]) op.pre) (enc_under st.length t)
  have ia := ix0 [.lst []]
  have ib := ix1 [.lst []]
  unfold F_p_tree_read gcFX fnM b_p_tree_read
  rw [show startM 5 [D.str cs] = [some (.str cs), none, none, none, none] from rfl]
  generalize hRZ : (raiseS "NoTree" (consA (callE lenV (consA (vr 0) nilA)) nilA) : MS) = RZ2
  generalize hRB : rdB rzT = RB at *
  unfold rdB rzT at hRB
  rw [hRB]
  generalize hRG : readG = RG at *
  unfold readG at hRG
  rw [hRG]
  generalize hL0 : lstE (consA (lstE nilA) nilA) = L0 at *
  generalize hL1 : lstE nilA = L1 at *
  unfold sgs at e
  generalize (S' ++ [.lst []] : Stor) = Z2 at *
  generalize S'.length = z1 at *
  generalize (st ++ [.lst [], .lst [.loc st.length]] : Stor) = Z0 at *
  generalize enc t = T at *
  simp only [r_seqS, r_setS, l0, R.bind_ok, List.set_cons_succ, List.set_cons_zero, r_forS, r_enumSI, r_consA, r_nilA, r_vr, List.getElem?_cons_succ, List.getElem?_cons_zero, hall, if_true, e]
  simp [ix00, ls, eq, ia, ib]
  exact gg
theorem read_end (i : List (List Tr)) (hr : run 0 [[]] cs = .inr (i ++ [[]])) : F_p_tree_read [.str cs] st = .err ⟨"NoTree", .int (cs.length : Nat)⟩ st := by
  obtain ⟨S', qs, a2, a3, a4, op, e⟩ := (read_run cs (st ++ [.lst [], .lst [.loc st.length]]) [st.length] [[]] 0 (some (.str cs)) none none none (op0 st) iv0 (by omega)).2 _ hr
  obtain ⟨qi, q, rfl, hq⟩ := op.qo.last
  have hq : S'[q]? = some (.lst []) := hq
  have hall : cs.all (fun c => decide (c < 128)) = true := by
    rw [List.all_eq_true]; intro x hx; simpa using hlo x hx
  have l0 : ∀ env, lstE (consA (lstE nilA) nilA) env st = .ok (.loc (st.length + 1)) (st ++ [.lst [], .lst [.loc st.length]]) := fun env => by simp
  have hpp : S'[st.length + 1]? = some (.lst (.loc q :: lcs qi)) := by rw [op.po]; simp [lcs]
  have ix00 : ixV (.loc (st.length + 1)) (.int 0) S' = .ok (.loc q) S' := r_ix_loc _ _ 0 (.loc q :: lcs qi) _ (by unfold itemsAt; rw [hpp]) (by rw [show (0 : Int) = ((0 : Nat) : Int) from rfl, atI_ofNat]; rfl)
  have ls : ∀ env, lstE nilA env S' = .ok (.loc S'.length) (S' ++ [.lst []]) := fun env => by simp
  have eq : eqNV 800 (.loc q) (.loc S'.length) (S' ++ [.lst []]) = .ok (.bl true) (S' ++ [.lst []]) := by
    have := r_eqNV_nil 800 q S'.length [] (S' ++ [.lst []]) (by unfold itemsAt; rw [get_app hq]) (by unfold itemsAt; simp) (by decide)
    simpa using this
  have gg := gcX_errT (x := ⟨"NoTree", .int (cs.length : Nat)⟩) (take_app (g := [.lst []]) op.pre) (by simp)
  unfold F_p_tree_read gcFX fnM b_p_tree_read
  rw [show startM 5 [D.str cs] = [some (.str cs), none, none, none, none] from rfl]
  generalize hRZ : (raiseS "NoTree" (consA (callE lenV (consA (vr 0) nilA)) nilA) : MS) = RZ2
  have rz : ∀ a1 a2 a3 a4 Z, RZ2 [some (.str cs), a1, a2, a3, a4] Z = .err ⟨"NoTree", .int (cs.length : Nat)⟩ Z := fun a1 a2 a3 a4 Z => by
    rw [← hRZ]
    have hlog : ((cs.length : Nat) : Int).natAbs.log2 < 1920 := by
      have : cs.length < 2 ^ 1920 := Nat.lt_of_lt_of_le (by omega : cs.length < 2 ^ 20) (Nat.pow_le_pow_right (by decide) (by decide))
      by_cases z : cs.length = 0
      · rw [z]; decide
      · exact (Nat.log2_lt z).mpr this
    unfold raiseS
    rw [show consA (callE lenV (consA (vr 0) nilA)) nilA [some (.str cs), a1, a2, a3, a4] Z = .ok [.int (cs.length : Nat)] Z by
      have := r_len_str Z cs (by omega)
      simp [this], R.bind_ok]
    dsimp only
    rw [if_pos hlog]
  generalize hRB : rdB rzT = RB at *
  unfold rdB rzT at hRB
  rw [hRB]
  generalize hRG : readG = RG at *
  unfold readG at hRG
  rw [hRG]
  generalize hL0 : lstE (consA (lstE nilA) nilA) = L0 at *
  generalize hL1 : lstE nilA = L1 at *
  unfold sgs at e
  generalize (⟨"NoTree", .int (cs.length : Nat)⟩ : Xc) = XX at *
  generalize (S' ++ [.lst []] : Stor) = Z2 at *
  generalize S'.length = z1 at *
  generalize (st ++ [.lst [], .lst [.loc st.length]] : Stor) = Z0 at *
  simp only [r_seqS, r_setS, l0, R.bind_ok, List.set_cons_succ, List.set_cons_zero, r_forS, r_enumSI, r_consA, r_nilA, r_vr, List.getElem?_cons_succ, List.getElem?_cons_zero, hall, if_true, e]
  simp [ix00, ls, eq, rz]
  exact gg
end
end Law
set_option maxHeartbeats 0
namespace Law
open L2 M Tr
/-! the law's own way to the first fault -/
def pts : List (List Tr) → List D
  | [] => []
  | top :: rest => if rest = [] then [] else pts rest ++ [.int (top.length : Nat)]
def wh : List (List Tr) → Bool
  | [b] => decide (b.length = 1)
  | _ => false
theorem pts_cons (top : List Tr) (rest : List (List Tr)) : pts (top :: rest) = if rest = [] then [] else pts rest ++ [.int (top.length : Nat)] := rfl
theorem pts_one (b : List Tr) : pts [b] = [] := rfl
theorem pts_two (top t2 : List Tr) (r2 : List (List Tr)) : pts (top :: t2 :: r2) = pts (t2 :: r2) ++ [.int (top.length : Nat)] := by rw [pts_cons, if_neg (by simp)]
theorem pts_len : ∀ R : List (List Tr), (pts R).length = R.length - 1
  | [] => rfl
  | [b] => rfl
  | a :: b :: r => by rw [pts_two, List.length_append, pts_len (b :: r)]; simp
theorem pts_flat : ∀ R : List (List Tr), flats (pts R) = true ∧ deps (pts R) = 0
  | [] => ⟨rfl, rfl⟩
  | [b] => ⟨rfl, rfl⟩
  | a :: b :: r => by
    have h := pts_flat (b :: r)
    rw [pts_two]
    have e : ∀ (l : List D) (n : Int), flats l = true ∧ deps l = 0 → flats (l ++ [.int n]) = true ∧ deps (l ++ [.int n]) = 0 := by
      intro l n hl
      induction l with
      | nil => exact ⟨rfl, rfl⟩
      | cons d l ih =>
        rw [flats_cons, deps_cons] at hl
        have h1 : flat d = true ∧ flats l = true := by simpa using hl.1
        have h2 := ih ⟨h1.2, by omega⟩
        exact ⟨by rw [List.cons_append, flats_cons, h1.1, h2.1]; rfl, by rw [List.cons_append, deps_cons]; omega⟩
    exact e _ _ h
noncomputable abbrev faultB : MS := (seqS (setS 4 (op2 ixV (vr 0) (vr 3)))
    (seqS (ifS (orT (tru (vr 2)) (tB1 (op2 notInSV (vr 4) (ct (.str [83, 75, 40, 41]))))) (retS (vr 3)) skipS)
    (seqS (ifS (tB1 (op2 (eqV 800) (vr 4) (ct (.str [41])))) (ifS (orT (tB1 (op2 (eqNV 800) (vr 1) (lstE nilA))) (tB1 (op2 (neV 800) (meth0E "list" popV (vr 1)) (ct (.int 2))))) (retS (vr 3)) skipS) (ifS (andT (tB1 (op2 (neV 800) (vr 1) (lstE nilA))) (tB1 (op2 (eqV 800) (op2 ixV (vr 1) (op1 negV (ct (.int 1)))) (ct (.int 2))))) (retS (vr 3)) skipS))
    (seqS (ifS (andT (tB1 (op2 (eqV 800) (vr 4) (ct (.str [40])))) (tB1 (op2 (eqV 800) (callE lenV (consA (vr 1) nilA)) (ct (.int 300))))) (retS (vr 3)) skipS)
    (ifS (tB1 (op2 (eqV 800) (vr 4) (ct (.str [40])))) (exprS (methE "list" appendV (vr 1) (consA (ct (.int 0)) nilA))) (ifS (tB1 (op2 (eqNV 800) (vr 1) (lstE nilA))) (setS 2 (ct (.bl true))) (asgS (op2 addV (op2 ixV (vr 1) (op1 negV (ct (.int 1)))) (ct (.int 1))) (subG setV (vr 1) (op1 negV (ct (.int 1))))))))))) 
section
variable (st : Stor)
/-- the parts, at their place -/
def SP (P : List D) (g : Stor) : Stor := st ++ .lst P :: g
theorem SP_get (P : List D) (g : Stor) : (SP st P g)[st.length]? = some (.lst P) := by simp [SP]
theorem SP_items (P : List D) (g : Stor) : itemsAt (SP st P g) st.length = some P := by unfold itemsAt; rw [SP_get]
theorem SP_nil (P : List D) (g : Stor) (env : MEnv) : lstE nilA env (SP st P g) = .ok (.loc (SP st P g).length) (SP st P (g ++ [.lst []])) := by simp [SP, lstE]
theorem SP_eqN (P : List D) (g : Stor) : eqNV 800 (.loc st.length) (.loc (SP st P g).length) (SP st P (g ++ [.lst []])) = .ok (.bl P.isEmpty) (SP st P (g ++ [.lst []])) :=
  r_eqNV_nil 800 _ _ P _ (SP_items st P _) (by unfold itemsAt SP; simp) (by decide)
theorem SP_ne (P : List D) (g : Stor) (hf : flats P = true) (hd : deps P = 0) : neV 800 (.loc st.length) (.loc (SP st P g).length) (SP st P (g ++ [.lst []])) = .ok (.bl (!P.isEmpty)) (SP st P (g ++ [.lst []])) := by
  have h2 : itemsAt (SP st P (g ++ [.lst []])) (SP st P g).length = some [] := by unfold itemsAt SP; simp
  have e : eqR 800 (.loc st.length) (.loc (SP st P g).length) (SP st P (g ++ [.lst []])) = some P.isEmpty := by
    simp only [eqR, SP_items, h2]
    rw [if_pos ⟨hf, by simp, by simp⟩]
    cases P <;> simp [eqDs]
  unfold neV; rw [e]
theorem SP_len (P : List D) (g : Stor) : lenV [.loc st.length] (SP st P g) = .ok (.int (P.length : Nat)) (SP st P g) := r_len_loc _ _ _ (SP_items st P g)
theorem SP_app (P : List D) (g : Stor) (d : D) (h : P.length ≤ 1000) : appendV (.loc st.length) [d] (SP st P g) = .ok .non (SP st (P ++ [d]) g) := by
  have : P.length < 1000000 := by omega
  simp [appendV, SP, this]
theorem SP_pop (P : List D) (g : Stor) (d : D) : popV (.loc st.length) [] (SP st (P ++ [d]) g) = .ok d (SP st P g) := by simp [popV, SP]
theorem SP_ty (P : List D) (g : Stor) : isTy "list" (.loc st.length) (SP st P g) = true := by simp [isTy, SP_get]
theorem SP_ix (P : List D) (g : Stor) (d : D) : ixV (.loc st.length) (.int (-1)) (SP st (P ++ [d]) g) = .ok d (SP st (P ++ [d]) g) := r_ix_loc _ _ _ _ _ (SP_items st _ g) (atI_last _ _)
theorem SP_set (P : List D) (g : Stor) (d x : D) : setV (.loc st.length) (.int (-1)) x (SP st (P ++ [d]) g) = .ok () (SP st (P ++ [x]) g) := by
  have e : ixN (P ++ [d]).length (-1) = some P.length := by
    unfold ixN
    rw [List.length_append, List.length_singleton]
    simp
    all_goals omega
  unfold setV
  simp only [SP_get, e]
  simp [SP]
end
theorem notIn4 (c : Nat) (Z : Stor) : notInSV (.str [c]) (.str [83, 75, 40, 41]) Z = .ok (.bl (!decide (c ∈ [83, 75, 40, 41]))) Z := by
  show (if ([83, 75, 40, 41] : List Nat).length ≤ 1000000 then R.ok (D.bl (!decide (c ∈ [83, 75, 40, 41]))) Z else R.bad) = _
  rw [if_pos (by simp)]
/-- what one turn does -/
def turnR (cs : List Nat) (st : Stor) (R : List (List Tr)) (c k : Nat) (a4 : Option D) (g : Stor) : Prop :=
  ∃ g', (may R c = true → faultB [some (.str cs), some (.loc st.length), some (.bl (wh R)), some (.int (k : Nat)), a4] (SP st (pts R) g) = .ok (.nx [some (.str cs), some (.loc st.length), some (.bl (wh (stp R c))), some (.int (k : Nat)), some (.str [c])]) (SP st (pts (stp R c)) g')) ∧
    (may R c = false → ∃ P, faultB [some (.str cs), some (.loc st.length), some (.bl (wh R)), some (.int (k : Nat)), a4] (SP st (pts R) g) = .ok (.rt (.int (k : Nat))) (SP st P g'))
theorem fault_turn (cs : List Nat) (st : Stor) (R : List (List Tr)) (hi : Iv R) (c k : Nat) (hk : cs[k]? = some c) (hcl : cs.length ≤ 1000000) (a4 : Option D) (g : Stor) : turnR cs st R c k a4 g := by
  have ix : ∀ Z : Stor, ixV (.str cs) (.int (k : Nat)) Z = .ok (.str [c]) Z := fun Z => by
    have hl : k < cs.length := (List.getElem?_eq_some_iff.mp hk).1
    unfold ixV
    simp only [atI_ofNat, hk]
    rw [if_pos hcl]
  have n4 := notIn4 c
  unfold turnR faultB
  generalize ((k : Nat) : Int) = kk at *
  match R, hi with
  | [], hi => exact hi.elim
  | [b], hi =>
    have hb := hi.1 rfl
    have i0 : (!List.isEmpty ([] : List D)) = false := rfl
    have l1 := SP_nil st [] g
    have l2 := SP_nil st [] (g ++ [.lst []])
    have q1 := SP_eqN st [] g
    have q2 := SP_eqN st [] (g ++ [.lst []])
    have n1 := SP_ne st [] g rfl rfl
    have ln1 := SP_len st [] (g ++ [.lst []])
    have ap1 := SP_app st [] (g ++ [.lst []]) (.int 0) (by simp)
    have ty1 := SP_ty st [] (g ++ [.lst []])
    rw [may_cons, pts_one]
    by_cases hw : b.length = 1
    · have w : wh [b] = true := by simp [wh, hw]
      refine ⟨g, (fun h => by rw [if_pos ⟨rfl, hw⟩] at h; cases h), (fun _ => ⟨[], ?_⟩)⟩
      rw [w]
      generalize SP st [] g = Z0 at *
      generalize lstE nilA = LE at *
      simp [ix, truV]
    · have w : wh [b] = false := by simp [wh, hw]
      have hb0 : b = [] := List.length_eq_zero_iff.mp (by omega)
      subst hb0
      rw [w, if_neg (by simp), if_neg (by simp)]
      by_cases c41 : c = 41
      · subst c41
        refine ⟨g ++ [.lst []], (fun h => by simp at h), (fun _ => ⟨[], ?_⟩)⟩
        generalize SP st [] (g ++ [.lst []]) = Z1 at *
        generalize (SP st [] g).length = z0 at *
        generalize SP st [] g = Z0 at *
        generalize lstE nilA = LE at *
        simp [ix, truV, n4, l1, q1]
      · by_cases c40 : c = 40
        · subst c40
          refine ⟨g ++ [.lst []], (fun h => ?_), (fun h => by simp at h)⟩
          rw [show stp [[]] 40 = [[], []] from rfl]
          rw [show wh [[], []] = false from rfl, show pts [[], []] = [] ++ [.int 0] from rfl]
          generalize SP st ([] ++ [.int 0]) (g ++ [.lst []]) = Z2 at *
          generalize SP st [] (g ++ [.lst []]) = Z1 at *
          generalize (SP st [] g).length = z0 at *
          generalize SP st [] g = Z0 at *
          generalize lstE nilA = LE at *
          simp [ix, truV, n4, l1, n1, ln1, ap1, ty1]
        · rw [if_neg c40, stp_cons, if_neg c40, if_neg c41]
          by_cases cl : c = 83 ∨ c = 75
          · have hm : c ∈ [83, 75, 40, 41] := by rcases cl with rfl | rfl <;> simp
            rw [decide_eq_true hm] at n4
            refine ⟨g ++ [.lst []] ++ [.lst []], (fun h => ?_), (fun h => by rcases cl with rfl | rfl <;> simp at h)⟩
            rw [show wh [[] ++ [Tr.lf [c]]] = true from rfl, pts_one]
            generalize SP st [] (g ++ [.lst []] ++ [.lst []]) = Z2 at *
            generalize (SP st [] (g ++ [.lst []])).length = z1 at *
            generalize SP st [] (g ++ [.lst []]) = Z1 at *
            generalize (SP st [] g).length = z0 at *
            generalize SP st [] g = Z0 at *
            generalize lstE nilA = LE at *
            simp [ix, truV, n4, c40, c41, l1, n1, l2, q2]
          · have hm : c ∉ [83, 75, 40, 41] := by simp; omega
            rw [decide_eq_false hm] at n4
            refine ⟨g, (fun h => by simp at h; omega), (fun _ => ⟨[], ?_⟩)⟩
            generalize SP st [] g = Z0 at *
            generalize lstE nilA = LE at *
            simp [ix, truV, n4]
  | top :: t2 :: r2, hi =>
    obtain ⟨h1, h2, h3, h4, h5⟩ := hi
    obtain ⟨k1, k2, k3, k4⟩ := h4 (by simp)
    have pf := pts_flat (top :: t2 :: r2)
    have pl := pts_len (t2 :: r2)
    rw [pts_two] at pf
    rw [may_cons, if_neg (by simp), pts_two, show wh (top :: t2 :: r2) = false from rfl]
    generalize hP0 : pts (t2 :: r2) = P0 at *
    have i0 : (P0 ++ [D.int (top.length : Nat)]).isEmpty = false := by simp
    have l1 := SP_nil st (P0 ++ [.int (top.length : Nat)]) g
    have q1 := SP_eqN st (P0 ++ [.int (top.length : Nat)]) g
    have n1 := SP_ne st (P0 ++ [.int (top.length : Nat)]) g pf.1 pf.2
    rw [i0] at q1 n1
    have hpl : P0.length ≤ 300 := by simp at pl h5; omega
    by_cases c41 : c = 41
    · subst c41
      have pv := SP_pop st P0 (g ++ [.lst []]) (.int (top.length : Nat))
      have ty1 := SP_ty st (P0 ++ [.int (top.length : Nat)]) (g ++ [.lst []])
      by_cases ht : top.length = 2
      · have l2 := SP_nil st P0 (g ++ [.lst []])
        have q2 := SP_eqN st P0 (g ++ [.lst []])
        have hne : ∀ Z : Stor, neV 800 (.int (top.length : Nat)) (.int 2) Z = .ok (.bl false) Z := fun Z => by rw [ht]; rfl
        rw [if_pos ht]
        match top, ht with
        | [l, r], _ =>
          rw [show stp ([l, r] :: t2 :: r2) 41 = (t2 ++ [Tr.jn l r]) :: r2 from rfl]
          by_cases e2 : r2 = []
          · subst e2
            have et2 := k1 rfl
            subst et2
            have eP : P0 = [] := by rw [← hP0]; rfl
            subst eP
            refine ⟨g ++ [.lst []] ++ [.lst []], fun _ => ?_, fun h => by simp at h⟩
            rw [show wh [[] ++ [Tr.jn l r]] = true from rfl, pts_one]
            generalize D.int (([l, r].length : Nat) : Int) = DD at *
            generalize SP st [] (g ++ [.lst []] ++ [.lst []]) = Z3 at *
            generalize (SP st [] (g ++ [.lst []])).length = z2 at *
            generalize SP st [] (g ++ [.lst []]) = Z2 at *
            generalize SP st ([] ++ [DD]) (g ++ [.lst []]) = Z1 at *
            generalize (SP st ([] ++ [DD]) g).length = z0 at *
            generalize SP st ([] ++ [DD]) g = Z0 at *
            generalize lstE nilA = LE at *
            simp [ix, truV, n4, l1, q1, pv, ty1, hne, l2, q2]
          · have eP : P0 = pts r2 ++ [.int (t2.length : Nat)] := by rw [← hP0, pts_cons, if_neg e2]
            have iP : P0.isEmpty = false := by rw [eP]; simp
            rw [iP] at q2
            have ixm := SP_ix st (pts r2) (g ++ [.lst []] ++ [.lst []]) (.int (t2.length : Nat))
            have stm := SP_set st (pts r2) (g ++ [.lst []] ++ [.lst []]) (.int (t2.length : Nat)) (.int ((t2.length : Int) + 1))
            rw [← eP] at ixm stm
            refine ⟨g ++ [.lst []] ++ [.lst []], fun _ => ?_, fun h => by simp at h⟩
            have ew : wh ((t2 ++ [Tr.jn l r]) :: r2) = false := by
              cases r2 with
              | nil => exact absurd rfl e2
              | cons x y => rfl
            have ep : pts ((t2 ++ [Tr.jn l r]) :: r2) = pts r2 ++ [.int ((t2.length : Int) + 1)] := by
              rw [pts_cons, if_neg e2]
              simp
            rw [ew, ep]
            generalize D.int (([l, r].length : Nat) : Int) = DD at *
            generalize SP st (pts r2 ++ [.int ((t2.length : Int) + 1)]) (g ++ [.lst []] ++ [.lst []]) = Z4 at *
            generalize SP st P0 (g ++ [.lst []] ++ [.lst []]) = Z3 at *
            generalize (SP st P0 (g ++ [.lst []])).length = z2 at *
            generalize SP st P0 (g ++ [.lst []]) = Z2 at *
            generalize SP st (P0 ++ [DD]) (g ++ [.lst []]) = Z1 at *
            generalize (SP st (P0 ++ [DD]) g).length = z0 at *
            generalize SP st (P0 ++ [DD]) g = Z0 at *
            generalize lstE nilA = LE at *
            generalize ((t2.length : Nat) : Int) = tl at *
            simp [ix, truV, n4, l1, q1, pv, ty1, hne, l2, q2, ixm, stm]
      · have hne : ∀ Z : Stor, neV 800 (.int (top.length : Nat)) (.int 2) Z = .ok (.bl true) Z := fun Z => by
          have : ¬ ((top.length : Int) = 2) := by omega
          rw [r_ne_int]; simp [this]
        rw [if_neg ht]
        refine ⟨g ++ [.lst []], (fun h => by simp at h), (fun _ => ⟨P0, ?_⟩)⟩
        generalize D.int ((top.length : Nat) : Int) = DD at *
        generalize SP st P0 (g ++ [.lst []]) = Z2 at *
        generalize SP st (P0 ++ [DD]) (g ++ [.lst []]) = Z1 at *
        generalize (SP st (P0 ++ [DD]) g).length = z0 at *
        generalize SP st (P0 ++ [DD]) g = Z0 at *
        generalize lstE nilA = LE at *
        simp [ix, truV, n4, l1, q1, pv, ty1, hne]
    · have ix1 := SP_ix st P0 (g ++ [.lst []]) (.int (top.length : Nat))
      by_cases hm : c ∈ [83, 75, 40, 41]
      · rw [decide_eq_true hm] at n4
        by_cases ht : top.length = 2
        · have hc2 : decide (c = 41) = false := decide_eq_false c41
          rw [if_pos ht, hc2]
          refine ⟨g ++ [.lst []], (fun h => by cases h), (fun _ => ⟨P0 ++ [.int (top.length : Nat)], ?_⟩)⟩
          have heq : ∀ Z : Stor, eqV 800 (.int (top.length : Nat)) (.int 2) Z = .ok (.bl true) Z := fun Z => by
            have : ((top.length : Int) = 2) := by omega
            rw [r_eq_int]; simp [this]
          generalize ((top.length : Nat) : Int) = TL at *
          generalize SP st (P0 ++ [D.int TL]) (g ++ [.lst []]) = Z1 at *
          generalize (SP st (P0 ++ [D.int TL]) g).length = z0 at *
          generalize SP st (P0 ++ [D.int TL]) g = Z0 at *
          generalize lstE nilA = LE at *
          simp [ix, truV, n4, c41, l1, n1, ix1, heq]
        · have heq : ∀ Z : Stor, eqV 800 (.int (top.length : Nat)) (.int 2) Z = .ok (.bl false) Z := fun Z => by
            have : ¬ ((top.length : Int) = 2) := by omega
            rw [r_eq_int]; simp [this]
          rw [if_neg ht]
          have ln1 := SP_len st (P0 ++ [.int (top.length : Nat)]) (g ++ [.lst []])
          have ll : (P0 ++ [D.int (top.length : Nat)]).length = r2.length + 1 := by rw [List.length_append, pl]; simp
          rw [ll] at ln1
          by_cases c40 : c = 40
          · subst c40
            rw [if_pos rfl]
            by_cases hr : (t2 :: r2).length + 1 ≤ 300
            · have hr' : ¬ (((r2.length + 1 : Nat) : Int) = 300) := by simp at hr; omega
              have ap1 := SP_app st (P0 ++ [.int (top.length : Nat)]) (g ++ [.lst []]) (.int 0) (by rw [ll]; simp at hr; omega)
              have ty1 := SP_ty st (P0 ++ [.int (top.length : Nat)]) (g ++ [.lst []])
              refine ⟨g ++ [.lst []], (fun h => ?_), (fun h => by rw [decide_eq_true hr] at h; cases h)⟩
              rw [show wh (stp (top :: t2 :: r2) 40) = false from rfl, show pts (stp (top :: t2 :: r2) 40) = P0 ++ [.int (top.length : Nat)] ++ [.int 0] by rw [← hP0]; rfl]
              generalize ((r2.length + 1 : Nat) : Int) = RL at *
              generalize ((top.length : Nat) : Int) = TL at *
              generalize SP st (P0 ++ [D.int TL] ++ [.int 0]) (g ++ [.lst []]) = Z2 at *
              generalize SP st (P0 ++ [D.int TL]) (g ++ [.lst []]) = Z1 at *
              generalize (SP st (P0 ++ [D.int TL]) g).length = z0 at *
              generalize SP st (P0 ++ [D.int TL]) g = Z0 at *
              generalize lstE nilA = LE at *
              simp [ix, truV, n4, l1, n1, ix1, heq, ln1, hr', ap1, ty1]
            · have hr' : ((r2.length + 1 : Nat) : Int) = 300 := by simp at hr h5; omega
              rw [decide_eq_false hr]
              rw [hr'] at ln1
              refine ⟨g ++ [.lst []], (fun h => by cases h), (fun _ => ⟨P0 ++ [.int (top.length : Nat)], ?_⟩)⟩
              generalize ((top.length : Nat) : Int) = TL at *
              generalize SP st (P0 ++ [D.int TL]) (g ++ [.lst []]) = Z1 at *
              generalize (SP st (P0 ++ [D.int TL]) g).length = z0 at *
              generalize SP st (P0 ++ [D.int TL]) g = Z0 at *
              generalize lstE nilA = LE at *
              simp [ix, truV, n4, l1, n1, ix1, heq, ln1]
          · have cl : c = 83 ∨ c = 75 := by simp at hm; omega
            rw [if_neg c40, stp_cons, if_neg c40, if_neg c41]
            have l2 := SP_nil st (P0 ++ [.int (top.length : Nat)]) (g ++ [.lst []])
            have q2 := SP_eqN st (P0 ++ [.int (top.length : Nat)]) (g ++ [.lst []])
            rw [i0] at q2
            have ix2 := SP_ix st P0 (g ++ [.lst []] ++ [.lst []]) (.int (top.length : Nat))
            have st2 := SP_set st P0 (g ++ [.lst []] ++ [.lst []]) (.int (top.length : Nat)) (.int ((top.length : Int) + 1))
            refine ⟨g ++ [.lst []] ++ [.lst []], (fun h => ?_), (fun h => by rcases cl with rfl | rfl <;> simp at h)⟩
            rw [show wh ((top ++ [Tr.lf [c]]) :: t2 :: r2) = false from rfl, show pts ((top ++ [Tr.lf [c]]) :: t2 :: r2) = P0 ++ [.int ((top.length : Int) + 1)] by rw [pts_two, hP0]; simp]
            generalize ((top.length : Nat) : Int) = TL at *
            generalize SP st (P0 ++ [D.int (TL + 1)]) (g ++ [.lst []] ++ [.lst []]) = Z3 at *
            generalize SP st (P0 ++ [D.int TL]) (g ++ [.lst []] ++ [.lst []]) = Z2 at *
            generalize (SP st (P0 ++ [D.int TL]) (g ++ [.lst []])).length = z1 at *
            generalize SP st (P0 ++ [D.int TL]) (g ++ [.lst []]) = Z1 at *
            generalize (SP st (P0 ++ [D.int TL]) g).length = z0 at *
            generalize SP st (P0 ++ [D.int TL]) g = Z0 at *
            generalize lstE nilA = LE at *
            simp [ix, truV, n4, c40, c41, l1, n1, ix1, heq, l2, q2, ix2, st2]
      · rw [decide_eq_false hm] at n4
        have hf : (if top.length = 2 then decide (c = 41) else if c = 40 then decide ((t2 :: r2).length + 1 ≤ 300) else decide (c = 83) || decide (c = 75)) = false := by
          simp at hm
          rw [decide_eq_false c41, if_neg hm.2.2.1, decide_eq_false hm.1, decide_eq_false hm.2.1]
          simp
        rw [hf]
        refine ⟨g, (fun h => by cases h), (fun _ => ⟨P0 ++ [.int (top.length : Nat)], ?_⟩)⟩
        generalize SP st (P0 ++ [D.int (top.length : Nat)]) g = Z0 at *
        generalize lstE nilA = LE at *
        simp [ix, truV, n4]
end Law
set_option maxHeartbeats 0
namespace Law
open L2 M Tr
theorem upto_succ' (k n : Nat) : upto (k : Nat) (n + 1) = .int (k : Nat) :: upto ((k + 1 : Nat) : Int) n := by
  unfold upto
  rw [List.range_succ_eq_map, List.map_cons, List.map_map]
  refine congr (congrArg _ (by simp)) (List.map_congr_left fun i _ => ?_)
  simp only [Function.comp]
  congr 1
  push_cast
  omega
theorem fault_run (cs : List Nat) (hcl : cs.length ≤ 90000) (st : Stor) : ∀ (rest : List Nat) (k : Nat) (R0 : List (List Tr)) (g : Stor) (a3 a4 : Option D), cs.drop k = rest → Iv R0 →
    (∀ j, run k R0 rest = .inl j → ∃ P g', forGo (nameG 3) faultB [] (upto (k : Nat) rest.length) [some (.str cs), some (.loc st.length), some (.bl (wh R0)), a3, a4] (SP st (pts R0) g) = .ok (.rt (.int (j : Nat))) (SP st P g')) ∧
    (∀ R', run k R0 rest = .inr R' → ∃ a3' a4' g', forGo (nameG 3) faultB [] (upto (k : Nat) rest.length) [some (.str cs), some (.loc st.length), some (.bl (wh R0)), a3, a4] (SP st (pts R0) g) = .ok (.nx [some (.str cs), some (.loc st.length), some (.bl (wh R')), a3', a4']) (SP st (pts R') g'))
  | [], k, R0, g, a3, a4, hd, hi => by
    refine ⟨(fun j e => by cases e), (fun R' e => ?_)⟩
    cases e
    exact ⟨a3, a4, g, forGo_end (by simp)⟩
  | c :: rest, k, R0, g, a3, a4, hd, hi => by
    have hk : cs[k]? = some c := by
      have := congrArg (fun l => l[0]?) hd
      simpa using this
    have hd2 : cs.drop (k + 1) = rest := by
      have := congrArg (fun l => l.drop 1) hd
      simpa [List.drop_drop] using this
    have eG : nameG 3 (.int (k : Nat)) [some (.str cs), some (.loc st.length), some (.bl (wh R0)), a3, a4] (SP st (pts R0) g) = .ok [some (.str cs), some (.loc st.length), some (.bl (wh R0)), some (.int (k : Nat)), a4] (SP st (pts R0) g) := rfl
    obtain ⟨g', t1, t2⟩ := fault_turn cs st R0 hi c k hk (by omega) a4 g
    rw [List.length_cons, upto_succ', run]
    cases hm : may R0 c with
    | true =>
      have ih := fault_run cs hcl st rest (k + 1) (stp R0 c) g' (some (.int (k : Nat))) (some (.str [c])) hd2 (hi.step hm)
      rw [if_pos rfl, forGo_step (by simp) eG (t1 hm)]
      exact ih
    | false =>
      obtain ⟨P, t2⟩ := t2 hm
      rw [if_neg (by simp)]
      refine ⟨(fun j e => ?_), (fun R' e => by cases e)⟩
      cases e
      refine ⟨P, g', ?_⟩
      rw [forGo, if_pos (by simp), eG, R.bind_ok, t2]
      rfl
def dueD (cs : List Nat) : D := match run 0 [[]] cs with
  | .inl j => .int (j : Nat)
  | .inr R' => if wh R' = true then .non else .int (cs.length : Nat)
theorem fault_ok (cs : List Nat) (hcl : cs.length ≤ 90000) (st : Stor) : F_l_fault [.str cs] st = .ok (dueD cs) st := by
  obtain ⟨f1, f2⟩ := fault_run cs hcl st cs 0 [[]] [] none none rfl iv0
  have ln := r_len_str st cs (by omega)
  have lS : ∀ Z : Stor, lenV [.str cs] Z = .ok (.int (cs.length : Nat)) Z := fun Z => r_len_str Z cs (by omega)
  have l1 : lstE nilA [some (.str cs), none, none, none, none] st = .ok (.loc st.length) (SP st [] []) := by simp [SP]
  have rg : ∀ a1 a2 a3 a4 Z, range1I (consA (callE lenV (consA (vr 0) nilA)) nilA) [some (.str cs), a1, a2, a3, a4] Z = .ok (upto 0 cs.length, []) Z := fun a1 a2 a3 a4 Z => by
    have h1 : -4611686018427387904 ≤ (cs.length : Int) := by omega
    have h2 : (cs.length : Int) < 4611686018427387904 := by omega
    have h3 := lS Z
    generalize hcl' : ((cs.length : Nat) : Int) = L at *
    have h4 : L.toNat = cs.length := by omega
    simp [h3, h1, h2, h4]
  unfold F_l_fault gcF fnM b_l_fault
  rw [show startM 5 [D.str cs] = [some (.str cs), none, none, none, none] from rfl]
  generalize hFB : faultB = FB at *
  unfold faultB at hFB
  rw [hFB]
  generalize hRG : range1I (consA (callE lenV (consA (vr 0) nilA)) nilA) = RG at *
  generalize hLE : lstE nilA = LE at *
  unfold dueD
  cases hr : run 0 [[]] cs with
  | inl j =>
    obtain ⟨P, g', e⟩ := f1 j hr
    have e : forGo (nameG 3) FB [] (upto 0 cs.length) [some (.str cs), some (.loc st.length), some (.bl false), none, none] (SP st [] []) = .ok (.rt (.int (j : Nat))) (SP st P g') := e
    have gg : gc st (.ok (.int (j : Nat)) (SP st P g')) = .ok (.int (j : Nat)) st := gc_flat (by simp)
    dsimp only
    generalize SP st P g' = Z1 at *
    generalize SP st [] [] = Z0 at *
    generalize ((j : Nat) : Int) = J at *
    simp [l1, rg, e]
    exact gg
  | inr R' =>
    obtain ⟨a3, a4, g', e⟩ := f2 R' hr
    have e : forGo (nameG 3) FB [] (upto 0 cs.length) [some (.str cs), some (.loc st.length), some (.bl false), none, none] (SP st [] []) = .ok (.nx [some (.str cs), some (.loc st.length), some (.bl (wh R')), a3, a4]) (SP st (pts R') g') := e
    have g1 : gc st (.ok .non (SP st (pts R') g')) = .ok .non st := gc_flat (by simp)
    have g2 : gc st (.ok (.int (cs.length : Nat)) (SP st (pts R') g')) = .ok (.int (cs.length : Nat)) st := gc_flat (by simp)
    have l3 := lS (SP st (pts R') g')
    generalize SP st (pts R') g' = Z1 at *
    generalize SP st [] [] = Z0 at *
    generalize ((cs.length : Nat) : Int) = L at *
    cases hw : wh R' with
    | true =>
      rw [hw] at e
      simp [l1, rg, e, truV]
      rw [g1, hw]; rfl
    | false =>
      rw [hw] at e
      simp [l1, rg, e, truV, l3]
      rw [g2, hw]; rfl
theorem gc_at {st Z : Stor} {p : Nat} {o : MO} (h1 : Z.take st.length = st) (h2 : st.length ≤ p) (h3 : Z[p]? = some o) (h4 : underO st.length o) : gc st (.ok (.loc p) Z) = .ok (.loc st.length) (st ++ [o]) := by
  unfold gc
  dsimp only
  rw [if_neg (by simp; intro _; omega), h3]
  dsimp only
  rw [if_pos ⟨h1, h2, h4⟩]
theorem found_tree (cs : List Nat) (st : Stor) (t : Tr) (h : F_p_tree_read [.str cs] st = .ok (enc t) st) : F_l_found [.str cs] st = .ok (.loc st.length) (st ++ [.lst [.str [116, 114, 101, 101], enc t]]) := by
  unfold F_l_found gcF fnM b_l_found
  rw [show startM 4 [D.str cs] = [some (.str cs), none, none, none] from rfl]
  generalize hT : tryS (some 1) 3 2 F_p_tree_read [] (consA (vr 0) nilA) exCls = TR
  have eT : TR [some (.str cs), some .non, some .non, none] st = .ok (.nx [some (.str cs), some (enc t), some .non, none]) st := by
    rw [← hT]
    unfold tryS
    simp only [r_consA, r_vr, List.getElem?_cons_zero, List.getElem?_cons_succ, R.bind_ok, r_nilA, List.append_nil, h]
    rfl
  have hu : unders st.length [D.str [116, 114, 101, 101], enc t] := by
    rw [unders_cons, unders_cons]
    exact ⟨by simp, enc_under st.length t, by simp⟩
  have gg := gc_new0 (st := st) (o := .lst [D.str [116, 114, 101, 101], enc t]) hu
  have nn : ∀ Z, isNoneV .non .non Z = .ok (.bl true) Z := fun Z => rfl
  generalize hX1 : isXV "NoProgram" = X1 at *
  generalize hX2 : isXV "NoTree" = X2 at *
  generalize hX3 : isXV "ValueError" = X3 at *
  generalize enc t = T at *
  simp [eT, nn]
  exact gg
theorem found_none (cs : List Nat) (st : Stor) (j : Nat) (h : F_p_tree_read [.str cs] st = .err ⟨"NoTree", .int (j : Nat)⟩ st) : F_l_found [.str cs] st = .ok (.loc st.length) (st ++ [.lst [.str [110, 111, 110, 101], .int (j : Nat)]]) := by
  unfold F_l_found gcF fnM b_l_found
  rw [show startM 4 [D.str cs] = [some (.str cs), none, none, none] from rfl]
  generalize hT : tryS (some 1) 3 2 F_p_tree_read [] (consA (vr 0) nilA) exCls = TR
  have eT : TR [some (.str cs), some .non, some .non, none] st = .ok (.nx [some (.str cs), some .non, some (.loc st.length), none]) (st ++ [.exc "NoTree" (.int (j : Nat))]) := by
    rw [← hT]
    unfold tryS
    simp only [r_consA, r_vr, List.getElem?_cons_zero, List.getElem?_cons_succ, R.bind_ok, r_nilA, List.append_nil, h]
    rfl
  have hx : (st ++ [MO.exc "NoTree" (.int (j : Nat))])[st.length]? = some (.exc "NoTree" (.int (j : Nat))) := by simp
  have iP : isXV "NoProgram" (.loc st.length) (st ++ [MO.exc "NoTree" (.int (j : Nat))]) = .ok (.bl false) (st ++ [MO.exc "NoTree" (.int (j : Nat))]) := by
    unfold isXV; dsimp only; rw [hx]; rfl
  have iT : isXV "NoTree" (.loc st.length) (st ++ [MO.exc "NoTree" (.int (j : Nat))]) = .ok (.bl true) (st ++ [MO.exc "NoTree" (.int (j : Nat))]) := by
    unfold isXV; dsimp only; rw [hx]; rfl
  have iV : isXV "ValueError" (.loc st.length) (st ++ [MO.exc "NoTree" (.int (j : Nat))]) = .ok (.bl true) (st ++ [MO.exc "NoTree" (.int (j : Nat))]) := by
    unfold isXV; dsimp only; rw [hx]; rfl
  have aV : atV (.loc st.length) (st ++ [MO.exc "NoTree" (.int (j : Nat))]) = .ok (.int (j : Nat)) (st ++ [MO.exc "NoTree" (.int (j : Nat))]) := by
    unfold atV; dsimp only; rw [hx]; rfl
  have nn : ∀ Z, isNoneV (.loc st.length) .non Z = .ok (.bl false) Z := fun Z => rfl
  have ls : ∀ env, env[2]? = some (some (.loc st.length)) → lstE (consA (ct (.str [110, 111, 110, 101])) (consA (op1 atV (vr 2)) nilA)) env (st ++ [MO.exc "NoTree" (.int (j : Nat))]) = .ok (.loc (st.length + 1)) (st ++ [MO.exc "NoTree" (.int (j : Nat))] ++ [.lst [.str [110, 111, 110, 101], .int (j : Nat)]]) := fun env he => by
    simp [he, aV, lstE]
  have gg : gc st (.ok (.loc (st.length + 1)) (st ++ [MO.exc "NoTree" (.int (j : Nat))] ++ [.lst [.str [110, 111, 110, 101], .int (j : Nat)]])) = .ok (.loc st.length) (st ++ [.lst [.str [110, 111, 110, 101], .int (j : Nat)]]) :=
    gc_at (by simp) (by omega) (by simp) (by show unders _ _; simp)
  generalize hX1 : isXV "NoProgram" = X1 at *
  generalize hX2 : isXV "NoTree" = X2 at *
  generalize hX3 : isXV "ValueError" = X3 at *
  generalize hX4 : atV = X4 at *
  generalize hLS : lstE (consA (ct (.str [110, 111, 110, 101])) (consA (op1 X4 (vr 2)) nilA)) = LS at *
  generalize st ++ [MO.exc "NoTree" (.int (j : Nat))] ++ [.lst [.str [110, 111, 110, 101], .int (j : Nat)]] = Z2 at *
  generalize st ++ [MO.exc "NoTree" (.int (j : Nat))] = Z at *
  generalize ((j : Nat) : Int) = J at *
  simp [eT, nn, iP, iT, iV, aV, truV, subTy, ls]
  exact gg
theorem found_ok (cs : List Nat) (hlo : ∀ c ∈ cs, c < 128) (hlen : cs.length ≤ 90000) :
    (∃ j : Nat, dueD cs = .int (j : Nat) ∧ ∀ st, F_l_found [.str cs] st = .ok (.loc st.length) (st ++ [.lst [.str [110, 111, 110, 101], .int (j : Nat)]])) ∨
    (∃ t : Tr, sk t ∧ shw t = cs ∧ dueD cs = .non ∧ ∀ st, F_l_found [.str cs] st = .ok (.loc st.length) (st ++ [.lst [.str [116, 114, 101, 101], enc t]])) := by
  unfold dueD
  cases hr : run 0 [[]] cs with
  | inl j => exact .inl ⟨j, rfl, fun st => found_none cs st j (read_inl cs hlo hlen st j hr)⟩
  | inr R' =>
    have hf := run_txt cs 0 [[]] R' iv0 hr
    rcases hf.1.fin with ⟨t, rfl, hs⟩ | ⟨i, rfl⟩
    · refine .inr ⟨t, hs, ?_, rfl, fun st => found_tree cs st t (read_ok cs hlo hlen st t hr)⟩
      have := hf.2
      simpa [txt, shws] using this
    · refine .inl ⟨cs.length, ?_, fun st => found_none cs st cs.length (read_end cs hlo hlen st i hr)⟩
      have hw : wh (i ++ [[]]) = false := by
        match i with
        | [] => rfl
        | [a] => rfl
        | a :: b :: r => rfl
      dsimp only
      rw [hw]; rfl
end Law
set_option maxHeartbeats 0
namespace M
namespace Tr
theorem shw_len {t : Tr} (h : sk t) : (shw t).length = wn t := by
  induction t with
  | lf s => rcases h with rfl | rfl <;> rfl
  | jn l r h1 h2 => simp [shw, wn, h1 h.1, h2 h.2]; omega
end Tr
end M
namespace Law
open L2 M Tr
theorem shw_lo {t : Tr} (h : sk t) : ∀ c ∈ shw t, c < 128 := by
  induction t with
  | lf s => rcases h with rfl | rfl <;> simp [shw]
  | jn l r h1 h2 =>
    intro c hc
    simp only [shw, List.mem_cons, List.mem_append, List.not_mem_nil, or_false] at hc
    rcases hc with rfl | hc | hc | rfl
    · decide
    · exact h1 h.1 c hc
    · exact h2 h.2 c hc
    · decide
/-! the law's text of a tree -/
def tD (ts : List Tr) : List D := ts.map fun t => D.str (shw t)
def lvs (ts : List Tr) : Nat := (ts.map lv).sum
theorem lvs_app (a b : List Tr) : lvs (a ++ b) = lvs a + lvs b := by simp [lvs]
theorem lvs_len (ts : List Tr) : ts.length ≤ lvs ts := by
  induction ts with
  | nil => simp
  | cons t ts ih => have := dp_lt_lv t; simp [lvs] at ih ⊢; omega
structure Stk (ts : List Tr) (B : Nat) : Prop where
  sk_ : ∀ t ∈ ts, sk t
  le : lvs ts ≤ B
noncomputable abbrev joinE2 : ME := (op2 addV (op2 addV (op2 addV (ct (.str [40])) (meth0E "list" popV (vr 1))) (vr 3)) (ct (.str [41])))
section
variable (st : Stor)
theorem two {ts : List Tr} (h : 1 < ts.length) : ∃ us a b, ts = us ++ [a] ++ [b] := by
  rcases List.eq_nil_or_concat ts with rfl | ⟨vs, b, rfl⟩
  · simp at h
  · rcases List.eq_nil_or_concat vs with rfl | ⟨us, a, rfl⟩
    · simp at h
    · exact ⟨us, a, b, by simp⟩
theorem join_ok (ts : List Tr) (B : Nat) (h : Stk ts B) (hB : B ≤ 1000) (h2 : 1 < ts.length) (g : Stor) (a0 a2 a3 : Option D) :
    ∃ ts' a3', Stk ts' B ∧ ts'.length + 1 = ts.length ∧ (seqS (setS 3 (meth0E "list" popV (vr 1))) (exprS (methE "list" appendV (vr 1) (consA joinE2 nilA)))) [a0, some (.loc st.length), a2, a3] (SP st (tD ts) g) = .ok (.nx [a0, some (.loc st.length), a2, a3']) (SP st (tD ts') g) := by
  obtain ⟨us, a, b, rfl⟩ := two h2
  have sa := h.sk_ a (by simp)
  have sb := h.sk_ b (by simp)
  have hl := h.le
  rw [lvs_app, lvs_app] at hl
  have la : lvs [a] = lv a := by simp [lvs]
  have lb : lvs [b] = lv b := by simp [lvs]
  have wa := wn_lv a
  have wb := wn_lv b
  have na := shw_len sa
  have nb := shw_len sb
  have hul := lvs_len us
  have p1 : popV (.loc st.length) [] (SP st (tD (us ++ [a] ++ [b])) g) = .ok (.str (shw b)) (SP st (tD (us ++ [a])) g) := by
    rw [show tD (us ++ [a] ++ [b]) = tD (us ++ [a]) ++ [.str (shw b)] by simp [tD]]; exact SP_pop st _ g _
  have p2 : popV (.loc st.length) [] (SP st (tD (us ++ [a])) g) = .ok (.str (shw a)) (SP st (tD us) g) := by
    rw [show tD (us ++ [a]) = tD us ++ [.str (shw a)] by simp [tD]]; exact SP_pop st _ g _
  have t0 := SP_ty st (tD (us ++ [a] ++ [b])) g
  have t1 := SP_ty st (tD (us ++ [a])) g
  have t2 := SP_ty st (tD us) g
  have d1 : ∀ s : Stor, addV (.str [40]) (.str (shw a)) s = .ok (.str (40 :: shw a)) s := fun s => r_add_str s _ _ (by simp; omega)
  have d2 : ∀ s : Stor, addV (.str (40 :: shw a)) (.str (shw b)) s = .ok (.str (40 :: shw a ++ shw b)) s := fun s => r_add_str s _ _ (by simp; omega)
  have d3 : ∀ s : Stor, addV (.str (40 :: shw a ++ shw b)) (.str [41]) s = .ok (.str (shw (.jn a b))) s := fun s => by
    rw [r_add_str s _ _ (by simp; omega)]; simp [shw]
  have ap : appendV (.loc st.length) [.str (shw (.jn a b))] (SP st (tD us) g) = .ok .non (SP st (tD (us ++ [.jn a b])) g) := by
    rw [show tD (us ++ [Tr.jn a b]) = tD us ++ [.str (shw (.jn a b))] by simp [tD]]
    exact SP_app st _ g _ (by simp [tD]; omega)
  refine ⟨us ++ [.jn a b], some (.str (shw b)), ⟨fun t ht => ?_, ?_⟩, by simp, ?_⟩
  · rcases List.mem_append.mp ht with ht | ht
    · exact h.sk_ t (by simp [ht])
    · obtain rfl := List.mem_singleton.mp ht
      exact ⟨sa, sb⟩
  · rw [lvs_app]
    have : lvs [Tr.jn a b] = lv a + lv b := by simp [lvs, lv]
    omega
  · unfold joinE2
    generalize SP st (tD (us ++ [.jn a b])) g = Z3 at *
    generalize SP st (tD us) g = Z2 at *
    generalize SP st (tD (us ++ [a])) g = Z1 at *
    generalize SP st (tD (us ++ [a] ++ [b])) g = Z0 at *
    generalize shw (.jn a b) = W4 at *
    generalize (40 :: shw a ++ shw b) = W3 at *
    generalize (40 :: shw a) = W2 at *
    generalize shw a = W0 at *
    generalize shw b = W1 at *
    simp [t0, t1, t2, p1, p2, d1, d2, d3, ap]
theorem leaf_ok (ts : List Tr) (B : Nat) (h : Stk ts B) (hB : B ≤ 1000) (g : Stor) (y : Nat) (hy : y = 83 ∨ y = 75) : Stk (ts ++ [.lf [y]]) (B + 1) ∧ appendV (.loc st.length) [.str [y]] (SP st (tD ts) g) = .ok .non (SP st (tD (ts ++ [.lf [y]])) g) := by
  have hl := lvs_len ts
  have := h.le
  refine ⟨⟨fun t ht => ?_, ?_⟩, ?_⟩
  · rcases List.mem_append.mp ht with ht | ht
    · exact h.sk_ t ht
    · obtain rfl := List.mem_singleton.mp ht
      rcases hy with rfl | rfl
      · exact .inl rfl
      · exact .inr rfl
  · rw [lvs_app]
    have : lvs [Tr.lf [y]] = 1 := rfl
    omega
  · rw [show tD (ts ++ [Tr.lf [y]]) = tD ts ++ [.str [y]] by simp [tD, shw]]
    exact SP_app st _ g _ (by simp [tD]; omega)
theorem tD_len (ts : List Tr) : (tD ts).length = ts.length := by simp [tD]
theorem turn_ok (ts : List Tr) (B : Nat) (h : Stk ts B) (hB : B ≤ 900) (g : Stor) (c : Int) (a0 a3 : Option D) (TB : MS)
    (hTB : TB = (ifS (andT (tB1 (op2 ltV (op2 modV (vr 2) (ct (.int 5))) (ct (.int 2)))) (tB1 (op2 gtV (callE lenV (consA (vr 1) nilA)) (ct (.int 1))))) (seqS (setS 3 (meth0E "list" popV (vr 1)))
    (exprS (methE "list" appendV (vr 1) (consA joinE2 nilA)))) (exprS (methE "list" appendV (vr 1) (consA (op2 ixV (ct (.str [83, 75])) (op2 modV (op2 fdivV (vr 2) (ct (.int 5))) (ct (.int 2)))) nilA))))) :
    ∃ ts' a3', Stk ts' (B + 1) ∧ TB [a0, some (.loc st.length), some (.int c), a3] (SP st (tD ts) g) = .ok (.nx [a0, some (.loc st.length), some (.int c), a3']) (SP st (tD ts') g) := by
  have ln := SP_len st (tD ts) g
  rw [tD_len] at ln
  subst hTB
  generalize hJ : (seqS (setS 3 (meth0E "list" popV (vr 1))) (exprS (methE "list" appendV (vr 1) (consA joinE2 nilA))) : MS) = JB
  by_cases hc : c % 5 < 2 ∧ 1 < ts.length
  · obtain ⟨ts', a3', h1, h2, e⟩ := join_ok st ts B h (by omega) hc.2 g a0 (some (.int c)) a3
    rw [hJ] at e
    refine ⟨ts', a3', ⟨h1.sk_, by have := h1.le; omega⟩, ?_⟩
    have c1 := hc.1
    have c2 : (1 : Int) < (ts.length : Int) := by omega
    generalize SP st (tD ts') g = Z1 at *
    generalize SP st (tD ts) g = Z0 at *
    generalize ((ts.length : Nat) : Int) = L at *
    simp [r_mod_int, c1, ln, c2, e]
  · obtain ⟨y, hy, py⟩ := pickS [83, 75] (c / 5 % 2) (by omega) (by show _ < (2 : Int); omega) (by decide)
    have hy' : y = 83 ∨ y = 75 := by simpa using hy
    obtain ⟨h1, ap⟩ := leaf_ok st ts B h (by omega) g y hy'
    have ty := SP_ty st (tD ts) g
    refine ⟨ts ++ [.lf [y]], a3, h1, ?_⟩
    have tt : andT (tB1 (op2 ltV (op2 modV (vr 2) (ct (.int 5))) (ct (.int 2)))) (tB1 (op2 gtV (callE lenV (consA (vr 1) nilA)) (ct (.int 1)))) [a0, some (.loc st.length), some (.int c), a3] (SP st (tD ts) g) = .ok false (SP st (tD ts) g) := by
      by_cases c1 : c % 5 < 2
      · have c2 : ¬ ((1 : Int) < (ts.length : Int)) := fun z => hc ⟨c1, by omega⟩
        generalize SP st (tD ts) g = Z0 at *
        generalize ((ts.length : Nat) : Int) = L at *
        simp [r_mod_int, c1, ln, c2]
      · generalize SP st (tD ts) g = Z0 at *
        simp [r_mod_int, c1]
    generalize hTT : andT (tB1 _) _ = TT at *
    generalize SP st (tD (ts ++ [.lf [y]])) g = Z1 at *
    generalize SP st (tD ts) g = Z0 at *
    simp [tt, r_fdiv_int, r_mod_int, py, ty, ap]
theorem while_ok (a0 a2 : Option D) (JB : MS) (hJ : JB = (seqS (setS 3 (meth0E "list" popV (vr 1))) (exprS (methE "list" appendV (vr 1) (consA joinE2 nilA))))) : ∀ (n : Nat) (ts : List Tr) (g : Stor) (a3 : Option D) (B : Nat), Stk ts B → B ≤ 1000 → ts.length = n + 1 →
    ∃ t a3', Stk [t] B ∧ whileW (tB1 (op2 gtV (callE lenV (consA (vr 1) nilA)) (ct (.int 1)))) JB [a0, some (.loc st.length), a2, a3] (SP st (tD ts) g) = .ok (.nx [a0, some (.loc st.length), a2, a3']) (SP st (tD [t]) g)
  | 0, ts, g, a3, B, h, hB, hn => by
    obtain ⟨t, rfl⟩ : ∃ t, ts = [t] := by
      match ts, hn with
      | [t], _ => exact ⟨t, rfl⟩
    refine ⟨t, a3, h, ?_⟩
    have ln := SP_len st (tD [t]) g
    rw [tD_len] at ln
    rw [whileW_eq]
    generalize SP st (tD [t]) g = Z at *
    simp [ln]
  | n + 1, ts, g, a3, B, h, hB, hn => by
    obtain ⟨ts', a3', h1, h2, e⟩ := join_ok st ts B h hB (by omega) g a0 a2 a3
    rw [← hJ] at e
    obtain ⟨t, a3'', h3, e2⟩ := while_ok a0 a2 JB hJ n ts' g a3' B h1 hB (by omega)
    refine ⟨t, a3'', h3, ?_⟩
    have ln := SP_len st (tD ts) g
    rw [tD_len] at ln
    have c2 : (1 : Int) < (ts.length : Int) := by omega
    rw [whileW_eq, ← e2]
    generalize SP st (tD ts') g = Z1 at *
    generalize SP st (tD ts) g = Z at *
    generalize ((ts.length : Nat) : Int) = L at *
    have te : tB1 (op2 gtV (callE lenV (consA (vr 1) nilA)) (ct (.int 1))) [a0, some (.loc st.length), a2, a3] Z = .ok true Z := by simp [ln, c2]
    rw [te, R.bind_ok, if_pos rfl, e, R.bind_ok]
theorem text_ok (xs : List Int) (n : Nat) (hn : st[n]? = some (.lst (xs.map D.int))) (hx : xs.length ≤ 100) : ∃ t, sk t ∧ lv t ≤ 101 ∧ F_l_text [.loc n] st = .ok (.str (shw t)) st := by
  unfold F_l_text gcF fnM b_l_text
  rw [show startM 4 [D.loc n] = [some (.loc n), none, none, none] from rfl]
  generalize hTB : (ifS (andT (tB1 _) (tB1 _)) _ _ : MS) = TB
  generalize hJB : (seqS (setS 3 (meth0E "list" popV (vr 1))) _ : MS) = JB
  have hnl : n < st.length := (List.getElem?_eq_some_iff.mp hn).1
  have ok : ∀ P g, okG [(n, MO.lst (xs.map D.int))] (SP st P g) := fun P g => by
    simp only [okG, SP]
    simp [List.getElem?_append_left hnl, hn]
  obtain ⟨env', st', h1, ts, g, a2, a3, hs, rfl, rfl⟩ := forGo_ix (g := nameG 2) (b := TB) (gs := [(n, .lst (xs.map D.int))]) (items := xs.map D.int)
    (fun i env s => ∃ ts g a2 a3, Stk ts i ∧ env = [some (.loc n), some (.loc st.length), a2, a3] ∧ s = SP st (tD ts) g)
    (env := [some (.loc n), some (.loc st.length), none, none]) (st := SP st [] []) ⟨[], [], none, none, ⟨by simp, by simp [lvs]⟩, rfl, rfl⟩ (by
      rintro i d env s hi ⟨ts, g, a2, a3, hs, rfl, rfl⟩
      rw [List.getElem?_map] at hi
      obtain ⟨c, hc, rfl⟩ := Option.map_eq_some_iff.mp hi
      have hi2 : i < xs.length := (List.getElem?_eq_some_iff.mp hc).1
      obtain ⟨ts', a3', h1, e⟩ := turn_ok st ts i hs (by omega) g c (some (.loc n)) a3 TB hTB.symm
      exact ⟨ok _ _, _, _, rfl, _, _, .inl e, ts', g, some (.int c), a3', h1, rfl, rfl⟩) (fun env s ⟨ts, g, a2, a3, hs, e1, e2⟩ => by rw [e2]; exact ok _ _)
  rw [List.length_map] at hs
  have l1 : lstE nilA [some (.loc n), none, none, none] st = .ok (.loc st.length) (SP st [] []) := by simp [SP]
  have sq : seqI (vr 0) [some (.loc n), some (.loc st.length), none, none] (SP st [] []) = .ok (xs.map D.int, [(n, .lst (xs.map D.int))]) (SP st [] []) := by
    have : (SP st [] [])[n]? = some (.lst (xs.map D.int)) := by simp [SP, List.getElem?_append_left hnl, hn]
    generalize SP st [] [] = Z at *
    simp [this]
  -- what if there is none
  have e2 : ∃ ts2 g2, Stk ts2 101 ∧ ts2 ≠ [] ∧ (ifS (tB1 (op2 (eqNV 800) (vr 1) (lstE nilA))) (exprS (methE "list" appendV (vr 1) (consA (ct (.str [75])) nilA))) skipS) [some (.loc n), some (.loc st.length), a2, a3] (SP st (tD ts) g) = .ok (.nx [some (.loc n), some (.loc st.length), a2, a3]) (SP st (tD ts2) g2) := by
    have l2 := SP_nil st (tD ts) g
    have q2 := SP_eqN st (tD ts) g
    by_cases hz : ts = []
    · subst hz
      obtain ⟨h1, ap⟩ := leaf_ok st [] 0 ⟨by simp, by simp [lvs]⟩ (by omega) (g ++ [.lst []]) 75 (.inr rfl)
      refine ⟨[] ++ [.lf [75]], g ++ [.lst []], ⟨h1.sk_, by have := h1.le; omega⟩, by simp, ?_⟩
      have q2 : eqNV 800 (.loc st.length) (.loc (SP st (tD []) g).length) (SP st (tD []) (g ++ [.lst []])) = .ok (.bl true) (SP st (tD []) (g ++ [.lst []])) := q2
      have ty := SP_ty st (tD []) (g ++ [.lst []])
      generalize SP st (tD ([] ++ [Tr.lf [75]])) (g ++ [.lst []]) = Z2 at *
      generalize SP st (tD []) (g ++ [.lst []]) = Z1 at *
      generalize (SP st (tD []) g).length = z0 at *
      generalize SP st (tD []) g = Z0 at *
      generalize lstE nilA = LE at *
      simp [l2, q2, ty, ap]
    · have i0 : (tD ts).isEmpty = false := by cases ts with | nil => exact absurd rfl hz | cons a l => rfl
      rw [i0] at q2
      refine ⟨ts, g ++ [.lst []], ⟨hs.sk_, by have := hs.le; omega⟩, hz, ?_⟩
      generalize SP st (tD ts) (g ++ [.lst []]) = Z1 at *
      generalize (SP st (tD ts) g).length = z0 at *
      generalize SP st (tD ts) g = Z0 at *
      generalize lstE nilA = LE at *
      simp [l2, q2]
  obtain ⟨ts2, g2, hs2, hne, e2⟩ := e2
  obtain ⟨m, hm⟩ : ∃ m, ts2.length = m + 1 := ⟨ts2.length - 1, by have : ts2.length ≠ 0 := fun z => hne (List.length_eq_zero_iff.mp z); omega⟩
  obtain ⟨t, a3', hs3, e3⟩ := while_ok st (some (.loc n)) a2 JB hJB.symm m ts2 g2 a3 101 hs2 (by omega) hm
  have ix : ixV (.loc st.length) (.int 0) (SP st (tD [t]) g2) = .ok (.str (shw t)) (SP st (tD [t]) g2) := r_ix_loc _ _ 0 [.str (shw t)] _ (SP_items st _ _) rfl
  have gg : gc st (.ok (.str (shw t)) (SP st (tD [t]) g2)) = .ok (.str (shw t)) st := gc_flat (by simp)
  refine ⟨t, hs3.sk_ t (by simp), by have := hs3.le; simpa [lvs] using this, ?_⟩
  have s1 : setS 1 (lstE nilA) [some (.loc n), none, none, none] st = .ok (.nx [some (.loc n), some (.loc st.length), none, none]) (SP st [] []) := by
    generalize SP st [] [] = Z at *
    generalize lstE nilA = LE at *
    simp [l1]
  have s2 : forS (seqI (vr 0)) (nameG 2) TB [some (.loc n), some (.loc st.length), none, none] (SP st [] []) = .ok (.nx [some (.loc n), some (.loc st.length), a2, a3]) (SP st (tD ts) g) := by
    unfold forS
    rw [sq, R.bind_ok]
    exact h1
  have s5 : retS (op2 ixV (vr 1) (ct (.int 0))) [some (.loc n), some (.loc st.length), a2, a3'] (SP st (tD [t]) g2) = .ok (.rt (.str (shw t))) (SP st (tD [t]) g2) := by
    generalize SP st (tD [t]) g2 = Z at *
    generalize shw t = W at *
    simp [ix]
  simp only [r_seqS, s1, R.bind_ok, s2, e2, e3, s5]
  exact gg
end
end Law
set_option maxHeartbeats 0
namespace Law
open L2 M Tr
/-- plain texts -/
def Pl (n : Nat) (cs : List Nat) : Prop := cs.length ≤ n ∧ ∀ c ∈ cs, c < 128
theorem Pl.mono {m n : Nat} {cs : List Nat} (h : Pl m cs) (hm : m ≤ n) : Pl n cs := ⟨Nat.le_trans h.1 hm, h.2⟩
theorem Pl.app {m n : Nat} {a b : List Nat} (h : Pl m a) (k : Pl n b) : Pl (m + n) (a ++ b) := by
  refine ⟨by rw [List.length_append]; have := h.1; have := k.1; omega, fun c hc => ?_⟩
  rcases List.mem_append.mp hc with hc | hc
  · exact h.2 c hc
  · exact k.2 c hc
theorem Pl.cut {n : Nat} {cs : List Nat} (h : Pl n cs) (lo hi : Option Int) : Pl n (cut cs lo hi) := by
  refine ⟨Nat.le_trans (cut_len cs lo hi) h.1, fun c hc => h.2 c ?_⟩
  unfold M.cut at hc
  exact List.mem_of_mem_drop (List.mem_of_mem_take hc)
theorem sign_ok (m : Int) (st : Stor) : ∃ c, c < 128 ∧ F_l_sign [.int m] st = .ok (.str [c]) st := by
  unfold F_l_sign gcF fnM b_l_sign
  rw [show startM 2 [D.int m] = [some (.int m), none] from rfl]
  generalize hS : ([32, 33, 34, 35, 36, 38, 39, 40, 41, 42, 43, 44, 45, 46, 47, 48, 49, 50, 51, 52, 53, 54, 55, 56, 57, 58, 59, 60, 61, 62, 63, 64, 65, 66, 67, 68, 69, 70, 71, 72, 73, 74, 75, 76, 77, 78, 79, 80, 81, 82, 83, 84, 85, 86, 87, 88, 89, 90, 91, 92, 93, 94, 95, 96, 97, 98, 99, 100, 101, 102, 103, 104, 105, 106, 107, 108, 109, 110, 111, 112, 113, 114, 115, 116, 117, 118, 119, 120, 121, 122, 123, 124, 125, 126, 10] : List Nat) = SS
  have hl : SS.length = 95 := by rw [← hS]; rfl
  have ha : ∀ c ∈ SS, c < 128 := by rw [← hS]; decide
  clear hS
  by_cases hm : m % 2 = 0
  · obtain ⟨y, hy, py⟩ := pickS [83, 75, 40, 41] (m / 2 % 4) (by omega) (by show _ < (4 : Int); omega) (by decide)
    refine ⟨y, by simp at hy; omega, ?_⟩
    simp [r_mod_int, r_fdiv_int, hm, py, gc_same]
  · obtain ⟨y, hy, py⟩ := pickS SS (m / 2 % 95) (by omega) (by rw [hl]; omega) (by omega)
    refine ⟨y, ha y hy, ?_⟩
    simp [r_mod_int, r_fdiv_int, hm, py, gc_same]
theorem spoilt_ok (cs : List Nat) (hp : Pl 1000 cs) (hne : cs ≠ []) (c m : Int) (st : Stor) : ∃ ts, Pl 2010 ts ∧ F_l_spoilt [.str cs, .int c, .int m] st = .ok (.str ts) st := by
  have h0 : 0 < cs.length := List.length_pos_iff.mpr hne
  have hl := hp.1
  have ln : ∀ s, lenV [.str cs] s = .ok (.int (cs.length : Nat)) s := fun s => r_len_str s cs (by omega)
  have md : ∀ s i, modV (.int i) (.int (cs.length : Nat)) s = .ok (.int (i % (cs.length : Nat))) s := fun s i => r_mod_int s i _ (by omega)
  have sl : ∀ s lo hi, slV (.str cs) lo hi s = .ok (.str (cut cs lo hi)) s := fun s lo hi => r_sl_str s cs lo hi (by omega)
  have ad : ∀ (a b : List Nat) s, Pl 1010 a → Pl 1010 b → addV (.str a) (.str b) s = .ok (.str (a ++ b)) s := fun a b s ha hb => r_add_str s a b (by have := ha.1; have := hb.1; omega)
  have gg : ∀ (t : List Nat), gc st (.ok (.str t) st) = .ok (.str t) st := fun t => gc_same (by simp)
  generalize hat : (c / 5) % ((cs.length : Nat) : Int) = at_ at *
  obtain ⟨y, hy, sg⟩ := sign_ok m st
  have hpy : Pl 1 [y] := ⟨by simp, by simpa using hy⟩
  have c1 := hp.cut none (some at_)
  have c2 := hp.cut (some at_) none
  have c3 := hp.cut (some (at_ + 1)) none
  have m5 : c % 5 = 0 ∨ c % 5 = 1 ∨ c % 5 = 2 ∨ c % 5 = 3 ∨ c % 5 = 4 := by omega
  unfold F_l_spoilt gcF fnM b_l_spoilt
  rw [show startM 4 [D.str cs, .int c, .int m] = [some (.str cs), some (.int c), some (.int m), none] from rfl]
  have sl1 := fun s => sl s none (some at_)
  have sl2 := fun s => sl s (some at_) none
  have sl3 := fun s => sl s (some (at_ + 1)) none
  have a1 : ∀ s, addV (.str (cut cs none (some at_))) (.str [y]) s = .ok (.str (cut cs none (some at_) ++ [y])) s := fun s => ad _ _ s (c1.mono (by omega)) (hpy.mono (by omega))
  have a2 : ∀ s, addV (.str (cut cs none (some at_) ++ [y])) (.str (cut cs (some at_) none)) s = .ok (.str (cut cs none (some at_) ++ [y] ++ cut cs (some at_) none)) s := fun s => ad _ _ s ((c1.app hpy).mono (by omega)) (c2.mono (by omega))
  have a3 : ∀ s, addV (.str (cut cs none (some at_) ++ [y])) (.str (cut cs (some (at_ + 1)) none)) s = .ok (.str (cut cs none (some at_) ++ [y] ++ cut cs (some (at_ + 1)) none)) s := fun s => ad _ _ s ((c1.app hpy).mono (by omega)) (c3.mono (by omega))
  have a4 : ∀ s, addV (.str (cut cs none (some at_))) (.str (cut cs (some (at_ + 1)) none)) s = .ok (.str (cut cs none (some at_) ++ cut cs (some (at_ + 1)) none)) s := fun s => ad _ _ s (c1.mono (by omega)) (c3.mono (by omega))
  have p2 := ((c1.app hpy).app c2).mono (show 1000 + 1 + 1000 ≤ 2010 by omega)
  have p3 := ((c1.app hpy).app c3).mono (show 1000 + 1 + 1000 ≤ 2010 by omega)
  have p4 := (c1.app c3).mono (show 1000 + 1000 ≤ 2010 by omega)
  have p1 := c1.mono (show 1000 ≤ 2010 by omega)
  clear c1 c2 c3
  clear sl ad
  rcases m5 with e | e | e | e | e
  · refine ⟨_, p2, ?_⟩
    clear p1 p2 p3 p4
    have g := gg (cut cs none (some at_) ++ [y] ++ cut cs (some at_) none)
    generalize cut cs none (some at_) ++ [y] ++ cut cs (some at_) none = T3 at *
    generalize cut cs none (some at_) ++ [y] = T2 at *
    generalize cut cs none (some at_) = T1 at *
    generalize cut cs (some at_) none = T0 at *
    generalize ((cs.length : Nat) : Int) = L at *
    simp [r_fdiv_int, r_mod_int, ln, md, hat, e, sl1, sl2, sg, a1, a2]
    exact g
  · refine ⟨_, p3, ?_⟩
    clear p1 p2 p3 p4
    have g := gg (cut cs none (some at_) ++ [y] ++ cut cs (some (at_ + 1)) none)
    generalize cut cs none (some at_) ++ [y] ++ cut cs (some (at_ + 1)) none = T3 at *
    generalize cut cs none (some at_) ++ [y] = T2 at *
    generalize cut cs none (some at_) = T1 at *
    generalize cut cs (some (at_ + 1)) none = T0 at *
    generalize ((cs.length : Nat) : Int) = L at *
    simp [r_fdiv_int, r_mod_int, ln, md, hat, e, sl1, sl3, sg, a1, a3]
    exact g
  · refine ⟨_, p4, ?_⟩
    clear p1 p2 p3 p4
    have g := gg (cut cs none (some at_) ++ cut cs (some (at_ + 1)) none)
    generalize cut cs none (some at_) ++ cut cs (some (at_ + 1)) none = T3 at *
    generalize cut cs none (some at_) = T1 at *
    generalize cut cs (some (at_ + 1)) none = T0 at *
    generalize ((cs.length : Nat) : Int) = L at *
    simp [r_fdiv_int, r_mod_int, ln, md, hat, e, sl1, sl3, a4]
    exact g
  · refine ⟨_, p1, ?_⟩
    clear p1 p2 p3 p4
    have g := gg (cut cs none (some at_))
    generalize cut cs none (some at_) = T1 at *
    generalize ((cs.length : Nat) : Int) = L at *
    simp [r_fdiv_int, r_mod_int, ln, md, hat, e, sl1]
    exact g
  · clear p1 p2 p3 p4
    have it : itemsAt (st ++ [MO.lst [.str [y], .str [40, 83, 75, 41], .str [75]]]) st.length = some [.str [y], .str [40, 83, 75, 41], .str [75]] := by simp [itemsAt]
    have ls : ∀ env, env[2]? = some (some (.int m)) → lstE (consA (callF F_l_sign [] (consA (vr 2) nilA)) (consA (ct (.str [40, 83, 75, 41])) (consA (ct (.str [75])) nilA))) env st = .ok (.loc st.length) (st ++ [.lst [.str [y], .str [40, 83, 75, 41], .str [75]]]) := fun env he => by
      simp [he, sg]
    obtain ⟨w, hw, px⟩ : ∃ w, Pl 4 w ∧ ixV (.loc st.length) (.int (c / 5 % 3)) (st ++ [.lst [.str [y], .str [40, 83, 75, 41], .str [75]]]) = .ok (.str w) (st ++ [.lst [.str [y], .str [40, 83, 75, 41], .str [75]]]) := by
      have h3 : c / 5 % 3 = 0 ∨ c / 5 % 3 = 1 ∨ c / 5 % 3 = 2 := by omega
      rcases h3 with h3 | h3 | h3 <;> rw [h3]
      · exact ⟨[y], hpy.mono (by omega), r_ix_loc _ _ _ _ _ it rfl⟩
      · exact ⟨[40, 83, 75, 41], ⟨by simp, by decide⟩, r_ix_loc _ _ _ _ _ it rfl⟩
      · exact ⟨[75], ⟨by simp, by decide⟩, r_ix_loc _ _ _ _ _ it rfl⟩
    have av : ∀ s, addV (.str cs) (.str w) s = .ok (.str (cs ++ w)) s := fun s => r_add_str s cs w (by have := hw.1; omega)
    refine ⟨cs ++ w, (hp.app hw).mono (by omega), ?_⟩
    have g : gc st (.ok (.str (cs ++ w)) (st ++ [.lst [.str [y], .str [40, 83, 75, 41], .str [75]]])) = .ok (.str (cs ++ w)) st := gc_flat (by simp)
    generalize hLS : lstE (consA (callF F_l_sign [] (consA (vr 2) nilA)) _) = LS at *
    generalize st ++ [MO.lst [.str [y], .str [40, 83, 75, 41], .str [75]]] = Z1 at *
    generalize ((cs.length : Nat) : Int) = L at *
    generalize cs ++ w = CW at *
    simp [r_fdiv_int, r_mod_int, ln, md, hat, e, ls, px, av]
    exact g
theorem chain_ok (n : Nat) (hn : n ≤ 400) (b : Int) (hb : 0 ≤ b ∧ b < 2147483647) (st : Stor) : ∃ ts, Pl 3000 ts ∧ F_l_chain [.int (n : Nat), .int b] st = .ok (.str ts) st := by
  unfold F_l_chain gcF fnM b_l_chain
  rw [show startM 6 [D.int (n : Nat), .int b] = [some (.int (n : Nat)), some (.int b), none, none, none, none] from rfl]
  generalize hB : (seqS (setS 5 _) _ : MS) = B
  obtain ⟨env', st', h1, v, x, y, a4, a5, hv, hx, hy, rfl, rfl⟩ := forGo_ix (g := nameG 4) (b := B) (gs := []) (items := upto 0 n)
    (fun i env s => ∃ (v : Int) (x y : List Nat) (a4 a5 : Option D), (0 ≤ v ∧ v < 2147483647) ∧ Pl (2 * i) x ∧ Pl (2 * i) y ∧ env = [some (.int (n : Nat)), some (.int v), some (.str x), some (.str y), a4, a5] ∧ s = st)
    (env := [some (.int (n : Nat)), some (.int b), some (.str []), some (.str []), none, none]) (st := st) ⟨b, [], [], none, none, hb, ⟨by simp, by simp⟩, ⟨by simp, by simp⟩, rfl, rfl⟩ (by
      rintro i d env s hi ⟨v, x, y, a4, a5, hv, hx, hy, rfl, rfl⟩
      obtain ⟨hi', rfl⟩ := upto_get hi
      obtain ⟨l, hl, pl⟩ := pickS [83, 75] (v / 2 % 2) (by omega) (by show _ < (2 : Int); omega) (by decide)
      have hl' : l = 83 ∨ l = 75 := by simpa using hl
      have pl1 : Pl 1 [l] := ⟨by simp, by simp; omega⟩
      have p40 : Pl 1 [40] := ⟨by simp, by simp⟩
      have p41 : Pl 1 [41] := ⟨by simp, by simp⟩
      have mu : mulV (.int v) (.int 48271) s = .ok (.int (v * 48271)) s := r_mul_int s _ _ (by omega)
      have hv2 : 0 ≤ (v * 48271 + 11) % 2147483647 ∧ (v * 48271 + 11) % 2147483647 < 2147483647 := by omega
      have hx1 := hx.1
      have hy1 := hy.1
      have a1 : ∀ s, addV (.str x) (.str [40]) s = .ok (.str (x ++ [40])) s := fun s => r_add_str s _ _ (by simp; omega)
      have a2 : ∀ s, addV (.str (x ++ [40])) (.str [l]) s = .ok (.str (x ++ [40] ++ [l])) s := fun s => r_add_str s _ _ (by simp; omega)
      have a3 : ∀ s, addV (.str [41]) (.str y) s = .ok (.str ([41] ++ y)) s := fun s => r_add_str s _ _ (by simp; omega)
      have a6 : ∀ s, addV (.str [l]) (.str [41]) s = .ok (.str ([l] ++ [41])) s := fun s => r_add_str s _ _ (by simp)
      have a7 : ∀ s, addV (.str ([l] ++ [41])) (.str y) s = .ok (.str ([l] ++ [41] ++ y)) s := fun s => r_add_str s _ _ (by simp; omega)
      by_cases e : v % 2 = 0
      · refine ⟨by simp, _, _, rfl, [some (.int (n : Nat)), some (.int ((v * 48271 + 11) % 2147483647)), some (.str (x ++ [40] ++ [l])), some (.str ([41] ++ y)), some (.int (0 + (i : Nat))), some (.str [l])], s, .inl ?_,
          (v * 48271 + 11) % 2147483647, x ++ [40] ++ [l], [41] ++ y, _, _, hv2, ((hx.app p40).app pl1).mono (by omega), (p41.app hy).mono (by omega), rfl, rfl⟩
        rw [← hB]
        generalize x ++ [40] ++ [l] = T2 at *
        generalize x ++ [40] = T1 at *
        generalize [41] ++ y = T3 at *
        simp [pl, r_fdiv_int, r_mod_int, e, a1, a2, a3, mu]
      · refine ⟨by simp, _, _, rfl, [some (.int (n : Nat)), some (.int ((v * 48271 + 11) % 2147483647)), some (.str (x ++ [40])), some (.str ([l] ++ [41] ++ y)), some (.int (0 + (i : Nat))), some (.str [l])], s, .inl ?_,
          (v * 48271 + 11) % 2147483647, x ++ [40], [l] ++ [41] ++ y, _, _, hv2, (hx.app p40).mono (by omega), ((pl1.app p41).app hy).mono (by omega), rfl, rfl⟩
        rw [← hB]
        generalize [l] ++ [41] ++ y = T2 at *
        generalize [l] ++ [41] = T3 at *
        generalize x ++ [40] = T1 at *
        simp [pl, r_fdiv_int, r_mod_int, e, a1, a6, a7, mu]) (fun _ _ _ => by simp)
  rw [upto_len] at hx hy
  have hx1 := hx.1
  have hy1 := hy.1
  have hr1 : -4611686018427387904 ≤ (n : Int) := by omega
  have hr2 : (n : Int) < 4611686018427387904 := by omega
  have b1 : ∀ s, addV (.str x) (.str [83]) s = .ok (.str (x ++ [83])) s := fun s => r_add_str s _ _ (by simp; omega)
  have b2 : ∀ s, addV (.str (x ++ [83])) (.str y) s = .ok (.str (x ++ [83] ++ y)) s := fun s => r_add_str s _ _ (by simp; omega)
  have p83 : Pl 1 [83] := ⟨by simp, by simp⟩
  refine ⟨x ++ [83] ++ y, ((hx.app p83).app hy).mono (by omega), ?_⟩
  have g : gc st' (.ok (.str (x ++ [83] ++ y)) st') = .ok (.str (x ++ [83] ++ y)) st' := gc_same (by simp)
  generalize x ++ [83] ++ y = T2 at *
  generalize x ++ [83] = T1 at *
  simp [hr1, hr2, h1, b1, b2]
  exact g
end Law
set_option maxHeartbeats 0
namespace Law
open L2 M Tr
theorem law_true : ∀ ns : List Int, ns.length ≤ 63 → ∃ st, F_p_law [.loc 0] [.frz (ns.map D.int)] = .ok (.bl true) st := by
  intro ns hns
  obtain ⟨xs, hxs, dr⟩ := draws_ok ns 0 3 50 10 [.frz (ns.map D.int)] rfl hns (by omega) (by omega) (by omega) (by omega)
  have dr : F_l_draws [.loc 0, .int 3, .int 50, .int 10] [.frz (ns.map D.int)] = .ok (.loc 1) [.frz (ns.map D.int), .lst (xs.map D.int)] := dr
  obtain ⟨t, hsk, hlv, tx⟩ := text_ok [.frz (ns.map D.int), .lst (xs.map D.int)] xs 1 rfl (by omega)
  let S0 : Stor := [.frz (ns.map D.int), .lst (xs.map D.int)]
  have cl : ∀ k : Nat, F_l_cell_at [.loc 0, .int (k : Nat)] S0 = .ok (.int (cellI ns k)) S0 := fun k => cell_ok ns 0 k S0 rfl
  have c0 : F_l_cell_at [.loc 0, .int 0] S0 = .ok (.int (cellI ns 0)) S0 := cl 0
  have c1 : F_l_cell_at [.loc 0, .int 1] S0 = .ok (.int (cellI ns 1)) S0 := cl 1
  have c2 : F_l_cell_at [.loc 0, .int 2] S0 = .ok (.int (cellI ns 2)) S0 := cl 2
  have hS0 : S0.length = 2 := rfl
  have tx : F_l_text [.loc 1] S0 = .ok (.str (shw t)) S0 := tx
  have hlen := shw_len hsk
  have hwn := wn_lv t
  have hdp := dp_lt_lv t
  have pg : Pl 1000 (shw t) := ⟨by omega, shw_lo hsk⟩
  have hne : shw t ≠ [] := by
    intro z
    have := wn_pos t
    rw [z] at hlen; simp at hlen; omega
  obtain ⟨T1, pT1, sp⟩ := spoilt_ok (shw t) pg hne (cellI ns 0) (cellI ns 1) S0
  unfold F_p_law gcF fnM b_p_law
  rw [show startM 6 [D.loc 0] = [some (.loc 0), none, none, none, none, none] from rfl]
  have e1 : setS 1 (callF F_l_text [] (consA (callF F_l_draws [] (consA (vr 0) (consA (ct (.int 3)) (consA (ct (.int 50)) (consA (ct (.int 10)) nilA))))) nilA)) [some (.loc 0), none, none, none, none, none] [.frz (ns.map D.int)] = .ok (.nx [some (.loc 0), some (.str (shw t)), none, none, none, none]) S0 := by
    have dr2 : F_l_draws [.loc 0, .int 3, .int 50, .int 10] [.frz (ns.map D.int)] = .ok (.loc 1) S0 := dr
    generalize S0 = Z0 at *
    generalize shw t = W at *
    generalize ([.frz (ns.map D.int)] : Stor) = Z at *
    simp [dr2, tx]
  have e2 : setS 2 (callF F_l_spoilt [] (consA (vr 1) (consA (callF F_l_cell_at [] (consA (vr 0) (consA (ct (.int 0)) nilA))) (consA (callF F_l_cell_at [] (consA (vr 0) (consA (ct (.int 1)) nilA))) nilA)))) [some (.loc 0), some (.str (shw t)), none, none, none, none] S0 = .ok (.nx [some (.loc 0), some (.str (shw t)), some (.str T1), none, none, none]) S0 := by
    generalize S0 = Z0 at *
    generalize shw t = W at *
    simp [c0, c1, sp]
  have f1 := fault_ok T1 (by have := pT1.1; omega) S0
  have e3 : setS 3 (callF F_l_fault [] (consA (vr 2) nilA)) [some (.loc 0), some (.str (shw t)), some (.str T1), none, none, none] S0 = .ok (.nx [some (.loc 0), some (.str (shw t)), some (.str T1), some (dueD T1), none, none]) S0 := by
    generalize S0 = Z0 at *
    generalize shw t = W at *
    generalize dueD T1 = DD at *
    simp [f1]
  obtain ⟨T2, pT2, e4⟩ : ∃ T2, Pl 3000 T2 ∧ (ifS (tB1 (op2 (eqV 800) (op2 modV (callF F_l_cell_at [] (consA (vr 0) (consA (ct (.int 2)) nilA))) (ct (.int 8))) (ct (.int 1)))) (seqS (setS 2 (callF F_l_chain [] (consA (op2 addV (ct (.int 290)) (op2 modV (op2 fdivV (callF F_l_cell_at [] (consA (vr 0) (consA (ct (.int 2)) nilA))) (ct (.int 8))) (ct (.int 40)))) (consA (op2 modV (callF F_l_cell_at [] (consA (vr 0) (consA (ct (.int 1)) nilA))) (ct (.int 2147483647))) nilA))))
    (setS 3 (callF F_l_fault [] (consA (vr 2) nilA)))) skipS) [some (.loc 0), some (.str (shw t)), some (.str T1), some (dueD T1), none, none] S0 = .ok (.nx [some (.loc 0), some (.str (shw t)), some (.str T2), some (dueD T2), none, none]) S0 := by
    by_cases h8 : cellI ns 2 % 8 = 1
    · obtain ⟨n, hn⟩ : ∃ n : Nat, 290 + cellI ns 2 / 8 % 40 = (n : Nat) := Int.eq_ofNat_of_zero_le (by omega)
      obtain ⟨T2, pT2, ch⟩ := chain_ok n (by omega) (cellI ns 1 % 2147483647) (by omega) S0
      have f2 := fault_ok T2 (by have := pT2.1; omega) S0
      refine ⟨T2, pT2, ?_⟩
      rw [← hn] at ch
      generalize S0 = Z0 at *
      generalize shw t = W at *
      generalize dueD T1 = DD at *
      generalize dueD T2 = DE at *
      generalize cellI ns 2 = w2 at *
      generalize cellI ns 1 = w1 at *
      simp [c2, c1, r_mod_int, r_fdiv_int, h8, ch, f2]
    · refine ⟨T1, pT1.mono (by omega), ?_⟩
      generalize S0 = Z0 at *
      generalize shw t = W at *
      generalize dueD T1 = DD at *
      generalize cellI ns 2 = w2 at *
      simp [c2, r_mod_int, h8]
  have fG : ∀ S : Stor, F_l_found [.str (shw t)] S = .ok (.loc S.length) (S ++ [.lst [.str [116, 114, 101, 101], enc t]]) := fun S => found_tree _ S t (read_ok (shw t) (shw_lo hsk) (by omega) S t (run_good t hsk (by omega)))
  have sG : ∀ S : Stor, F_p_tree_show [enc t] S = .ok (.str (shw t)) S := fun S => tree_show_ok t S (by omega) (by omega)
  rcases found_ok T2 pT2.2 (by have := pT2.1; omega) with ⟨j, hd, fT⟩ | ⟨u, hu, hsu, hd, fT⟩
  · -- none
    let O1 : MO := .lst [.str [110, 111, 110, 101], .int (j : Nat)]
    let O2 : MO := .lst [.str [116, 114, 101, 101], enc t]
    have e5 : setS 4 (callF F_l_found [] (consA (vr 2) nilA)) [some (.loc 0), some (.str (shw t)), some (.str T2), some (dueD T2), none, none] S0 = .ok (.nx [some (.loc 0), some (.str (shw t)), some (.str T2), some (.int (j : Nat)), some (.loc 2), none]) (S0 ++ [O1]) := by
      rw [hd]
      have := fT S0
      rw [hS0] at this
      change _ = R.ok _ (S0 ++ [O1]) at this
      generalize S0 ++ [O1] = Z1 at *
      generalize S0 = Z0 at *
      generalize shw t = W at *
      generalize ((j : Nat) : Int) = J at *
      simp [this]
    have e6 : (ifS (tB1 (op2 isNoneV (vr 3) (ct .non))) (ifS (orT (tB1 (op2 (neV 800) (op2 ixV (vr 4) (ct (.int 0))) (ct (.str [116, 114, 101, 101])))) (tB1 (op2 (neV 800) (callF F_p_tree_show [] (consA (op2 ixV (vr 4) (ct (.int 1))) nilA)) (vr 2)))) (retS (ct (.bl false))) skipS) (ifS (tB1 (op2 (neV 800) (vr 4) (lstE (consA (ct (.str [110, 111, 110, 101])) (consA (vr 3) nilA))))) (retS (ct (.bl false))) skipS)) [some (.loc 0), some (.str (shw t)), some (.str T2), some (.int (j : Nat)), some (.loc 2), none] (S0 ++ [O1]) = .ok (.nx [some (.loc 0), some (.str (shw t)), some (.str T2), some (.int (j : Nat)), some (.loc 2), none]) (S0 ++ [O1] ++ [O1]) := by
      have nn : ∀ Z, isNoneV (.int (j : Nat)) .non Z = .ok (.bl false) Z := fun Z => rfl
      have ls : ∀ env, env[3]? = some (some (.int (j : Nat))) → lstE (consA (ct (.str [110, 111, 110, 101])) (consA (vr 3) nilA)) env (S0 ++ [O1]) = .ok (.loc 3) (S0 ++ [O1] ++ [O1]) := fun env he => by
        have hL : (S0 ++ [O1]).length = 3 := rfl
        have : lstE (consA (ct (.str [110, 111, 110, 101])) (consA (vr 3) nilA)) env (S0 ++ [O1]) = .ok (.loc (S0 ++ [O1]).length) (S0 ++ [O1] ++ [O1]) := by
          generalize S0 ++ [O1] = Z at *
          simp [he, lstE, O1]
        rw [this, hL]
      have ne : neV 800 (.loc 2) (.loc 3) (S0 ++ [O1] ++ [O1]) = .ok (.bl false) (S0 ++ [O1] ++ [O1]) := r_ne_lists _ 800 2 3 [.str [110, 111, 110, 101], .int (j : Nat)] rfl rfl (by simp) (by simp)
      generalize hLS : lstE (consA (ct (.str [110, 111, 110, 101])) (consA (vr 3) nilA)) = LS at *
      generalize S0 ++ [O1] ++ [O1] = Z2 at *
      generalize S0 ++ [O1] = Z1 at *
      generalize shw t = W at *
      generalize ((j : Nat) : Int) = J at *
      simp [nn, ls, ne]
    have e7 : setS 5 (callF F_l_found [] (consA (vr 1) nilA)) [some (.loc 0), some (.str (shw t)), some (.str T2), some (.int (j : Nat)), some (.loc 2), none] (S0 ++ [O1] ++ [O1]) = .ok (.nx [some (.loc 0), some (.str (shw t)), some (.str T2), some (.int (j : Nat)), some (.loc 2), some (.loc 4)]) (S0 ++ [O1] ++ [O1] ++ [O2]) := by
      have := fG (S0 ++ [O1] ++ [O1])
      rw [show (S0 ++ [O1] ++ [O1]).length = 4 from rfl] at this
      change _ = R.ok _ (S0 ++ [O1] ++ [O1] ++ [O2]) at this
      generalize S0 ++ [O1] ++ [O1] ++ [O2] = Z3 at *
      generalize S0 ++ [O1] ++ [O1] = Z2 at *
      generalize shw t = W at *
      generalize ((j : Nat) : Int) = J at *
      simp [this]
    have e8 : retS (andV (op2 (eqV 800) (op2 ixV (vr 5) (ct (.int 0))) (ct (.str [116, 114, 101, 101]))) (andV (op2 (eqV 800) (callF F_p_tree_show [] (consA (op2 ixV (vr 5) (ct (.int 1))) nilA)) (vr 1)) (op2 (eqV 800) (op2 ixV (callF F_l_found [] (consA (vr 2) nilA)) (ct (.int 0))) (op2 ixV (vr 4) (ct (.int 0)))))) [some (.loc 0), some (.str (shw t)), some (.str T2), some (.int (j : Nat)), some (.loc 2), some (.loc 4)] (S0 ++ [O1] ++ [O1] ++ [O2]) = .ok (.rt (.bl true)) (S0 ++ [O1] ++ [O1] ++ [O2] ++ [O1]) := by
      have q := fT (S0 ++ [O1] ++ [O1] ++ [O2])
      rw [show (S0 ++ [O1] ++ [O1] ++ [O2]).length = 5 from rfl] at q
      change _ = R.ok _ (S0 ++ [O1] ++ [O1] ++ [O2] ++ [O1]) at q
      have x1 : ixV (.loc 4) (.int 0) (S0 ++ [O1] ++ [O1] ++ [O2]) = .ok (.str [116, 114, 101, 101]) (S0 ++ [O1] ++ [O1] ++ [O2]) := r_ix_loc _ 4 0 [.str [116, 114, 101, 101], enc t] _ rfl rfl
      have x2 : ixV (.loc 4) (.int 1) (S0 ++ [O1] ++ [O1] ++ [O2]) = .ok (enc t) (S0 ++ [O1] ++ [O1] ++ [O2]) := r_ix_loc _ 4 1 [.str [116, 114, 101, 101], enc t] _ rfl rfl
      have x3 : ixV (.loc 5) (.int 0) (S0 ++ [O1] ++ [O1] ++ [O2] ++ [O1]) = .ok (.str [110, 111, 110, 101]) (S0 ++ [O1] ++ [O1] ++ [O2] ++ [O1]) := r_ix_loc _ 5 0 [.str [110, 111, 110, 101], .int (j : Nat)] _ rfl rfl
      have x4 : ixV (.loc 2) (.int 0) (S0 ++ [O1] ++ [O1] ++ [O2] ++ [O1]) = .ok (.str [110, 111, 110, 101]) (S0 ++ [O1] ++ [O1] ++ [O2] ++ [O1]) := r_ix_loc _ 2 0 [.str [110, 111, 110, 101], .int (j : Nat)] _ rfl rfl
      generalize S0 ++ [O1] ++ [O1] ++ [O2] ++ [O1] = Z4 at *
      generalize S0 ++ [O1] ++ [O1] ++ [O2] = Z3 at *
      generalize enc t = ET at *
      generalize shw t = W at *
      generalize ((j : Nat) : Int) = J at *
      simp [x1, x2, x3, x4, sG, q]
    simp only [r_seqS, e1, R.bind_ok, e2, e3, e4, e5, e6, e7, e8]
    exact ⟨[.frz (ns.map D.int)], gc_flat (st := [.frz (ns.map D.int)]) (g := [.lst (xs.map D.int), O1, O1, O2, O1]) (by simp)⟩
  · -- a tree
    let O1 : MO := .lst [.str [116, 114, 101, 101], enc u]
    let O2 : MO := .lst [.str [116, 114, 101, 101], enc t]
    have pl := pT2.1
    have hul := shw_len hu
    rw [hsu] at hul
    have sU : ∀ S : Stor, F_p_tree_show [enc u] S = .ok (.str T2) S := fun S => by rw [tree_show_ok u S (by omega) (by rw [hsu]; omega), hsu]
    have e5 : setS 4 (callF F_l_found [] (consA (vr 2) nilA)) [some (.loc 0), some (.str (shw t)), some (.str T2), some (dueD T2), none, none] S0 = .ok (.nx [some (.loc 0), some (.str (shw t)), some (.str T2), some .non, some (.loc 2), none]) (S0 ++ [O1]) := by
      rw [hd]
      have := fT S0
      rw [hS0] at this
      change _ = R.ok _ (S0 ++ [O1]) at this
      generalize S0 ++ [O1] = Z1 at *
      generalize S0 = Z0 at *
      generalize shw t = W at *
      simp [this]
    have e6 : (ifS (tB1 (op2 isNoneV (vr 3) (ct .non))) (ifS (orT (tB1 (op2 (neV 800) (op2 ixV (vr 4) (ct (.int 0))) (ct (.str [116, 114, 101, 101])))) (tB1 (op2 (neV 800) (callF F_p_tree_show [] (consA (op2 ixV (vr 4) (ct (.int 1))) nilA)) (vr 2)))) (retS (ct (.bl false))) skipS) (ifS (tB1 (op2 (neV 800) (vr 4) (lstE (consA (ct (.str [110, 111, 110, 101])) (consA (vr 3) nilA))))) (retS (ct (.bl false))) skipS)) [some (.loc 0), some (.str (shw t)), some (.str T2), some .non, some (.loc 2), none] (S0 ++ [O1]) = .ok (.nx [some (.loc 0), some (.str (shw t)), some (.str T2), some .non, some (.loc 2), none]) (S0 ++ [O1]) := by
      have nn : ∀ Z, isNoneV .non .non Z = .ok (.bl true) Z := fun Z => rfl
      have x1 : ixV (.loc 2) (.int 0) (S0 ++ [O1]) = .ok (.str [116, 114, 101, 101]) (S0 ++ [O1]) := r_ix_loc _ 2 0 [.str [116, 114, 101, 101], enc u] _ rfl rfl
      have x2 : ixV (.loc 2) (.int 1) (S0 ++ [O1]) = .ok (enc u) (S0 ++ [O1]) := r_ix_loc _ 2 1 [.str [116, 114, 101, 101], enc u] _ rfl rfl
      generalize hLS : lstE (consA (ct (.str [110, 111, 110, 101])) (consA (vr 3) nilA)) = LS at *
      generalize S0 ++ [O1] = Z1 at *
      generalize enc u = EU at *
      generalize shw t = W at *
      simp [nn, x1, x2, sU]
    have e7 : setS 5 (callF F_l_found [] (consA (vr 1) nilA)) [some (.loc 0), some (.str (shw t)), some (.str T2), some .non, some (.loc 2), none] (S0 ++ [O1]) = .ok (.nx [some (.loc 0), some (.str (shw t)), some (.str T2), some .non, some (.loc 2), some (.loc 3)]) (S0 ++ [O1] ++ [O2]) := by
      have := fG (S0 ++ [O1])
      rw [show (S0 ++ [O1]).length = 3 from rfl] at this
      change _ = R.ok _ (S0 ++ [O1] ++ [O2]) at this
      generalize S0 ++ [O1] ++ [O2] = Z3 at *
      generalize S0 ++ [O1] = Z2 at *
      generalize shw t = W at *
      simp [this]
    have e8 : retS (andV (op2 (eqV 800) (op2 ixV (vr 5) (ct (.int 0))) (ct (.str [116, 114, 101, 101]))) (andV (op2 (eqV 800) (callF F_p_tree_show [] (consA (op2 ixV (vr 5) (ct (.int 1))) nilA)) (vr 1)) (op2 (eqV 800) (op2 ixV (callF F_l_found [] (consA (vr 2) nilA)) (ct (.int 0))) (op2 ixV (vr 4) (ct (.int 0)))))) [some (.loc 0), some (.str (shw t)), some (.str T2), some .non, some (.loc 2), some (.loc 3)] (S0 ++ [O1] ++ [O2]) = .ok (.rt (.bl true)) (S0 ++ [O1] ++ [O2] ++ [O1]) := by
      have q := fT (S0 ++ [O1] ++ [O2])
      rw [show (S0 ++ [O1] ++ [O2]).length = 4 from rfl] at q
      change _ = R.ok _ (S0 ++ [O1] ++ [O2] ++ [O1]) at q
      have x1 : ixV (.loc 3) (.int 0) (S0 ++ [O1] ++ [O2]) = .ok (.str [116, 114, 101, 101]) (S0 ++ [O1] ++ [O2]) := r_ix_loc _ 3 0 [.str [116, 114, 101, 101], enc t] _ rfl rfl
      have x2 : ixV (.loc 3) (.int 1) (S0 ++ [O1] ++ [O2]) = .ok (enc t) (S0 ++ [O1] ++ [O2]) := r_ix_loc _ 3 1 [.str [116, 114, 101, 101], enc t] _ rfl rfl
      have x3 : ixV (.loc 4) (.int 0) (S0 ++ [O1] ++ [O2] ++ [O1]) = .ok (.str [116, 114, 101, 101]) (S0 ++ [O1] ++ [O2] ++ [O1]) := r_ix_loc _ 4 0 [.str [116, 114, 101, 101], enc u] _ rfl rfl
      have x4 : ixV (.loc 2) (.int 0) (S0 ++ [O1] ++ [O2] ++ [O1]) = .ok (.str [116, 114, 101, 101]) (S0 ++ [O1] ++ [O2] ++ [O1]) := r_ix_loc _ 2 0 [.str [116, 114, 101, 101], enc u] _ rfl rfl
      generalize S0 ++ [O1] ++ [O2] ++ [O1] = Z4 at *
      generalize S0 ++ [O1] ++ [O2] = Z3 at *
      generalize enc t = ET at *
      generalize shw t = W at *
      simp [x1, x2, x3, x4, sG, q]
    simp only [r_seqS, e1, R.bind_ok, e2, e3, e4, e5, e6, e7, e8]
    exact ⟨[.frz (ns.map D.int)], gc_flat (st := [.frz (ns.map D.int)]) (g := [.lst (xs.map D.int), O1, O2, O1]) (by simp)⟩
end Law
open PySem PySem.W PyProof.Rows
set_option maxRecDepth 100000 in
set_option maxHeartbeats 0 in
theorem PySem.Challenge.cw_oneofall_k57_no_texts_holds : PySem.Challenge.rw_oneofall_k57_no_texts.Holds := by
  w_on; o_law; k_head; (case hw => w_witness2)
  k_fill
  refine M.holds_of (F := Law.F_p_law) (k := 46) (x := "_law_script") rfl rfl ⟨rfl, by decide, by decide⟩ (fun w h Y => PySem.W.kIn_of Y) ?F Law.law_true
  case F =>
    intro w mg fa h KX G hmg
    refine' Law.all_mk KX G hmg ?x1 ?xP ?xT ?xa ?xl ?xc ?xk ?xr_tP ?xr_tT ?xr_b ?xr_1 ?xr_2 ?xr_3 ?xr_4 ?xeP ?xeT ?a0 ?l0 ?c0 ?k0 ?a1 ?l1 ?c1 ?k1 ?a2 ?l2 ?c2 ?k2 ?a3 ?l3 ?c3 ?k3 ?a4 ?l4 ?c4 ?k4 ?a5 ?l5 ?c5 ?k5 ?a6 ?l6 ?c6 ?k6 ?a7 ?l7 ?c7 ?k7 ?a8 ?l8 ?c8 ?k8 ?a9 ?l9 ?c9 ?k9 ?a10 ?l10 ?c10 ?k10 ?a11 ?l11 ?c11 ?k11 ?a12 ?l12 ?c12 ?k12 ?a13 ?l13 ?c13 ?k13 ?a14 ?l14 ?c14 ?k14 ?a15 ?l15 ?c15 ?k15 ?v_MOST_BRACKETS ?z_ValueError ?z_bool ?z_enumerate ?z_int ?z_isinstance ?z_len ?z_range ?z_str
    (case x1 => k_is)
    (case xP => k_is)
    (case xT => k_is)
    (case xa => k_is)
    (case xl => k_is)
    (case xc => k_is)
    (case xk => k_is)
    (case xr_tP => first | k_is | kernel_rfl)
    (case xr_tT => first | k_is | kernel_rfl)
    (case xr_b => first | k_is | kernel_rfl)
    (case xr_1 => first | k_is | kernel_rfl)
    (case xr_2 => first | k_is | kernel_rfl)
    (case xr_3 => first | k_is | kernel_rfl)
    (case xr_4 => first | k_is | kernel_rfl)
    (case xeP => k_is)
    (case xeT => k_is)
    (case a0 => k_is)
    (case l0 => k_is)
    (case c0 => k_is)
    (case k0 => k_is)
    (case a1 => k_is)
    (case l1 => k_is)
    (case c1 => k_is)
    (case k1 => k_is)
    (case a2 => k_is)
    (case l2 => k_is)
    (case c2 => k_is)
    (case k2 => k_is)
    (case a3 => k_is)
    (case l3 => k_is)
    (case c3 => k_is)
    (case k3 => k_is)
    (case a4 => k_is)
    (case l4 => k_is)
    (case c4 => k_is)
    (case k4 => k_is)
    (case a5 => k_is)
    (case l5 => k_is)
    (case c5 => k_is)
    (case k5 => k_is)
    (case a6 => k_is)
    (case l6 => k_is)
    (case c6 => k_is)
    (case k6 => k_is)
    (case a7 => k_is)
    (case l7 => k_is)
    (case c7 => k_is)
    (case k7 => k_is)
    (case a8 => k_is)
    (case l8 => k_is)
    (case c8 => k_is)
    (case k8 => k_is)
    (case a9 => k_is)
    (case l9 => k_is)
    (case c9 => k_is)
    (case k9 => k_is)
    (case a10 => k_is)
    (case l10 => k_is)
    (case c10 => k_is)
    (case k10 => k_is)
    (case a11 => k_is)
    (case l11 => k_is)
    (case c11 => k_is)
    (case k11 => k_is)
    (case a12 => k_is)
    (case l12 => k_is)
    (case c12 => k_is)
    (case k12 => k_is)
    (case a13 => k_is)
    (case l13 => k_is)
    (case c13 => k_is)
    (case k13 => k_is)
    (case a14 => k_is)
    (case l14 => k_is)
    (case c14 => k_is)
    (case k14 => k_is)
    (case a15 => k_is)
    (case l15 => k_is)
    (case c15 => k_is)
    (case k15 => k_is)
    (case v_MOST_BRACKETS => k_is)
    (case z_ValueError => k_is)
    (case z_bool => k_is)
    (case z_enumerate => k_is)
    (case z_int => k_is)
    (case z_isinstance => k_is)
    (case z_len => k_is)
    (case z_range => k_is)
    (case z_str => k_is)
