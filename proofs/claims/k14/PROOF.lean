import PyProof.Rows.All
import Wide.All
import OpenK.AllK
import Wide.FinOn
import Lean
import PyProof.EqAt
import PyProof.EqKinds
import PyProof.TupleCall
import PyProof.DictWalks
import KE.KEqDict
import KE.KIntText
import PyProof.CallStr
import PySem.Challenge.RW_oneofall_k14_programs_written
set_option Elab.async false
set_option linter.all false
set_option maxRecDepth 100000
-- CHANGE: your row's module here, as the last of these rows
/-! THE HAND LAYER, for ints, bools, texts, own classes, LISTS and tuples (index, slices, in, append, pop ..), calls, loops. Paste it whole ahead of your own text; what your proof does not reach may be deleted. -/
namespace L2
open PySem PySem.Spec PyProof.Rows
/-- a key: an int or a str -/
abbrev Key := Sum Int Str
def keyIs : Key → Value → Bool
  | .inl k, v => Value.isInt k v
  | .inr x, v => Value.isStrOf x v
def keyH (w : World) : Key → Int
  | .inl k => hashInt k
  | .inr x => hashStr w x
theorem keyIs_shape : ∀ {k : Key} {v : Value}, keyIs k v = true → (∃ i t, k = Sum.inl i ∧ v = Value.int i t) ∨ (∃ x t, k = Sum.inr x ∧ v = Value.str x t)
  | .inl i, v, h => by
    obtain ⟨t, e⟩ := Value.isInt_shape (k := i) (v := v) h
    exact .inl ⟨i, t, rfl, e⟩
  | .inr x, v, h => by
    obtain ⟨t, e⟩ := Value.isStrOf_shape (x := x) (v := v) h
    exact .inr ⟨x, t, rfl, e⟩
theorem keyIs_int (i : Int) (t : Tok) : keyIs (.inl i) (.int i t) = true := by simp [keyIs, Value.isInt]
theorem keyIs_str (x : Str) (t : Tok) : keyIs (.inr x) (.str x t) = true := by simp [keyIs, Value.isStrOf]
theorem key_ll (a b : Int) : decide ((Sum.inl a : Key) = Sum.inl b) = (a == b) := by
  by_cases e : a = b
  · subst e; simp
  · have h : ¬ (Sum.inl a : Key) = Sum.inl b := fun q => e (Sum.inl.inj q)
    rw [decide_eq_false h]
    exact (beq_eq_false_iff_ne.mpr e).symm
theorem key_rr (a b : Str) : decide ((Sum.inr a : Key) = Sum.inr b) = decide (a = b) := by
  by_cases e : a = b
  · subst e; simp
  · have h : ¬ (Sum.inr a : Key) = Sum.inr b := fun q => e (Sum.inr.inj q)
    rw [decide_eq_false h, decide_eq_false e]
theorem key_lr (a : Int) (b : Str) : decide ((Sum.inl a : Key) = Sum.inr b) = false := decide_eq_false (fun q => nomatch q)
theorem key_rl (a : Str) (b : Int) : decide ((Sum.inr a : Key) = Sum.inl b) = false := decide_eq_false (fun q => nomatch q)
def mixKind (prog : Program) (w : World) : PySem.KeyKind prog w Key where
  is := keyIs
  hash := keyH w
  inj := fun v a b ha hb => by
    rcases keyIs_shape ha with ⟨i, t, rfl, rfl⟩ | ⟨x, t, rfl, rfl⟩
    · rcases keyIs_shape hb with ⟨j, u, rfl, e⟩ | ⟨y, u, rfl, e⟩
      · injection e with e1 _; rw [e1]
      · exact nomatch e
    · rcases keyIs_shape hb with ⟨j, u, rfl, e⟩ | ⟨y, u, rfl, e⟩
      · exact nomatch e
      · injection e with e1 _; rw [e1]
  byValue := fun k v h => by
    rcases keyIs_shape h with ⟨i, t, rfl, rfl⟩ | ⟨x, t, rfl, rfl⟩ <;> rfl
  pyHash := fun hv h => by
    rcases keyIs_shape hv with ⟨i, t, rfl, rfl⟩ | ⟨x, t, rfl, rfl⟩
    · exact wpAny_pyHash_int h
    · exact wpAny_pyHash_str h
  eqBool := fun hu hv h => by
    rcases keyIs_shape hu with ⟨i, t, rfl, rfl⟩ | ⟨x, t, rfl, rfl⟩
    · rcases keyIs_shape hv with ⟨j, u, rfl, rfl⟩ | ⟨y, u, rfl, rfl⟩
      · rw [key_ll] at h; exact wpAny_eqBool_int h
      · rw [key_lr] at h; exact SeqAt.EqAt.int_str i t y u _ _ _ _ h
    · rcases keyIs_shape hv with ⟨j, u, rfl, rfl⟩ | ⟨y, u, rfl, rfl⟩
      · rw [key_rl] at h; exact SeqAt.EqAt.str_int x t j u _ _ _ _ h
      · rw [key_rr] at h; exact wpAny_eqBool_str h
  «strs» := fun k x t v h => by
    rcases keyIs_shape h with ⟨i, u, rfl, e⟩ | ⟨y, u, rfl, e⟩
    · exact nomatch e
    · injection e with e1 _
      subst e1
      cases v <;> rfl
theorem mixKind_int (prog : Program) (w : World) (i : Int) (t : Tok) : (mixKind prog w).is (.inl i) (.int i t) = true := keyIs_int i t
theorem mixKind_str (prog : Program) (w : World) (x : Str) (t : Tok) : (mixKind prog w).is (.inr x) (.str x t) = true := keyIs_str x t
end L2
namespace L2
open PySem PySem.Spec PyProof.Rows
/-- a value, without the heap -/
inductive V where
  | non | bl (b : Bool) | int (i : Int) | str (x : Str) | byt (b : Array UInt8) | flt (b : UInt64) | ref (a : Addr) | ty (n : String)
  deriving DecidableEq
def RelV : V → Value → Prop
  | .non, u => u = Value.none
  | .bl b, u => u = Value.bool b
  | .int i, u => ∃ t, u = Value.int i t
  | .str x, u => ∃ t, u = Value.str x t
  | .byt b, u => ∃ t, u = Value.bytes b t
  | .flt b, u => ∃ t, u = Value.float b t
  | .ref a, u => u = Value.ref a
  | .ty n, u => u = Value.type n
abbrev Vals : List V → List Value → Prop := Paired RelV
theorem Vals.length {xs : List V} {us : List Value} (r : Vals xs us) : xs.length = us.length := Paired.length r
theorem Vals.get : ∀ {xs : List V} {us : List Value} {i : Nat} {x : V}, Vals xs us → xs[i]? = some x → ∃ u, us[i]? = some u ∧ RelV x u
  | _, _, _, _, .nil, e => by simp at e
  | _, _, 0, _, .cons r _, e => by simp at e; subst e; exact ⟨_, rfl, r⟩
  | _, _, i + 1, x, .cons _ t, e => by
    obtain ⟨u, h1, h2⟩ := Vals.get (i := i) (x := x) t (by simpa using e)
    exact ⟨u, by simpa using h1, h2⟩
theorem Vals.append : ∀ {xs ys : List V} {us ws : List Value}, Vals xs us → Vals ys ws → Vals (xs ++ ys) (us ++ ws)
  | _, _, _, _, .nil, s => s
  | _, _, _, _, .cons r t, s => .cons r (Vals.append t s)
theorem Vals.take : ∀ {xs : List V} {us : List Value} (n : Nat), Vals xs us → Vals (xs.take n) (us.take n)
  | _, _, 0, _ => .nil
  | _, _, _ + 1, .nil => .nil
  | _, _, n + 1, .cons r t => .cons r (Vals.take n t)
theorem Vals.drop : ∀ {xs : List V} {us : List Value} (n : Nat), Vals xs us → Vals (xs.drop n) (us.drop n)
  | _, _, 0, r => r
  | _, _, _ + 1, .nil => .nil
  | _, _, n + 1, .cons _ t => Vals.drop n t
def RelO : Option V → Option Value → Prop
  | some v, some u => RelV v u
  | none, none => True
  | _, _ => False
def KV {κ : Type} : List (κ × V) → List (κ × Value) → Prop := Paired fun (p : κ × V) (q : κ × Value) => p.1 = q.1 ∧ RelV p.2 q.2
/-- a key of a dict (00_mix): an int or a text -/
def kV : Key → V
  | .inl i => .int i
  | .inr x => .str x
/-- what stands at a tracked address -/
inductive HO where
  /-- a list -/
  | lst (xs : List V)
  /-- a tuple (never changes) -/
  | tup (xs : List V)
  /-- a dict whose keys are ints and texts; one whose keys are tuples of ints and texts (the empty one is both) -/
  | dK (kvs : List (Key × V)) | dT (kvs : List (List Key × V))
  /-- a set of ints: its members, its size -/
  | set (S : Int → Bool) (n : Nat)
  /-- an instance of the class at C, its dict at dx, its attributes -/
  | ins (C dx : Addr) (fs : List (Str × V))
  /-- the dict of the instance at x -/
  | own (x : Addr)
  /-- the dict of an exception -/
  | xd (fs : List (Str × V))
  /-- a bound method, f of x -/
  | met (f x : Addr)
  /-- a range object lo, lo + 1, .. below hi -/
  | rng (lo hi : Int)
  /-- a thing that is known to the object (the script; a dict while a loop walks it): read, never written while it is so -/
  | frz (o : Obj) (u : HO)
  /-- a code object's table -/
  | tbl (ps : Array Value)
  /-- any other thing, by what is true of its one object (a def of one's own: SetO a S n := HO.ext fun h => ..) -/
  | ext (φ : Heap → Prop)
abbrev Hp := Addr → Option HO
def upd (H : Hp) (a : Addr) (o : HO) : Hp := fun b => if b = a then some o else H b
theorem upd_same {H : Hp} {a : Addr} {o : HO} : upd H a o a = some o := by unfold upd; rw [if_pos rfl]
theorem upd_ne {H : Hp} {a b : Addr} {o : HO} (h : b ≠ a) : upd H a o b = H b := by unfold upd; rw [if_neg h]
theorem ne_of_none {H : Hp} {a b : Addr} {o : HO} (h : H a = some o) (h' : H b = none) : a ≠ b := by
  intro e; subst e; rw [h] at h'; cases h'
section
variable (P : Program) (w : World)
def ObjOk (H : Hp) (h : Heap) (a : Addr) : HO → Prop
  | .lst xs => xs.length ≤ sizeLine ∧ ∃ (its : List Value) (n : Nat), Vals xs its ∧ h.get? a = some { cls := .type "list", data := .seq its.toArray n }
  | .tup xs => xs.length ≤ sizeLine ∧ ∃ its : List Value, Vals xs its ∧ IsTup h a its.toArray
  | .dK kvs => kvs.length ≤ sizeLine ∧ (a == sysModules) = false ∧ ∃ vs, KV kvs vs ∧ h.DictOf (mixKind P w) a vs
  | .dT kvs => kvs.length ≤ sizeLine ∧ (a == sysModules) = false ∧ ∃ xs : List (List Key × Addr × Value),
      Paired (fun (p : List Key × V) (q : List Key × Addr × Value) => p.1 = q.1 ∧ H q.2.1 = some (.tup (p.1.map kV)) ∧ RelV p.2 q.2.2) kvs xs ∧
      ∃ o es ep, h.get? a = some o ∧ o.ExactDict ∧ o.data = .dict es ep ∧ es.toList = xs.map (entryOfKey (tupleKind (mixKind P w))) ∧ (xs.map (·.1)).Nodup
  | .set S n => h.SetOf (intKind P w) a S n
  | .ins C dx fs => H dx = some (.own a) ∧ fs.length ≤ 1000 ∧ dx ≠ a ∧ h.get? a = some (PySem.W.instObj C dx) ∧
      ∃ mA, h.Ns1 dx mA ∧ (∀ f, RelO (fs.lookup f) (mA f)) ∧ PySem.Within mA (fs.map (·.1))
  | .own _ => ∃ o, h.get? a = some o
  | .xd fs => ∃ mA, h.Ns1 a mA ∧ ∀ f, RelO (fs.lookup f) (mA f)
  | .rng lo hi => ∃ t u v, h.get? a = some { cls := .type "range", data := .fields #[.int lo t, .int hi u, .int 1 v] }
  | .frz o u => h.get? a = some o ∧ ObjOk H h a u
  | .tbl ps => h.get? a = some { cls := .none, data := .fields ps }
  | .met f x => h.get? a = some (PySem.W.methodObj (.ref f) (.ref x))
  | .ext φ => φ h ∧ (∃ o, h.get? a = some o) ∧ ∀ h1 h2 : Heap, φ h1 → (∀ o, h1.get? a = some o → h2.get? a = some o) → φ h2
/-- the abstract heap is held -/
def HOk (H : Hp) (h : Heap) : Prop := ∀ a o, H a = some o → ObjOk P w H h a o
end
section
variable {P : Program} {w : World} {H H' : Hp} {h h' : Heap} {a : Addr} {o : HO}
theorem ObjOk.lt (x : ObjOk P w H h a o) : a < h.objs.size := by
  cases o with
  | lst xs => obtain ⟨_, _, _, _, e⟩ := x; exact Heap.lt_size e
  | tup xs => obtain ⟨_, _, _, p⟩ := x; exact p.lt
  | dK kvs => obtain ⟨_, _, _, _, o, _, _, e, _⟩ := x; exact Heap.lt_size e
  | dT kvs => obtain ⟨_, _, _, _, o, _, _, e, _⟩ := x; exact Heap.lt_size e
  | set S n => obtain ⟨o, _, _, _, e, _⟩ := x; exact Heap.lt_size e
  | ins C dx fs => obtain ⟨_, _, _, e, _⟩ := x; exact Heap.lt_size e
  | own y => obtain ⟨_, e⟩ := x; exact Heap.lt_size e
  | xd fs => obtain ⟨_, ⟨_, _, _, e, _⟩, _⟩ := x; exact Heap.lt_size e
  | rng lo hi => obtain ⟨_, _, _, e⟩ := x; exact Heap.lt_size e
  | frz ob u => obtain ⟨e, _⟩ := x; exact Heap.lt_size e
  | tbl ps => exact Heap.lt_size (show h.get? a = some _ from x)
  | met f y => exact Heap.lt_size (show h.get? a = some _ from x)
  | ext φ => obtain ⟨_, ⟨_, e⟩, _⟩ := x; exact Heap.lt_size e
theorem Paired.mapP {α β : Type} {F G : α → β → Prop} : ∀ {l₁ : List α} {l₂ : List β}, Paired F l₁ l₂ → (∀ a b, F a b → G a b) → Paired G l₁ l₂
  | _, _, .nil, _ => .nil
  | _, _, .cons r t, f => .cons (f _ _ r) (Paired.mapP t f)
/-- what an object's description leans on: its own object, its own dict, the tuples -/
theorem ObjOk.stay (x : ObjOk P w H h a o) (k : ∀ b u, (b = a ∨ H b = some (.own a)) → h.get? b = some u → h'.get? b = some u)
    (ho : ∀ b, H b = some (.own a) → H' b = some (.own a)) (ht : ∀ b xs, H b = some (.tup xs) → H' b = some (.tup xs)) : ObjOk P w H' h' a o := by
  induction o with
  | lst xs => obtain ⟨z, its, n, r, e⟩ := x; exact ⟨z, its, n, r, k _ _ (.inl rfl) e⟩
  | tup xs => obtain ⟨z, its, r, ob, e, c⟩ := x; exact ⟨z, its, r, ob, k _ _ (.inl rfl) e, c⟩
  | dK kvs => obtain ⟨z, y, vs, r, ob, es, ep, e, c⟩ := x; exact ⟨z, y, vs, r, ob, es, ep, k _ _ (.inl rfl) e, c⟩
  | dT kvs =>
    obtain ⟨z, y, xs, r, ob, es, ep, e, c⟩ := x
    exact ⟨z, y, xs, Paired.mapP r fun p q z => ⟨z.1, ht _ _ z.2.1, z.2.2⟩, ob, es, ep, k _ _ (.inl rfl) e, c⟩
  | set S n => obtain ⟨ob, es, ep, t, e, c⟩ := x; exact ⟨ob, es, ep, t, k _ _ (.inl rfl) e, c⟩
  | ins C dx fs =>
    obtain ⟨d, z, ne, e, mA, ⟨od, es, ep, e2, c⟩, r⟩ := x
    exact ⟨ho _ d, z, ne, k _ _ (.inl rfl) e, mA, ⟨od, es, ep, k _ _ (.inr d) e2, c⟩, r⟩
  | own y => obtain ⟨ob, e⟩ := x; exact ⟨ob, k _ _ (.inl rfl) e⟩
  | xd fs => obtain ⟨mA, ⟨od, es, ep, e, c⟩, r⟩ := x; exact ⟨mA, ⟨od, es, ep, k _ _ (.inl rfl) e, c⟩, r⟩
  | rng lo hi => obtain ⟨t, u, v, e⟩ := x; exact ⟨t, u, v, k _ _ (.inl rfl) e⟩
  | frz ob u ih => obtain ⟨e, q⟩ := x; exact ⟨k _ _ (.inl rfl) e, ih q⟩
  | tbl ps =>
    have e : h.get? a = some { cls := .none, data := .fields ps } := x
    show h'.get? a = some { cls := .none, data := .fields ps }
    exact k a _ (.inl rfl) e
  | met f y =>
    have e : h.get? a = some (PySem.W.methodObj (.ref f) (.ref y)) := x
    show h'.get? a = some (PySem.W.methodObj (.ref f) (.ref y))
    exact k a _ (.inl rfl) e
  | ext φ => obtain ⟨p, ⟨o, e⟩, st⟩ := x; exact ⟨st _ _ p fun o q => k _ _ (.inl rfl) q, ⟨o, k _ _ (.inl rfl) e⟩, st⟩
theorem HOk.lt (x : HOk P w H h) (e : H a = some o) : a < h.objs.size := (x a o e).lt
theorem HOk.fresh (x : HOk P w H h) (e : h.objs.size ≤ a) : H a = none := by
  cases q : H a with
  | none => rfl
  | some u => exact absurd (Nat.lt_of_lt_of_le (x.lt q) e) (Nat.lt_irrefl _)
/-- every object of the heap is kept -/
theorem HOk.kept (x : HOk P w H h) (k : ∀ b u, h.get? b = some u → h'.get? b = some u) : HOk P w H h' := fun a o e =>
  (x a o e).stay (fun b u _ q => k b u q) (fun _ q => q) fun _ _ q => q
/-- a new object is laid and tracked -/
theorem HOk.laid (x : HOk P w H h) (k : ∀ b u, h.get? b = some u → h'.get? b = some u) (hp : h.objs.size ≤ a) (new : ObjOk P w (upd H a o) h' a o) : HOk P w (upd H a o) h' := fun b u e => by
  have hn := x.fresh hp
  by_cases hb : b = a
  · subst hb; rw [upd_same] at e; cases e; exact new
  · rw [upd_ne hb] at e
    exact (x b u e).stay (fun c v _ q => k c v q) (fun c q => by rw [upd_ne (ne_of_none q hn)]; exact q) fun c xs q => by rw [upd_ne (ne_of_none q hn)]; exact q
end
/-- what may be read as u: it is u, or a known u -/
def Rd (H : Hp) (a : Addr) (u : HO) : Prop := H a = some u ∨ ∃ o, H a = some (.frz o u)
theorem Rd.ok {P : Program} {w : World} {H : Hp} {h : Heap} {a : Addr} {u : HO} (r : Rd H a u) (x : HOk P w H h) : ObjOk P w H h a u := by
  rcases r with r | ⟨o, r⟩
  · exact x a u r
  · obtain ⟨_, q⟩ := x a _ r
    exact q
/-- what may be written -/
def Mut : Option HO → Prop
  | some (.lst _) => True
  | some (.dK _) => True
  | some (.dT _) => True
  | some (.set _ _) => True
  | some (.ins _ _ _) => True
  | some (.ext _) => True
  | _ => False
section
variable {P : Program} {w : World} {H : Hp} {h h' : Heap} {x e : Addr} {o' : HO}
/-- the object at e is changed: x itself, or the dict of the instance x -/
theorem HOk.write (ok : HOk P w H h) (mu : Mut (H x)) (he : e = x ∨ H e = some (.own x)) (k : ∀ b u, b ≠ e → h.get? b = some u → h'.get? b = some u) (heo : ∃ u, h'.get? e = some u)
    (new : ObjOk P w (upd H x o') h' x o') : HOk P w (upd H x o') h' := fun b u q => by
  have nown : ∀ c y, H c = some (.own y) → c ≠ x := fun c y r z => by subst z; rw [r] at mu; exact mu
  have ntup : ∀ c xs, H c = some (.tup xs) → c ≠ x := fun c xs r z => by subst z; rw [r] at mu; exact mu
  by_cases hb : b = x
  · subst hb; rw [upd_same] at q; cases q; exact new
  · rw [upd_ne hb] at q
    by_cases hbe : b = e
    · have q' : H b = some (.own x) := by
        rcases he with z | z
        · exact absurd (hbe.trans z) hb
        · rw [hbe]; exact z
      rw [q] at q'; cases q'
      obtain ⟨v, hv⟩ := heo
      exact ⟨v, by rw [hbe]; exact hv⟩
    · refine (ok b u q).stay (fun c v hc r => k c v ?_ r) (fun c r => by rw [upd_ne (nown c b r)]; exact r) fun c xs r => by rw [upd_ne (ntup c xs r)]; exact r
      rcases hc with rfl | hc
      · exact hbe
      · rintro rfl
        rcases he with z | z
        · exact nown c b hc z
        · rw [hc] at z; cases z; exact hb rfl
end
/-! ### kept unless tracked; of the frames at fs (the callers') the slots may change (an exception that passes writes there); of the records at ex (iterators) nothing is said -/
structure Un (fs ex : List Addr) (H H' : Hp) (h h' : Heap) : Prop where
  keep : ∀ b o, h.get? b = some o → H b = none → b ∉ fs → b ∉ ex → h'.get? b = some o
  slot : ∀ b o, h.get? b = some o → H b = none → b ∈ fs → b ∉ ex → ∃ sl, h'.get? b = some { o with slots := sl }
  free : ∀ b o, h.get? b = some o → H b = none → b ∉ ex → H' b = none
  there : ∀ b o, h.get? b = some o → b ∉ ex → ∃ o', h'.get? b = some o'
  tups : ∀ b xs, H b = some (.tup xs) → H' b = some (.tup xs)
  frzs : ∀ b o u, H b = some (.frz o u) → H' b = some (.frz o u)
  tbls : ∀ b ps, H b = some (.tbl ps) → ∃ more, H' b = some (.tbl (ps ++ more))
section
variable {fs fs' ex ex' : List Addr} {H H1 H2 : Hp} {h h1 h2 h' : Heap} {a x e : Addr} {o : HO}
theorem Un.any (u : Un fs ex H H1 h h1) {b : Addr} {ob : Obj} (q : h.get? b = some ob) (n : H b = none) (hx : b ∉ ex) : ∃ sl, h1.get? b = some { ob with slots := sl } := by
  by_cases hb : b ∈ fs
  · exact u.slot b ob q n hb hx
  · exact ⟨ob.slots, u.keep b ob q n hb hx⟩
theorem Un.kept (k : ∀ b u, h.get? b = some u → h'.get? b = some u) : Un fs ex H H h h' :=
  ⟨fun b ob q _ _ _ => k b ob q, fun b ob q _ _ _ => ⟨ob.slots, k b ob q⟩, fun _ _ _ n _ => n, fun b ob q _ => ⟨ob, k b ob q⟩, fun _ _ q => q, fun _ _ _ q => q, fun _ ps q => ⟨#[], by rw [q]; simp⟩⟩
theorem Un.refl : Un fs ex H H h h := Un.kept fun _ _ q => q
theorem Un.laid (k : ∀ b u, h.get? b = some u → h'.get? b = some u) (hp : h.objs.size ≤ a) (hn : H a = none) : Un fs ex H (upd H a o) h h' where
  keep := fun b u q _ _ _ => k b u q
  slot := fun b u q _ _ _ => ⟨u.slots, k b u q⟩
  free := fun b u q n _ => by rw [upd_ne (Nat.ne_of_lt (Nat.lt_of_lt_of_le (Heap.lt_size q) hp))]; exact n
  there := fun b u q _ => ⟨u, k b u q⟩
  tups := fun b xs q => by rw [upd_ne (ne_of_none q hn)]; exact q
  frzs := fun b u xs q => by rw [upd_ne (ne_of_none q hn)]; exact q
  tbls := fun b ps q => ⟨#[], by rw [upd_ne (ne_of_none q hn), q]; simp⟩
theorem Un.write (mu : Mut (H x)) (he : e = x ∨ H e = some (.own x)) (k : ∀ b u, b ≠ e → h.get? b = some u → h'.get? b = some u) (heo : ∃ u, h'.get? e = some u) : Un fs ex H (upd H x o) h h' := by
  have hx : ∀ b, H b = none → b ≠ x := fun b n z => by subst z; rw [n] at mu; exact mu
  have hb : ∀ b, H b = none → b ≠ e := fun b n z => by
    subst z
    rcases he with r | r
    · exact hx b n r
    · rw [n] at r; cases r
  have hm : ∀ b u, H b = some u → ¬ Mut (some u) → b ≠ x := fun b u q nm z => by subst z; rw [q] at mu; exact nm mu
  refine ⟨fun b u q n _ _ => k b u (hb b n) q, fun b u q n _ _ => ⟨u.slots, k b u (hb b n) q⟩, fun b u q n _ => by rw [upd_ne (hx b n)]; exact n, fun b u q _ => ?_,
    fun b xs q => by rw [upd_ne (hm b _ q fun z => z)]; exact q, fun b u xs q => by rw [upd_ne (hm b _ q fun z => z)]; exact q, fun b ps q => ⟨#[], by rw [upd_ne (hm b _ q fun z => z), q]; simp⟩⟩
  by_cases hbe : b = e
  · subst hbe; exact heo
  · exact ⟨u, k b u hbe q⟩
end
/-! ### the heap without what is tracked -/
def trk (h : Heap) (H : Hp) : List Addr := (List.range h.objs.size).filter fun a => (H a).isSome
def hidT (h : Heap) (H : Hp) : Heap := PySem.W.hideAll h (trk h H)
theorem hidT_size (h : Heap) (H : Hp) : (hidT h H).objs.size = h.objs.size := PySem.W.hideAll_size _ _
theorem hidT_get {h : Heap} {H : Hp} {b : Addr} {o : Obj} (e : h.get? b = some o) (n : H b = none) : (hidT h H).get? b = some o :=
  PySem.W.hideAll_get _ e fun hm => by
    have q : (H b).isSome = true := (List.mem_filter.mp hm).2
    rw [n] at q; simp at q
theorem of_hidT {h : Heap} {H : Hp} {b : Addr} {o : Obj} (e : (hidT h H).get? b = some o) : h.get? b = some o ∧ H b = none := by
  have e' : h.get? b = some o := PySem.W.of_hideAll (trk h H) e
  refine ⟨e', ?_⟩
  cases q : H b with
  | none => rfl
  | some x =>
    have hm : b ∈ trk h H := List.mem_filter.mpr ⟨List.mem_range.mpr (Heap.lt_size e'), by simp [q]⟩
    have z : (hidT h H).get? b = none := PySem.W.hideAll_none (trk h H) hm
    rw [z] at e; cases e
/-! ### OpenK's ledger, filled with every new object but one -/
def allNews (g h : Heap) (L : Addr) : List (Addr × Obj) := (List.range h.objs.size).filterMap fun a => if a = L ∨ (g.get? a).isSome = true then none else (h.get? a).map fun o => (a, o)
def rest (g h : Heap) (L d : Addr) : List (Addr × Obj) := (allNews g h L).filter fun p => decide (p.1 ≠ d)
end L2
namespace L2
open PySem PySem.Spec PyProof.Rows
/-- the module's facts, over the base: the heap at the law's entry without what is tracked there -/
structure Mod (K : PySem.W.Frag) (mg : Str → Option Value) (base : Heap) : Prop where
  kin : K.In base
  glob : base.Ns mainGlobals mg
  blt : ∃ mb, base.Ns builtinsNs mb ∧ ∀ x : Str, x ≠ "__name__" → mb x = bootBuiltins x
  nolimit : base.NoLimit
/-- the context: a def's body (or a comprehension's block) running. base: fixed through the whole law; s₀, H₀: the entry; outer: the frames whose slots others may change (a def's callers); stack: all frames that run;
   ex: iterators that were made ahead of the entry and are walked here (a comprehension's); fn: the names whose cells were made at the entry (a def: all; a comprehension's block: its own); calm: not within an except suite; pn: pins that every state bears; xe: what is wanted of an exception that leaves the code -/
structure Cx where
  prog : Program
  w : World
  K : PySem.W.Frag
  mg : Str → Option Value
  base : Heap
  A : Around
  N : List Str
  s₀ : Shared
  H₀ : Hp
  env : Env
  outer : List Env
  stack : List Env
  ex : List Addr
  fn : Str → Bool
  calm : Bool
  pn : List (Addr × Obj)
  xe : Value → Shared → Prop
/-- the callers' frames -/
def frs (l : List Env) : List Addr := l.filterMap (·.frame)
abbrev Cx.fs (X : Cx) : List Addr := frs X.outer
def Vis (sc : Scope) (x : Str) : Prop := sc.names.lookup x = some .local ∨ sc.names.lookup x = some .cell ∨ sc.names.lookup x = some .free
def Loc (sc : Scope) (x : Str) : Prop := sc.names.lookup x = some .local ∨ sc.names.lookup x = some .cell
def Look (env : Env) (h : Heap) (m : Str → Option Value) (x : Str) (u : Value) : Prop :=
  (env.kindOf x = some .local ∧ m x = some u) ∨ ((env.kindOf x = some .cell ∨ env.kindOf x = some .free) ∧ ∃ c, env.cells.lookup x = some c ∧ h.IsCell c (some u))
structure Cx.Ok (X : Cx) : Prop where
  mod : Mod X.K X.mg X.base
  kind : X.env.scope.kind = .function
  glob : X.env.globals = mainGlobals
  blt : X.env.builtins = builtinsNs
  above : X.s₀.heap.objs.size ≤ X.env.locals
  inj : ∀ x y c, X.env.cells.lookup x = some c → X.env.cells.lookup y = some c → x = y
  has : ∀ x, (X.env.kindOf x = some .cell ∨ X.env.kindOf x = some .free) → ∃ c, X.env.cells.lookup x = some c
  cab : ∀ x c, X.fn x = true → X.env.cells.lookup x = some c → X.s₀.heap.objs.size ≤ c
  hd : X.calm = true → X.A.handled = none
  frames : X.A.frames = some X.stack
  stk : X.stack = X.outer ∨ (X.stack = X.env :: X.outer ∧ X.env.frame = some X.env.locals)
  exf : ∀ b ∈ X.ex, b ≠ X.env.locals ∧ ∀ x c, X.env.cells.lookup x = some c → c ≠ b
  bs : ∀ b o, X.base.get? b = some o → X.s₀.heap.get? b = some o ∧ X.H₀ b = none
  bsz : X.base.objs.size ≤ X.s₀.heap.objs.size
  noex : ∀ b o, X.base.get? b = some o → b ∉ X.ex
  exfs : ∀ b ∈ X.ex, b ∉ X.fs
  funs : X.s₀.heap.FunFrames X.base X.outer
  frf : ∀ b ∈ X.fs, X.H₀ b = none
structure Inv (X : Cx) (pins : List (Addr × Obj)) (σ : List (Option V)) (H : Hp) (s : Shared) : Prop where
  ok : X.Ok
  os : s.os = X.s₀.os
  bare : AllBare s.gens
  base : Un X.fs X.ex X.H₀ H X.s₀.heap s.heap
  loc : ∃ m, s.heap.Ns X.env.locals m ∧ ∀ (i : Nat) (x : Str) (v : V), X.N[i]? = some x → σ[i]? = some (some v) → Vis X.env.scope x → ∃ u, RelV v u ∧ Look X.env s.heap m x u
  cell : ∀ x c, X.env.cells.lookup x = some c → ∃ v, s.heap.IsCell c v
  free : H X.env.locals = none
  freeC : ∀ x c, X.env.cells.lookup x = some c → H c = none
  pin : ∀ p ∈ X.pn ++ pins, s.heap.get? p.1 = some p.2 ∧ H p.1 = none ∧ p.1 ≠ X.env.locals ∧ p.1 ∉ X.fs ∧ ∀ v, p.2.data ≠ .cell v
  hok : HOk X.prog X.w H s.heap
  len : σ.length = X.N.length
section
variable {X : Cx} {pins : List (Addr × Obj)} {σ : List (Option V)} {H H' : Hp} {s : Shared} {h' : Heap}
theorem Cx.Ok.nofr (ok : X.Ok) {b : Addr} {o : Obj} (e : X.base.get? b = some o) : b ∉ X.fs := fun hb => by
  have := (ok.funs.mem hb).1
  rw [e] at this; cases this
theorem Inv.bs (I : Inv X pins σ H s) : ∀ b o, X.base.get? b = some o → s.heap.get? b = some o ∧ H b = none := fun b o e =>
  ⟨I.base.keep b o (I.ok.bs b o e).1 (I.ok.bs b o e).2 (I.ok.nofr e) (I.ok.noex b o e), I.base.free b o (I.ok.bs b o e).1 (I.ok.bs b o e).2 (I.ok.noex b o e)⟩
theorem Inv.bk (I : Inv X pins σ H s) : ∀ b o, X.base.get? b = some o → s.heap.get? b = some o := fun b o e => (I.bs b o e).1
theorem Inv.mod (I : Inv X pins σ H s) : Mod X.K X.mg X.base := I.ok.mod
theorem Inv.kIn (I : Inv X pins σ H s) : X.K.In s.heap := I.ok.mod.kin.keeps I.bk
theorem Inv.lt (I : Inv X pins σ H s) : X.env.locals < s.heap.objs.size := let ⟨_, hn, _⟩ := I.loc; hn.lt
theorem Inv.sz (I : Inv X pins σ H s) : X.s₀.heap.objs.size ≤ s.heap.objs.size := Nat.le_trans I.ok.above (Nat.le_of_lt I.lt)
theorem Inv.nofs (I : Inv X pins σ H s) {a : Addr} (h : s.heap.objs.size ≤ a) : a ∉ X.fs := fun hb => by
  obtain ⟨_, o, ho, _⟩ := I.ok.funs.mem hb
  exact absurd (Nat.lt_of_lt_of_le (Heap.lt_size ho) (Nat.le_trans I.sz h)) (Nat.lt_irrefl _)
theorem Inv.cne (I : Inv X pins σ H s) : ∀ x c, X.env.cells.lookup x = some c → c ≠ X.env.locals := fun x c e z => by
  obtain ⟨v, o, ho, hd⟩ := I.cell x c e
  obtain ⟨m, ⟨o', es, ep, ho', hd', _⟩, _⟩ := I.loc
  rw [z, ho'] at ho; cases ho; rw [hd'] at hd; cases hd
theorem Inv.funs (I : Inv X pins σ H s) : s.heap.FunFrames X.base X.outer := by
  have all : ∀ (l : List Env), (∀ b ∈ frs l, b ∈ X.fs) → X.s₀.heap.FunFrames X.base l → s.heap.FunFrames X.base l := by
    intro l
    induction l with
    | nil => intro _ _; trivial
    | cons env r ih =>
      intro hs hl
      obtain ⟨hk, ⟨L, o, hf, hn, ho, hd⟩, hr⟩ := hl
      have hL : L ∈ X.fs := hs L (by unfold frs; rw [List.filterMap_cons, hf]; exact List.mem_cons_self)
      obtain ⟨sl, e⟩ := I.base.slot L o ho (I.ok.frf L hL) hL fun z => I.ok.exfs L z hL
      exact ⟨hk, ⟨L, _, hf, hn, e, hd⟩, ih (fun b hb => hs b (by unfold frs; rw [List.filterMap_cons, hf]; exact List.mem_cons_of_mem _ hb)) hr⟩
  exact all X.outer (fun _ hb => hb) I.ok.funs
/-- the frames that run, for a call -/
theorem Inv.stack (I : Inv X pins σ H s) : s.heap.FunFrames X.base X.stack := by
  rcases I.ok.stk with e | ⟨e, hf⟩
  · rw [e]; exact I.funs
  · rw [e]
    obtain ⟨m, hn, _⟩ := I.loc
    refine .cons (by rw [I.ok.kind]; decide) hf hn ?_ I.funs
    exact Heap.get?_none_of_le (Nat.le_trans I.ok.bsz I.ok.above)
theorem Inv.stkSub (I : Inv X pins σ H s) : ∀ b ∈ frs X.stack, b ∈ X.env.locals :: X.fs := fun b hb => by
  rcases I.ok.stk with e | ⟨e, hf⟩
  · rw [e] at hb; exact List.mem_cons_of_mem _ hb
  · rw [e] at hb
    unfold frs at hb
    rw [List.filterMap_cons, hf] at hb
    exact hb
theorem Inv.stkFree (I : Inv X pins σ H s) : ∀ b ∈ frs X.stack, H b = none := fun b hb => by
  rcases List.mem_cons.mp (I.stkSub b hb) with e | hb
  · rw [e]; exact I.free
  · obtain ⟨_, o, ho, _⟩ := I.ok.funs.mem hb
    exact I.base.free b o ho (I.ok.frf b hb) fun z => I.ok.exfs b z hb
/-- THE STEP: the untracked objects but the frame and the records at ch are kept (the callers' frames up to slots), the frame's map is kept, the new abstract heap is held -/
theorem Inv.step {g' : Array GenState} {t' : Nat} {d' : Drawn} {ch : List Addr} (I : Inv X pins σ H s)
    (hch : ∀ b ∈ ch, (b ∈ X.ex ∨ X.s₀.heap.objs.size ≤ b) ∧ b ≠ X.env.locals ∧ (∀ x c, X.env.cells.lookup x = some c → c ≠ b) ∧ ∀ p ∈ X.pn ++ pins, p.1 ≠ b)
    (keep : ∀ b o, b ≠ X.env.locals → b ∉ X.fs → b ∉ ch → s.heap.get? b = some o → H b = none → h'.get? b = some o)
    (slot : ∀ b o, b ≠ X.env.locals → b ∈ X.fs → b ∉ ch → s.heap.get? b = some o → H b = none → ∃ sl, h'.get? b = some { o with slots := sl }) (free : ∀ b o, b ∉ ch → s.heap.get? b = some o → H b = none → H' b = none)
    (there : ∀ b o, b ∉ ch → s.heap.get? b = some o → ∃ o', h'.get? b = some o')
    (tups : ∀ b xs, H b = some (.tup xs) → H' b = some (.tup xs)) (frzs : ∀ b o u, H b = some (.frz o u) → H' b = some (.frz o u)) (tbls : ∀ b ps, H b = some (.tbl ps) → ∃ more, H' b = some (.tbl (ps ++ more)))
    (ns : ∀ m, s.heap.Ns X.env.locals m → h'.Ns X.env.locals m) (hok : HOk X.prog X.w H' h') (hg : AllBare g') :
    Inv X pins σ H' { s with heap := h', gens := g', drawn := d', toks := t' } := by
  have neL : ∀ b o, X.s₀.heap.get? b = some o → b ≠ X.env.locals := fun b o e => Nat.ne_of_lt (Nat.lt_of_lt_of_le (Heap.lt_size e) I.ok.above)
  have neC : ∀ b o, X.s₀.heap.get? b = some o → b ∉ X.ex → b ∉ ch := fun b o e hx hb => by
    rcases (hch b hb).1 with z | z
    · exact hx z
    · exact absurd (Nat.lt_of_lt_of_le (Heap.lt_size e) z) (Nat.lt_irrefl _)
  have cellK : ∀ x c, X.env.cells.lookup x = some c → ∀ v, s.heap.IsCell c v → h'.IsCell c v := fun x c e v ⟨o, ho, hd⟩ => by
    have nch : c ∉ ch := fun z => (hch c z).2.2.1 x c e rfl
    by_cases hc : c ∈ X.fs
    · obtain ⟨sl, q⟩ := slot c o (I.cne x c e) hc nch ho (I.freeC x c e)
      exact ⟨_, q, hd⟩
    · exact ⟨o, keep c o (I.cne x c e) hc nch ho (I.freeC x c e), hd⟩
  refine ⟨I.ok, I.os, hg, ⟨fun b o e n hb hx => ?_, fun b o e n hb hx => ?_, fun b o e n hx => ?_, fun b o e hx => ?_, fun b xs e => tups b xs (I.base.tups b xs e), fun b o xs e => frzs b o xs (I.base.frzs b o xs e), fun b ps e => ?_⟩, ?_, fun x c e => ?_, ?_, fun x c e => ?_, fun p hp => ?_, hok, I.len⟩
  · exact keep b o (neL b o e) hb (neC b o e hx) (I.base.keep b o e n hb hx) (I.base.free b o e n hx)
  · obtain ⟨sl, e1⟩ := I.base.slot b o e n hb hx
    obtain ⟨sl', e2⟩ := slot b _ (neL b o e) hb (neC b o e hx) e1 (I.base.free b o e n hx)
    exact ⟨sl', e2⟩
  · obtain ⟨o', e1⟩ := I.base.there b o e hx
    exact free b o' (neC b o e hx) e1 (I.base.free b o e n hx)
  · obtain ⟨o', e1⟩ := I.base.there b o e hx
    exact there b o' (neC b o e hx) e1
  · obtain ⟨m1, e1⟩ := I.base.tbls b ps e
    obtain ⟨m2, e2⟩ := tbls b _ e1
    exact ⟨m1 ++ m2, by rw [e2, Array.append_assoc]⟩
  · obtain ⟨m, hn, hl⟩ := I.loc
    refine ⟨m, ns m hn, fun i x v e1 e2 e3 => ?_⟩
    obtain ⟨u, r, l⟩ := hl i x v e1 e2 e3
    refine ⟨u, r, ?_⟩
    rcases l with l | ⟨k, c, e, z⟩
    · exact .inl l
    · exact .inr ⟨k, c, e, cellK x c e _ z⟩
  · obtain ⟨v, z⟩ := I.cell x c e
    exact ⟨v, cellK x c e v z⟩
  · obtain ⟨m, ⟨o, _, _, ho, _⟩, _⟩ := I.loc
    exact free _ o (fun z => (hch _ z).2.1 rfl) ho I.free
  · obtain ⟨v, o, ho, hd⟩ := I.cell x c e
    exact free c o (fun z => (hch c z).2.2.1 x c e rfl) ho (I.freeC x c e)
  · obtain ⟨e, n, ne, nf, d⟩ := I.pin p hp
    have nch : p.1 ∉ ch := fun z => (hch p.1 z).2.2.2 p hp rfl
    exact ⟨keep p.1 p.2 ne nf nch e n, free p.1 p.2 nch e n, ne, nf, d⟩
/-- .. where the frame's own object is kept too -/
theorem Inv.un {t' : Nat} (I : Inv X pins σ H s) (u : Un X.fs [] H H' s.heap h') (hok : HOk X.prog X.w H' h') : Inv X pins σ H' { s with heap := h', toks := t' } := by
  obtain ⟨m, ⟨o, es, ep, ho, r⟩, _⟩ := id I.loc
  obtain ⟨sl, hL⟩ := u.any ho I.free (by simp)
  exact I.step (g' := s.gens) (d' := s.drawn) (ch := []) (fun _ z => nomatch z) (fun b o _ hb _ e n => u.keep b o e n hb (by simp)) (fun b o _ hb _ e n => u.slot b o e n hb (by simp)) (fun b o _ e n => u.free b o e n (by simp)) (fun b o _ e => u.there b o e (by simp)) u.tups u.frzs u.tbls (fun m' hm => by
    obtain ⟨o', es', ep', ho', r'⟩ := hm
    rw [ho] at ho'; cases ho'
    exact ⟨_, es', ep', hL, r'⟩) hok I.bare
/-- behind a call (or a comprehension's block): the slots of this frame may have changed too, the records at ch may have turned -/
theorem Inv.call {g' : Array GenState} {t' : Nat} {d' : Drawn} {ch : List Addr} (I : Inv X pins σ H s) (u : Un (frs X.stack) ch H H' s.heap h') (hok : HOk X.prog X.w H' h') (hg : AllBare g')
    (hch : ∀ b ∈ ch, (b ∈ X.ex ∨ X.s₀.heap.objs.size ≤ b) ∧ b ≠ X.env.locals ∧ (∀ x c, X.env.cells.lookup x = some c → c ≠ b) ∧ ∀ p ∈ X.pn ++ pins, p.1 ≠ b) :
    Inv X pins σ H' { s with heap := h', gens := g', drawn := d', toks := t' } := by
  obtain ⟨m, ⟨o, es, ep, ho, r⟩, _⟩ := id I.loc
  obtain ⟨sl, hL⟩ := u.any ho I.free fun z => (hch _ z).2.1 rfl
  exact I.step (ch := ch) hch (fun b o hL hb hc e n => u.keep b o e n (fun z => (List.mem_cons.mp (I.stkSub b z)).elim hL hb) hc) (fun b o _ _ hc e n => u.any e n hc) (fun b o hc e n => u.free b o e n hc) (fun b o hc e => u.there b o e hc) u.tups u.frzs u.tbls (fun m' hm => by
    obtain ⟨o', es', ep', ho', r'⟩ := hm
    rw [ho] at ho'; cases ho'
    exact ⟨_, es', ep', hL, r'⟩) hok hg
/-- an untracked record of ours (an iterator) has turned -/
theorem Inv.turned {t' : Nat} {it : Addr} (I : Inv X pins σ H s) (k : ∀ b o, b ≠ it → s.heap.get? b = some o → h'.get? b = some o) (hn : H it = none) (hL : it ≠ X.env.locals)
    (h1 : it ∈ X.ex ∨ X.s₀.heap.objs.size ≤ it) (h2 : ∀ x c, X.env.cells.lookup x = some c → c ≠ it) (h3 : ∀ p ∈ X.pn ++ pins, p.1 ≠ it) : Inv X pins σ H { s with heap := h', toks := t' } := by
  have nit : ∀ b u, H b = some u → b ≠ it := fun b u e z => by rw [z, hn] at e; cases e
  refine I.step (g' := s.gens) (d' := s.drawn) (ch := [it]) (fun b hb => ?_) (fun b o _ _ hc e _ => k b o (fun z => hc (by simp [z])) e) (fun b o _ _ hc e _ => ⟨o.slots, k b o (fun z => hc (by simp [z])) e⟩) (fun _ _ _ _ n => n)
    (fun b o hc e => ⟨o, k b o (fun z => hc (by simp [z])) e⟩) (fun _ _ e => e) (fun _ _ _ e => e) (fun b ps e => ⟨#[], by rw [e]; simp⟩) (fun m hm => ?_) (fun b u e => ?_) I.bare
  · have e : b = it := by simpa using hb
    subst e
    exact ⟨h1, hL, h2, h3⟩
  · obtain ⟨o, es, ep, ho, r⟩ := hm
    exact ⟨o, es, ep, k _ o (Ne.symm hL) ho, r⟩
  · refine (I.hok b u e).stay (fun c v hc q => k c v ?_ q) (fun _ q => q) fun _ _ q => q
    rcases hc with z | z
    · rw [z]; exact nit b u e
    · exact nit c _ z
theorem Inv.tok (I : Inv X pins σ H s) (t : Nat) : Inv X pins σ H { s with toks := t } := I.un (h' := s.heap) (t' := t) Un.refl I.hok
/-- all objects kept -/
theorem Inv.kept {t' : Nat} (I : Inv X pins σ H s) (k : ∀ b u, s.heap.get? b = some u → h'.get? b = some u) : Inv X pins σ H { s with heap := h', toks := t' } := I.un (Un.kept k) (I.hok.kept k)
/-- a new object laid and tracked -/
theorem Inv.laid {a : Addr} {o : HO} {t' : Nat} (I : Inv X pins σ H s) (k : ∀ b u, s.heap.get? b = some u → h'.get? b = some u) (hp : s.heap.objs.size ≤ a) (new : ObjOk X.prog X.w (upd H a o) h' a o) :
    Inv X pins σ (upd H a o) { s with heap := h', toks := t' } := I.un (Un.laid k hp (I.hok.fresh hp)) (I.hok.laid k hp new)
/-- an object written -/
theorem Inv.write {x e : Addr} {o : HO} {t' : Nat} (I : Inv X pins σ H s) (mu : Mut (H x)) (he : e = x ∨ H e = some (.own x)) (k : ∀ b u, b ≠ e → s.heap.get? b = some u → h'.get? b = some u) (heo : ∃ u, h'.get? e = some u)
    (new : ObjOk X.prog X.w (upd H x o) h' x o) : Inv X pins σ (upd H x o) { s with heap := h', toks := t' } := I.un (Un.write mu he k heo) (I.hok.write mu he k heo new)
theorem Inv.pins_of {pins' : List (Addr × Obj)} (I : Inv X pins σ H s) (h : ∀ p ∈ pins', s.heap.get? p.1 = some p.2 ∧ H p.1 = none ∧ p.1 ≠ X.env.locals ∧ p.1 ∉ X.fs ∧ ∀ v, p.2.data ≠ .cell v) : Inv X pins' σ H s :=
  ⟨I.ok, I.os, I.bare, I.base, I.loc, I.cell, I.free, I.freeC, fun p hp => (List.mem_append.mp hp).elim (fun z => I.pin p (List.mem_append_left _ z)) (h p), I.hok, I.len⟩
theorem nodup_ix {N : List Str} (hN : N.Nodup) {i j : Nat} {x : Str} (a : N[i]? = some x) (b : N[j]? = some x) : i = j := by
  obtain ⟨h1, e1⟩ := List.getElem?_eq_some_iff.mp a
  obtain ⟨h2, e2⟩ := List.getElem?_eq_some_iff.mp b
  exact (List.getElem_inj hN).mp (e1.trans e2.symm)
/-- a name is stored; what changed -/
theorem store_ok2 {M : Model} {A : Around} {E : Value → Shared → Prop} {i : Nat} {x : Str} {v : V} {u : Value} {Q : Unit → Shared → Prop} (I : Inv X pins σ H s) (hN : X.N.Nodup) (hi : X.N[i]? = some x) (hx : Loc X.env.scope x) (r : RelV v u)
    (h : ∀ s', Inv X pins (σ.set i (some v)) H s' → (∃ a, Heap.SameBut a s.heap s'.heap ∧ (a = X.env.locals ∨ X.env.cells.lookup x = some a)) → Q () s') (hf : X.fn x = true ∨ X.env.scope.names.lookup x = some .local := by first | exact .inl rfl | exact .inr rfl | assumption) : wpAny M A (storeName X.env x u) Q E s := by
  obtain ⟨m, hn, hl⟩ := id I.loc
  have hcls : (X.env.scope.kind == .class || (X.env.scope.kind == .module && X.env.locals != X.env.globals)) = false := by rw [I.ok.kind]; rfl
  have hiσ : i < σ.length := by rw [I.len]; exact (List.getElem?_eq_some_iff.mp hi).1
  have cne := I.cne
  have tracked : ∀ {a : Addr} {h' : Heap}, (∃ o, s.heap.get? a = some o ∧ H a = none) → Heap.SameBut a s.heap h' → HOk X.prog X.w H h' := fun {a h'} ha hs b ob e => by
    obtain ⟨_, _, hfree⟩ := ha
    refine (I.hok b ob e).stay (fun c w' hc q => (hs.2 c ?_).trans q) (fun _ q => q) fun _ _ q => q
    rintro rfl
    rcases hc with rfl | hc
    · rw [hfree] at e; cases e
    · rw [hfree] at hc; cases hc
  rcases hx with hk | hk
  · refine wpAny_storeName_local hk hn (fun h' hn' hs => ?_) hcls
    obtain ⟨oL, _, _, hoL, _⟩ := id hn
    refine h _ ⟨I.ok, I.os, I.bare, ⟨fun b o e n hb hx => ?_, fun b o e n hb hx => ?_, I.base.free, fun b o e hx => ?_, I.base.tups, I.base.frzs, I.base.tbls⟩, ⟨_, hn', fun j y v' e1 e2 e3 => ?_⟩, fun y c e => ?_, I.free, I.freeC, fun p hp => ?_, tracked ⟨oL, hoL, I.free⟩ hs, by simpa using I.len⟩ ⟨_, hs, .inl rfl⟩
    · exact (hs.2 b (Nat.ne_of_lt (Nat.lt_of_lt_of_le (Heap.lt_size e) I.ok.above))).trans (I.base.keep b o e n hb hx)
    · obtain ⟨sl, e1⟩ := I.base.slot b o e n hb hx
      exact ⟨sl, (hs.2 b (Nat.ne_of_lt (Nat.lt_of_lt_of_le (Heap.lt_size e) I.ok.above))).trans e1⟩
    · obtain ⟨o', e1⟩ := I.base.there b o e hx
      exact ⟨o', (hs.2 b (Nat.ne_of_lt (Nat.lt_of_lt_of_le (Heap.lt_size e) I.ok.above))).trans e1⟩
    · by_cases hj : j = i
      · subst hj
        rw [hi] at e1; cases e1
        rw [List.getElem?_set_self hiσ] at e2
        cases e2
        exact ⟨u, r, .inl ⟨hk, by simp⟩⟩
      · rw [List.getElem?_set_ne (Ne.symm hj)] at e2
        obtain ⟨u', r', q⟩ := hl j y v' e1 e2 e3
        refine ⟨u', r', ?_⟩
        rcases q with ⟨k, e⟩ | ⟨k, c, e, z⟩
        · refine .inl ⟨k, ?_⟩
          have : y ≠ x := fun e => hj (nodup_ix hN e1 (e ▸ hi))
          simp [this, e]
        · exact .inr ⟨k, c, e, z.sameBut hs (cne y c e)⟩
    · obtain ⟨w', z⟩ := I.cell y c e
      exact ⟨w', z.sameBut hs (cne y c e)⟩
    · obtain ⟨e, n, ne, nf, d⟩ := I.pin p hp
      exact ⟨(hs.2 p.1 ne).trans e, n, ne, nf, d⟩
  · have hfn : X.fn x = true := by
      rcases hf with z | z
      · exact z
      · rw [z] at hk; cases hk
    obtain ⟨c, hc⟩ := I.ok.has x (.inl hk)
    obtain ⟨w', z⟩ := I.cell x c hc
    refine wpAny_storeName_cell I.ok.kind hk hc z (fun h' hc' hs => ?_)
    obtain ⟨oc, hoc, hocd⟩ := id z
    refine h { s with heap := h' } ⟨I.ok, I.os, I.bare, ⟨fun b o e n hb hx => ?_, fun b o e n hb hx => ?_, I.base.free, fun b o e hx => ?_, I.base.tups, I.base.frzs, I.base.tbls⟩, ⟨m, hn.sameBut hs (Ne.symm (cne x c hc)), fun j y v' e1 e2 e3 => ?_⟩, fun y c' e => ?_, I.free, I.freeC, fun p hp => ?_, tracked ⟨oc, hoc, I.freeC x c hc⟩ hs, by simpa using I.len⟩ ⟨c, hs, .inr hc⟩
    · exact (hs.2 b (Nat.ne_of_lt (Nat.lt_of_lt_of_le (Heap.lt_size e) (I.ok.cab x c hfn hc)))).trans (I.base.keep b o e n hb hx)
    · obtain ⟨sl, e1⟩ := I.base.slot b o e n hb hx
      exact ⟨sl, (hs.2 b (Nat.ne_of_lt (Nat.lt_of_lt_of_le (Heap.lt_size e) (I.ok.cab x c hfn hc)))).trans e1⟩
    · obtain ⟨o', e1⟩ := I.base.there b o e hx
      exact ⟨o', (hs.2 b (Nat.ne_of_lt (Nat.lt_of_lt_of_le (Heap.lt_size e) (I.ok.cab x c hfn hc)))).trans e1⟩
    · by_cases hj : j = i
      · subst hj
        rw [hi] at e1; cases e1
        rw [List.getElem?_set_self hiσ] at e2
        cases e2
        exact ⟨u, r, .inr ⟨.inl hk, c, hc, hc'⟩⟩
      · rw [List.getElem?_set_ne (Ne.symm hj)] at e2
        obtain ⟨u', r', q⟩ := hl j y v' e1 e2 e3
        refine ⟨u', r', ?_⟩
        rcases q with q | ⟨k, c', e, z'⟩
        · exact .inl q
        · refine .inr ⟨k, c', e, z'.sameBut hs ?_⟩
          rintro rfl
          exact hj (nodup_ix hN e1 (I.ok.inj _ _ _ e hc ▸ hi))
    · by_cases hcc : c' = c
      · subst hcc; exact ⟨_, hc'⟩
      · obtain ⟨w2, z2⟩ := I.cell y c' e
        exact ⟨w2, z2.sameBut hs hcc⟩
    · obtain ⟨e, n, ne, nf, d⟩ := I.pin p hp
      refine ⟨(hs.2 p.1 ?_).trans e, n, ne, nf, d⟩
      intro q
      rw [q, hoc] at e
      have q' : oc = p.2 := Option.some.inj e
      exact d w' (by rw [← q']; exact hocd)
theorem store_ok {M : Model} {A : Around} {E : Value → Shared → Prop} {i : Nat} {x : Str} {v : V} {u : Value} {Q : Unit → Shared → Prop} (I : Inv X pins σ H s) (hN : X.N.Nodup) (hi : X.N[i]? = some x) (hx : Loc X.env.scope x) (r : RelV v u)
    (h : ∀ s', Inv X pins (σ.set i (some v)) H s' → Q () s') (hf : X.fn x = true ∨ X.env.scope.names.lookup x = some .local := by first | exact .inl rfl | exact .inr rfl | assumption) : wpAny M A (storeName X.env x u) Q E s :=
  store_ok2 I hN hi hx r (fun s' I' _ => h s' I') hf
/-- behind a call or a block, the state as it is -/
theorem Inv.call' {s' : Shared} {ch : List Addr} (I : Inv X pins σ H s) (ho : s'.os = s.os) (u : Un (frs X.stack) ch H H' s.heap s'.heap) (hok : HOk X.prog X.w H' s'.heap) (hg : AllBare s'.gens)
    (hch : ∀ b ∈ ch, (b ∈ X.ex ∨ X.s₀.heap.objs.size ≤ b) ∧ b ≠ X.env.locals ∧ (∀ x c, X.env.cells.lookup x = some c → c ≠ b) ∧ ∀ p ∈ X.pn ++ pins, p.1 ≠ b) : Inv X pins σ H' s' := by
  obtain ⟨h', g', d', t', o'⟩ := s'
  have e : o' = s.os := ho
  subst e
  exact I.call (g' := g') (t' := t') (d' := d') u hok hg hch
end
/-! ### the judgements -/
/-- an exception: its class, its own dict's address (where it has one), the abstract heap behind it -/
abbrev XK := Value → Option Addr → Hp → Prop
abbrev St := List (Option V)
abbrev VK := V → Hp → Prop
/-- an expression's reading; a test's; an argument list's -/
abbrev TE := St → Hp → VK → Prop
abbrev TT := St → Hp → (Bool → Hp → Prop) → Prop
abbrev TA := St → Hp → (List V → Hp → Prop) → Prop
/-- what is wanted behind a statement -/
structure Ends where
  nx : St → Hp → Prop
  rt : VK
  bk : St → Hp → Prop := fun _ _ => False
  ct : St → Hp → Prop := fun _ _ => False
abbrev TS := Ends → St → Hp → Prop
def EP (X : Cx) (pins : List (Addr × Obj)) (σ : St) (Q : VK) (u : Value) (s' : Shared) : Prop := ∃ v H', Inv X pins σ H' s' ∧ RelV v u ∧ Q v H'
def TP (X : Cx) (pins : List (Addr × Obj)) (σ : St) (Q : Bool → Hp → Prop) (b : Bool) (s' : Shared) : Prop := ∃ H', Inv X pins σ H' s' ∧ Q b H'
def AP (X : Cx) (pins : List (Addr × Obj)) (σ : St) (Q : List V → Hp → Prop) (us : List Value) (s' : Shared) : Prop := ∃ vs H', Inv X pins σ H' s' ∧ Vals vs us ∧ Q vs H'
def SP (X : Cx) (pins : List (Addr × Obj)) (D : Ends) (f : Flow) (s' : Shared) : Prop :=
  match f with
  | .next => ∃ σ' H', Inv X pins σ' H' s' ∧ D.nx σ' H'
  | .brk => ∃ σ' H', Inv X pins σ' H' s' ∧ D.bk σ' H'
  | .cont => ∃ σ' H', Inv X pins σ' H' s' ∧ D.ct σ' H'
  | .ret u => ∃ v σ' H', Inv X pins σ' H' s' ∧ RelV v u ∧ D.rt v H'
def PE (X : Cx) (e : Expr) (t : TE) : Prop :=
  ∀ (pins : List (Addr × Obj)) (s : Shared) (σ : St) (H : Hp) (Q : VK), Inv X pins σ H s → t σ H Q → wpAny (model X.prog X.w) X.A (eval e X.env) (EP X pins σ Q) X.xe s
def PT (X : Cx) (e : Expr) (t : TT) : Prop :=
  ∀ (pins : List (Addr × Obj)) (s : Shared) (σ : St) (H : Hp) (Q : Bool → Hp → Prop), Inv X pins σ H s → t σ H Q → wpAny (model X.prog X.w) X.A (isTrue e X.env (eval e X.env)) (TP X pins σ Q) X.xe s
/-- a test whatever its 'whole' is (and, or) -/
def PW (X : Cx) (e : Expr) (t : TT) : Prop :=
  ∀ (whole : Sem Value) (pins : List (Addr × Obj)) (s : Shared) (σ : St) (H : Hp) (Q : Bool → Hp → Prop), Inv X pins σ H s → t σ H Q → wpAny (model X.prog X.w) X.A (isTrue e X.env whole) (TP X pins σ Q) X.xe s
theorem PW.pt {X : Cx} {e : Expr} {t : TT} (h : PW X e t) : PT X e t := h _
/-- an argument list (no star), from the left -/
def PA (X : Cx) (es : List Expr) (t : TA) : Prop :=
  ∀ (pos : Pos) (pins : List (Addr × Obj)) (s : Shared) (σ : St) (H : Hp) (Q : List V → Hp → Prop), Inv X pins σ H s → t σ H Q → wpAny (model X.prog X.w) X.A (spliced (backTo pos (starEach es X.env))) (AP X pins σ Q) X.xe s
def PS (X : Cx) (st : Stmt) (t : TS) : Prop :=
  ∀ (pins : List (Addr × Obj)) (s : Shared) (σ : St) (H : Hp) (D : Ends), Inv X pins σ H s → t D σ H → wpAny (model X.prog X.w) X.A (exec st X.env) (SP X pins D) X.xe s
def PSs (X : Cx) (st : List Stmt) (t : TS) : Prop :=
  ∀ (pins : List (Addr × Obj)) (s : Shared) (σ : St) (H : Hp) (D : Ends), Inv X pins σ H s → t D σ H → wpAny (model X.prog X.w) X.A (execs st X.env) (SP X pins D) X.xe s
/-- weaken the end -/
theorem thn {α : Type} {t : Sem α} {Q Q' : α → Shared → Prop} {M : Model} {A : Around} {E : Value → Shared → Prop} {s : Shared} (h : wpAny M A t Q E s) (hQ : ∀ a s, Q a s → Q' a s) : wpAny M A t Q' E s := wpAny_mono h hQ fun _ _ x => x
end L2
namespace L2
open PySem PySem.Spec PyProof.Rows
section
variable {X : Cx}
/-! ### names and constants -/
def tVar (i : Nat) : TE := fun σ H Q => ∃ v, σ[i]? = some (some v) ∧ Q v H
def tC (v : V) : TE := fun _ H Q => Q v H
theorem pe_var {i : Nat} {x : Str} {pos : Pos} (hN : X.N[i]? = some x) (hv : Vis X.env.scope x) (hd : (x == ("__debug__" : Str)) = false := by decide) (hcd : (x == ("__classdict__" : Str)) = false := by decide) : PE X (.Name x pos) (tVar i) := by
  intro pins s σ H Q I h
  obtain ⟨v, e, h⟩ := h
  obtain ⟨m, hn, hl⟩ := I.loc
  obtain ⟨u, r, l⟩ := hl i x v hN e hv
  have fin : EP X pins σ Q u s := ⟨v, H, I, r, h⟩
  rcases l with ⟨hk, hm⟩ | ⟨hk, c, hc, hcell⟩
  · exact wpAny_Name (wpAny_loadName_local I.ok.kind hk hn hm fin) hd
  · rcases hk with hk | hk
    · exact wpAny_Name (wpAny_loadName_cell I.ok.kind hk hc hcell fin) hd
    · exact wpAny_Name (wpAny_loadName_free I.ok.kind hk hc hcell fin hcd) hd
theorem pe_int {i j pos} : PE X (.Constant (.int i) j pos) (tC (.int i)) := fun _ _ _ H _ I h => wpAny_Constant_int ⟨.int i, H, I.tok _, ⟨_, rfl⟩, h⟩
theorem pe_bl {b j pos} : PE X (.Constant (.bool b) j pos) (tC (.bl b)) := fun _ _ _ H _ I h => Constant_bool ⟨.bl b, H, I, rfl, h⟩
theorem pe_non {j pos} : PE X (.Constant .none j pos) (tC .non) := fun _ _ _ H _ I h => Constant_none ⟨.non, H, I, rfl, h⟩
theorem pe_str {x j pos} : PE X (.Constant (.str x) j pos) (tC (.str x)) := fun _ _ _ H _ I h => Calls.Constant_str ⟨.str x, H, I.tok _, ⟨_, rfl⟩, h⟩
/-- a global name of the def -/
def Gl (X : Cx) (x : Str) : Prop := X.env.kindOf x = some .globalImplicit
theorem ld_glob {E : Value → Shared → Prop} {pins : List (Addr × Obj)} {s : Shared} {σ : St} {H : Hp} {x : Str} {u : Value} {pos : Pos} {Q : Value → Shared → Prop} (I : Inv X pins σ H s) (hg : Gl X x) (hm : X.mg x = some u) (h : Q u s)
    (hd : (x == ("__debug__" : Str)) = false := by decide) : wpAny (model X.prog X.w) X.A (eval (.Name x pos) X.env) Q E s :=
  Calls.Name_function_global I.ok.kind hg (Calls.loadGlobal_global (by rw [I.ok.glob]; exact I.mod.glob.keeps I.bk) hm h) hd
theorem ld_blt {E : Value → Shared → Prop} {pins : List (Addr × Obj)} {s : Shared} {σ : St} {H : Hp} {x : Str} {u : Value} {pos : Pos} {Q : Value → Shared → Prop} (I : Inv X pins σ H s) (hg : Gl X x) (hm : X.mg x = none) (hv : bootBuiltins x = some u) (h : Q u s)
    (hn : x ≠ "__name__" := by decide) (hd : (x == ("__debug__" : Str)) = false := by decide) : wpAny (model X.prog X.w) X.A (eval (.Name x pos) X.env) Q E s := by
  obtain ⟨mb, h1, h2⟩ := I.mod.blt
  exact Calls.Name_function_global I.ok.kind hg (Calls.loadGlobal_builtin (by rw [I.ok.glob]; exact I.mod.glob.keeps I.bk) hm (by rw [I.ok.blt]; exact h1.keeps I.bk) ((h2 x hn).trans hv) h) hd
/-- a module's constant, a class, a function, as a value -/
theorem pe_glob {x : Str} {v : V} {u : Value} {pos : Pos} (hg : Gl X x) (hm : X.mg x = some u) (r : RelV v u) (hd : (x == ("__debug__" : Str)) = false := by decide) : PE X (.Name x pos) (tC v) :=
  fun _ _ _ H _ I h => ld_glob I hg hm ⟨v, H, I, r, h⟩ hd
theorem pe_bltn {x : Str} {v : V} {u : Value} {pos : Pos} (hg : Gl X x) (hm : X.mg x = none) (hv : bootBuiltins x = some u) (r : RelV v u) (hn : x ≠ "__name__" := by decide) (hd : (x == ("__debug__" : Str)) = false := by decide) : PE X (.Name x pos) (tC v) :=
  fun _ _ _ H _ I h => ld_blt I hg hm hv ⟨v, H, I, r, h⟩ hn hd
/-! ### arithmetic -/
/-- two ints -/
def t2I (ta tb : TE) (k : Int → Int → Hp → Prop) : St → Hp → Prop := fun σ H => ta σ H fun x H1 => tb σ H1 fun y H2 => ∃ i j, x = .int i ∧ y = .int j ∧ k i j H2
def tAdd (ta tb : TE) : TE := fun σ H Q => t2I ta tb (fun i j H2 => Q (.int (i + j)) H2) σ H
def tSub (ta tb : TE) : TE := fun σ H Q => t2I ta tb (fun i j H2 => Q (.int (i - j)) H2) σ H
/-- the left factor below 2^64 -/
def tMul (ta tb : TE) : TE := fun σ H Q => t2I ta tb (fun i j H2 => (-(2 ^ 64) < i ∧ i < 2 ^ 64) ∧ Q (.int (i * j)) H2) σ H
variable {a b : Expr} {ta tb : TE} {pos : Pos}
/-! ### comparisons -/
def PC (X : Cx) (op : CmpOp) (a b : Expr) (t : TE) : Prop :=
  ∀ (pins : List (Addr × Obj)) (s : Shared) (σ : St) (H : Hp) (Q : VK), Inv X pins σ H s → t σ H Q →
    wpAny (model X.prog X.w) X.A (eval a X.env) (fun v s₁ => wpAny (model X.prog X.w) X.A (eval b X.env) (fun u s₂ => wpAny (model X.prog X.w) X.A (compareOp op v u) (EP X pins σ Q) X.xe s₂) X.xe s₁) X.xe s
def tCmp (p : Int → Int → Bool) (ta tb : TE) : TE := fun σ H Q => t2I ta tb (fun i j H2 => Q (.bl (p i j)) H2) σ H
abbrev tLt : TE → TE → TE := tCmp fun i j => decide (i < j)
abbrev tLe : TE → TE → TE := tCmp fun i j => decide (i ≤ j)
abbrev tGt : TE → TE → TE := tCmp fun i j => decide (j < i)
abbrev tGe : TE → TE → TE := tCmp fun i j => decide (j ≤ i)
abbrev tEqI : TE → TE → TE := tCmp fun i j => decide (i = j)
abbrev tNeI : TE → TE → TE := tCmp fun i j => !decide (i = j)
/-- is None -/
def tIsN (ta : TE) : TE := fun σ H Q => ta σ H fun x H1 => Q (.bl (decide (x = .non))) H1
def tNotN (ta : TE) : TE := fun σ H Q => ta σ H fun x H1 => Q (.bl (!decide (x = .non))) H1
/-- a comparison as a value, as a test -/
def tB (t : TE) : TT := fun σ H Q => t σ H fun x H1 => ∃ c, x = .bl c ∧ Q c H1
/-! ### and, or, not -/
variable {tA tB' : TT} {rest : List Expr}
def tAnd (t u : TT) : TT := fun σ H Q => t σ H fun c H1 => if c = true then u σ H1 Q else Q false H1
def tOr (t u : TT) : TT := fun σ H Q => t σ H fun c H1 => if c = true then Q true H1 else u σ H1 Q
def tNot (t : TT) : TT := fun σ H Q => t σ H fun c H1 => Q (!c) H1
theorem pw_and1 (ha : PT X a tA) : PW X (.BoolOp .And [a] pos) tA := by
  intro wh pins s σ H Q I h
  refine isTrue_and (thn (ha pins s σ H Q I h) fun c s1 e => ?_)
  cases c with
  | true => exact isTrue_and_nil e
  | false => exact e
theorem pw_or1 (ha : PT X a tA) : PW X (.BoolOp .Or [a] pos) tA := by
  intro wh pins s σ H Q I h
  refine isTrue_or (thn (ha pins s σ H Q I h) fun c s1 e => ?_)
  cases c with
  | false => exact isTrue_or_nil e
  | true => exact e
theorem pw_and (ha : PT X a tA) (hb : PW X (.BoolOp .And (b :: rest) pos) tB') : PW X (.BoolOp .And (a :: b :: rest) pos) (tAnd tA tB') := by
  intro wh pins s σ H Q I h
  refine isTrue_and (thn (ha pins s σ H _ I h) fun c s1 ⟨H1, I1, q1⟩ => ?_)
  cases c with
  | true => exact hb wh pins s1 σ H1 Q I1 q1
  | false => exact ⟨H1, I1, q1⟩
theorem pw_or (ha : PT X a tA) (hb : PW X (.BoolOp .Or (b :: rest) pos) tB') : PW X (.BoolOp .Or (a :: b :: rest) pos) (tOr tA tB') := by
  intro wh pins s σ H Q I h
  refine isTrue_or (thn (ha pins s σ H _ I h) fun c s1 ⟨H1, I1, q1⟩ => ?_)
  cases c with
  | true => exact ⟨H1, I1, q1⟩
  | false => exact hb wh pins s1 σ H1 Q I1 q1
theorem pt_not (ha : PT X a tA) : PT X (.UnaryOp .Not a pos) (tNot tA) := by
  intro pins s σ H Q I h
  exact isTrue_not (ha pins s σ H (fun c H1 => Q (!c) H1) I h)
/-- .. as values (bools) -/
def tAndV (ta tb : TE) : TE := fun σ H Q => ta σ H fun x H1 => ∃ c, x = .bl c ∧ if c = true then tb σ H1 Q else Q (.bl false) H1
def tOrV (ta tb : TE) : TE := fun σ H Q => ta σ H fun x H1 => ∃ c, x = .bl c ∧ if c = true then Q (.bl true) H1 else tb σ H1 Q
def tNotV (ta : TE) : TE := fun σ H Q => ta σ H fun x H1 => ∃ c, x = .bl c ∧ Q (.bl (!c)) H1
theorem pe_one {op} {t : TE} (h : PE X a t) : PE X (.BoolOp op [a] pos) t := fun pins s σ H Q I hw => BoolOp_one (h pins s σ H Q I hw)
theorem pe_and (ha : PE X a ta) (hb : PE X (.BoolOp .And (b :: rest) pos) tb) : PE X (.BoolOp .And (a :: b :: rest) pos) (tAndV ta tb) := by
  intro pins s σ H Q I h
  refine BoolOp_and (thn (ha pins s σ H _ I h) fun v s1 ⟨x, H1, I1, r1, q1⟩ => ?_)
  obtain ⟨c, rfl, q1⟩ := q1
  cases r1
  refine wpAny_truthy_bool ?_
  cases c with
  | true => exact hb pins s1 σ H1 Q I1 q1
  | false => exact ⟨.bl false, H1, I1, rfl, q1⟩
theorem pe_not (ha : PE X a ta) : PE X (.UnaryOp .Not a pos) (tNotV ta) := by
  intro pins s σ H Q I h
  refine UnaryOp_ (thn (ha pins s σ H _ I h) fun v s1 ⟨x, H1, I1, r1, q1⟩ => ?_)
  obtain ⟨c, rfl, q1⟩ := q1
  cases r1
  exact not_of (wpAny_truthy_bool ⟨.bl (!c), H1, I1, rfl, q1⟩)
/-- a if t else b -/
def tIf (t : TT) (ta tb : TE) : TE := fun σ H Q => t σ H fun c H1 => if c = true then ta σ H1 Q else tb σ H1 Q
end
end L2
namespace L2
open PySem PySem.Spec PyProof.Rows
/-! ### a list, a tuple that is read: tracked, frozen, or an object of the module -/
def SqL (K : PySem.W.Frag) (H : Hp) (a : Addr) (xs : List V) : Prop :=
  Rd H a (.lst xs) ∨
    ∃ (o : Obj) (its : Array Value) (n : Nat), K.lookup a = some o ∧ o.cls = .type "list" ∧ o.dict = none ∧ o.data = .seq its n ∧ its.size ≤ sizeLine ∧ Vals xs its.toList
def SqT (K : PySem.W.Frag) (H : Hp) (a : Addr) (xs : List V) : Prop :=
  Rd H a (.tup xs) ∨
    ∃ (o : Obj) (its : Array Value) (n : Nat), K.lookup a = some o ∧ o.cls = .type "tuple" ∧ o.data = .seq its n ∧ its.size ≤ sizeLine ∧ Vals xs its.toList
def absV : Value → Option V
  | .none => some .non
  | .bool b => some (.bl b)
  | .int i _ => some (.int i)
  | .str x _ => some (.str x)
  | .bytes b _ => some (.byt b)
  | .float b _ => some (.flt b)
  | .ref a => some (.ref a)
  | .type n => some (.ty n)
  | _ => none
theorem RelV.abs {x : V} {u : Value} (r : RelV x u) : absV u = some x := by
  cases x with
  | non => cases r; rfl
  | bl _ => cases r; rfl
  | int _ => obtain ⟨t, rfl⟩ := r; rfl
  | str _ => obtain ⟨t, rfl⟩ := r; rfl
  | byt _ => obtain ⟨t, rfl⟩ := r; rfl
  | flt _ => obtain ⟨t, rfl⟩ := r; rfl
  | ref _ => cases r; rfl
  | ty _ => cases r; rfl
theorem RelV.inj {x y : V} {u : Value} (r : RelV x u) (q : RelV y u) : x = y := Option.some.inj (r.abs.symm.trans q.abs)
theorem Vals.inj : ∀ {xs ys : List V} {us : List Value}, Vals xs us → Vals ys us → xs = ys
  | _, _, _, .nil, .nil => rfl
  | _, _, _, .cons r t, .cons r' t' => by rw [r.inj r', Vals.inj t t']
section
variable {X : Cx} {pins : List (Addr × Obj)} {σ : St} {H : Hp} {s : Shared} {a : Addr} {xs ys : List V}
theorem SqL.of {K : PySem.W.Frag} (h : H a = some (.lst xs)) : SqL K H a xs := .inl (.inl h)
theorem SqT.of {K : PySem.W.Frag} (h : H a = some (.tup xs)) : SqT K H a xs := .inl (.inl h)
theorem Inv.list (I : Inv X pins σ H s) (h : SqL X.K H a xs) : ∃ its : List Value, Vals xs its ∧ PlainL s.heap a its.toArray ∧ xs.length ≤ sizeLine := by
  rcases h with h | ⟨o, its, n, hk, hc, hd, hs, hz, r⟩
  · obtain ⟨z, its, n, r, e⟩ := h.ok I.hok
    exact ⟨its, r, ⟨_, n, e, rfl, rfl, rfl⟩, z⟩
  · refine ⟨its.toList, r, ⟨o, n, I.kIn a o hk, hc, hd, by simpa using hs⟩, ?_⟩
    have e := r.length
    simp only [Array.length_toList] at e
    omega
theorem Inv.tuple (I : Inv X pins σ H s) (h : SqT X.K H a xs) : ∃ its : List Value, Vals xs its ∧ IsTup s.heap a its.toArray ∧ xs.length ≤ sizeLine := by
  rcases h with h | ⟨o, its, n, hk, hc, hs, hz, r⟩
  · obtain ⟨z, its, r, p⟩ := h.ok I.hok
    exact ⟨its, r, p, z⟩
  · refine ⟨its.toList, r, ⟨o, I.kIn a o hk, hc, n, by simpa using hs⟩, ?_⟩
    have e := r.length
    simp only [Array.length_toList] at e
    omega
theorem Inv.list_inj (I : Inv X pins σ H s) (h : SqL X.K H a xs) (h' : SqL X.K H a ys) : xs = ys := by
  obtain ⟨its, r, ⟨o, n, e, _, _, d⟩, _⟩ := I.list h
  obtain ⟨its', r', ⟨o', n', e', _, _, d'⟩, _⟩ := I.list h'
  rw [e] at e'; cases e'
  rw [d] at d'
  injection d' with d1 _
  have : its = its' := by simpa using congrArg Array.toList d1
  subst this
  exact r.inj r'
theorem Inv.tuple_inj (I : Inv X pins σ H s) (h : SqT X.K H a xs) (h' : SqT X.K H a ys) : xs = ys := by
  obtain ⟨its, r, ⟨o, e, _, n, d⟩, _⟩ := I.tuple h
  obtain ⟨its', r', ⟨o', e', _, n', d'⟩, _⟩ := I.tuple h'
  rw [e] at e'; cases e'
  rw [d] at d'
  injection d' with d1 _
  have : its = its' := by simpa using congrArg Array.toList d1
  subst this
  exact r.inj r'
end
/-! ### another wish about exceptions -/
abbrev Cx.wish (X : Cx) (E : Value → Shared → Prop) : Cx := { X with xe := E }
/-- no exception leaves -/
abbrev Cx.nox (X : Cx) : Cx := X.wish fun _ _ => False
theorem Cx.Ok.wish {X : Cx} (ok : X.Ok) (E : Value → Shared → Prop) : (X.wish E).Ok :=
  ⟨ok.mod, ok.kind, ok.glob, ok.blt, ok.above, ok.inj, ok.has, ok.cab, ok.hd, ok.frames, ok.stk, ok.exf, ok.bs, ok.bsz, ok.noex, ok.exfs, ok.funs, ok.frf⟩
theorem Cx.Ok.unwish {X : Cx} {E : Value → Shared → Prop} (ok : (X.wish E).Ok) : X.Ok :=
  ⟨ok.mod, ok.kind, ok.glob, ok.blt, ok.above, ok.inj, ok.has, ok.cab, ok.hd, ok.frames, ok.stk, ok.exf, ok.bs, ok.bsz, ok.noex, ok.exfs, ok.funs, ok.frf⟩
section
variable {X : Cx} {pins : List (Addr × Obj)} {σ : St} {H : Hp} {s : Shared} {E : Value → Shared → Prop}
theorem Inv.wish (I : Inv X pins σ H s) (E : Value → Shared → Prop) : Inv (X.wish E) pins σ H s := ⟨I.ok.wish E, I.os, I.bare, I.base, I.loc, I.cell, I.free, I.freeC, I.pin, I.hok, I.len⟩
theorem Inv.unwish (I : Inv (X.wish E) pins σ H s) : Inv X pins σ H s := ⟨I.ok.unwish, I.os, I.bare, I.base, I.loc, I.cell, I.free, I.freeC, I.pin, I.hok, I.len⟩
theorem SP.unwish {D : Ends} {f : Flow} {s' : Shared} (h : SP (X.wish E) pins D f s') : SP X pins D f s' := by
  cases f with
  | next => obtain ⟨σ', H', I, q⟩ := h; exact ⟨σ', H', I.unwish, q⟩
  | brk => obtain ⟨σ', H', I, q⟩ := h; exact ⟨σ', H', I.unwish, q⟩
  | cont => obtain ⟨σ', H', I, q⟩ := h; exact ⟨σ', H', I.unwish, q⟩
  | ret u => obtain ⟨v, σ', H', I, r, q⟩ := h; exact ⟨v, σ', H', I.unwish, r, q⟩
theorem PSs.nox {st : List Stmt} {t : TS} (h : PSs X.nox st t) : PSs X st t := fun pins s σ H D I hw =>
  wpAny_mono (h pins s σ H D (I.wish _) hw) (fun _ _ q => q.unwish) fun _ _ z => False.elim z
end
/-! ### blocks and small statements -/
section
variable {X : Cx} {st : Stmt} {rest : List Stmt} {t u : TS} {e : Expr} {te : TE} {pos : Pos}
def tNext : TS := fun D σ H => D.nx σ H
def tSeq (t u : TS) : TS := fun D σ H => t { D with nx := u D } σ H
theorem pss_nil : PSs X [] tNext := fun _ _ σ H _ I h => wpAny_execs_nil ⟨σ, H, I, h⟩
theorem pss_cons (h1 : PS X st t) (h2 : PSs X rest u) : PSs X (st :: rest) (tSeq t u) := by
  intro pins s σ H D I h
  refine wpAny_execs_cons (thn (h1 pins s σ H { D with nx := u D } I h) fun f s1 q => ?_)
  cases f with
  | next =>
    obtain ⟨σ', H', I', q⟩ := q
    exact h2 pins s1 σ' H' D I' q
  | ret v => exact q
  | brk => exact q
  | cont => exact q
theorem pss_one (h1 : PS X st t) : PSs X [st] t := by
  intro pins s σ H D I h
  refine wpAny_execs_cons (thn (h1 pins s σ H D I h) fun f s1 q => ?_)
  cases f with
  | next => exact wpAny_execs_nil q
  | ret v => exact q
  | brk => exact q
  | cont => exact q
def tBreak : TS := fun D σ H => D.bk σ H
def tCont : TS := fun D σ H => D.ct σ H
/-- in a def's body nothing is shown -/
theorem Inv.quiet {pins : List (Addr × Obj)} {σ : St} {H : Hp} {s : Shared} (I : Inv X pins σ H s) : interactive X.env = false := by simp [interactive, I.ok.kind]
/-- an expression whose value is dropped -/
def tDrop (te : TE) : TS := fun D σ H => te σ H fun _ H1 => D.nx σ H1
theorem ps_expr (he : PE X e te) (hs : swapsWith e none pos.line X.env = pure false := by rfl) : PS X (.Expr e pos) (tDrop te) := by
  intro pins s σ H D I h
  exact wpAny_Expr_any (thn (he pins s σ H _ I h) fun v s1 ⟨x, H1, I1, r1, q1⟩ => ⟨σ, H1, I1, q1⟩) I.quiet hs
def tRet (te : TE) : TS := fun D σ H => te σ H D.rt
theorem ps_ret (he : PE X e te) : PS X (.Return (some e) pos) (tRet te) := by
  intro pins s σ H D I h
  exact wpAny_Return_some (thn (he pins s σ H _ I h) fun v s1 ⟨x, H1, I1, r1, q1⟩ => ⟨x, σ, H1, I1, r1, q1⟩)
def tRetN : TS := fun D _ H => D.rt .non H
def tIfS (c : TT) (t u : TS) : TS := fun D σ H => c σ H fun b H1 => if b = true then t D σ H1 else u D σ H1
theorem ps_if {c : Expr} {a b : List Stmt} {tc : TT} (hc : PT X c tc) (ha : PSs X a t) (hb : PSs X b u) : PS X (.If c a b pos) (tIfS tc t u) := by
  intro pins s σ H D I h
  refine wpAny_If (thn (hc pins s σ H _ I h) fun d s1 ⟨H1, I1, q1⟩ => ?_)
  cases d with
  | true => exact ha pins s1 σ H1 D I1 q1
  | false => exact hb pins s1 σ H1 D I1 q1
/-- code that the proof never comes to -/
def tNever : TS := fun _ _ _ => False
theorem ps_never : PS X st tNever := fun _ _ _ _ _ _ h => h.elim
end
/-! ### targets -/
abbrev TG := V → St → Hp → (St → Hp → Prop) → Prop
abbrev TGs := List V → St → Hp → (St → Hp → Prop) → Prop
def PG (X : Cx) (target : Expr) (t : TG) : Prop :=
  ∀ (pins : List (Addr × Obj)) (s : Shared) (σ : St) (H : Hp) (v : V) (u : Value) (Q : St → Hp → Prop), Inv X pins σ H s → RelV v u → t v σ H Q →
    wpAny (model X.prog X.w) X.A (assign target X.env u) (fun _ s' => ∃ σ' H', Inv X pins σ' H' s' ∧ Q σ' H') X.xe s
/-- several targets, one after another -/
def PGs (X : Cx) (ts : List Expr) (t : TGs) : Prop :=
  ∀ (pins : List (Addr × Obj)) (s : Shared) (σ : St) (H : Hp) (vs : List V) (us : List Value) (Q : St → Hp → Prop), Inv X pins σ H s → Vals vs us → t vs σ H Q →
    wpAny (model X.prog X.w) X.A (assignInOrder ((assignEach ts X.env).map (·.2)) us) (fun _ s' => ∃ σ' H', Inv X pins σ' H' s' ∧ Q σ' H') X.xe s
/-- o[i] = v, by values -/
abbrev TSet := V → V → V → Hp → (Hp → Prop) → Prop
def PSet (X : Cx) (t : TSet) : Prop :=
  ∀ (pins : List (Addr × Obj)) (s : Shared) (σ : St) (H : Hp) (o i v : V) (ov iv u : Value) (Q : Hp → Prop), Inv X pins σ H s → RelV o ov → RelV i iv → RelV v u → t o i v H Q →
    wpAny (model X.prog X.w) X.A (setItem ov iv u) (fun _ s' => ∃ H', Inv X pins σ H' s' ∧ Q H') X.xe s
/-- a op= b, by values -/
abbrev TIp := V → V → Hp → VK → Prop
def PIp (X : Cx) (op : Operator) (t : TIp) : Prop :=
  ∀ (pins : List (Addr × Obj)) (s : Shared) (σ : St) (H : Hp) (x y : V) (v u : Value) (Q : VK), Inv X pins σ H s → RelV x v → RelV y u → t x y H Q →
    wpAny (model X.prog X.w) X.A (inplaceOp op v u) (EP X pins σ Q) X.xe s
section
variable {X : Cx} {pos : Pos}
def gName (i : Nat) : TG := fun v σ H Q => Q (σ.set i (some v)) H
theorem pg_name {i : Nat} {x : Str} (hN : X.N.Nodup) (hi : X.N[i]? = some x) (hx : Loc X.env.scope x) (hf : X.fn x = true ∨ X.env.scope.names.lookup x = some .local := by first | exact .inl rfl | exact .inr rfl | assumption) : PG X (.Name x pos) (gName i) := by
  intro pins s σ H v u Q I r h
  exact wpAny_assign_Name (store_ok I hN hi hx r (fun s' I' => ⟨_, H, I', h⟩) hf)
def gNil : TGs := fun vs σ H Q => vs = [] ∧ Q σ H
def gCons (t : TG) (u : TGs) : TGs := fun vs σ H Q => ∃ v r, vs = v :: r ∧ t v σ H fun σ' H' => u r σ' H' Q
theorem pgs_nil : PGs X [] gNil := by
  intro pins s σ H vs us Q I r h
  obtain ⟨e, h⟩ := h
  subst e
  cases r
  exact assignInOrder_nil ⟨σ, H, I, h⟩
theorem pgs_cons {e : Expr} {es : List Expr} {t : TG} {u : TGs} (h1 : PG X e t) (h2 : PGs X es u)
    (hs : (assignEach (e :: es) X.env).map (·.2) = assign e X.env :: (assignEach es X.env).map (·.2) := by rfl) : PGs X (e :: es) (gCons t u) := by
  intro pins s σ H vs us Q I r h
  obtain ⟨v, vr, e1, h⟩ := h
  subst e1
  cases r with
  | cons r rr =>
    rw [hs]
    refine assignInOrder_cons (thn (h1 pins s σ H _ _ _ I r h) fun _ s1 ⟨σ1, H1, I1, q1⟩ => ?_)
    exact h2 pins s1 σ1 H1 _ _ Q I1 rr q1
/-- (a, b, ..) = a tuple of that length -/
def gTup (K : PySem.W.Frag) (n : Nat) (t : TGs) : TG := fun v σ H Q => ∃ a xs, v = .ref a ∧ SqT K H a xs ∧ xs.length = n ∧ t xs σ H Q
theorem pg_tup {es : List Expr} {k : Nat} {t : TGs} {n : Nat} (hc : X.calm = true) (h : PGs X es t)
    (hn : (assignEach es X.env).length = n := by rfl) (hst : (assignEach es X.env).findIdx? (·.1) = none := by rfl) : PG X (.Tuple es k pos) (gTup X.K n t) := by
  intro pins s σ H v u Q I r hw
  obtain ⟨a, xs, e1, hq, hl, hw⟩ := hw
  subst e1
  cases r
  obtain ⟨its, rv, ht, hz⟩ := I.tuple hq
  refine assign_Tuple_tuple (I.ok.hd hc) ht (by simp [hn, ← hl, rv.length]) hst fun h' hx => ?_
  have I1 : Inv X pins σ H { s with heap := h' } := I.kept (t' := s.toks) fun b o e => hx b o (Nat.ne_of_lt (Heap.lt_size e)) e
  exact h pins _ σ H xs _ Q I1 (by simpa using rv) hw
/-- o[i] = .. -/
def gSub (to ti : TE) (t : TSet) : TG := fun v σ H Q => to σ H fun o H1 => ti σ H1 fun i H2 => t o i v H2 fun H3 => Q σ H3
/-- target = value -/
def tAsg (te : TE) (g : TG) : TS := fun D σ H => te σ H fun x H1 => g x σ H1 D.nx
/-- name = value -/
theorem ps_set {i : Nat} {x : Str} {e : Expr} {te : TE} {pos' : Pos} (hN : X.N.Nodup) (hi : X.N[i]? = some x) (hx : Loc X.env.scope x) (he : PE X e te) (hs : swapsWith e (some (.Name x pos')) pos.line X.env = pure false := by rfl) (hf : X.fn x = true ∨ X.env.scope.names.lookup x = some .local := by first | exact .inl rfl | exact .inr rfl | assumption) :
    PS X (.Assign [.Name x pos'] e pos) (tAsg te (gName i)) := by
  intro pins s σ H D I h
  refine wpAny_Assign_Name (thn (he pins s σ H _ I h) fun v s1 ⟨y, H1, I1, r1, q1⟩ => ?_) hs
  exact store_ok I1 hN hi hx r1 (fun s2 I2 => ⟨_, H1, I2, q1⟩) hf
/-- a, b = x, y with plain local names: stored from the right; the pair itself is not tracked (the opening rows as in PyProof/Rows/TupAssign.lean:23) -/
def tPar (i j : Nat) (ta : TA) : TS := fun D σ H => ta σ H fun vs H1 => ∃ v w, vs = [v, w] ∧ D.nx ((σ.set i (some v)).set j (some w)) H1
/-- name op= e -/
def tAug (i : Nat) (te : TE) (ti : TIp) : TS := fun D σ H => ∃ x, σ[i]? = some (some x) ∧ te σ H fun y H1 => ti x y H1 fun z H2 => D.nx (σ.set i (some z)) H2
/-- o[i] op= e -/
def tAugS (to ti te : TE) (tget : V → V → Hp → VK → Prop) (tip : TIp) (tset : TSet) : TS := fun D σ H => to σ H fun o H1 => ti σ H1 fun i H2 => tget o i H2 fun x H3 => te σ H3 fun y H4 => tip x y H4 fun z H5 => tset o i z H5 fun H6 => D.nx σ H6
/-- o[i], by values -/
def PGet (X : Cx) (t : V → V → Hp → VK → Prop) : Prop :=
  ∀ (pins : List (Addr × Obj)) (s : Shared) (σ : St) (H : Hp) (o i : V) (ov iv : Value) (Q : VK), Inv X pins σ H s → RelV o ov → RelV i iv → t o i H Q →
    wpAny (model X.prog X.w) X.A (getItem ov iv) (EP X pins σ Q) X.xe s
/-- ints -/
def ipI (f : Int → Int → Int) : TIp := fun x y H Q => ∃ i j, x = .int i ∧ y = .int j ∧ Q (.int (f i j)) H
end
/-! ### while -/
section
variable {X : Cx} {pos : Pos}
/-- the invariant W with its measure -/
def tWhile (c : TT) (tb : TS) : TS := fun D σ H => ∃ W : Nat → St → Hp → Prop, (∃ m, W m σ H) ∧ ∀ m σ H, W m σ H →
  c σ H fun b H1 => if b = true then ∃ N : St → Hp → Prop, (∀ σ' H', N σ' H' → ∃ m', m' < m ∧ W m' σ' H') ∧ tb { D with nx := N, ct := N, bk := D.nx } σ H1 else D.nx σ H1
end
/-! ### what a loop or a comprehension walks -/
/-- at turn i: it yields x (the heap may grow), or it stops -/
structure It where
  go : Nat → Hp → Prop
  yld : Nat → Hp → V → Hp → Prop
  stop : Nat → Hp → Prop
/-- the iterator's own objects may turn: they are not the frame's, not pinned, younger than the entry (or a comprehension's own) -/
def FpOk (X : Cx) (pins : List (Addr × Obj)) (H : Hp) (b : Addr) : Prop :=
  H b = none ∧ b ≠ X.env.locals ∧ b ∉ X.fs ∧ (b ∈ X.ex ∨ X.s₀.heap.objs.size ≤ b) ∧ (∀ x c, X.env.cells.lookup x = some c → c ≠ b) ∧ ∀ p ∈ X.pn ++ pins, p.1 ≠ b
theorem Inv.fpOk {X : Cx} {pins : List (Addr × Obj)} {σ : St} {H H' : Hp} {s : Shared} {b : Addr} (I : Inv X pins σ H s) (hb : s.heap.objs.size ≤ b) (hn : H' b = none) : FpOk X pins H' b := by
  refine ⟨hn, Nat.ne_of_gt (Nat.lt_of_lt_of_le I.lt hb), I.nofs hb, .inr (Nat.le_trans I.sz hb), fun x c e z => ?_, fun p hp z => ?_⟩
  · obtain ⟨v, q⟩ := I.cell x c e
    exact absurd (Nat.lt_of_lt_of_le q.lt (by rw [z]; exact hb)) (Nat.lt_irrefl _)
  · exact absurd (Nat.lt_of_lt_of_le (Heap.lt_size (I.pin p hp).1) (by rw [z]; exact hb)) (Nat.lt_irrefl _)
structure Turn (P : Program) (w : World) (K : PySem.W.Frag) (tg : Expr) (J : It) (fp : List Addr) (it : Addr) (tn : Nat → Heap → Prop) : Prop where
  mem : it ∈ fp
  obj : ∀ i h, tn i h → ∀ b ∈ fp, ∃ o, h.get? b = some o ∧ ∀ v, o.data ≠ .cell v
  keep : ∀ i h h', tn i h → (∀ b ∈ fp, ∀ o, h.get? b = some o → h'.get? b = some o) → tn i h'
  item : ∀ (X : Cx), X.prog = P → X.w = w → X.K = K → X.calm = true → ∀ (i : Nat) (pins : List (Addr × Obj)) (s : Shared) (σ : St) (H : Hp) (E : Value → Shared → Prop), Inv X pins σ H s → (∀ b ∈ fp, FpOk X pins H b) → tn i s.heap → J.go i H →
    wpAny (model P w) X.A (pyNext (.ref it)) (fun r s1 => ∃ u, r = some u ∧
      wpAny (model P w) X.A (letOwnedTupleGo tg (.ref it) u) (fun _ s2 => ∃ x H', Inv X pins σ H' s2 ∧ RelV x u ∧ J.yld i H x H' ∧ tn (i + 1) s2.heap ∧ ∀ b ∈ fp, H' b = none) E s1) E s
  done : ∀ (X : Cx), X.prog = P → X.w = w → X.K = K → X.calm = true → ∀ (i : Nat) (pins : List (Addr × Obj)) (s : Shared) (σ : St) (H : Hp) (E : Value → Shared → Prop), Inv X pins σ H s → (∀ b ∈ fp, FpOk X pins H b) → tn i s.heap → J.stop i H →
    wpAny (model P w) X.A (pyNext (.ref it)) (fun r s1 => r = none ∧ Inv X pins σ H s1) E s
  self : ∀ (A : Around) (i : Nat) (s : Shared) (Q : Value → Shared → Prop) (E : Value → Shared → Prop), tn i s.heap → Q (.ref it) s → wpAny (model P w) A (pyIter (.ref it)) Q E s
abbrev TI := St → Hp → (It → Hp → Prop) → Prop
/-- an iterator has come -/
def PIE (X : Cx) (pins : List (Addr × Obj)) (σ : St) (tg : Expr) (R : It → Hp → Prop) (itv : Value) (s2 : Shared) : Prop :=
  ∃ (it : Addr) (fp : List Addr) (tn : Nat → Heap → Prop) (J : It) (H' : Hp), itv = .ref it ∧ Inv X pins σ H' s2 ∧ Turn X.prog X.w X.K tg J fp it tn ∧ tn 0 s2.heap ∧ (∀ b ∈ fp, FpOk X pins H' b) ∧ R J H'
def PI (X : Cx) (tg iter : Expr) (wi : TI) : Prop :=
  ∀ (pins : List (Addr × Obj)) (s : Shared) (σ : St) (H : Hp) (R : It → Hp → Prop), Inv X pins σ H s → wi σ H R →
    wpAny (model X.prog X.w) X.A (eval iter X.env) (fun v s1 => wpAny (model X.prog X.w) X.A (pyIter v) (PIE X pins σ tg R) X.xe s1) X.xe s
/-- the step ahead of the store is nothing for an iterator that keeps no tuple -/
theorem go_of {M : Model} {A : Around} {E : Value → Shared → Prop} {s : Shared} {tg : Expr} {it : Addr} {u : Value} {o : Obj} {n : String} {vs : Array Value} {Q : Unit → Shared → Prop} (ho : s.heap.get? it = some o) (hc : o.cls = .type n) (hd : o.data = .fields vs)
    (hn : ["enumerate", "zip", "dict_itemiterator", "dict_reverseitemiterator", "odict_iterator", "itertools.zip_longest", "itertools.pairwise"].contains n = false) (hQ : Q () s) : wpAny M A (letOwnedTupleGo tg (.ref it) u) Q E s := by
  unfold letOwnedTupleGo
  cases tg <;> first
    | exact wpAny_pure hQ
    | (cases u <;> first
        | exact wpAny_pure hQ
        | (refine wpAny_bind (wpAny_load ho ?_)
           rw [hc, hd]
           show wpAny M A (if (["enumerate", "zip", "dict_itemiterator", "dict_reverseitemiterator", "odict_iterator", "itertools.zip_longest", "itertools.pairwise"].contains n && vs[0]? == some (rawInt _)) = true then _ else _) Q E s
           rw [if_neg (by intro h; rw [hn, Bool.false_and] at h; cases h)]
           exact wpAny_pure hQ))
/-- the list at a, as it stands at each turn (a loop may append to it) -/
def Itl (K : PySem.W.Frag) (a : Addr) : It :=
  ⟨fun i H => ∃ xs x, SqL K H a xs ∧ xs[i]? = some x, fun i H x H' => H' = H ∧ ∀ xs, SqL K H a xs → xs[i]? = some x, fun i H => ∃ xs, SqL K H a xs ∧ xs.length ≤ i⟩
def Itt (K : PySem.W.Frag) (a : Addr) : It :=
  ⟨fun i H => ∃ xs x, SqT K H a xs ∧ xs[i]? = some x, fun i H x H' => H' = H ∧ ∀ xs, SqT K H a xs → xs[i]? = some x, fun i H => ∃ xs, SqT K H a xs ∧ xs.length ≤ i⟩
/-- lo, lo + 1, .. (n of them) -/
def Itr (lo : Int) (n : Nat) : It := ⟨fun i _ => i < n, fun i H x H' => H' = H ∧ x = .int (lo + i), fun i _ => n ≤ i⟩
theorem turn_list {P : Program} {w : World} {K : PySem.W.Frag} {tg : Expr} (a it : Addr) : Turn P w K tg (Itl K a) [it] it (fun i h => h.IsListIter it a i) where
  mem := by simp
  obj := fun i h st b hb => by
    have e : b = it := by simpa using hb
    subst e
    obtain ⟨o, e, c, d⟩ := st
    exact ⟨o, e, fun v z => by rw [d] at z; cases z⟩
  keep := fun i h h' st k => st.at fun o e => k it (by simp) o e
  item := by
    intro X hP hw hK hc i pins s σ H E I hf st hg
    subst hP hw hK
    obtain ⟨xs, x, hq, hx⟩ := hg
    obtain ⟨its, rv, p, hz⟩ := I.list hq
    obtain ⟨u, hu, ru⟩ := rv.get hx
    obtain ⟨f0, f1, f2, f3, f4, f5⟩ := hf it (by simp)
    refine wpAny_pyNext_list_item st p.isList (x := u) (by simpa using hu) fun h' st' sb => ?_
    have I1 : Inv X pins σ H { s with heap := h' } := I.turned (t' := s.toks) (fun b o hb e => (sb.2 b hb).trans e) f0 f1 f3 f4 f5
    obtain ⟨o, e, c, d⟩ := id st'
    exact ⟨u, rfl, go_of (s := { s with heap := h' }) e c d (by decide) ⟨x, H, I1, ru, ⟨rfl, fun ys hy => by rw [I.list_inj hy hq]; exact hx⟩, st', fun b hb => (hf b hb).1⟩⟩
  done := by
    intro X hP hw hK hc i pins s σ H E I hf st hg
    subst hP hw hK
    obtain ⟨xs, hq, hx⟩ := hg
    obtain ⟨its, rv, p, hz⟩ := I.list hq
    obtain ⟨f0, f1, f2, f3, f4, f5⟩ := hf it (by simp)
    have hl := rv.length
    exact wpAny_pyNext_list_end (I.ok.hd hc) st p.isList (by simp; omega) fun h' eb => ⟨rfl, I.turned (t' := s.toks) (fun b o hb e => eb b o hb e) f0 f1 f3 f4 f5⟩
  self := fun _ _ _ _ _ st h => wpAny_pyIter_listiter st h
theorem turn_tuple {P : Program} {w : World} {K : PySem.W.Frag} {tg : Expr} (a it : Addr) : Turn P w K tg (Itt K a) [it] it (fun i h => h.IsTupleIter it a i) where
  mem := by simp
  obj := fun i h st b hb => by
    have e : b = it := by simpa using hb
    subst e
    obtain ⟨o, e, c, d⟩ := st
    exact ⟨o, e, fun v z => by rw [d] at z; cases z⟩
  keep := fun i h h' st k => st.at fun o e => k it (by simp) o e
  item := by
    intro X hP hw hK hc i pins s σ H E I hf st hg
    subst hP hw hK
    obtain ⟨xs, x, hq, hx⟩ := hg
    obtain ⟨its, rv, p, hz⟩ := I.tuple hq
    obtain ⟨u, hu, ru⟩ := rv.get hx
    obtain ⟨f0, f1, f2, f3, f4, f5⟩ := hf it (by simp)
    refine wpAny_pyNext_tuple_item st (show s.heap.IsTuple a its.toArray from p) (x := u) (by simpa using hu) fun h' st' sb => ?_
    have I1 : Inv X pins σ H { s with heap := h' } := I.turned (t' := s.toks) (fun b o hb e => (sb.2 b hb).trans e) f0 f1 f3 f4 f5
    obtain ⟨o, e, c, d⟩ := id st'
    exact ⟨u, rfl, go_of (s := { s with heap := h' }) e c d (by decide) ⟨x, H, I1, ru, ⟨rfl, fun ys hy => by rw [I.tuple_inj hy hq]; exact hx⟩, st', fun b hb => (hf b hb).1⟩⟩
  done := by
    intro X hP hw hK hc i pins s σ H E I hf st hg
    subst hP hw hK
    obtain ⟨xs, hq, hx⟩ := hg
    obtain ⟨its, rv, p, hz⟩ := I.tuple hq
    obtain ⟨f0, f1, f2, f3, f4, f5⟩ := hf it (by simp)
    have hl := rv.length
    exact wpAny_pyNext_tuple_end (I.ok.hd hc) st (show s.heap.IsTuple a its.toArray from p) (by simp; omega) fun h' eb => ⟨rfl, I.turned (t' := s.toks) (fun b o hb e => eb b o hb e) f0 f1 f3 f4 f5⟩
  self := fun _ _ _ _ _ st h => wpAny_pyIter_tupleiter st h
end L2
namespace L2
open PySem PySem.Spec PyProof.Rows
section
variable {X : Cx} {tg : Expr}
def iList (K : PySem.W.Frag) (tl : TE) : TI := fun σ H R => tl σ H fun x H1 => ∃ a, x = .ref a ∧ (∃ xs, SqL K H1 a xs) ∧ R (Itl K a) H1
def iTup (K : PySem.W.Frag) (tl : TE) : TI := fun σ H R => tl σ H fun x H1 => ∃ a, x = .ref a ∧ (∃ xs, SqT K H1 a xs) ∧ R (Itt K a) H1
theorem pi_list {l : Expr} {tl : TE} (hl : PE X l tl) : PI X tg l (iList X.K tl) := by
  intro pins s σ H R I h
  refine thn (hl pins s σ H _ I h) fun v s1 ⟨x, H1, I1, r1, q1⟩ => ?_
  obtain ⟨a, e, ⟨xs, hq⟩, q⟩ := q1
  subst e
  cases r1
  obtain ⟨its, rv, p, hz⟩ := I1.list hq
  refine wpAny_pyIter_list p.isList ?_
  refine ⟨s1.heap.objs.size, [s1.heap.objs.size], _, _, H1, rfl, I1.kept (t' := s1.toks) fun b o e => Heap.get?_push_of_some _ e, turn_list a _, ⟨_, Heap.get?_push_size _ rfl, rfl, rfl⟩, fun b hb => ?_, q⟩
  have e : b = s1.heap.objs.size := by simpa using hb
  subst e
  exact I1.fpOk (Nat.le_refl _) (I1.hok.fresh (Nat.le_refl _))
theorem pi_tup {l : Expr} {tl : TE} (hl : PE X l tl) : PI X tg l (iTup X.K tl) := by
  intro pins s σ H R I h
  refine thn (hl pins s σ H _ I h) fun v s1 ⟨x, H1, I1, r1, q1⟩ => ?_
  obtain ⟨a, e, ⟨xs, hq⟩, q⟩ := q1
  subst e
  cases r1
  obtain ⟨its, rv, p, hz⟩ := I1.tuple hq
  refine wpAny_pyIter_tuple (show s1.heap.IsTuple a its.toArray from p) ?_
  refine ⟨s1.heap.objs.size, [s1.heap.objs.size], _, _, H1, rfl, I1.kept (t' := s1.toks) fun b o e => Heap.get?_push_of_some _ e, turn_tuple a _, ⟨_, Heap.get?_push_size _ rfl, rfl, rfl⟩, fun b hb => ?_, q⟩
  have e : b = s1.heap.objs.size := by simpa using hb
  subst e
  exact I1.fpOk (Nat.le_refl _) (I1.hok.fresh (Nat.le_refl _))
def iRng1 (ta : TA) : TI := fun σ H R => ta σ H fun vs H1 => ∃ j : Int, vs = [.int j] ∧ -(2 ^ 62) ≤ j ∧ j < 2 ^ 62 ∧ R (Itr 0 j.toNat) H1
def iRng2 (ta : TA) : TI := fun σ H R => ta σ H fun vs H1 => ∃ i j : Int, vs = [.int i, .int j] ∧ (-(2 ^ 62) ≤ i ∧ i < 2 ^ 62 ∧ -(2 ^ 62) ≤ j ∧ j < 2 ^ 62) ∧ R (Itr i (j - i).toNat) H1
/-! ### for -/
/-- W: the invariant by the turn and a measure; N: what the body is to reach -/
def tFor (wi : TI) (g : TG) (tb : TS) : TS := fun D σ H => wi σ H fun J H1 => ∃ W : Nat → Nat → St → Hp → Prop, (∃ m, W 0 m σ H1) ∧ ∀ i m σ H, W i m σ H →
  (J.stop i H ∧ D.nx σ H) ∨ (J.go i H ∧ ∃ N : St → Hp → Prop, (∀ σ' H', N σ' H' → ∃ m', m' < m ∧ W (i + 1) m' σ' H') ∧ ∀ x H', J.yld i H x H' → g x σ H' fun σ2 H2 => tb { D with nx := N, ct := N, bk := D.nx } σ2 H2)
/-- the records at fp as they stand -/
def pinsAt (fp : List Addr) (h : Heap) : List (Addr × Obj) := fp.filterMap fun b => (h.get? b).map fun o => (b, o)
theorem mem_pinsAt {fp : List Addr} {h : Heap} {b : Addr} {o : Obj} (hb : b ∈ fp) (e : h.get? b = some o) : (b, o) ∈ pinsAt fp h := List.mem_filterMap.mpr ⟨b, hb, by rw [e]; rfl⟩
theorem of_pinsAt {fp : List Addr} {h : Heap} {p : Addr × Obj} (hp : p ∈ pinsAt fp h) : p.1 ∈ fp ∧ h.get? p.1 = some p.2 := by
  obtain ⟨b, hb, e⟩ := List.mem_filterMap.mp hp
  cases q : h.get? b with
  | none => rw [q] at e; cases e
  | some o =>
    rw [q] at e
    have e' : (b, o) = p := Option.some.inj e
    subst e'
    exact ⟨hb, q⟩
theorem Inv.pinned {pins : List (Addr × Obj)} {σ : St} {H : Hp} {s : Shared} {fp : List Addr} (I : Inv X pins σ H s) (hf : ∀ b ∈ fp, FpOk X pins H b) (ho : ∀ b ∈ fp, ∃ o, s.heap.get? b = some o ∧ ∀ v, o.data ≠ .cell v) : Inv X (pins ++ pinsAt fp s.heap) σ H s :=
  I.pins_of fun p hp => (List.mem_append.mp hp).elim (fun z => I.pin p (List.mem_append_right _ z)) fun z => by
    obtain ⟨hb, e⟩ := of_pinsAt z
    obtain ⟨f0, f1, f2, _⟩ := hf p.1 hb
    obtain ⟨o, e', d⟩ := ho p.1 hb
    rw [e] at e'; cases e'
    exact ⟨e, f0, f1, f2, d⟩
theorem Inv.unpinned {pins pl : List (Addr × Obj)} {σ : St} {H : Hp} {s : Shared} (I : Inv X (pins ++ pl) σ H s) : Inv X pins σ H s := I.pins_of fun p hp => I.pin p (List.mem_append_right _ (List.mem_append_left _ hp))
theorem ps_for {iter : Expr} {body : List Stmt} {wi : TI} {g : TG} {tb : TS} {pos : Pos} (hp : PassesOwn (model X.prog X.w) X.A X.env X.xe) (hc : X.calm = true) (hi : PI X tg iter wi) (hg : PG X tg g) (hb : PSs X body tb)
    (hs : ∀ x, foldedSetIterable iter X.env x = pure x := by intro _; rfl) : PS X (.For tg iter body [] pos) (tFor wi g tb) := by
  intro pins s σ H D I h
  refine wpAny_For (thn (hi pins s σ H _ I h) fun v s1 h1 => thn h1 fun itv s2 h2 => ?_) hs
  obtain ⟨it, fp, tn, J, H2, e, I2, T, st2, f2, W, ⟨m0, w0⟩, turn⟩ := h2
  subst e
  -- what stays true of the iterator's objects through the loop
  have stat : ∀ {H' : Hp}, (∀ b ∈ fp, H' b = none) → ∀ b ∈ fp, FpOk X pins H' b := fun hn b hb => ⟨hn b hb, (f2 b hb).2⟩
  refine codeAny_forLoop_any (fun n s' => ∃ i σ' H', Inv X pins σ' H' s' ∧ tn i s'.heap ∧ (∀ b ∈ fp, H' b = none) ∧ W i n σ' H') ?_ m0 ⟨0, σ, H2, I2, st2, fun b hb => (f2 b hb).1, w0⟩
  rintro n s3 ⟨i, σ3, H3, I3, st3, fr3, w3⟩
  rcases turn i n σ3 H3 w3 with ⟨stop, qn⟩ | ⟨go, N, hN, step⟩
  · refine wpAny_passesOwn hp (thn (T.done X rfl rfl rfl hc i pins s3 σ3 H3 X.xe I3 (stat fr3) st3 stop) fun r s4 ⟨hr, I4⟩ => ?_)
    subst hr
    exact wpAny_execs_nil ⟨σ3, H3, I4, qn⟩
  · refine wpAny_passesOwn hp (thn (T.item X rfl rfl rfl hc i pins s3 σ3 H3 X.xe I3 (stat fr3) st3 go) fun r s4 ⟨u, hr, h4⟩ => ?_)
    subst hr
    refine wpAny_passesOwn hp (thn h4 fun _ s5 ⟨x, H5, I5, r5, y5, st5, fr5⟩ => ?_)
    have I5' := I5.pinned (stat fr5) (T.obj _ _ st5)
    refine wpAny_passesOwn hp (thn (hg _ s5 σ3 H5 x u _ I5' r5 (step x H5 y5)) fun _ s6 ⟨σ6, H6, I6, q6⟩ => ?_)
    refine wpAny_passesOwn hp (thn (hb _ s6 σ6 H6 _ I6 q6) fun f s7 q7 => ?_)
    have again : ∀ {σ7 : St} {H7 : Hp}, Inv X (pins ++ pinsAt fp s5.heap) σ7 H7 s7 → N σ7 H7 → ∃ m, m < n ∧ ∃ i σ' H', Inv X pins σ' H' s7 ∧ tn i s7.heap ∧ (∀ b ∈ fp, H' b = none) ∧ W i m σ' H' := fun {σ7 H7} I7 n7 => by
      obtain ⟨m', hm, w7⟩ := hN σ7 H7 n7
      refine ⟨m', hm, i + 1, σ7, H7, I7.unpinned, T.keep _ _ _ st5 fun b hb o e => (I7.pin (b, o) (List.mem_append_right _ (List.mem_append_right _ (mem_pinsAt hb e)))).1, fun b hb => ?_, w7⟩
      obtain ⟨o, e, d⟩ := T.obj _ _ st5 b hb
      exact (I7.pin (b, o) (List.mem_append_right _ (List.mem_append_right _ (mem_pinsAt hb e)))).2.1
    cases f with
    | next => obtain ⟨σ7, H7, I7, n7⟩ := q7; exact again I7 n7
    | cont => obtain ⟨σ7, H7, I7, n7⟩ := q7; exact again I7 n7
    | brk => obtain ⟨σ7, H7, I7, q7⟩ := q7; exact ⟨σ7, H7, I7.unpinned, q7⟩
    | ret v => obtain ⟨x7, σ7, H7, I7, r7, q7⟩ := q7; exact ⟨x7, σ7, H7, I7.unpinned, r7, q7⟩
end
/-! ### the forms one uses -/
end L2
namespace L2
open PySem PySem.Spec PyProof.Rows
abbrev R2 := V → V → Hp → VK → Prop
/-- a two-place operation on values: f is binaryOp op, inplaceOp op or compareOp op -/
def OpR (X : Cx) (f : Value → Value → Sem Value) (r : R2) : Prop :=
  ∀ (pins : List (Addr × Obj)) (s : Shared) (σ : St) (H : Hp) (x y : V) (v u : Value) (Q : VK), Inv X pins σ H s → RelV x v → RelV y u → r x y H Q →
    wpAny (model X.prog X.w) X.A (f v u) (EP X pins σ Q) X.xe s
/-- a one-place operation -/
def UnR (X : Cx) (f : Value → Sem Value) (r : V → Hp → VK → Prop) : Prop :=
  ∀ (pins : List (Addr × Obj)) (s : Shared) (σ : St) (H : Hp) (x : V) (v : Value) (Q : VK), Inv X pins σ H s → RelV x v → r x H Q →
    wpAny (model X.prog X.w) X.A (f v) (EP X pins σ Q) X.xe s
/-- a call of a value that is known (a builtin, a type) with values -/
def CallR (X : Cx) (f : Value) (r : List V → Hp → VK → Prop) : Prop :=
  ∀ (pins : List (Addr × Obj)) (s : Shared) (σ : St) (H : Hp) (xs : List V) (us : List Value) (Q : VK), Inv X pins σ H s → Vals xs us → r xs H Q →
    wpAny (model X.prog X.w) X.A (call f us) (EP X pins σ Q) X.xe s
/-- a value's truth -/
def TruR (X : Cx) (r : V → Hp → (Bool → Hp → Prop) → Prop) : Prop :=
  ∀ (pins : List (Addr × Obj)) (s : Shared) (σ : St) (H : Hp) (x : V) (v : Value) (Q : Bool → Hp → Prop), Inv X pins σ H s → RelV x v → r x H Q →
    wpAny (model X.prog X.w) X.A (truthy v) (TP X pins σ Q) X.xe s
def tOp (r : R2) (ta tb : TE) : TE := fun σ H Q => ta σ H fun x H1 => tb σ H1 fun y H2 => r x y H2 Q
def tUn (r : V → Hp → VK → Prop) (ta : TE) : TE := fun σ H Q => ta σ H fun x H1 => r x H1 Q
/-- ints in, under C, and a value out -/
def rI (C : Int → Int → Prop) (g : Int → Int → V) : R2 := fun x y H Q => ∃ i j, x = .int i ∧ y = .int j ∧ C i j ∧ Q (g i j) H
def rI0 (g : Int → Int → V) : R2 := fun x y H Q => ∃ i j, x = .int i ∧ y = .int j ∧ Q (g i j) H
def rU (g : Int → V) : V → Hp → VK → Prop := fun x H Q => ∃ i, x = .int i ∧ Q (g i) H
section
variable {X : Cx} {a b c : Expr} {ta tb tc : TE} {pos : Pos}
theorem binT (ha : PE X a ta) (hb : PE X b tb) {pins : List (Addr × Obj)} {s : Shared} {σ : St} {H : Hp} {R : V → V → Hp → Prop} (I : Inv X pins σ H s)
    (h : ta σ H fun x H1 => tb σ H1 fun y H2 => R x y H2) {Q : Value → Shared → Prop} {f : Value → Value → Sem Value}
    (hf : ∀ v u s2 x y H2, Inv X pins σ H2 s2 → RelV x v → RelV y u → R x y H2 → wpAny (model X.prog X.w) X.A (f v u) Q X.xe s2) :
    wpAny (model X.prog X.w) X.A (eval a X.env) (fun v s₁ => wpAny (model X.prog X.w) X.A (eval b X.env) (fun u s₂ => wpAny (model X.prog X.w) X.A (f v u) Q X.xe s₂) X.xe s₁) X.xe s := by
  refine thn (ha pins s σ H _ I h) fun v s1 ⟨x, H1, I1, r1, q1⟩ => ?_
  refine thn (hb pins s1 σ H1 _ I1 q1) fun u s2 ⟨y, H2, I2, r2, q2⟩ => ?_
  exact hf v u s2 x y H2 I2 r1 r2 q2
theorem pe_op {op : Operator} {r : R2} (ho : OpR X (binaryOp op) r) (ha : PE X a ta) (hb : PE X b tb) : PE X (.BinOp a op b pos) (tOp r ta tb) := by
  intro pins s σ H Q I h
  exact wpAny_BinOp (binT ha hb I h fun v u s2 x y H2 I2 rx ry q => ho pins s2 σ H2 x y v u Q I2 rx ry q)
/-! ### ints -/
theorem opI {f : Value → Value → Sem Value} {C : Int → Int → Prop} {g : Int → Int → Int}
    (rule : ∀ (i j : Int) (t u : Tok) (s : Shared) (Q : Value → Shared → Prop) (E : Value → Shared → Prop), C i j → Q (.int (g i j) s.toks) { s with toks := s.toks + 1 } → wpAny (model X.prog X.w) X.A (f (.int i t) (.int j u)) Q E s) :
    OpR X f (rI C fun i j => .int (g i j)) := by
  intro pins s σ H x y v u Q I rx ry h
  obtain ⟨i, j, rfl, rfl, hc, q⟩ := h
  obtain ⟨t, rfl⟩ := rx
  obtain ⟨t', rfl⟩ := ry
  exact rule i j t t' s _ _ hc ⟨.int (g i j), H, I.tok _, ⟨_, rfl⟩, q⟩
theorem opI0 {f : Value → Value → Sem Value} {g : Int → Int → Int}
    (rule : ∀ (i j : Int) (t u : Tok) (s : Shared) (Q : Value → Shared → Prop) (E : Value → Shared → Prop), Q (.int (g i j) s.toks) { s with toks := s.toks + 1 } → wpAny (model X.prog X.w) X.A (f (.int i t) (.int j u)) Q E s) :
    OpR X f (rI0 fun i j => .int (g i j)) := by
  intro pins s σ H x y v u Q I rx ry h
  obtain ⟨i, j, rfl, rfl, q⟩ := h
  obtain ⟨t, rfl⟩ := rx
  obtain ⟨t', rfl⟩ := ry
  exact rule i j t t' s _ _ ⟨.int (g i j), H, I.tok _, ⟨_, rfl⟩, q⟩
theorem opB0 {f : Value → Value → Sem Value} {g : Int → Int → Bool}
    (rule : ∀ (i j : Int) (t u : Tok) (s : Shared) (Q : Value → Shared → Prop) (E : Value → Shared → Prop), Q (.bool (g i j)) s → wpAny (model X.prog X.w) X.A (f (.int i t) (.int j u)) Q E s) :
    OpR X f (rI0 fun i j => .bl (g i j)) := by
  intro pins s σ H x y v u Q I rx ry h
  obtain ⟨i, j, rfl, rfl, q⟩ := h
  obtain ⟨t, rfl⟩ := rx
  obtain ⟨t', rfl⟩ := ry
  exact rule i j t t' s _ _ ⟨.bl (g i j), H, I, rfl, q⟩
def CDiv (i j : Int) : Prop := 0 < j ∧ j < 1073741824
def CDivN (i j : Int) : Prop := j ≠ 0 ∧ j.natAbs < 1073741824
def CPow (i j : Int) : Prop := 0 ≤ j ∧ j ≤ 1000000 ∧ i.natAbs < 2 ^ 64
def CMul (i j : Int) : Prop := (-(2 ^ 64) < i ∧ i < 2 ^ 64) ∨ (-(2 ^ 64) < j ∧ j < 2 ^ 64)
theorem CMul.ok {i j : Int} (h : CMul i j) : IntMulOk i j := by
  rcases h with ⟨h1, h2⟩ | ⟨h1, h2⟩
  · exact .of_left (intBits_le_64 h1 h2)
  · exact .of_right (intBits_le_64 h1 h2)
theorem op_add : OpR X (binaryOp .Add) (rI0 fun i j => .int (i + j)) := opI0 fun _ _ _ _ _ _ _ q => add_int q
theorem op_mul : OpR X (binaryOp .Mult) (rI CMul fun i j => .int (i * j)) := opI fun _ _ _ _ _ _ _ hc q => mul_int q hc.ok
/-- % by a positive divisor of any size -/
theorem op_mod : OpR X (binaryOp .Mod) (rI (fun _ j => 0 < j) fun i j => .int (i % j)) := opI fun i j _ _ _ _ _ hc q => by
  have h1 : (0 : Int) < j := hc
  exact mod_int' (by omega) (by rw [Int.fmod_eq_emod_of_nonneg i (by omega)]; exact q)
theorem op_pow : OpR X (binaryOp .Pow) (rI CPow fun i j => .int (i ^ j.toNat)) := opI fun _ _ _ _ _ _ _ hc q => pow_int_small hc.1 hc.2.1 hc.2.2 q
/-! ### bools among ints: n += (a < b) -/
end
/-! ### comparisons -/
/-- the scalars that == tells apart as data does -/
def scal : V → V → Bool
  | .non, .non => true | .non, .int _ => true | .int _, .non => true | .non, .bl _ => true | .bl _, .non => true | .non, .str _ => true | .str _, .non => true
  | .int _, .int _ => true | .bl _, .bl _ => true | .str _, .str _ => true | .byt _, .byt _ => true
  | .int _, .str _ => true | .str _, .int _ => true | .bl _, .str _ => true | .str _, .bl _ => true
  | _, _ => false
def rEq : R2 := fun x y H Q => scal x y = true ∧ Q (.bl (decide (x = y))) H
def rNe : R2 := fun x y H Q => scal x y = true ∧ Q (.bl (!decide (x = y))) H
section
variable {X : Cx} {a b c : Expr} {ta tb tc : TE} {pos : Pos}
theorem fin_bl {pins : List (Addr × Obj)} {σ : St} {H : Hp} {s : Shared} {Q : VK} {k k' : Bool} (I : Inv X pins σ H s) (q : Q (.bl k) H) (e : k = k') : EP X pins σ Q (.bool k') s := by
  subst e
  exact ⟨.bl k, H, I, rfl, q⟩
theorem op_lt : OpR X (compareOp .Lt) (rI0 fun i j => .bl (decide (i < j))) := opB0 fun _ _ _ _ _ _ _ q => lt_int q
theorem op_gt : OpR X (compareOp .Gt) (rI0 fun i j => .bl (decide (j < i))) := opB0 fun _ _ _ _ _ _ _ q => gt_int q
/-- the one string within the other -/
theorem op_in_str : OpR X (compareOp .In) (fun x y H Q => ∃ i j, x = .str i ∧ y = .str j ∧ Q (.bl (!(Builtin.Str.occurrences j i 0 j.length 1).isEmpty)) H) := by
  intro pins s σ H x y v u Q I rx ry h
  obtain ⟨i, j, rfl, rfl, q⟩ := h
  obtain ⟨t, rfl⟩ := rx
  obtain ⟨t', rfl⟩ := ry
  exact in_str (fin_bl I q rfl)
/-- is None, is not None: the right side a value none -/
theorem op_isN : OpR X (compareOp .Is) (fun x y H Q => y = .non ∧ Q (.bl (decide (x = .non))) H) := by
  intro pins s σ H x y v u Q I rx ry h
  obtain ⟨rfl, q⟩ := h
  cases ry
  refine is_none_gen (fin_bl I q ?_)
  cases x <;> first
    | (cases rx; rfl)
    | (obtain ⟨t, rfl⟩ := rx; rfl)
/-- is, is not of two objects that are tracked lists or instances -/
def isObj : HO → Bool
  | .lst _ => true
  | .ins _ _ _ => true
  | _ => false
/-- two rules for one operation: by cases -/
theorem OpR.or {f : Value → Value → Sem Value} {r r' : R2} (h : OpR X f r) (h' : OpR X f r') : OpR X f (fun x y H Q => r x y H Q ∨ r' x y H Q) := by
  intro pins s σ H x y v u Q I rx ry q
  rcases q with q | q
  · exact h pins s σ H x y v u Q I rx ry q
  · exact h' pins s σ H x y v u Q I rx ry q
theorem nomark (b : Expr) {op : CmpOp} (h : op ≠ .In := by decide) (h2 : op ≠ .NotIn := by decide) : behindInMarks op b = false := by
  have e1 : (op == CmpOp.In) = false := by cases op <;> first | rfl | exact absurd rfl h
  have e2 : (op == CmpOp.NotIn) = false := by cases op <;> first | rfl | exact absurd rfl h2
  cases b <;> simp [behindInMarks, e1, e2]
/-- a comparison as a value; hm: nomark b, or (for in, not in) by with_unfolding_all rfl -/
theorem pe_cmpR {op : CmpOp} {r : R2} (ho : OpR X (compareOp op) r) (ha : PE X a ta) (hb : PE X b tb) (hm : behindInMarks op b = false) : PE X (.Compare a [op] [b] pos) (tOp r ta tb) := by
  intro pins s σ H Q I h
  exact wpAny_Compare1 (binT ha hb I h fun v u s2 x y H2 I2 rx ry q => ho pins s2 σ H2 x y v u Q I2 rx ry q) hm
/-- a reading of a value as a test -/
def tTest (t : TE) : TT := fun σ H Q => t σ H fun x H' => ∃ k, x = .bl k ∧ Q k H'
theorem pt_cmpR {op : CmpOp} {r : R2} (ho : OpR X (compareOp op) r) (ha : PE X a ta) (hb : PE X b tb) (hm : behindInMarks op b = false) : PT X (.Compare a [op] [b] pos) (tTest (tOp r ta tb)) := by
  intro pins s σ H Q I h
  refine wpAny_isTrue_Compare1 (thn (ha pins s σ H _ I h) fun v s1 ⟨x, H1, I1, r1, q1⟩ => thn (hb pins s1 σ H1 _ I1 q1) fun u s2 ⟨y, H2, I2, r2, q2⟩ =>
    thn (ho pins s2 σ H2 x y v u _ I2 r1 r2 q2) fun c s3 ⟨z, H3, I3, r3, k, e, q3⟩ => ?_) hm
  subst e
  cases r3
  exact wpAny_truthy_bool ⟨H3, I3, q3⟩
/-- a op1 b op2 c -/
def tChain (r r' : R2) (ta tb tc : TE) : TE := fun σ H Q => ta σ H fun x H1 => tb σ H1 fun y H2 => r x y H2 fun z H3 => ∃ k, z = .bl k ∧
  (if k = true then tc σ H3 fun w' H4 => r' y w' H4 Q else Q (.bl false) H3)
/-! ### truth -/
/-- a value's truth by the abstract heap -/
def TruV (K : PySem.W.Frag) (x : V) (H : Hp) (k : Bool) : Prop :=
  match x with
  | .non => k = false
  | .bl b => k = b
  | .int i => k = (i != 0)
  | .str y => y.length ≤ sizeLine ∧ k = ((y.length : Int) != 0)
  | .byt y => y.size ≤ sizeLine ∧ k = ((y.size : Int) != 0)
  | .ref p => (∃ xs, SqL K H p xs ∧ k = !xs.isEmpty) ∨ (∃ xs, SqT K H p xs ∧ k = !xs.isEmpty) ∨ ∃ kvs, H p = some (.dK kvs) ∧ k = !kvs.isEmpty
  | _ => False
theorem isEmpty_kv {κ : Type} {kvs : List (κ × V)} {vs : List (κ × Value)} (r : KV kvs vs) : (!vs.isEmpty) = !kvs.isEmpty := by
  cases r <;> rfl
theorem isEmpty_of {xs : List V} {its : List Value} (r : Vals xs its) : (!its.toArray.isEmpty) = !xs.isEmpty := by
  cases r <;> simp
theorem line63 : (sizeLine : Nat) < 2 ^ 63 := by rw [sizeLine_eq]; decide
theorem tru_ok : TruR X (fun x H Q => ∃ k, TruV X.K x H k ∧ Q k H) := by
  intro pins s σ H x v Q I rx h
  obtain ⟨k, e, q⟩ := h
  have hl := line63
  have hs : sizeLine = 16777216 := sizeLine_eq
  cases x with
  | non =>
    cases rx
    have e' : k = false := e
    subst e'
    exact truthy_none ⟨H, I, q⟩
  | bl b =>
    cases rx
    have e' : k = b := e
    subst e'
    exact wpAny_truthy_bool ⟨H, I, q⟩
  | int i =>
    obtain ⟨t, rfl⟩ := rx
    have e' : k = (i != 0) := e
    subst e'
    exact PySem.P.truthy_int ⟨H, I, q⟩
  | str y =>
    obtain ⟨t, rfl⟩ := rx
    obtain ⟨hy, e'⟩ : y.length ≤ sizeLine ∧ k = ((y.length : Int) != 0) := e
    subst e'
    exact PySem.P.truthy_str (by omega) ⟨H, I.tok _, q⟩
  | byt y =>
    obtain ⟨t, rfl⟩ := rx
    obtain ⟨hy, e'⟩ : y.size ≤ sizeLine ∧ k = ((y.size : Int) != 0) := e
    subst e'
    exact PySem.W.truthy_bytes (by omega) ⟨H, I.tok _, q⟩
  | ref p =>
    cases rx
    have e' : (∃ xs, SqL X.K H p xs ∧ k = !xs.isEmpty) ∨ (∃ xs, SqT X.K H p xs ∧ k = !xs.isEmpty) ∨ ∃ kvs, H p = some (.dK kvs) ∧ k = !kvs.isEmpty := e
    rcases e' with ⟨xs, hx, e'⟩ | ⟨xs, hx, e'⟩ | ⟨kvs, hx, e'⟩
    · subst e'
      obtain ⟨its, r, pl, hz⟩ := I.list hx
      have hlen := r.length
      exact wpAny_truthy_list pl.isList (by simp only [List.size_toArray]; omega) ⟨H, I.tok _, by rw [isEmpty_of r]; exact q⟩
    · subst e'
      obtain ⟨its, r, pl, hz⟩ := I.tuple hx
      have hlen := r.length
      exact truthy_tuple pl (by simp only [List.size_toArray]; omega) ⟨H, I.tok _, by rw [isEmpty_of r]; exact q⟩
    · subst e'
      obtain ⟨hz, hS, vs, r, m⟩ : kvs.length ≤ sizeLine ∧ (p == sysModules) = false ∧ ∃ vs, KV kvs vs ∧ s.heap.DictOf (mixKind X.prog X.w) p vs := I.hok p _ hx
      have hlen : kvs.length = vs.length := Paired.length r
      exact wpAny_truthy_dict hS m (by omega) ⟨H, I.tok _, by rw [isEmpty_kv r]; exact q⟩
  | _ => exact (show False from e).elim
/-- any expression whose test is its value's truth (a name, a call, a subscript, a field ..: he by fun _ => rfl) -/
theorem pt_truth (ha : PE X a ta) (he : ∀ whole, isTrue a X.env whole = (do let v ← whole; standAt a.pos; holding [v] (truthy v))) :
    PT X a (fun σ H Q => ta σ H fun x H' => ∃ k, TruV X.K x H' k ∧ Q k H') := by
  intro pins s σ H Q I h
  exact isTrue_plain (thn (ha pins s σ H _ I h) fun v s1 ⟨x, H1, I1, r1, q1⟩ => tru_ok pins s1 σ H1 x v Q I1 r1 q1) (he _)
/-! ### strs and bytes -/
theorem op_add_str : OpR X (binaryOp .Add) (fun x y H Q => ∃ i j, x = .str i ∧ y = .str j ∧ i.length + j.length ≤ sizeLine ∧ Q (.str (i ++ j)) H) := by
  intro pins s σ H x y v u Q I rx ry h
  obtain ⟨i, j, rfl, rfl, hz, q⟩ := h
  obtain ⟨t, rfl⟩ := rx
  obtain ⟨t', rfl⟩ := ry
  exact add_str (fun t' tk => ⟨.str (i ++ j), H, I.tok _, ⟨_, rfl⟩, q⟩) hz
def PlainIxT (b : Expr) : Prop := ∀ o i, subscripted b false o i = operate [o, i] (getItem o i)
/-! ### scalar builtins, by CallR -/
theorem vals1 {x : V} {us : List Value} (r : Vals [x] us) : ∃ u, us = [u] ∧ RelV x u := by
  cases r with
  | cons r1 r2 => cases r2; exact ⟨_, rfl, r1⟩
theorem vals2 {x y : V} {us : List Value} (r : Vals [x, y] us) : ∃ u w', us = [u, w'] ∧ RelV x u ∧ RelV y w' := by
  cases r with
  | cons r1 r2 =>
    cases r2 with
    | cons r3 r4 => cases r4; exact ⟨_, _, rfl, r1, r3⟩
theorem call_int1 : CallR X (.type "int") (fun xs H Q => (∃ i, xs = [.int i] ∧ Q (.int i) H) ∨ ∃ k, xs = [.bl k] ∧ Q (.int (if k then 1 else 0)) H) := by
  intro pins s σ H xs us Q I r h
  rcases h with ⟨i, rfl, q⟩ | ⟨k, rfl, q⟩
  · obtain ⟨u, rfl, t, rfl⟩ := vals1 r
    exact call_int_int ⟨.int i, H, I, ⟨_, rfl⟩, q⟩
  · obtain ⟨u, rfl, r1⟩ := vals1 r
    cases r1
    exact call_int_bool ⟨.int (if k then 1 else 0), H, I.tok _, ⟨_, rfl⟩, q⟩
/-- len of a str, a bytes, a list, a tuple -/
def LenV (K : PySem.W.Frag) (x : V) (H : Hp) (n : Nat) : Prop :=
  match x with
  | .str y => y.length ≤ sizeLine ∧ n = y.length
  | .byt y => y.size ≤ sizeLine ∧ n = y.size
  | .ref p => (∃ xs, SqL K H p xs ∧ n = xs.length) ∨ ∃ xs, SqT K H p xs ∧ n = xs.length
  | _ => False
end
end L2
namespace L2
open PySem PySem.Spec PyProof.Rows
/-! ### an instance, its attributes a map -/
structure ObjM (h : Heap) (x dx C : Addr) (mA : Str → Option Value) : Prop where
  obj : h.get? x = some (PySem.W.instObj C dx)
  ns : h.Ns1 dx mA
  ne : dx ≠ x
theorem lookIn_ns {h : Heap} {dx : Addr} {mA : Str → Option Value} (n : h.Ns1 dx mA) : ∃ od, h.get? dx = some od ∧ ∀ name, PySem.W.lookIn name od = some (mA name) := by
  obtain ⟨o, es, ep, ho, hd, hk, _, hm⟩ := n
  refine ⟨o, ho, fun name => ?_⟩
  have e := hm name
  unfold nsFind findBy at e
  rw [← Array.find?_toList] at e
  unfold PySem.W.lookIn
  rw [hd]
  dsimp only
  split
  · rename_i y q
    rw [q] at e
    exact congrArg some e
  · rename_i q
    rw [q] at e
    have a : es.toList.any (·.refKey) = false := by
      rw [List.any_eq_false]
      intro y hy
      obtain ⟨z, t, hkey⟩ := hk y (Array.mem_toList_iff.mp hy)
      simp [DictEntry.refKey, hkey]
    have a' : ¬ es.toList.any (·.refKey) = true := by rw [a]; exact Bool.false_ne_true
    rw [if_neg a']
    exact congrArg some e
theorem ObjM.look {h : Heap} {x dx C : Addr} {mA : Str → Option Value} (I : ObjM h x dx C mA) : ∃ od, PySem.W.InstAt h x (PySem.W.instObj C dx) C (some od) ∧ ∀ name, PySem.W.lookIn name od = some (mA name) :=
  let ⟨od, ho, hl⟩ := lookIn_ns I.ns
  ⟨od, ⟨I.obj, rfl, rfl, ho⟩, hl⟩
section
variable {prog : Program} {w : World} {A : Around} {E : Value → Shared → Prop} {s : Shared} {K : PySem.W.Frag} {x dx C f : Addr} {mA : Str → Option Value} {name : Str} {v : Value}
end
/-! ### the attributes as a list of pairs -/
def putF (f : Str) (v : V) : List (Str × V) → List (Str × V)
  | [] => [(f, v)]
  | (g, x) :: r => if g = f then (g, v) :: r else (g, x) :: putF f v r
theorem RelO.some_of {v : V} {o : Option Value} (r : RelO (some v) o) : ∃ u, o = some u ∧ RelV v u := by
  cases o with
  | none => exact (show False from r).elim
  | some u => exact ⟨u, rfl, r⟩
theorem RelO.none_of {o : Option Value} (r : RelO none o) : o = none := by
  cases o with
  | none => rfl
  | some u => exact (show False from r).elim
section
variable {P : Program} {w : World} {H H' : Hp} {h h' : Heap} {a C dx : Addr} {fs fs' : List (Str × V)}
theorem ins_get (hok : HOk P w H h) (e : H a = some (.ins C dx fs)) : ∃ mA, ObjM h a dx C mA ∧ (∀ f, RelO (fs.lookup f) (mA f)) ∧ PySem.Within mA (fs.map (·.1)) ∧ fs.length ≤ 1000 ∧ H dx = some (.own a) := by
  obtain ⟨d, z, ne, ob, mA, n, r, q⟩ := (show ObjOk P w H h a (.ins C dx fs) from hok a _ e)
  exact ⟨mA, ⟨ob, n, ne⟩, r, q, z, d⟩
end
/-! ### what of the text a class must have -/
structure Cls (K : PySem.W.Frag) (C : Addr) : Prop where
  pg : PySem.W.plainGet K C Str.empty = true
  hd : PySem.W.hasDictIn K C = true
  po : PySem.W.plainOver K C = true
  sa : PySem.W.findIn K (.ref C) "__setattr__" = some (some (.builtin "object.__setattr__"))
theorem Cls.get {K : PySem.W.Frag} {C : Addr} (c : Cls K C) (f : Str) : PySem.W.plainGet K C f = true := c.pg
/-- no class of it has the name -/
def NoAttr (K : PySem.W.Frag) (C : Addr) (f : Str) : Prop := PySem.W.findIn K (.ref C) f = some none
/-- a constant of the class -/
structure Con (K : PySem.W.Frag) (C : Addr) (f : Str) (v : V) (u : Value) : Prop where
  at_ : PySem.W.findIn K (.ref C) f = some (some u)
  rel : RelV v u
  get : PySem.W.specialIn K u "__get__" = some none
  cp : PySem.W.copiedNames.contains f = false
/-- a method: a plain def of the class or of one above it -/
structure Meth (K : PySem.W.Frag) (C : Addr) (m : Str) (f : Addr) : Prop where
  at_ : PySem.W.findIn K (.ref C) m = some (some (.ref f))
  fn : PySem.W.isFn K (.ref f) = true
  kp : PySem.W.keepIn K (.ref f) = true
section
variable {X : Cx} {pins : List (Addr × Obj)} {σ : St} {H : Hp} {s : Shared} {a C dx : Addr} {fs : List (Str × V)} {f : Str} {v : V} {A : Around} {E : Value → Shared → Prop}
end
/-! ### readings and rules -/
/-- e.f, an attribute of the instance -/
def tFld (K : PySem.W.Frag) (ta : TE) (f : Str) : TE := fun σ H Q => ta σ H fun x H1 => ∃ a C dx fs v, x = .ref a ∧ H1 a = some (.ins C dx fs) ∧ Cls K C ∧ NoAttr K C f ∧ fs.lookup f = some v ∧ Q v H1
/-- e.f, a constant of the class -/
def tCon (K : PySem.W.Frag) (ta : TE) (f : Str) : TE := fun σ H Q => ta σ H fun x H1 => ∃ a C dx fs v u, x = .ref a ∧ H1 a = some (.ins C dx fs) ∧ Cls K C ∧ Con K C f v u ∧ fs.lookup f = none ∧ Q v H1
/-- e.f = value -/
def sFld (K : PySem.W.Frag) (ta tv : TE) (f : Str) : TS := fun D σ H => tv σ H fun y H1 => ta σ H1 fun x H2 => ∃ a C dx fs, x = .ref a ∧ H2 a = some (.ins C dx fs) ∧ Cls K C ∧ NoAttr K C f ∧ fs.length < 1000 ∧
  D.nx σ (upd H2 a (.ins C dx (putF f y fs)))
/-- an augmented operator on two values -/
def InOp (X : Cx) (op : Operator) (rd : V → V → Hp → VK → Prop) : Prop :=
  ∀ (pins : List (Addr × Obj)) (s : Shared) (σ : St) (H : Hp) (x y : V) (u v : Value) (Q : VK), Inv X pins σ H s → RelV x u → RelV y v → rd x y H Q → wpAny (model X.prog X.w) X.A (inplaceOp op u v) (EP X pins σ Q) X.xe s
/-- e.f op= value -/
def sFldAug (K : PySem.W.Frag) (ta tv : TE) (rd : V → V → Hp → VK → Prop) (f : Str) : TS := fun D σ H => ta σ H fun x H1 => ∃ a C dx fs v, x = .ref a ∧ H1 a = some (.ins C dx fs) ∧ Cls K C ∧ NoAttr K C f ∧ fs.lookup f = some v ∧
  tv σ H1 fun y H2 => rd v y H2 fun z H3 => ∃ dx' fs', H3 a = some (.ins C dx' fs') ∧ fs'.length < 1000 ∧ D.nx σ (upd H3 a (.ins C dx' (putF f z fs')))
section
variable {X : Cx} {o e value : Expr} {f : Str} {pos pos' tpos : Pos} {ta tv : TE}
def rAdd : V → V → Hp → VK → Prop := fun x y H Q => ∃ i j, x = .int i ∧ y = .int j ∧ Q (.int (i + j)) H
def rSub : V → V → Hp → VK → Prop := fun x y H Q => ∃ i j, x = .int i ∧ y = .int j ∧ Q (.int (i - j)) H
end
/-! ### isinstance -/
section
variable {X : Cx} {pins : List (Addr × Obj)} {σ : St} {H : Hp} {s : Shared} {A : Around} {E : Value → Shared → Prop} {Q : Value → Shared → Prop} {c : Value} {b : Bool}
/-- the type of a value, as the fragment's deciders take it; for an instance its class -/
inductive TyOf (K : PySem.W.Frag) (H : Hp) : V → Value → Prop where
  | non : TyOf K H .non (.type "NoneType")
  | bl (x : Bool) : TyOf K H (.bl x) (.type "bool")
  | int (i : Int) : TyOf K H (.int i) (.type "int")
  | str (x : Str) : TyOf K H (.str x) (.type "str")
  | flt (x : UInt64) : TyOf K H (.flt x) (.type "float")
  | lst {a : Addr} {xs : List V} (e : H a = some (.lst xs)) : TyOf K H (.ref a) (.type "list")
  | frz {a : Addr} {o : Obj} {xs : List V} (e : H a = some (.frz o (.lst xs))) : TyOf K H (.ref a) (.type "list")
  | tup {a : Addr} {xs : List V} (e : H a = some (.tup xs)) : TyOf K H (.ref a) (.type "tuple")
  | dK {a : Addr} {kvs : List (Key × V)} (e : H a = some (.dK kvs)) : TyOf K H (.ref a) (.type "dict")
  | dT {a : Addr} {kvs : List (List Key × V)} (e : H a = some (.dT kvs)) : TyOf K H (.ref a) (.type "dict")
  | ins {a C dx : Addr} {fs : List (Str × V)} (e : H a = some (.ins C dx fs)) (cl : Cls K C) (ha : PySem.W.findIn K (.ref C) "__class__" = some (some (.builtin "object.__class__")))
      (hn : PySem.W.specialIn K (.builtin "object.__class__") "__get__" = some (some (.builtin "getset_descriptor.__get__"))) (htk : PySem.W.takesIn K (.builtin "object.__class__") = some true)
      (hm : PySem.W.mroIn K C (.type "object") = some true) : TyOf K H (.ref a) (.ref C)
/-- isinstance(x, c) for one class c, a built-in or an own one: kitOne's answer -/
theorem isinst_ok {x : V} {u t : Value} (I : Inv X pins σ H s) (rx : RelV x u) (ty : TyOf X.K H x t) (e : PySem.W.kitOne X.K t c = some b) (h : ∀ tk, Q (.bool b) { s with toks := tk }) :
    wpAny (model X.prog X.w) A (call (.builtin "isinstance") [u, c]) Q E s := by
  cases ty with
  | non => cases (show u = Value.none from rx); exact PySem.W.kia_one PySem.W.kitx_none I.kIn True.intro e (fun z => nomatch z) h
  | bl y => cases (show u = Value.bool y from rx); exact PySem.W.kia_one PySem.W.kitx_bool I.kIn True.intro e (fun z => nomatch z) h
  | int i => obtain ⟨t, q⟩ := (show ∃ t, u = Value.int i t from rx); cases q; exact PySem.W.kia_one PySem.W.kitx_int I.kIn True.intro e (fun z => nomatch z) h
  | str y => obtain ⟨t, q⟩ := (show ∃ t, u = Value.str y t from rx); cases q; exact PySem.W.kia_one PySem.W.kitx_str I.kIn True.intro e (fun z => nomatch z) h
  | flt y => obtain ⟨t, q⟩ := (show ∃ t, u = Value.float y t from rx); cases q; exact PySem.W.kia_one PySem.W.kitx_float I.kIn True.intro e (fun z => nomatch z) h
  | @lst a xs ea =>
    cases (show u = Value.ref a from rx)
    obtain ⟨_, _, n, _, h1⟩ := (show ObjOk X.prog X.w H s.heap a (.lst xs) from I.hok a _ ea)
    exact PySem.W.kia_one PySem.W.kitx_list I.kIn ⟨_, h1, rfl⟩ e (fun z => nomatch z) h
  | @frz a ob xs ea =>
    cases (show u = Value.ref a from rx)
    obtain ⟨_, _, _, n, _, h1⟩ := (show ObjOk X.prog X.w H s.heap a (.frz ob (.lst xs)) from I.hok a _ ea)
    exact PySem.W.kia_one PySem.W.kitx_list I.kIn ⟨_, h1, rfl⟩ e (fun z => nomatch z) h
  | @tup a xs ea =>
    cases (show u = Value.ref a from rx)
    obtain ⟨_, _, _, p⟩ := (show ObjOk X.prog X.w H s.heap a (.tup xs) from I.hok a _ ea)
    obtain ⟨o, h1, h2, _⟩ := p
    exact PySem.W.kia_one PySem.W.kitx_tuple I.kIn ⟨o, h1, h2⟩ e (fun z => nomatch z) h
  | @dK a kvs ea =>
    cases (show u = Value.ref a from rx)
    obtain ⟨_, _, vs, _, p⟩ := (show ObjOk X.prog X.w H s.heap a (.dK kvs) from I.hok a _ ea)
    obtain ⟨o, es, ep, h1, h2, _⟩ := p
    exact PySem.W.kia_one PySem.W.kitx_dict I.kIn ⟨o, h1, h2.1⟩ e (fun z => nomatch z) h
  | @dT a kvs ea =>
    cases (show u = Value.ref a from rx)
    obtain ⟨_, _, xs, _, o, es, ep, h1, h2, _⟩ := (show ObjOk X.prog X.w H s.heap a (.dT kvs) from I.hok a _ ea)
    exact PySem.W.kia_one PySem.W.kitx_dict I.kIn ⟨o, h1, h2.1⟩ e (fun z => nomatch z) h
  | @ins a C dx fs ea cl ha hn htk hm =>
    cases (show u = Value.ref a from rx)
    obtain ⟨mA, O, _⟩ := ins_get I.hok ea
    obtain ⟨od, J, _⟩ := O.look
    exact PySem.W.kia_one (PySem.W.kitx_own (cl.get _) cl.hd ha hn htk hm) I.kIn J e (fun z => nomatch z) h
end
end L2
namespace L2
open PySem PySem.Spec PyProof.Rows
/-! ### room -/
structure Room (k : Nat) (A : Around) : Prop where
  hd : A.handled = none
  dp : A.depth + 3 * k + 5 < recursionLimit
  un : A.units + 16 * k + 200 < cLine
theorem Room.mono {j k : Nat} {A : Around} (r : Room k A) (h : j ≤ k) : Room j A := ⟨r.hd, by have := r.dp; omega, by have := r.un; omega⟩
theorem Room.deeper {k : Nat} {A : Around} (r : Room (k + 1) A) (env : Env) : Room k (A.deeper env) :=
  ⟨r.hd, by have := r.dp; show A.depth + 1 + 3 * k + 5 < _; omega, by have := r.un; show A.units + 3 + 16 * k + 200 < _; omega⟩
theorem Room.depth {k : Nat} {A : Around} (r : Room k A) : A.depth < recursionLimit := by have := r.dp; omega
/-! ### argument lists and displays -/
def tNil : TA := fun _ H Q => Q [] H
def tCons (ta : TE) (tr : TA) : TA := fun σ H Q => ta σ H fun x H1 => tr σ H1 fun xs H2 => Q (x :: xs) H2
section
variable {X : Cx} {e : Expr} {es : List Expr} {te : TE} {t : TA} {pos : Pos}
theorem pa_nil : PA X [] tNil := fun _ _ _ _ H Q I h => Calls.spliced_nil ⟨[], H, I, .nil, h⟩
theorem pa_cons (ha : PE X e te) (hr : PA X es t) (hs : starEach (e :: es) X.env = (false, eval e X.env) :: starEach es X.env := by rfl) : PA X (e :: es) (tCons te t) := by
  intro pos pins s σ H Q I h
  rw [hs]
  show wpAny _ _ (spliced ((false, eval e X.env) :: backTo pos (starEach es X.env))) _ _ s
  refine Calls.spliced_cons (thn (ha pins s σ H _ I h) fun u s1 ⟨x, H1, I1, r1, q1⟩ => ?_)
  exact thn (hr pos pins s1 σ H1 _ I1 q1) fun us s2 ⟨xs, H2, I2, r2, q2⟩ => ⟨x :: xs, H2, I2, .cons r1 r2, q2⟩
/-- a tuple, a list of written items -/
def tTup (t : TA) : TE := fun σ H Q => t σ H fun xs H1 => xs.length ≤ sizeLine ∧ ∀ p, H1 p = none → Q (.ref p) (upd H1 p (.tup xs))
def tLst (t : TA) : TE := fun σ H Q => t σ H fun xs H1 => xs.length ≤ sizeLine ∧ ∀ p, H1 p = none → Q (.ref p) (upd H1 p (.lst xs))
theorem pe_tup {x1} (h : PA X es t) : PE X (.Tuple es x1 pos) (tTup t) := by
  intro pins s σ H Q I hq
  refine wpAny_Tuple_spliced (thn (h pos pins s σ H _ I hq) fun us s1 ⟨xs, H1, I1, r, z, q⟩ => ⟨by rw [← r.length]; exact z, ?_⟩)
  have hf : H1 s1.heap.objs.size = none := I1.hok.fresh (Nat.le_refl _)
  refine ⟨.ref s1.heap.objs.size, upd H1 s1.heap.objs.size (.tup xs), I1.laid (t' := s1.toks) (fun b u e => Heap.get?_push_of_some _ e) (Nat.le_refl _) ?_, rfl, q _ hf⟩
  exact ⟨z, us, r, ⟨_, Heap.get?_push_size _ rfl, rfl, _, rfl⟩⟩
theorem pe_lst (h : PA X es t) : PE X (.List es pos) (tLst t) := by
  intro pins s σ H Q I hq
  refine wpAny_List_spliced (thn (h pos pins s σ H _ I hq) fun us s1 ⟨xs, H1, I1, r, z, q⟩ => ⟨by rw [← r.length]; exact z, ?_⟩)
  have hf : H1 s1.heap.objs.size = none := I1.hok.fresh (Nat.le_refl _)
  refine ⟨.ref s1.heap.objs.size, upd H1 s1.heap.objs.size (.lst xs), I1.laid (t' := s1.toks) (fun b u e => Heap.get?_push_of_some _ e) (Nat.le_refl _) ?_, rfl, q _ hf⟩
  exact ⟨z, us, 0, r, Heap.get?_push_size _ rfl⟩
end
/-! ### what a def promises -/
/-- a def's promise: the bound arguments in the parameters' order, the heap, the wanted end, the wanted exception -/
abbrev Sp := List V → Hp → VK → XK → Prop
/-- how an exception lies behind a call (file 08 gives it): the callers' frames, abstract heap and state ahead of the call, the wish, the exception, the state -/
abbrev CXT := List Env → Hp → Shared → XK → Value → Shared → Prop
/-- the state at a call -/
structure Env0 (P : Program) (w : World) (K : PySem.W.Frag) (mg : Str → Option Value) (base : Heap) (A : Around) (outer : List Env) (s : Shared) (H : Hp) : Prop where
  frames : A.frames = some outer
  mod : Mod K mg base
  bs : ∀ b o, base.get? b = some o → s.heap.get? b = some o ∧ H b = none
  bsz : base.objs.size ≤ s.heap.objs.size
  funs : s.heap.FunFrames base outer
  frf : ∀ b ∈ frs outer, H b = none
  hok : HOk P w H s.heap
  bare : AllBare s.gens
/-- a call's end -/
def CE (outer : List Env) (P : Program) (w : World) (H : Hp) (s : Shared) (Q : VK) (u : Value) (s' : Shared) : Prop :=
  ∃ v H', s'.os = s.os ∧ AllBare s'.gens ∧ Un (frs outer) [] H H' s.heap s'.heap ∧ HOk P w H' s'.heap ∧ RelV v u ∧ Q v H'
def CR (CX : CXT) (outer : List Env) (P : Program) (w : World) (H : Hp) (s : Shared) (Q : VK) (E : XK) (r : Result) (s' : Shared) : Prop :=
  match r with
  | .ok (.ret u) => CE outer P w H s Q u s'
  | .ok _ => False
  | .error e => CX outer H s E e s'
structure FnOk (P : Program) (w : World) (K : PySem.W.Frag) (mg : Str → Option Value) (base : Heap) (CX : CXT) (k : Nat) (f : Addr) (fd : FuncData) (ps : List Str) (sp : Sp) : Prop where
  len : ∀ vs H Q E, sp vs H Q E → vs.length = ps.length
  run : ∀ (A : Around) (outer : List Env) (s : Shared) (H : Hp) (args : Args) (us : List Value) (vs : List V) (Q : VK) (E : XK), Room k A → Env0 P w K mg base A outer s H → BindsTo s fd args (ps.zip us) → Vals vs us → sp vs H Q E →
    codeAny (model P w) A (.call (.ref f) args) (CR CX outer P w H s Q E) s
theorem FnOk.mono {P : Program} {w : World} {K : PySem.W.Frag} {mg : Str → Option Value} {base : Heap} {CX : CXT} {j k : Nat} {f : Addr} {fd : FuncData} {ps : List Str} {sp : Sp} (F : FnOk P w K mg base CX j f fd ps sp) (h : j ≤ k) :
    FnOk P w K mg base CX k f fd ps sp := ⟨F.len, fun A outer s H args us vs Q E hr => F.run A outer s H args us vs Q E (hr.mono h)⟩
/-- a weaker promise -/
theorem FnOk.imp {P : Program} {w : World} {K : PySem.W.Frag} {mg : Str → Option Value} {base : Heap} {CX : CXT} {k : Nat} {f : Addr} {fd : FuncData} {ps : List Str} {sp sp' : Sp} (F : FnOk P w K mg base CX k f fd ps sp)
    (h : ∀ vs H Q E, sp' vs H Q E → sp vs H Q E) : FnOk P w K mg base CX k f fd ps sp' :=
  ⟨fun vs H Q E q => F.len vs H Q E (h _ _ _ _ q), fun A outer s H args us vs Q E hr he hb hv hs => F.run A outer s H args us vs Q E hr he hb hv (h _ _ _ _ hs)⟩
section
variable {X : Cx} {pins : List (Addr × Obj)} {σ : St} {H : Hp} {s s' : Shared}
/-- from a body: what a callee wants -/
theorem Inv.env0 (I : Inv X pins σ H s) : Env0 X.prog X.w X.K X.mg X.base X.A X.stack s H :=
  ⟨I.ok.frames, I.ok.mod, I.bs, Nat.le_trans I.ok.bsz I.sz, I.stack, I.stkFree, I.hok, I.bare⟩
/-- behind a call -/
theorem Inv.after {Q : VK} {u : Value} (I : Inv X pins σ H s) (h : CE X.stack X.prog X.w H s Q u s') : EP X pins σ Q u s' := by
  obtain ⟨v, H', os, bare, un, hok, r, q⟩ := h
  obtain ⟨hh, g, d, t, os'⟩ := s'
  obtain rfl : os' = s.os := os
  exact ⟨v, H', I.call (h' := hh) (g' := g) (d' := d) (t' := t) (ch := []) un hok bare (fun b z => absurd z (by simp)), r, q⟩
end
/-! ### calls -/
/-- f(..): the written arguments, then the defaults dvs; E: what is wanted of an exception -/
def tCall (sp : Sp) (dvs : List V) (E : XK) (t : TA) : TE := fun σ H Q => t σ H fun vs H1 => sp (vs ++ dvs) H1 Q E
/-- o.m(..) of an instance of the class at C -/
def tMeth (C : Addr) (m : Str) (sp : Sp) (dvs : List V) (E : XK) (ta : TE) (t : TA) : TE := fun σ H Q => ta σ H fun x H1 => ∃ a dx fs, x = .ref a ∧ H1 a = some (.ins C dx fs) ∧ fs.lookup m = none ∧
  t σ H1 fun vs H2 => sp (x :: (vs ++ dvs)) H2 Q E
/-- C(..): a new instance and its dict, then __init__ -/
def tMake (C : Addr) (sp : Sp) (dvs : List V) (E : XK) (t : TA) : TE := fun σ H Q => t σ H fun vs H1 => ∀ x dx, H1 x = none → H1 dx = none → dx ≠ x →
  sp (.ref x :: (vs ++ dvs)) (upd (upd H1 dx (.own x)) x (.ins C dx [])) (fun v H2 => v = .non ∧ Q (.ref x) H2) E
/-- how the parameters are bound: us the positional arguments, kw the keywords' values by name, ds the defaults that fill up -/
def Binds (K : PySem.W.Frag) (fd : FuncData) (ps : List Str) (ds : List Value) : Prop :=
  ∀ (s : Shared) (us : List Value), K.In s.heap → (us ++ ds).length = ps.length → BindsTo s fd ⟨us, []⟩ (ps.zip (us ++ ds))
/-- every parameter is given -/
theorem Binds.all {K : PySem.W.Frag} {fd : FuncData} {ps : List Str} (h : ∀ us : List Value, us.length = ps.length → bindArgs fd ⟨us, []⟩ = pure (ps.zip us)) : Binds K fd ps [] := fun s us _ hl => by
  rw [List.append_nil] at hl ⊢
  exact .of_eq (h us hl)
/-- an exception of a callee reaches what this body wants of exceptions -/
def Passes (CX : CXT) (X : Cx) (E : XK) : Prop := ∀ (pins : List (Addr × Obj)) (σ : St) (H : Hp) (s : Shared) (e : Value) (s' : Shared), Inv X pins σ H s → CX X.stack H s E e s' → X.xe e s'
section
variable {X : Cx} {CX : CXT} {k : Nat} {f C : Addr} {fd : FuncData} {ps : List Str} {sp : Sp} {dvs : List V} {ds : List Value} {E : XK} {x m : Str} {p pos apos : Pos} {e o : Expr} {es : List Expr} {ta : TE} {t : TA}
/-- the callee runs -/
theorem run_fn {pins : List (Addr × Obj)} {σ : St} {H : Hp} {s : Shared} {Q : VK} {us : List Value} {vs : List V} (F : FnOk X.prog X.w X.K X.mg X.base CX k f fd ps sp) (hr : Room k X.A) (hb : Binds X.K fd ps ds) (hd : Vals dvs ds) (hx : Passes CX X E)
    (I : Inv X pins σ H s) (r : Vals vs us) (h : sp (vs ++ dvs) H Q E) : wpAny (model X.prog X.w) X.A (call (.ref f) us) (EP X pins σ Q) X.xe s := by
  have r2 : Vals (vs ++ dvs) (us ++ ds) := r.append hd
  have hl : (us ++ ds).length = ps.length := by rw [← r2.length]; exact F.len _ _ _ _ h
  refine wpAny_call (codeAny_mono (F.run X.A X.stack s H ⟨us, []⟩ (us ++ ds) (vs ++ dvs) Q E hr I.env0 (hb s us I.kIn hl) r2 h) fun r s' hq => ?_)
  cases r with
  | error e => exact hx pins σ H s e s' I hq
  | ok fl =>
    cases fl with
    | ret u => exact I.after hq
    | next => exact False.elim hq
    | brk => exact False.elim hq
    | cont => exact False.elim hq
theorem pe_call (F : FnOk X.prog X.w X.K X.mg X.base CX k f fd ps sp) (hr : Room k X.A) (hg : Gl X x) (hm : X.mg x = some (.ref f)) (hk : PySem.W.keepIn X.K (.ref f) = true) (hb : Binds X.K fd ps ds) (hd : Vals dvs ds) (hx : Passes CX X E)
    (ha : PA X (e :: es) t) (hdb : (x == ("__debug__" : Str)) = false := by decide) (he : starEach (e :: es) X.env = (false, eval e X.env) :: starEach es X.env := by rfl) (hpl : (backTo pos (starEach es X.env)).any (·.1) = false := by rfl) :
    PE X (.Call (.Name x p) (e :: es) [] pos) (tCall sp dvs E t) := by
  intro pins s σ H Q I h
  refine wpAny_Call_Name_kw (ld_glob I hg hm ?_ hdb)
  refine PySem.W.callWith_K (h₀ := X.base) I.ok.mod.kin hk (thn (ha pos pins s σ H _ I h) fun us s1 ⟨vs, H1, I1, r, q⟩ => ⟨I1.kIn, ?_⟩) he hpl
  exact run_fn F hr hb hd hx I1 r q
/-- what a class must have to be made -/
structure Mk (K : PySem.W.Frag) (C f : Addr) : Prop where
  makes : PySem.W.makesIn K C = true
  init : PySem.W.findIn K (.ref C) "__init__" = some (some (.ref f))
  fn : PySem.W.isFn K (.ref f) = true
  kp : PySem.W.keepIn K (.ref C) = true
end
/-! ### keywords -/
/-- the values of the keywords, from the left -/
def PK (X : Cx) (kws : List Keyword) (t : TA) : Prop :=
  ∀ (pos : Pos) (pins : List (Addr × Obj)) (s : Shared) (σ : St) (H : Hp) (Q : List V → Hp → Prop), Inv X pins σ H s → t σ H Q → wpAny (model X.prog X.w) X.A (evalAll ((backToKw pos (keywordEach kws X.env)).map (·.2))) (AP X pins σ Q) X.xe s
section
variable {X : Cx} {CX : CXT} {k : Nat} {f C : Addr} {fd : FuncData} {ps ks : List Str} {sp : Sp} {E : XK} {x m : Str} {p pos apos kpos : Pos} {e o : Expr} {es : List Expr} {kws : List Keyword} {te ta : TE} {t tk : TA} {nm : Option Str}
/-- how a call with keywords binds: g puts the positional values us and the keywords' values ws (names ks) in the parameters' order, defaults among them -/
structure KBinds (K : PySem.W.Frag) (fd : FuncData) (ps ks : List Str) (g : List Value → List Value → List Value) (gV : List V → List V → List V) : Prop where
  to : ∀ (s : Shared) (us ws : List Value), K.In s.heap → (g us ws).length = ps.length → BindsTo s fd ⟨us, ks.zip ws⟩ (ps.zip (g us ws))
  rel : ∀ {vs : List V} {us : List Value} {zs : List V} {ws : List Value}, Vals vs us → Vals zs ws → Vals (gV vs zs) (g us ws)
def tCallK (sp : Sp) (gV : List V → List V → List V) (E : XK) (t tk : TA) : TE := fun σ H Q => t σ H fun vs H1 => tk σ H1 fun zs H2 => sp (gV vs zs) H2 Q E
variable {g : List Value → List Value → List Value} {gV : List V → List V → List V}
end
/-! ### a def's body keeps its promise -/
/-- names: the parameters first -/
structure FnScope (N P : List Str) (sc : Scope) : Prop where
  kind : sc.kind = .function
  co : sc.isCoroutine = false
  gen : sc.isGenerator = false
  nd : N.Nodup
  pre : N.take P.length = P
  par : ∀ x ∈ P, sc.names.lookup x = some .local ∨ sc.names.lookup x = some .cell
  nofree : ∀ y ∈ sc.names, y.2 ≠ .free
theorem bindL_out {kindOf : Str → Option NameKind} {x : Str} : ∀ {binds : List (Str × Value)} {m : Str → Option Value}, (∀ v, (x, v) ∉ binds) → bindL kindOf binds m x = m x
  | [], _, _ => rfl
  | (n, v) :: r, m, h => by
    unfold bindL
    rw [bindL_out fun w hw => h w (List.mem_cons_of_mem _ hw)]
    split
    · have : x ≠ n := by rintro rfl; exact h v List.mem_cons_self
      simp [this]
    · rfl
theorem bindC_out {kindOf : Str → Option NameKind} {x : Str} : ∀ {binds : List (Str × Value)} {m : Str → Option Value}, (∀ v, (x, v) ∉ binds) → bindC kindOf binds m x = m x
  | [], _, _ => rfl
  | (n, v) :: r, m, h => by
    unfold bindC
    rw [bindC_out fun w hw => h w (List.mem_cons_of_mem _ hw)]
    split
    · rfl
    · have : x ≠ n := by rintro rfl; exact h v List.mem_cons_self
      simp [this]
theorem bindL_get {kindOf : Str → Option NameKind} {x : Str} {v : Value} : ∀ {P : List Str} {vs : List Value} {i : Nat} {m : Str → Option Value}, P.Nodup → P[i]? = some x → vs[i]? = some v → kindOf x = some .local →
    bindL kindOf (P.zip vs) m x = some v
  | [], _, _, _, _, h, _, _ => by simp at h
  | _ :: _, [], _, _, _, _, h, _ => by simp at h
  | p :: P, w :: vs, 0, m, nd, h1, h2, hk => by
    simp at h1 h2; subst h1; subst h2
    show bindL kindOf ((p, w) :: P.zip vs) m p = _
    unfold bindL
    rw [bindL_out fun v hv => (List.nodup_cons.mp nd).1 (List.of_mem_zip hv).1, if_pos hk]
    simp
  | p :: P, w :: vs, i + 1, m, nd, h1, h2, hk => by
    show bindL kindOf ((p, w) :: P.zip vs) m x = _
    unfold bindL
    exact bindL_get (i := i) (List.nodup_cons.mp nd).2 (by simpa using h1) (by simpa using h2) hk
theorem bindC_get {kindOf : Str → Option NameKind} {x : Str} {v : Value} : ∀ {P : List Str} {vs : List Value} {i : Nat} {m : Str → Option Value}, P.Nodup → P[i]? = some x → vs[i]? = some v → kindOf x ≠ some .local →
    bindC kindOf (P.zip vs) m x = some v
  | [], _, _, _, _, h, _, _ => by simp at h
  | _ :: _, [], _, _, _, _, h, _ => by simp at h
  | p :: P, w :: vs, 0, m, nd, h1, h2, hk => by
    simp at h1 h2; subst h1; subst h2
    show bindC kindOf ((p, w) :: P.zip vs) m p = _
    unfold bindC
    rw [bindC_out fun v hv => (List.nodup_cons.mp nd).1 (List.of_mem_zip hv).1, if_neg hk]
    simp
  | p :: P, w :: vs, i + 1, m, nd, h1, h2, hk => by
    show bindC kindOf ((p, w) :: P.zip vs) m x = _
    unfold bindC
    exact bindC_get (i := i) (List.nodup_cons.mp nd).2 (by simpa using h1) (by simpa using h2) hk
/-- the names' values at the entry -/
def start (N : List Str) (vs : List V) : St := vs.map some ++ List.replicate (N.length - vs.length) none
/-- the context of a def's body, at its entry; an exception leaves the frame, then lies as CX says -/
def cxOf (CX : CXT) (P : Program) (w : World) (K : PySem.W.Frag) (mg : Str → Option Value) (base : Heap) (N : List Str) (qual : Str) (scope : Scope) (f : Addr) (cd : Value) (A : Around) (outer : List Env) (s : Shared) (H : Hp) (E : XK) : Cx where
  prog := P
  w := w
  K := K
  mg := mg
  base := base
  A := A.deeper (envOfC qual scope s.heap.objs.size f cd)
  N := N
  s₀ := s
  H₀ := H
  env := envOfC qual scope s.heap.objs.size f cd
  outer := outer
  stack := envOfC qual scope s.heap.objs.size f cd :: outer
  ex := []
  calm := true
  fn := fun _ => true
  pn := []
  xe := fun e s' => wpAny (model P w) (A.deeper (envOfC qual scope s.heap.objs.size f cd)) (leaving (envOfC qual scope s.heap.objs.size f cd) e) (fun _ s'' => CX outer H s E e s'') (fun e' s'' => CX outer H s E e' s'') s'
theorem cell_has {sc : Scope} {n : Nat} {x : Str} (h : sc.names.lookup x = some .cell) : ∃ c, (cellsFrom n sc.names []).lookup x = some c := by
  have q := PySem.W.cellsFrom_some sc.names n [] (.inl h)
  exact Option.isSome_iff_exists.mp q
theorem inv_start {CX : CXT} {P : Program} {w : World} {K : PySem.W.Frag} {mg : Str → Option Value} {base : Heap} {N ps : List Str} {qual : Str} {scope : Scope} {f : Addr} {cd : Value} {A : Around} {outer : List Env} {s s1 : Shared} {H : Hp} {E : XK} {us : List Value} {vs : List V}
    (S : FnScope N ps scope) (hd : A.handled = none) (e0 : Env0 P w K mg base A outer s H) (hl : vs.length = ps.length) (r : Vals vs us)
    (x : InCallC s s.heap.objs.size (bindL (envOfC qual scope s.heap.objs.size f cd).kindOf (ps.zip us) fun _ => none) (cellsFrom (s.heap.objs.size + 1) scope.names []) (bindC (envOfC qual scope s.heap.objs.size f cd).kindOf (ps.zip us) fun _ => none) s1) :
    Inv (cxOf CX P w K mg base N qual scope f cd A outer s H E) [] (start N vs) H s1 := by
  have hpl : ps.length ≤ N.length := by have := congrArg List.length S.pre; rw [List.length_take] at this; omega
  obtain ⟨h1, tk, rfl, hk⟩ := x.done
  have noA : ∀ b : Addr, b ∉ (cxOf CX P w K mg base N qual scope f cd A outer s H E).ex := fun b z => absurd (show b ∈ ([] : List Addr) from z) (by simp)
  refine ⟨⟨e0.mod, S.kind, rfl, rfl, Nat.le_refl _, fun y z c h1 h2 => ?_, fun y hy => ?_, fun y c _ h => ?_, fun _ => hd, Around.frames_deeper e0.frames, .inr ⟨rfl, rfl⟩, fun b z => absurd z (noA b), e0.bs, e0.bsz, fun b _ _ => noA b, fun b z => absurd z (noA b), e0.funs, e0.frf⟩,
    rfl, e0.bare, Un.kept hk, ⟨_, x.toInCall.ns, fun i y v h1 h2 h3 => ?_⟩, fun y c h => ⟨_, x.cell y c h⟩, e0.hok.fresh (Nat.le_refl _), fun y c h => ?_, fun p hp => absurd (show p ∈ ([] : List (Addr × Obj)) from hp) (by simp), e0.hok.kept hk, ?_⟩
  · exact name_of_addr x.apart (PySem.mem_of_lookup h1) (PySem.mem_of_lookup h2)
  · have hy : scope.names.lookup y = some .cell ∨ scope.names.lookup y = some .free := hy
    rcases hy with hy | hy
    · exact cell_has hy
    · exact absurd rfl (S.nofree _ (PySem.mem_of_lookup hy))
  · exact Nat.le_of_lt (x.above y c (PySem.mem_of_lookup h))
  · have hi : i < vs.length := by
      unfold start at h2
      by_cases hi : i < vs.length
      · exact hi
      · rw [List.getElem?_append_right (by simpa using hi)] at h2
        rw [List.getElem?_replicate] at h2
        split at h2 <;> cases h2
    have ha : vs[i]? = some v := by
      unfold start at h2
      rw [List.getElem?_append_left (by simpa using hi), List.getElem?_map] at h2
      cases e : vs[i]? with
      | none => rw [e] at h2; cases h2
      | some a => rw [e] at h2; cases h2; rfl
    obtain ⟨u, hu, rv⟩ := r.get ha
    have hp : ps[i]? = some y := by
      rw [← S.pre, List.getElem?_take_of_lt (by omega)]; exact h1
    have ndP : ps.Nodup := by rw [← S.pre]; exact S.nd.sublist (List.take_sublist _ _)
    refine ⟨u, rv, ?_⟩
    rcases S.par y (List.mem_of_getElem? hp) with k | k
    · exact .inl ⟨k, bindL_get ndP hp hu k⟩
    · obtain ⟨c, e⟩ := cell_has (n := s.heap.objs.size + 1) k
      refine .inr ⟨.inl k, c, e, ?_⟩
      have q := x.cell y c e
      rw [bindC_get ndP hp hu (by show scope.names.lookup y ≠ _; rw [k]; decide)] at q
      exact q
  · exact e0.hok.fresh (Nat.le_of_lt (x.above y c (PySem.mem_of_lookup h)))
  · unfold start
    show _ = N.length
    rw [List.length_append, List.length_map, List.length_replicate]
    omega
/-- THE RULE: a def (or a method) of the text, by its body. The body's reading t is chosen for each entry; it is run at the parameters' values -/
theorem fn_of {CX : CXT} {P : Program} {w : World} {K : PySem.W.Frag} {mg : Str → Option Value} {base : Heap} {k : Nat} {f : Addr} {name qual : Str} {params : Arguments} {body : List Stmt} {scope : Scope} {dV kV doc pm cdv ct oc : Value} {an od : Option Addr}
    {osl : Array (Option Value)} {N ps : List Str} {sp : Sp} (lk : K.lookup f = some ⟨oc, od, .func (PySem.W.fnOf name qual params body scope dV kV doc pm an cdv ct), osl⟩) (hcd : PySem.W.codeIn K cdv qual = true) (S : FnScope N ps scope)
    (len : ∀ vs H Q E, sp vs H Q E → vs.length = ps.length)
    (hbody : ∀ (A : Around) (outer : List Env) (s : Shared) (H : Hp) (vs : List V) (Q : VK) (E : XK), Room k (A.deeper (envOfC qual scope s.heap.objs.size f cdv)) → sp vs H Q E →
      ∃ t, PSs (cxOf CX P w K mg base N qual scope f cdv A outer s H E) body t ∧ t { nx := fun _ H' => Q .non H', rt := Q } (start N vs) H) :
    FnOk P w K mg base CX (k + 1) f (PySem.W.fnOf name qual params body scope dV kV doc pm an cdv ct) ps sp := by
  refine ⟨len, fun A outer s H args us vs Q E hr e0 hb r hsp => ?_⟩
  have hl := len _ _ _ _ hsp
  have KX : K.In s.heap := e0.mod.kin.keeps fun b o e => (e0.bs b o e).1
  have lim : s.heap.NoLimit := e0.mod.nolimit.keeps fun b o e => (e0.bs b o e).1
  have hkind : ∀ y ∈ ps.zip us, scope.names.lookup y.1 = some .local ∨ (scope.names.lookup y.1 = some .cell ∧ ((cellsFrom (s.heap.objs.size + 1) scope.names []).lookup y.1).isSome = true) := fun ⟨n, v⟩ hy => by
    rcases S.par n (List.of_mem_zip hy).1 with q | q
    · exact .inl q
    · exact .inr ⟨q, PySem.W.cellsFrom_some _ _ _ (.inl q)⟩
  refine codeAny_call_function hr.depth (KX _ _ lk) rfl S.co S.gen rfl (PySem.W.codeRec_of KX hcd) (hb _ _ _ _ ?_)
  refine wpAny_newFunctionEnv_cells S.kind hkind fun env he s1 x => ?_
  subst he
  refine ⟨lim.keeps x.toInCall.keep, codeAny_func ?_⟩
  obtain ⟨t, ht, hq⟩ := hbody A outer s H vs Q E (hr.deeper _) hsp
  have I : Inv (cxOf CX P w K mg base N qual scope f cdv A outer s H E) [] (start N vs) H s1 := inv_start S hr.hd e0 hl r x
  refine wpAny_mono (ht [] s1 (start N vs) H _ I hq) (fun fl s' hs => ?_) fun e s' hs => hs
  have fin : ∀ {σ' : St} {H' : Hp} {v : V} {u : Value}, Inv (cxOf CX P w K mg base N qual scope f cdv A outer s H E) [] σ' H' s' → RelV v u → Q v H' → CE outer P w H s Q u s' :=
    fun {σ' H' v u} J rv q => ⟨v, H', J.os, J.bare, J.base, J.hok, rv, q⟩
  cases fl with
  | ret u =>
    obtain ⟨v, σ', H', J, rv, q⟩ := hs
    exact fin J rv q
  | next =>
    obtain ⟨σ', H', J, q⟩ := hs
    exact fin (v := V.non) (u := Value.none) J rfl q
  | brk =>
    obtain ⟨_, _, _, q⟩ := hs
    exact False.elim q
  | cont =>
    obtain ⟨_, _, _, q⟩ := hs
    exact False.elim q
end L2
namespace L2
open PySem PySem.Spec PyProof.Rows
section
variable {X : Cx} {x : Str} {p pos : Pos} {e : Expr} {es : List Expr} {t : TA} {id T : String} {r : List V → Hp → VK → Prop}
def tCB (r : List V → Hp → VK → Prop) (t : TA) : TE := fun σ H Q => t σ H fun vs H1 => r vs H1 Q
/-- f(e, ..), f a built-in function -/
theorem pe_callB (hc : CallR X (.builtin id) r) (hg : Gl X x) (hm : X.mg x = none) (hv : bootBuiltins x = some (.builtin id)) (ha : PA X (e :: es) t) (hn : x ≠ "__name__" := by decide) (hdb : (x == ("__debug__" : Str)) = false := by decide)
    (he : starEach (e :: es) X.env = (false, eval e X.env) :: starEach es X.env := by rfl) (hpl : (backTo pos (starEach es X.env)).any (·.1) = false := by rfl) : PE X (.Call (.Name x p) (e :: es) [] pos) (tCB r t) := by
  intro pins s σ H Q I h
  refine wpAny_Call_Name_kw (ld_blt I hg hm hv ?_ hn hdb)
  exact PyProof.Rows.callWith_builtin1 (thn (ha pos pins s σ H _ I h) fun us s1 ⟨vs, H1, I1, r1, q1⟩ => hc pins s1 σ H1 vs us Q I1 r1 q1) he hpl
/-- T(e, ..), T a built-in type -/
theorem pe_callTy (hc : CallR X (.type T) r) (hg : Gl X x) (hm : X.mg x = none) (hv : bootBuiltins x = some (.type T)) (ha : PA X (e :: es) t) (hn : x ≠ "__name__" := by decide) (hdb : (x == ("__debug__" : Str)) = false := by decide)
    (he : starEach (e :: es) X.env = (false, eval e X.env) :: starEach es X.env := by rfl) (hpl : (backTo pos (starEach es X.env)).any (·.1) = false := by rfl) : PE X (.Call (.Name x p) (e :: es) [] pos) (tCB r t) := by
  intro pins s σ H Q I h
  refine wpAny_Call_Name_kw (ld_blt I hg hm hv ?_ hn hdb)
  exact PyProof.Rows.callWith_type1 (thn (ha pos pins s σ H _ I h) fun us s1 ⟨vs, H1, I1, r1, q1⟩ => hc pins s1 σ H1 vs us Q I1 r1 q1) he hpl
end
end L2
namespace HT
open PySem PyProof.Rows
/-- t < u of tuples of ints -/
def lexLt : List Int → List Int → Bool
  | [], [] => false
  | [], _ :: _ => true
  | _ :: _, [] => false
  | x :: xs, y :: ys => if x = y then lexLt xs ys else decide (x < y)
section
open PySem.SeqAt
open PySem.AutoSeq1 (wpAny_loadPart')
open PySem.MeetsSeq PySem.MeetsSeq2 PySem.MeetsSeq3
end
section
variable {prog : Program} {w : World} {A : Around} {E : Value → Shared → Prop} {s : Shared}
/-- t + u, t not empty -/
theorem cat_tup {t b : Addr} {vs ws : List Value} {Q : Value → Shared → Prop} (ht : IsTup s.heap t vs.toArray) (hb : IsTup s.heap b ws.toArray) (hv : vs ≠ [])
    (h1 : ws = [] → Q (.ref t) s) (h2 : ws ≠ [] → Q (.ref s.heap.objs.size) { s with heap := s.heap.push { cls := .type "tuple", data := .seq (vs ++ ws).toArray } })
    (hsz : vs.length + ws.length ≤ sizeLine) : wpAny (model prog w) A (binaryOp .Add (.ref t) (.ref b)) Q E s := by
  obtain ⟨⟨cls, dd, data, sl⟩, ho, hc, n, hd⟩ := id ht
  obtain ⟨⟨cls2, dd2, data2, sl2⟩, ho2, hc2, n2, hd2⟩ := id hb
  simp only at hc hd hc2 hd2
  subst hc hd hc2 hd2
  have e : vs.toArray ++ ws.toArray = (vs ++ ws).toArray := by simp
  by_cases hw : ws = []
  · exact concat_meets ⟨_, ho, rfl⟩ ⟨_, ho2, rfl⟩ noFill_tuple_add seq_tuple_add PySem.F.slot_tuple_add PySem.F.entry_tuple_add (PySem.F.args_tuple_add_2 _ _)
      (tuple_addW1 t b vs.toArray ws.toArray n n2 dd dd2 sl sl2 (by simpa using hv) (by simp [hw])) ⟨ho, ho2, h1 hw⟩
  · refine concat_meets ⟨_, ho, rfl⟩ ⟨_, ho2, rfl⟩ noFill_tuple_add seq_tuple_add PySem.F.slot_tuple_add PySem.F.entry_tuple_add (PySem.F.args_tuple_add_2 _ _)
      (tuple_addW2 t b vs.toArray ws.toArray n n2 dd dd2 sl sl2 (by simpa using hv) (by simpa using hw) (by rw [List.size_toArray, List.size_toArray]; exact hsz)) ⟨ho, ho2, ?_⟩
    rw [e]
    exact h2 hw
/-! ### t[a:b], not the whole -/
/-- a slice's bound as a place among n (d where it is left out) -/
def sIx (n d : Nat) : Option Int → Nat
  | none => d
  | some v => if v < 0 then (v + (n : Int)).toNat else min v.toNat n
theorem sIx_none (n d : Nat) : sIx n d none = d := rfl
theorem sIx_nat (n d k : Nat) : sIx n d (some (k : Int)) = min k n := by
  show (if (k : Int) < 0 then ((k : Int) + (n : Int)).toNat else min (k : Int).toNat n) = min k n
  rw [if_neg (by omega), Int.toNat_natCast]
theorem sIx_le (n d : Nat) (hd : d ≤ n) (o : Option Int) : sIx n d o ≤ n := by
  cases o with
  | none => exact hd
  | some v =>
    show (if v < 0 then (v + (n : Int)).toNat else min v.toNat n) ≤ n
    by_cases hv : v < 0
    · rw [if_pos hv]; omega
    · rw [if_neg hv]; exact Nat.min_le_right _ _
theorem clip_eq (v : Int) (n d : Nat) : (if v < 0 then max (v + (n : Int)) 0 else min v (n : Int)) = ((sIx n d (some v) : Nat) : Int) := by
  show (if v < 0 then max (v + (n : Int)) 0 else min v (n : Int)) = (((if v < 0 then (v + (n : Int)).toNat else min v.toNat n) : Nat) : Int)
  by_cases hv : v < 0
  · simp only [if_pos hv]; omega
  · simp only [if_neg hv]; omega
theorem adjust_gen (lo hi : Option Int) (n : Nat) : Builtin.Slice.sliceAdjust lo hi 1 (n : Int) = (((sIx n 0 lo : Nat) : Int), ((sIx n n hi : Nat) : Int)) := by
  have h1 : ¬ ((1 : Int) < 0) := by omega
  unfold Builtin.Slice.sliceAdjust
  simp only [h1, if_false]
  refine Prod.ext ?_ ?_
  · cases lo with
    | none => rfl
    | some v => exact clip_eq v n 0
  · cases hi with
    | none => rfl
    | some v => exact clip_eq v n n
theorem places_gen (i j : Nat) : Builtin.Slice.slicePlaces (i : Int) (j : Int) 1 = j - i := by
  unfold Builtin.Slice.slicePlaces
  have h1 : (1 : Int) > 0 := by omega
  simp only [h1, if_true, Int.ediv_one]
  split <;> omega
theorem slicePart_ {v : Value} {o : Option Int} {Q : Option Int → Shared → Prop} (p : IsPart v o) (h : Q o s) : wpAny (model prog w) A (Builtin.Slice.slicePartIndex v) Q E s := by
  cases p with
  | none => exact slicePart_none h
  | int i t => exact slicePart_int h
theorem sliceApplied_gen {sl : Addr} {vl vu : Value} {lo hi : Option Int} {n : Nat} {Q : Int × Int × Nat → Shared → Prop} (hs : s.heap.IsSliceOf sl vl vu .none) (pl : IsPart vl lo) (pu : IsPart vu hi)
    (h : Q (((sIx n 0 lo : Nat) : Int), 1, sIx n n hi - sIx n 0 lo) s) : wpAny (model prog w) A (Builtin.Slice.sliceApplied (.ref sl) (pure (n : Int))) Q E s := by
  obtain ⟨os, hos, hcs, hds⟩ := id hs
  unfold Builtin.Slice.sliceApplied Builtin.Slice.sliceFields
  refine wpAny_bind (wpAny_bind (wpAny_field hos hds (x := vl) rfl (wpAny_bind (wpAny_field hos hds (x := vu) rfl (wpAny_bind (wpAny_field hos hds (x := .none) rfl (wpAny_pure ?_)))))))
  refine wpAny_bind (slicePart_none ?_)
  show wpAny _ _ (if ((1 : Int) == 0) = true then _ else _) _ _ s
  rw [if_neg (by decide)]
  refine wpAny_bind (slicePart_ pl (wpAny_bind (slicePart_ pu (wpAny_bind (wpAny_pure ?_)))))
  show wpAny _ _ (match Builtin.Slice.sliceAdjust lo hi 1 (n : Int) with | (lo, hi) => pure (lo, (1 : Int), Builtin.Slice.slicePlaces lo hi 1)) _ _ s
  rw [adjust_gen lo hi n]
  show wpAny _ _ (pure (((sIx n 0 lo : Nat) : Int), (1 : Int), Builtin.Slice.slicePlaces ((sIx n 0 lo : Nat) : Int) ((sIx n n hi : Nat) : Int) 1)) _ _ s
  rw [places_gen]
  exact wpAny_pure h
theorem pick_gen (xs : Array Value) (i k : Nat) : ((List.range k).filterMap fun (m : Nat) => xs[((i : Int) + (m : Int) * 1).toNat]?).toArray = ((xs.toList.drop i).take k).toArray := by
  have e : (fun (m : Nat) => xs[((i : Int) + (m : Int) * 1).toNat]?) = fun m => xs[i + m]? := by
    funext m
    have : ((i : Int) + (m : Int) * 1).toNat = i + m := by omega
    rw [this]
  rw [e]
  have := pick_run xs i k
  rw [List.filterMap_map] at this
  have e2 : ((fun x => xs[x]?) ∘ fun x => i + x) = fun m => xs[i + m]? := rfl
  rw [e2] at this
  rw [this]
theorem getItem_tuple_cut {t sl : Addr} {items : Array Value} {vl vu : Value} {lo hi : Option Int} {Q : Value → Shared → Prop} (ht : IsTup s.heap t items) (hs : s.heap.IsSliceOf sl vl vu .none) (pl : IsPart vl lo) (pu : IsPart vu hi)
    (hw : ¬ (sIx items.size 0 lo = 0 ∧ sIx items.size items.size hi = items.size))
    (h : Q (.ref s.heap.objs.size) { s with heap := s.heap.push { cls := .type "tuple", data := .seq ((items.toList.drop (sIx items.size 0 lo)).take (sIx items.size items.size hi - sIx items.size 0 lo)).toArray } })
    (hsz : items.size ≤ sizeLine) : wpAny (model prog w) A (getItem (.ref t) (.ref sl)) Q E s := by
  have htake : sizeOk (.seq ((items.toList.drop (sIx items.size 0 lo)).take (sIx items.size items.size hi - sIx items.size 0 lo)).toArray) := by
    show ((items.toList.drop (sIx items.size 0 lo)).take (sIx items.size items.size hi - sIx items.size 0 lo)).toArray.size ≤ sizeLine
    rw [List.size_toArray, List.length_take, List.length_drop, Array.length_toList]
    omega
  have hj : sIx items.size items.size hi ≤ items.size := sIx_le _ _ (Nat.le_refl _) hi
  obtain ⟨os, hos, hcs, hds⟩ := id hs
  have hTs : s.TypeIs (.ref sl) "slice" := ⟨os, hos, hcs⟩
  unfold getItem
  try with_reducible refine wpAny_holding ?_
  first | refine wpAny_bind (wpAny_pure ?_) | skip
  refine wpAny_bind (wpAny_sequenceKey ht.typeIs (by decide) ?_)
  refine wpAny_bind (wpAny_callSpecial?_slot (name := Str.ofString "__getitem__") ht.typeIs PyProof.Rows.slot_tuple_getitem
    (wpAny_call_entry PyProof.Rows.slot_tuple_getitem ht.typeIs entry_tuple_getitem ?_ (args_tuple_getitem _ _)))
  show wpAny _ _ (Builtin.Tuple.tupleItemsOf (.ref t) >>= _) _ _ s
  refine wpAny_bind (tupleItemsOf_ ht ?_)
  refine wpAny_bind (wpAny_typeOf hTs ?_)
  rw [if_pos (by decide)]
  refine wpAny_bind (sliceApplied_gen hs pl pu ?_)
  have hno : ¬ ((((sIx items.size 0 lo : Nat) : Int) == 0 && (1 : Int) == 1 && (sIx items.size items.size hi - sIx items.size 0 lo) == items.size) = true) := by
    intro q
    rw [Bool.and_eq_true, Bool.and_eq_true] at q
    have q1 : ((sIx items.size 0 lo : Nat) : Int) = 0 := eq_of_beq q.1.1
    have q2 : sIx items.size items.size hi - sIx items.size 0 lo = items.size := eq_of_beq q.2
    exact hw ⟨by omega, by omega⟩
  show wpAny _ _ (if (((sIx items.size 0 lo : Nat) : Int) == 0 && (1 : Int) == 1 && (sIx items.size items.size hi - sIx items.size 0 lo) == items.size) = true then _ else _) _ _ s
  rw [if_neg hno, pick_gen]
  first
    | exact wpAny_bind (m := Builtin.Tuple.tupleExact _) (wpAny_newObj_type (wpAny_pure ⟨_, rfl, wpAny_pure h⟩) htake)
    | exact wpAny_bind (m := Builtin.Tuple.tupleExact _) (wpAny_newObj_type (wpAny_bind (wpAny_pure (wpAny_pure ⟨_, rfl, wpAny_pure h⟩))) htake)
    | exact wpAny_bind (wpAny_bind (m := Builtin.Tuple.tupleExact _) (wpAny_newObj_type (wpAny_pure (wpAny_pure ⟨_, rfl, wpAny_pure h⟩)) htake))
    | exact wpAny_bind (wpAny_bind (m := Builtin.Tuple.tupleExact _) (wpAny_newObj_type (wpAny_pure ⟨_, rfl, wpAny_pure h⟩) htake))
end
end HT
namespace L2
open PySem PySem.Spec PyProof.Rows
/-! ### the parts of a slice -/
abbrev TO := St → Hp → (Option Int → Hp → Prop) → Prop
/-- a slice's part (left out, or an int) -/
def PO (X : Cx) (e : Option Expr) (t : TO) : Prop :=
  ∀ (pins : List (Addr × Obj)) (s : Shared) (σ : St) (H : Hp) (Q : Option Int → Hp → Prop), Inv X pins σ H s → t σ H Q →
    wpAny (model X.prog X.w) X.A (evalPart e X.env) (fun u s' => ∃ o H', Inv X pins σ H' s' ∧ IsPart u o ∧ Q o H') X.xe s
def tNoPart : TO := fun _ H Q => Q none H
def tPart (t : TE) : TO := fun σ H Q => t σ H fun x H1 => ∃ i, x = .int i ∧ Q (some i) H1
section
variable {X : Cx} {e : Expr} {te : TE} {lo hi : Option Expr} {tl th : TO} {pos p2 : Pos}
theorem po_none : PO X none tNoPart := by
  intro pins s σ H Q I h
  rw [evalPart_none]
  exact wpAny_pure ⟨none, H, I, .none, h⟩
theorem po_some (h : PE X e te) : PO X (some e) (tPart te) := by
  intro pins s σ H Q I hw
  rw [evalPart_some]
  refine thn (h pins s σ H _ I hw) fun u s1 ⟨x, H1, I1, r1, q1⟩ => ?_
  obtain ⟨i, rfl, q⟩ := q1
  obtain ⟨t, rfl⟩ := r1
  exact ⟨some i, H1, I1, .int i t, q⟩
/-- what a slice of a value is, by values: the slice object stands at sl -/
def SlR (X : Cx) (r : V → Option Int → Option Int → Hp → VK → Prop) : Prop :=
  ∀ (pins : List (Addr × Obj)) (s : Shared) (σ : St) (H : Hp) (x : V) (v vl vu : Value) (lo hi : Option Int) (sl : Addr) (Q : VK), Inv X pins σ H s → RelV x v → s.heap.IsSliceOf sl vl vu .none → IsPart vl lo → IsPart vu hi → r x lo hi H Q →
    ∃ T id, typeLookup (.type T) "__getitem__" = pure (some (.builtin id)) ∧ s.TypeIs v T ∧ wpAny (model X.prog X.w) X.A (getItem v (.ref sl)) (EP X pins σ Q) X.xe s
theorem SlR.or {r r' : V → Option Int → Option Int → Hp → VK → Prop} (h : SlR X r) (h' : SlR X r') : SlR X (fun x lo hi H Q => r x lo hi H Q ∨ r' x lo hi H Q) := by
  intro pins s σ H x v vl vu lo hi sl Q I rx hs pl pu q
  rcases q with q | q
  · exact h pins s σ H x v vl vu lo hi sl Q I rx hs pl pu q
  · exact h' pins s σ H x v vl vu lo hi sl Q I rx hs pl pu q
def tSl (r : V → Option Int → Option Int → Hp → VK → Prop) (te : TE) (tl th : TO) : TE := fun σ H Q => te σ H fun x H1 => tl σ H1 fun l H2 => th σ H2 fun u H3 => r x l u H3 Q
/-- a[lo:hi], any a -/
theorem pe_slice {r : V → Option Int → Option Int → Hp → VK → Prop} (hr : SlR X r) (he : PE X e te) (hl : PO X lo tl) (hu : PO X hi th) : PE X (.Subscript e (.Slice lo hi none p2) pos) (tSl r te tl th) := by
  intro pins s σ H Q I h
  refine Subscript_ (thn (he pins s σ H _ I h) fun v s1 ⟨x, H1, I1, r1, q1⟩ => ?_)
  refine wpAny_Slice (thn (hl pins s1 σ H1 _ I1 q1) fun vl s2 ⟨l, H2, I2, pl, q2⟩ => thn (hu pins s2 σ H2 _ I2 q2) fun vu s3 ⟨u, H3, I3, pu, q3⟩ => ?_)
  rw [evalPart_none]
  refine wpAny_pure ?_
  have I4 : Inv X pins σ H3 { s3 with heap := s3.heap.push { cls := .type "slice", data := .fields #[vl, vu, .none] } } := I3.kept (t' := s3.toks) fun b ob q => Heap.get?_push_of_some _ q
  obtain ⟨T, id, hT, ht, hg⟩ := hr pins { s3 with heap := s3.heap.push { cls := .type "slice", data := .fields #[vl, vu, .none] } } σ H3 x v vl vu l u s3.heap.objs.size Q I4 r1 (Heap.IsSliceOf.new ..) pl pu q3
  show wpAny (model X.prog X.w) X.A (subscriptTail e (.Slice lo hi none p2) v (.ref s3.heap.objs.size)) (EP X pins σ Q) X.xe { s3 with heap := s3.heap.push { cls := .type "slice", data := .fields #[vl, vu, .none] } }
  exact tail_any (ops := [.ref s3.heap.objs.size, v]) ht hT hg (by with_unfolding_all rfl)
/-- the items of xs[lo:hi] -/
def cutV (xs : List V) (lo hi : Option Int) : List V := (xs.drop (HT.sIx xs.length 0 lo)).take (HT.sIx xs.length xs.length hi - HT.sIx xs.length 0 lo)
theorem cutV_length (xs : List V) (lo hi : Option Int) : (cutV xs lo hi).length ≤ xs.length := by
  unfold cutV
  rw [List.length_take, List.length_drop]
  omega
/-- t[lo:hi], not the whole of it (the whole would be t itself) -/
def rSlT (K : PySem.W.Frag) : V → Option Int → Option Int → Hp → VK → Prop := fun x lo hi H Q => ∃ a xs, x = .ref a ∧ SqT K H a xs ∧
  ¬ (HT.sIx xs.length 0 lo = 0 ∧ HT.sIx xs.length xs.length hi = xs.length) ∧ ∀ p, H p = none → Q (.ref p) (upd H p (.tup (cutV xs lo hi)))
theorem sl_tup : SlR X (rSlT X.K) := by
  intro pins s σ H x v vl vu lo hi sl Q I rx hs pl pu h
  obtain ⟨a, xs, rfl, hx, hw, q⟩ := h
  cases rx
  obtain ⟨its, r, ht, hz⟩ := I.tuple hx
  have hlen : its.toArray.size = xs.length := by rw [List.size_toArray]; exact r.length.symm
  refine ⟨"tuple", _, PyProof.Rows.slot_tuple_getitem.lookup, ht.typeIs, ?_⟩
  refine HT.getItem_tuple_cut ht hs pl pu (by rw [hlen]; exact hw) ?_ (by rw [hlen]; exact hz)
  rw [hlen]
  refine ⟨.ref s.heap.objs.size, _, I.laid (t' := s.toks) (o := .tup (cutV xs lo hi)) (fun b ob q => Heap.get?_push_of_some _ q) (Nat.le_refl _) ?_, rfl, q _ (I.hok.fresh (Nat.le_refl _))⟩
  exact ⟨Nat.le_trans (cutV_length xs lo hi) hz, _, (r.drop (HT.sIx xs.length 0 lo)).take (HT.sIx xs.length xs.length hi - HT.sIx xs.length 0 lo), IsTup.new _ _⟩
/-! ### t < u, t + u -/
def rLtT (K : PySem.W.Frag) : R2 := fun x y H Q => ∃ a b ns ms, x = .ref a ∧ y = .ref b ∧ SqT K H a (ns.map V.int) ∧ SqT K H b (ms.map V.int) ∧ Q (.bl (HT.lexLt ns ms)) H
/-- t + u, t not empty: u empty gives t itself -/
def rCatT (K : PySem.W.Frag) : R2 := fun x y H Q => ∃ a b xs ys, x = .ref a ∧ y = .ref b ∧ SqT K H a xs ∧ SqT K H b ys ∧ xs ≠ [] ∧ xs.length + ys.length ≤ sizeLine ∧
  (ys = [] → Q (.ref a) H) ∧ (ys ≠ [] → ∀ p, H p = none → Q (.ref p) (upd H p (.tup (xs ++ ys))))
theorem Vals.nil_iff {xs : List V} {us : List Value} (r : Vals xs us) : us = [] ↔ xs = [] := by
  cases r with
  | nil => simp
  | cons _ _ => simp
theorem op_catT : OpR X (binaryOp .Add) (rCatT X.K) := by
  intro pins s σ H x y v u Q I rx ry h
  obtain ⟨a, b, xs, ys, rfl, rfl, ha, hb, hx, hz, q1, q2⟩ := h
  cases rx
  cases ry
  obtain ⟨its, r1, p1, _⟩ := I.tuple ha
  obtain ⟨its2, r2, p2, _⟩ := I.tuple hb
  refine HT.cat_tup p1 p2 (fun z => hx (r1.nil_iff.mp z)) (fun z => ⟨.ref a, H, I, rfl, q1 (r2.nil_iff.mp z)⟩) (fun z => ?_) (by rw [← r1.length, ← r2.length]; exact hz)
  refine ⟨.ref s.heap.objs.size, _, I.laid (t' := s.toks) (o := .tup (xs ++ ys)) (fun b ob q => Heap.get?_push_of_some _ q) (Nat.le_refl _) ?_, rfl, q2 (fun w => z (r2.nil_iff.mpr w)) _ (I.hok.fresh (Nat.le_refl _))⟩
  exact ⟨by rw [List.length_append]; exact hz, _, r1.append r2, IsTup.new _ _⟩
end
end L2
namespace L2
open PySem PySem.Spec PyProof.Rows
/-! ### places -/
/-- the place that an index of any sign means -/
def ixN (n : Nat) (i : Int) : Option Nat := if 0 ≤ i then (if i < n then some i.toNat else none) else if -(n : Int) ≤ i then some (i + n).toNat else none
def atI {α : Type} (xs : List α) (i : Int) : Option α := (ixN xs.length i).bind fun j => xs[j]?
theorem ixN_seq {n : Nat} {i : Int} {j : Nat} (h : ixN n i = some j) : seqIndex? i n = some j ∧ j < n ∧ -(n : Int) ≤ i ∧ i < n := by
  unfold ixN at h
  by_cases h0 : 0 ≤ i
  · rw [if_pos h0] at h
    by_cases h1 : i < n
    · rw [if_pos h1] at h
      have e : i.toNat = j := Option.some.inj h
      exact ⟨by rw [seqIndex_of h0 h1, e], by omega, by omega, h1⟩
    · rw [if_neg h1] at h; cases h
  · rw [if_neg h0] at h
    by_cases h1 : -(n : Int) ≤ i
    · rw [if_pos h1] at h
      have e : (i + n).toNat = j := Option.some.inj h
      exact ⟨by rw [seqIndex_neg (by omega) h1, e], by omega, h1, by omega⟩
    · rw [if_neg h1] at h; cases h
theorem atI_get {α : Type} {xs : List α} {i : Int} {v : α} (h : atI xs i = some v) : ∃ j, seqIndex? i xs.length = some j ∧ xs[j]? = some v ∧ j < xs.length ∧ -(xs.length : Int) ≤ i ∧ i < xs.length := by
  unfold atI at h
  cases e : ixN xs.length i with
  | none => rw [e] at h; cases h
  | some j =>
    rw [e] at h
    obtain ⟨h1, h2, h3, h4⟩ := ixN_seq e
    exact ⟨j, h1, h, h2, h3, h4⟩
/-! ### what may be subscripted -/
/-- what stands as an index of a plain subscript -/
def PlainIx (b : Expr) : Prop := ∀ o i, subscripted b false o i = operate [o, i] (getItem o i)
/-- a subscript by values -/
def IxR (X : Cx) (r : R2) : Prop :=
  ∀ (value slice : Expr) (pins : List (Addr × Obj)) (s : Shared) (σ : St) (H : Hp) (x y : V) (v u : Value) (Q : VK), Inv X pins σ H s → RelV x v → RelV y u → r x y H Q →
    subscripted slice false v u = operate [v, u] (getItem v u) → wpAny (model X.prog X.w) X.A (subscriptTail value slice v u) (EP X pins σ Q) X.xe s
/-- a call of a builtin's method by values: the receiver, the arguments -/
def MtR (X : Cx) (id : String) (r : V → List V → Hp → VK → Prop) : Prop :=
  ∀ (pins : List (Addr × Obj)) (s : Shared) (σ : St) (H : Hp) (x : V) (xs : List V) (v : Value) (us : List Value) (Q : VK), Inv X pins σ H s → RelV x v → Vals xs us → r x xs H Q →
    wpAny (model X.prog X.w) X.A (call (.builtin id) (v :: us)) (EP X pins σ Q) X.xe s
section
variable {X : Cx} {a b : Expr} {ta tb : TE} {pos : Pos}
theorem IxR.or {r r' : R2} (h : IxR X r) (h' : IxR X r') : IxR X (fun x y H Q => r x y H Q ∨ r' x y H Q) := by
  intro value slice pins s σ H x y v u Q I rx ry q hs
  rcases q with q | q
  · exact h value slice pins s σ H x y v u Q I rx ry q hs
  · exact h' value slice pins s σ H x y v u Q I rx ry q hs
/-- a[b] -/
theorem pe_ix {r : R2} (hr : IxR X r) (ha : PE X a ta) (hb : PE X b tb) (hs : PlainIx b) : PE X (.Subscript a b pos) (tOp r ta tb) := by
  intro pins s σ H Q I h
  exact Subscript_ (binT ha hb I h fun v u s2 x y H2 I2 rx ry q => hr a b pins s2 σ H2 x y v u Q I2 rx ry q (hs _ _))
def rIxL (K : PySem.W.Frag) : R2 := fun x y H Q => ∃ p xs i v, x = .ref p ∧ y = .int i ∧ SqL K H p xs ∧ atI xs i = some v ∧ Q v H
def rIxT (K : PySem.W.Frag) : R2 := fun x y H Q => ∃ p xs i v, x = .ref p ∧ y = .int i ∧ SqT K H p xs ∧ atI xs i = some v ∧ Q v H
def rIxS : R2 := fun x y H Q => ∃ z i c, x = .str z ∧ y = .int i ∧ z.length ≤ sizeLine ∧ atI z.cps.toList i = some c ∧ Q (.str ⟨#[c]⟩) H
theorem ix_list : IxR X (rIxL X.K) := by
  intro value slice pins s σ H x y v u Q I rx ry h hs
  obtain ⟨p, xs, i, z, rfl, rfl, hq, he, q⟩ := h
  cases rx
  obtain ⟨t, rfl⟩ := ry
  obtain ⟨its, r, pl, hz⟩ := I.list hq
  obtain ⟨j, h1, h2, h3, h4, h5⟩ := atI_get he
  obtain ⟨w, ew, rw'⟩ := r.get h2
  have hl := r.length
  have hn := line63
  have fin : EP X pins σ Q w s := ⟨z, H, I, rw', q⟩
  by_cases h0 : 0 ≤ i
  · have hj : i.toNat = j := by
      rw [seqIndex_of h0 h5] at h1
      exact Option.some.inj h1
    exact item_listR pl.isList h0 (by omega) (by rw [hj]; simpa using ew) fin hs
  · have hj : (i + (its.toArray.size : Int)).toNat = j := by
      rw [seqIndex_neg (by omega) h4] at h1
      rw [List.size_toArray, ← hl]
      exact Option.some.inj h1
    exact subscriptTail_builtinR (x := w) pl.isList.typeIs slot_list_getitem.lookup
      (wpAny_getItem_list_neg (Q := fun r s' => r = w ∧ EP X pins σ Q r s') pl.isList (by omega) (by rw [List.size_toArray] <;> omega) (by omega) (by rw [hj]; simpa using ew) ⟨rfl, fin⟩) hs
theorem ix_tup : IxR X (rIxT X.K) := by
  intro value slice pins s σ H x y v u Q I rx ry h hs
  obtain ⟨p, xs, i, z, rfl, rfl, hq, he, q⟩ := h
  cases rx
  obtain ⟨t, rfl⟩ := ry
  obtain ⟨its, r, pl, hz⟩ := I.tuple hq
  obtain ⟨j, h1, h2, h3, h4, h5⟩ := atI_get he
  obtain ⟨w, ew, rw'⟩ := r.get h2
  have hl := r.length
  have hn := line63
  have fin : EP X pins σ Q w s := ⟨z, H, I, rw', q⟩
  exact subscriptTail_builtinR (x := w) pl.typeIs slot_tuple_getitem.lookup
    (getItem_tuple (j := j) (Q := fun r s' => r = w ∧ EP X pins σ Q r s') pl (by omega) (by omega) (by rw [List.size_toArray, ← hl]; exact h1) (by simpa using ew) ⟨rfl, fin⟩) hs
theorem ix_str : IxR X rIxS := by
  intro value slice pins s σ H x y v u Q I rx ry h hs
  obtain ⟨z, i, c, rfl, rfl, hz, he, q⟩ := h
  obtain ⟨t, rfl⟩ := rx
  obtain ⟨t', rfl⟩ := ry
  obtain ⟨j, h1, h2, h3, h4, h5⟩ := atI_get he
  have hl : z.cps.toList.length = z.length := by simp [Str.length]
  rw [hl] at h1 h4 h5
  have hn := line63
  exact tail_any (typeIs_str s z t) slot_str_getitem.lookup (getItem_str (c := c) (by
    have e1 : decide (i < -(2 ^ 63 : Int)) = false := decide_eq_false (by omega)
    have e2 : decide (i ≥ 2 ^ 63) = false := decide_eq_false (by omega)
    rw [e1, e2, Bool.or_false]) (by rw [h1]; simpa using h2) ⟨.str ⟨#[c]⟩, H, I.tok _, ⟨_, rfl⟩, q⟩) hs
/-- list, tuple or str -/
def rIx (K : PySem.W.Frag) : R2 := fun x y H Q => rIxL K x y H Q ∨ rIxT K x y H Q ∨ rIxS x y H Q
theorem ix_seq : IxR X (rIx X.K) := ix_list.or (ix_tup.or ix_str)
/-! ### xs[i] = v, any sign -/
def rSetL : V → V → V → Hp → (Hp → Prop) → Prop := fun o i v H Q => ∃ p xs k j, o = .ref p ∧ i = .int k ∧ H p = some (.lst xs) ∧ ixN xs.length k = some j ∧ Q (upd H p (.lst (xs.set j v)))
/-! ### slices -/
theorem slice_bounds (lo hi : Option Int) (n : Nat) : (sliceBounds lo hi none n).1 = ((HT.sIx n 0 lo : Nat) : Int) ∧ (sliceBounds lo hi none n).2.1 = ((HT.sIx n n hi : Nat) : Int) ∧ (sliceBounds lo hi none n).2.2 = 1 := by
  refine ⟨?_, ?_, rfl⟩
  · cases lo with
    | none => simp [sliceBounds, HT.sIx]
    | some i =>
      simp only [sliceBounds, HT.sIx, Option.getD_none, show (1 : Int) > 0 by decide, if_true]
      by_cases h : i < 0
      · simp only [h, if_true] <;> omega
      · simp only [h, if_false] <;> omega
  · cases hi with
    | none => simp [sliceBounds, HT.sIx]
    | some i =>
      simp only [sliceBounds, HT.sIx, Option.getD_none, show (1 : Int) > 0 by decide, if_true]
      by_cases h : i < 0
      · simp only [h, if_true] <;> omega
      · simp only [h, if_false] <;> omega
theorem slicePick_cut (its : List Value) (lo hi : Option Int) : slicePick its.toArray lo hi none = ((its.drop (HT.sIx its.length 0 lo)).take (HT.sIx its.length its.length hi - HT.sIx its.length 0 lo)).toArray := by
  obtain ⟨h1, h2, h3⟩ := slice_bounds lo hi its.toArray.size
  unfold slicePick
  rw [h1, h2, h3]
  simp only [sliceRange_one, pick_run, List.size_toArray] <;> rfl
/-- xs[lo:hi] of a list: a new list -/
def rSlL (K : PySem.W.Frag) : V → Option Int → Option Int → Hp → VK → Prop := fun x lo hi H Q => ∃ a xs, x = .ref a ∧ SqL K H a xs ∧ ∀ p, H p = none → Q (.ref p) (upd H p (.lst (cutV xs lo hi)))
theorem sl_list : SlR X (rSlL X.K) := by
  intro pins s σ H x v vl vu lo hi sl Q I rx hs pl pu h
  obtain ⟨a, xs, rfl, hx, q⟩ := h
  cases rx
  obtain ⟨its, r, ht, hz⟩ := I.list hx
  have hlen := r.length
  refine ⟨"list", _, slot_list_getitem.lookup, ht.isList.typeIs, ?_⟩
  refine wpAny_getItem_list_slice ht.isList hs pl pu .none (by simp) ?_ (by rw [List.size_toArray] <;> omega)
  rw [slicePick_cut, ← hlen]
  refine ⟨.ref s.heap.objs.size, _, I.laid (t' := s.toks) (o := .lst (cutV xs lo hi)) (fun b ob q => Heap.get?_push_of_some _ q) (Nat.le_refl _) ?_, rfl, q _ (I.hok.fresh (Nat.le_refl _))⟩
  exact ⟨Nat.le_trans (cutV_length xs lo hi) hz, _, 0, (r.drop (HT.sIx xs.length 0 lo)).take (HT.sIx xs.length xs.length hi - HT.sIx xs.length 0 lo), Heap.get?_push_size _ rfl⟩
/-! ### in, not in: flat items -/
def flatV : V → Bool
  | .non => true
  | .bl _ => true
  | .int _ => true
  | .str _ => true
  | _ => false
/-- == of flat values -/
def eqV : V → V → Bool
  | .non, .non => true
  | .bl a, .bl b => a == b
  | .bl a, .int b => (if a then 1 else 0) == b
  | .int a, .bl b => a == (if b then 1 else 0)
  | .int a, .int b => a == b
  | .str a, .str b => a == b
  | _, _ => false
/-- the items' answers, read off the values (a value's own answer does not lean on its token) -/
def eqU (x : V) (u : Value) : Bool := match u with
  | .none => eqV .non x
  | .bool b => eqV (.bl b) x
  | .int i _ => eqV (.int i) x
  | .str z _ => eqV (.str z) x
  | _ => false
def inV (x : V) (xs : List V) : Bool := xs.any fun y => eqV y x
/-- x in a list or tuple of flat items -/
def rIn (K : PySem.W.Frag) (neg : Bool) : R2 := fun x y H Q => ∃ p xs, y = .ref p ∧ (SqL K H p xs ∨ SqT K H p xs) ∧ flatV x = true ∧ xs.all flatV = true ∧ Q (.bl (if neg then !inV x xs else inV x xs)) H
/-! ### len, list(x), tuple(x) of any list or tuple that is read -/
theorem call_len_seq : CallR X (.builtin "len") (fun xs H Q => ∃ p ys, xs = [.ref p] ∧ (SqL X.K H p ys ∨ SqT X.K H p ys) ∧ Q (.int ys.length) H) := by
  intro pins s σ H xs us Q I r h
  obtain ⟨p, ys, rfl, hq, q⟩ := h
  obtain ⟨u, rfl, rx⟩ := vals1 r
  cases rx
  have hn := line63
  rcases hq with hq | hq
  · obtain ⟨its, r', pl, hz⟩ := I.list hq
    have hlen := r'.length
    exact Calls.call_len_list pl.isList (by simp only [List.size_toArray] <;> omega) ⟨.int ys.length, H, I.tok _, ⟨s.toks + 1, by rw [List.size_toArray, hlen]⟩, q⟩
  · obtain ⟨its, r', pl, hz⟩ := I.tuple hq
    have hlen := r'.length
    exact len_tuple pl (by simp only [List.size_toArray] <;> omega) ⟨.int ys.length, H, I.tok _, ⟨s.toks + 1, by rw [List.size_toArray, hlen]⟩, q⟩
theorem call_len_str : CallR X (.builtin "len") (fun xs H Q => ∃ z, xs = [.str z] ∧ z.length ≤ sizeLine ∧ Q (.int z.length) H) := by
  intro pins s σ H xs us Q I r h
  obtain ⟨z, rfl, hz, q⟩ := h
  obtain ⟨u, rfl, t, rfl⟩ := vals1 r
  have hn := line63
  exact len_str (by omega) ⟨.int z.length, H, I.tok _, ⟨_, rfl⟩, q⟩
theorem CallR.or {f : Value} {r r' : List V → Hp → VK → Prop} (h : CallR X f r) (h' : CallR X f r') : CallR X f (fun xs H Q => r xs H Q ∨ r' xs H Q) := by
  intro pins s σ H xs us Q I rs q
  rcases q with q | q
  · exact h pins s σ H xs us Q I rs q
  · exact h' pins s σ H xs us Q I rs q
theorem call_tuple_of : CallR X (.type "tuple") (fun xs H Q => ∃ p ys, xs = [.ref p] ∧ ((SqL X.K H p ys ∧ ∀ l, H l = none → Q (.ref l) (upd H l (.tup ys))) ∨ (SqT X.K H p ys ∧ Q (.ref p) H))) := by
  intro pins s σ H xs us Q I r h
  obtain ⟨p, ys, rfl, h⟩ := h
  obtain ⟨u, rfl, rx⟩ := vals1 r
  cases rx
  rcases h with ⟨hq, q⟩ | ⟨hq, q⟩
  · obtain ⟨its, r', pl, hz⟩ := I.list hq
    have hlen := r'.length
    refine call_tuple_list pl.isList (fun h' kp => ?_) (by simp only [List.size_toArray] <;> omega)
    have I1 : Inv X pins σ H { s with heap := h' } := I.kept (t' := s.toks) kp
    have I2 : Inv X pins σ (upd H h'.objs.size (.tup ys)) { s with heap := h'.push { cls := .type "tuple", data := .seq its.toArray } } :=
      I1.laid (t' := s.toks) (fun b o e => Heap.get?_push_of_some _ e) (Nat.le_refl _) (show ObjOk X.prog X.w _ _ _ (.tup ys) from ⟨hz, its, r', IsTup.new _ _⟩)
    exact ⟨.ref h'.objs.size, _, I2, rfl, q _ (I1.hok.fresh (Nat.le_refl _))⟩
  · obtain ⟨its, r', pl, hz⟩ := I.tuple hq
    exact call_tuple_same pl ⟨.ref p, H, I, rfl, q⟩
/-! ### the call of a builtin's method: o.m(..) -/
/-- the value is of that builtin type -/
def tyV (K : PySem.W.Frag) (T : String) (x : V) (H : Hp) : Prop := match x with
  | .str _ => T = "str"
  | .int _ => T = "int"
  | .ref p => (T = "list" ∧ ∃ xs, SqL K H p xs) ∨ (T = "tuple" ∧ ∃ o, K.lookup p = some o ∧ o.cls = .type "tuple" ∧ o.dict = none) ∨
      (T = "dict" ∧ ((∃ kvs, H p = some (.dK kvs)) ∨ ∃ kvs, H p = some (.dT kvs))) ∨ (T = "set" ∧ ∃ S n, H p = some (.set S n))
  | _ => False
theorem tyV_is {pins : List (Addr × Obj)} {σ : St} {H : Hp} {s : Shared} {T : String} {x : V} {v : Value} (I : Inv X pins σ H s) (r : RelV x v) (ty : tyV X.K T x H) :
    s.TypeIs v T ∧ ∀ a, v = .ref a → ∃ ob, s.heap.get? a = some ob ∧ ob.dict = none := by
  cases x with
  | str z =>
    obtain ⟨t, rfl⟩ := r
    cases (show T = "str" from ty)
    exact ⟨typeIs_str s z t, fun _ e => nomatch e⟩
  | int i =>
    obtain ⟨t, rfl⟩ := r
    cases (show T = "int" from ty)
    exact ⟨typeIs_int s i t, fun _ e => nomatch e⟩
  | ref p =>
    cases r
    rcases ty with ⟨rfl, xs, hq⟩ | ⟨rfl, o, hk, hc, hd⟩ | ⟨rfl, hk⟩ | ⟨rfl, S, n, hk⟩
    · obtain ⟨its, _, pl, _⟩ := I.list hq
      refine ⟨pl.isList.typeIs, fun a e => ?_⟩
      cases e
      obtain ⟨o, n, e, c, hd, _⟩ := pl
      exact ⟨o, e, hd⟩
    · refine ⟨⟨o, I.kIn p o hk, hc⟩, fun a e => ?_⟩
      cases e
      exact ⟨o, I.kIn _ o hk, hd⟩
    · have z : ∃ o, s.heap.get? p = some o ∧ o.ExactDict := by
        rcases hk with ⟨kvs, hk⟩ | ⟨kvs, hk⟩
        · obtain ⟨_, _, _, _, o, _, _, e, ex, _⟩ := I.hok p _ hk
          exact ⟨o, e, ex⟩
        · obtain ⟨_, _, _, _, o, _, _, e, ex, _⟩ := I.hok p _ hk
          exact ⟨o, e, ex⟩
      obtain ⟨o, e, ex⟩ := z
      refine ⟨⟨o, e, ex.1⟩, fun a e2 => ?_⟩
      cases e2
      exact ⟨o, e, ex.2.1⟩
    · obtain ⟨o, _, _, _, e, ex, _⟩ := I.hok p _ hk
      refine ⟨⟨o, e, ex.1⟩, fun a e2 => ?_⟩
      cases e2
      exact ⟨o, e, ex.2.1⟩
  | _ => exact False.elim ty
def tBM0 (K : PySem.W.Frag) (T : String) (r : V → List V → Hp → VK → Prop) (to : TE) : TE := fun σ H Q => to σ H fun x H1 => tyV K T x H1 ∧ r x [] H1 Q
def tBM (K : PySem.W.Frag) (T : String) (r : V → List V → Hp → VK → Prop) (to : TE) (t : TA) : TE := fun σ H Q => to σ H fun x H1 => tyV K T x H1 ∧ t σ H1 fun xs H2 => r x xs H2 Q
variable {o e : Expr} {es : List Expr} {to : TE} {t : TA} {name : Str} {apos cpos : Pos} {T id : String} {r : V → List V → Hp → VK → Prop}
theorem pe_bm (pa : PlainAttrs T) (slot : Slot T name id) (hty : typeOf (.builtin id) = pure (.type "method_descriptor")) (hm : MtR X id r) (ho : PE X o to) (ha : PA X (e :: es) t)
    (hbase : attributeBase o name X.env (eval o X.env) = eval o X.env := by rfl)
    (hfew : ((backTo cpos (starEach (e :: es) X.env)).all (fun x => !x.1) && (backToKw cpos (keywordEach [] X.env)).all (fun x => x.1.isSome)
      && decide ((e :: es).length + ([] : List Keyword).length + (if ([] : List Keyword).isEmpty then 0 else 1) < 30)) = true := by rfl)
    (hline : (apos.endLine == cpos.line) = true := by rfl) (hs : starEach (e :: es) X.env = (false, eval e X.env) :: starEach es X.env := by rfl) (hplain : (backTo cpos (starEach es X.env)).any (·.1) = false := by rfl) :
    PE X (.Call (.Attribute o name apos) (e :: es) [] cpos) (tBM X.K T r to t) := by
  intro pins s σ H Q I h
  refine wpAny_Call_method_late hbase hfew hline rfl (thn (ho pins s σ H _ I h) fun v s1 ⟨x, H1, I1, r1, ty, q1⟩ => ?_)
  obtain ⟨h1, h2⟩ := tyV_is I1 r1 ty
  refine ⟨T, id, pa, slot, hty, h1, h2, ?_⟩
  have hA := ha cpos pins s1 σ H1 _ I1 q1
  rw [hs] at hA ⊢
  refine Calls.callWith_builtin (by show (false || (backTo cpos (starEach es X.env)).any (·.1)) = false; rw [hplain] <;> rfl) (Calls.evalArgs_plain ?_)
  exact thn hA fun us s2 ⟨vs, H2, I2, r2, q2⟩ => hm pins s2 σ H2 x vs v us Q I2 r1 r2 q2
/- xs.append(e), list.index on a module's tuple .. are MtR facts of 06m -/
end
end L2
namespace L2
open PySem PySem.Spec PyProof.Rows
def MtM (X : Cx) (id : String) (r : V → List V → Hp → VK → Prop) : Prop :=
  ∀ (pins : List (Addr × Obj)) (s : Shared) (σ : St) (H : Hp) (x : V) (xs : List V) (v : Value) (us : List Value) (Q : VK), Inv X pins σ H s → RelV x v → Vals xs us → r x xs H Q →
    wpAny (model X.prog X.w) X.A (call (.builtin id) (v :: us)) (EP X pins σ Q) X.xe s
/-! ### lists of values -/
theorem Vals.one : ∀ {x : V} {us : List Value}, Vals [x] us → ∃ u, us = [u] ∧ RelV x u
  | _, _, .cons r .nil => ⟨_, rfl, r⟩
section
variable {X : Cx} {pins : List (Addr × Obj)} {σ : St} {H : Hp} {s : Shared} {l b : Addr} {xs ys zs : List V}
/-! ### the two steps: a tracked list is rewritten, a new list is laid -/
theorem Inv.lset {its its' : List Value} {n : Nat} {f : Array Value → Array Value} {t' : Nat} (I : Inv X pins σ H s) (hH : H l = some (.lst xs))
    (e : s.heap.get? l = some { cls := .type "list", data := .seq its.toArray n }) (hf : f its.toArray = its'.toArray) (hv : Vals ys its') (hz : ys.length ≤ sizeLine) :
    Inv X pins σ (upd H l (.lst ys)) { s with heap := s.heap.update l (Obj.mapSeq f), toks := t' } := by
  have q := PySem.IsL.update e f
  rw [hf] at q
  refine I.write (x := l) (e := l) (by rw [hH]; exact trivial) (.inl rfl) (fun b' u hb hu => (Heap.get?_update_other s.heap (Obj.mapSeq f) (Ne.symm hb)).trans hu) ⟨_, q⟩ ?_
  exact ⟨hz, its', _, hv, q⟩
theorem Inv.lnew {its : List Value} {t' : Nat} (I : Inv X pins σ H s) (hv : Vals ys its) (hz : ys.length ≤ sizeLine) :
    Inv X pins σ (upd H s.heap.objs.size (.lst ys)) { s with heap := s.heap.push { cls := .type "list", data := .seq its.toArray }, toks := t' } :=
  I.laid (fun _ _ q => Heap.get?_push_of_some _ q) (Nat.le_refl _) ⟨hz, its, 0, hv, Heap.get?_push_size _ rfl⟩
theorem Inv.fresh (I : Inv X pins σ H s) : H s.heap.objs.size = none := I.hok.fresh (Nat.le_refl _)
theorem Inv.lstM (I : Inv X pins σ H s) (hH : H l = some (.lst xs)) : xs.length ≤ sizeLine ∧ ∃ (its : List Value) (n : Nat), Vals xs its ∧ xs.length = its.length ∧ s.heap.get? l = some { cls := .type "list", data := .seq its.toArray n } := by
  obtain ⟨z, its, n, r, e⟩ := I.hok l _ hH
  exact ⟨z, its, n, r, r.length, e⟩
end
section
variable {X : Cx}
/-! ### methods -/
def rAppend : V → List V → Hp → VK → Prop := fun x vs H Q => ∃ l xs y, x = .ref l ∧ vs = [y] ∧ H l = some (.lst xs) ∧ xs.length < sizeLine ∧ Q .non (upd H l (.lst (xs ++ [y])))
theorem mt_append : MtM X "list.append" rAppend := by
  intro pins s σ H x vs v us Q I rx rv h
  obtain ⟨l, xs, y, rfl, rfl, hH, hz, q⟩ := h
  cases rx
  obtain ⟨u, rfl, ru⟩ := rv.one
  obtain ⟨z, its, n, r, hl, e⟩ := I.lstM hH
  refine call_meets F.slot_list_append ⟨_, e, rfl⟩ F.entry_list_append (F.args_list_append_2 _ _) (PySem.list_append l its.toArray n u (by rw [List.size_toArray]; omega)) ⟨e, ?_⟩
  refine ⟨.non, _, I.lset (its' := its ++ [u]) hH e (by simp) (r.append (.cons ru .nil)) ?_, rfl, q⟩
  rw [List.length_append, List.length_singleton]
  omega
def rExtend : V → List V → Hp → VK → Prop := fun x vs H Q => ∃ l b xs zs, x = .ref l ∧ vs = [.ref b] ∧ H l = some (.lst xs) ∧ H b = some (.lst zs) ∧ xs.length + zs.length ≤ sizeLine ∧ Q .non (upd H l (.lst (xs ++ zs)))
def rPop : V → List V → Hp → VK → Prop := fun x vs H Q => ∃ l xs y, x = .ref l ∧ vs = [] ∧ H l = some (.lst xs) ∧ xs[xs.length - 1]? = some y ∧ Q y (upd H l (.lst xs.dropLast))
def rPopAt : V → List V → Hp → VK → Prop := fun x vs H Q => ∃ l xs i k y, x = .ref l ∧ vs = [.int i] ∧ H l = some (.lst xs) ∧ -(2 ^ 63) ≤ i ∧ i < 2 ^ 63 ∧ seqIndex? i xs.length = some k ∧ xs[k]? = some y ∧ Q y (upd H l (.lst (xs.eraseIdx k)))
def rReverse : V → List V → Hp → VK → Prop := fun x vs H Q => ∃ l xs, x = .ref l ∧ vs = [] ∧ H l = some (.lst xs) ∧ Q .non (upd H l (.lst xs.reverse))
def rClear : V → List V → Hp → VK → Prop := fun x vs H Q => ∃ l xs, x = .ref l ∧ vs = [] ∧ H l = some (.lst xs) ∧ Q .non (upd H l (.lst []))
/-! ### list + list, list += list, list * int -/
def rCat : R2 := fun x y H Q => ∃ l b xs zs, x = .ref l ∧ y = .ref b ∧ H l = some (.lst xs) ∧ H b = some (.lst zs) ∧ xs.length + zs.length ≤ sizeLine ∧ ∀ p, H p = none → Q (.ref p) (upd H p (.lst (xs ++ zs)))
theorem op_cat : OpR X (binaryOp .Add) rCat := by
  intro pins s σ H x y v u Q I rx ry h
  obtain ⟨l, b, xs, zs, rfl, rfl, hH, hB, hz, q⟩ := h
  cases rx
  cases ry
  obtain ⟨z, its, n, r, hl, e⟩ := I.lstM hH
  obtain ⟨z2, its2, n2, r2, hl2, e2⟩ := I.lstM hB
  refine PySem.P.add_list e e2 ?_ (by rw [List.size_toArray, List.size_toArray]; omega)
  have ea : its.toArray ++ its2.toArray = (its ++ its2).toArray := by simp
  rw [ea]
  exact ⟨.ref _, _, I.lnew (t' := s.toks) (r.append r2) (by rw [List.length_append]; omega), rfl, q _ I.fresh⟩
/-- a list times an int (a negative one is nothing) -/
def rRep : R2 := fun x y H Q => ∃ l k xs, x = .ref l ∧ y = .int k ∧ H l = some (.lst xs) ∧ -(2 ^ 63) ≤ k ∧ k < 2 ^ 63 ∧ xs.length * k.toNat ≤ sizeLine ∧
  ∀ p, H p = none → Q (.ref p) (upd H p (.lst (List.replicate k.toNat xs).flatten))
/-! ### del xs[i] -/
end
/-! ### xs[a:b] = ys -/
section
variable {prog : Program} {w : World} {A : Around} {E : Value → Shared → Prop} {s : Shared}
set_option maxRecDepth 100000 in
end
section
variable {X : Cx}
end
end L2
namespace Att
open PySem PySem.W PySem.Calls PyProof.Rows
/-! ### the script -/
theorem ints_of_wellAll {P : Params} {h : Heap} : ∀ (ns : List Int) (vs : List Value), WellAll P h vs (ns.map WData.int) → IntsAre vs ns := by
  intro ns
  induction ns with
  | nil =>
    intro vs w
    rw [List.map_nil] at w
    cases w
    exact .nil
  | cons n ns ih =>
    intro vs w
    rw [List.map_cons] at w
    cases w with
    | cons a b =>
      cases a
      exact .cons _ _ (ih _ b)
theorem script_of {l : OpenLaw} {n : Nat} (hn : l.most = some n) {P : Params} {h : Heap} {args : List WData} {vals : List Value}
    (hpre : l.row.toRowW.claim.pre args = true) (hwl : WellAll P h vals args) :
    ∃ a vs ns, vals = [Value.ref a] ∧ args = [WData.list (ns.map WData.int)] ∧ h.get? a = some { cls := .type "list", data := .seq vs.toArray } ∧ IntsAre vs ns ∧ ns.length ≤ n := by
  have hsh : WShape.hasAll [] args [.list .int] = true := (pre_splitW hpre).1
  have hc : l.pre.holds [] { args := args } = true := (pre_splitW hpre).2
  obtain ⟨d, r, rfl, h1, h2⟩ := hasAllW_cons hsh
  obtain rfl := hasAllW_nil h2
  obtain ⟨xs, rfl, h3⟩ := hasW_list h1
  obtain ⟨ns, rfl⟩ := items_int h3
  have hlen : ns.length ≤ n := by
    unfold OpenLaw.pre at hc
    have h4 : (WTm.not (.lt (.lit (.int (n : Int))) (.len (.arg 0)))).holds [] { args := [.list (ns.map .int)] } = true := by
      have h4 := (holds_andW hc).1
      rw [hn] at h4
      exact h4
    have h5 := condW_of h4 (w_not (w_lt w_lit (w_len_list (w_arg rfl))))
    rw [List.length_map] at h5
    refine Nat.le_of_not_lt fun q => ?_
    have q' : (n : Int) < ((ns.length : Nat) : Int) := by omega
    first
      | (rw [decide_eq_true q'] at h5; exact absurd h5 (by decide))
      | (simp at h5; omega)
  cases hwl with
  | cons w1 w2 =>
    cases w2
    cases w1 with
    | list ho hall => exact ⟨_, _, ns, rfl, rfl, ho, ints_of_wellAll ns _ hall, hlen⟩
theorem post_true (l : OpenLaw) (args : List WData) : l.row.toRowW.claim.post args (.bool true) args = true :=
  postW_of (r := l.row.toRowW) (X := (true == true))
    (show WShape.has [] (.bool true) .bool = true by first | rfl | decide | simp [WShape.has, WShape.arms, WShape.armsAll])
    (show (WTm.eq .res (.lit (.bool true))).value [] { args := args, res := some (.bool true), after := args } = some (.bool (true == true)) from w_eq_bool (w_res rfl) w_lit) rfl
/-! ### the attachment: holds_open's last premise (the goal 'hc' behind k_head) from a wpAny of the law's body -/
/-- the same from a codeAny of the CALL (for a layer whose function contracts speak of calls) -/
theorem attach_call {l : OpenLaw} {n : Nat} {q : Program} {loose : List Str} {XP : (Str → Option Value) → Heap → Prop} {YP : World → Heap → Prop} {d : DefRec}
    (hn : l.most = some n) (hdf : d.params.defaults = [])
    (call : ∀ (w : World) (s₀ s₁ : Shared) (mg mb : Str → Option Value) (fa : Addr) (o : Obj) (pm cd doc : Value) (a : Addr) (vs : List Value) (ns : List Int),
      Ground q loose [] XP w s₀ mg mb s₁.heap → YP w s₁.heap →
      s₁.heap.get? fa = some o → o.data = .func (docDef d.name d.params d.body d.scope pm cd doc) → s₁.heap.CodeRec cd d.name → mg d.name = some (.ref fa) →
      s₁.heap.get? a = some { cls := .type "list", data := .seq vs.toArray } → IntsAre vs ns → ns.length ≤ n → s₁.gens = #[] →
      codeAny (model l.prog w) callerA (.call (.ref fa) ⟨[.ref a], []⟩) (fun r s' => r = .ok (.ret (.bool true)) ∧ OldK s₁.heap s'.heap ∧ s'.os = s₁.os ∧ AllBare s'.gens) s₁) :
    WalkO q loose XP YP l.row.toRowW d [] (fun f vs => PySem.call f vs) := by
  intro w s₀ s₁ mg mb G Y fa o pm cd doc dV kV ho hd hcd hD hmg hg args vals as hpre hlay hrd hwl hlo
  obtain rfl : dV = .none := Dflts.none hD hdf
  obtain rfl : kV = .none := Dflts.noKw hD
  obtain ⟨a, vs, ns, rfl, rfl, hobj, hints, hlen⟩ := script_of hn hpre hwl
  refine enter_call (codeAny_mono (call w s₀ s₁ mg mb fa o pm cd doc a vs ns G Y ho (fd_plain hd) hcd hmg hobj hints hlen hg) fun r s' hq => ?_)
  obtain ⟨rfl, h2, h3, h4⟩ := hq
  exact ⟨.inl ⟨.bool true, .bool true, [], rfl, fun _ => rfl, .bool true, post_true l _, fun _ => ⟨List.Pairwise.nil, fun _ hm => (nomatch hm)⟩⟩, h2, h3, h4⟩
/-! ### rules over ANY heap (no ledger) from facts about the written part K: the library's own take a ledger (News) for what they write -/
section
variable {prog : Program} {w : World} {A : Around} {E : Value → Shared → Prop} {s : Shared} {K : Frag}
/-! the whole heap as the ledger: makes every rule that writes through a ledger a rule over any heap -/
def noObjs (h : Heap) : Heap := { h with objs := #[] }
theorem noObjs_get (h : Heap) (b : Addr) : (noObjs h).get? b = none := by
  cases e : (noObjs h).get? b with
  | none => rfl
  | some o => exact absurd (Heap.lt_size e) (Nat.not_lt_zero _)
def ledger (h : Heap) (L d : Addr) : List (Addr × Obj) := (List.range h.objs.size).filterMap fun a => if a = L ∨ a = d then none else (h.get? a).map fun o => (a, o)
theorem mem_ledger {h : Heap} {L d a : Addr} {o : Obj} : (a, o) ∈ ledger h L d ↔ a ≠ L ∧ a ≠ d ∧ h.get? a = some o := by
  unfold ledger
  rw [List.mem_filterMap]
  constructor
  · rintro ⟨b, _, e⟩
    split at e
    · cases e
    · rename_i hb
      obtain ⟨o', ho, e'⟩ := Option.map_eq_some_iff.mp e
      cases e'
      exact ⟨fun q => hb (.inl q), fun q => hb (.inr q), ho⟩
  · rintro ⟨n1, n2, ho⟩
    refine ⟨a, List.mem_range.mpr (Heap.lt_size ho), ?_⟩
    rw [if_neg (show ¬ (a = L ∨ a = d) from fun q => q.elim n1 n2), ho] <;> rfl
theorem fr_all {h : Heap} {L : Addr} {m : Str → Option Value} (n : h.Ns L m) : Fr (noObjs h) L h m :=
  ⟨n, fun b o e => (by rw [noObjs_get] at e; cases e), Nat.zero_le _⟩
end
end Att
namespace L2
open PySem PySem.Spec PyProof.Rows
theorem vals_ints : ∀ {vs : List Value} {ns : List Int}, IntsAre vs ns → Vals (ns.map V.int) vs
  | _, _, .nil => .nil
  | _, _, .cons n t h => .cons ⟨t, rfl⟩ (vals_ints h)
/-- nothing is tracked but the script, known to the object (or it is an object of the module) -/
def Only (H : Hp) : Prop := ∀ b, H b = none ∨ ∃ o xs, H b = some (.frz o (.lst xs))
/-- THE HEAD: the law's promise, at the heap behind the top. F, the promise of the law's def, may use that base is part of the heap (so K.In base, base.Ns mainGlobals mg stand in Mod) -/
theorem law_call {P : Program} {w : World} {K : PySem.W.Frag} {mg mb : Str → Option Value} {CX : CXT} {k : Nat} {fa a : Addr} {fd : FuncData} {x : Str} {sp : Sp} {s₁ : Shared} {vs : List Value} {ns : List Int}
    (KX : K.In s₁.heap) (hns : s₁.heap.Ns mainGlobals mg) (hb : s₁.heap.Ns builtinsNs mb) (hbb : ∀ x : Str, x ≠ "__name__" → mb x = bootBuiltins x) (hlim : s₁.heap.NoLimit) (hg : s₁.gens = #[])
    (ha : s₁.heap.get? a = some { cls := .type "list", data := .seq vs.toArray }) (hi : IntsAre vs ns) (hl : ns.length ≤ sizeLine) (hr : Room k callerA)
    (F : ∀ base : Heap, K.In base → base.Ns mainGlobals mg → FnOk P w K mg base CX k fa fd [x] sp) (hbind : ∀ (s : Shared) (u : Value), BindsTo s fd ⟨[u], []⟩ [(x, u)])
    (hsp : ∀ H : Hp, Only H → SqL K H a (ns.map V.int) → sp [.ref a] H (fun v _ => v = .bl true) fun _ _ _ => False)
    (hCX : ∀ H e s', CX [] H s₁ (fun _ _ _ => False) e s' → False) :
    codeAny (model P w) callerA (.call (.ref fa) ⟨[.ref a], []⟩) (fun r s' => r = .ok (.ret (.bool true)) ∧ OldK s₁.heap s'.heap ∧ s'.os = s₁.os ∧ AllBare s'.gens) s₁ := by
  have rv := vals_ints hi
  have lenV := hi.length
  -- from an abstract heap in which nothing but the script may be tracked
  have core : ∀ H : Hp, Only H → SqL K H a (ns.map V.int) → HOk P w H s₁.heap → (∀ b, H b ≠ none → b = a) → (H a ≠ none → K.lookup a = none) →
      codeAny (model P w) callerA (.call (.ref fa) ⟨[.ref a], []⟩) (fun r s' => r = .ok (.ret (.bool true)) ∧ OldK s₁.heap s'.heap ∧ s'.os = s₁.os ∧ AllBare s'.gens) s₁ := by
    intro H hO hS hok hA hK
    have base_of : ∀ {b : Addr} {o : Obj}, s₁.heap.get? b = some o → H b = none → (hidT s₁.heap H).get? b = some o := fun e n => hidT_get e n
    have noA : ∀ {b : Addr} {o : Obj} {es : Array DictEntry} {ep : Nat}, s₁.heap.get? b = some o → o.data = .dict es ep → H b = none := fun {b o es ep} e d => by
      cases q : H b with
      | none => rfl
      | some u =>
        have e' : b = a := hA b (by rw [q]; simp)
        subst e'
        rw [ha] at e; cases e
        have d' : Data.seq vs.toArray _ = Data.dict es ep := d
        cases d'
    have nsK : ∀ {b : Addr} {m : Str → Option Value}, s₁.heap.Ns b m → (hidT s₁.heap H).Ns b m := fun {b m} ⟨o, es, ep, e, d, r⟩ => ⟨o, es, ep, base_of e (noA e d), d, r⟩
    have hKb : K.In (hidT s₁.heap H) := fun b o e => base_of (KX b o e) (by
      cases q : H b with
      | none => rfl
      | some u =>
        have e' : b = a := hA b (by rw [q]; simp)
        subst e'
        rw [hK (by rw [q]; simp)] at e; cases e)
    have hM : Mod K mg (hidT s₁.heap H) := ⟨hKb, nsK hns, ⟨mb, nsK hb, hbb⟩, let ⟨mc, h1, h2⟩ := hlim; ⟨mc, nsK h1, h2⟩⟩
    have e0 : Env0 P w K mg (hidT s₁.heap H) callerA [] s₁ H := ⟨rfl, hM, fun b o e => of_hidT e, Nat.le_of_eq (hidT_size _ _), trivial, fun b hb => absurd (show b ∈ ([] : List Addr) from hb) (by simp), hok, .of_eq hg⟩
    refine codeAny_mono ((F _ hKb (nsK hns)).run callerA [] s₁ H ⟨[.ref a], []⟩ [.ref a] [.ref a] _ _ hr e0 (hbind s₁ (.ref a)) (.cons rfl .nil) (hsp H hO hS)) fun r s' h => ?_
    cases r with
    | error e => exact (hCX H e s' h).elim
    | ok fl =>
      cases fl with
      | next => exact False.elim h
      | brk => exact False.elim h
      | cont => exact False.elim h
      | ret u =>
        obtain ⟨v, H', os, bare, un, hok', r', q⟩ := h
        have q' : v = .bl true := q
        subst q'
        obtain rfl : u = Value.bool true := r'
        refine ⟨rfl, OldK.of_keep fun b o e => ?_, os, bare⟩
        cases q : H b with
        | none => exact un.keep b o e q (by intro z; exact absurd (show b ∈ ([] : List Addr) from z) (by simp)) (by simp)
        | some u =>
          rcases hO b with z | ⟨ob, xs, z⟩
          · rw [q] at z; cases z
          · have z2 := un.frzs b ob _ z
            obtain ⟨e1, _⟩ := hok b _ z
            obtain ⟨e2, _⟩ := hok' b _ z2
            rw [e] at e1; cases e1
            exact e2
  cases hk : K.lookup a with
  | some o =>
    -- the script is one of the module's own objects
    have e := KX a o hk
    rw [ha] at e
    cases e
    refine core (fun _ => none) (fun _ => .inl rfl) (.inr ⟨_, vs.toArray, _, hk, rfl, rfl, rfl, by rw [List.size_toArray, lenV]; exact hl, by simpa using rv⟩) (fun b u z => by have z' : (none : Option HO) = some u := z; cases z') (fun b z => absurd rfl z) fun z => absurd rfl z
  | none =>
    refine core (fun b => if b = a then some (.frz { cls := .type "list", data := .seq vs.toArray } (.lst (ns.map V.int))) else none) (fun b => ?_) (.inl (.inr ⟨{ cls := .type "list", data := .seq vs.toArray }, if_pos rfl⟩)) (fun b u z => ?_) (fun b z => ?_) fun _ => hk
    · by_cases hb : b = a
      · exact .inr ⟨_, _, if_pos hb⟩
      · exact .inl (if_neg hb)
    · by_cases hb : b = a
      · have z' := (if_pos hb).symm.trans z
        cases z'
        subst hb
        exact ⟨ha, by rw [List.length_map]; exact hl, vs, _, rv, ha⟩
      · have z' := (if_neg hb).symm.trans z
        cases z'
    · by_cases hb : b = a
      · exact hb
      · exact absurd (if_neg hb) z
end L2
namespace L2
open PySem PySem.Spec PyProof.Rows
abbrev KOf {K : PySem.W.Frag} {h : Heap} (_ : K.In h) : PySem.W.Frag := K
/-- the goal that k_head leaves (case hc), from the law's promise. F gives the function object fd (K's own) once, then the promise over every base -/
theorem walk_of {l : PySem.W.OpenLaw} {n k : Nat} {q : Program} {loose : List Str} {XP : (Str → Option Value) → Heap → Prop} {YP : World → Heap → Prop} {d : DefRec} {K : Params → PySem.W.Frag} {CX : World → CXT} {sp : World → Sp} {x : Str}
    (hn : l.most = some n) (hn2 : n ≤ sizeLine) (hdf : d.params.defaults = []) (hr : Room k callerA)
    (hY : ∀ (w : World) (h : Heap), YP w h → (K w.params).In h)
    (F : ∀ (w : World) (mg : Str → Option Value) (fa : Addr) (h : Heap), (K w.params).In h → h.Ns mainGlobals mg → mg d.name = some (.ref fa) →
      ∃ fd : FuncData, (∀ (s : Shared) (u : Value), BindsTo s fd ⟨[u], []⟩ [(x, u)]) ∧
        ∀ base : Heap, (K w.params).In base → base.Ns mainGlobals mg → FnOk l.prog w (K w.params) mg base (CX w) k fa fd [x] (sp w))
    (hsp : ∀ (w : World) (H : Hp) (a : Addr) (ns : List Int), ns.length ≤ n → Only H → SqL (K w.params) H a (ns.map V.int) → sp w [.ref a] H (fun v _ => v = .bl true) fun _ _ _ => False)
    (hCX : ∀ (w : World) (H : Hp) (s : Shared) (e : Value) (s' : Shared), CX w [] H s (fun _ _ _ => False) e s' → False) :
    PySem.W.WalkO q loose XP YP l.row.toRowW d [] (fun f vs => PySem.call f vs) := by
  refine Att.attach_call hn hdf fun w s₀ s₁ mg mb fa o pm cd doc a vs ns G Y ho hd hcd hmg hobj hints hlen hg => ?_
  have KX := hY w _ Y
  obtain ⟨fd, hb, hF⟩ := F w mg fa _ KX G.T.g hmg
  exact law_call KX G.T.g G.T.b G.T.builtins G.T.nolimit hg hobj hints (Nat.le_trans hlen hn2) hr hF hb (fun H hO hS => hsp w H a ns hlen hO hS) fun H e s' => hCX w H s₁ e s'
end L2
/- THE LAST THEOREM (shape; LID, My.* are yours):
   My.Adr: a structure of the addresses that your layer names (classes, functions); My.Txt K t: a structure (Prop) of the equations over K;
   My.txt_mk : {K} {implicit addresses ..} (e1 : nsIn K mainGlobals "law" = some (some (.ref f))) (e2 : K.lookup f = some ⟨oc, od, .func (fnOf "law" "law" params body scope dV kV doc pm an cdv ct), sl⟩) (e3 : codeIn K cdv "law" = true) .. : ∃ t, My.Txt K t
set_option maxRecDepth 100000 in
set_option maxHeartbeats 0 in
theorem PySem.Challenge.cw_LID_holds : PySem.Challenge.rw_LID.Holds := by
  w_on; o_law; k_head; (case hw => w_witness2)
  k_fill
  refine L2.walk_of (l := PySem.Challenge.rw_LID) (n := 63) (k := 40) (x := "script") (CX := fun w => ..) (sp := fun _ => My.sp_law) rfl (by decide) rfl ⟨rfl, by decide, by decide⟩ (fun w h Y => PySem.W.kIn_of Y) ?F ?S ?C
  case F =>
    intro w mg fa h KX G hmg
    have T : ∃ t, My.Txt (L2.KOf KX) t := by
      dsimp only [L2.KOf]                          -- K must stand as «<heap const> w.params» for k_is
      refine' My.txt_mk ?e1 ?e2 ?e3 ..
      (case e1 => PySem.W.k_is)                    -- in the order: a name -> its address -> its object -> its parts
      (case e2 => PySem.W.k_is)
      ..
    obtain ⟨t, T⟩ := T
    have e0 := hmg.symm.trans (PySem.W.mg_of KX G T.law)
    cases e0                                       -- fa is the law's own address
    exact ⟨_, fun s u => .of_eq rfl, fun base kb nb => My.law_fn T kb nb⟩     -- if «.of_eq rfl» comes too early: refine' ⟨_, ?b, fun base kb nb => My.law_fn T kb nb⟩; exact fun s u => .of_eq rfl
  case S => exact fun w H a ns hl hO hS => ..
  case C => exact ..
(the tactic k_is has no namespace: write k_is) -/
/-! SHORT WORDS over the layer: a def of the text, its body, what a loop and a test want. -/
namespace L2
open PySem PySem.Spec PyProof.Rows
/-! ### the text by places -/
/-- the j-th statement of a class's body -/
def inClass (s : Stmt) (j : Nat) : Stmt := match s with
  | .ClassDef _ _ _ body _ _ _ _ _ _ _ => body.getD j (.Pass ⟨0, 0, 0, 0⟩)
  | _ => .Pass ⟨0, 0, 0, 0⟩
def defArgs (s : Stmt) : Arguments := match s with
  | .FunctionDef _ a _ _ _ _ _ _ _ _ => a
  | _ => { posonlyargs := [], args := [], vararg := none, kwonlyargs := [], kw_defaults := [], kwarg := none, defaults := [] }
def defBody (s : Stmt) : List Stmt := match s with
  | .FunctionDef _ _ b _ _ _ _ _ _ _ => b
  | _ => []
def defScope (s : Stmt) : Scope := match s with
  | .FunctionDef _ _ _ _ _ _ sc _ _ _ => sc
  | _ => { kind := .function, names := [], isGenerator := false, isCoroutine := false }
/-! ### no exception leaves a def -/
abbrev CX0 : CXT := fun _ _ _ _ _ _ => False
abbrev E0 : XK := fun _ _ _ => False
theorem pass0 {X : Cx} : Passes CX0 X E0 := fun _ _ _ _ _ _ _ h => h.elim
/-! ### a def (or method) of the text as it stands behind the top -/
structure Fun (K : PySem.W.Frag) (x qual : Str) (st : Stmt) (f : Addr) (fd : FuncData) : Prop where
  ex : ∃ (oc : Value) (od : Option Addr) (kV doc pm : Value) (an : Option Addr) (cdv ct : Value) (osl : Array (Option Value)),
    fd = PySem.W.fnOf x qual (defArgs st) (defBody st) (defScope st) .none kV doc pm an cdv ct ∧ K.lookup f = some ⟨oc, od, .func fd, osl⟩ ∧ PySem.W.codeIn K cdv qual = true
  kp : PySem.W.keepIn K (.ref f) = true
section
variable {P : Program} {w : World} {K : PySem.W.Frag} {mg : Str → Option Value} {base : Heap}
/-- THE RULE for a def: its body as a term of rules, and the reading of that term -/
theorem Fun.ok {x qual : Str} {st : Stmt} {f : Addr} {fd : FuncData} {N ps : List Str} {k : Nat} {sp : Sp} (F : Fun K x qual st f fd) (S : FnScope N ps (defScope st)) (len : ∀ vs H Q E, sp vs H Q E → vs.length = ps.length)
    (hbody : ∀ (cdv : Value) (A : Around) (outer : List Env) (s : Shared) (H : Hp) (vs : List V) (Q : VK) (E : XK), Room k (A.deeper (envOfC qual (defScope st) s.heap.objs.size f cdv)) → sp vs H Q E →
      ∃ t, PSs (cxOf CX0 P w K mg base N qual (defScope st) f cdv A outer s H E).nox (defBody st) t ∧ t { nx := fun _ H' => Q .non H', rt := Q } (start N vs) H) : FnOk P w K mg base CX0 (k + 1) f fd ps sp := by
  obtain ⟨oc, od, kV, doc, pm, an, cdv, ct, osl, rfl, lk, hcd⟩ := F.ex
  refine fn_of lk hcd S len fun A outer s H vs Q E hr hsp => ?_
  obtain ⟨t, h, q⟩ := hbody cdv A outer s H vs Q E hr hsp
  exact ⟨t, h.nox, q⟩
/-- how its arguments bind (no defaults): h is «fun _ _ _ _ _ _ us hl => match us, hl with | [_, _], _ => rfl», one _ a parameter -/
theorem Fun.binds {x qual : Str} {st : Stmt} {f : Addr} {fd : FuncData} {ps : List Str} (F : Fun K x qual st f fd)
    (h : ∀ (kV doc pm : Value) (an : Option Addr) (cdv ct : Value) (us : List Value), us.length = ps.length → bindArgs (PySem.W.fnOf x qual (defArgs st) (defBody st) (defScope st) .none kV doc pm an cdv ct) ⟨us, []⟩ = pure (ps.zip us)) : Binds K fd ps [] := by
  obtain ⟨oc, od, kV, doc, pm, an, cdv, ct, osl, rfl, lk, hcd⟩ := F.ex
  exact .all (h kV doc pm an cdv ct)
theorem fun_mk {x qual : Str} {st : Stmt} {f : Addr} {oc : Value} {od an : Option Addr} {osl : Array (Option Value)} {kV doc pm cdv ct : Value} (l : K.lookup f = some ⟨oc, od, .func (PySem.W.fnOf x qual (defArgs st) (defBody st) (defScope st) .none kV doc pm an cdv ct), osl⟩)
    (c : PySem.W.codeIn K cdv qual = true) (k : PySem.W.keepIn K (.ref f) = true) : Fun K x qual st f (PySem.W.fnOf x qual (defArgs st) (defBody st) (defScope st) .none kV doc pm an cdv ct) := ⟨⟨oc, od, kV, doc, pm, an, cdv, ct, osl, rfl, l, c⟩, k⟩
end
/-! ### expressions in short: the name that stands in the i-th slot -/
section
variable {X : Cx}
end
/-! ### tests -/
theorem iteF {A B : Prop} (h : B) : if false = true then A else B := by
  rw [if_neg Bool.false_ne_true]
  exact h
theorem iteT {A B : Prop} (h : A) : if true = true then A else B := by
  rw [if_pos rfl]
  exact h
/-! ### heaps -/
/-- all that was tracked is as it was -/
def Same (H H' : Hp) : Prop := ∀ b o, H b = some o → H' b = some o
end L2
namespace L2
open PySem PySem.Spec PyProof.Rows
section
variable {X : Cx}
/-- // by a positive divisor below 2^64 -/
theorem op_fdivW : OpR X (binaryOp .FloorDiv) (rI (fun _ j => 0 < j ∧ j < 2 ^ 64) fun i j => .int (i / j)) := by
  refine opI fun i j t u s Q E hc h => ?_
  obtain ⟨h0, h1⟩ := hc
  have e : i.fdiv j = i / j := Int.fdiv_eq_ediv_of_nonneg i (Int.le_of_lt h0)
  refine floordiv_int (by omega) (by rw [e]; exact h) (.inl (PyProof.noPylong_of_log2 ?_))
  have h2 : j.natAbs < 2 ^ 64 := by omega
  have h3 : j.natAbs ≠ 0 := by omega
  have := (Nat.log2_lt h3).mpr h2
  omega
/-- t + u of tuples, whatever -/
theorem cat_tup0 {prog : Program} {w : World} {A : Around} {E : Value → Shared → Prop} {s : Shared} {t b : Addr} {ws : List Value} {Q : Value → Shared → Prop} (ht : IsTup s.heap t #[]) (hb : IsTup s.heap b ws.toArray)
    (h1 : Q (.ref b) s) : wpAny (model prog w) A (binaryOp .Add (.ref t) (.ref b)) Q E s := by
  obtain ⟨⟨cls, dd, data, sl⟩, ho, hc, n, hd⟩ := id ht
  obtain ⟨⟨cls2, dd2, data2, sl2⟩, ho2, hc2, n2, hd2⟩ := id hb
  simp only at hc hd hc2 hd2
  subst hc hd hc2 hd2
  exact concat_meets ⟨_, ho, rfl⟩ ⟨_, ho2, rfl⟩ noFill_tuple_add seq_tuple_add PySem.F.slot_tuple_add PySem.F.entry_tuple_add (PySem.F.args_tuple_add_2 _ _)
      (tuple_addW0 t b #[] ws.toArray n n2 dd dd2 sl sl2 (by simp)) ⟨ho, ho2, h1⟩
def rCatT0 (K : PySem.W.Frag) : R2 := fun x y H Q => ∃ a b ys, x = .ref a ∧ y = .ref b ∧ SqT K H a [] ∧ SqT K H b ys ∧ Q (.ref b) H
theorem op_catT0 : OpR X (binaryOp .Add) (rCatT0 X.K) := by
  intro pins s σ H x y v u Q I rx ry h
  obtain ⟨a, b, ys, rfl, rfl, ha, hb, q⟩ := h
  cases rx
  cases ry
  obtain ⟨its, r1, p1, _⟩ := I.tuple ha
  obtain ⟨its2, r2, p2, _⟩ := I.tuple hb
  cases r1
  exact cat_tup0 p1 p2 ⟨.ref b, H, I, rfl, q⟩
end
end L2
namespace HT
open PySem PyProof.Rows
section
variable {prog : Program} {w : World} {A : Around} {E : Value → Shared → Prop} {s : Shared}
theorem getItem_tuple_whole {t sl : Addr} {items : Array Value} {vl vu : Value} {lo hi : Option Int} {Q : Value → Shared → Prop} (ht : IsTup s.heap t items) (hs : s.heap.IsSliceOf sl vl vu .none) (pl : IsPart vl lo) (pu : IsPart vu hi)
    (hw : sIx items.size 0 lo = 0 ∧ sIx items.size items.size hi = items.size)
    (h : Q (.ref t) s) : wpAny (model prog w) A (getItem (.ref t) (.ref sl)) Q E s := by
  obtain ⟨os, hos, hcs, hds⟩ := id hs
  have hTs : s.TypeIs (.ref sl) "slice" := ⟨os, hos, hcs⟩
  unfold getItem
  try with_reducible refine wpAny_holding ?_
  first | refine wpAny_bind (wpAny_pure ?_) | skip
  refine wpAny_bind (wpAny_sequenceKey ht.typeIs (by decide) ?_)
  refine wpAny_bind (wpAny_callSpecial?_slot (name := Str.ofString "__getitem__") ht.typeIs PyProof.Rows.slot_tuple_getitem
    (wpAny_call_entry PyProof.Rows.slot_tuple_getitem ht.typeIs entry_tuple_getitem ?_ (args_tuple_getitem _ _)))
  show wpAny _ _ (Builtin.Tuple.tupleItemsOf (.ref t) >>= _) _ _ s
  refine wpAny_bind (tupleItemsOf_ ht ?_)
  refine wpAny_bind (wpAny_typeOf hTs ?_)
  rw [if_pos (by decide)]
  refine wpAny_bind (sliceApplied_gen hs pl pu ?_)
  have hno : ((((sIx items.size 0 lo : Nat) : Int) == 0 && (1 : Int) == 1 && (sIx items.size items.size hi - sIx items.size 0 lo) == items.size) = true) := by
    rw [hw.1, hw.2]; simp
  show wpAny _ _ (if (((sIx items.size 0 lo : Nat) : Int) == 0 && (1 : Int) == 1 && (sIx items.size items.size hi - sIx items.size 0 lo) == items.size) = true then _ else _) _ _ s
  rw [if_pos hno]
  unfold Builtin.Tuple.tupleIsExact
  refine wpAny_bind (wpAny_bind (wpAny_typeOf ht.typeIs ?_))
  refine wpAny_pure ?_
  rw [if_pos (by decide)]
  exact wpAny_bind (wpAny_rule (wpAny_pure ⟨_, rfl, wpAny_pure h⟩))
end
end HT
namespace L2
open PySem PySem.Spec PyProof.Rows
section
variable {X : Cx}
/-- t[lo:hi], the whole of it: t itself -/
def rSlTW (K : PySem.W.Frag) : V → Option Int → Option Int → Hp → VK → Prop := fun x lo hi H Q => ∃ a xs, x = .ref a ∧ SqT K H a xs ∧
  (HT.sIx xs.length 0 lo = 0 ∧ HT.sIx xs.length xs.length hi = xs.length) ∧ Q (.ref a) H
theorem sl_tupW : SlR X (rSlTW X.K) := by
  intro pins s σ H x v vl vu lo hi sl Q I rx hs pl pu h
  obtain ⟨a, xs, rfl, hx, hw, q⟩ := h
  cases rx
  obtain ⟨its, r, ht, hz⟩ := I.tuple hx
  have hlen : its.toArray.size = xs.length := by rw [List.size_toArray]; exact r.length.symm
  refine ⟨"tuple", _, PyProof.Rows.slot_tuple_getitem.lookup, ht.typeIs, ?_⟩
  exact HT.getItem_tuple_whole ht hs pl pu (by rw [hlen]; exact hw) ⟨.ref a, H, I, rfl, q⟩
end
end L2
namespace L2
open PySem PySem.Spec PyProof.Rows
section
variable {X : Cx} {pins : List (Addr × Obj)} {σ : St} {H : Hp} {s : Shared} {h' : Heap} {t' : Nat}
/-- several untracked records of ours have turned, and a new object is laid and tracked -/
theorem Inv.turnLay {ch : List Addr} {a : Addr} {o : HO} (I : Inv X pins σ H s) (hf : ∀ b ∈ ch, FpOk X pins H b) (k : ∀ b ob, b ∉ ch → s.heap.get? b = some ob → h'.get? b = some ob) (hp : s.heap.objs.size ≤ a)
    (new : ObjOk X.prog X.w (upd H a o) h' a o) : Inv X pins σ (upd H a o) { s with heap := h', toks := t' } := by
  have hn : H a = none := I.hok.fresh hp
  have nch : ∀ b u, H b = some u → b ∉ ch := fun b u e hb => by rw [(hf b hb).1] at e; cases e
  have na : ∀ b u, H b = some u → b ≠ a := fun b u e => ne_of_none e hn
  refine I.step (g' := s.gens) (d' := s.drawn) (ch := ch) (fun b hb => ?_) (fun b o _ _ hc e _ => k b o hc e) (fun b o _ _ hc e _ => ⟨o.slots, k b o hc e⟩)
    (fun b o _ e n => by rw [upd_ne (Nat.ne_of_lt (Nat.lt_of_lt_of_le (Heap.lt_size e) hp))]; exact n)
    (fun b o hc e => ⟨o, k b o hc e⟩) (fun b xs e => by rw [upd_ne (na b _ e)]; exact e) (fun b o u e => by rw [upd_ne (na b _ e)]; exact e) (fun b ps e => ⟨#[], by rw [upd_ne (na b _ e), e]; simp⟩) (fun m hm => ?_) (fun b u e => ?_) I.bare
  · obtain ⟨f0, f1, f2, f3, f4, f5⟩ := hf b hb
    exact ⟨f3, f1, f4, f5⟩
  · obtain ⟨ob, es, ep, ho, r⟩ := hm
    exact ⟨ob, es, ep, k _ ob (fun z => (hf _ z).2.1 rfl) ho, r⟩
  · by_cases hb : b = a
    · subst hb; rw [upd_same] at e; cases e; exact new
    · rw [upd_ne hb] at e
      refine (I.hok b u e).stay (fun c v hc q => k c v ?_ q) (fun c q => by rw [upd_ne (na c _ q)]; exact q) fun c xs q => by rw [upd_ne (na c _ q)]; exact q
      rcases hc with z | z
      · rw [z]; exact nch b u e
      · exact nch c _ z
/-- several untracked records of ours have turned -/
theorem Inv.turns {ch : List Addr} (I : Inv X pins σ H s) (hf : ∀ b ∈ ch, FpOk X pins H b) (k : ∀ b ob, b ∉ ch → s.heap.get? b = some ob → h'.get? b = some ob) : Inv X pins σ H { s with heap := h', toks := t' } := by
  have nch : ∀ b u, H b = some u → b ∉ ch := fun b u e hb => by rw [(hf b hb).1] at e; cases e
  refine I.step (g' := s.gens) (d' := s.drawn) (ch := ch) (fun b hb => ?_) (fun b o _ _ hc e _ => k b o hc e) (fun b o _ _ hc e _ => ⟨o.slots, k b o hc e⟩)
    (fun b o _ e n => n) (fun b o hc e => ⟨o, k b o hc e⟩) (fun b xs e => e) (fun b o u e => e) (fun b ps e => ⟨#[], by rw [e]; simp⟩) (fun m hm => ?_) (fun b u e => ?_) I.bare
  · obtain ⟨f0, f1, f2, f3, f4, f5⟩ := hf b hb
    exact ⟨f3, f1, f4, f5⟩
  · obtain ⟨ob, es, ep, ho, r⟩ := hm
    exact ⟨ob, es, ep, k _ ob (fun z => (hf _ z).2.1 rfl) ho, r⟩
  · refine (I.hok b u e).stay (fun c v hc q => k c v ?_ q) (fun c q => q) fun c xs q => q
    rcases hc with z | z
    · rw [z]; exact nch b u e
    · exact nch c _ z
end
/-! ### enumerate(list) -/
def Ite (K : PySem.W.Frag) (a : Addr) : It :=
  ⟨fun i H => ∃ xs x, SqL K H a xs ∧ xs[i]? = some x,
   fun i H y H' => ∃ p x, H p = none ∧ y = .ref p ∧ H' = upd H p (.tup [.int i, x]) ∧ ∀ xs, SqL K H a xs → xs[i]? = some x,
   fun i H => ∃ xs, SqL K H a xs ∧ xs.length ≤ i⟩
theorem turn_enum {P : Program} {w : World} {K : PySem.W.Frag} {elts : List Expr} {x1 : Nat} {pos : Pos} (a e it : Addr) (hne : e ≠ it) :
    Turn P w K (.Tuple elts x1 pos) (Ite K a) [e, it] e (fun i h => ∃ old, IsEnum h e it (i : Int) old ∧ h.IsListIter it a i) where
  mem := by simp
  obj := fun i h st b hb => by
    obtain ⟨old, h1, h2⟩ := st
    rcases List.mem_cons.mp hb with rfl | hb
    · exact ⟨_, h1, fun v z => by cases z⟩
    · have e : b = it := by simpa using hb
      subst e
      obtain ⟨o, q, c, d⟩ := h2
      exact ⟨o, q, fun v z => by rw [d] at z; cases z⟩
  keep := fun i h h' st k => by
    obtain ⟨old, h1, h2⟩ := st
    exact ⟨old, k e (by simp) _ h1, h2.at fun o q => k it (by simp) o q⟩
  item := by
    intro X hP hw hK hc i pins s σ H E I hf st hg
    subst hP hw hK
    obtain ⟨xs, x, hq, hx⟩ := hg
    obtain ⟨old, h1, h2⟩ := st
    obtain ⟨its, rv, p, hz⟩ := I.list hq
    obtain ⟨u, hu, ru⟩ := rv.get hx
    refine wpAny_pyNext_enum_item h1 h2 p.isList (x := u) (by simpa using hu) hne fun h₁ heo hit ht hsz hk => ?_
    refine ⟨_, rfl, wpAny_letOwnedTupleGo_enum heo fun h₂ he₂ hs₂ => ?_⟩
    replace hs₂ : Heap.SameBut e h₁ h₂ := hs₂
    have hlt : e < s.heap.objs.size := Heap.lt_size h1
    have itlt : it < s.heap.objs.size := by obtain ⟨o, q, _⟩ := h2; exact Heap.lt_size q
    have ht2 : h₂.get? s.heap.objs.size = some { cls := .type "tuple", data := .seq #[.int i s.toks, u] } := by rw [hs₂.2 _ (Nat.ne_of_gt hlt)]; exact ht
    have kk : ∀ b ob, b ∉ [e, it] → s.heap.get? b = some ob → h₂.get? b = some ob := fun b ob hb q => by
      have b1 : b ≠ e := fun z => hb (by simp [z])
      have b2 : b ≠ it := fun z => hb (by simp [z])
      exact hs₂.extBut b ob b1 (hk b ob b1 b2 q)
    refine ⟨.ref s.heap.objs.size, upd H s.heap.objs.size (.tup [.int i, x]), I.turnLay hf kk (Nat.le_refl _) ?_, rfl, ⟨_, x, I.hok.fresh (Nat.le_refl _), rfl, rfl, fun ys hy => by rw [I.list_inj hy hq]; exact hx⟩, ?_, fun b hb => ?_⟩
    · refine ⟨by show 2 ≤ sizeLine; decide, [.int i s.toks, u], .cons ⟨_, rfl⟩ (.cons ru .nil), ?_⟩
      exact ⟨_, ht2, rfl, _, rfl⟩
    · refine ⟨u, ?_, hit.extBut hs₂.extBut (Ne.symm hne)⟩
      have : ((i : Nat) : Int) + 1 = ((i + 1 : Nat) : Int) := by omega
      rw [← this]; exact he₂
    · rw [upd_ne]
      · exact (hf b hb).1
      · intro z; subst z
        rcases List.mem_cons.mp hb with z | z
        · exact Nat.ne_of_gt hlt z
        · exact Nat.ne_of_gt itlt (by simpa using z)
  done := by
    intro X hP hw hK hc i pins s σ H E I hf st hg
    subst hP hw hK
    obtain ⟨xs, hq, hx⟩ := hg
    obtain ⟨old, h1, h2⟩ := st
    obtain ⟨its, rv, p, hz⟩ := I.list hq
    have hl := rv.length
    exact wpAny_pyNext_enum_end (I.ok.hd hc) h1 h2 p.isList (by simp; omega) fun h' eb => ⟨rfl, I.turns (t' := s.toks) (ch := [e, it]) hf fun b o hb q => eb b o (fun z => hb (by simp [z])) q⟩
  self := fun _ _ _ _ _ st h => by
    obtain ⟨old, h1, h2⟩ := st
    exact wpAny_pyIter_enum h1 h
def iEnum (K : PySem.W.Frag) (ta : TA) : TI := fun σ H R => ta σ H fun vs H1 => ∃ a, vs = [.ref a] ∧ (∃ xs, SqL K H1 a xs) ∧ R (Ite K a) H1
theorem boot_enum : bootBuiltins "enumerate" = some (.type "enumerate") := by decide +kernel
theorem pi_enum {X : Cx} {elts : List Expr} {x1 : Nat} {tpos : Pos} {a : Expr} {ta : TA} {p pos : Pos} (hg : Gl X "enumerate") (hm : X.mg "enumerate" = none) (ha : PA X [a] ta) (hs : starEach [a] X.env = [(false, eval a X.env)] := by rfl) :
    PI X (.Tuple elts x1 tpos) (.Call (.Name "enumerate" p) [a] [] pos) (iEnum X.K ta) := by
  intro pins s σ H R I h
  refine Call_ (ld_blt I hg hm boot_enum (PyProof.Rows.callWith_type1 (thn (ha pos pins s σ H _ I h) fun us s1 ⟨vs, H1, I1, r1, q1⟩ => ?_) hs rfl))
  obtain ⟨l, e, ⟨xs, hq⟩, q⟩ := q1
  subst e
  cases r1 with
  | cons r rr =>
    cases rr
    cases r
    obtain ⟨its, rv, pl, hz⟩ := I1.list hq
    refine call_enumerate_list pl.isList fun h' he hit hsz hk => ?_
    refine wpAny_pyIter_enum he ?_
    have I2 : Inv X pins σ H1 { s1 with heap := h' } := I1.kept (t' := s1.toks) hk
    refine ⟨s1.heap.objs.size + 1, [s1.heap.objs.size + 1, s1.heap.objs.size], _, _, H1, rfl, I2, turn_enum l _ _ (Nat.ne_of_gt (Nat.lt_succ_self _)), ⟨.none, he, hit⟩, fun b hb => ?_, q⟩
    have hb' : s1.heap.objs.size ≤ b := by
      rcases List.mem_cons.mp hb with z | z
      · rw [z]; exact Nat.le_succ _
      · have : b = s1.heap.objs.size := by simpa using z
        rw [this]; exact Nat.le_refl _
    exact I1.fpOk hb' (I1.hok.fresh hb')
/-! ### reversed(list) -/
def Itv (K : PySem.W.Frag) (a : Addr) (n : Nat) : It :=
  ⟨fun i H => ∃ xs x, SqL K H a xs ∧ xs.length = n ∧ i < n ∧ xs[n - 1 - i]? = some x, fun i H x H' => H' = H ∧ ∀ xs, SqL K H a xs → xs[n - 1 - i]? = some x, fun i H => (∃ xs, SqL K H a xs ∧ xs.length = n) ∧ i = n⟩
def iRev (K : PySem.W.Frag) (ta : TA) : TI := fun σ H R => ta σ H fun vs H1 => ∃ a xs, vs = [.ref a] ∧ SqL K H1 a xs ∧ R (Itv K a xs.length) H1
/-! ### zip(list, list) -/
def Itz (K : PySem.W.Frag) (a b : Addr) : It :=
  ⟨fun i H => ∃ xs ys x y, SqL K H a xs ∧ SqL K H b ys ∧ xs[i]? = some x ∧ ys[i]? = some y,
   fun i H z H' => ∃ p x y, H p = none ∧ z = .ref p ∧ H' = upd H p (.tup [x, y]) ∧ (∀ xs, SqL K H a xs → xs[i]? = some x) ∧ ∀ ys, SqL K H b ys → ys[i]? = some y,
   fun i H => ∃ xs ys, SqL K H a xs ∧ SqL K H b ys ∧ min xs.length ys.length ≤ i⟩
def iZip (K : PySem.W.Frag) (ta : TA) : TI := fun σ H R => ta σ H fun vs H1 => ∃ a b, vs = [.ref a, .ref b] ∧ (∃ xs, SqL K H1 a xs) ∧ (∃ ys, SqL K H1 b ys) ∧ R (Itz K a b) H1
end L2
namespace L2
open PySem PySem.Spec PyProof.Rows
/-! ### [e for t in it if c] -/
/-- the cells that a block takes along -/
theorem closureFor_ex {scope : Scope} {env : Env} (h : ∀ x ∈ scope.names, x.2 = .free → ∃ c, env.cells.lookup x.1 = some c) :
    ∃ cl, closureFor scope env = pure cl ∧ (∀ x c, cl.lookup x = some c → env.cells.lookup x = some c) ∧ ∀ x, (x, NameKind.free) ∈ scope.names → ∃ c, cl.lookup x = some c := by
  have key : ∀ (names : List (Str × NameKind)) (acc : List (Str × Addr)), (∀ x ∈ names, x.2 = .free → ∃ c, env.cells.lookup x.1 = some c) → (∀ x c, acc.lookup x = some c → env.cells.lookup x = some c) →
      ∃ cl, (forIn names acc fun (x : Str × NameKind) (cs : List (Str × Addr)) => (if x.2 == .free then do let a ← cellOf env x.1; pure (ForInStep.yield ((x.1, a) :: cs)) else pure (ForInStep.yield cs) : Sem _)) = pure cl ∧ (∀ x c, cl.lookup x = some c → env.cells.lookup x = some c) ∧
        (∀ x, (x, NameKind.free) ∈ names → ∃ c, cl.lookup x = some c) ∧ ∀ x c, acc.lookup x = some c → ∃ c', cl.lookup x = some c' := by
    intro names
    induction names with
    | nil => intro acc _ ha; exact ⟨acc, rfl, ha, ⟨(fun x hx => nomatch hx), fun x c q => ⟨c, q⟩⟩⟩
    | cons y r ih =>
      intro acc hn ha
      obtain ⟨n, k⟩ := y
      have hr : ∀ x ∈ r, x.2 = .free → ∃ c, env.cells.lookup x.1 = some c := fun x hx => hn x (List.mem_cons_of_mem _ hx)
      by_cases hk : k = .free
      · subst hk
        obtain ⟨c, hc⟩ := hn (n, .free) (by simp) rfl
        have ha' : ∀ x c', ((n, c) :: acc).lookup x = some c' → env.cells.lookup x = some c' := fun x c' q => by
          rw [List.lookup_cons] at q
          cases e : x == n with
          | true => rw [e] at q; cases q; rw [eq_of_beq e]; exact hc
          | false => rw [e] at q; exact ha x c' q
        obtain ⟨cl, h1, h2, h3, h4⟩ := ih ((n, c) :: acc) hr ha'
        refine ⟨cl, ?_, h2, fun x hx => ?_, fun x c' q => ?_⟩
        · rw [List.forIn_cons]
          simp only [beq_self_eq_true, if_true, cellOf, hc]
          exact h1
        · rcases List.mem_cons.mp hx with e | hx
          · cases e
            exact h4 n c (by simp)
          · exact h3 x hx
        · cases e : x == n with
          | true => exact h4 x c (by rw [List.lookup_cons, e])
          | false => exact h4 x c' (by rw [List.lookup_cons, e]; exact q)
      · have hb : (k == NameKind.free) = false := by simpa using hk
        obtain ⟨cl, h1, h2, h3, h4⟩ := ih acc hr ha
        refine ⟨cl, ?_, h2, fun x hx => ?_, h4⟩
        · rw [List.forIn_cons]
          simp only [hb, Bool.false_eq_true, if_false]
          exact h1
        · rcases List.mem_cons.mp hx with e | hx
          · cases e; exact absurd rfl hk
          · exact h3 x hx
  obtain ⟨cl, h1, h2, h3, _⟩ := key scope.names [] h (fun x c q => by simp at q)
  refine ⟨cl, ?_, h2, h3⟩
  unfold closureFor
  show (forIn scope.names [] (fun (x : Str × NameKind) (cs : List (Str × Addr)) => (if x.2 == .free then do let a ← cellOf env x.1; pure (ForInStep.yield ((x.1, a) :: cs)) else pure (ForInStep.yield cs) : Sem _)) >>= fun cs => pure cs) = pure cl
  rw [h1]
  rfl
theorem lookup_map_kind {f : Str × NameKind → Str × NameKind} (h1 : ∀ p, (f p).1 = p.1) : ∀ {names : List (Str × NameKind)} {x : Str}, (names.map f).lookup x = (names.lookup x).map fun k => (f (x, k)).2
  | [], _ => rfl
  | (n, j) :: r, x => by
    rw [List.map_cons]
    have e : f (n, j) = (n, (f (n, j)).2) := by
      have := h1 (n, j)
      exact Prod.ext this rfl
    rw [e, List.lookup_cons, List.lookup_cons]
    cases hx : x == n with
    | true => rw [eq_of_beq hx]; rfl
    | false => exact lookup_map_kind h1
def rlab (env : Env) (p : Str × NameKind) : Str × NameKind := if (p.2 == .free && env.scope.kind == .function && env.kindOf p.1 == some .cell) = true then (p.1, .cell) else (p.1, p.2)
theorem rlab_fst (env : Env) (p : Str × NameKind) : (rlab env p).1 = p.1 := by unfold rlab; split <;> rfl
theorem rlab_snd (env : Env) (p : Str × NameKind) : (rlab env p).2 = p.2 ∨ (p.2 = .free ∧ (rlab env p).2 = .cell) := by
  unfold rlab
  split
  · rename_i h
    rw [Bool.and_eq_true, Bool.and_eq_true] at h
    exact .inr ⟨eq_of_beq h.1.1, rfl⟩
  · exact .inl rfl
theorem relabel_names (scope : Scope) (env : Env) : (relabel scope env).names = scope.names.map (rlab env) := rfl
theorem lookup_relabel {scope : Scope} {env : Env} {x : Str} {k : NameKind} (h : (relabel scope env).names.lookup x = some k) : scope.names.lookup x = some k ∨ (scope.names.lookup x = some .free ∧ k = .cell) := by
  rw [relabel_names, lookup_map_kind (rlab_fst env)] at h
  cases e : scope.names.lookup x with
  | none => rw [e] at h; cases h
  | some j =>
    rw [e] at h
    have h' : (rlab env (x, j)).2 = k := Option.some.inj h
    rcases rlab_snd env (x, j) with q | ⟨q1, q2⟩
    · rw [q] at h'; exact .inl (by rw [← h'])
    · rw [q2] at h'; exact .inr ⟨by rw [show j = NameKind.free from q1], h'.symm⟩
theorem lookup_relabel_free {scope : Scope} {env : Env} {x : Str} (h : scope.names.lookup x = some .free) : (relabel scope env).names.lookup x = some .cell ∨ (relabel scope env).names.lookup x = some .free := by
  rw [relabel_names, lookup_map_kind (rlab_fst env), h]
  rcases rlab_snd env (x, .free) with q | ⟨_, q⟩
  · exact .inr (by rw [Option.map_some, q])
  · exact .inl (by rw [Option.map_some, q])
theorem mem_of_lookup {α β : Type} [BEq α] [LawfulBEq α] {x : α} {k : β} : ∀ {l : List (α × β)}, l.lookup x = some k → (x, k) ∈ l
  | [], h => by simp at h
  | (n, j) :: r, h => by
    rw [List.lookup_cons] at h
    cases e : x == n with
    | true => rw [e] at h; cases h; rw [eq_of_beq e]; simp
    | false => rw [e] at h; exact List.mem_cons_of_mem _ (mem_of_lookup h)
/-- the block's context: its own names N (its targets, and what it takes from around), the iterator's records fp -/
def compCx (X : Cx) (N : List Str) (scope : Scope) (cl : List (Str × Addr)) (C : Addr) (fp : List Addr) (s : Shared) (H : Hp) : Cx :=
  { X with N := N, s₀ := s, H₀ := H, env := compEnvC scope cl C X.env, outer := X.stack, stack := X.stack, ex := fp, fn := fun _ => false, pn := [], xe := fun _ _ => False }
/-- what of the text a block must have -/
structure CompScope (scope : Scope) : Prop where
  kind : scope.kind = .function
  cell : ∀ y ∈ scope.names, y.2 ≠ .cell
  names : ∀ y ∈ scope.names, y.2 = .local → scope.names.lookup y.1 = some .local
/-- which of the names stand around it, and where -/
def Capt (X : Cx) (scope : Scope) : List (Option Nat) → List Str → Prop
  | [], [] => True
  | none :: r, _ :: xs => Capt X scope r xs
  | some j :: r, x :: xs => (X.N[j]? = some x ∧ (X.env.kindOf x = some .cell ∨ X.env.kindOf x = some .free) ∧ scope.names.lookup x = some .free) ∧ Capt X scope r xs
  | _, _ => False
def captSt (capt : List (Option Nat)) (σ : St) : St := capt.map fun o => o.bind fun j => (σ[j]?).join
theorem Capt.len {X : Cx} {scope : Scope} : ∀ {capt : List (Option Nat)} {N : List Str}, Capt X scope capt N → capt.length = N.length
  | [], [], _ => rfl
  | none :: r, _ :: xs, h => by simp [Capt.len (show Capt X scope r xs from h)]
  | some j :: r, x :: xs, h => by simp [Capt.len h.2]
  | [], _ :: _, h => h.elim
  | none :: _, [], h => h.elim
  | some _ :: _, [], h => h.elim
theorem Capt.at_ {X : Cx} {scope : Scope} : ∀ {capt : List (Option Nat)} {N : List Str} {i j : Nat} {x : Str}, Capt X scope capt N → capt[i]? = some (some j) → N[i]? = some x →
    X.N[j]? = some x ∧ (X.env.kindOf x = some .cell ∨ X.env.kindOf x = some .free) ∧ scope.names.lookup x = some .free
  | [], [], _, _, _, _, e, _ => by simp at e
  | none :: r, y :: xs, 0, _, _, _, e, _ => by simp at e
  | none :: r, y :: xs, i + 1, _, _, h, e, e2 => Capt.at_ (i := i) (show Capt X scope r xs from h) (by simpa using e) (by simpa using e2)
  | some k :: r, y :: xs, 0, _, _, h, e, e2 => by
    simp at e e2; subst e e2; exact h.1
  | some k :: r, y :: xs, i + 1, _, _, h, e, e2 => Capt.at_ (i := i) h.2 (by simpa using e) (by simpa using e2)
  | [], _ :: _, _, _, _, h, _, _ => h.elim
  | none :: _, [], _, _, _, h, _, _ => h.elim
  | some _ :: _, [], _, _, _, h, _, _ => h.elim
section
variable {X : Cx} {pins : List (Addr × Obj)} {σ : St} {H : Hp} {s : Shared} {N : List Str} {scope : Scope} {cl : List (Str × Addr)} {C : Addr} {fp : List Addr} {capt : List (Option Nat)}
theorem comp_ok (I : Inv X pins σ H s) (S : CompScope scope) (hcl : ∀ x c, cl.lookup x = some c → X.env.cells.lookup x = some c) (hall : ∀ x, (x, NameKind.free) ∈ scope.names → ∃ c, cl.lookup x = some c)
    (hC : s.heap.objs.size ≤ C) (hf : ∀ b ∈ fp, FpOk X pins H b) (hb : ∀ b ∈ fp, b < s.heap.objs.size) : (compCx X N scope cl C fp s H).Ok where
  mod := I.ok.mod
  kind := S.kind
  glob := I.ok.glob
  blt := I.ok.blt
  above := hC
  inj := fun x y c h1 h2 => I.ok.inj x y c (hcl x c h1) (hcl y c h2)
  has := fun x hx => by
    have q : scope.names.lookup x = some .free := by
      rcases hx with hx | hx
      · rcases lookup_relabel hx with e | ⟨e, _⟩
        · exact absurd rfl (S.cell _ (mem_of_lookup e))
        · exact e
      · rcases lookup_relabel hx with e | ⟨e, _⟩
        · exact e
        · exact e
    exact hall x (mem_of_lookup q)
  cab := fun x c h => by cases h
  hd := I.ok.hd
  frames := I.ok.frames
  stk := .inl rfl
  exf := fun b hb' => ⟨Nat.ne_of_lt (Nat.lt_of_lt_of_le (hb b hb') hC), fun x c h => (hf b hb').2.2.2.2.1 x c (hcl x c h)⟩
  bs := I.bs
  bsz := Nat.le_trans I.ok.bsz I.sz
  noex := fun b o e hb' => by
    rcases (hf b hb').2.2.2.1 with z | z
    · exact I.ok.noex b o e z
    · exact absurd (Heap.lt_size e) (Nat.not_lt.mpr (Nat.le_trans I.ok.bsz z))
  exfs := fun b hb' z => by
    rcases List.mem_cons.mp (I.stkSub b z) with e | e
    · exact (hf b hb').2.1 e
    · exact (hf b hb').2.2.1 e
  funs := I.stack
  frf := I.stkFree
theorem comp_inv {h' : Heap} {t' : Nat} {m : Str → Option Value} (I : Inv X pins σ H s) (S : CompScope scope) (hcl : ∀ x c, cl.lookup x = some c → X.env.cells.lookup x = some c) (hall : ∀ x, (x, NameKind.free) ∈ scope.names → ∃ c, cl.lookup x = some c)
    (hC : s.heap.objs.size ≤ C) (hf : ∀ b ∈ fp, FpOk X pins H b) (hb : ∀ b ∈ fp, b < s.heap.objs.size) (hcap : Capt X scope capt N) (hn : h'.Ns C m) (hk : ∀ b o, s.heap.get? b = some o → h'.get? b = some o) :
    Inv (compCx X N scope cl C fp s H) [] (captSt capt σ) H { s with heap := h', toks := t' } where
  ok := comp_ok I S hcl hall hC hf hb
  os := rfl
  bare := I.bare
  base := Un.kept hk
  loc := by
    refine ⟨m, hn, fun i x v hN hv hvis => ?_⟩
    have hN' : N[i]? = some x := hN
    unfold captSt at hv
    rw [List.getElem?_map] at hv
    cases e : capt[i]? with
    | none => rw [e] at hv; cases hv
    | some o =>
      rw [e] at hv
      cases o with
      | none => cases hv
      | some j =>
        have hv' : (σ[j]?).join = some v := by simpa using hv
        have hv2 : σ[j]? = some (some v) := by
          cases q : σ[j]? with
          | none => rw [q] at hv'; cases hv'
          | some z => rw [q] at hv'; cases hv'; rfl
        obtain ⟨h1, h2, h3⟩ := hcap.at_ e hN'
        obtain ⟨m0, hm0, hl⟩ := I.loc
        have hvx : Vis X.env.scope x := by
          rcases h2 with h2 | h2
          · exact .inr (.inl h2)
          · exact .inr (.inr h2)
        obtain ⟨u, r, lk⟩ := hl j x v h1 hv2 hvx
        refine ⟨u, r, ?_⟩
        rcases lk with ⟨k1, _⟩ | ⟨_, c, k2, k3⟩
        · rcases h2 with h2 | h2 <;> (rw [h2] at k1; cases k1)
        · obtain ⟨c', hc'⟩ := hall x (mem_of_lookup h3)
          have := hcl x c' hc'
          rw [k2] at this; cases this
          refine .inr ⟨lookup_relabel_free h3, c, hc', ?_⟩
          obtain ⟨o, e1, e2⟩ := k3
          exact ⟨o, hk c o e1, e2⟩
  cell := fun x c h => by
    obtain ⟨v, o, e1, e2⟩ := I.cell x c (hcl x c h)
    exact ⟨v, o, hk c o e1, e2⟩
  free := I.hok.fresh hC
  freeC := fun x c h => I.freeC x c (hcl x c h)
  pin := fun p hp => by simp [compCx] at hp
  hok := I.hok.kept hk
  len := by show (captSt capt σ).length = N.length; unfold captSt; rw [List.length_map]; exact hcap.len
end
end L2
namespace L2
open PySem PySem.Spec PyProof.Rows
abbrev testsOf (ifs : List Expr) (env : Env) : Sem Bool := forIn ifs true fun c r => if r = true then do let ok ← isTrue c env (eval c env); pure (ForInStep.yield ok) else pure (ForInStep.yield r)
theorem compLoop_gen {prog : Program} {w : World} {A : Around} {R : Result → Shared → Prop} {s : Shared} {elt target iter : Expr} {ifs : List Expr} {scope : Scope} {pos : Pos} {it acc : Value} {env : Env} (I : Nat → Shared → Prop)
    (turn : ∀ n s, I n s → wpAny (model prog w) A (pyNext it) (fun r s₁ => match r with
      | none => R (.ok .next) s₁
      | some v => wpAny (model prog w) A (letOwnedTupleGo target it v) (fun _ s₁' => wpAny (model prog w) A (assign target env v) (fun _ s₂ =>
          wpAny (model prog w) A (testsOf ifs env) (fun ok s₃ =>
            if ok = true then wpAny (model prog w) A (eval elt env) (fun x s₄ =>
              wpAny (model prog w) A (call (.builtin "list.append") [acc, x]) (fun _ s₅ => ∃ m, m < n ∧ I m s₅) (fun _ _ => False) s₄) (fun _ _ => False) s₃
            else ∃ m, m < n ∧ I m s₃) (fun _ _ => False) s₂) (fun _ _ => False) s₁') (fun _ _ => False) s₁) (fun _ _ => False) s)
    (n : Nat) (h : I n s) :
    codeAny (model prog w) A (.compLoop (.ListComp elt [⟨target, iter, ifs, 0⟩] scope pos) 0 it acc env) R s := by
  refine codeAny_loop rfl I (fun n s hI => ?_) n h
  show wpAny _ A ((compTurn (.ListComp elt [⟨target, iter, ifs, 0⟩] scope pos) 0 it acc env).onRaise (fun x => do noteFrame x env; theTreesLotGoes x)) _ _ s
  refine wpAny_noted ?_
  rw [compTurn_list]
  refine wpAny_bind (wpAny_standAt (wpAny_bind (wpAny_mono (turn n s hI) (fun r s₁ h₁ => ?_) fun _ _ h' => h'.elim)))
  cases r with
  | none => exact wpAny_pure h₁
  | some v =>
    refine wpAny_bind (wpAny_mono h₁ (fun _ s₁' h₁' => ?_) fun _ _ h' => h'.elim)
    refine wpAny_bind (wpAny_mono h₁' (fun _ s₂ h₂ => wpAny_bind (wpAny_mono h₂ (fun ok s₃ h₃ => ?_) fun _ _ h' => h'.elim)) fun _ _ h' => h'.elim)
    cases ok with
    | false => exact wpAny_pure ⟨rfl, h₃⟩
    | true =>
      exact wpAny_bind (wpAny_bind (wpAny_mono h₃ (fun x s₄ h₄ => wpAny_bind (wpAny_mono h₄ (fun _ s₅ h₅ => wpAny_pure (wpAny_pure ⟨rfl, h₅⟩)) fun _ _ h' => h'.elim)) fun _ _ h' => h'.elim))
/-- the tests of a block -/
def PTs (X : Cx) (ifs : List Expr) (t : TT) : Prop :=
  ∀ (pins : List (Addr × Obj)) (s : Shared) (σ : St) (H : Hp) (Q : Bool → Hp → Prop), Inv X pins σ H s → t σ H Q → wpAny (model X.prog X.w) X.A (testsOf ifs X.env) (TP X pins σ Q) X.xe s
theorem pts_nil {X : Cx} : PTs X [] (fun σ H Q => Q true H) := fun pins s σ H Q I h => wpAny_tests_nil ⟨H, I, h⟩
/-- the reading of a block -/
def tComp (capt : List (Option Nat)) (wi : TI) (g : TG) (tt : TT) (te : TE) : TE := fun σ H Q => wi σ H fun J H1 => ∀ D, H1 D = none → ∃ W : Nat → Nat → St → Hp → Prop, (∃ m, W 0 m (captSt capt σ) (upd H1 D (.lst []))) ∧
  ∀ i m σ' H', W i m σ' H' → (J.stop i H' ∧ Q (.ref D) H') ∨ (J.go i H' ∧ ∃ N : St → Hp → Prop, (∀ σ2 H2, N σ2 H2 → ∃ m', m' < m ∧ W (i + 1) m' σ2 H2) ∧
    ∀ x H2, J.yld i H' x H2 → g x σ' H2 fun σ3 H3 => tt σ3 H3 fun ok H4 => if ok = true then te σ3 H4 fun y H5 => ∃ xs, H5 D = some (.lst xs) ∧ xs.length < sizeLine ∧ N σ3 (upd H5 D (.lst (xs ++ [y]))) else N σ3 H4)
section
variable {X : Cx} {elt tg iter : Expr} {ifs : List Expr} {scope : Scope} {pos : Pos} {N : List Str} {capt : List (Option Nat)} {wi : TI} {g : TG} {tt : TT} {te : TE}
/-- the block, from the iterator on; E: what is wanted of its end, by the list's address, the block's own namespace, and the state -/
theorem comp_block {pins : List (Addr × Obj)} {σ : St} {H : Hp} {s : Shared} {it : Addr} {fp : List Addr} {tn : Nat → Heap → Prop} {J : It} {cl : List (Str × Addr)} {Q : VK} {E : Value → Shared → Prop} {RR : Value → Addr → Result → Shared → Prop}
    (I : Inv X pins σ H s) (T : Turn X.prog X.w X.K tg J fp it tn) (st : tn 0 s.heap) (hf : ∀ b ∈ fp, FpOk X pins H b)
    (S : CompScope scope) (hcl : ∀ x c, cl.lookup x = some c → X.env.cells.lookup x = some c) (hall : ∀ x, (x, NameKind.free) ∈ scope.names → ∃ c, cl.lookup x = some c) (hcap : Capt X scope capt N) (hc : X.calm = true)
    (hg : ∀ cl C fp s H, PG (compCx X N scope cl C fp s H) tg g) (ht : ∀ cl C fp s H, PTs (compCx X N scope cl C fp s H) ifs tt) (he : ∀ cl C fp s H, PE (compCx X N scope cl C fp s H) elt te)
    (h : ∀ D, H D = none → ∃ W : Nat → Nat → St → Hp → Prop, (∃ m, W 0 m (captSt capt σ) (upd H D (.lst []))) ∧
      ∀ i m σ' H', W i m σ' H' → (J.stop i H' ∧ Q (.ref D) H') ∨ (J.go i H' ∧ ∃ N : St → Hp → Prop, (∀ σ2 H2, N σ2 H2 → ∃ m', m' < m ∧ W (i + 1) m' σ2 H2) ∧
        ∀ x H2, J.yld i H' x H2 → g x σ' H2 fun σ3 H3 => tt σ3 H3 fun ok H4 => if ok = true then te σ3 H4 fun y H5 => ∃ xs, H5 D = some (.lst xs) ∧ xs.length < sizeLine ∧ N σ3 (upd H5 D (.lst (xs ++ [y]))) else N σ3 H4))
    (hRR : ∀ (D C : Addr) (H' : Hp) (s' : Shared) (m : Str → Option Value), s'.heap.Ns C m → Inv X pins σ H' s' → FpOk X pins H' C → Q (.ref D) H' → RR (.ref D) C (.ok .next) s') :
    wpAny (model X.prog X.w) X.A (newList []) (fun acc s₃ => wpAny (model X.prog X.w) X.A (newFunctionEnv scope X.env.globals cl [] X.env.qual none .none (some X.env)) (fun cenv s₄ =>
      codeAny (model X.prog X.w) X.A (.compStart (.ListComp elt [⟨tg, iter, ifs, 0⟩] scope pos) 0 (.ref it) acc { cenv with scope := relabel scope X.env }) (RR acc cenv.locals) s₄) E s₃) E s := by
  have hD : H s.heap.objs.size = none := I.hok.fresh (Nat.le_refl _)
  have I3 : Inv X pins σ (upd H s.heap.objs.size (.lst [])) { s with heap := s.heap.push { cls := .type "list", dict := none, data := .seq ([] : List Value).toArray } } :=
    I.laid (t' := s.toks) (fun b o q => Heap.get?_push_of_some _ q) (Nat.le_refl _) ⟨by show 0 ≤ sizeLine; decide, [], 0, .nil, Heap.get?_push_size _ rfl⟩
  obtain ⟨W, ⟨m0, w0⟩, turn⟩ := h _ hD
  refine wpAny_newObj_type (wpAny_newFunctionEnv S.cell (by intro y hy; simp at hy) (fun h₁ hns₁ hsb₁ => ?_) S.kind)
  dsimp only at hns₁ hsb₁ ⊢
  generalize hH2 : s.heap.push { cls := .type "list", dict := none, data := .seq ([] : List Value).toArray } = Hh at hns₁ hsb₁ I3 ⊢
  have fplt0 : ∀ b ∈ fp, b < s.heap.objs.size := fun b hb => by
    obtain ⟨o, e, _⟩ := T.obj 0 s.heap st b hb
    exact Heap.lt_size e
  have szH : Hh.objs.size = s.heap.objs.size + 1 := by rw [← hH2, Heap.size_push]
  have fplt : ∀ b ∈ fp, b < Hh.objs.size := fun b hb => by rw [szH]; exact Nat.lt_succ_of_lt (fplt0 b hb)
  have hf3 : ∀ b ∈ fp, FpOk X pins (upd H s.heap.objs.size (.lst [])) b := fun b hb => by
    obtain ⟨f0, fr⟩ := hf b hb
    exact ⟨by rw [upd_ne (Nat.ne_of_lt (fplt0 b hb))]; exact f0, fr⟩
  have hk1 : ∀ b o, Hh.get? b = some o → h₁.get? b = some o := fun b o e => hsb₁.extBut b o (Nat.ne_of_lt (Heap.lt_size e)) (Heap.get?_push_of_some _ e)
  have st1 : tn 0 h₁ := T.keep 0 _ _ st fun b hb o e => hk1 b o (by rw [← hH2]; exact Heap.get?_push_of_some _ e)
  generalize hX : compCx X N scope cl Hh.objs.size fp { s with heap := Hh } (upd H s.heap.objs.size (.lst [])) = X'
  have I4 : Inv X' [] (captSt capt σ) (upd H s.heap.objs.size (.lst [])) { s with heap := h₁, toks := s.toks + ([] : List (Str × Value)).length } := by
    rw [← hX]
    exact comp_inv (capt := capt) I3 S hcl hall (Nat.le_refl _) hf3 fplt hcap hns₁ hk1
  have eP : X'.prog = X.prog := by rw [← hX]; rfl
  have ew : X'.w = X.w := by rw [← hX]; rfl
  have eK : X'.K = X.K := by rw [← hX]; rfl
  have eA : X'.A = X.A := by rw [← hX]; rfl
  have eC : X'.calm = true := by rw [← hX]; exact hc
  have eE : X'.env = compEnvC scope cl Hh.objs.size X.env := by rw [← hX]; rfl
  have eX : X'.xe = fun _ _ => False := by rw [← hX]; rfl
  have ePn : X'.pn = [] := by rw [← hX]; rfl
  have hg' : PG X' tg g := by rw [← hX]; exact hg _ _ _ _ _
  have ht' : PTs X' ifs tt := by rw [← hX]; exact ht _ _ _ _ _
  have he' : PE X' elt te := by rw [← hX]; exact he _ _ _ _ _
  have stat : ∀ {H' : Hp}, (∀ b ∈ fp, H' b = none) → ∀ b ∈ fp, FpOk X' [] H' b := fun {H'} hn b hb => by
    rw [← hX]
    refine ⟨hn b hb, Nat.ne_of_lt (fplt b hb), fun z => ?_, .inl hb, fun x c q => (hf b hb).2.2.2.2.1 x c (hcl x c q), fun p hp => by simp [compCx] at hp⟩
    rcases List.mem_cons.mp (I3.stkSub b z) with e | e
    · exact (hf b hb).2.1 e
    · exact (hf b hb).2.2.1 e
  have back : ∀ {σ' : St} {H' : Hp} {s' : Shared}, Inv X' [] σ' H' s' → ∀ h'', Heap.SameBut Hh.objs.size s'.heap h'' → Inv X pins σ H' { s' with heap := h'' } := fun {σ' H' s'} I' h'' sb => by
    have u := I'.base
    rw [← hX] at u
    have neC : ∀ b o, Hh.get? b = some o → b ≠ Hh.objs.size := fun b o e => Nat.ne_of_lt (Heap.lt_size e)
    have nC : H' Hh.objs.size = none := by have := I'.free; rw [eE] at this; exact this
    refine I3.call' (s' := { s' with heap := h'' }) (ch := fp) (by have := I'.os; rw [← hX] at this; exact this) ?_ ?_ I'.bare (fun b hb => ⟨(hf3 b hb).2.2.2.1, (hf3 b hb).2.1, (hf3 b hb).2.2.2.2.1, (hf3 b hb).2.2.2.2.2⟩)
    · exact ⟨fun b o e n hb hx => sb.extBut b _ (neC b o e) (u.keep b o e n hb hx), fun b o e n hb hx => let ⟨sl, q⟩ := u.slot b o e n hb hx; ⟨sl, sb.extBut b _ (neC b o e) q⟩, u.free,
        fun b o e hx => let ⟨o', q⟩ := u.there b o e hx; ⟨o', sb.extBut b _ (neC b o e) q⟩, u.tups, u.frzs, u.tbls⟩
    · have hk := I'.hok
      rw [eP, ew] at hk
      intro b ob e
      have nb : ∀ c v, H' c = some v → c ≠ Hh.objs.size := fun c v q => ne_of_none q nC
      refine (hk b ob e).stay (fun c v hc q => sb.extBut c v ?_ q) (fun _ q => q) fun _ _ q => q
      rcases hc with z | z
      · rw [z]; exact nb b _ e
      · exact nb c _ z
  have loop : ∀ s₃ : Shared, s₃ = { s with heap := h₁, toks := s.toks + ([] : List (Str × Value)).length } →
      codeAny (model X.prog X.w) X.A (.compLoop (.ListComp elt [⟨tg, iter, ifs, 0⟩] scope pos) 0 (.ref it) (.ref s.heap.objs.size) (compEnvC scope cl Hh.objs.size X.env)) (RR (.ref s.heap.objs.size) Hh.objs.size) s₃ := by
    rintro s₃ rfl
    refine compLoop_gen (fun n s' => ∃ i σ' H', Inv X' [] σ' H' s' ∧ tn i s'.heap ∧ (∀ b ∈ fp, H' b = none) ∧ W i n σ' H') ?_ m0 ⟨0, _, _, I4, st1, fun b hb => (hf3 b hb).1, w0⟩
    rintro n s3 ⟨i, σ3, H3, I5, st3, fr3, w3⟩
    rw [← eP, ← ew, ← eA, ← eE]
    rcases turn i n σ3 H3 w3 with ⟨stop, qn⟩ | ⟨go, Nn, hN, step⟩
    · have d := T.done X' eP ew eK eC i [] s3 σ3 H3 (fun _ _ => False) I5 (stat fr3) st3 stop
      rw [← eP, ← ew] at d
      refine thn d fun r s4 ⟨hr, I6⟩ => ?_
      subst hr
      obtain ⟨mm, hns, _⟩ := I6.loc
      rw [eE] at hns
      have nC : H3 Hh.objs.size = none := by have := I6.free; rw [eE] at this; exact this
      exact hRR _ _ H3 s4 mm hns (back I6 s4.heap (.refl ..)) (I3.fpOk (Nat.le_refl _) nC) qn
    · have d := T.item X' eP ew eK eC i [] s3 σ3 H3 (fun _ _ => False) I5 (stat fr3) st3 go
      rw [← eP, ← ew] at d
      refine thn d fun r s4 ⟨u, hr, h4⟩ => ?_
      subst hr
      refine thn h4 fun _ s5 ⟨x, H5, I6, r5, y5, st5, fr5⟩ => ?_
      have I6' := I6.pinned (stat fr5) (T.obj _ _ st5)
      have dg := hg' _ s5 σ3 H5 x u _ I6' r5 (step x H5 y5)
      rw [eX] at dg
      refine thn dg fun _ s6 ⟨σ6, H6, I7, q6⟩ => ?_
      have dt := ht' _ s6 σ6 H6 _ I7 q6
      rw [eX] at dt
      refine thn dt fun ok s7 ⟨H7, I8, q7⟩ => ?_
      have again : ∀ {σ9 : St} {H9 : Hp} {s9 : Shared}, Inv X' ([] ++ pinsAt fp s5.heap) σ9 H9 s9 → Nn σ9 H9 → ∃ m, m < n ∧ ∃ i σ' H', Inv X' [] σ' H' s9 ∧ tn i s9.heap ∧ (∀ b ∈ fp, H' b = none) ∧ W i m σ' H' := fun {σ9 H9 s9} I9 n9 => by
        obtain ⟨m', hm, w9⟩ := hN σ9 H9 n9
        refine ⟨m', hm, i + 1, σ9, H9, I9.unpinned, T.keep _ _ _ st5 fun b hb o e => (I9.pin (b, o) (List.mem_append_right _ (List.mem_append_right _ (mem_pinsAt hb e)))).1, fun b hb => ?_, w9⟩
        obtain ⟨o, e, d⟩ := T.obj _ _ st5 b hb
        exact (I9.pin (b, o) (List.mem_append_right _ (List.mem_append_right _ (mem_pinsAt hb e)))).2.1
      cases ok with
      | false => exact again I8 q7
      | true =>
        have de := he' _ s7 σ6 H7 _ I8 q7
        rw [eX] at de
        refine thn de fun y s8 ⟨v, H8, I9, r8, q8⟩ => ?_
        obtain ⟨xs, hx, hz, nn⟩ := q8
        have da := mt_append (X := X') _ s8 σ6 H8 (.ref s.heap.objs.size) [v] (.ref s.heap.objs.size) [y] (fun _ H9 => Nn σ6 H9) I9 rfl (.cons r8 .nil) ⟨_, xs, v, rfl, rfl, hx, hz, nn⟩
        rw [eX] at da
        refine thn da fun _ s9 ⟨_, H9, I10, _, n9⟩ => ?_
        exact again I10 n9
  exact codeAny_compStart_list (loop _ rfl) (T.self _ 0 _ _ _ st1 (loop _ rfl))
theorem comp_cells {pins : List (Addr × Obj)} {σ : St} {H : Hp} {s : Shared} (I : Inv X pins σ H s) (hfr : ∀ x ∈ scope.names, x.2 = .free → X.env.kindOf x.1 = some .cell ∨ X.env.kindOf x.1 = some .free) :
    ∃ cl, closureFor scope X.env = pure cl ∧ (∀ x c, cl.lookup x = some c → X.env.cells.lookup x = some c) ∧ ∀ x, (x, NameKind.free) ∈ scope.names → ∃ c, cl.lookup x = some c :=
  closureFor_ex fun x hx hk => I.ok.has x.1 (hfr x hx hk)
/-- a change of the block's own namespace -/
theorem Inv.blockGone {pins : List (Addr × Obj)} {σ : St} {H : Hp} {s : Shared} {C : Addr} {h' : Heap} (I : Inv X pins σ H s) (f : FpOk X pins H C) (sb : Heap.SameBut C s.heap h') : Inv X pins σ H { s with heap := h' } :=
  I.turned (t' := s.toks) (fun b o hb e => sb.extBut b o hb e) f.1 f.2.1 f.2.2.2.1 f.2.2.2.2.1 f.2.2.2.2.2
theorem pe_comp (hi : PI X tg iter wi) (S : CompScope scope) (hfr : ∀ x ∈ scope.names, x.2 = .free → X.env.kindOf x.1 = some .cell ∨ X.env.kindOf x.1 = some .free) (hcap : Capt X scope capt N) (hc : X.calm = true)
    (hg : ∀ cl C fp s H, PG (compCx X N scope cl C fp s H) tg g) (ht : ∀ cl C fp s H, PTs (compCx X N scope cl C fp s H) ifs tt) (he : ∀ cl C fp s H, PE (compCx X N scope cl C fp s H) elt te)
    (hs : ∀ x, foldedSetIterable iter X.env x = pure x := by intro _; rfl) : PE X (.ListComp elt [⟨tg, iter, ifs, 0⟩] scope pos) (tComp capt wi g tt te) := by
  intro pins s σ H Q I h
  obtain ⟨cl, hcl, h1, h2⟩ := comp_cells I hfr
  rw [eval_ListComp]
  refine wpAny_comprehension_free (use := none) rfl hs hcl S.kind S.names (thn (hi pins s σ H _ I h) fun v s1 q1 => thn q1 fun itv s2 q2 => ?_)
  obtain ⟨it, fp, tn, J, H2, e, I2, T, st2, f2, q⟩ := q2
  subst e
  refine comp_block (RR := fun acc C => compPost (model X.prog X.w) X.A X.xe none (EP X pins σ Q) acc C) I2 T st2 f2 S h1 h2 hcap hc hg ht he q ?_
  intro D C H' s' m hn I' f' q'
  exact ⟨m, hn, fun h'' sb => ⟨.ref D, H', I'.blockGone f' sb, rfl, q'⟩⟩
/-- name = [..] -/
theorem ps_setComp {i : Nat} {y : Str} {py spos : Pos} (hN : X.N.Nodup) (hy : X.N[i]? = some y) (hx : Loc X.env.scope y) (hsw : swapsWith (.ListComp elt [⟨tg, iter, ifs, 0⟩] scope pos) (some (.Name y py)) spos.line X.env = pure true)
    (hi : PI X tg iter wi) (S : CompScope scope) (hfr : ∀ x ∈ scope.names, x.2 = .free → X.env.kindOf x.1 = some .cell ∨ X.env.kindOf x.1 = some .free) (hcap : Capt X scope capt N) (hc : X.calm = true)
    (hg : ∀ cl C fp s H, PG (compCx X N scope cl C fp s H) tg g) (ht : ∀ cl C fp s H, PTs (compCx X N scope cl C fp s H) ifs tt) (he : ∀ cl C fp s H, PE (compCx X N scope cl C fp s H) elt te)
    (hs : ∀ x, foldedSetIterable iter X.env x = pure x := by intro _; rfl) (hf : X.fn y = true ∨ X.env.scope.names.lookup y = some .local := by first | exact .inl rfl | exact .inr rfl | assumption) :
    PS X (.Assign [.Name y py] (.ListComp elt [⟨tg, iter, ifs, 0⟩] scope pos) spos) (tAsg (tComp capt wi g tt te) (gName i)) := by
  intro pins s σ H D I h
  obtain ⟨cl, hcl, h1, h2⟩ := comp_cells I hfr
  rw [exec_Assign_Name_used _ _ _ _ hsw]
  refine wpAny_bind (wpAny_standAt (wpAny_bind ?_))
  show wpAny _ X.A (do let _ ← comprehension (.ListComp elt [⟨tg, iter, ifs, 0⟩] scope pos) scope X.env _ (newList []) false (eval iter X.env) (some (assign (.Name y py) X.env))) _ _ s
  refine wpAny_bind (wpAny_mono (wpAny_comprehension_free (use := some (assign (.Name y py) X.env)) (Q := fun _ s' => SP X pins D .next s') rfl hs hcl S.kind S.names
    (thn (hi pins s σ H _ I h) fun v s1 q1 => thn q1 fun itv s2 q2 => ?_)) (fun _ s' hq => wpAny_pure (wpAny_pure hq)) fun _ _ e => e)
  obtain ⟨it, fp, tn, J, H2, e, I2, T, st2, f2, q⟩ := q2
  subst e
  refine comp_block (Q := fun x H1 => gName i x σ H1 D.nx) (RR := fun acc C => compPost (model X.prog X.w) X.A X.xe (some (assign (.Name y py) X.env)) (fun _ s' => SP X pins D .next s') acc C) I2 T st2 f2 S h1 h2 hcap hc hg ht he q ?_
  intro D' C H' s' m hn I' f' q'
  show wpAny _ X.A (assign (.Name y py) X.env (.ref D')) _ _ _
  refine wpAny_assign_Name (store_ok2 I' hN hy hx (v := .ref D') rfl (fun s'' I'' ⟨a, sb, ha⟩ => ?_) hf)
  have neC : C ≠ a := by
    rcases ha with e | e
    · rw [e]; exact f'.2.1
    · exact Ne.symm (f'.2.2.2.2.1 _ _ e)
  obtain ⟨o, es, ep, ho, r⟩ := hn
  exact ⟨m, ⟨o, es, ep, sb.extBut C o neC ho, r⟩, fun h'' sb' => ⟨_, H', I''.blockGone f' sb', q'⟩⟩
end
end L2
namespace M
open PySem PySem.Spec L2
/-! ### data, store, results -/
/-- data: texts are their codes, tuples are trees, a list or dict is a place of the store -/
inductive D where
  | non | bl (b : Bool) | int (i : Int) | str (cs : List Nat) | tup (xs : List D) | loc (n : Nat)
instance : Inhabited D := ⟨.non⟩
/-- a lambda's text: its qualified name, its parts, the names that it takes from around -/
structure LamS where
  qual : Str
  params : Arguments
  body : Expr
  scope : Scope
  caps : List Str
inductive MO where
  | lst (xs : List D) | frz (xs : List D) | dic (kvs : List (List Key × D)) | dkc (kvs : List (Key × D))
  /-- a dict with plain keys that is only read -/
  | dkf (kvs : List (Key × D))
  /-- an instance of a class of the module -/
  | ins (c : Str) (fs : List (Str × D))
  /-- the table of the code of a def of the module that makes lambdas -/
  | tab (x : Str)
  /-- a lambda, the j-th of the text, and what it took from around -/
  | clo (j : Nat) (l : LamS) (ds : List D)
  /-- a place of which nothing is told -/
  | hid
abbrev Stor := List MO
abbrev MEnv := List (Option D)
/-- an exception: its class's name and its field -/
structure Xc where
  cls : String
  fld : D
inductive R (α : Type) where
  | ok (a : α) (st : Stor) | err (x : Xc) (st : Stor) | bad
/-- so that the simplifier rewrites by it, and leaves nothing for the kernel to unfold -/
theorem by_rfl {α : Sort u} {a b : α} (h : a = b) : a = b := h
def R.bind {α β : Type} (r : R α) (f : α → Stor → R β) : R β := match r with
  | .ok a st => f a st
  | .err x st => .err x st
  | .bad => .bad
@[simp] theorem R.bind_ok {α β : Type} (a : α) (st : Stor) (f : α → Stor → R β) : (R.ok a st).bind f = f a st := by_rfl rfl
abbrev strOf (cs : List Nat) : Str := ⟨cs.toArray⟩
/-! ### how the abstract heap bears them -/
/-- a made tuple may stand where a tuple is asked -/
instance sqTOf {K : PySem.W.Frag} {H : Hp} {a : Addr} {xs : List V} : CoeTail (H a = some (.tup xs)) (SqT K H a xs) := ⟨SqT.of⟩
/-- items that make no key of a dict -/
def noKey : List D → Bool
  | [] => false
  | .int _ :: r => noKey r
  | .str _ :: r => noKey r
  | _ :: _ => true
/-- a tuple: a made one, or, where it is no key, one of the module -/
def TupA (K : PySem.W.Frag) (H : Hp) (a : Addr) (xs : List V) (ds : List D) : Prop :=
  H a = some (.tup xs) ∨ (noKey ds = true ∧ ∃ (o : Obj) (its : Array Value) (n : Nat), K.lookup a = some o ∧ o.cls = .type "tuple" ∧ o.data = .seq its n ∧ its.size ≤ sizeLine ∧ Vals xs its.toList)
theorem TupA.sqT {K : PySem.W.Frag} {H : Hp} {a : Addr} {xs : List V} {ds : List D} (h : TupA K H a xs ds) : SqT K H a xs := by
  rcases h with h | ⟨_, h⟩
  · exact SqT.of h
  · exact .inr h
mutual
def RepV (K : PySem.W.Frag) (μ : List Addr) (H : Hp) : D → V → Prop
  | .non, v => v = .non
  | .bl b, v => v = .bl b
  | .int i, v => v = .int i
  | .str cs, v => v = .str (strOf cs)
  | .tup ds, v => ∃ a xs, v = .ref a ∧ TupA K H a xs ds ∧ RepVs K μ H ds xs
  | .loc n, v => ∃ a, μ[n]? = some a ∧ v = .ref a
def RepVs (K : PySem.W.Frag) (μ : List Addr) (H : Hp) : List D → List V → Prop
  | [], vs => vs = []
  | d :: ds, vs => ∃ v r, vs = v :: r ∧ RepV K μ H d v ∧ RepVs K μ H ds r
end
/-- tuples and known things stay -/
structure Ext (H H' : Hp) : Prop where
  tup : ∀ b xs, H b = some (.tup xs) → H' b = some (.tup xs)
  frz : ∀ b o u, H b = some (.frz o u) → H' b = some (.frz o u)
theorem Ext.refl (H : Hp) : Ext H H := ⟨fun _ _ h => h, fun _ _ _ h => h⟩
theorem Ext.trans {H H1 H2 : Hp} (a : Ext H H1) (b : Ext H1 H2) : Ext H H2 := ⟨fun c xs h => b.tup c xs (a.tup c xs h), fun c o u h => b.frz c o u (a.frz c o u h)⟩
theorem Ext.sqT {K : PySem.W.Frag} {H H' : Hp} {a : Addr} {xs : List V} (e : Ext H H') (h : SqT K H a xs) : SqT K H' a xs := by
  rcases h with (h | ⟨o, h⟩) | h
  · exact .inl (.inl (e.tup _ _ h))
  · exact .inl (.inr ⟨o, e.frz _ _ _ h⟩)
  · exact .inr h
theorem Ext.tupA {K : PySem.W.Frag} {H H' : Hp} {a : Addr} {xs : List V} {ds : List D} (e : Ext H H') (h : TupA K H a xs ds) : TupA K H' a xs ds := by
  rcases h with h | h
  · exact .inl (e.tup _ _ h)
  · exact .inr h
theorem Ext.new {H : Hp} {p : Addr} {o : HO} (h : H p = none) : Ext H (upd H p o) :=
  ⟨fun b xs q => by rw [upd_ne (ne_of_none q h)]; exact q, fun b o' u q => by rw [upd_ne (ne_of_none q h)]; exact q⟩
structure Grow (μ : List Addr) (H : Hp) (μ' : List Addr) (H' : Hp) : Prop where
  pre : ∃ ν, μ' = μ ++ ν
  ext : Ext H H'
theorem Grow.refl (μ : List Addr) (H : Hp) : Grow μ H μ H := ⟨⟨[], by simp⟩, .refl H⟩
theorem Grow.trans {μ μ1 μ2 : List Addr} {H H1 H2 : Hp} (a : Grow μ H μ1 H1) (b : Grow μ1 H1 μ2 H2) : Grow μ H μ2 H2 := by
  obtain ⟨ν1, rfl⟩ := a.pre
  obtain ⟨ν2, rfl⟩ := b.pre
  exact ⟨⟨ν1 ++ ν2, by simp⟩, a.ext.trans b.ext⟩
theorem Grow.get {μ μ' : List Addr} {H H' : Hp} (g : Grow μ H μ' H') {n : Nat} {a : Addr} (h : μ[n]? = some a) : μ'[n]? = some a := by
  obtain ⟨ν, rfl⟩ := g.pre
  rw [List.getElem?_append_left (List.getElem?_eq_some_iff.mp h).1]; exact h
mutual
theorem RepV.mono {K : PySem.W.Frag} {μ μ' : List Addr} {H H' : Hp} (g : Grow μ H μ' H') : ∀ (d : D) {v : V}, RepV K μ H d v → RepV K μ' H' d v
  | .non, _, h => by simpa [RepV] using h
  | .bl _, _, h => by simpa [RepV] using h
  | .int _, _, h => by simpa [RepV] using h
  | .str _, _, h => by simpa [RepV] using h
  | .tup ds, _, h => by
    rw [RepV] at h ⊢
    obtain ⟨a, xs, rfl, h1, h2⟩ := h
    exact ⟨a, xs, rfl, g.ext.tupA h1, RepVs.mono g ds h2⟩
  | .loc n, _, h => by
    rw [RepV] at h ⊢
    obtain ⟨a, h1, rfl⟩ := h
    exact ⟨a, g.get h1, rfl⟩
theorem RepVs.mono {K : PySem.W.Frag} {μ μ' : List Addr} {H H' : Hp} (g : Grow μ H μ' H') : ∀ (ds : List D) {vs : List V}, RepVs K μ H ds vs → RepVs K μ' H' ds vs
  | [], _, h => by simpa [RepVs] using h
  | d :: ds, _, h => by
    rw [RepVs] at h ⊢
    obtain ⟨v, r, rfl, h1, h2⟩ := h
    exact ⟨v, r, rfl, RepV.mono g d h1, RepVs.mono g ds h2⟩
end
section
variable {K : PySem.W.Frag} {μ : List Addr} {H : Hp}
theorem RepVs.length : ∀ {ds : List D} {vs : List V}, RepVs K μ H ds vs → ds.length = vs.length
  | [], _, h => by rw [RepVs] at h; subst h; rfl
  | d :: ds, _, h => by
    rw [RepVs] at h
    obtain ⟨v, r, rfl, _, h2⟩ := h
    rw [List.length_cons, List.length_cons, RepVs.length h2]
theorem RepVs.get : ∀ {ds : List D} {vs : List V} {i : Nat} {d : D}, RepVs K μ H ds vs → ds[i]? = some d → ∃ v, vs[i]? = some v ∧ RepV K μ H d v
  | [], _, _, _, _, e => by simp at e
  | d :: ds, _, 0, _, h, e => by
    rw [RepVs] at h
    obtain ⟨v, r, rfl, h1, _⟩ := h
    simp at e; subst e
    exact ⟨v, rfl, h1⟩
  | d :: ds, _, i + 1, x, h, e => by
    rw [RepVs] at h
    obtain ⟨v, r, rfl, _, h2⟩ := h
    obtain ⟨u, h3, h4⟩ := RepVs.get (i := i) h2 (by simpa using e)
    exact ⟨u, by simpa using h3, h4⟩
theorem RepVs.append : ∀ {ds es : List D} {vs ws : List V}, RepVs K μ H ds vs → RepVs K μ H es ws → RepVs K μ H (ds ++ es) (vs ++ ws)
  | [], _, _, _, h, k => by rw [RepVs] at h; subst h; exact k
  | d :: ds, es, _, ws, h, k => by
    rw [RepVs] at h
    obtain ⟨v, r, rfl, h1, h2⟩ := h
    show RepVs K μ H (d :: (ds ++ es)) (v :: (r ++ ws))
    rw [RepVs]
    exact ⟨v, r ++ ws, rfl, h1, RepVs.append h2 k⟩
theorem RepVs.nil : RepVs K μ H [] [] := by rw [RepVs]
theorem RepVs.cons {d : D} {ds : List D} {v : V} {vs : List V} (h : RepV K μ H d v) (k : RepVs K μ H ds vs) : RepVs K μ H (d :: ds) (v :: vs) := by rw [RepVs]; exact ⟨v, vs, rfl, h, k⟩
theorem RepVs.take : ∀ {ds : List D} {vs : List V} (n : Nat), RepVs K μ H ds vs → RepVs K μ H (ds.take n) (vs.take n)
  | _, _, 0, _ => by simp [RepVs]
  | [], _, n + 1, h => by rw [RepVs] at h; subst h; simp [RepVs]
  | d :: ds, _, n + 1, h => by
    rw [RepVs] at h
    obtain ⟨v, r, rfl, h1, h2⟩ := h
    exact RepVs.cons h1 (RepVs.take n h2)
theorem RepVs.drop : ∀ {ds : List D} {vs : List V} (n : Nat), RepVs K μ H ds vs → RepVs K μ H (ds.drop n) (vs.drop n)
  | _, _, 0, h => h
  | [], _, n + 1, h => by rw [RepVs] at h; subst h; simp [RepVs]
  | d :: ds, _, n + 1, h => by
    rw [RepVs] at h
    obtain ⟨v, r, rfl, h1, h2⟩ := h
    exact RepVs.drop n h2
theorem RepV.int_iff {i : Int} {v : V} : RepV K μ H (.int i) v ↔ v = .int i := by rw [RepV]
theorem RepV.bl_iff {b : Bool} {v : V} : RepV K μ H (.bl b) v ↔ v = .bl b := by rw [RepV]
theorem RepV.non_iff {v : V} : RepV K μ H .non v ↔ v = .non := by rw [RepV]
theorem RepV.str_iff {cs : List Nat} {v : V} : RepV K μ H (.str cs) v ↔ v = .str (strOf cs) := by rw [RepV]
theorem RepV.tup_iff {ds : List D} {v : V} : RepV K μ H (.tup ds) v ↔ ∃ a xs, v = .ref a ∧ TupA K H a xs ds ∧ RepVs K μ H ds xs := by rw [RepV]
theorem RepV.loc_iff {n : Nat} {v : V} : RepV K μ H (.loc n) v ↔ ∃ a, μ[n]? = some a ∧ v = .ref a := by rw [RepV]
end
/-! ### the store -/
/-- pairs of a dict -/
def RepKV {κ : Type} (K : PySem.W.Frag) (μ : List Addr) (H : Hp) : List (κ × D) → List (κ × V) → Prop
  | [], vs => vs = []
  | (k, d) :: ds, vs => ∃ v r, vs = (k, v) :: r ∧ RepV K μ H d v ∧ RepKV K μ H ds r
theorem RepKV.mono {κ : Type} {K : PySem.W.Frag} {μ μ' : List Addr} {H H' : Hp} (g : Grow μ H μ' H') : ∀ {ds : List (κ × D)} {vs : List (κ × V)}, RepKV K μ H ds vs → RepKV K μ' H' ds vs
  | [], _, h => h
  | (k, d) :: ds, _, ⟨v, r, e, h1, h2⟩ => ⟨v, r, e, h1.mono g d, RepKV.mono g h2⟩
/-- a list that is only read: known to the object, or the module's own -/
def FrzL (K : PySem.W.Frag) (H : Hp) (a : Addr) (xs : List V) : Prop :=
  (∃ o, H a = some (.frz o (.lst xs))) ∨ ∃ (o : Obj) (its : Array Value) (n : Nat), K.lookup a = some o ∧ o.cls = .type "list" ∧ o.dict = none ∧ o.data = .seq its n ∧ its.size ≤ sizeLine ∧ Vals xs its.toList
theorem FrzL.sqL {K : PySem.W.Frag} {H : Hp} {a : Addr} {xs : List V} (h : FrzL K H a xs) : SqL K H a xs := by
  rcases h with h | h
  · exact .inl (.inr h)
  · exact .inr h
theorem FrzL.ext {K : PySem.W.Frag} {H H' : Hp} {a : Addr} {xs : List V} (e : Ext H H') (h : FrzL K H a xs) : FrzL K H' a xs := by
  rcases h with ⟨o, h⟩ | h
  · exact .inl ⟨o, e.frz _ _ _ h⟩
  · exact .inr h
def MO.mut : MO → Bool
  | .frz _ => false
  | .clo _ _ _ => false
  | .hid => false
  | .dkf _ => false
  | _ => true
/-- a code object that is known -/
def CodeF (H : Hp) (c : Addr) (q : Str) : Prop := ∃ oc vs t, H c = some (.frz oc (.own 0)) ∧ oc.data = .fields vs ∧ vs[1]? = some (.str q t)
/-- cells that are known, and what they hold -/
def CellsF (H : Hp) : List (Str × Addr) → List V → Prop
  | [], vs => vs = []
  | (_, c) :: cl, vs => ∃ v r o u, vs = v :: r ∧ H c = some (.frz o (.own 0)) ∧ o.data = .cell (some u) ∧ RelV v u ∧ CellsF H cl r
theorem CodeF.ext {H H' : Hp} {c : Addr} {q : Str} (e : Ext H H') (h : CodeF H c q) : CodeF H' c q :=
  let ⟨oc, vs, t, h1, h2⟩ := h; ⟨oc, vs, t, e.frz _ _ _ h1, h2⟩
theorem CellsF.ext {H H' : Hp} (e : Ext H H') : ∀ {cl : List (Str × Addr)} {vs : List V}, CellsF H cl vs → CellsF H' cl vs
  | [], _, h => h
  | (_, c) :: cl, _, ⟨v, r, o, u, h1, h2, h3, h4, h5⟩ => ⟨v, r, o, u, h1, e.frz _ _ _ h2, h3, h4, CellsF.ext e h5⟩
def lamQual (x : Str) : Str := x ++ ".<locals>." ++ "<lambda>"
def RepO (K : PySem.W.Frag) (μ : List Addr) (H : Hp) (a : Addr) : MO → Prop
  | .lst ds => ∃ xs, H a = some (.lst xs) ∧ RepVs K μ H ds xs
  | .frz ds => ∃ xs, FrzL K H a xs ∧ RepVs K μ H ds xs
  | .dic kvs => ∃ ws, H a = some (.dT ws) ∧ RepKV K μ H kvs ws
  | .dkc kvs => ∃ ws, H a = some (.dK ws) ∧ RepKV K μ H kvs ws
  | .dkf kvs => ∃ ws o, H a = some (.frz o (.dK ws)) ∧ RepKV K μ H kvs ws
  | .ins c fs => ∃ C dx ws, PySem.W.nsIn K mainGlobals c = some (some (.ref C)) ∧ H a = some (.ins C dx ws) ∧ RepKV K μ H fs ws
  | .tab x => (∃ (fa : Addr) (o : Obj) (fd : FuncData) (c : Addr), PySem.W.nsIn K mainGlobals x = some (some (.ref fa)) ∧ K.lookup fa = some o ∧ o.data = .func fd ∧ fd.code = .ref c ∧ PySem.W.codeHdIn K c a = true) ∧
      ∃ ps : Array Value, H a = some (.tbl ps) ∧ TriplesOk ps.toList ∧ ∀ pos cv, codeAmong pos ps.toList = some cv → ∃ c', cv = .ref c' ∧ CodeF H c' (lamQual x)
  | .clo _ l ds => ∃ (cl : List (Str × Addr)) (pm : Value) (c' : Addr) (ctv : Value) (vs : List V), H a = some (.frz (PySem.W.kla_obj "<lambda>" l.qual l.params l.body l.scope cl pm c' ctv) (.own 0)) ∧ CodeF H c' l.qual ∧
      cl.map (·.1) = l.caps ∧ (cl.map (·.2)).Nodup ∧ CellsF H cl vs ∧ RepVs K μ H ds vs
  | .hid => True
structure RepS (K : PySem.W.Frag) (μ : List Addr) (H : Hp) (st : Stor) : Prop where
  len : μ.length = st.length
  at_ : ∀ (n : Nat) (o : MO), st[n]? = some o → ∃ a, μ[n]? = some a ∧ RepO K μ H a o
  uniq : ∀ (i j : Nat) (a : Addr) (oi oj : MO), st[i]? = some oi → st[j]? = some oj → oi.mut = true → oj.mut = true → μ[i]? = some a → μ[j]? = some a → i = j
structure RepE (K : PySem.W.Frag) (μ : List Addr) (H : Hp) (env : MEnv) (σ : St) : Prop where
  len : env.length = σ.length
  at_ : ∀ (i : Nat) (d : D), env[i]? = some (some d) → ∃ v, σ[i]? = some (some v) ∧ RepV K μ H d v
theorem RepE.mono {K : PySem.W.Frag} {μ μ' : List Addr} {H H' : Hp} {env : MEnv} {σ : St} (g : Grow μ H μ' H') (h : RepE K μ H env σ) : RepE K μ' H' env σ :=
  ⟨h.len, fun i d e => let ⟨v, h1, h2⟩ := h.at_ i d e; ⟨v, h1, h2.mono g d⟩⟩
theorem RepE.set {K : PySem.W.Frag} {μ : List Addr} {H : Hp} {env : MEnv} {σ : St} {i : Nat} {d : D} {v : V} (h : RepE K μ H env σ) (r : RepV K μ H d v) : RepE K μ H (env.set i (some d)) (σ.set i (some v)) := by
  refine ⟨by simp [h.len], fun j e hj => ?_⟩
  by_cases hij : i = j
  · subst hij
    have hl : i < env.length := by
      have := (List.getElem?_eq_some_iff.mp hj).1; simpa using this
    rw [List.getElem?_set_self hl] at hj
    cases hj
    exact ⟨v, by rw [List.getElem?_set_self (by rw [← h.len]; exact hl)], r⟩
  · rw [List.getElem?_set_ne hij] at hj
    rw [List.getElem?_set_ne hij]
    exact h.at_ j e hj
/-- a new object of the store -/
theorem RepO.some_of {K : PySem.W.Frag} {μ : List Addr} {H : Hp} {a : Addr} {o : MO} (h : RepO K μ H a o) (hm : o.mut = true) : ∃ u, H a = some u := by
  cases o with
  | lst ds => obtain ⟨xs, h1, _⟩ := h; exact ⟨_, h1⟩
  | frz ds => cases hm
  | dic kvs => obtain ⟨xs, h1, _⟩ := h; exact ⟨_, h1⟩
  | dkc kvs => obtain ⟨xs, h1, _⟩ := h; exact ⟨_, h1⟩
  | dkf kvs => cases hm
  | ins c fs => obtain ⟨_, _, _, _, h1, _⟩ := h; exact ⟨_, h1⟩
  | tab x => obtain ⟨_, _, h1, _⟩ := h; exact ⟨_, h1⟩
  | clo j l ds => cases hm
  | hid => cases hm
theorem RepO.keep {K : PySem.W.Frag} {μ μ' : List Addr} {H H' : Hp} {a : Addr} {o : MO} (g : Grow μ H μ' H') (hk : o.mut = true → ∀ u, H a = some u → H' a = some u) (h : RepO K μ H a o) : RepO K μ' H' a o := by
  cases o with
  | lst ds => obtain ⟨xs, h1, h2⟩ := h; exact ⟨xs, hk rfl _ h1, h2.mono g ds⟩
  | frz ds => obtain ⟨xs, h1, h2⟩ := h; exact ⟨xs, h1.ext g.ext, h2.mono g ds⟩
  | dic kvs => obtain ⟨ws, h1, h2⟩ := h; exact ⟨ws, hk rfl _ h1, h2.mono g⟩
  | dkc kvs => obtain ⟨ws, h1, h2⟩ := h; exact ⟨ws, hk rfl _ h1, h2.mono g⟩
  | dkf kvs => obtain ⟨ws, o, h1, h2⟩ := h; exact ⟨ws, o, g.ext.frz _ _ _ h1, h2.mono g⟩
  | ins c fs => obtain ⟨C, dx, ws, h0, h1, h2⟩ := h; exact ⟨C, dx, ws, h0, hk rfl _ h1, h2.mono g⟩
  | tab x => obtain ⟨h0, ps, h1, h2, h3⟩ := h; exact ⟨h0, ps, hk rfl _ h1, h2, fun pos cv e => let ⟨c', e1, e2⟩ := h3 pos cv e; ⟨c', e1, e2.ext g.ext⟩⟩
  | clo j l ds => obtain ⟨cl, pm, c', ctv, vs, h1, h2, h3, h4, h5, h6⟩ := h; exact ⟨cl, pm, c', ctv, vs, g.ext.frz _ _ _ h1, h2.ext g.ext, h3, h4, h5.ext g.ext, h6.mono g ds⟩
  | hid => trivial
section
variable {K : PySem.W.Frag} {μ : List Addr} {H : Hp} {st : Stor} {p a : Addr} {xs : List V} {n : Nat} {mo mo' : MO} {o o' : HO}
/-- an object that the store does not name is laid (a tuple) -/
theorem RepS.lay (h : RepS K μ H st) (hp : H p = none) : RepS K μ (upd H p o) st :=
  ⟨h.len, fun n mo e => let ⟨a, h1, h2⟩ := h.at_ n mo e; ⟨a, h1, h2.keep ⟨⟨[], by simp⟩, .new hp⟩ fun _ u q => by rw [upd_ne (ne_of_none q hp)]; exact q⟩, h.uniq⟩
theorem Grow.lay (hp : H p = none) : Grow μ H μ (upd H p o) := ⟨⟨[], by simp⟩, .new hp⟩
theorem Grow.new (hp : H p = none) : Grow μ H (μ ++ [p]) (upd H p o) := ⟨⟨[p], rfl⟩, .new hp⟩
/-- a new object of the store -/
theorem RepS.new (h : RepS K μ H st) (hp : H p = none) (hn : RepO K (μ ++ [p]) (upd H p o) p mo) : RepS K (μ ++ [p]) (upd H p o) (st ++ [mo]) := by
  refine ⟨by simp [h.len], fun n mo1 e => ?_, fun i j b oi oj ei ej mi mj hi hj => ?_⟩
  · by_cases hl : n < st.length
    · rw [List.getElem?_append_left hl] at e
      obtain ⟨b, h1, h2⟩ := h.at_ n mo1 e
      exact ⟨b, by rw [List.getElem?_append_left (by rw [h.len]; exact hl)]; exact h1, h2.keep (Grow.new hp) fun _ u q => by rw [upd_ne (ne_of_none q hp)]; exact q⟩
    · have hl2 := (List.getElem?_eq_some_iff.mp e).1
      rw [List.length_append, List.length_singleton] at hl2
      have e2 : n = st.length := by omega
      subst e2
      rw [List.getElem?_append_right (Nat.le_refl _)] at e
      simp at e; subst e
      exact ⟨p, by rw [← h.len]; simp, hn⟩
  · have key : ∀ (k : Nat) (ok : MO), (st ++ [mo])[k]? = some ok → ok.mut = true → (μ ++ [p])[k]? = some b → (k < st.length ∧ st[k]? = some ok ∧ μ[k]? = some b ∧ b ≠ p) ∨ (k = st.length ∧ b = p) := fun k ok ek mk hk => by
      by_cases hl : k < st.length
      · rw [List.getElem?_append_left hl] at ek
        rw [List.getElem?_append_left (by rw [h.len]; exact hl)] at hk
        obtain ⟨c, h1, h2⟩ := h.at_ k ok ek
        rw [hk] at h1; cases h1
        obtain ⟨u, hu⟩ := h2.some_of mk
        exact .inl ⟨hl, ek, hk, ne_of_none hu hp⟩
      · have hl2 := (List.getElem?_eq_some_iff.mp ek).1
        rw [List.length_append, List.length_singleton] at hl2
        have e2 : k = st.length := by omega
        subst e2
        rw [← h.len] at hk
        simp at hk
        exact .inr ⟨rfl, hk.symm⟩
    rcases key i oi ei mi hi with ⟨_, a1, a2, a3⟩ | ⟨a1, a2⟩
    · rcases key j oj ej mj hj with ⟨_, b1, b2, b3⟩ | ⟨b1, b2⟩
      · exact h.uniq i j b oi oj a1 b1 mi mj a2 b2
      · exact absurd b2 a3
    · rcases key j oj ej mj hj with ⟨_, b1, b2, b3⟩ | ⟨b1, b2⟩
      · exact absurd a2 b3
      · rw [a1, b1]
theorem Ext.mut (h : H a = some o) (ht : ∀ ys, o ≠ .tup ys) (hf : ∀ w u, o ≠ .frz w u) : Ext H (upd H a o') :=
  ⟨fun b ys q => by rw [upd_ne (fun e => by subst e; rw [h] at q; exact ht _ (Option.some.inj q))]; exact q,
   fun b w u q => by rw [upd_ne (fun e => by subst e; rw [h] at q; exact hf _ _ (Option.some.inj q))]; exact q⟩
/-- an object of the store is written -/
theorem RepS.put (h : RepS K μ H st) (hn : st[n]? = some mo) (hm : mo.mut = true) (hm' : mo'.mut = true) (ha : μ[n]? = some a) (g : Ext H (upd H a o')) (new : RepO K μ (upd H a o') a mo') : RepS K μ (upd H a o') (st.set n mo') := by
  have hl := (List.getElem?_eq_some_iff.mp hn).1
  refine ⟨by simp [h.len], fun k ok e => ?_, fun i j b oi oj ei ej mi mj hi hj => ?_⟩
  · by_cases hk : n = k
    · subst hk
      rw [List.getElem?_set_self hl] at e; cases e
      exact ⟨a, ha, new⟩
    · rw [List.getElem?_set_ne hk] at e
      obtain ⟨b, h1, h2⟩ := h.at_ k ok e
      refine ⟨b, h1, h2.keep ⟨⟨[], by simp⟩, g⟩ fun hmk u q => ?_⟩
      rw [upd_ne (fun e2 => ?_)]
      · exact q
      · subst e2; exact hk (h.uniq n k b mo ok hn e hm hmk ha h1)
  · have key : ∀ (k : Nat) (ok : MO), (st.set n mo')[k]? = some ok → ok.mut = true → ∃ ok', st[k]? = some ok' ∧ ok'.mut = true := fun k ok ek mk => by
      by_cases hk : n = k
      · subst hk; exact ⟨mo, hn, hm⟩
      · rw [List.getElem?_set_ne hk] at ek; exact ⟨ok, ek, mk⟩
    obtain ⟨oi', ei', mi'⟩ := key i oi ei mi
    obtain ⟨oj', ej', mj'⟩ := key j oj ej mj
    exact h.uniq i j b oi' oj' ei' ej' mi' mj' hi hj
end
end M
namespace M
open PySem PySem.Spec L2
/-! ### what is wanted behind a denotation -/
/-- how an exception lies there (none yet) -/
def ExcAt (X : Cx) (μ : List Addr) (H : Hp) (x : Xc) (e : Value) (s : Shared) : Prop := False
def ErrOK (X : Cx) (μ : List Addr) (H : Hp) (x : Xc) (st : Stor) : Prop :=
  ∀ (pins : List (Addr × Obj)) (σ' : L2.St) (H' : Hp) (μ' : List Addr) (e : Value) (s' : Shared), Grow μ H μ' H' → RepS X.K μ' H' st → Inv X pins σ' H' s' → ExcAt X μ' H' x e s' → X.xe e s'
theorem ErrOK.mono {X : Cx} {μ μ1 : List Addr} {H H1 : Hp} {x : Xc} {st : Stor} (g : Grow μ H μ1 H1) (h : ErrOK X μ H x st) : ErrOK X μ1 H1 x st :=
  fun pins σ' H' μ' e s' g' => h pins σ' H' μ' e s' (g.trans g')
abbrev Rel (α β : Type) := List Addr → Hp → α → β → Prop
def Post {α β : Type} (X : Cx) (μ : List Addr) (H : Hp) (rel : Rel α β) (Q : β → Hp → Prop) (r : R α) : Prop := match r with
  | .ok a st => ∀ (b : β) (H' : Hp) (μ' : List Addr), Grow μ H μ' H' → RepS X.K μ' H' st → rel μ' H' a b → Q b H'
  | .err x st => ErrOK X μ H x st
  | .bad => False
section
variable {α β γ δ : Type} {X : Cx} {μ μ1 : List Addr} {H H1 : Hp} {rel : Rel α β} {rel2 : Rel γ δ} {Q Q' : β → Hp → Prop} {r : R α}
theorem Post.mono (g : Grow μ H μ1 H1) (h : Post X μ H rel Q r) : Post X μ1 H1 rel Q r := by
  cases r with
  | ok a st => exact fun b H' μ' g' => h b H' μ' (g.trans g')
  | err x st => exact ErrOK.mono g h
  | bad => exact h
theorem Post.imp (h : Post X μ H rel Q r) (k : ∀ b H', Q b H' → Q' b H') : Post X μ H rel Q' r := by
  cases r with
  | ok a st => exact fun b H' μ' g' h1 h2 => k b H' (h b H' μ' g' h1 h2)
  | err x st => exact h
  | bad => exact h
/-- the first of two: what it hands on -/
def Then (X : Cx) (μ : List Addr) (H : Hp) (rel : Rel α β) (rel2 : Rel γ δ) (Q2 : δ → Hp → Prop) (f : α → Stor → R γ) : β → Hp → Prop :=
  fun b H1 => ∃ μ1 st1 a, Grow μ H μ1 H1 ∧ RepS X.K μ1 H1 st1 ∧ rel μ1 H1 a b ∧ Post X μ1 H1 rel2 Q2 (f a st1)
theorem Post.bind {Q2 : δ → Hp → Prop} {f : α → Stor → R γ} (h : Post X μ H rel2 Q2 (r.bind f)) : Post X μ H rel (Then X μ H rel rel2 Q2 f) r := by
  cases r with
  | ok a st => exact fun b H' μ' g h1 h2 => ⟨μ', st, a, g, h1, h2, Post.mono g h⟩
  | err x st => exact h
  | bad => exact h
/-- a result that changes nothing -/
theorem Post.ret {a : α} {b : β} {st : Stor} (h : Post X μ H rel Q (.ok a st)) (hs : RepS X.K μ H st) (hr : rel μ H a b) : Q b H := h b H μ (.refl _ _) hs hr
end
abbrev relV (X : Cx) : Rel D V := fun μ H d v => RepV X.K μ H d v
abbrev relA (X : Cx) : Rel (List D) (List V) := fun μ H d v => RepVs X.K μ H d v
abbrev relB : Rel Bool Bool := fun _ _ a b => a = b
abbrev relO : Rel (Option Int) (Option Int) := fun _ _ a b => a = b
abbrev ME := MEnv → Stor → R D
abbrev MA := MEnv → Stor → R (List D)
abbrev MT := MEnv → Stor → R Bool
abbrev MP := MEnv → Stor → R (Option Int)
def tM (X : Cx) (m : ME) : TE := fun σ H Q => ∃ μ env st, RepE X.K μ H env σ ∧ RepS X.K μ H st ∧ Post X μ H (relV X) Q (m env st)
def tMA (X : Cx) (m : MA) : TA := fun σ H Q => ∃ μ env st, RepE X.K μ H env σ ∧ RepS X.K μ H st ∧ Post X μ H (relA X) Q (m env st)
def tMT (X : Cx) (m : MT) : TT := fun σ H Q => ∃ μ env st, RepE X.K μ H env σ ∧ RepS X.K μ H st ∧ Post X μ H relB Q (m env st)
def tMP (X : Cx) (m : MP) : TO := fun σ H Q => ∃ μ env st, RepE X.K μ H env σ ∧ RepS X.K μ H st ∧ Post X μ H relO Q (m env st)
def JE (X : Cx) (e : Expr) (m : ME) : Prop := PE X e (tM X m)
def JT (X : Cx) (e : Expr) (m : MT) : Prop := PT X e (tMT X m)
def JA (X : Cx) (es : List Expr) (m : MA) : Prop := PA X es (tMA X m)
def JP (X : Cx) (e : Option Expr) (m : MP) : Prop := PO X e (tMP X m)
section
variable {X : Cx} {e a b c : Expr} {es : List Expr} {t : TE} {ma mb mc : ME} {mA : MA} {pos : Pos}
theorem JE.of {m : ME} (h : PE X e t) (k : ∀ σ H Q, tM X m σ H Q → t σ H Q) : JE X e m := fun pins s σ H Q I q => h pins s σ H Q I (k σ H Q q)
theorem JT.of {t : TT} {m : MT} (h : PT X e t) (k : ∀ σ H Q, tMT X m σ H Q → t σ H Q) : JT X e m := fun pins s σ H Q I q => h pins s σ H Q I (k σ H Q q)
theorem JA.of {t : TA} {m : MA} (h : PA X es t) (k : ∀ σ H Q, tMA X m σ H Q → t σ H Q) : JA X es m := fun pos pins s σ H Q I q => h pos pins s σ H Q I (k σ H Q q)
theorem JP.of {o : Option Expr} {t : TO} {m : MP} (h : PO X o t) (k : ∀ σ H Q, tMP X m σ H Q → t σ H Q) : JP X o m := fun pins s σ H Q I q => h pins s σ H Q I (k σ H Q q)
/-! ### names and constants -/
def vr (i : Nat) : ME := fun env st => match env[i]? with | some (some d) => .ok d st | _ => .bad
def ct (d : D) : ME := fun _ st => .ok d st
theorem je_var (i : Nat) {x : Str} {pos : Pos} (hN : X.N[i]? = some x := by rfl) (hv : Vis X.env.scope x := by first | exact Or.inl rfl | exact Or.inr (Or.inl rfl) | exact Or.inr (Or.inr rfl)) (hd : (x == ("__debug__" : Str)) = false := by decide)
    (hcd : (x == ("__classdict__" : Str)) = false := by decide) : JE X (.Name x pos) (vr i) := JE.of (pe_var hN hv hd hcd) fun σ H Q ⟨μ, env, st, he, hs, hp⟩ => by
  unfold vr at hp
  split at hp
  · rename_i d e
    obtain ⟨v, h1, h2⟩ := he.at_ i d e
    exact ⟨v, h1, hp.ret hs h2⟩
  · exact hp.elim
theorem je_int {i j pos} : JE X (.Constant (.int i) j pos) (ct (.int i)) := JE.of pe_int fun σ H Q ⟨μ, env, st, he, hs, hp⟩ => hp.ret hs (RepV.int_iff.mpr rfl)
theorem je_bl {b j pos} : JE X (.Constant (.bool b) j pos) (ct (.bl b)) := JE.of pe_bl fun σ H Q ⟨μ, env, st, he, hs, hp⟩ => hp.ret hs (RepV.bl_iff.mpr rfl)
theorem je_non {j pos} : JE X (.Constant .none j pos) (ct .non) := JE.of pe_non fun σ H Q ⟨μ, env, st, he, hs, hp⟩ => hp.ret hs (RepV.non_iff.mpr rfl)
theorem je_str {x : Str} {j pos} (cs : List Nat) (h : x = strOf cs := by decide +kernel) : JE X (.Constant (.str x) j pos) (ct (.str cs)) := JE.of pe_str fun σ H Q ⟨μ, env, st, he, hs, hp⟩ => hp.ret hs (RepV.str_iff.mpr (by rw [h]))
/-! ### operations on values -/
def op2 (g : D → D → Stor → R D) (a b : ME) : ME := fun env st => (a env st).bind fun x st1 => (b env st1).bind fun y st2 => g x y st2
def op1 (g : D → Stor → R D) (a : ME) : ME := fun env st => (a env st).bind fun x st1 => g x st1
def rM (X : Cx) (g : D → D → Stor → R D) : R2 := fun x y H Q => ∃ μ st dx dy, RepS X.K μ H st ∧ RepV X.K μ H dx x ∧ RepV X.K μ H dy y ∧ Post X μ H (relV X) Q (g dx dy st)
def rM1 (X : Cx) (g : D → Stor → R D) : V → Hp → VK → Prop := fun x H Q => ∃ μ st dx, RepS X.K μ H st ∧ RepV X.K μ H dx x ∧ Post X μ H (relV X) Q (g dx st)
def rMC (X : Cx) (g : List D → Stor → R D) : List V → Hp → VK → Prop := fun xs H Q => ∃ μ st ds, RepS X.K μ H st ∧ RepVs X.K μ H ds xs ∧ Post X μ H (relV X) Q (g ds st)
def rMM (X : Cx) (g : D → List D → Stor → R D) : V → List V → Hp → VK → Prop := fun x xs H Q => ∃ μ st d ds, RepS X.K μ H st ∧ RepV X.K μ H d x ∧ RepVs X.K μ H ds xs ∧ Post X μ H (relV X) Q (g d ds st)
theorem OpR.weak {f : Value → Value → Sem Value} {r r' : R2} (h : OpR X f r) (k : ∀ x y H Q, r' x y H Q → r x y H Q) : OpR X f r' := fun pins s σ H x y v u Q I rx ry q => h pins s σ H x y v u Q I rx ry (k x y H Q q)
theorem CallR.weak {f : Value} {r r' : List V → Hp → VK → Prop} (h : CallR X f r) (k : ∀ x H Q, r' x H Q → r x H Q) : CallR X f r' := fun pins s σ H x v Q I rx q => h pins s σ H x v Q I rx (k x H Q q)
theorem MtR.weak {id : String} {r r' : V → List V → Hp → VK → Prop} (h : MtR X id r) (k : ∀ x xs H Q, r' x xs H Q → r x xs H Q) : MtR X id r' := fun pins s σ H x xs v us Q I rx rs q => h pins s σ H x xs v us Q I rx rs (k x xs H Q q)
theorem IxR.weak {r r' : R2} (h : IxR X r) (k : ∀ x y H Q, r' x y H Q → r x y H Q) : IxR X r' := fun va sl pins s σ H x y v u Q I rx ry q => h va sl pins s σ H x y v u Q I rx ry (k x y H Q q)
theorem SlR.weak {r r' : V → Option Int → Option Int → Hp → VK → Prop} (h : SlR X r) (k : ∀ x l u H Q, r' x l u H Q → r x l u H Q) : SlR X r' := fun pins s σ H x v vl vu lo hi sl Q I rx hs pl pu q => h pins s σ H x v vl vu lo hi sl Q I rx hs pl pu (k x lo hi H Q q)
theorem tM_two {g : D → D → Stor → R D} {σ : L2.St} {H : Hp} {Q : VK} (h : tM X (op2 g ma mb) σ H Q) : tM X ma σ H fun x H1 => tM X mb σ H1 fun y H2 => rM X g x y H2 Q := by
  obtain ⟨μ, env, st, he, hs, hp⟩ := h
  refine ⟨μ, env, st, he, hs, hp.bind.imp ?_⟩
  rintro x H1 ⟨μ1, st1, d, g1, hs1, hx, hp1⟩
  refine ⟨μ1, env, st1, he.mono g1, hs1, hp1.bind.imp ?_⟩
  rintro y H2 ⟨μ2, st2, d2, g2, hs2, hy, hp2⟩
  exact ⟨μ2, st2, d, d2, hs2, hx.mono g2 _, hy, hp2⟩
theorem je_op {op : Operator} {g : D → D → Stor → R D} (ho : OpR X (binaryOp op) (rM X g)) (ha : JE X a ma) (hb : JE X b mb) : JE X (.BinOp a op b pos) (op2 g ma mb) :=
  JE.of (pe_op ho ha hb) fun σ H Q h => tM_two h
theorem je_cmp {op : CmpOp} {g : D → D → Stor → R D} (ho : OpR X (compareOp op) (rM X g)) (ha : JE X a ma) (hb : JE X b mb) (hm : behindInMarks op b = false) : JE X (.Compare a [op] [b] pos) (op2 g ma mb) :=
  JE.of (pe_cmpR ho ha hb hm) fun σ H Q h => tM_two h
/-! ### tests -/
/-- a bool -/
def tB1 (a : ME) : MT := fun env st => (a env st).bind fun x st1 => match x with | .bl b => .ok b st1 | _ => .bad
theorem jt_cmp {op : CmpOp} {g : D → D → Stor → R D} (ho : OpR X (compareOp op) (rM X g)) (ha : JE X a ma) (hb : JE X b mb) (hm : behindInMarks op b = false) : JT X (.Compare a [op] [b] pos) (tB1 (op2 g ma mb)) := by
  refine JT.of (pt_cmpR ho ha hb hm) fun σ H Q ⟨μ, env, st, he, hs, hp⟩ => ?_
  refine tM_two ⟨μ, env, st, he, hs, hp.bind.imp ?_⟩
  rintro x H1 ⟨μ1, st1, d, g1, hs1, hx, hp1⟩
  cases d with
  | bl b => exact ⟨b, RepV.bl_iff.mp hx, hp1.ret hs1 rfl⟩
  | _ => exact hp1.elim
/-- truth -/
def truV : D → Stor → Option Bool
  | .non, _ => some false
  | .bl b, _ => some b
  | .int i, _ => some (i != 0)
  | .str cs, _ => if cs.length ≤ 1000000 then some (!cs.isEmpty) else none
  | .tup ds, _ => some (!ds.isEmpty)
  | .loc n, st => match st[n]? with
    | some (.lst ds) => some (!ds.isEmpty)
    | some (.frz ds) => some (!ds.isEmpty)
    | _ => none
def tru (a : ME) : MT := fun env st => (a env st).bind fun x st1 => match truV x st1 with | some b => .ok b st1 | none => .bad
theorem lim_ok {n : Nat} (h : n ≤ 1000000) : n ≤ sizeLine := Nat.le_trans h (by decide)
theorem RepS.lst {K : PySem.W.Frag} {μ : List Addr} {H : Hp} {st : Stor} {n : Nat} {ds : List D} (h : RepS K μ H st) (e : st[n]? = some (.lst ds)) : ∃ p xs, μ[n]? = some p ∧ H p = some (.lst xs) ∧ RepVs K μ H ds xs := by
  obtain ⟨p, h1, xs, h2, h3⟩ := h.at_ n _ e
  exact ⟨p, xs, h1, h2, h3⟩
/-- the items of a list that is read -/
def itemsAt (st : Stor) (n : Nat) : Option (List D) := match st[n]? with
  | some (.lst ds) => some ds
  | some (.frz ds) => some ds
  | _ => none
theorem RepS.items {K : PySem.W.Frag} {μ : List Addr} {H : Hp} {st : Stor} {n : Nat} {ds : List D} (h : RepS K μ H st) (e : itemsAt st n = some ds) : ∃ p xs, μ[n]? = some p ∧ SqL K H p xs ∧ RepVs K μ H ds xs := by
  unfold itemsAt at e
  split at e
  · rename_i es q
    cases e
    obtain ⟨p, xs, h1, h2, h3⟩ := h.lst q
    exact ⟨p, xs, h1, SqL.of h2, h3⟩
  · rename_i es q
    cases e
    obtain ⟨p, h1, xs, h2, h3⟩ := h.at_ n _ q
    exact ⟨p, xs, h1, h2.sqL, h3⟩
  · cases e
theorem RepVs.isEmpty {K : PySem.W.Frag} {μ : List Addr} {H : Hp} {ds : List D} {xs : List V} (h : RepVs K μ H ds xs) : ds.isEmpty = xs.isEmpty := by
  have := h.length
  cases ds <;> cases xs <;> simp_all
theorem truV_ok {d : D} {st : Stor} {b : Bool} {μ : List Addr} {H : Hp} {v : V} (h : truV d st = some b) (hs : RepS X.K μ H st) (hv : RepV X.K μ H d v) : TruV X.K v H b := by
  cases d with
  | non => rw [RepV.non_iff] at hv; subst hv; cases h; rfl
  | bl c => rw [RepV.bl_iff] at hv; subst hv; cases h; rfl
  | int i => rw [RepV.int_iff] at hv; subst hv; cases h; rfl
  | str cs =>
    rw [RepV.str_iff] at hv; subst hv
    simp only [truV] at h
    split at h
    · rename_i hl
      cases h
      have e : (strOf cs).length = cs.length := by simp [Str.length, strOf]
      refine ⟨by rw [e]; exact lim_ok hl, ?_⟩
      rw [e]
      cases cs <;> simp
      omega
    · cases h
  | tup ds =>
    rw [RepV.tup_iff] at hv
    obtain ⟨a, xs, rfl, h1, h2⟩ := hv
    cases h
    exact .inr (.inl ⟨xs, h1.sqT, by rw [h2.isEmpty]⟩)
  | loc n =>
    rw [RepV.loc_iff] at hv
    obtain ⟨a, h1, rfl⟩ := hv
    have key : ∃ ds, itemsAt st n = some ds ∧ b = !ds.isEmpty := by
      unfold itemsAt
      simp only [truV] at h
      split at h
      · rename_i q; cases h; exact ⟨_, rfl, rfl⟩
      · rename_i q; cases h; exact ⟨_, rfl, rfl⟩
      · cases h
    obtain ⟨ds, q, rfl⟩ := key
    obtain ⟨p, xs, h3, h4, h5⟩ := hs.items q
    rw [h1] at h3; cases h3
    exact .inl ⟨xs, h4, by rw [h5.isEmpty]⟩
theorem jt_truth (ha : JE X a ma) (he : ∀ whole, isTrue a X.env whole = (do let v ← whole; standAt a.pos; holding [v] (truthy v)) := by intro _; rfl) : JT X a (tru ma) := by
  refine JT.of (pt_truth ha he) fun σ H Q ⟨μ, env, st, hE, hs, hp⟩ => ⟨μ, env, st, hE, hs, hp.bind.imp ?_⟩
  rintro x H1 ⟨μ1, st1, d, g1, hs1, hx, hp1⟩
  cases e : truV d st1 with
  | none => simp only [e] at hp1; exact hp1.elim
  | some b => simp only [e] at hp1; exact ⟨b, truV_ok e hs1 hx, hp1.ret hs1 rfl⟩
def JW (X : Cx) (e : Expr) (m : MT) : Prop := PW X e (tMT X m)
theorem JW.jt {m : MT} (h : JW X e m) : JT X e m := PW.pt h
theorem JW.of {t : TT} {m : MT} (h : PW X e t) (k : ∀ σ H Q, tMT X m σ H Q → t σ H Q) : JW X e m := fun w pins s σ H Q I q => h w pins s σ H Q I (k σ H Q q)
def andT (a b : MT) : MT := fun env st => (a env st).bind fun x st1 => if x then b env st1 else .ok false st1
def orT (a b : MT) : MT := fun env st => (a env st).bind fun x st1 => if x then .ok true st1 else b env st1
def notT (a : MT) : MT := fun env st => (a env st).bind fun x st1 => .ok (!x) st1
variable {ta tb tc : MT} {rest : List Expr}
theorem jw_and1 (ha : JT X a ta) : JW X (.BoolOp .And [a] pos) ta := pw_and1 ha
theorem jw_or1 (ha : JT X a ta) : JW X (.BoolOp .Or [a] pos) ta := pw_or1 ha
theorem jw_and (ha : JT X a ta) (hb : JW X (.BoolOp .And (b :: rest) pos) tb) : JW X (.BoolOp .And (a :: b :: rest) pos) (andT ta tb) := by
  refine JW.of (pw_and ha hb) fun σ H Q ⟨μ, env, st, hE, hs, hp⟩ => ⟨μ, env, st, hE, hs, hp.bind.imp ?_⟩
  rintro x H1 ⟨μ1, st1, d, g1, hs1, rfl, hp1⟩
  cases d with
  | true => exact iteT ⟨μ1, env, st1, hE.mono g1, hs1, hp1⟩
  | false => exact iteF (hp1.ret hs1 rfl)
theorem jw_or (ha : JT X a ta) (hb : JW X (.BoolOp .Or (b :: rest) pos) tb) : JW X (.BoolOp .Or (a :: b :: rest) pos) (orT ta tb) := by
  refine JW.of (pw_or ha hb) fun σ H Q ⟨μ, env, st, hE, hs, hp⟩ => ⟨μ, env, st, hE, hs, hp.bind.imp ?_⟩
  rintro x H1 ⟨μ1, st1, d, g1, hs1, rfl, hp1⟩
  cases d with
  | true => exact iteT (hp1.ret hs1 rfl)
  | false => exact iteF ⟨μ1, env, st1, hE.mono g1, hs1, hp1⟩
theorem jt_not (ha : JT X a ta) : JT X (.UnaryOp .Not a pos) (notT ta) := by
  refine JT.of (pt_not ha) fun σ H Q ⟨μ, env, st, hE, hs, hp⟩ => ⟨μ, env, st, hE, hs, hp.bind.imp ?_⟩
  rintro x H1 ⟨μ1, st1, d, g1, hs1, rfl, hp1⟩
  exact hp1.ret hs1 rfl
/-! ### and, or, not as values: bools -/
def andV (a b : ME) : ME := fun env st => (a env st).bind fun x st1 => match x with | .bl true => b env st1 | .bl false => .ok (.bl false) st1 | _ => .bad
def orV (a b : ME) : ME := fun env st => (a env st).bind fun x st1 => match x with | .bl true => .ok (.bl true) st1 | .bl false => b env st1 | _ => .bad
def notV (a : ME) : ME := fun env st => (a env st).bind fun x st1 => match x with | .bl c => .ok (.bl (!c)) st1 | _ => .bad
theorem je_one {op} {m : ME} (h : JE X a m) : JE X (.BoolOp op [a] pos) m := pe_one h
theorem je_and (ha : JE X a ma) (hb : JE X (.BoolOp .And (b :: rest) pos) mb) : JE X (.BoolOp .And (a :: b :: rest) pos) (andV ma mb) := by
  refine JE.of (pe_and ha hb) fun σ H Q ⟨μ, env, st, hE, hs, hp⟩ => ⟨μ, env, st, hE, hs, hp.bind.imp ?_⟩
  rintro x H1 ⟨μ1, st1, d, g1, hs1, hx, hp1⟩
  cases d with
  | bl c =>
    refine ⟨c, RepV.bl_iff.mp hx, ?_⟩
    cases c with
    | true => exact iteT ⟨μ1, env, st1, hE.mono g1, hs1, hp1⟩
    | false => exact iteF (hp1.ret hs1 (RepV.bl_iff.mpr rfl))
  | _ => exact hp1.elim
theorem je_not (ha : JE X a ma) : JE X (.UnaryOp .Not a pos) (notV ma) := by
  refine JE.of (pe_not ha) fun σ H Q ⟨μ, env, st, hE, hs, hp⟩ => ⟨μ, env, st, hE, hs, hp.bind.imp ?_⟩
  rintro x H1 ⟨μ1, st1, d, g1, hs1, hx, hp1⟩
  cases d with
  | bl c => exact ⟨c, RepV.bl_iff.mp hx, hp1.ret hs1 (RepV.bl_iff.mpr rfl)⟩
  | _ => exact hp1.elim
def ifE (c : MT) (a b : ME) : ME := fun env st => (c env st).bind fun x st1 => if x then a env st1 else b env st1
/-! ### argument lists, displays -/
def nilA : MA := fun _ st => .ok [] st
def consA (a : ME) (r : MA) : MA := fun env st => (a env st).bind fun x st1 => (r env st1).bind fun xs st2 => .ok (x :: xs) st2
theorem ja_nil : JA X [] nilA := JA.of pa_nil fun σ H Q ⟨μ, env, st, hE, hs, hp⟩ => hp.ret hs RepVs.nil
theorem ja_cons {e : Expr} {es : List Expr} {m : ME} {mA : MA} (h : JE X e m) (hr : JA X es mA) (hs : starEach (e :: es) X.env = (false, eval e X.env) :: starEach es X.env := by rfl) : JA X (e :: es) (consA m mA) := by
  refine JA.of (pa_cons h hr hs) fun σ H Q ⟨μ, env, st, hE, hs, hp⟩ => ⟨μ, env, st, hE, hs, hp.bind.imp ?_⟩
  rintro x H1 ⟨μ1, st1, d, g1, hs1, hx, hp1⟩
  refine ⟨μ1, env, st1, hE.mono g1, hs1, hp1.bind.imp ?_⟩
  rintro xs H2 ⟨μ2, st2, ds, g2, hs2, hxs, hp2⟩
  exact hp2.ret hs2 (RepVs.cons (hx.mono g2 _) hxs)
def tupE (m : MA) : ME := fun env st => (m env st).bind fun ds st1 => if ds.length ≤ 1000000 then .ok (.tup ds) st1 else .bad
def lstE (m : MA) : ME := fun env st => (m env st).bind fun ds st1 => if ds.length ≤ 1000000 then .ok (.loc st1.length) (st1 ++ [.lst ds]) else .bad
theorem je_tup {es : List Expr} {mA : MA} {x1} (h : JA X es mA) : JE X (.Tuple es x1 pos) (tupE mA) := by
  refine JE.of (pe_tup h) fun σ H Q ⟨μ, env, st, hE, hs, hp⟩ => ⟨μ, env, st, hE, hs, hp.bind.imp ?_⟩
  rintro xs H1 ⟨μ1, st1, ds, g1, hs1, hxs, hp1⟩
  dsimp only at hp1
  split at hp1
  · rename_i hl
    refine ⟨by rw [← hxs.length]; exact lim_ok hl, fun p hn => ?_⟩
    exact hp1 _ _ μ1 (Grow.lay hn) (hs1.lay hn) (RepV.tup_iff.mpr ⟨p, xs, rfl, .inl upd_same, hxs.mono (Grow.lay hn) _⟩)
  · exact hp1.elim
/-- a new list -/
theorem Post.newList {μ : List Addr} {H : Hp} {st : Stor} {ds : List D} {xs : List V} {p : Addr} {Q : VK} (h : Post X μ H (relV X) Q (.ok (.loc st.length) (st ++ [.lst ds]))) (hs : RepS X.K μ H st) (hx : RepVs X.K μ H ds xs) (hn : H p = none) :
    Q (.ref p) (upd H p (.lst xs)) := by
  have g : Grow μ H (μ ++ [p]) (upd H p (.lst xs)) := Grow.new hn
  refine h _ _ (μ ++ [p]) g (hs.new hn ⟨xs, upd_same, hx.mono g _⟩) (RepV.loc_iff.mpr ⟨p, ?_, rfl⟩)
  rw [← hs.len]; simp
theorem je_lst {es : List Expr} {mA : MA} (h : JA X es mA) : JE X (.List es pos) (lstE mA) := by
  refine JE.of (pe_lst h) fun σ H Q ⟨μ, env, st, hE, hs, hp⟩ => ⟨μ, env, st, hE, hs, hp.bind.imp ?_⟩
  rintro xs H1 ⟨μ1, st1, ds, g1, hs1, hxs, hp1⟩
  dsimp only at hp1
  split at hp1
  · rename_i hl
    exact ⟨by rw [← hxs.length]; exact lim_ok hl, fun p hn => hp1.newList hs1 hxs hn⟩
  · exact hp1.elim
end
end M
namespace M
open PySem PySem.Spec L2
section
variable {X : Cx} {e a b c : Expr} {es : List Expr} {t : TE} {ma mb mc : ME} {mA : MA} {pos : Pos}
theorem strOf_len (cs : List Nat) : (strOf cs).length = cs.length := by simp [Str.length, strOf]
theorem strOf_app (a b : List Nat) : strOf a ++ strOf b = strOf (a ++ b) := by
  show Str.append _ _ = _
  simp [Str.append, strOf]
theorem strOf_inj {a b : List Nat} : strOf a = strOf b ↔ a = b := by
  constructor
  · intro h
    have := congrArg (fun s : Str => s.cps.toList) h
    simpa [strOf] using this
  · intro h; rw [h]
/-! ### + - * // % ** -/
def addV : D → D → Stor → R D
  | .int i, .int j, st => .ok (.int (i + j)) st
  | .str a, .str b, st => if a.length + b.length ≤ 1000000 then .ok (.str (a ++ b)) st else .bad
  | .tup a, .tup b, st => if a.length + b.length ≤ 1000000 then .ok (.tup (a ++ b)) st else .bad
  | .loc m, .loc n, st => match st[m]?, st[n]? with
    | some (.lst a), some (.lst b) => if a.length + b.length ≤ 1000000 then .ok (.loc st.length) (st ++ [.lst (a ++ b)]) else .bad
    | _, _ => .bad
  | _, _, _ => .bad
theorem op_addV : OpR X (binaryOp .Add) (rM X addV) := by
  refine OpR.weak (OpR.or op_add (OpR.or op_add_str (OpR.or op_catT (OpR.or op_catT0 op_cat)))) ?_
  rintro x y H Q ⟨μ, st, dx, dy, hs, hx, hy, hp⟩
  cases dx with
  | int i =>
    cases dy with
    | int j =>
      rw [RepV.int_iff] at hx hy; subst hx hy
      exact .inl ⟨i, j, rfl, rfl, hp.ret hs (RepV.int_iff.mpr rfl)⟩
    | _ => exact hp.elim
  | str i =>
    cases dy with
    | str j =>
      rw [RepV.str_iff] at hx hy; subst hx hy
      simp only [addV] at hp
      split at hp
      · rename_i hl
        refine .inr (.inl ⟨_, _, rfl, rfl, ?_, ?_⟩)
        · rw [strOf_len, strOf_len]; exact lim_ok hl
        · rw [strOf_app]; exact hp.ret hs (RepV.str_iff.mpr rfl)
      · exact hp.elim
    | _ => exact hp.elim
  | tup i =>
    cases dy with
    | tup j =>
      rw [RepV.tup_iff] at hx hy
      obtain ⟨p, xs, rfl, h1, h2⟩ := hx
      obtain ⟨q, ys, rfl, h3, h4⟩ := hy
      simp only [addV] at hp
      split at hp
      · rename_i hl
        by_cases hx0 : xs = []
        · subst hx0
          have hi : i = [] := by have := h2.length; simpa using this
          subst hi
          exact .inr (.inr (.inr (.inl ⟨p, q, ys, rfl, rfl, h1.sqT, h3.sqT, hp.ret hs (RepV.tup_iff.mpr ⟨q, ys, rfl, h3, h4⟩)⟩)))
        · refine .inr (.inr (.inl ⟨p, q, xs, ys, rfl, rfl, h1.sqT, h3.sqT, hx0, by rw [← h2.length, ← h4.length]; exact lim_ok hl, fun hy0 => ?_, fun _ r hr => ?_⟩))
          · subst hy0
            have hj : j = [] := by have := h4.length; simpa using this
            subst hj
            exact hp.ret hs (RepV.tup_iff.mpr ⟨p, xs, rfl, by rw [List.append_nil]; exact h1, by rw [List.append_nil]; exact h2⟩)
          · exact hp _ _ μ (Grow.lay hr) (hs.lay hr) (RepV.tup_iff.mpr ⟨r, _, rfl, .inl upd_same, (h2.append h4).mono (Grow.lay hr) _⟩)
      · exact hp.elim
    | _ => exact hp.elim
  | loc m =>
    cases dy with
    | loc n =>
      rw [RepV.loc_iff] at hx hy
      obtain ⟨p, h1, rfl⟩ := hx
      obtain ⟨q, h2, rfl⟩ := hy
      simp only [addV] at hp
      split at hp
      · rename_i da db e1 e2
        split at hp
        · rename_i hl
          obtain ⟨p', xs, h3, h4, h5⟩ := hs.lst e1
          obtain ⟨q', ys, h6, h7, h8⟩ := hs.lst e2
          rw [h1] at h3; cases h3
          rw [h2] at h6; cases h6
          exact .inr (.inr (.inr (.inr ⟨p, q, xs, ys, rfl, rfl, h4, h7, by rw [← h5.length, ← h8.length]; exact lim_ok hl, fun r hr => hp.newList hs (h5.append h8) hr⟩)))
        · exact hp.elim
      · exact hp.elim
    | _ => exact hp.elim
  | _ => exact hp.elim
/-- two ints -/
def intV (C : Int → Int → Prop) [∀ i j, Decidable (C i j)] (g : Int → Int → D) : D → D → Stor → R D
  | .int i, .int j, st => if C i j then .ok (g i j) st else .bad
  | _, _, _ => .bad
theorem op_intV {f : Value → Value → Sem Value} {C : Int → Int → Prop} [∀ i j, Decidable (C i j)] {g : Int → Int → D} {gv : Int → Int → V} (h : OpR X f (rI C gv)) (hg : ∀ i j μ H, RepV X.K μ H (g i j) (gv i j)) : OpR X f (rM X (intV C g)) := by
  refine OpR.weak h ?_
  rintro x y H Q ⟨μ, st, dx, dy, hs, hx, hy, hp⟩
  cases dx with
  | int i =>
    cases dy with
    | int j =>
      rw [RepV.int_iff] at hx hy; subst hx hy
      simp only [intV] at hp
      split at hp
      · rename_i hc
        exact ⟨i, j, rfl, rfl, hc, hp.ret hs (hg i j μ H)⟩
      · exact hp.elim
    | _ => exact hp.elim
  | _ => exact hp.elim
theorem OpR.top {f : Value → Value → Sem Value} {gv : Int → Int → V} (h : OpR X f (rI0 gv)) : OpR X f (rI (fun _ _ => True) gv) := OpR.weak h fun x y H Q ⟨i, j, a, b, _, q⟩ => ⟨i, j, a, b, q⟩
def subV : D → D → Stor → R D := intV (fun _ _ => True) fun i j => .int (i - j)
def mulV : D → D → Stor → R D := intV (fun i j => (-(2 ^ 64) < i ∧ i < 2 ^ 64) ∨ (-(2 ^ 64) < j ∧ j < 2 ^ 64)) fun i j => .int (i * j)
theorem op_mulV : OpR X (binaryOp .Mult) (rM X mulV) := op_intV (OpR.weak op_mul fun x y H Q h => h) fun i j μ H => RepV.int_iff.mpr rfl
def fdivV : D → D → Stor → R D := intV (fun _ j => 0 < j ∧ j < 2 ^ 64) fun i j => .int (i / j)
theorem op_fdivV : OpR X (binaryOp .FloorDiv) (rM X fdivV) := op_intV op_fdivW fun i j μ H => RepV.int_iff.mpr rfl
def modV : D → D → Stor → R D := intV (fun _ j => 0 < j) fun i j => .int (i % j)
theorem op_modV : OpR X (binaryOp .Mod) (rM X modV) := op_intV op_mod fun i j μ H => RepV.int_iff.mpr rfl
def powV : D → D → Stor → R D := intV (fun i j => 0 ≤ j ∧ j ≤ 1000000 ∧ i.natAbs < 2 ^ 64) fun i j => .int (i ^ j.toNat)
theorem op_powV : OpR X (binaryOp .Pow) (rM X powV) := op_intV (OpR.weak op_pow fun x y H Q h => h) fun i j μ H => RepV.int_iff.mpr rfl
def ltV : D → D → Stor → R D := intV (fun _ _ => True) fun i j => .bl (decide (i < j))
theorem op_ltV : OpR X (compareOp .Lt) (rM X ltV) := op_intV (OpR.top op_lt) fun i j μ H => RepV.bl_iff.mpr rfl
def leV : D → D → Stor → R D := intV (fun _ _ => True) fun i j => .bl (decide (i ≤ j))
def gtV : D → D → Stor → R D := intV (fun _ _ => True) fun i j => .bl (decide (j < i))
theorem op_gtV : OpR X (compareOp .Gt) (rM X gtV) := op_intV (OpR.top op_gt) fun i j μ H => RepV.bl_iff.mpr rfl
def geV : D → D → Stor → R D := intV (fun _ _ => True) fun i j => .bl (decide (j ≤ i))
def negV : D → Stor → R D
  | .int i, st => .ok (.int (-i)) st
  | _, _ => .bad
/-- is None, is not None -/
def isNoneV : D → D → Stor → R D
  | .non, .non, st => .ok (.bl true) st
  | _, .non, st => .ok (.bl false) st
  | _, _, _ => .bad
def notNoneV : D → D → Stor → R D
  | .non, .non, st => .ok (.bl false) st
  | _, .non, st => .ok (.bl true) st
  | _, _, _ => .bad
theorem RepV.none_iff' {K : PySem.W.Frag} {μ : List Addr} {H : Hp} {d : D} {v : V} (h : RepV K μ H d v) : decide (v = .non) = (match d with | .non => true | _ => false) := by
  cases d with
  | non => rw [RepV.non_iff] at h; subst h; rfl
  | bl b => rw [RepV.bl_iff] at h; subst h; rfl
  | int b => rw [RepV.int_iff] at h; subst h; rfl
  | str b => rw [RepV.str_iff] at h; subst h; rfl
  | tup b => rw [RepV.tup_iff] at h; obtain ⟨_, _, rfl, _⟩ := h; rfl
  | loc b => rw [RepV.loc_iff] at h; obtain ⟨_, _, rfl⟩ := h; rfl
theorem op_isNoneV : OpR X (compareOp .Is) (rM X isNoneV) := by
  refine OpR.weak op_isN ?_
  rintro x y H Q ⟨μ, st, dx, dy, hs, hx, hy, hp⟩
  cases dy with
  | non =>
    rw [RepV.non_iff] at hy
    refine ⟨hy, ?_⟩
    rw [hx.none_iff']
    cases dx <;> exact hp.ret hs (RepV.bl_iff.mpr rfl)
  | _ => cases dx <;> exact hp.elim
/-! ### a[b] -/
def ixV : D → D → Stor → R D
  | .loc n, .int i, st => match (itemsAt st n).bind fun ds => atI ds i with | some d => .ok d st | none => .bad
  | .tup ds, .int i, st => match atI ds i with | some d => .ok d st | none => .bad
  | .str cs, .int i, st => if cs.length ≤ 1000000 then (match atI cs i with | some c => .ok (.str [c]) st | none => .bad) else .bad
  | _, _, _ => .bad
theorem RepVs.atI {K : PySem.W.Frag} {μ : List Addr} {H : Hp} {ds : List D} {xs : List V} {i : Int} {d : D} (h : RepVs K μ H ds xs) (e : L2.atI ds i = some d) : ∃ v, L2.atI xs i = some v ∧ RepV K μ H d v := by
  unfold L2.atI at e ⊢
  rw [← h.length]
  cases q : ixN ds.length i with
  | none => rw [q] at e; cases e
  | some j =>
    rw [q] at e
    exact h.get (by simpa using e)
theorem ix_V : IxR X (rM X ixV) := by
  refine IxR.weak ix_seq ?_
  rintro x y H Q ⟨μ, st, dx, dy, hs, hx, hy, hp⟩
  cases dy with
  | int i =>
    rw [RepV.int_iff] at hy; subst hy
    cases dx with
    | loc n =>
      rw [RepV.loc_iff] at hx
      obtain ⟨p, h1, rfl⟩ := hx
      simp only [ixV] at hp
      cases e : itemsAt st n with
      | none => rw [e] at hp; exact hp.elim
      | some ds =>
        rw [e] at hp
        cases e2 : L2.atI ds i with
        | none => simp only [Option.bind_some, e2] at hp; exact hp.elim
        | some d =>
          simp only [Option.bind_some, e2] at hp
          obtain ⟨p', xs, h3, h4, h5⟩ := hs.items e
          rw [h1] at h3; cases h3
          obtain ⟨v, h6, h7⟩ := h5.atI e2
          exact .inl ⟨p, xs, i, v, rfl, rfl, h4, h6, hp.ret hs h7⟩
    | tup ds =>
      rw [RepV.tup_iff] at hx
      obtain ⟨p, xs, rfl, h1, h2⟩ := hx
      simp only [ixV] at hp
      cases e2 : L2.atI ds i with
      | none => simp only [e2] at hp; exact hp.elim
      | some d =>
        simp only [e2] at hp
        obtain ⟨v, h6, h7⟩ := h2.atI e2
        exact .inr (.inl ⟨p, xs, i, v, rfl, rfl, h1.sqT, h6, hp.ret hs h7⟩)
    | str cs =>
      rw [RepV.str_iff] at hx; subst hx
      simp only [ixV] at hp
      split at hp
      · rename_i hl
        cases e2 : L2.atI cs i with
        | none => simp only [e2] at hp; exact hp.elim
        | some c =>
          simp only [e2] at hp
          exact .inr (.inr ⟨_, i, c, rfl, rfl, by rw [strOf_len]; exact lim_ok hl, by simpa [strOf] using e2, hp.ret hs (RepV.str_iff.mpr rfl)⟩)
      · exact hp.elim
    | _ => exact hp.elim
  | _ => cases dx <;> exact hp.elim
theorem je_ix (ha : JE X a ma) (hb : JE X b mb) (hs : PlainIx b := by exact fun _ _ => rfl) : JE X (.Subscript a b pos) (op2 ixV ma mb) :=
  JE.of (pe_ix ix_V ha hb hs) fun σ H Q h => tM_two h
end
end M
namespace M
open PySem PySem.Spec L2
section
variable {X : Cx} {e a b c : Expr} {es : List Expr} {t : TE} {ma mb mc : ME} {mA : MA} {pos p2 : Pos}
/-! ### slices -/
def cut {α : Type} (xs : List α) (lo hi : Option Int) : List α := (xs.drop (HT.sIx xs.length 0 lo)).take (HT.sIx xs.length xs.length hi - HT.sIx xs.length 0 lo)
theorem RepVs.cut {K : PySem.W.Frag} {μ : List Addr} {H : Hp} {ds : List D} {xs : List V} (h : RepVs K μ H ds xs) (lo hi : Option Int) : RepVs K μ H (M.cut ds lo hi) (cutV xs lo hi) := by
  unfold M.cut cutV
  rw [← h.length]
  exact (h.drop _).take _
theorem cut_whole {α : Type} {xs : List α} {lo hi : Option Int} (h : HT.sIx xs.length 0 lo = 0 ∧ HT.sIx xs.length xs.length hi = xs.length) : cut xs lo hi = xs := by
  unfold cut
  rw [h.1, h.2]
  simp
theorem sRange_eq (i j : Nat) : sliceRange (i : Int) (j : Int) 1 = (List.range (j - i)).map fun k => i + k := by
  unfold sliceRange
  simp only [show (1 : Int) > 0 by decide, if_true]
  have e : (if (i : Int) < (j : Int) then ((j : Int) - (i : Int) + 1 - 1) / 1 else 0).toNat = j - i := by
    split
    · rw [Int.ediv_one]; omega
    · omega
  rw [e]
  refine List.map_congr_left fun k _ => ?_
  omega
theorem sIdx_eq (lo hi : Option Int) (n : Nat) : Builtin.Str.strSliceIndices lo hi 1 n = (List.range (HT.sIx n n hi - HT.sIx n 0 lo)).map fun k => HT.sIx n 0 lo + k := by
  rw [← sRange_eq]
  unfold Builtin.Str.strSliceIndices
  simp only [show (1 : Int) > 0 by decide, if_true]
  congr 1
  · cases lo with
    | none => rfl
    | some v =>
      show max 0 (min (if v < 0 then v + (n : Int) else v) (n : Int)) = ((if v < 0 then (v + (n : Int)).toNat else min v.toNat n : Nat) : Int)
      split <;> omega
  · cases hi with
    | none => rfl
    | some v =>
      show max 0 (min (if v < 0 then v + (n : Int) else v) (n : Int)) = ((if v < 0 then (v + (n : Int)).toNat else min v.toNat n : Nat) : Int)
      split <;> omega
theorem pick_cut (cs : List Nat) (i k : Nat) : ((List.range k).map fun m => i + m).filterMap (fun m => cs[m]?) = (cs.drop i).take k := by
  induction k generalizing i with
  | zero => simp
  | succ k ih =>
    rw [List.range_succ_eq_map, List.map_cons, List.filterMap_cons, List.map_map]
    have e : ((fun m => i + m) ∘ Nat.succ) = fun m => (i + 1) + m := by funext m; simp; omega
    rw [e, ih (i + 1)]
    cases q : cs[i]? with
    | none =>
      have hl : cs.length ≤ i := List.getElem?_eq_none_iff.mp q
      simp [q, List.drop_eq_nil_of_le hl, List.drop_eq_nil_of_le (Nat.le_succ_of_le hl)]
    | some c =>
      have hl := (List.getElem?_eq_some_iff.mp q).1
      have hc := (List.getElem?_eq_some_iff.mp q).2
      simp [q, List.drop_eq_getElem_cons hl, hc]
theorem slice_str (cs : List Nat) (lo hi : Option Int) : Txt.slice (strOf cs) lo hi = strOf (cut cs lo hi) := by
  have e : (strOf cs).length = cs.length := by simp [Str.length, strOf]
  unfold Txt.slice
  rw [e, sIdx_eq]
  have hj : HT.sIx cs.length cs.length hi ≤ cs.length := HT.sIx_le _ _ (Nat.le_refl _) hi
  have q : ((List.range (HT.sIx cs.length cs.length hi - HT.sIx cs.length 0 lo)).map fun k => HT.sIx cs.length 0 lo + k).filterMap (fun m => (strOf cs).cps[m]?) = cut cs lo hi := by
    have : (fun (m : Nat) => (strOf cs).cps[m]?) = fun (m : Nat) => cs[m]? := by funext m; simp [strOf]
    rw [this, pick_cut]; rfl
  split
  · rename_i h
    rw [Bool.and_eq_true] at h
    have h2 : HT.sIx cs.length cs.length hi - HT.sIx cs.length 0 lo = cs.length := by simpa using h.2
    have h3 : cut cs lo hi = cs := by
      unfold cut
      rw [h2]
      by_cases hz : cs.length = 0
      · have : cs = [] := List.length_eq_zero_iff.mp hz
        subst this; simp
      · have : HT.sIx cs.length 0 lo = 0 := by omega
        rw [this]; simp
    rw [h3]
  · rw [q]
def slV : D → Option Int → Option Int → Stor → R D
  | .loc n, lo, hi, st => match itemsAt st n with | some ds => .ok (.loc st.length) (st ++ [.lst (cut ds lo hi)]) | none => .bad
  | .tup ds, lo, hi, st => .ok (.tup (cut ds lo hi)) st
  | .str cs, lo, hi, st => if cs.length ≤ 1000000 then .ok (.str (cut cs lo hi)) st else .bad
  | _, _, _, _ => .bad
def rMS (X : Cx) (g : D → Option Int → Option Int → Stor → R D) : V → Option Int → Option Int → Hp → VK → Prop := fun x lo hi H Q => ∃ μ st dx, RepS X.K μ H st ∧ RepV X.K μ H dx x ∧ Post X μ H (relV X) Q (g dx lo hi st)
def rSlS : V → Option Int → Option Int → Hp → VK → Prop := fun x lo hi H Q => ∃ cs, x = .str (strOf cs) ∧ cs.length ≤ sizeLine ∧ Q (.str (strOf (cut cs lo hi))) H
theorem sl_str : SlR X rSlS := by
  intro pins s σ H x v vl vu lo hi sl Q I rx hs pl pu h
  obtain ⟨cs, rfl, hz, q⟩ := h
  obtain ⟨t, rfl⟩ := rx
  obtain ⟨l, el, ml⟩ : ∃ l : Option (Int × Tok), vl = partValue l ∧ l.map (·.1) = lo := by
    cases pl with
    | none => exact ⟨none, rfl, rfl⟩
    | int i u => exact ⟨some (i, u), rfl, rfl⟩
  obtain ⟨u, eu, mu⟩ : ∃ l : Option (Int × Tok), vu = partValue l ∧ l.map (·.1) = hi := by
    cases pu with
    | none => exact ⟨none, rfl, rfl⟩
    | int i u => exact ⟨some (i, u), rfl, rfl⟩
  subst el eu
  have hs' : s.heap.IsSlice sl l u none := hs
  refine ⟨"str", _, F.slot_str_getitem.lookup, typeIs_str _ _ _, wpAny_getItem_str_slice (l := l) (u := u) (st := none) hs' rfl ?_⟩
  have e : Txt.slice (strOf cs) lo hi = strOf (cut cs lo hi) := slice_str cs lo hi
  unfold Txt.slice at e
  unfold sliceMade slicePicked
  rw [ml, mu]
  split
  · rename_i h
    have h' : ((1 : Int) == 1 && (Builtin.Str.strSliceIndices lo hi 1 (strOf cs).length).length == (strOf cs).length) = true := h
    rw [if_pos h'] at e
    exact ⟨.str (strOf cs), H, I, ⟨t, rfl⟩, by rw [← e] at q; exact q⟩
  · rename_i h
    have h' : ¬ ((1 : Int) == 1 && (Builtin.Str.strSliceIndices lo hi 1 (strOf cs).length).length == (strOf cs).length) = true := h
    rw [if_neg h'] at e
    have e' : ({ cps := ((Builtin.Str.strSliceIndices lo hi ((Option.map (·.1) (none : Option (Int × Tok))).getD 1) (strOf cs).length).filterMap fun x => (strOf cs).cps[x]?).toArray } : Str) = strOf (cut cs lo hi) := e
    rw [e']
    refine ⟨?_, .str (strOf (cut cs lo hi)), H, I.tok _, ⟨_, rfl⟩, q⟩
    have : (strOf (cut cs lo hi)).length = (cut cs lo hi).length := by simp [Str.length, strOf]
    rw [this]
    refine Nat.le_trans ?_ hz
    unfold cut
    rw [List.length_take, List.length_drop]
    omega
theorem sl_V : SlR X (rMS X slV) := by
  refine SlR.weak (SlR.or sl_list (SlR.or sl_tup (SlR.or sl_tupW sl_str))) ?_
  rintro x lo hi H Q ⟨μ, st, dx, hs, hx, hp⟩
  cases dx with
  | loc n =>
    rw [RepV.loc_iff] at hx
    obtain ⟨p, h1, rfl⟩ := hx
    simp only [slV] at hp
    cases e : itemsAt st n with
    | none => rw [e] at hp; exact hp.elim
    | some ds =>
      rw [e] at hp
      obtain ⟨p', xs, h3, h4, h5⟩ := hs.items e
      rw [h1] at h3; cases h3
      exact .inl ⟨p, xs, rfl, h4, fun q hq => hp.newList hs (h5.cut lo hi) hq⟩
  | tup ds =>
    rw [RepV.tup_iff] at hx
    obtain ⟨p, xs, rfl, h1, h2⟩ := hx
    by_cases hw : HT.sIx xs.length 0 lo = 0 ∧ HT.sIx xs.length xs.length hi = xs.length
    · refine .inr (.inr (.inl ⟨p, xs, rfl, h1.sqT, hw, hp.ret hs ?_⟩))
      rw [← h2.length] at hw
      rw [cut_whole hw]; exact RepV.tup_iff.mpr ⟨p, xs, rfl, h1, h2⟩
    · exact .inr (.inl ⟨p, xs, rfl, h1.sqT, hw, fun q hq => hp _ _ μ (Grow.lay hq) (hs.lay hq) (RepV.tup_iff.mpr ⟨q, _, rfl, .inl upd_same, (h2.cut lo hi).mono (Grow.lay hq) _⟩)⟩)
  | str cs =>
    rw [RepV.str_iff] at hx; subst hx
    simp only [slV] at hp
    split at hp
    · rename_i hl
      exact .inr (.inr (.inr ⟨cs, rfl, lim_ok hl, hp.ret hs (RepV.str_iff.mpr rfl)⟩))
    · exact hp.elim
  | _ => exact hp.elim
def noP : MP := fun _ st => .ok none st
def inP (m : ME) : MP := fun env st => (m env st).bind fun x st1 => match x with | .int i => .ok (some i) st1 | _ => .bad
theorem jp_none : JP X none noP := JP.of po_none fun σ H Q ⟨μ, env, st, hE, hs, hp⟩ => hp.ret hs rfl
theorem jp_some {m : ME} (h : JE X e m) : JP X (some e) (inP m) := by
  refine JP.of (po_some h) fun σ H Q ⟨μ, env, st, hE, hs, hp⟩ => ⟨μ, env, st, hE, hs, hp.bind.imp ?_⟩
  rintro x H1 ⟨μ1, st1, d, g1, hs1, hx, hp1⟩
  cases d with
  | int i => exact ⟨i, RepV.int_iff.mp hx, hp1.ret hs1 rfl⟩
  | _ => exact hp1.elim
def slE (a : ME) (l h : MP) : ME := fun env st => (a env st).bind fun x st1 => (l env st1).bind fun lo st2 => (h env st2).bind fun hi st3 => slV x lo hi st3
theorem je_slice {lo hi : Option Expr} {ml mh : MP} (he : JE X e ma) (hl : JP X lo ml) (hu : JP X hi mh) : JE X (.Subscript e (.Slice lo hi none p2) pos) (slE ma ml mh) := by
  refine JE.of (pe_slice sl_V he hl hu) fun σ H Q ⟨μ, env, st, hE, hs, hp⟩ => ⟨μ, env, st, hE, hs, hp.bind.imp ?_⟩
  rintro x H1 ⟨μ1, st1, d, g1, hs1, hx, hp1⟩
  refine ⟨μ1, env, st1, hE.mono g1, hs1, hp1.bind.imp ?_⟩
  rintro l H2 ⟨μ2, st2, l', g2, hs2, rfl, hp2⟩
  refine ⟨μ2, env, st2, (hE.mono g1).mono g2, hs2, hp2.bind.imp ?_⟩
  rintro u H3 ⟨μ3, st3, u', g3, hs3, rfl, hp3⟩
  exact ⟨μ3, st3, d, hs3, hx.mono (g2.trans g3) _, hp3⟩
/-! ### calls of built-ins and their methods -/
def callE (g : List D → Stor → R D) (mA : MA) : ME := fun env st => (mA env st).bind fun ds st1 => g ds st1
theorem tMA_call {g : List D → Stor → R D} {σ : L2.St} {H : Hp} {Q : VK} (h : tM X (callE g mA) σ H Q) : tMA X mA σ H fun vs H1 => rMC X g vs H1 Q := by
  obtain ⟨μ, env, st, hE, hs, hp⟩ := h
  refine ⟨μ, env, st, hE, hs, hp.bind.imp ?_⟩
  rintro xs H1 ⟨μ1, st1, ds, g1, hs1, hx, hp1⟩
  exact ⟨μ1, st1, ds, hs1, hx, hp1⟩
theorem je_callB {x : Str} {p : Pos} {id : String} {g : List D → Stor → R D} (hc : CallR X (.builtin id) (rMC X g)) (hg : Gl X x) (hm : X.mg x = none) (hv : bootBuiltins x = some (.builtin id)) (ha : JA X (e :: es) mA) (hn : x ≠ "__name__" := by decide) (hdb : (x == ("__debug__" : Str)) = false := by decide)
    (he : starEach (e :: es) X.env = (false, eval e X.env) :: starEach es X.env := by rfl) (hpl : (backTo pos (starEach es X.env)).any (·.1) = false := by rfl) : JE X (.Call (.Name x p) (e :: es) [] pos) (callE g mA) :=
  JE.of (pe_callB hc hg hm hv ha hn hdb he hpl) fun σ H Q h => tMA_call h
theorem je_callTy {x : Str} {p : Pos} {T : String} {g : List D → Stor → R D} (hc : CallR X (.type T) (rMC X g)) (hg : Gl X x) (hm : X.mg x = none) (hv : bootBuiltins x = some (.type T)) (ha : JA X (e :: es) mA) (hn : x ≠ "__name__" := by decide) (hdb : (x == ("__debug__" : Str)) = false := by decide)
    (he : starEach (e :: es) X.env = (false, eval e X.env) :: starEach es X.env := by rfl) (hpl : (backTo pos (starEach es X.env)).any (·.1) = false := by rfl) : JE X (.Call (.Name x p) (e :: es) [] pos) (callE g mA) :=
  JE.of (pe_callTy hc hg hm hv ha hn hdb he hpl) fun σ H Q h => tMA_call h
end
end M
namespace M
open PySem PySem.Spec L2
/-! ### statements -/
inductive Out where
  | nx (env : MEnv) | rt (d : D) | bk (env : MEnv) | cn (env : MEnv)
abbrev MS := MEnv → Stor → R Out
def PostS (X : Cx) (μ : List Addr) (H : Hp) (E : Ends) (r : R Out) : Prop := match r with
  | .ok (.nx env) st => ∀ (σ' : L2.St) (H' : Hp) (μ' : List Addr), Grow μ H μ' H' → RepS X.K μ' H' st → RepE X.K μ' H' env σ' → E.nx σ' H'
  | .ok (.rt d) st => ∀ (v : V) (H' : Hp) (μ' : List Addr), Grow μ H μ' H' → RepS X.K μ' H' st → RepV X.K μ' H' d v → E.rt v H'
  | .ok (.bk env) st => ∀ (σ' : L2.St) (H' : Hp) (μ' : List Addr), Grow μ H μ' H' → RepS X.K μ' H' st → RepE X.K μ' H' env σ' → E.bk σ' H'
  | .ok (.cn env) st => ∀ (σ' : L2.St) (H' : Hp) (μ' : List Addr), Grow μ H μ' H' → RepS X.K μ' H' st → RepE X.K μ' H' env σ' → E.ct σ' H'
  | .err x st => ErrOK X μ H x st
  | .bad => False
def tMS (X : Cx) (m : MS) : TS := fun E σ H => ∃ μ env st, RepE X.K μ H env σ ∧ RepS X.K μ H st ∧ PostS X μ H E (m env st)
def JS (X : Cx) (s : Stmt) (m : MS) : Prop := PS X s (tMS X m)
def JSs (X : Cx) (s : List Stmt) (m : MS) : Prop := PSs X s (tMS X m)
section
variable {X : Cx} {e a b c : Expr} {es : List Expr} {t : TE} {ma mb mc : ME} {mA : MA} {pos p2 : Pos} {s : Stmt} {ss : List Stmt} {m m1 m2 : MS} {μ μ1 : List Addr} {H H1 : Hp} {E E' : Ends} {r : R Out}
theorem PostS.mono (g : Grow μ H μ1 H1) (h : PostS X μ H E r) : PostS X μ1 H1 E r := by
  match r, h with
  | .ok (.nx _) _, h => exact fun σ' H' μ' g' => h σ' H' μ' (g.trans g')
  | .ok (.rt _) _, h => exact fun σ' H' μ' g' => h σ' H' μ' (g.trans g')
  | .ok (.bk _) _, h => exact fun σ' H' μ' g' => h σ' H' μ' (g.trans g')
  | .ok (.cn _) _, h => exact fun σ' H' μ' g' => h σ' H' μ' (g.trans g')
  | .err _ _, h => exact ErrOK.mono g h
  | .bad, h => exact h
theorem JS.of {t : TS} (h : PS X s t) (k : ∀ E σ H, tMS X m E σ H → t E σ H) : JS X s m := fun pins s σ H D I q => h pins s σ H D I (k D σ H q)
theorem JSs.of {t : TS} (h : PSs X ss t) (k : ∀ E σ H, tMS X m E σ H → t E σ H) : JSs X ss m := fun pins s σ H D I q => h pins s σ H D I (k D σ H q)
theorem PostS.nx {env : MEnv} {st : Stor} {σ : L2.St} (h : PostS X μ H E (.ok (.nx env) st)) (hs : RepS X.K μ H st) (hE : RepE X.K μ H env σ) : E.nx σ H := h σ H μ (.refl _ _) hs hE
def skipS : MS := fun env st => .ok (.nx env) st
def seqS (a b : MS) : MS := fun env st => (a env st).bind fun o st1 => match o with | .nx env1 => b env1 st1 | o => .ok o st1
def retS (m : ME) : MS := fun env st => (m env st).bind fun d st1 => .ok (.rt d) st1
def retN : MS := fun _ st => .ok (.rt .non) st
def exprS (m : ME) : MS := fun env st => (m env st).bind fun _ st1 => .ok (.nx env) st1
def ifS (c : MT) (a b : MS) : MS := fun env st => (c env st).bind fun x st1 => if x then a env st1 else b env st1
def brkS : MS := fun env st => .ok (.bk env) st
def cntS : MS := fun env st => .ok (.cn env) st
theorem js_nil : JSs X [] skipS := JSs.of pss_nil fun E σ H ⟨μ, env, st, hE, hs, hp⟩ => hp.nx hs hE
theorem js_one (h : JS X s m) : JSs X [s] m := pss_one h
theorem PostS.seq (h : PostS X μ H E (r.bind fun o st1 => match o with | .nx env1 => m2 env1 st1 | o => .ok o st1)) : PostS X μ H { E with nx := tMS X m2 E } r := by
  match r, h with
  | .ok (.nx env1) st1, h => exact fun σ' H' μ' g hs hE => ⟨μ', env1, st1, hE, hs, PostS.mono g h⟩
  | .ok (.rt _) _, h => exact h
  | .ok (.bk _) _, h => exact h
  | .ok (.cn _) _, h => exact h
  | .err _ _, h => exact h
  | .bad, h => exact h
theorem js_cons (h1 : JS X s m1) (h2 : JSs X ss m2) : JSs X (s :: ss) (seqS m1 m2) :=
  JSs.of (pss_cons h1 h2) fun E σ H ⟨μ, env, st, hE, hs, hp⟩ => ⟨μ, env, st, hE, hs, PostS.seq hp⟩
/-- an expression's value handed to a statement's rest -/
theorem PostS.val {α β : Type} {rel : Rel α β} {r : R α} {f : α → Stor → R Out} (h : PostS X μ H E (r.bind f)) : Post X μ H rel (fun b H1 => ∃ μ1 st1 a, Grow μ H μ1 H1 ∧ RepS X.K μ1 H1 st1 ∧ rel μ1 H1 a b ∧ PostS X μ1 H1 E (f a st1)) r := by
  cases r with
  | ok a st => exact fun b H' μ' g h1 h2 => ⟨μ', st, a, g, h1, h2, PostS.mono g h⟩
  | err x st => exact h
  | bad => exact h
theorem js_ret (h : JE X e ma) : JS X (.Return (some e) pos) (retS ma) := by
  refine JS.of (ps_ret h) fun E σ H ⟨μ, env, st, hE, hs, hp⟩ => ⟨μ, env, st, hE, hs, hp.val.imp ?_⟩
  rintro v H1 ⟨μ1, st1, d, g1, hs1, hv, hp1⟩
  exact hp1 v H1 μ1 (.refl _ _) hs1 hv
theorem js_expr (h : JE X e ma) (hs : swapsWith e none pos.line X.env = pure false := by rfl) : JS X (.Expr e pos) (exprS ma) := by
  refine JS.of (ps_expr h hs) fun E σ H ⟨μ, env, st, hE, hs, hp⟩ => ⟨μ, env, st, hE, hs, hp.val.imp ?_⟩
  rintro v H1 ⟨μ1, st1, d, g1, hs1, hv, hp1⟩
  exact hp1.nx hs1 (hE.mono g1)
theorem js_if {sa sb : List Stmt} {tc : MT} (hc : JT X c tc) (ha : JSs X sa m1) (hb : JSs X sb m2) : JS X (.If c sa sb pos) (ifS tc m1 m2) := by
  refine JS.of (ps_if hc ha hb) fun E σ H ⟨μ, env, st, hE, hs, hp⟩ => ⟨μ, env, st, hE, hs, hp.val.imp ?_⟩
  rintro v H1 ⟨μ1, st1, d, g1, hs1, rfl, hp1⟩
  cases d with
  | true => exact iteT ⟨μ1, env, st1, hE.mono g1, hs1, hp1⟩
  | false => exact iteF ⟨μ1, env, st1, hE.mono g1, hs1, hp1⟩
/-! ### targets -/
abbrev MG := D → MEnv → Stor → R MEnv
abbrev MGs := List D → MEnv → Stor → R MEnv
abbrev relE (X : Cx) : Rel MEnv L2.St := fun μ H env σ => RepE X.K μ H env σ
def tMG (X : Cx) (m : MG) : TG := fun v σ H Q => ∃ μ env st d, RepE X.K μ H env σ ∧ RepS X.K μ H st ∧ RepV X.K μ H d v ∧ Post X μ H (relE X) Q (m d env st)
def tMGs (X : Cx) (m : MGs) : TGs := fun vs σ H Q => ∃ μ env st ds, RepE X.K μ H env σ ∧ RepS X.K μ H st ∧ RepVs X.K μ H ds vs ∧ Post X μ H (relE X) Q (m ds env st)
def JG (X : Cx) (t : Expr) (m : MG) : Prop := PG X t (tMG X m)
def JGs (X : Cx) (ts : List Expr) (m : MGs) : Prop := PGs X ts (tMGs X m)
theorem JG.of {g : TG} {m : MG} (h : PG X e g) (k : ∀ v σ H Q, tMG X m v σ H Q → g v σ H Q) : JG X e m := fun pins s σ H v u Q I r q => h pins s σ H v u Q I r (k v σ H Q q)
theorem JGs.of {g : TGs} {m : MGs} (h : PGs X es g) (k : ∀ v σ H Q, tMGs X m v σ H Q → g v σ H Q) : JGs X es m := fun pins s σ H v u Q I r q => h pins s σ H v u Q I r (k v σ H Q q)
def nameG (i : Nat) : MG := fun d env st => .ok (env.set i (some d)) st
theorem jg_name (i : Nat) {x : Str} (hN : X.N.Nodup) (hi : X.N[i]? = some x := by rfl) (hx : Loc X.env.scope x := by first | exact Or.inl rfl | exact Or.inr rfl) (hf : X.fn x = true ∨ X.env.scope.names.lookup x = some .local := by first | exact .inl rfl | exact .inr rfl | assumption) : JG X (.Name x pos) (nameG i) :=
  JG.of (pg_name hN hi hx hf) fun v σ H Q ⟨μ, env, st, d, hE, hs, hv, hp⟩ => hp.ret hs (hE.set hv)
def nilG : MGs := fun ds env st => match ds with | [] => .ok env st | _ => .bad
def consG (g : MG) (r : MGs) : MGs := fun ds env st => match ds with | d :: ds => (g d env st).bind fun env1 st1 => r ds env1 st1 | _ => .bad
theorem jgs_nil : JGs X [] nilG := JGs.of pgs_nil fun vs σ H Q ⟨μ, env, st, ds, hE, hs, hv, hp⟩ => by
  cases ds with
  | nil => rw [RepVs] at hv; exact ⟨hv, hp.ret hs hE⟩
  | cons _ _ => exact hp.elim
theorem jgs_cons {g : MG} {gs : MGs} (h1 : JG X e g) (h2 : JGs X es gs) (hs : (assignEach (e :: es) X.env).map (·.2) = assign e X.env :: (assignEach es X.env).map (·.2) := by rfl) : JGs X (e :: es) (consG g gs) :=
  JGs.of (pgs_cons h1 h2 hs) fun vs σ H Q ⟨μ, env, st, ds, hE, hs, hv, hp⟩ => by
  cases ds with
  | nil => exact hp.elim
  | cons d ds =>
    rw [RepVs] at hv
    obtain ⟨v, r, rfl, h3, h4⟩ := hv
    refine ⟨v, r, rfl, μ, env, st, d, hE, hs, h3, (Post.bind hp).imp ?_⟩
    rintro σ1 H1 ⟨μ1, st1, env1, g1, hs1, hE1, hp1⟩
    exact ⟨μ1, env1, st1, ds, hE1, hs1, h4.mono g1 _, hp1⟩
def tupG (n : Nat) (g : MGs) : MG := fun d env st => match d with | .tup ds => if ds.length = n then g ds env st else .bad | _ => .bad
theorem jg_tup {gs : MGs} {k : Nat} (n : Nat) (hc : X.calm = true) (h : JGs X es gs) (hn : (assignEach es X.env).length = n := by rfl) (hst : (assignEach es X.env).findIdx? (·.1) = none := by rfl) : JG X (.Tuple es k pos) (tupG n gs) :=
  JG.of (pg_tup hc h hn hst) fun v σ H Q ⟨μ, env, st, d, hE, hs, hv, hp⟩ => by
  cases d with
  | tup ds =>
    rw [RepV.tup_iff] at hv
    obtain ⟨p, xs, rfl, h1, h2⟩ := hv
    simp only [tupG] at hp
    split at hp
    · rename_i hl
      exact ⟨p, xs, rfl, h1.sqT, by rw [← h2.length]; exact hl, μ, env, st, ds, hE, hs, h2, hp⟩
    · exact hp.elim
  | _ => exact hp.elim
/-- o[i] = v of a list -/
def setV : D → D → D → Stor → R Unit
  | .loc n, .int i, d, st => match st[n]? with
    | some (.lst ds) => (match ixN ds.length i with | some j => .ok () (st.set n (.lst (ds.set j d))) | none => .bad)
    | _ => .bad
  | _, _, _, _ => .bad
abbrev relU : Rel Unit Unit := fun _ _ _ _ => True
def rMSet (X : Cx) (g : D → D → D → Stor → R Unit) : TSet := fun o i v H Q => ∃ μ st d1 d2 d3, RepS X.K μ H st ∧ RepV X.K μ H d1 o ∧ RepV X.K μ H d2 i ∧ RepV X.K μ H d3 v ∧ Post X μ H relU (fun _ => Q) (g d1 d2 d3 st)
/-- a list of the store is written -/
theorem putLst {st : Stor} {n : Nat} {ds ds' : List D} {p : Addr} {xs ys : List V} (hs : RepS X.K μ H st) (e : st[n]? = some (.lst ds)) (hp : μ[n]? = some p) (hx : H p = some (.lst xs)) (hy : RepVs X.K μ H ds' ys) :
    Grow μ H μ (upd H p (.lst ys)) ∧ RepS X.K μ (upd H p (.lst ys)) (st.set n (.lst ds')) := by
  have g : Ext H (upd H p (.lst ys)) := Ext.mut hx (fun _ z => nomatch z) (fun _ _ z => nomatch z)
  have g' : Grow μ H μ (upd H p (.lst ys)) := ⟨⟨[], by simp⟩, g⟩
  exact ⟨g', hs.put e rfl rfl hp g ⟨ys, upd_same, hy.mono g' _⟩⟩
def subG (g : D → D → D → Stor → R Unit) (o i : ME) : MG := fun d env st => (o env st).bind fun x st1 => (i env st1).bind fun y st2 => (g x y d st2).bind fun _ st3 => .ok env st3
def asgS (m : ME) (g : MG) : MS := fun env st => (m env st).bind fun d st1 => (g d env st1).bind fun env1 st2 => .ok (.nx env1) st2
def setS (i : Nat) (m : ME) : MS := asgS m (nameG i)
/-- name = value -/
theorem js_set (i : Nat) {x : Str} {pos' : Pos} (he : JE X e ma) (hN : X.N.Nodup) (hi : X.N[i]? = some x := by rfl) (hx : Loc X.env.scope x := by first | exact Or.inl rfl | exact Or.inr rfl) (hs : swapsWith e (some (.Name x pos')) pos.line X.env = pure false := by rfl)
    (hf : X.fn x = true ∨ X.env.scope.names.lookup x = some .local := by first | exact .inl rfl | exact .inr rfl | assumption) : JS X (.Assign [.Name x pos'] e pos) (setS i ma) := by
  refine JS.of (ps_set hN hi hx he hs hf) fun E σ H ⟨μ, env, st, hE, hs, hp⟩ => ⟨μ, env, st, hE, hs, hp.val.imp ?_⟩
  rintro x H1 ⟨μ1, st1, d, g1, hs1, hx, hp1⟩
  exact hp1.nx hs1 ((hE.mono g1).set hx)
end
end M
namespace M
open PySem PySem.Spec L2
/-! ### while -/
def whileS (c : MT) (b : MS) : Nat → MS
  | 0, _, _ => .bad
  | n + 1, env, st => (c env st).bind fun x st1 => if x then (b env st1).bind fun o st2 => (match o with
      | .nx env2 => whileS c b n env2 st2
      | .cn env2 => whileS c b n env2 st2
      | .bk env2 => .ok (.nx env2) st2
      | .rt d => .ok (.rt d) st2) else .ok (.nx env) st1
section
variable {X : Cx} {e a b c : Expr} {es : List Expr} {t : TE} {ma mb mc : ME} {mA : MA} {pos p2 : Pos} {s : Stmt} {ss body : List Stmt} {m m1 m2 mb : MS} {μ μ1 : List Addr} {H H1 : Hp} {E E' : Ends} {r : R Out} {tc : MT}
/-- what a loop's body hands on -/
theorem PostS.loop {nxt : MEnv → Stor → R Out} {N : L2.St → Hp → Prop}
    (h : PostS X μ H E (r.bind fun o st2 => (match o with
      | .nx env2 => nxt env2 st2
      | .cn env2 => nxt env2 st2
      | .bk env2 => .ok (.nx env2) st2
      | .rt d => .ok (.rt d) st2)))
    (hN : ∀ env2 st2 σ' H' μ', Grow μ H μ' H' → RepS X.K μ' H' st2 → RepE X.K μ' H' env2 σ' → PostS X μ' H' E (nxt env2 st2) → N σ' H') :
    PostS X μ H { E with nx := N, ct := N, bk := E.nx } r := by
  match r, h with
  | .ok (.nx env1) st1, h => exact fun σ' H' μ' g hs hE => hN env1 st1 σ' H' μ' g hs hE (PostS.mono g h)
  | .ok (.cn env1) st1, h => exact fun σ' H' μ' g hs hE => hN env1 st1 σ' H' μ' g hs hE (PostS.mono g h)
  | .ok (.rt _) _, h => exact h
  | .ok (.bk _) _, h => exact h
  | .err _ _, h => exact h
  | .bad, h => exact h
/-! ### what is walked -/
/-- the items, and the objects of the store that must stay as they are meanwhile -/
abbrev Src := List D × List (Nat × MO)
abbrev MI := MEnv → Stor → R Src
def okG (gs : List (Nat × MO)) (st : Stor) : Prop := ∀ g ∈ gs, st[g.1]? = some g.2
@[simp] theorem okG_nil (st : Stor) : okG [] st := fun _ h => nomatch h
@[simp] theorem okG_cons (g : Nat × MO) (gs : List (Nat × MO)) (st : Stor) : okG (g :: gs) st ↔ st[g.1]? = some g.2 ∧ okG gs st := by simp [okG]
def ItRep (X : Cx) (μ : List Addr) (H : Hp) (J : It) (s : Src) : Prop := ∀ (H' : Hp) (μ' : List Addr) (st' : Stor), Grow μ H μ' H' → RepS X.K μ' H' st' → okG s.2 st' →
  (∀ (i : Nat) (d : D), s.1[i]? = some d → J.go i H' ∧ ∀ x H'', J.yld i H' x H'' → Grow μ' H' μ' H'' ∧ RepS X.K μ' H'' st' ∧ RepV X.K μ' H'' d x) ∧ J.stop s.1.length H'
abbrev relI (X : Cx) : Rel Src It := fun μ H s J => ItRep X μ H J s
def tMI (X : Cx) (m : MI) : TI := fun σ H Q => ∃ μ env st, RepE X.K μ H env σ ∧ RepS X.K μ H st ∧ Post X μ H (relI X) (fun J H' => Q J H') (m env st)
def JI (X : Cx) (tg iter : Expr) (m : MI) : Prop := PI X tg iter (tMI X m)
theorem JI.of {tg iter : Expr} {wi : TI} {m : MI} (h : PI X tg iter wi) (k : ∀ σ H Q, tMI X m σ H Q → wi σ H Q) : JI X tg iter m := fun pins s σ H R I q => h pins s σ H R I (k σ H R q)
open Classical in
noncomputable def forGo (g : MG) (b : MS) (gs : List (Nat × MO)) : List D → MS
  | [], env, st => if okG gs st then .ok (.nx env) st else .bad
  | d :: r, env, st => if okG gs st then (g d env st).bind fun env1 st1 => (b env1 st1).bind fun o st2 => (match o with
      | .nx env2 => forGo g b gs r env2 st2
      | .cn env2 => forGo g b gs r env2 st2
      | .bk env2 => .ok (.nx env2) st2
      | .rt d => .ok (.rt d) st2) else .bad
noncomputable def forS (mi : MI) (g : MG) (b : MS) : MS := fun env st => (mi env st).bind fun s st1 => forGo g b s.2 s.1 env st1
theorem js_for {tg iter : Expr} {mi : MI} {g : MG} (hi : JI X tg iter mi) (hg : JG X tg g) (hb : JSs X body mb) (hp : PassesOwn (model X.prog X.w) X.A X.env X.xe) (hc : X.calm = true)
    (hs : ∀ x, foldedSetIterable iter X.env x = pure x := by intro _; rfl) : JS X (.For tg iter body [] pos) (forS mi g mb) := by
  refine JS.of (ps_for hp hc hi hg hb hs) fun E σ H ⟨μ, env, st, hE, hs, hp⟩ => ⟨μ, env, st, hE, hs, (PostS.val hp).imp ?_⟩
  rintro J H1 ⟨μ1, st1, s, g1, hs1, hJ, hp1⟩
  refine ⟨fun i k σ H => ∃ μ2 env2 st2, Grow μ1 H1 μ2 H ∧ RepE X.K μ2 H env2 σ ∧ RepS X.K μ2 H st2 ∧ PostS X μ2 H E (forGo g mb s.2 (s.1.drop i) env2 st2) ∧ i ≤ s.1.length ∧ k = s.1.length - i,
    ⟨_, μ1, env, st1, .refl _ _, hE.mono g1, hs1, by simpa using hp1, Nat.zero_le _, rfl⟩, ?_⟩
  rintro i k σ2 H2 ⟨μ2, env2, st2, g2, hE2, hs2, hp2, hi, rfl⟩
  by_cases hlt : i < s.1.length
  · have e1 : s.1.drop i = s.1[i] :: s.1.drop (i + 1) := List.drop_eq_getElem_cons hlt
    rw [e1, forGo] at hp2
    by_cases ok : okG s.2 st2
    · rw [if_pos ok] at hp2
      obtain ⟨q1, q2⟩ := (hJ H2 μ2 st2 g2 hs2 ok).1 i s.1[i] (List.getElem?_eq_getElem hlt)
      refine .inr ⟨q1, fun σ' H' => ∃ μ3 env3 st3, Grow μ1 H1 μ3 H' ∧ RepE X.K μ3 H' env3 σ' ∧ RepS X.K μ3 H' st3 ∧ PostS X μ3 H' E (forGo g mb s.2 (s.1.drop (i + 1)) env3 st3), ?_, ?_⟩
      · rintro σ' H' ⟨μ3, env3, st3, g3, hE3, hs3, hp3⟩
        exact ⟨s.1.length - (i + 1), by omega, μ3, env3, st3, g3, hE3, hs3, hp3, by omega, rfl⟩
      · intro x H3 hx
        obtain ⟨g3, hs3, hd⟩ := q2 x H3 hx
        refine ⟨μ2, env2, st2, s.1[i], hE2.mono g3, hs3, hd, (PostS.val (PostS.mono g3 hp2)).imp ?_⟩
        rintro σ4 H4 ⟨μ4, st4, env4, g4, hs4, hE4, hp4⟩
        refine ⟨μ4, env4, st4, hE4, hs4, ?_⟩
        exact PostS.loop (nxt := forGo g mb s.2 (s.1.drop (i + 1))) hp4 fun env5 st5 σ' H' μ' g5 hs5 hE5 q => ⟨μ', env5, st5, ((g2.trans g3).trans g4).trans g5, hE5, hs5, q⟩
    · rw [if_neg ok] at hp2; exact hp2.elim
  · have e1 : s.1.drop i = [] := List.drop_eq_nil_of_le (by omega)
    rw [e1, forGo] at hp2
    have e2 : i = s.1.length := by omega
    by_cases ok : okG s.2 st2
    · rw [if_pos ok] at hp2
      refine .inl ⟨by rw [e2]; exact (hJ H2 μ2 st2 g2 hs2 ok).2, hp2.nx hs2 hE2⟩
    · rw [if_neg ok] at hp2; exact hp2.elim
/-! ### lists, tuples, ranges walked -/
def seqI (m : ME) : MI := fun env st => (m env st).bind fun d st1 => match d with
  | .loc n => (match st1[n]? with
    | some (.lst ds) => .ok (ds, [(n, .lst ds)]) st1
    | some (.frz ds) => .ok (ds, [(n, .frz ds)]) st1
    | _ => .bad)
  | .tup ds => .ok (ds, []) st1
  | _ => .bad
theorem PI.or {tg l : Expr} {w1 w2 : TI} (h1 : PI X tg l w1) (h2 : PI X tg l w2) : PI X tg l (fun σ H R => w1 σ H R ∨ w2 σ H R) := fun pins s σ H R I h => h.elim (h1 pins s σ H R I) (h2 pins s σ H R I)
theorem itl_rep {n : Nat} {ds : List D} {p : Addr} {o : MO} {st : Stor} (ho : o = .lst ds ∨ o = .frz ds) (hp : μ[n]? = some p) : ItRep X μ H (Itl X.K p) (ds, [(n, o)]) := by
  intro H' μ' st' g hs ok
  have e : st'[n]? = some o := (ok (n, o) (by simp))
  have e2 : itemsAt st' n = some ds := by
    unfold itemsAt
    rcases ho with rfl | rfl <;> rw [e]
  obtain ⟨p', xs, q1, q2, q3⟩ := hs.items e2
  rw [g.get hp] at q1; cases q1
  refine ⟨fun i d hd => ?_, xs, q2, Nat.le_of_eq q3.length.symm⟩
  obtain ⟨v, h1, h2⟩ := q3.get hd
  refine ⟨⟨xs, v, q2, h1⟩, ?_⟩
  rintro x H'' ⟨rfl, hx⟩
  have := hx xs q2
  rw [h1] at this; cases this
  exact ⟨.refl _ _, hs, h2⟩
theorem itt_rep {ds : List D} {p : Addr} {xs : List V} (hq : SqT X.K H p xs) (hd : RepVs X.K μ H ds xs) : ItRep X μ H (Itt X.K p) (ds, []) := by
  intro H' μ' st' g hs ok
  have hq' := g.ext.sqT hq
  have hd' := hd.mono g ds
  refine ⟨fun i d e => ?_, xs, hq', Nat.le_of_eq hd.length.symm⟩
  obtain ⟨v, h1, h2⟩ := hd'.get e
  refine ⟨⟨xs, v, hq', h1⟩, ?_⟩
  rintro x H'' ⟨rfl, hx⟩
  have := hx xs hq'
  rw [h1] at this; cases this
  exact ⟨.refl _ _, hs, h2⟩
theorem ji_seq {tg l : Expr} (h : JE X l ma) : JI X tg l (seqI ma) := by
  refine JI.of (PI.or (pi_list h) (pi_tup h)) fun σ H R hh => ?_
  -- which of the two is decided by the value
  obtain ⟨μ, env, st, hE, hs, hp⟩ := hh
  unfold seqI at hp
  cases hr : ma env st with
  | bad => rw [hr] at hp; exact hp.elim
  | err x st1 =>
    rw [hr] at hp
    refine .inl ⟨μ, env, st, hE, hs, ?_⟩
    rw [hr]; exact hp
  | ok d st1 =>
    rw [hr, M.R.bind_ok] at hp
    cases d with
    | loc n =>
      simp only at hp
      refine .inl ⟨μ, env, st, hE, hs, ?_⟩
      rw [hr]
      intro v H1 μ1 g1 hs1 hv
      obtain ⟨p, q1, rfl⟩ := RepV.loc_iff.mp hv
      cases e : st1[n]? with
      | none => rw [e] at hp; exact hp.elim
      | some mo =>
        cases mo with
        | lst ds =>
          rw [e] at hp
          obtain ⟨p', xs, r1, r2, r3⟩ := hs1.lst e
          rw [q1] at r1; cases r1
          exact ⟨p, rfl, ⟨xs, SqL.of r2⟩, hp _ _ _ g1 hs1 (itl_rep (st := st1) (.inl rfl) q1)⟩
        | frz ds =>
          rw [e] at hp
          obtain ⟨p', r1, xs, r2, r3⟩ := hs1.at_ n _ e
          rw [q1] at r1; cases r1
          exact ⟨p, rfl, ⟨xs, r2.sqL⟩, hp _ _ _ g1 hs1 (itl_rep (st := st1) (.inr rfl) q1)⟩
        | _ => rw [e] at hp; exact hp.elim
    | tup ds =>
      refine .inr ⟨μ, env, st, hE, hs, ?_⟩
      rw [hr]
      intro v H1 μ1 g1 hs1 hv
      obtain ⟨p, xs, rfl, q1, q2⟩ := RepV.tup_iff.mp hv
      exact ⟨p, rfl, ⟨xs, q1.sqT⟩, hp _ _ _ g1 hs1 (itt_rep q1.sqT q2)⟩
    | _ => exact hp.elim
/-- lo, lo + 1, .. (n of them) -/
def upto (lo : Int) (n : Nat) : List D := (List.range n).map fun (k : Nat) => .int (lo + k)
def range1I (mA : MA) : MI := fun env st => (mA env st).bind fun ds st1 => match ds with
  | [.int j] => if -(2 ^ 62) ≤ j ∧ j < 2 ^ 62 then .ok (upto 0 j.toNat, []) st1 else .bad
  | _ => .bad
def range2I (mA : MA) : MI := fun env st => (mA env st).bind fun ds st1 => match ds with
  | [.int i, .int j] => if -(2 ^ 62) ≤ i ∧ i < 2 ^ 62 ∧ -(2 ^ 62) ≤ j ∧ j < 2 ^ 62 then .ok (upto i (j - i).toNat, []) st1 else .bad
  | _ => .bad
theorem RepVs.one {K : PySem.W.Frag} {μ : List Addr} {H : Hp} {d : D} {vs : List V} (h : RepVs K μ H [d] vs) : ∃ v, vs = [v] ∧ RepV K μ H d v := by
  rw [RepVs] at h
  obtain ⟨v, r, rfl, q1, q2⟩ := h
  rw [RepVs] at q2; subst q2
  exact ⟨v, rfl, q1⟩
end
/-! ### defs -/
abbrev FD := List D → Stor → R D
def PostF (K : PySem.W.Frag) (μ : List Addr) (H : Hp) (Q : VK) (r : R D) : Prop := match r with
  | .ok d st => ∀ (v : V) (H' : Hp) (μ' : List Addr), Grow μ H μ' H' → RepS K μ' H' st → RepV K μ' H' d v → Q v H'
  | _ => False
/-- what a def promises -/
def spM (K : PySem.W.Frag) (n : Nat) (fd : FD) : Sp := fun vs H Q _ => vs.length = n ∧ ∃ μ ds st, RepVs K μ H ds vs ∧ RepS K μ H st ∧ PostF K μ H Q (fd ds st)
def startM (n : Nat) (ds : List D) : MEnv := ds.map some ++ List.replicate (n - ds.length) none
/-- a def's body run: n names -/
def fnM (n : Nat) (m : MS) : FD := fun ds st => (m (startM n ds) st).bind fun o st1 => match o with
  | .rt d => .ok d st1
  | .nx _ => .ok .non st1
  | _ => .bad
theorem RepVs.start {K : PySem.W.Frag} {μ : List Addr} {H : Hp} {ds : List D} {vs : List V} (N : List Str) (h : RepVs K μ H ds vs) : RepE K μ H (startM N.length ds) (L2.start N vs) := by
  unfold startM L2.start
  refine ⟨by simp [h.length], fun i d e => ?_⟩
  rw [← h.length]
  by_cases hi : i < ds.length
  · rw [List.getElem?_append_left (by simpa using hi)] at e
    rw [List.getElem?_append_left (by rw [List.length_map, ← h.length]; exact hi)]
    rw [List.getElem?_map] at e ⊢
    cases q : ds[i]? with
    | none => rw [q] at e; cases e
    | some d' =>
      rw [q] at e; cases e
      obtain ⟨v, q1, q2⟩ := h.get q
      exact ⟨v, by rw [q1]; rfl, q2⟩
  · rw [List.getElem?_append_right (by simpa using hi)] at e
    rw [List.getElem?_replicate] at e
    split at e <;> cases e
section
variable {P : Program} {w : World} {K : PySem.W.Frag} {mg : Str → Option Value} {base : Heap}
/-- THE RULE for a def without exceptions: its body's denotation -/
theorem fn_ok {x qual : Str} {st : Stmt} {f : Addr} {fd : FuncData} {N ps : List Str} {k : Nat} {m : MS} (F : Fun K x qual st f fd) (S : FnScope N ps (defScope st))
    (hbody : ∀ (cdv : Value) (A : Around) (outer : List Env) (s : Shared) (H : Hp), Room k (A.deeper (PyProof.Rows.envOfC qual (defScope st) s.heap.objs.size f cdv)) →
      JSs (cxOf CX0 P w K mg base N qual (defScope st) f cdv A outer s H E0).nox (defBody st) m) : FnOk P w K mg base CX0 (k + 1) f fd ps (spM K ps.length (fnM N.length m)) := by
  refine F.ok S (fun vs H Q E h => h.1) (fun cdv A outer s H vs Q E hr h => ?_)
  obtain ⟨hl, μ, ds, sto, hv, hs, hp⟩ := h
  refine ⟨_, hbody cdv A outer s H hr, μ, startM N.length ds, sto, RepVs.start N hv, hs, ?_⟩
  unfold fnM at hp
  cases hr : m (startM N.length ds) sto with
  | bad => rw [hr] at hp; exact hp.elim
  | err x st1 => rw [hr] at hp; exact hp.elim
  | ok o st1 =>
    rw [hr] at hp
    cases o with
    | rt d => exact hp
    | nx env => exact fun σ' H' μ' g hs' _ => hp .non H' μ' g hs' (RepV.non_iff.mpr rfl)
    | bk env => exact hp.elim
    | cn env => exact hp.elim
end
section
variable {X : Cx} {e : Expr} {es : List Expr} {mA : MA} {pos p : Pos} {x : Str} {k : Nat} {f : Addr} {fd : FuncData} {ps : List Str} {F : FD} {dvs : List V} {ds : List Value} {dd : List D}
/-- f(e, ..): the written arguments, then the defaults -/
def R.sure {α : Type} (r : R α) : R α := match r with
  | .ok a st => .ok a st
  | _ => .bad
@[simp] theorem R.sure_ok {α : Type} (a : α) (st : Stor) : (R.ok a st).sure = .ok a st := by_rfl rfl
def callF (F : FD) (dd : List D) (mA : MA) : ME := fun env st => (mA env st).bind fun as st1 => (F (as ++ dd) st1).sure
theorem je_call (G : FnOk X.prog X.w X.K X.mg X.base CX0 k f fd ps (spM X.K ps.length F)) (hr : Room k X.A) (hm : X.mg x = some (.ref f)) (hk : PySem.W.keepIn X.K (.ref f) = true) (hb : Binds X.K fd ps ds) (hd : Vals dvs ds)
    (hdd : ∀ μ H, RepVs X.K μ H dd dvs) (ha : JA X (e :: es) mA) (hlen : (e :: es).length + dvs.length = ps.length := by rfl) (hg : Gl X x := by rfl) (hdb : (x == ("__debug__" : Str)) = false := by decide) (he : starEach (e :: es) X.env = (false, eval e X.env) :: starEach es X.env := by rfl) (hpl : (backTo pos (starEach es X.env)).any (·.1) = false := by rfl)
    (hA : ∀ env st as st1, mA env st = .ok as st1 → as.length = (e :: es).length := by intros; rfl) :
    JE X (.Call (.Name x p) (e :: es) [] pos) (callF F dd mA) := by
  refine JE.of (pe_call G hr hg hm hk hb hd pass0 ha hdb he hpl) fun σ H Q ⟨μ, env, st, hE, hs, hp⟩ => ⟨μ, env, st, hE, hs, ?_⟩
  cases hr : mA env st with
  | bad => unfold callF at hp; rw [hr] at hp; exact hp
  | err y st1 => unfold callF at hp; rw [hr] at hp; exact hp
  | ok as st1 =>
    unfold callF at hp
    rw [hr] at hp
    intro vs H1 μ1 g1 hs1 hv
    have hv' : RepVs X.K μ1 H1 (as ++ dd) (vs ++ dvs) := hv.append (hdd μ1 H1)
    refine ⟨?_, μ1, as ++ dd, st1, hv', hs1, ?_⟩
    · rw [List.length_append, ← hv.length, hA env st as st1 hr]; exact hlen
    · have hp2 := Post.mono g1 (show Post X μ H (relV X) Q (F (as ++ dd) st1).sure from hp)
      cases hF : F (as ++ dd) st1 with
      | ok d st2 => rw [hF] at hp2; exact hp2
      | err y st2 => rw [hF] at hp2; exact hp2.elim
      | bad => rw [hF] at hp2; exact hp2.elim
end
end M
namespace M
open PySem PySem.Spec L2
/-! ### what a call leaves behind: garbage is forgotten -/
mutual
def under (n : Nat) : D → Prop
  | .loc k => k < n
  | .tup ds => unders n ds
  | _ => True
def unders (n : Nat) : List D → Prop
  | [] => True
  | d :: ds => under n d ∧ unders n ds
end
@[simp] theorem under_non (n : Nat) : under n .non = True := by simp [under]
@[simp] theorem under_bl (n : Nat) (b : Bool) : under n (.bl b) = True := by simp [under]
@[simp] theorem under_int (n : Nat) (i : Int) : under n (.int i) = True := by simp [under]
@[simp] theorem under_str (n : Nat) (c : List Nat) : under n (.str c) = True := by simp [under]
@[simp] theorem under_tup (n : Nat) (ds : List D) : under n (.tup ds) = unders n ds := by simp [under]
@[simp] theorem under_loc (n k : Nat) : under n (.loc k) = (k < n) := by simp [under]
@[simp] theorem unders_nil (n : Nat) : unders n [] = True := by simp [unders]
@[simp] theorem unders_cons (n : Nat) (d : D) (ds : List D) : unders n (d :: ds) = (under n d ∧ unders n ds) := by simp [unders]
def underO (n : Nat) : MO → Prop
  | .lst ds => unders n ds
  | .frz ds => unders n ds
  | .dic kvs => ∀ p ∈ kvs, under n p.2
  | .dkc kvs => ∀ p ∈ kvs, under n p.2
  | .dkf kvs => ∀ p ∈ kvs, under n p.2
  | .ins _ fs => ∀ p ∈ fs, under n p.2
  | .tab _ => True
  | .clo _ _ ds => unders n ds
  | .hid => True
mutual
theorem RepV.under {K : PySem.W.Frag} {μ : List Addr} {H : Hp} : ∀ (d : D) {v : V}, RepV K μ H d v → M.under μ.length d
  | .non, _, _ => by simp
  | .bl _, _, _ => by simp
  | .int _, _, _ => by simp
  | .str _, _, _ => by simp
  | .tup ds, _, h => by
    obtain ⟨a, xs, _, _, h2⟩ := RepV.tup_iff.mp h
    rw [under_tup]; exact RepVs.unders ds h2
  | .loc n, _, h => by
    obtain ⟨a, h1, _⟩ := RepV.loc_iff.mp h
    rw [under_loc]; exact (List.getElem?_eq_some_iff.mp h1).1
theorem RepVs.unders {K : PySem.W.Frag} {μ : List Addr} {H : Hp} : ∀ (ds : List D) {vs : List V}, RepVs K μ H ds vs → M.unders μ.length ds
  | [], _, _ => by simp
  | d :: ds, _, h => by
    rw [RepVs] at h
    obtain ⟨v, r, _, h1, h2⟩ := h
    rw [unders_cons]; exact ⟨RepV.under d h1, RepVs.unders ds h2⟩
end
mutual
theorem RepV.down {K : PySem.W.Frag} {μ ν : List Addr} {H : Hp} : ∀ (d : D) {v : V}, RepV K (μ ++ ν) H d v → M.under μ.length d → RepV K μ H d v
  | .non, _, h, _ => by simpa [RepV] using h
  | .bl _, _, h, _ => by simpa [RepV] using h
  | .int _, _, h, _ => by simpa [RepV] using h
  | .str _, _, h, _ => by simpa [RepV] using h
  | .tup ds, _, h, u => by
    obtain ⟨a, xs, e, h1, h2⟩ := RepV.tup_iff.mp h
    rw [under_tup] at u
    exact RepV.tup_iff.mpr ⟨a, xs, e, h1, RepVs.down ds h2 u⟩
  | .loc n, _, h, u => by
    obtain ⟨a, h1, e⟩ := RepV.loc_iff.mp h
    rw [under_loc] at u
    rw [List.getElem?_append_left u] at h1
    exact RepV.loc_iff.mpr ⟨a, h1, e⟩
theorem RepVs.down {K : PySem.W.Frag} {μ ν : List Addr} {H : Hp} : ∀ (ds : List D) {vs : List V}, RepVs K (μ ++ ν) H ds vs → M.unders μ.length ds → RepVs K μ H ds vs
  | [], _, h, _ => by simpa [RepVs] using h
  | d :: ds, _, h, u => by
    rw [RepVs] at h ⊢
    obtain ⟨v, r, e, h1, h2⟩ := h
    rw [unders_cons] at u
    exact ⟨v, r, e, RepV.down d h1 u.1, RepVs.down ds h2 u.2⟩
end
theorem RepKV.under {κ : Type} {K : PySem.W.Frag} {μ : List Addr} {H : Hp} : ∀ {ds : List (κ × D)} {vs : List (κ × V)}, RepKV K μ H ds vs → ∀ p ∈ ds, M.under μ.length p.2
  | [], _, _, _, hp => nomatch hp
  | (k, d) :: ds, _, ⟨v, r, e, h1, h2⟩, p, hp => by
    rcases List.mem_cons.mp hp with rfl | hp
    · exact RepV.under d h1
    · exact RepKV.under h2 p hp
theorem RepKV.down {κ : Type} {K : PySem.W.Frag} {μ ν : List Addr} {H : Hp} : ∀ {ds : List (κ × D)} {vs : List (κ × V)}, RepKV K (μ ++ ν) H ds vs → (∀ p ∈ ds, M.under μ.length p.2) → RepKV K μ H ds vs
  | [], _, h, _ => h
  | (k, d) :: ds, _, ⟨v, r, e, h1, h2⟩, u => ⟨v, r, e, RepV.down d h1 (u (k, d) (by simp)), RepKV.down h2 fun p hp => u p (List.mem_cons_of_mem _ hp)⟩
theorem RepO.under {K : PySem.W.Frag} {μ : List Addr} {H : Hp} {a : Addr} {o : MO} (h : RepO K μ H a o) : underO μ.length o := by
  cases o with
  | lst ds => obtain ⟨xs, _, h2⟩ := h; exact RepVs.unders ds h2
  | frz ds => obtain ⟨xs, _, h2⟩ := h; exact RepVs.unders ds h2
  | dic ds => obtain ⟨xs, _, h2⟩ := h; exact h2.under
  | dkc ds => obtain ⟨xs, _, h2⟩ := h; exact h2.under
  | dkf ds => obtain ⟨xs, _, _, h2⟩ := h; exact h2.under
  | ins c ds => obtain ⟨_, _, xs, _, _, h2⟩ := h; exact h2.under
  | tab x => trivial
  | clo j l ds => obtain ⟨_, _, _, _, xs, _, _, _, _, _, h2⟩ := h; exact RepVs.unders ds h2
  | hid => trivial
theorem RepO.down {K : PySem.W.Frag} {μ ν : List Addr} {H : Hp} {a : Addr} {o : MO} (h : RepO K (μ ++ ν) H a o) (u : underO μ.length o) : RepO K μ H a o := by
  cases o with
  | lst ds => obtain ⟨xs, h1, h2⟩ := h; exact ⟨xs, h1, RepVs.down ds h2 u⟩
  | frz ds => obtain ⟨xs, h1, h2⟩ := h; exact ⟨xs, h1, RepVs.down ds h2 u⟩
  | dic ds => obtain ⟨xs, h1, h2⟩ := h; exact ⟨xs, h1, h2.down u⟩
  | dkc ds => obtain ⟨xs, h1, h2⟩ := h; exact ⟨xs, h1, h2.down u⟩
  | dkf ds => obtain ⟨xs, o, h1, h2⟩ := h; exact ⟨xs, o, h1, h2.down u⟩
  | ins c ds => obtain ⟨C, dx, xs, h0, h1, h2⟩ := h; exact ⟨C, dx, xs, h0, h1, h2.down u⟩
  | tab x => exact h
  | clo j l ds => obtain ⟨cl, pm, c', ctv, vs, h1, h2, h3, h4, h5, h6⟩ := h; exact ⟨cl, pm, c', ctv, vs, h1, h2, h3, h4, h5, RepVs.down ds h6 u⟩
  | hid => trivial
theorem RepO.up {K : PySem.W.Frag} {μ : List Addr} {H : Hp} {a : Addr} {o : MO} (ν : List Addr) (h : RepO K μ H a o) : RepO K (μ ++ ν) H a o := h.keep ⟨⟨ν, rfl⟩, .refl H⟩ fun _ _ q => q
theorem take_get {α : Type} {l l' : List α} (h : l'.take l.length = l) {n : Nat} {o : α} (e : l[n]? = some o) : l'[n]? = some o := by
  have hl := (List.getElem?_eq_some_iff.mp e).1
  rw [← h, List.getElem?_take] at e
  rw [if_pos hl] at e; exact e
/-- the old part of the store again -/
theorem RepS.back {K : PySem.W.Frag} {μ ν : List Addr} {H H' : Hp} {st st' : Stor} (h0 : RepS K μ H st) (h : RepS K (μ ++ ν) H' st') (ht : st'.take st.length = st) : RepS K μ H' st := by
  refine ⟨h0.len, fun n o e => ?_, fun i j a oi oj ei ej mi mj hi hj => ?_⟩
  · obtain ⟨a, h1, h2⟩ := h.at_ n o (take_get ht e)
    obtain ⟨a0, h3, h4⟩ := h0.at_ n o e
    have hn : n < μ.length := by rw [h0.len]; exact (List.getElem?_eq_some_iff.mp e).1
    rw [List.getElem?_append_left hn] at h1
    exact ⟨a, h1, h2.down h4.under⟩
  · have up : ∀ k, μ[k]? = some a → (μ ++ ν)[k]? = some a := fun k hk => by rw [List.getElem?_append_left (List.getElem?_eq_some_iff.mp hk).1]; exact hk
    exact h.uniq i j a oi oj (take_get ht ei) (take_get ht ej) mi mj (up i hi) (up j hj)
theorem RepS.back1 {K : PySem.W.Frag} {μ ν : List Addr} {H H' : Hp} {st st' : Stor} {k : Nat} {o : MO} {a : Addr} (h0 : RepS K μ H st) (h : RepS K (μ ++ ν) H' st') (ht : st'.take st.length = st) (hk : st.length ≤ k) (e : st'[k]? = some o) (u : underO st.length o) (ha : (μ ++ ν)[k]? = some a) :
    RepS K (μ ++ [a]) H' (st ++ [o]) := by
  have hb := h0.back h ht
  obtain ⟨a', q1, q2⟩ := h.at_ k o e
  rw [ha] at q1; cases q1
  have key : ∀ (n : Nat) (on : MO) (c : Addr), (st ++ [o])[n]? = some on → (μ ++ [a])[n]? = some c → (n < st.length ∧ st[n]? = some on ∧ μ[n]? = some c) ∨ (n = st.length ∧ on = o ∧ c = a) := fun n on c e1 e2 => by
    by_cases hn : n < st.length
    · rw [List.getElem?_append_left hn] at e1
      rw [List.getElem?_append_left (by rw [h0.len]; exact hn)] at e2
      exact .inl ⟨hn, e1, e2⟩
    · have hl := (List.getElem?_eq_some_iff.mp e1).1
      rw [List.length_append, List.length_singleton] at hl
      have en : n = st.length := by omega
      subst en
      rw [List.getElem?_append_right (Nat.le_refl _)] at e1
      rw [← h0.len, List.getElem?_append_right (Nat.le_refl _)] at e2
      simp at e1 e2
      exact .inr ⟨rfl, e1.symm, e2.symm⟩
  refine ⟨by simp [h0.len], fun n on e1 => ?_, fun i j c oi oj ei ej mi mj hi hj => ?_⟩
  · have hn : n < (μ ++ [a]).length := by
      have := (List.getElem?_eq_some_iff.mp e1).1
      simpa [h0.len] using this
    obtain ⟨c, hc⟩ : ∃ c, (μ ++ [a])[n]? = some c := ⟨_, List.getElem?_eq_getElem hn⟩
    rcases key n on c e1 hc with ⟨h1, h2, h3⟩ | ⟨h1, rfl, rfl⟩
    · obtain ⟨c', h4, h5⟩ := hb.at_ n on h2
      rw [h3] at h4; cases h4
      exact ⟨c, hc, h5.up _⟩
    · exact ⟨c, hc, (q2.down (by rw [h0.len]; exact u)).up _⟩
  · have up : ∀ k, μ[k]? = some c → (μ ++ ν)[k]? = some c := fun k hk => by rw [List.getElem?_append_left (List.getElem?_eq_some_iff.mp hk).1]; exact hk
    rcases key i oi c ei hi with ⟨h1, h2, h3⟩ | ⟨h1, rfl, rfl⟩
    · rcases key j oj c ej hj with ⟨g1, g2, g3⟩ | ⟨g1, rfl, rfl⟩
      · exact hb.uniq i j c oi oj h2 g2 mi mj h3 g3
      · have := h.uniq i k c oi oj (take_get ht h2) e mi mj (up i h3) ha
        omega
    · rcases key j oj c ej hj with ⟨g1, g2, g3⟩ | ⟨g1, _, _⟩
      · have := h.uniq j k c oj oi (take_get ht g2) e mj mi (up j g3) ha
        omega
      · rw [h1, g1]
open Classical in
/-- a result without what was made on the way: plain data, or one new object at the store's end -/
noncomputable def gc (st : Stor) (r : R D) : R D := match r with
  | .ok d st' => if st'.take st.length = st ∧ under st.length d then .ok d st else (match d with
    | .loc k => (match st'[k]? with
      | some o => if st'.take st.length = st ∧ st.length ≤ k ∧ underO st.length o then .ok (.loc st.length) (st ++ [o]) else .ok d st'
      | none => .ok d st')
    | d => .ok d st')
  | r => r
noncomputable def gcF (F : FD) : FD := fun ds st => gc st (F ds st)
theorem gc_post {K : PySem.W.Frag} {μ : List Addr} {H : Hp} {Q : VK} {st : Stor} {r : R D} (hs : RepS K μ H st) (h : PostF K μ H Q (gc st r)) : PostF K μ H Q r := by
  cases r with
  | bad => exact h
  | err x st' => exact h
  | ok d st' =>
    unfold gc at h
    dsimp only at h
    by_cases c1 : st'.take st.length = st ∧ under st.length d
    · rw [if_pos c1] at h
      intro v H' μ' g hs' hv
      obtain ⟨ν, rfl⟩ := g.pre
      exact h v H' μ ⟨⟨[], by simp⟩, g.ext⟩ (hs.back hs' c1.1) (RepV.down d hv (by rw [hs.len]; exact c1.2))
    · rw [if_neg c1] at h
      cases d with
      | loc k =>
        dsimp only at h
        cases e : st'[k]? with
        | none => rw [e] at h; exact h
        | some o =>
          rw [e] at h
          dsimp only at h
          by_cases c2 : st'.take st.length = st ∧ st.length ≤ k ∧ underO st.length o
          · rw [if_pos c2] at h
            intro v H' μ' g hs' hv
            obtain ⟨ν, rfl⟩ := g.pre
            obtain ⟨a, h1, rfl⟩ := RepV.loc_iff.mp hv
            refine h _ H' (μ ++ [a]) ⟨⟨[a], rfl⟩, g.ext⟩ (hs.back1 hs' c2.1 c2.2.1 e c2.2.2 h1) (RepV.loc_iff.mpr ⟨a, ?_, rfl⟩)
            rw [← hs.len]; simp
          · rw [if_neg c2] at h; exact h
      | _ => exact h
theorem sp_gc {K : PySem.W.Frag} {n : Nat} {F : FD} {vs : List V} {H : Hp} {Q : VK} {E : XK} (h : spM K n (gcF F) vs H Q E) : spM K n F vs H Q E := by
  obtain ⟨hl, μ, ds, st, h1, h2, h3⟩ := h
  exact ⟨hl, μ, ds, st, h1, h2, gc_post h2 h3⟩
/-- .. as the simplifier wants it -/
theorem gc_flat {st : Stor} {g : List MO} {d : D} (h : under st.length d) : gc st (.ok d (st ++ g)) = .ok d st := by
  unfold gc
  dsimp only
  rw [if_pos ⟨by simp, h⟩]
theorem gc_new {st : Stor} {g g' : List MO} {o : MO} (h : underO st.length o) : gc st (.ok (.loc (st.length + g.length)) (st ++ g ++ o :: g')) = .ok (.loc st.length) (st ++ [o]) := by
  unfold gc
  dsimp only
  rw [if_neg (by simp)]
  have e : (st ++ g ++ o :: g')[st.length + g.length]? = some o := by
    rw [List.getElem?_append_right (by simp)]; simp
  rw [e]
  dsimp only
  rw [if_pos ⟨by simp, by omega, h⟩]
end M
namespace M
open PySem PySem.Spec L2
section
variable {X : Cx} {e a b c : Expr} {es : List Expr} {ma mb mc : ME} {mA : MA} {pos p2 p : Pos}
/-! ### len, int, list, tuple, min, max -/
def lenV : List D → Stor → R D
  | [.str cs], st => if cs.length ≤ 1000000 then .ok (.int cs.length) st else .bad
  | [.tup ds], st => .ok (.int ds.length) st
  | [.loc n], st => match itemsAt st n with | some ds => .ok (.int ds.length) st | none => .bad
  | _, _ => .bad
theorem call_lenV : CallR X (.builtin "len") (rMC X lenV) := by
  refine CallR.weak (CallR.or call_len_str call_len_seq) ?_
  rintro xs H Q ⟨μ, st, ds, hs, hv, hp⟩
  unfold lenV at hp
  split at hp
  · rename_i cs
    split at hp
    · rename_i hl
      obtain ⟨v, rfl, q⟩ := RepVs.one hv
      rw [RepV.str_iff] at q; subst q
      exact .inl ⟨_, rfl, by rw [strOf_len]; exact lim_ok hl, by rw [strOf_len]; exact hp.ret hs (RepV.int_iff.mpr rfl)⟩
    · exact hp.elim
  · obtain ⟨v, rfl, q⟩ := RepVs.one hv
    obtain ⟨p, ys, rfl, q1, q2⟩ := RepV.tup_iff.mp q
    exact .inr ⟨p, ys, rfl, .inr q1.sqT, by rw [← q2.length]; exact hp.ret hs (RepV.int_iff.mpr rfl)⟩
  · rename_i n
    cases e : itemsAt st n with
    | none => rw [e] at hp; exact hp.elim
    | some ds =>
      rw [e] at hp
      obtain ⟨v, rfl, q⟩ := RepVs.one hv
      obtain ⟨p, q1, rfl⟩ := RepV.loc_iff.mp q
      obtain ⟨p', ys, r1, r2, r3⟩ := hs.items e
      rw [q1] at r1; cases r1
      exact .inr ⟨p, ys, rfl, .inl r2, by rw [← r3.length]; exact hp.ret hs (RepV.int_iff.mpr rfl)⟩
  · exact hp.elim
def intC : List D → Stor → R D
  | [.int i], st => .ok (.int i) st
  | [.bl k], st => .ok (.int (if k then 1 else 0)) st
  | _, _ => .bad
theorem call_intC : CallR X (.type "int") (rMC X intC) := by
  refine CallR.weak call_int1 ?_
  rintro xs H Q ⟨μ, st, ds, hs, hv, hp⟩
  unfold intC at hp
  split at hp
  · obtain ⟨v, rfl, q⟩ := RepVs.one hv
    rw [RepV.int_iff] at q; subst q
    exact .inl ⟨_, rfl, hp.ret hs (RepV.int_iff.mpr rfl)⟩
  · obtain ⟨v, rfl, q⟩ := RepVs.one hv
    rw [RepV.bl_iff] at q; subst q
    exact .inr ⟨_, rfl, hp.ret hs (RepV.int_iff.mpr rfl)⟩
  · exact hp.elim
def min2V : List D → Stor → R D
  | [.int i, .int j], st => .ok (.int (if j < i then j else i)) st
  | _, _ => .bad
def max2V : List D → Stor → R D
  | [.int i, .int j], st => .ok (.int (if j > i then j else i)) st
  | _, _ => .bad
/-- list(x), tuple(x) of a list or a tuple -/
def listC : List D → Stor → R D
  | [.tup ds], st => .ok (.loc st.length) (st ++ [.lst ds])
  | [.loc n], st => match itemsAt st n with | some ds => .ok (.loc st.length) (st ++ [.lst ds]) | none => .bad
  | _, _ => .bad
def tupleC : List D → Stor → R D
  | [.tup ds], st => .ok (.tup ds) st
  | [.loc n], st => match itemsAt st n with | some ds => .ok (.tup ds) st | none => .bad
  | _, _ => .bad
theorem call_tupleC : CallR X (.type "tuple") (rMC X tupleC) := by
  refine CallR.weak call_tuple_of ?_
  rintro xs H Q ⟨μ, st, ds, hs, hv, hp⟩
  unfold tupleC at hp
  split at hp
  · obtain ⟨v, rfl, q⟩ := RepVs.one hv
    obtain ⟨p, ys, rfl, q1, q2⟩ := RepV.tup_iff.mp q
    exact ⟨p, ys, rfl, .inr ⟨q1.sqT, hp.ret hs q⟩⟩
  · rename_i n
    cases e : itemsAt st n with
    | none => rw [e] at hp; exact hp.elim
    | some ds =>
      rw [e] at hp
      obtain ⟨v, rfl, q⟩ := RepVs.one hv
      obtain ⟨p, q1, rfl⟩ := RepV.loc_iff.mp q
      obtain ⟨p', ys, r1, r2, r3⟩ := hs.items e
      rw [q1] at r1; cases r1
      exact ⟨p, ys, rfl, .inl ⟨r2, fun l hl => hp _ _ μ (Grow.lay hl) (hs.lay hl) (RepV.tup_iff.mpr ⟨l, ys, rfl, .inl upd_same, r3.mono (Grow.lay hl) _⟩)⟩⟩
  · exact hp.elim
/-! ### isinstance -/
def tyD : D → Stor → Option String
  | .non, _ => some "NoneType"
  | .bl _, _ => some "bool"
  | .int _, _ => some "int"
  | .str _, _ => some "str"
  | .tup _, _ => some "tuple"
  | .loc n, st => match st[n]? with
    | some (.lst _) => some "list"
    | some (.frz _) => some "list"
    | some (.dic _) => some "dict"
    | some (.dkc _) => some "dict"
    | _ => none
theorem isinst_D {pins : List (Addr × Obj)} {σ : L2.St} {μ : List Addr} {H : Hp} {s : Shared} {A : Around} {E : Value → Shared → Prop} {Q : Value → Shared → Prop} {cv : Value} {k : Bool} {d : D} {st : Stor} {x : V} {u : Value} {T : String}
    (I : Inv X pins σ H s) (hs : RepS X.K μ H st) (hd : RepV X.K μ H d x) (rx : RelV x u) (ht : tyD d st = some T) (e : PySem.W.kitOne X.K (.type T) cv = some k) (h : ∀ tk, Q (.bool k) { s with toks := tk }) :
    wpAny (model X.prog X.w) A (call (.builtin "isinstance") [u, cv]) Q E s := by
  cases d with
  | non => rw [RepV.non_iff] at hd; subst hd; cases ht; exact isinst_ok I rx (.non) e h
  | bl y => rw [RepV.bl_iff] at hd; subst hd; cases ht; exact isinst_ok I rx (.bl y) e h
  | int y => rw [RepV.int_iff] at hd; subst hd; cases ht; exact isinst_ok I rx (.int y) e h
  | str y => rw [RepV.str_iff] at hd; subst hd; cases ht; exact isinst_ok I rx (.str _) e h
  | tup ds =>
    obtain ⟨a, xs, rfl, q1, q2⟩ := RepV.tup_iff.mp hd
    cases ht
    obtain ⟨its, _, p, _⟩ := I.tuple (q1.sqT)
    obtain ⟨o, h1, h2, _⟩ := p
    cases (show u = Value.ref a from rx)
    exact PySem.W.kia_one PySem.W.kitx_tuple I.kIn ⟨o, h1, h2⟩ e (fun z => nomatch z) h
  | loc n =>
    obtain ⟨a, q1, rfl⟩ := RepV.loc_iff.mp hd
    simp only [tyD] at ht
    have lst : ∀ ds, itemsAt st n = some ds → PySem.W.kitOne X.K (.type "list") cv = some k → wpAny (model X.prog X.w) A (call (.builtin "isinstance") [u, cv]) Q E s := fun ds e1 e2 => by
      obtain ⟨p', ys, r1, r2, r3⟩ := hs.items e1
      rw [q1] at r1; cases r1
      obtain ⟨its, _, p, _⟩ := I.list r2
      cases (show u = Value.ref a from rx)
      exact PySem.W.kia_one PySem.W.kitx_list I.kIn p.isList.typeIs e2 (fun z => nomatch z) h
    cases e1 : st[n]? with
    | none => rw [e1] at ht; cases ht
    | some mo =>
      rw [e1] at ht
      cases mo with
      | lst ds => cases ht; exact lst ds (by unfold itemsAt; rw [e1]) e
      | frz ds => cases ht; exact lst ds (by unfold itemsAt; rw [e1]) e
      | dic kvs =>
        cases ht
        obtain ⟨p', r1, ws, r2, _⟩ := hs.at_ n _ e1
        rw [q1] at r1; cases r1
        exact isinst_ok I rx (.dT r2) e h
      | dkc kvs =>
        cases ht
        obtain ⟨p', r1, ws, r2, _⟩ := hs.at_ n _ e1
        rw [q1] at r1; cases r1
        exact isinst_ok I rx (.dK r2) e h
      | _ => cases ht
/-- what a built-in type is under -/
def subTy (t T : String) : Bool := t == T || (t == "bool" && T == "int")
def isV (T : String) : D → Stor → R D := fun d st => match tyD d st with | some t => .ok (.bl (subTy t T)) st | none => .bad
def tysD : List String := ["NoneType", "bool", "int", "str", "tuple", "list", "dict"]
theorem tyD_mem {d : D} {st : Stor} {t : String} (h : tyD d st = some t) : t ∈ tysD := by
  cases d with
  | loc n =>
    simp only [tyD] at h
    split at h <;> cases h <;> decide
  | _ => cases h; decide
def rIs (X : Cx) (T : String) : List V → Hp → VK → Prop := fun xs H Q => ∃ μ st d x, xs = [x, .ty T] ∧ RepS X.K μ H st ∧ RepV X.K μ H d x ∧ Post X μ H (relV X) Q (isV T d st)
theorem call_isV {T : String} (hT : ∀ t ∈ tysD, PySem.W.kitOne X.K (.type t) (.type T) = some (subTy t T)) : CallR X (.builtin "isinstance") (rIs X T) := by
  rintro pins s σ H xs us Q I hr ⟨μ, st, d, x, rfl, hs, hd, hp⟩
  obtain ⟨u, w', rfl, r1, r2⟩ := vals2 hr
  cases (show w' = Value.type T from r2)
  unfold isV at hp
  cases e : tyD d st with
  | none => rw [e] at hp; exact hp.elim
  | some t =>
    rw [e] at hp
    exact isinst_D I hs hd r1 e (hT t (tyD_mem e)) fun tk => ⟨.bl (subTy t T), H, I.tok tk, rfl, hp.ret hs (RepV.bl_iff.mpr rfl)⟩
theorem kit_int {K : PySem.W.Frag} : ∀ t ∈ tysD, PySem.W.kitOne K (.type t) (.type "int") = some (subTy t "int") := by
  intro t ht
  simp only [tysD, List.mem_cons, List.not_mem_nil, or_false] at ht
  rcases ht with rfl | rfl | rfl | rfl | rfl | rfl | rfl <;> rfl
theorem kit_bool {K : PySem.W.Frag} : ∀ t ∈ tysD, PySem.W.kitOne K (.type t) (.type "bool") = some (subTy t "bool") := by
  intro t ht
  simp only [tysD, List.mem_cons, List.not_mem_nil, or_false] at ht
  rcases ht with rfl | rfl | rfl | rfl | rfl | rfl | rfl <;> rfl
theorem kit_str {K : PySem.W.Frag} : ∀ t ∈ tysD, PySem.W.kitOne K (.type t) (.type "str") = some (subTy t "str") := by
  intro t ht
  simp only [tysD, List.mem_cons, List.not_mem_nil, or_false] at ht
  rcases ht with rfl | rfl | rfl | rfl | rfl | rfl | rfl <;> rfl
theorem kit_tuple {K : PySem.W.Frag} : ∀ t ∈ tysD, PySem.W.kitOne K (.type t) (.type "tuple") = some (subTy t "tuple") := by
  intro t ht
  simp only [tysD, List.mem_cons, List.not_mem_nil, or_false] at ht
  rcases ht with rfl | rfl | rfl | rfl | rfl | rfl | rfl <;> rfl
theorem kit_list {K : PySem.W.Frag} : ∀ t ∈ tysD, PySem.W.kitOne K (.type t) (.type "list") = some (subTy t "list") := by
  intro t ht
  simp only [tysD, List.mem_cons, List.not_mem_nil, or_false] at ht
  rcases ht with rfl | rfl | rfl | rfl | rfl | rfl | rfl <;> rfl
/-- isinstance(e, T) -/
theorem je_isV {T : String} {xT : Str} (hT : ∀ t ∈ tysD, PySem.W.kitOne X.K (.type t) (.type T) = some (subTy t T)) (h : JE X e ma) (hg : Gl X "isinstance") (hm : X.mg "isinstance" = none) (hgT : Gl X xT) (hmT : X.mg xT = none)
    (hv : bootBuiltins xT = some (.type T)) (hb : bootBuiltins "isinstance" = some (.builtin "isinstance")) (hnT : xT ≠ "__name__" := by decide) (hdT : (xT == ("__debug__" : Str)) = false := by decide)
    (hs1 : starEach [e, .Name xT p2] X.env = [(false, eval e X.env), (false, eval (.Name xT p2) X.env)] := by rfl) (hs2 : starEach [.Name xT p2] X.env = [(false, eval (.Name xT p2) X.env)] := by rfl) (hpl : (backTo pos (starEach [.Name xT p2] X.env)).any (·.1) = false := by rfl) :
    JE X (.Call (.Name "isinstance" p) [e, .Name xT p2] [] pos) (op1 (isV T) ma) := by
  refine JE.of (pe_callB (call_isV hT) hg hm hb (pa_cons h (pa_cons (pe_bltn (v := .ty T) hgT hmT hv rfl hnT hdT) pa_nil hs2) hs1) (by decide) (by decide) hs1 hpl) fun σ H Q ⟨μ, env, st, hE, hs, hp⟩ => ⟨μ, env, st, hE, hs, (Post.bind hp).imp ?_⟩
  rintro x H1 ⟨μ1, st1, d, g1, hs1, hx, hp1⟩
  exact ⟨μ1, st1, d, x, rfl, hs1, hx, hp1⟩
end
end M
namespace M
open PySem PySem.Spec PySem.SeqAt L2
/-! ### == of data: tuples part by part -/
mutual
def eqD : D → D → Bool
  | .non, .non => true
  | .bl a, .bl b => a == b
  | .bl a, .int b => (if a then 1 else 0) == b
  | .int a, .bl b => a == (if b then 1 else 0)
  | .int a, .int b => a == b
  | .str a, .str b => a == b
  | .tup a, .tup b => eqDs a b
  | _, _ => false
def eqDs : List D → List D → Bool
  | [], [] => true
  | a :: as, b :: bs => eqD a b && eqDs as bs
  | _, _ => false
end
/-! no list within; how deep tuples lie in one another -/
mutual
def flat : D → Bool
  | .loc _ => false
  | .tup ds => flats ds
  | _ => true
def flats : List D → Bool
  | [] => true
  | d :: ds => flat d && flats ds
end
mutual
def dep : D → Nat
  | .tup ds => deps ds + 1
  | _ => 0
def deps : List D → Nat
  | [] => 0
  | d :: ds => max (dep d) (deps ds)
end
/-! how deep == goes into both -/
mutual
def cdep : D → D → Nat
  | .tup a, .tup b => cdeps a b + 1
  | _, _ => 0
def cdeps : List D → List D → Nat
  | a :: as, b :: bs => max (cdep a b) (cdeps as bs)
  | _, _ => 0
end
@[simp] theorem cdep_tup (a b : List D) : cdep (.tup a) (.tup b) = cdeps a b + 1 := by simp [cdep]
@[simp] theorem cdep_non (d : D) : cdep .non d = 0 := by simp [cdep]
@[simp] theorem cdep_bl (b : Bool) (d : D) : cdep (.bl b) d = 0 := by simp [cdep]
@[simp] theorem cdep_int (b : Int) (d : D) : cdep (.int b) d = 0 := by simp [cdep]
@[simp] theorem cdep_str (b : List Nat) (d : D) : cdep (.str b) d = 0 := by simp [cdep]
@[simp] theorem cdep_loc (b : Nat) (d : D) : cdep (.loc b) d = 0 := by simp [cdep]
@[simp] theorem cdep_non' (d : D) : cdep d .non = 0 := by cases d <;> simp [cdep]
@[simp] theorem cdep_bl' (b : Bool) (d : D) : cdep d (.bl b) = 0 := by cases d <;> simp [cdep]
@[simp] theorem cdep_int' (b : Int) (d : D) : cdep d (.int b) = 0 := by cases d <;> simp [cdep]
@[simp] theorem cdep_str' (b : List Nat) (d : D) : cdep d (.str b) = 0 := by cases d <;> simp [cdep]
@[simp] theorem cdeps_nil (bs : List D) : cdeps [] bs = 0 := by simp [cdeps]
@[simp] theorem cdeps_nil' (as : List D) : cdeps as [] = 0 := by cases as <;> simp [cdeps]
@[simp] theorem cdeps_cons (a b : D) (as bs : List D) : cdeps (a :: as) (b :: bs) = max (cdep a b) (cdeps as bs) := by simp [cdeps]
@[simp] theorem flat_int (b : Int) : flat (.int b) = true := by simp [flat]
@[simp] theorem flat_str (b : List Nat) : flat (.str b) = true := by simp [flat]
@[simp] theorem flat_tup (b : List D) : flat (.tup b) = flats b := by simp [flat]
@[simp] theorem flats_nil : flats [] = true := by simp [flats]
@[simp] theorem flats_cons (d : D) (ds : List D) : flats (d :: ds) = (flat d && flats ds) := by simp [flats]
@[simp] theorem dep_non : dep .non = 0 := by simp [dep]
@[simp] theorem dep_bl (b : Bool) : dep (.bl b) = 0 := by simp [dep]
@[simp] theorem dep_int (b : Int) : dep (.int b) = 0 := by simp [dep]
@[simp] theorem dep_str (b : List Nat) : dep (.str b) = 0 := by simp [dep]
@[simp] theorem dep_tup (b : List D) : dep (.tup b) = deps b + 1 := by simp [dep]
@[simp] theorem deps_nil : deps [] = 0 := by simp [deps]
@[simp] theorem deps_cons (d : D) (ds : List D) : deps (d :: ds) = max (dep d) (deps ds) := by simp [deps]
mutual
theorem cdep_le : ∀ (a b : D), cdep a b ≤ dep a
  | .tup a, .tup b => by rw [cdep_tup, dep_tup]; exact Nat.succ_le_succ (cdeps_le a b)
  | .tup a, .non => by simp
  | .tup a, .bl _ => by simp
  | .tup a, .int _ => by simp
  | .tup a, .str _ => by simp
  | .tup a, .loc _ => by simp [cdep]
  | .non, _ => by simp
  | .bl _, _ => by simp
  | .int _, _ => by simp
  | .str _, _ => by simp
  | .loc _, _ => by simp
theorem cdeps_le : ∀ (a b : List D), cdeps a b ≤ deps a
  | [], b => by simp
  | a :: as, [] => by simp
  | a :: as, b :: bs => by
    rw [cdeps_cons, deps_cons]
    have h1 := cdep_le a b
    have h2 := cdeps_le as bs
    omega
end
/-- the answer at a place -/
def eqJ (as bs : List D) (j : Nat) : Bool := match as[j]?, bs[j]? with | some a, some b => eqD a b | _, _ => true
theorem eqDs_all : ∀ (as bs : List D), eqDs as bs = ((List.range (min as.length bs.length)).all (eqJ as bs) && as.length == bs.length)
  | [], [] => by simp [eqDs]
  | [], b :: bs => by simp [eqDs]
  | a :: as, [] => by simp [eqDs]
  | a :: as, b :: bs => by
    rw [eqDs, eqDs_all as bs]
    have e1 : min (a :: as).length (b :: bs).length = min as.length bs.length + 1 := by simp
    rw [e1, List.range_succ_eq_map, List.all_cons, List.all_map]
    have e2 : ((a :: as).length == (b :: bs).length) = (as.length == bs.length) := by
      rw [Bool.eq_iff_iff]; simp
    rw [e2]
    have e3 : eqJ (a :: as) (b :: bs) 0 = eqD a b := rfl
    rw [e3, Bool.and_assoc]
    rfl
mutual
theorem eqD_refl : ∀ (d : D), flat d = true → eqD d d = true
  | .non, _ => by simp [eqD]
  | .bl _, _ => by simp [eqD]
  | .int _, _ => by simp [eqD]
  | .str _, _ => by simp [eqD]
  | .tup ds, h => by rw [eqD]; exact eqDs_refl ds (by simpa using h)
  | .loc _, h => by simp [flat] at h
theorem eqDs_refl : ∀ (ds : List D), flats ds = true → eqDs ds ds = true
  | [], _ => by simp [eqDs]
  | d :: ds, h => by
    rw [flats_cons, Bool.and_eq_true] at h
    rw [eqDs, eqD_refl d h.1, eqDs_refl ds h.2]; rfl
end
section
variable {X : Cx} {pins : List (Addr × Obj)} {σ : L2.St} {μ : List Addr} {H : Hp} {s : Shared}
mutual
theorem rep_same (I : Inv X pins σ H s) : ∀ (d1 d2 : D) {v : V}, flat d1 = true → flat d2 = true → RepV X.K μ H d1 v → RepV X.K μ H d2 v → d1 = d2
  | .non, d2, _, _, f2, h1, h2 => by
    rw [RepV.non_iff] at h1; subst h1
    cases d2 with
    | non => rfl
    | bl _ => rw [RepV.bl_iff] at h2; cases h2
    | int _ => rw [RepV.int_iff] at h2; cases h2
    | str _ => rw [RepV.str_iff] at h2; cases h2
    | tup _ => obtain ⟨_, _, q, _⟩ := RepV.tup_iff.mp h2; cases q
    | loc _ => simp [flat] at f2
  | .bl b, d2, _, _, f2, h1, h2 => by
    rw [RepV.bl_iff] at h1; subst h1
    cases d2 with
    | bl _ => rw [RepV.bl_iff] at h2; cases h2; rfl
    | non => rw [RepV.non_iff] at h2; cases h2
    | int _ => rw [RepV.int_iff] at h2; cases h2
    | str _ => rw [RepV.str_iff] at h2; cases h2
    | tup _ => obtain ⟨_, _, q, _⟩ := RepV.tup_iff.mp h2; cases q
    | loc _ => simp [flat] at f2
  | .int b, d2, _, _, f2, h1, h2 => by
    rw [RepV.int_iff] at h1; subst h1
    cases d2 with
    | int _ => rw [RepV.int_iff] at h2; cases h2; rfl
    | non => rw [RepV.non_iff] at h2; cases h2
    | bl _ => rw [RepV.bl_iff] at h2; cases h2
    | str _ => rw [RepV.str_iff] at h2; cases h2
    | tup _ => obtain ⟨_, _, q, _⟩ := RepV.tup_iff.mp h2; cases q
    | loc _ => simp [flat] at f2
  | .str b, d2, _, _, f2, h1, h2 => by
    rw [RepV.str_iff] at h1; subst h1
    cases d2 with
    | str _ => rw [RepV.str_iff] at h2; injection h2 with h3; rw [strOf_inj.mp h3]
    | non => rw [RepV.non_iff] at h2; cases h2
    | bl _ => rw [RepV.bl_iff] at h2; cases h2
    | int _ => rw [RepV.int_iff] at h2; cases h2
    | tup _ => obtain ⟨_, _, q, _⟩ := RepV.tup_iff.mp h2; cases q
    | loc _ => simp [flat] at f2
  | .tup as, d2, _, f1, f2, h1, h2 => by
    obtain ⟨a, xs, rfl, q1, q2⟩ := RepV.tup_iff.mp h1
    cases d2 with
    | tup bs =>
      obtain ⟨b, ys, e, r1, r2⟩ := RepV.tup_iff.mp h2
      cases e
      rw [I.tuple_inj (r1.sqT) (q1.sqT)] at r2
      rw [reps_same I as bs (by simpa using f1) (by simpa using f2) q2 r2]
    | non => rw [RepV.non_iff] at h2; cases h2
    | bl _ => rw [RepV.bl_iff] at h2; cases h2
    | int _ => rw [RepV.int_iff] at h2; cases h2
    | str _ => rw [RepV.str_iff] at h2; cases h2
    | loc _ => simp [flat] at f2
  | .loc _, _, _, f1, _, _, _ => by simp [flat] at f1
theorem reps_same (I : Inv X pins σ H s) : ∀ (as bs : List D) {vs : List V}, flats as = true → flats bs = true → RepVs X.K μ H as vs → RepVs X.K μ H bs vs → as = bs
  | [], bs, _, _, _, h1, h2 => by
    rw [RepVs] at h1; subst h1
    cases bs with
    | nil => rfl
    | cons _ _ => rw [RepVs] at h2; obtain ⟨_, _, q, _⟩ := h2; cases q
  | a :: as, bs, _, f1, f2, h1, h2 => by
    rw [RepVs] at h1
    obtain ⟨v, r, rfl, q1, q2⟩ := h1
    cases bs with
    | nil => rw [RepVs] at h2; cases h2
    | cons b bs =>
      rw [RepVs] at h2
      obtain ⟨v', r', e, r1, r2⟩ := h2
      cases e
      rw [flats_cons, Bool.and_eq_true] at f1 f2
      rw [rep_same I a b f1.1 f2.1 q1 r1, reps_same I as bs f1.2 f2.2 q2 r2]
end
/-! the two readings at once: the items' answer, and == itself -/
mutual
theorem eq_at (I : Inv X pins σ H s) : ∀ (d1 d2 : D) {A : Around} {x y : V} {u w : Value}, flat d1 = true → flat d2 = true → A.units + cdep d1 d2 < cLine → RepV X.K μ H d1 x → RepV X.K μ H d2 y → RelV x u → RelV y w →
    EqAt A s u w (eqD d1 d2) ∧ RcAt A s u w (eqD d1 d2) ∧ RcNeAt A s u w (!eqD d1 d2)
  | d1, d2, A, x, y, u, w, f1, f2, hu, h1, h2, r1, r2 => by
    cases d1 with
    | loc _ => simp [flat] at f1
    | non =>
      rw [RepV.non_iff] at h1; subst h1
      cases (show u = Value.none from r1)
      cases d2 with
      | loc _ => simp [flat] at f2
      | non => rw [RepV.non_iff] at h2; subst h2; cases (show w = Value.none from r2); exact ⟨EqAt.same _, RcAt.none_none, RcNeAt.none_none⟩
      | bl b => rw [RepV.bl_iff] at h2; subst h2; cases (show w = Value.bool b from r2); exact ⟨EqAt.none_bool b, RcAt.none_bool b, RcNeAt.none_bool b⟩
      | int b => rw [RepV.int_iff] at h2; subst h2; obtain ⟨t, rfl⟩ := r2; exact ⟨EqAt.none_int b t, RcAt.none_int b t, RcNeAt.none_int b t⟩
      | str b => rw [RepV.str_iff] at h2; subst h2; obtain ⟨t, rfl⟩ := r2; exact ⟨EqAt.none_str _ t, RcAt.none_str _ t, RcNeAt.none_str _ t⟩
      | tup bs =>
        obtain ⟨b, ys, rfl, q1, q2⟩ := RepV.tup_iff.mp h2
        cases (show w = Value.ref b from r2)
        obtain ⟨its, _, p, _⟩ := I.tuple (q1.sqT)
        exact ⟨EqAt.none_tuple p (by omega), RcAt.none_tuple p (by omega), RcNeAt.none_tuple p (by omega)⟩
    | bl a =>
      rw [RepV.bl_iff] at h1; subst h1
      cases (show u = Value.bool a from r1)
      cases d2 with
      | loc _ => simp [flat] at f2
      | non => rw [RepV.non_iff] at h2; subst h2; cases (show w = Value.none from r2); exact ⟨EqAt.bool_none a, RcAt.bool_none a, RcNeAt.bool_none a⟩
      | bl b => rw [RepV.bl_iff] at h2; subst h2; cases (show w = Value.bool b from r2); simp only [eqD]; exact ⟨EqAt.bool_bool a b, RcAt.bool_bool a b, RcNeAt.bool_bool a b⟩
      | int b => rw [RepV.int_iff] at h2; subst h2; obtain ⟨t, rfl⟩ := r2; simp only [eqD]; exact ⟨EqAt.bool_int a b t, RcAt.bool_int a b t, RcNeAt.bool_int a b t⟩
      | str b => rw [RepV.str_iff] at h2; subst h2; obtain ⟨t, rfl⟩ := r2; exact ⟨EqAt.bool_str a _ t, RcAt.bool_str a _ t, RcNeAt.bool_str a _ t⟩
      | tup bs =>
        obtain ⟨b, ys, rfl, q1, q2⟩ := RepV.tup_iff.mp h2
        cases (show w = Value.ref b from r2)
        obtain ⟨its, _, p, _⟩ := I.tuple (q1.sqT)
        exact ⟨EqAt.bool_tuple a p (by omega), RcAt.bool_tuple a p (by omega), RcNeAt.bool_tuple a p (by omega)⟩
    | int a =>
      rw [RepV.int_iff] at h1; subst h1
      obtain ⟨ta, rfl⟩ := r1
      cases d2 with
      | loc _ => simp [flat] at f2
      | non => rw [RepV.non_iff] at h2; subst h2; cases (show w = Value.none from r2); exact ⟨EqAt.int_none a ta, RcAt.int_none a ta, RcNeAt.int_none a ta⟩
      | bl b => rw [RepV.bl_iff] at h2; subst h2; cases (show w = Value.bool b from r2); simp only [eqD]; exact ⟨EqAt.int_bool a ta b, RcAt.int_bool a ta b, RcNeAt.int_bool a ta b⟩
      | int b => rw [RepV.int_iff] at h2; subst h2; obtain ⟨t, rfl⟩ := r2; simp only [eqD]; exact ⟨EqAt.int_int a ta b t, RcAt.int_int a ta b t, RcNeAt.int_int a ta b t⟩
      | str b => rw [RepV.str_iff] at h2; subst h2; obtain ⟨t, rfl⟩ := r2; exact ⟨EqAt.int_str a ta _ t, RcAt.int_str a ta _ t, RcNeAt.int_str a ta _ t⟩
      | tup bs =>
        obtain ⟨b, ys, rfl, q1, q2⟩ := RepV.tup_iff.mp h2
        cases (show w = Value.ref b from r2)
        obtain ⟨its, _, p, _⟩ := I.tuple (q1.sqT)
        exact ⟨EqAt.int_tuple a ta p (by omega), RcAt.int_tuple a ta p (by omega), RcNeAt.int_tuple a ta p (by omega)⟩
    | str a =>
      rw [RepV.str_iff] at h1; subst h1
      obtain ⟨ta, rfl⟩ := r1
      cases d2 with
      | loc _ => simp [flat] at f2
      | non => rw [RepV.non_iff] at h2; subst h2; cases (show w = Value.none from r2); exact ⟨EqAt.str_none _ ta, RcAt.str_none _ ta, RcNeAt.str_none _ ta⟩
      | bl b => rw [RepV.bl_iff] at h2; subst h2; cases (show w = Value.bool b from r2); exact ⟨EqAt.str_bool _ ta b, RcAt.str_bool _ ta b, RcNeAt.str_bool _ ta b⟩
      | int b => rw [RepV.int_iff] at h2; subst h2; obtain ⟨t, rfl⟩ := r2; exact ⟨EqAt.str_int _ ta b t, RcAt.str_int _ ta b t, RcNeAt.str_int _ ta b t⟩
      | str b =>
        rw [RepV.str_iff] at h2; subst h2; obtain ⟨t, rfl⟩ := r2
        have e : (strOf a == strOf b) = eqD (.str a) (.str b) := by
          rw [eqD, Bool.eq_iff_iff, beq_iff_eq, beq_iff_eq]; exact strOf_inj
        rw [← e]
        exact ⟨EqAt.str_str _ ta _ t, RcAt.str_str _ ta _ t, RcNeAt.str_str _ ta _ t⟩
      | tup bs =>
        obtain ⟨b, ys, rfl, q1, q2⟩ := RepV.tup_iff.mp h2
        cases (show w = Value.ref b from r2)
        obtain ⟨its, _, p, _⟩ := I.tuple (q1.sqT)
        exact ⟨EqAt.str_tuple _ ta p (by omega), RcAt.str_tuple _ ta p (by omega), RcNeAt.str_tuple _ ta p (by omega)⟩
    | tup as =>
      have h1' := h1
      have h2' := h2
      obtain ⟨a, xs, rfl, q1, q2⟩ := RepV.tup_iff.mp h1
      cases (show u = Value.ref a from r1)
      obtain ⟨its, ra, p, _⟩ := I.tuple (q1.sqT)
      cases d2 with
      | loc _ => simp [flat] at f2
      | non => rw [RepV.non_iff] at h2; subst h2; cases (show w = Value.none from r2); exact ⟨EqAt.tuple_none p (by omega), RcAt.tuple_none p (by omega), RcNeAt.tuple_none p (by omega)⟩
      | bl b => rw [RepV.bl_iff] at h2; subst h2; cases (show w = Value.bool b from r2); exact ⟨EqAt.tuple_bool b p (by omega), RcAt.tuple_bool b p (by omega), RcNeAt.tuple_bool b p (by omega)⟩
      | int b => rw [RepV.int_iff] at h2; subst h2; obtain ⟨t, rfl⟩ := r2; exact ⟨EqAt.tuple_int b t p (by omega), RcAt.tuple_int b t p (by omega), RcNeAt.tuple_int b t p (by omega)⟩
      | str b => rw [RepV.str_iff] at h2; subst h2; obtain ⟨t, rfl⟩ := r2; exact ⟨EqAt.tuple_str _ t p (by omega), RcAt.tuple_str _ t p (by omega), RcNeAt.tuple_str _ t p (by omega)⟩
      | tup bs =>
        obtain ⟨b, ys, rfl, g1, g2⟩ := RepV.tup_iff.mp h2
        cases (show w = Value.ref b from r2)
        obtain ⟨its2, rb, p2, _⟩ := I.tuple (g1.sqT)
        rw [cdep_tup] at hu
        rw [flat_tup] at f1 f2
        have items := eqs_at I as bs (A := A.in1) f1 f2 (by show A.units + 1 + cdeps as bs < cLine; omega) q2 g2 ra rb
        have la : as.length = its.toArray.size := by rw [List.size_toArray, q2.length, ra.length]
        have lb : bs.length = its2.toArray.size := by rw [List.size_toArray, g2.length, rb.length]
        have e : ((List.range (min its.toArray.size its2.toArray.size)).all (eqJ as bs) && its.toArray.size == its2.toArray.size) = eqD (.tup as) (.tup bs) := by
          rw [eqD, eqDs_all, la, lb]
        have rc : RcAt A s (.ref a) (.ref b) (eqD (.tup as) (.tup bs)) := by
          rw [← e]
          exact RcAt.tuples p p2 (by omega) fun j j1 j2 => items j (by simpa using j1) (by simpa using j2)
        have ne : RcNeAt A s (.ref a) (.ref b) (!eqD (.tup as) (.tup bs)) := by
          rw [← e]
          exact RcNeAt.tuples p p2 (by omega) fun j j1 j2 => items j (by simpa using j1) (by simpa using j2)
        refine ⟨?_, rc, ne⟩
        by_cases hab : a = b
        · subst hab
          have : (D.tup as) = .tup bs := rep_same I _ _ (by simpa using f1) (by simpa using f2) h1' h2'
          rw [← this, eqD_refl _ (by simpa using f1)]
          exact EqAt.same _
        · exact EqAt.of_refs hab rc
theorem eqs_at (I : Inv X pins σ H s) : ∀ (as bs : List D) {A : Around} {xs ys : List V} {us ws : List Value}, flats as = true → flats bs = true → A.units + cdeps as bs < cLine → RepVs X.K μ H as xs → RepVs X.K μ H bs ys → Vals xs us → Vals ys ws →
    ∀ (j : Nat) (h1 : j < us.length) (h2 : j < ws.length), EqAt A s us[j] ws[j] (eqJ as bs j)
  | [], bs, A, xs, ys, us, ws, _, _, _, h1, _, r1, _, j, j1, _ => by
    rw [RepVs] at h1; subst h1; cases r1; simp at j1
  | a :: as, [], A, xs, ys, us, ws, _, _, _, _, h2, _, r2, j, _, j2 => by
    rw [RepVs] at h2; subst h2; cases r2; simp at j2
  | a :: as, b :: bs, A, xs, ys, us, ws, f1, f2, hu, h1, h2, r1, r2, j, j1, j2 => by
    rw [RepVs] at h1 h2
    obtain ⟨v, r, rfl, q1, q2⟩ := h1
    obtain ⟨v', r', rfl, g1, g2⟩ := h2
    cases r1 with
    | cons r1 t1 =>
    cases r2 with
    | cons r2 t2 =>
    rw [flats_cons, Bool.and_eq_true] at f1 f2
    rw [cdeps_cons] at hu
    cases j with
    | zero => exact (eq_at I a b f1.1 f2.1 (by omega) q1 g1 r1 r2).1
    | succ j => exact eqs_at I as bs f1.2 f2.2 (by omega) q2 g2 t1 t2 j (by simpa using j1) (by simpa using j2)
end
end
end M
namespace M
open PySem PySem.Spec PySem.SeqAt L2
/-- == by the store; L: how deep tuples may lie -/
def eqR (L : Nat) : D → D → Stor → Option Bool
  | .loc m, .loc n, st => match itemsAt st m, itemsAt st n with
    | some a, some b => if flats a = true ∧ flats b = true ∧ cdeps a b + 1 < L then some (eqDs a b) else none
    | _, _ => none
  | .loc m, .non, st => (itemsAt st m).map fun _ => false
  | .loc m, .tup b, st => if 0 < L then (itemsAt st m).map fun _ => false else none
  | .non, .loc n, st => (itemsAt st n).map fun _ => false
  | .tup a, .loc n, st => if 0 < L then (itemsAt st n).map fun _ => false else none
  | d1, d2, _ => if flat d1 = true ∧ flat d2 = true ∧ cdep d1 d2 < L then some (eqD d1 d2) else none
section
variable {X : Cx} {pins : List (Addr × Obj)} {σ : L2.St} {μ : List Addr} {H : Hp} {s : Shared} {L : Nat}
theorem eqs_lists {as bs : List D} {A : Around} {xs ys : List V} {a b : Addr} (I : Inv X pins σ H s) (f1 : flats as = true) (f2 : flats bs = true) (hu : A.units + 1 + cdeps as bs < cLine) (h1 : RepVs X.K μ H as xs) (h2 : RepVs X.K μ H bs ys)
    (q1 : SqL X.K H a xs) (q2 : SqL X.K H b ys) : RcAt A s (.ref a) (.ref b) (eqDs as bs) ∧ RcNeAt A s (.ref a) (.ref b) (!eqDs as bs) := by
  obtain ⟨its, ra, p, _⟩ := I.list q1
  obtain ⟨its2, rb, p2, _⟩ := I.list q2
  have la : as.length = its.toArray.size := by rw [List.size_toArray, h1.length, ra.length]
  have lb : bs.length = its2.toArray.size := by rw [List.size_toArray, h2.length, rb.length]
  by_cases hl : its.toArray.size = its2.toArray.size
  · have items := eqs_at I as bs (A := A.in1) f1 f2 hu h1 h2 ra rb
    have e : ((List.range its.toArray.size).all (eqJ as bs)) = eqDs as bs := by
      rw [eqDs_all, la, lb, ← hl, Nat.min_self]; simp
    rw [← e]
    exact ⟨RcAt.lists p.isList p2.isList hl (by omega) fun j j1 j2 => items j (by simpa using j1) (by simpa using j2), RcNeAt.lists p.isList p2.isList hl (by omega) fun j j1 j2 => items j (by simpa using j1) (by simpa using j2)⟩
  · have e : eqDs as bs = false := by
      rw [eqDs_all, la, lb, Bool.and_eq_false_iff]
      exact .inr (by simpa using hl)
    have hl' : (its.toArray.size != its2.toArray.size) = true := by simpa using hl
    rw [e]
    exact ⟨RcAt.lists_lengths p.isList p2.isList hl' (by omega), RcNeAt.lists_lengths p.isList p2.isList hl' (by omega)⟩
theorem eqR_at {d1 d2 : D} {st : Stor} {k : Bool} {A : Around} {x y : V} {u w : Value} (I : Inv X pins σ H s) (hs : RepS X.K μ H st) (e : eqR L d1 d2 st = some k) (hu : A.units + L < cLine) (h1 : RepV X.K μ H d1 x) (h2 : RepV X.K μ H d2 y) (r1 : RelV x u) (r2 : RelV y w) :
    RcAt A s u w k ∧ RcNeAt A s u w (!k) := by
  have plain : ∀ {d1 d2 : D}, RepV X.K μ H d1 x → RepV X.K μ H d2 y → (if flat d1 = true ∧ flat d2 = true ∧ cdep d1 d2 < L then some (eqD d1 d2) else none) = some k → RcAt A s u w k ∧ RcNeAt A s u w (!k) := fun {d1 d2} h1 h2 e => by
    split at e
    · rename_i c
      cases e
      exact (eq_at I d1 d2 c.1 c.2.1 (by omega) h1 h2 r1 r2).2
    · cases e
  have list : ∀ {n : Nat} {v : V} {z : Value} {ds : List D}, RepV X.K μ H (.loc n) v → RelV v z → itemsAt st n = some ds → ∃ p its, z = .ref p ∧ s.heap.IsList p its := fun {n v z ds} h r q => by
    obtain ⟨p, q1, rfl⟩ := RepV.loc_iff.mp h
    obtain ⟨p', xs, g1, g2, g3⟩ := hs.items q
    rw [q1] at g1; cases g1
    cases (show z = Value.ref p from r)
    obtain ⟨its, _, pl, _⟩ := I.list g2
    exact ⟨p, _, rfl, pl.isList⟩
  have tuple : ∀ {bs : List D} {v : V} {z : Value}, RepV X.K μ H (.tup bs) v → RelV v z → ∃ p its, z = .ref p ∧ s.heap.IsTuple p its := fun {bs v z} h r => by
    obtain ⟨p, xs, rfl, q1, _⟩ := RepV.tup_iff.mp h
    cases (show z = Value.ref p from r)
    obtain ⟨its, _, pl, _⟩ := I.tuple (q1.sqT)
    exact ⟨p, _, rfl, pl⟩
  match d1, d2, e, h1, h2 with
  | .loc m, .loc n, e, h1, h2 =>
    simp only [eqR] at e
    cases e1 : itemsAt st m with
    | none => rw [e1] at e; cases e
    | some as =>
      cases e2 : itemsAt st n with
      | none => rw [e1, e2] at e; cases e
      | some bs =>
        rw [e1, e2] at e
        dsimp only at e
        split at e
        · rename_i c
          cases e
          obtain ⟨p, q1, rfl⟩ := RepV.loc_iff.mp h1
          obtain ⟨p', xs, g1, g2, g3⟩ := hs.items e1
          rw [q1] at g1; cases g1
          obtain ⟨q, q2, rfl⟩ := RepV.loc_iff.mp h2
          obtain ⟨q', ys, k1, k2, k3⟩ := hs.items e2
          rw [q2] at k1; cases k1
          cases (show u = Value.ref p from r1)
          cases (show w = Value.ref q from r2)
          exact eqs_lists I c.1 c.2.1 (by omega) g3 k3 g2 k2
        · cases e
  | .loc m, .non, e, h1, h2 =>
    simp only [eqR] at e
    cases e1 : itemsAt st m with
    | none => rw [e1] at e; cases e
    | some as =>
      rw [e1] at e; cases e
      obtain ⟨p, its, rfl, pl⟩ := list h1 r1 e1
      rw [RepV.non_iff] at h2; subst h2; cases (show w = Value.none from r2)
      exact ⟨RcAt.list_none pl (by omega), RcNeAt.list_none pl (by omega)⟩
  | .non, .loc n, e, h1, h2 =>
    simp only [eqR] at e
    cases e1 : itemsAt st n with
    | none => rw [e1] at e; cases e
    | some as =>
      rw [e1] at e; cases e
      obtain ⟨p, its, rfl, pl⟩ := list h2 r2 e1
      rw [RepV.non_iff] at h1; subst h1; cases (show u = Value.none from r1)
      exact ⟨RcAt.none_list pl (by omega), RcNeAt.none_list pl (by omega)⟩
  | .loc m, .tup bs, e, h1, h2 =>
    simp only [eqR] at e
    split at e
    · cases e1 : itemsAt st m with
      | none => rw [e1] at e; cases e
      | some as =>
        rw [e1] at e; cases e
        obtain ⟨p, its, rfl, pl⟩ := list h1 r1 e1
        obtain ⟨q, its2, rfl, pt⟩ := tuple h2 r2
        exact ⟨RcAt.list_tuple pl pt (by omega), RcNeAt.list_tuple pl pt (by omega)⟩
    · cases e
  | .tup as, .loc n, e, h1, h2 =>
    simp only [eqR] at e
    split at e
    · cases e1 : itemsAt st n with
      | none => rw [e1] at e; cases e
      | some as =>
        rw [e1] at e; cases e
        obtain ⟨p, its, rfl, pl⟩ := list h2 r2 e1
        obtain ⟨q, its2, rfl, pt⟩ := tuple h1 r1
        exact ⟨RcAt.tuple_list pt pl (by omega), RcNeAt.tuple_list pt pl (by omega)⟩
    · cases e
  | .non, .non, e, h1, h2 => exact plain h1 h2 (by simpa only [eqR] using e)
  | .non, .bl _, e, h1, h2 => exact plain h1 h2 (by simpa only [eqR] using e)
  | .non, .int _, e, h1, h2 => exact plain h1 h2 (by simpa only [eqR] using e)
  | .non, .str _, e, h1, h2 => exact plain h1 h2 (by simpa only [eqR] using e)
  | .non, .tup _, e, h1, h2 => exact plain h1 h2 (by simpa only [eqR] using e)
  | .bl _, d2, e, h1, h2 => exact plain h1 h2 (by simpa only [eqR] using e)
  | .int _, d2, e, h1, h2 => exact plain h1 h2 (by simpa only [eqR] using e)
  | .str _, d2, e, h1, h2 => exact plain h1 h2 (by simpa only [eqR] using e)
  | .tup _, .non, e, h1, h2 => exact plain h1 h2 (by simpa only [eqR] using e)
  | .tup _, .bl _, e, h1, h2 => exact plain h1 h2 (by simpa only [eqR] using e)
  | .tup _, .int _, e, h1, h2 => exact plain h1 h2 (by simpa only [eqR] using e)
  | .tup _, .str _, e, h1, h2 => exact plain h1 h2 (by simpa only [eqR] using e)
  | .tup _, .tup _, e, h1, h2 => exact plain h1 h2 (by simpa only [eqR] using e)
  | .loc _, .bl _, e, h1, h2 => simp [eqR, flat] at e
  | .loc _, .int _, e, h1, h2 => simp [eqR, flat] at e
  | .loc _, .str _, e, h1, h2 => simp [eqR, flat] at e
def eqV (L : Nat) : D → D → Stor → R D := fun d1 d2 st => match eqR L d1 d2 st with | some k => .ok (.bl k) st | none => .bad
def neV (L : Nat) : D → D → Stor → R D := fun d1 d2 st => match eqR L d1 d2 st with | some k => .ok (.bl (!k)) st | none => .bad
theorem op_eqV (hu : X.A.units + L < cLine) : OpR X (compareOp .Eq) (rM X (eqV L)) := by
  rintro pins s σ H x y v u Q I rx ry ⟨μ, st, dx, dy, hs, hx, hy, hp⟩
  unfold eqV at hp
  cases e : eqR L dx dy st with
  | none => rw [e] at hp; exact hp.elim
  | some k =>
    rw [e] at hp
    exact (eqR_at I hs e hu hx hy rx ry).1 X.prog X.w X.xe _ ⟨.bl k, H, I, rfl, hp.ret hs (RepV.bl_iff.mpr rfl)⟩
theorem op_neV (hu : X.A.units + L < cLine) : OpR X (compareOp .NotEq) (rM X (neV L)) := by
  rintro pins s σ H x y v u Q I rx ry ⟨μ, st, dx, dy, hs, hx, hy, hp⟩
  unfold neV at hp
  cases e : eqR L dx dy st with
  | none => rw [e] at hp; exact hp.elim
  | some k =>
    rw [e] at hp
    exact (eqR_at I hs e hu hx hy rx ry).2 X.prog X.w X.xe _ ⟨.bl (!k), H, I, rfl, hp.ret hs (RepV.bl_iff.mpr rfl)⟩
end
end M
namespace M
open PySem PySem.Spec L2
/-! ### methods of lists and texts -/
def isTy (T : String) (d : D) (st : Stor) : Bool := match d with
  | .str _ => T == "str"
  | .loc n => (match st[n]? with
    | some (.lst _) => T == "list"
    | some (.frz _) => T == "list"
    | some (.dic _) => T == "dict"
    | some (.dkc _) => T == "dict"
    | _ => false)
  | _ => false
section
variable {X : Cx} {e a b c o : Expr} {es : List Expr} {ma mb mc mo : ME} {mA : MA} {pos p2 p apos cpos : Pos} {T id : String} {name : Str} {g : D → List D → Stor → R D}
theorem isTy_ok {μ : List Addr} {H : Hp} {d : D} {st : Stor} {v : V} (h : isTy T d st = true) (hs : RepS X.K μ H st) (hv : RepV X.K μ H d v) : tyV X.K T v H := by
  cases d with
  | str cs => rw [RepV.str_iff] at hv; subst hv; exact eq_of_beq h
  | loc n =>
    obtain ⟨p, q1, rfl⟩ := RepV.loc_iff.mp hv
    simp only [isTy] at h
    cases e : st[n]? with
    | none => rw [e] at h; cases h
    | some o =>
      rw [e] at h
      obtain ⟨p', r1, r2⟩ := hs.at_ n o e
      rw [q1] at r1; cases r1
      cases o with
      | lst ds => obtain ⟨xs, r3, _⟩ := r2; exact .inl ⟨eq_of_beq h, xs, SqL.of r3⟩
      | frz ds => obtain ⟨xs, r3, _⟩ := r2; exact .inl ⟨eq_of_beq h, xs, r3.sqL⟩
      | dic ds => obtain ⟨xs, r3, _⟩ := r2; exact .inr (.inr (.inl ⟨eq_of_beq h, .inr ⟨xs, r3⟩⟩))
      | dkc ds => obtain ⟨xs, r3, _⟩ := r2; exact .inr (.inr (.inl ⟨eq_of_beq h, .inl ⟨xs, r3⟩⟩))
      | _ => cases h
  | _ => simp [isTy] at h
def methE (T : String) (g : D → List D → Stor → R D) (mo : ME) (mA : MA) : ME := fun env st => (mo env st).bind fun x st1 => if isTy T x st1 = true then (mA env st1).bind fun xs st2 => g x xs st2 else .bad
def meth0E (T : String) (g : D → List D → Stor → R D) (mo : ME) : ME := fun env st => (mo env st).bind fun x st1 => if isTy T x st1 = true then g x [] st1 else .bad
theorem je_meth (pa : PlainAttrs T) (slot : Slot T name id) (hty : typeOf (.builtin id) = pure (.type "method_descriptor")) (hm : MtR X id (rMM X g)) (ho : JE X o mo) (ha : JA X (e :: es) mA)
    (hbase : attributeBase o name X.env (eval o X.env) = eval o X.env := by rfl)
    (hfew : ((backTo cpos (starEach (e :: es) X.env)).all (fun x => !x.1) && (backToKw cpos (keywordEach [] X.env)).all (fun x => x.1.isSome)
      && decide ((e :: es).length + ([] : List Keyword).length + (if ([] : List Keyword).isEmpty then 0 else 1) < 30)) = true := by rfl)
    (hline : (apos.endLine == cpos.line) = true := by rfl) (hs : starEach (e :: es) X.env = (false, eval e X.env) :: starEach es X.env := by rfl) (hplain : (backTo cpos (starEach es X.env)).any (·.1) = false := by rfl) : JE X (.Call (.Attribute o name apos) (e :: es) [] cpos) (methE T g mo mA) := by
  refine JE.of (pe_bm pa slot hty hm ho ha hbase hfew hline hs hplain) fun σ H Q ⟨μ, env, st, hE, hs, hp⟩ => ⟨μ, env, st, hE, hs, (Post.bind hp).imp ?_⟩
  rintro x H1 ⟨μ1, st1, d, g1, hs1, hx, hp1⟩
  dsimp only at hp1
  split at hp1
  · rename_i hT
    refine ⟨isTy_ok hT hs1 hx, μ1, env, st1, hE.mono g1, hs1, (Post.bind hp1).imp ?_⟩
    rintro xs H2 ⟨μ2, st2, ds, g2, hs2, hxs, hp2⟩
    exact ⟨μ2, st2, d, ds, hs2, hx.mono g2 _, hxs, hp2⟩
  · exact hp1.elim
/-! lists -/
def appendV : D → List D → Stor → R D
  | .loc n, [d], st => match st[n]? with
    | some (.lst ds) => if ds.length < 1000000 then .ok .non (st.set n (.lst (ds ++ [d]))) else .bad
    | _ => .bad
  | _, _, _ => .bad
/-- a method that rewrites a list and hands back None -/
theorem wr_lst {μ : List Addr} {H : Hp} {st : Stor} {n : Nat} {ds ds' : List D} {p : Addr} {xs ys : List V} {Q : VK} (hp : Post X μ H (relV X) Q (.ok .non (st.set n (.lst ds')))) (hs : RepS X.K μ H st) (e : st[n]? = some (.lst ds)) (hq : μ[n]? = some p) (hx : H p = some (.lst xs)) (hy : RepVs X.K μ H ds' ys) :
    Q .non (upd H p (.lst ys)) := by
  obtain ⟨g, hs'⟩ := putLst hs e hq hx hy
  exact hp _ _ μ g hs' (RepV.non_iff.mpr rfl)
theorem mt_appendV : MtR X "list.append" (rMM X appendV) := by
  refine MtR.weak mt_append ?_
  rintro x xs H Q ⟨μ, st, d, ds, hs, hx, hxs, hp⟩
  unfold appendV at hp
  split at hp
  · rename_i n d' 
    cases e : st[n]? with
    | none => rw [e] at hp; exact hp.elim
    | some mo =>
      cases mo with
      | lst l =>
        rw [e] at hp
        dsimp only at hp
        split at hp
        · rename_i hl
          obtain ⟨p, q1, rfl⟩ := RepV.loc_iff.mp hx
          obtain ⟨y, rfl, q2⟩ := RepVs.one hxs
          obtain ⟨p', ys, r1, r2, r3⟩ := hs.lst e
          rw [q1] at r1; cases r1
          refine ⟨p, ys, y, rfl, rfl, r2, by rw [← r3.length]; exact Nat.lt_of_lt_of_le hl (by decide), wr_lst hp hs e q1 r2 (r3.append (RepVs.cons q2 RepVs.nil))⟩
        · exact hp.elim
      | _ => rw [e] at hp; exact hp.elim
  · exact hp.elim
def clearV : D → List D → Stor → R D
  | .loc n, [], st => match st[n]? with
    | some (.lst ds) => .ok .non (st.set n (.lst []))
    | _ => .bad
  | _, _, _ => .bad
/-! all, any of a list of bools -/
def boolsOf : List D → Option (List Bool)
  | [] => some []
  | .bl b :: r => (boolsOf r).map (b :: ·)
  | _ :: _ => none
theorem bools_are {μ : List Addr} {H : Hp} : ∀ {ds : List D} {xs : List V} {us : List Value} {bs : List Bool}, boolsOf ds = some bs → RepVs X.K μ H ds xs → Vals xs us → PyProof.Rows.LSm.BoolsAre us bs
  | [], _, _, _, e, h, r => by cases e; rw [RepVs] at h; subst h; cases r; exact .nil
  | d :: ds, _, _, bs, e, h, r => by
    rw [RepVs] at h
    obtain ⟨v, t, rfl, h1, h2⟩ := h
    cases r with
    | cons r1 r2 =>
    cases d with
    | bl b =>
      simp only [boolsOf] at e
      cases q : boolsOf ds with
      | none => rw [q] at e; cases e
      | some bs' =>
        rw [q] at e; cases e
        rw [RepV.bl_iff] at h1; subst h1
        cases (show _ = Value.bool b from r1)
        exact .cons b (bools_are q h2 r2)
    | _ => simp [boolsOf] at e
def allV (f : List Bool → Bool) : List D → Stor → R D
  | [.loc n], st => match (itemsAt st n).bind boolsOf with | some bs => .ok (.bl (f bs)) st | none => .bad
  | _, _ => .bad
theorem all_any {f : List Bool → Bool} {id : String} (rule : ∀ (s : Shared) (l : Addr) (vs : List Value) (bs : List Bool) (Q : Value → Shared → Prop), X.A.handled = none → s.heap.IsList l vs.toArray → PyProof.Rows.LSm.BoolsAre vs bs →
      (∀ h' tk, (∀ b o, s.heap.get? b = some o → h'.get? b = some o) → Q (.bool (f bs)) { s with heap := h', toks := tk }) → wpAny (model X.prog X.w) X.A (call (.builtin id) [.ref l]) Q X.xe s) (hc : X.A.handled = none) : CallR X (.builtin id) (rMC X (allV f)) := by
  rintro pins s σ H xs us Q I hr ⟨μ, st, ds, hs, hv, hp⟩
  unfold allV at hp
  split at hp
  · rename_i n
    cases e : itemsAt st n with
    | none => rw [e] at hp; exact hp.elim
    | some l =>
      rw [e] at hp
      cases e2 : boolsOf l with
      | none => simp only [Option.bind_some, e2] at hp; exact hp.elim
      | some bs =>
        simp only [Option.bind_some, e2] at hp
        obtain ⟨v, rfl, q⟩ := RepVs.one hv
        obtain ⟨p, q1, rfl⟩ := RepV.loc_iff.mp q
        obtain ⟨p', ys, r1, r2, r3⟩ := hs.items e
        rw [q1] at r1; cases r1
        obtain ⟨u, rfl, ru⟩ := vals1 hr
        cases (show u = Value.ref p from ru)
        obtain ⟨its, rv, pl, _⟩ := I.list r2
        exact rule s p its bs _ hc pl.isList (bools_are e2 r3 rv) fun h' tk hk => ⟨.bl (f bs), H, I.kept hk, rfl, hp.ret hs (RepV.bl_iff.mpr rfl)⟩
  · exact hp.elim
theorem call_allV (hc : X.A.handled = none) : CallR X (.builtin "all") (rMC X (allV fun bs => bs.all fun b => b)) := by
  refine all_any (fun s l vs bs Q hh hl hb h => ?_) hc
  have hlt : l < s.heap.objs.size := by obtain ⟨_, e, _⟩ := hl; exact Heap.lt_size e
  refine call_all_walk (wpAny_pyIter_list hl ?_)
  refine ⟨s.heap.objs.size, [s.heap.objs.size, l], [s.heap.objs.size], vs.toArray.size, _, _, fun i => (bs[i]?).getD true, rfl, Walks.list (A := X.A.in1) hh _ l (Nat.ne_of_lt hlt) vs.toArray,
    ⟨⟨_, Heap.get?_push_size _ rfl, rfl, rfl⟩, hl.push _⟩, fun i v s' Q' E' hP hQ => ?_, fun h' tk hk => ?_⟩
  · obtain ⟨b, e, rfl⟩ := hb.get i v (by simpa using hP)
    simp only [e, Option.getD_some] at hQ
    exact wpAny_truthy_bool hQ
  · have e : ((List.range vs.toArray.size).all fun i => (bs[i]?).getD true) = bs.all (fun b => b) := by
      rw [List.size_toArray, hb.length]; exact PyProof.Rows.LSm.range_all bs
    rw [e]
    exact h h' tk (PyProof.Rows.LSm.kept_iter hk)
end
end M
namespace M
open PySem PySem.Spec L2
section
variable {X : Cx} {e a b c l : Expr} {es : List Expr} {ma mb mc : ME} {mA : MA} {pos p2 p tpos : Pos} {μ : List Addr} {H : Hp}
/-! ### enumerate, reversed, zip of lists -/
/-- the list at a place, as a guard -/
def lstG (st : Stor) (n : Nat) : Option (List D × MO) := match st[n]? with
  | some (.lst ds) => some (ds, .lst ds)
  | some (.frz ds) => some (ds, .frz ds)
  | _ => none
theorem lstG_items {st : Stor} {n : Nat} {ds : List D} {o : MO} (h : lstG st n = some (ds, o)) : itemsAt st n = some ds ∧ st[n]? = some o ∧ (o = .lst ds ∨ o = .frz ds) := by
  unfold lstG at h
  unfold itemsAt
  split at h
  · rename_i q; cases h; rw [q]; exact ⟨rfl, rfl, .inl rfl⟩
  · rename_i q; cases h; rw [q]; exact ⟨rfl, rfl, .inr rfl⟩
  · cases h
theorem lstG_later {K : PySem.W.Frag} {st' : Stor} {n : Nat} {ds : List D} {o : MO} {μ' : List Addr} {H' : Hp} (ho : o = .lst ds ∨ o = .frz ds) (hs : RepS K μ' H' st') (e : st'[n]? = some o) : ∃ p xs, μ'[n]? = some p ∧ SqL K H' p xs ∧ RepVs K μ' H' ds xs := by
  refine hs.items ?_
  unfold itemsAt
  rcases ho with rfl | rfl <;> rw [e]
def enumL : Nat → List D → List D
  | _, [] => []
  | k, d :: ds => .tup [.int k, d] :: enumL (k + 1) ds
theorem enumL_get : ∀ (ds : List D) (k i : Nat), (enumL k ds)[i]? = (ds[i]?).map fun d => .tup [.int ((k + i : Nat) : Int), d]
  | [], k, i => by simp [enumL]
  | d :: ds, k, 0 => by simp [enumL]
  | d :: ds, k, i + 1 => by
    have := enumL_get ds (k + 1) i
    simp only [enumL, List.getElem?_cons_succ]
    rw [this, show k + 1 + i = k + (i + 1) by omega]
theorem enumL_len : ∀ (ds : List D) (k : Nat), (enumL k ds).length = ds.length
  | [], _ => rfl
  | _ :: ds, k => by simp [enumL, enumL_len ds (k + 1)]
def enumI (mA : MA) : MI := fun env st => (mA env st).bind fun ds st1 => match ds with
  | [.loc n] => (match lstG st1 n with | some (xs, o) => .ok (enumL 0 xs, [(n, o)]) st1 | none => .bad)
  | _ => .bad
theorem ite_rep {n : Nat} {ds : List D} {q : Addr} {o : MO} (ho : o = .lst ds ∨ o = .frz ds) (hp : μ[n]? = some q) : ItRep X μ H (Ite X.K q) (enumL 0 ds, [(n, o)]) := by
  intro H' μ' st' g hs ok
  have e : st'[n]? = some o := (ok (n, o) (by simp))
  obtain ⟨p', xs, q1, q2, q3⟩ := lstG_later ho hs e
  rw [g.get hp] at q1; cases q1
  refine ⟨fun i d hd => ?_, xs, q2, by rw [← q3.length]; show ds.length ≤ (enumL 0 ds).length; rw [enumL_len]; exact Nat.le_refl _⟩
  have hd' : (enumL 0 ds)[i]? = some d := hd
  rw [enumL_get] at hd'
  cases e2 : ds[i]? with
  | none => rw [e2] at hd'; cases hd'
  | some d0 =>
    rw [e2] at hd'; cases hd'
    obtain ⟨v, h1, h2⟩ := q3.get e2
    refine ⟨⟨xs, v, q2, h1⟩, ?_⟩
    rintro x H'' ⟨pp, y, hn, rfl, rfl, hy⟩
    have := hy xs q2
    rw [h1] at this; cases this
    refine ⟨Grow.lay hn, hs.lay hn, RepV.tup_iff.mpr ⟨pp, _, rfl, .inl upd_same, ?_⟩⟩
    exact (RepVs.cons (RepV.int_iff.mpr (by simp)) (RepVs.cons h2 RepVs.nil)).mono (Grow.lay hn) _
theorem ji_enum {elts : List Expr} {x1 : Nat} (ha : JA X [a] mA) (hg : Gl X "enumerate") (hm : X.mg "enumerate" = none) (hs : starEach [a] X.env = [(false, eval a X.env)] := by rfl) : JI X (.Tuple elts x1 tpos) (.Call (.Name "enumerate" p) [a] [] pos) (enumI mA) := by
  refine JI.of (pi_enum hg hm ha hs) fun σ H R ⟨μ, env, st, hE, hs, hp⟩ => ⟨μ, env, st, hE, hs, (Post.bind hp).imp ?_⟩
  rintro vs H1 ⟨μ1, st1, ds, g1, hs1, hv, hp1⟩
  dsimp only at hp1
  split at hp1
  · rename_i n
    cases e : lstG st1 n with
    | none => rw [e] at hp1; exact hp1.elim
    | some y =>
      obtain ⟨xs, o⟩ := y
      rw [e] at hp1
      obtain ⟨k1, k2, k3⟩ := lstG_items e
      obtain ⟨v, rfl, q1⟩ := RepVs.one hv
      obtain ⟨q, q2, rfl⟩ := RepV.loc_iff.mp q1
      obtain ⟨q', zs, r1, r2, r3⟩ := hs1.items k1
      rw [q2] at r1; cases r1
      exact ⟨q, rfl, ⟨zs, r2⟩, hp1 _ _ _ (.refl _ _) hs1 (ite_rep k3 q2)⟩
  · exact hp1.elim
def revI (mA : MA) : MI := fun env st => (mA env st).bind fun ds st1 => match ds with
  | [.loc n] => (match lstG st1 n with | some (xs, o) => .ok (xs.reverse, [(n, o)]) st1 | none => .bad)
  | _ => .bad
def zipI (mA : MA) : MI := fun env st => (mA env st).bind fun ds st1 => match ds with
  | [.loc m, .loc n] => (match lstG st1 m, lstG st1 n with | some (xs, o), some (ys, u) => .ok (List.zipWith (fun x y => .tup [x, y]) xs ys, [(m, o), (n, u)]) st1 | _, _ => .bad)
  | _ => .bad
end
end M
namespace M
open PySem PySem.Spec L2
/-! ### [e for t in it if c] -/
def PostK {α β : Type} (K : PySem.W.Frag) (μ : List Addr) (H : Hp) (rel : Rel α β) (Q : β → Hp → Prop) (r : R α) : Prop := match r with
  | .ok a st => ∀ (b : β) (H' : Hp) (μ' : List Addr), Grow μ H μ' H' → RepS K μ' H' st → rel μ' H' a b → Q b H'
  | _ => False
def tK {α β : Type} (K : PySem.W.Frag) (rel : Rel α β) (m : MEnv → Stor → R α) : L2.St → Hp → (β → Hp → Prop) → Prop := fun σ H Q => ∃ μ env st, RepE K μ H env σ ∧ RepS K μ H st ∧ PostK K μ H rel Q (m env st)
def tKG (K : PySem.W.Frag) (m : MG) : TG := fun v σ H Q => ∃ μ env st d, RepE K μ H env σ ∧ RepS K μ H st ∧ RepV K μ H d v ∧ PostK K μ H (fun μ H env σ => RepE K μ H env σ) Q (m d env st)
theorem PostK.post {α β : Type} {X : Cx} {μ : List Addr} {H : Hp} {rel : Rel α β} {Q : β → Hp → Prop} {r : R α} (h : PostK X.K μ H rel Q r) : Post X μ H rel Q r := by
  cases r with
  | ok a st => exact h
  | err x st => exact h.elim
  | bad => exact h.elim
theorem PostK.mono {α β : Type} {K : PySem.W.Frag} {μ μ1 : List Addr} {H H1 : Hp} {rel : Rel α β} {Q : β → Hp → Prop} {r : R α} (g : Grow μ H μ1 H1) (h : PostK K μ H rel Q r) : PostK K μ1 H1 rel Q r := by
  cases r with
  | ok a st => exact fun b H' μ' g' => h b H' μ' (g.trans g')
  | err x st => exact h.elim
  | bad => exact h.elim
/-- the block's names: what is taken from around, and its own -/
def captE (capt : List (Option Nat)) (env : MEnv) : MEnv := capt.map fun o => o.bind fun j => (env[j]?).join
open Classical in
noncomputable def compGo (g : MG) (t : MT) (e : ME) (gs : List (Nat × MO)) (n : Nat) : List D → MEnv → Stor → R D
  | [], _, st => if okG gs st then .ok (.loc n) st else .bad
  | d :: r, env, st => if okG gs st then (g d env st).bind fun env1 st1 => (t env1 st1).bind fun ok st2 => if ok then (e env1 st2).bind fun y st3 => (match st3[n]? with
      | some (.lst xs) => if xs.length < 1000000 then compGo g t e gs n r env1 (st3.set n (.lst (xs ++ [y]))) else .bad
      | _ => .bad) else compGo g t e gs n r env1 st2 else .bad
noncomputable def compE (capt : List (Option Nat)) (mi : MI) (g : MG) (t : MT) (e : ME) : ME := fun env st => (mi env st).bind fun s st1 => (compGo g t e s.2 st1.length s.1 (captE capt env) (st1 ++ [.lst []])).sure
def yesT : MT := fun _ st => .ok true st
section
variable {X : Cx} {elt tg iter c : Expr} {ifs : List Expr} {scope : Scope} {pos : Pos} {N : List Str} {capt : List (Option Nat)} {mi : MI} {g : MG} {t : MT} {me : ME}
theorem RepE.taken {K : PySem.W.Frag} {μ : List Addr} {H : Hp} {env : MEnv} {σ : L2.St} (cp : List (Option Nat)) (h : RepE K μ H env σ) : RepE K μ H (captE cp env) (captSt cp σ) := by
  refine ⟨by simp [captE, captSt], fun i d e => ?_⟩
  unfold captE at e
  unfold captSt
  rw [List.getElem?_map] at e ⊢
  cases q : cp[i]? with
  | none => rw [q] at e; cases e
  | some o =>
    rw [q] at e
    cases o with
    | none => cases e
    | some j =>
      have e' : (env[j]?).join = some d := by simpa using e
      have e2 : env[j]? = some (some d) := by
        cases z : env[j]? with
        | none => rw [z] at e'; cases e'
        | some y => rw [z] at e'; cases e'; rfl
      obtain ⟨v, h1, h2⟩ := h.at_ j d e2
      exact ⟨v, by simp [h1], h2⟩
/-- a step of a result that is sure -/
theorem PostK.val {α β γ : Type} {K : PySem.W.Frag} {μ : List Addr} {H : Hp} {rel : Rel α β} {r : R α} {f : α → Stor → R γ} {G : List Addr → Hp → R γ → Prop} (hG : ∀ μ μ1 H H1 r, Grow μ H μ1 H1 → G μ H r → G μ1 H1 r) (hb : ∀ μ H, ¬ G μ H .bad) (he : ∀ μ H x st, ¬ G μ H (.err x st))
    (h : G μ H (r.bind f)) : PostK K μ H rel (fun b H1 => ∃ μ1 st1 a, Grow μ H μ1 H1 ∧ RepS K μ1 H1 st1 ∧ rel μ1 H1 a b ∧ G μ1 H1 (f a st1)) r := by
  cases r with
  | ok a st => exact fun b H' μ' g h1 h2 => ⟨μ', st, a, g, h1, h2, hG _ _ _ _ _ g h⟩
  | err x st => exact (he _ _ _ _ h).elim
  | bad => exact (hb _ _ h).elim
/-- what is wanted behind the block -/
def EndG (X : Cx) (Q : VK) : List Addr → Hp → R D → Prop := fun μ H r => PostK X.K μ H (relV X) Q r
theorem tComp_of {σ : L2.St} {H : Hp} {Q : VK} (h : tM X (compE capt mi g t me) σ H Q) : tComp capt (tMI X mi) (tKG X.K g) (tK X.K relB t) (tK X.K (relV X) me) σ H Q := by
  obtain ⟨μ, env, st, hE, hs, hp⟩ := h
  refine ⟨μ, env, st, hE, hs, (Post.bind hp).imp ?_⟩
  rintro J H1 ⟨μ1, st1, s, g1, hs1, hJ, hp1⟩
  dsimp only at hp1
  have hp2 : EndG X Q μ1 H1 (compGo g t me s.2 st1.length s.1 (captE capt env) (st1 ++ [.lst []])) := by
    cases hr : compGo g t me s.2 st1.length s.1 (captE capt env) (st1 ++ [.lst []]) with
    | ok d st2 => rw [hr] at hp1; exact hp1
    | err y st2 => rw [hr] at hp1; exact hp1.elim
    | bad => rw [hr] at hp1; exact hp1.elim
  have mG : ∀ μ μ1 H H1 r, Grow μ H μ1 H1 → EndG X Q μ H r → EndG X Q μ1 H1 r := fun μ μ1 H H1 r g h => PostK.mono g h
  have nb : ∀ μ H, ¬ EndG X Q μ H .bad := fun μ H h => h
  have ne : ∀ μ H x st, ¬ EndG X Q μ H (.err x st) := fun μ H x st h => h
  intro D hD
  have gD : Grow μ1 H1 (μ1 ++ [D]) (upd H1 D (.lst [])) := Grow.new hD
  have sD : RepS X.K (μ1 ++ [D]) (upd H1 D (.lst [])) (st1 ++ [.lst []]) := hs1.new hD ⟨[], upd_same, RepVs.nil⟩
  have nD : (μ1 ++ [D])[st1.length]? = some D := by rw [← hs1.len]; simp
  refine ⟨fun i k σ' H' => ∃ μ2 env2 st2, Grow (μ1 ++ [D]) (upd H1 D (.lst [])) μ2 H' ∧ RepE X.K μ2 H' env2 σ' ∧ RepS X.K μ2 H' st2 ∧ EndG X Q μ2 H' (compGo g t me s.2 st1.length (s.1.drop i) env2 st2) ∧ i ≤ s.1.length ∧ k = s.1.length - i,
    ⟨_, μ1 ++ [D], captE capt env, _, .refl _ _, (hE.mono (g1.trans gD)).taken capt, sD, by simpa using mG _ _ _ _ _ gD hp2, Nat.zero_le _, rfl⟩, ?_⟩
  rintro i k σ2 H2 ⟨μ2, env2, st2, g2, hE2, hs2, hp3, hi, rfl⟩
  have atD : μ2[st1.length]? = some D := g2.get nD
  by_cases hlt : i < s.1.length
  · have e1 : s.1.drop i = s.1[i] :: s.1.drop (i + 1) := List.drop_eq_getElem_cons hlt
    rw [e1, compGo] at hp3
    by_cases ok : okG s.2 st2
    · rw [if_pos ok] at hp3
      obtain ⟨q1, q2⟩ := (hJ H2 μ2 st2 (gD.trans g2) hs2 ok).1 i s.1[i] (List.getElem?_eq_getElem hlt)
      refine .inr ⟨q1, fun σ' H' => ∃ μ3 env3 st3, Grow (μ1 ++ [D]) (upd H1 D (.lst [])) μ3 H' ∧ RepE X.K μ3 H' env3 σ' ∧ RepS X.K μ3 H' st3 ∧ EndG X Q μ3 H' (compGo g t me s.2 st1.length (s.1.drop (i + 1)) env3 st3), ?_, ?_⟩
      · rintro σ' H' ⟨μ3, env3, st3, g3, hE3, hs3, hp4⟩
        exact ⟨s.1.length - (i + 1), by omega, μ3, env3, st3, g3, hE3, hs3, hp4, by omega, rfl⟩
      · intro x H3 hx
        obtain ⟨g3, hs3, hd⟩ := q2 x H3 hx
        refine ⟨μ2, env2, st2, s.1[i], hE2.mono g3, hs3, hd, ?_⟩
        have w1 := PostK.val (K := X.K) (rel := fun μ H env σ => RepE X.K μ H env σ) mG nb ne (mG _ _ _ _ _ g3 hp3)
        cases hr1 : g s.1[i] env2 st2 with
        | bad => rw [hr1] at w1; exact w1
        | err y z => rw [hr1] at w1; exact w1
        | ok env4 st4 =>
          rw [hr1] at w1
          intro σ4 H4 μ4 g4 hs4 hE4
          obtain ⟨μ4', st4', env4', g4', hs4', hE4', hp4⟩ := w1 σ4 H4 μ4 g4 hs4 hE4
          refine ⟨μ4', env4', st4', hE4', hs4', ?_⟩
          have w2 := PostK.val (K := X.K) (rel := relB) mG nb ne hp4
          cases hr2 : t env4' st4' with
          | bad => rw [hr2] at w2; exact w2
          | err y z => rw [hr2] at w2; exact w2
          | ok b5 st5 =>
            rw [hr2] at w2
            intro b H5 μ5 g5 hs5 hb5
            obtain ⟨μ5', st5', b5', g5', hs5', hb5', hp5⟩ := w2 b H5 μ5 g5 hs5 hb5
            subst hb5'
            have gg : Grow (μ1 ++ [D]) (upd H1 D (.lst [])) μ5' H5 := ((g2.trans g3).trans g4').trans g5'
            cases b5' with
            | false => exact iteF ⟨μ5', env4', st5', gg, hE4'.mono g5', hs5', by simpa using hp5⟩
            | true =>
              refine iteT ⟨μ5', env4', st5', hE4'.mono g5', hs5', ?_⟩
              have hp5' : EndG X Q μ5' H5 ((me env4' st5').bind fun y st3 => (match st3[st1.length]? with
                | some (.lst xs) => if xs.length < 1000000 then compGo g t me s.2 st1.length (s.1.drop (i + 1)) env4' (st3.set st1.length (.lst (xs ++ [y]))) else .bad
                | _ => .bad)) := by simpa using hp5
              have w3 := PostK.val (K := X.K) (rel := relV X) mG nb ne hp5'
              cases hr3 : me env4' st5' with
              | bad => rw [hr3] at w3; exact w3
              | err y z => rw [hr3] at w3; exact w3
              | ok y6 st6 =>
                rw [hr3] at w3
                intro v H6 μ6 g6 hs6 hv6
                obtain ⟨μ6', st6', y6', g6', hs6', hv6', hp6⟩ := w3 v H6 μ6 g6 hs6 hv6
                have gg6 := gg.trans g6'
                have atD6 : μ6'[st1.length]? = some D := gg6.get nD
                cases e6 : st6'[st1.length]? with
                | none => rw [e6] at hp6; exact hp6.elim
                | some mo =>
                  cases mo with
                  | lst xs =>
                    rw [e6] at hp6
                    dsimp only at hp6
                    split at hp6
                    · rename_i hl
                      obtain ⟨p', ys, r1, r2, r3⟩ := hs6'.lst e6
                      rw [atD6] at r1; cases r1
                      obtain ⟨g7, hs7⟩ := putLst hs6' e6 atD6 r2 (r3.append (RepVs.cons hv6' RepVs.nil))
                      refine ⟨ys, r2, by rw [← r3.length]; exact Nat.lt_of_lt_of_le hl (by decide), μ6', env4', _, gg6.trans g7, ((hE4'.mono g5').mono g6').mono g7, hs7, mG _ _ _ _ _ g7 hp6⟩
                    · exact hp6.elim
                  | _ => rw [e6] at hp6; exact hp6.elim
    · rw [if_neg ok] at hp3; exact hp3.elim
  · have e1 : s.1.drop i = [] := List.drop_eq_nil_of_le (by omega)
    rw [e1, compGo] at hp3
    have e2 : i = s.1.length := by omega
    by_cases ok : okG s.2 st2
    · rw [if_pos ok] at hp3
      refine .inl ⟨by rw [e2]; exact (hJ H2 μ2 st2 (gD.trans g2) hs2 ok).2, ?_⟩
      exact hp3 _ H2 μ2 (.refl _ _) hs2 (RepV.loc_iff.mpr ⟨D, atD, rfl⟩)
    · rw [if_neg ok] at hp3; exact hp3.elim
theorem pe_tK {X' : Cx} {e : Expr} {m : ME} (h : JE X' e m) : PE X' e (tK X'.K (relV X') m) := fun pins s σ H Q I ⟨μ, env, st, a, b, c⟩ => h pins s σ H Q I ⟨μ, env, st, a, b, c.post⟩
theorem pg_tK {X' : Cx} {e : Expr} {m : MG} (h : JG X' e m) : PG X' e (tKG X'.K m) := fun pins s σ H v u Q I r ⟨μ, env, st, d, a, b, b2, c⟩ => h pins s σ H v u Q I r ⟨μ, env, st, d, a, b, b2, c.post⟩
def JTs (X : Cx) (ifs : List Expr) (m : MT) : Prop := PTs X ifs (tK X.K relB m)
theorem jts_nil {X' : Cx} : JTs X' [] yesT := fun pins s σ H Q I ⟨μ, env, st, a, b, c⟩ => pts_nil pins s σ H Q I (c true H μ (.refl _ _) b rfl)
/-- what a block takes from around stands in cells there -/
def FreeOk (sc sc0 : Scope) : Prop := ∀ x ∈ sc.names, x.2 = .free → sc0.names.lookup x.1 = some .cell ∨ sc0.names.lookup x.1 = some .free
instance (sc sc0 : Scope) : Decidable (FreeOk sc sc0) := inferInstanceAs (Decidable (∀ x ∈ sc.names, x.2 = .free → sc0.names.lookup x.1 = some .cell ∨ sc0.names.lookup x.1 = some .free))
theorem je_comp {sc0 : Scope} (hi : JI X tg iter mi) (S : CompScope scope) (hfr : FreeOk scope sc0) (hcap : Capt X scope capt N) (hc : X.calm = true)
    (hg : ∀ cl C fp s H, JG (compCx X N scope cl C fp s H) tg g) (ht : ∀ cl C fp s H, JTs (compCx X N scope cl C fp s H) ifs t) (he : ∀ cl C fp s H, JE (compCx X N scope cl C fp s H) elt me)
    (h0 : X.env.scope = sc0 := by rfl) (hs : ∀ x, foldedSetIterable iter X.env x = pure x := by intro _; rfl) : JE X (.ListComp elt [⟨tg, iter, ifs, 0⟩] scope pos) (compE capt mi g t me) :=
  JE.of (pe_comp (g := tKG X.K g) (tt := tK X.K relB t) (te := tK X.K (relV X) me) hi S (by subst h0; exact hfr) hcap hc (fun cl C fp s H => pg_tK (hg cl C fp s H)) ht (fun cl C fp s H => pe_tK (he cl C fp s H)) hs) fun σ H Q h => tComp_of h
theorem js_setComp (i : Nat) {y : Str} {py spos : Pos} {sc0 : Scope} (hi : JI X tg iter mi) (S : CompScope scope) (hfr : FreeOk scope sc0) (hcap : Capt X scope capt N) (hc : X.calm = true)
    (hg : ∀ cl C fp s H, JG (compCx X N scope cl C fp s H) tg g) (ht : ∀ cl C fp s H, JTs (compCx X N scope cl C fp s H) ifs t) (he : ∀ cl C fp s H, JE (compCx X N scope cl C fp s H) elt me)
    (hN : X.N.Nodup) (hy : X.N[i]? = some y := by rfl) (hx : Loc X.env.scope y := by first | exact Or.inl rfl | exact Or.inr rfl) (hsw : swapsWith (.ListComp elt [⟨tg, iter, ifs, 0⟩] scope pos) (some (.Name y py)) spos.line X.env = pure true := by rfl)
    (h0 : X.env.scope = sc0 := by rfl) (hs : ∀ x, foldedSetIterable iter X.env x = pure x := by intro _; rfl) (hf : X.fn y = true ∨ X.env.scope.names.lookup y = some .local := by first | exact .inl rfl | exact .inr rfl | assumption) :
    JS X (.Assign [.Name y py] (.ListComp elt [⟨tg, iter, ifs, 0⟩] scope pos) spos) (setS i (compE capt mi g t me)) := by
  refine JS.of (ps_setComp (g := tKG X.K g) (tt := tK X.K relB t) (te := tK X.K (relV X) me) hN hy hx hsw hi S (by subst h0; exact hfr) hcap hc (fun cl C fp s H => pg_tK (hg cl C fp s H)) ht (fun cl C fp s H => pe_tK (he cl C fp s H)) hs hf) fun E σ H ⟨μ, env, st, hE, hs, hp⟩ => ?_
  refine tComp_of ⟨μ, env, st, hE, hs, (PostS.val hp).imp ?_⟩
  rintro x H1 ⟨μ1, st1, d, g1, hs1, hx, hp1⟩
  exact hp1.nx hs1 ((hE.mono g1).set hx)
end
end M
namespace M
open PySem PySem.Spec L2
theorem lenA_nil : ∀ (env : MEnv) (st : Stor) (as : List D) (st1 : Stor), nilA env st = .ok as st1 → as.length = ([] : List Expr).length := by
  intro env st as st1 h
  cases h; rfl
theorem lenA_cons {e : Expr} {es : List Expr} {a : ME} {r : MA} (h : ∀ (env : MEnv) (st : Stor) (as : List D) (st1 : Stor), r env st = .ok as st1 → as.length = es.length) :
    ∀ (env : MEnv) (st : Stor) (as : List D) (st1 : Stor), consA a r env st = .ok as st1 → as.length = (e :: es).length := by
  intro env st as st1 q
  unfold consA at q
  cases h1 : a env st with
  | bad => rw [h1] at q; cases q
  | err x s => rw [h1] at q; cases q
  | ok x s =>
    rw [h1, R.bind_ok] at q
    cases h2 : r env s with
    | bad => rw [h2] at q; cases q
    | err x s => rw [h2] at q; cases q
    | ok xs s2 =>
      rw [h2, R.bind_ok] at q
      cases q
      rw [List.length_cons, List.length_cons, h env s xs _ h2]
theorem hu200 {A : Around} {k : Nat} (hr : Room k A) : A.units + 200 < cLine := by have := hr.un; omega
/-- enough for any while -/
def fuel : Nat := 1000000
/-- the script as the law finds it -/
theorem script_rep {K : PySem.W.Frag} {H : Hp} {a : Addr} {ns : List Int} (hO : Only H) (hS : SqL K H a (ns.map V.int)) : RepS K [a] H [.frz (ns.map D.int)] := by
  have hv : ∀ (μ : List Addr) (l : List Int), RepVs K μ H (l.map D.int) (l.map V.int) := fun μ l => by
    induction l with
    | nil => exact RepVs.nil
    | cons i l ih => exact RepVs.cons (RepV.int_iff.mpr rfl) ih
  refine ⟨rfl, fun n o e => ?_, fun i j b oi oj ei ej mi mj _ _ => ?_⟩
  · match n, e with
    | 0, e =>
      simp at e; subst e
      refine ⟨a, rfl, _, ?_, hv _ ns⟩
      rcases hS with (h | ⟨o, h⟩) | h
      · rcases hO a with z | ⟨o, xs, z⟩
        · rw [z] at h; cases h
        · rw [z] at h; cases h
      · exact .inl ⟨o, h⟩
      · exact .inr h
    | n + 1, e => simp at e
  · match i, ei with
    | 0, ei => simp at ei; subst ei; cases mi
    | i + 1, ei => simp at ei
theorem holds_of {l : PySem.W.OpenLaw} {k : Nat} {q : Program} {loose : List Str} {XP : (Str → Option Value) → Heap → Prop} {YP : World → Heap → Prop} {d : DefRec} {K : Params → PySem.W.Frag} {F : FD} {x : Str}
    (hn : l.most = some 63) (hdf : d.params.defaults = []) (hr : Room k callerA)
    (hY : ∀ (w : World) (h : Heap), YP w h → (K w.params).In h)
    (G : ∀ (w : World) (mg : Str → Option Value) (fa : Addr) (h : Heap), (K w.params).In h → h.Ns mainGlobals mg → mg d.name = some (.ref fa) →
      ∃ fd : FuncData, (∀ (s : Shared) (u : Value), BindsTo s fd ⟨[u], []⟩ [(x, u)]) ∧ ∀ base : Heap, (K w.params).In base → base.Ns mainGlobals mg → FnOk l.prog w (K w.params) mg base CX0 k fa fd [x] (spM (K w.params) 1 F))
    (hF : ∀ ns : List Int, ns.length ≤ 63 → ∃ st, F [.loc 0] [.frz (ns.map D.int)] = .ok (.bl true) st) :
    PySem.W.WalkO q loose XP YP l.row.toRowW d [] (fun f vs => PySem.call f vs) :=
  L2.walk_of (n := 63) (k := k) (x := x) (CX := fun _ => CX0) (sp := fun w => spM (K w.params) 1 F) hn (by decide) hdf hr hY G
    (fun w H a ns hl hO hS => by
      obtain ⟨st, e⟩ := hF ns hl
      refine ⟨rfl, [a], [.loc 0], _, RepVs.cons (RepV.loc_iff.mpr ⟨a, rfl, rfl⟩) RepVs.nil, script_rep hO hS, ?_⟩
      rw [e]
      exact fun v H' μ' _ _ hv => RepV.bl_iff.mp hv) fun _ _ _ _ _ z => z
end M
namespace M
open L2
/-! ### running a denotation by the simplifier -/
theorem gc_same {st : Stor} {d : D} (h : under st.length d) : gc st (.ok d st) = .ok d st := by
  have := gc_flat (st := st) (g := []) h
  simpa using this
theorem gc_new0 {st : Stor} {o : MO} (h : underO st.length o) : gc st (.ok (.loc st.length) (st ++ [o])) = .ok (.loc st.length) (st ++ [o]) := by
  have := gc_new (st := st) (g := []) (g' := []) h
  simpa using this
theorem itemsAt_app {st l : Stor} {n : Nat} {ds : List D} (h : itemsAt st n = some ds) : itemsAt (st ++ l) n = some ds := by
  unfold itemsAt at h ⊢
  cases e : st[n]? with
  | none => rw [e] at h; cases h
  | some o =>
    rw [List.getElem?_append_left (List.getElem?_eq_some_iff.mp e).1, e]
    rw [e] at h
    exact h
theorem get_app {st l : Stor} {n : Nat} {o : MO} (h : st[n]? = some o) : (st ++ l)[n]? = some o := by rw [List.getElem?_append_left (List.getElem?_eq_some_iff.mp h).1]; exact h
@[simp] theorem get_app0 {st l : Stor} : (st ++ l)[st.length]? = l[0]? := by rw [List.getElem?_append_right (Nat.le_refl _)]; simp
@[simp] theorem get_appk {st l : Stor} {k : Nat} : (st ++ l)[st.length + k]? = l[k]? := by rw [List.getElem?_append_right (Nat.le_add_right _ _)]; simp
@[simp] theorem set_app0 {st l : Stor} {o : MO} : (st ++ l).set st.length o = st ++ l.set 0 o := by rw [List.set_append_right _ _ (Nat.le_refl _)]; simp
@[simp] theorem items_app0 {st l : Stor} : itemsAt (st ++ l) st.length = itemsAt l 0 := by unfold itemsAt; rw [get_app0]
@[simp] theorem items_appk {st l : Stor} {k : Nat} : itemsAt (st ++ l) (st.length + k) = itemsAt l k := by unfold itemsAt; rw [get_appk]
@[simp] theorem items_cons0 {o : MO} {l : Stor} : itemsAt (o :: l) 0 = (match o with | .lst ds => some ds | .frz ds => some ds | _ => none) := by
  unfold itemsAt; cases o <;> rfl
theorem atI_ofNat {α : Type} (xs : List α) (k : Nat) : atI xs (k : Int) = xs[k]? := by
  unfold atI ixN
  rw [if_pos (by omega)]
  by_cases h : k < xs.length
  · rw [if_pos (by omega)]; simp
  · rw [if_neg (by omega)]; simp; omega
/-! loops -/
theorem forGo_all {g : MG} {b : MS} {gs : List (Nat × MO)} {items : List D} (I : List D → MEnv → Stor → Prop) {env : MEnv} {st : Stor} (h0 : I [] env st)
    (step : ∀ pre d post env st, items = pre ++ d :: post → I pre env st → okG gs st ∧ ∃ env1 st1, g d env st = .ok env1 st1 ∧ ∃ env2 st2, (b env1 st1 = .ok (.nx env2) st2 ∨ b env1 st1 = .ok (.cn env2) st2) ∧ I (pre ++ [d]) env2 st2)
    (hend : ∀ env st, I items env st → okG gs st) : ∃ env' st', forGo g b gs items env st = .ok (.nx env') st' ∧ I items env' st' := by
  have key : ∀ (post pre : List D) (env : MEnv) (st : Stor), items = pre ++ post → I pre env st → ∃ env' st', forGo g b gs post env st = .ok (.nx env') st' ∧ I items env' st' := by
    intro post
    induction post with
    | nil =>
      intro pre env st e hI
      have : items = pre := by simpa using e
      subst this
      exact ⟨env, st, by rw [forGo, if_pos (hend env st hI)], hI⟩
    | cons d post ih =>
      intro pre env st e hI
      obtain ⟨ok, env1, st1, h1, env2, st2, h2, hI2⟩ := step pre d post env st e hI
      obtain ⟨env', st', h3, h4⟩ := ih (pre ++ [d]) env2 st2 (by simp [e]) hI2
      refine ⟨env', st', ?_, h4⟩
      rw [forGo, if_pos ok, h1, R.bind_ok]
      rcases h2 with h2 | h2 <;> (rw [h2, R.bind_ok]; exact h3)
  exact key items [] env st rfl h0
/-- a comprehension whose parts leave the store as it is -/
theorem compE_filter {capt : List (Option Nat)} {mi : MI} {g : MG} {t : MT} {e : ME} {env : MEnv} {st st1 : Stor} {items : List D} {gs : List (Nat × MO)} (p : D → Bool) (f : D → D) (Pe : MEnv → Prop)
    (hi : mi env st = .ok (items, gs) st1) (h0 : Pe (captE capt env)) (hl : items.length ≤ 1000000) (hg : ∀ ys, okG gs (st1 ++ [.lst ys]))
    (step : ∀ d ∈ items, ∀ env' ys, Pe env' → ∃ env1, Pe env1 ∧ g d env' (st1 ++ [.lst ys]) = .ok env1 (st1 ++ [.lst ys]) ∧ t env1 (st1 ++ [.lst ys]) = .ok (p d) (st1 ++ [.lst ys]) ∧
      (p d = true → e env1 (st1 ++ [.lst ys]) = .ok (f d) (st1 ++ [.lst ys]))) :
    compE capt mi g t e env st = .ok (.loc st1.length) (st1 ++ [.lst ((items.filter p).map f)]) := by
  have key : ∀ (post : List D) (env' : MEnv) (ys : List D), (∀ d ∈ post, d ∈ items) → Pe env' → ys.length + post.length ≤ 1000000 →
      compGo g t e gs st1.length post env' (st1 ++ [.lst ys]) = .ok (.loc st1.length) (st1 ++ [.lst (ys ++ (post.filter p).map f)]) := by
    intro post
    induction post with
    | nil => intro env' ys _ _ _; rw [compGo, if_pos (hg ys)]; simp
    | cons d post ih =>
      intro env' ys hm hP hn
      obtain ⟨env1, hP1, h1, h2, h3⟩ := step d (hm d (by simp)) env' ys hP
      have hm' : ∀ d ∈ post, d ∈ items := fun d hd => hm d (List.mem_cons_of_mem _ hd)
      rw [List.length_cons] at hn
      rw [compGo, if_pos (hg ys), h1, R.bind_ok, h2, R.bind_ok]
      cases hp : p d with
      | false =>
        rw [if_neg (by simp), ih env1 ys hm' hP1 (by omega)]
        simp [hp]
      | true =>
        rw [if_pos rfl, h3 hp, R.bind_ok]
        simp only [get_app0, List.getElem?_cons_zero]
        rw [if_pos (by omega), set_app0, List.set_cons_zero, ih env1 (ys ++ [f d]) hm' hP1 (by simp; omega)]
        simp [hp]
  unfold compE
  rw [hi, R.bind_ok, key items (captE capt env) [] (fun d hd => hd) h0 (by simpa using hl)]
  simp
theorem compE_map {capt : List (Option Nat)} {mi : MI} {g : MG} {e : ME} {env : MEnv} {st st1 : Stor} {items : List D} {gs : List (Nat × MO)} (f : D → D) (Pe : MEnv → Prop)
    (hi : mi env st = .ok (items, gs) st1) (h0 : Pe (captE capt env)) (hl : items.length ≤ 1000000) (hg : ∀ ys, okG gs (st1 ++ [.lst ys]))
    (step : ∀ d ∈ items, ∀ env' ys, Pe env' → ∃ env1, Pe env1 ∧ g d env' (st1 ++ [.lst ys]) = .ok env1 (st1 ++ [.lst ys]) ∧ e env1 (st1 ++ [.lst ys]) = .ok (f d) (st1 ++ [.lst ys])) :
    compE capt mi g yesT e env st = .ok (.loc st1.length) (st1 ++ [.lst (items.map f)]) := by
  have := compE_filter (capt := capt) (mi := mi) (g := g) (t := yesT) (e := e) (env := env) (st := st) (fun _ => true) f Pe hi h0 hl hg fun d hd env' ys hP => by
    obtain ⟨env1, a, b, c⟩ := step d hd env' ys hP
    exact ⟨env1, a, b, rfl, fun _ => c⟩
  have e2 : items.filter (fun _ => true) = items := List.filter_eq_self.mpr (by simp)
  rw [e2] at this
  exact this
/-! all the words for the simplifier -/
section
variable (env : MEnv) (st : Stor) (a b : ME) (x y : D) (mA : MA) (tc ta tb : MT) (m1 m2 : MS)
@[simp] theorem r_vr (i : Nat) : vr i env st = match env[i]? with | some (some d) => .ok d st | _ => .bad := by_rfl rfl
@[simp] theorem r_ct (d : D) : ct d env st = .ok d st := by_rfl rfl
@[simp] theorem r_op2 (g : D → D → Stor → R D) : op2 g a b env st = (a env st).bind fun x st1 => (b env st1).bind fun y st2 => g x y st2 := by_rfl rfl
@[simp] theorem r_op1 (g : D → Stor → R D) : op1 g a env st = (a env st).bind fun x st1 => g x st1 := by_rfl rfl
@[simp] theorem r_tB1  : tB1 a env st = (a env st).bind fun x st1 => match x with | .bl b => .ok b st1 | _ => .bad := by_rfl rfl
@[simp] theorem r_tru  : tru a env st = (a env st).bind fun x st1 => match truV x st1 with | some b => .ok b st1 | none => .bad := by_rfl rfl
@[simp] theorem r_andT  : andT ta tb env st = (ta env st).bind fun x st1 => if x then tb env st1 else .ok false st1 := by_rfl rfl
@[simp] theorem r_orT  : orT ta tb env st = (ta env st).bind fun x st1 => if x then .ok true st1 else tb env st1 := by_rfl rfl
@[simp] theorem r_notT  : notT ta env st = (ta env st).bind fun x st1 => .ok (!x) st1 := by_rfl rfl
@[simp] theorem r_andV  : andV a b env st = (a env st).bind fun x st1 => match x with | .bl true => b env st1 | .bl false => .ok (.bl false) st1 | _ => .bad := by_rfl rfl
@[simp] theorem r_notV  : notV a env st = (a env st).bind fun x st1 => match x with | .bl c => .ok (.bl (!c)) st1 | _ => .bad := by_rfl rfl
@[simp] theorem r_nilA  : nilA env st = .ok [] st := by_rfl rfl
@[simp] theorem r_consA  : consA a mA env st = (a env st).bind fun x st1 => (mA env st1).bind fun xs st2 => .ok (x :: xs) st2 := by_rfl rfl
@[simp] theorem r_tupE  : tupE mA env st = (mA env st).bind fun ds st1 => if ds.length ≤ 1000000 then .ok (.tup ds) st1 else .bad := by_rfl rfl
@[simp] theorem r_lstE  : lstE mA env st = (mA env st).bind fun ds st1 => if ds.length ≤ 1000000 then .ok (.loc st1.length) (st1 ++ [.lst ds]) else .bad := by_rfl rfl
@[simp] theorem r_noP  : noP env st = .ok none st := by_rfl rfl
@[simp] theorem r_inP  : inP a env st = (a env st).bind fun x st1 => match x with | .int i => .ok (some i) st1 | _ => .bad := by_rfl rfl
@[simp] theorem r_slE (l h : MP) : slE a l h env st = (a env st).bind fun x st1 => (l env st1).bind fun lo st2 => (h env st2).bind fun hi st3 => slV x lo hi st3 := by_rfl rfl
@[simp] theorem r_callE (g : List D → Stor → R D) : callE g mA env st = (mA env st).bind fun ds st1 => g ds st1 := by_rfl rfl
@[simp] theorem r_skipS  : skipS env st = .ok (.nx env) st := by_rfl rfl
@[simp] theorem r_seqS  : seqS m1 m2 env st = (m1 env st).bind fun o st1 => match o with | .nx env1 => m2 env1 st1 | o => .ok o st1 := by_rfl rfl
@[simp] theorem r_retS  : retS a env st = (a env st).bind fun d st1 => .ok (.rt d) st1 := by_rfl rfl
@[simp] theorem r_exprS  : exprS a env st = (a env st).bind fun _ st1 => .ok (.nx env) st1 := by_rfl rfl
@[simp] theorem r_ifS  : ifS tc m1 m2 env st = (tc env st).bind fun x st1 => if x then m1 env st1 else m2 env st1 := by_rfl rfl
@[simp] theorem r_nameG (i : Nat) : nameG i x env st = .ok (env.set i (some x)) st := by_rfl rfl
@[simp] theorem r_setS (i : Nat) : setS i a env st = (a env st).bind fun d st1 => .ok (.nx (env.set i (some d))) st1 := by_rfl rfl
@[simp] theorem r_nilG  : nilG [] env st = .ok env st := by_rfl rfl
@[simp] theorem r_consG (g : MG) (r : MGs) (d : D) (ds : List D) : consG g r (d :: ds) env st = (g d env st).bind fun env1 st1 => r ds env1 st1 := by_rfl rfl
@[simp] theorem r_tupG (n : Nat) (g : MGs) (ds : List D) : tupG n g (.tup ds) env st = if ds.length = n then g ds env st else .bad := by_rfl rfl
@[simp] theorem r_callF (F : FD) (dd : List D) : callF F dd mA env st = (mA env st).bind fun as st1 => (F (as ++ dd) st1).sure := by_rfl rfl
@[simp] theorem r_methE (T : String) (g : D → List D → Stor → R D) : methE T g a mA env st = (a env st).bind fun x st1 => if isTy T x st1 = true then (mA env st1).bind fun xs st2 => g x xs st2 else .bad := by_rfl rfl
@[simp] theorem r_forS (mi : MI) (g : MG) : forS mi g m1 env st = (mi env st).bind fun s st1 => forGo g m1 s.2 s.1 env st1 := by_rfl rfl
@[simp] theorem r_seqI  : seqI a env st = (a env st).bind fun d st1 => match d with
  | .loc n => (match st1[n]? with
    | some (.lst ds) => .ok (ds, [(n, .lst ds)]) st1
    | some (.frz ds) => .ok (ds, [(n, .frz ds)]) st1
    | _ => .bad)
  | .tup ds => .ok (ds, []) st1
  | _ => .bad := by_rfl rfl
@[simp] theorem r_enumI  : enumI mA env st = (mA env st).bind fun ds st1 => match ds with
  | [.loc n] => (match lstG st1 n with | some (xs, o) => .ok (enumL 0 xs, [(n, o)]) st1 | none => .bad)
  | _ => .bad := by_rfl rfl
@[simp] theorem r_add_int (i j : Int) : addV (.int i) (.int j) st = .ok (.int (i + j)) st := by_rfl rfl
theorem r_mul_int (i j : Int) (h : (-(2 ^ 64) < i ∧ i < 2 ^ 64) ∨ (-(2 ^ 64) < j ∧ j < 2 ^ 64)) : mulV (.int i) (.int j) st = .ok (.int (i * j)) st := by
  unfold mulV intV; dsimp only; rw [if_pos h]
theorem r_fdiv_int (i j : Int) (h : 0 < j ∧ j < 2 ^ 64) : fdivV (.int i) (.int j) st = .ok (.int (i / j)) st := by
  unfold fdivV intV; dsimp only; rw [if_pos h]
theorem r_mod_int (i j : Int) (h : 0 < j) : modV (.int i) (.int j) st = .ok (.int (i % j)) st := by
  unfold modV intV; dsimp only; rw [if_pos h]
@[simp] theorem r_gt_int (i j : Int) : gtV (.int i) (.int j) st = .ok (.bl (decide (j < i))) st := by simp [gtV, intV]
@[simp] theorem r_eq_int (L : Nat) (i j : Int) : eqV (L + 1) (.int i) (.int j) st = .ok (.bl (decide (i = j))) st := by
  have e : (i == j) = decide (i = j) := by rw [Bool.eq_iff_iff]; simp
  simp only [eqV, eqR, eqD, e, flat_int, cdep_int]
  rw [if_pos ⟨trivial, trivial, Nat.succ_pos L⟩]
@[simp] theorem r_ne_int (L : Nat) (i j : Int) : neV (L + 1) (.int i) (.int j) st = .ok (.bl (!decide (i = j))) st := by
  have e : (i == j) = decide (i = j) := by rw [Bool.eq_iff_iff]; simp
  simp only [neV, eqR, eqD, e, flat_int, cdep_int]
  rw [if_pos ⟨trivial, trivial, Nat.succ_pos L⟩]
@[simp] theorem r_eq_str (L : Nat) (i j : List Nat) : eqV (L + 1) (.str i) (.str j) st = .ok (.bl (decide (i = j))) st := by
  have e : (i == j) = decide (i = j) := by rw [Bool.eq_iff_iff]; simp
  simp only [eqV, eqR, eqD, e, flat_str, cdep_str]
  rw [if_pos ⟨trivial, trivial, Nat.succ_pos L⟩]
@[simp] theorem r_ne_str (L : Nat) (i j : List Nat) : neV (L + 1) (.str i) (.str j) st = .ok (.bl (!decide (i = j))) st := by
  have e : (i == j) = decide (i = j) := by rw [Bool.eq_iff_iff]; simp
  simp only [neV, eqR, eqD, e, flat_str, cdep_str]
  rw [if_pos ⟨trivial, trivial, Nat.succ_pos L⟩]
theorem r_ix_loc (n : Nat) (i : Int) (ds : List D) (d : D) (h : itemsAt st n = some ds) (hi : atI ds i = some d) : ixV (.loc n) (.int i) st = .ok d st := by
  simp [ixV, h, hi]
theorem r_ix_tup (i : Int) (ds : List D) (d : D) (hi : atI ds i = some d) : ixV (.tup ds) (.int i) st = .ok d st := by
  simp [ixV, hi]
theorem r_len_loc (n : Nat) (ds : List D) (h : itemsAt st n = some ds) : lenV [.loc n] st = .ok (.int ds.length) st := by simp [lenV, h]
@[simp] theorem r_is_int (T : String) (i : Int) : isV T (.int i) st = .ok (.bl (subTy "int" T)) st := by_rfl rfl
@[simp] theorem r_is_str (T : String) (i : List Nat) : isV T (.str i) st = .ok (.bl (subTy "str" T)) st := by_rfl rfl
@[simp] theorem r_sl_tup (ds : List D) (lo hi : Option Int) : slV (.tup ds) lo hi st = .ok (.tup (cut ds lo hi)) st := by_rfl rfl
end
end M
namespace L2
open PySem PySem.Spec PyProof.Rows
/-! ### lists of pairs as tables -/
section
variable {κ : Type} [DecidableEq κ]
def valV (kvs : List (κ × V)) (k : κ) : Option V := (kvs.find? fun kv => decide (kv.1 = k)).map (·.2)
/-- in its place, or at the end -/
def putK (kvs : List (κ × V)) (k : κ) (v : V) : List (κ × V) :=
  if (kvs.any fun kv => decide (kv.1 = k)) = true then kvs.map (fun kv => if kv.1 = k then (kv.1, v) else kv) else kvs ++ [(k, v)]
def dropK (kvs : List (κ × V)) (k : κ) : List (κ × V) := kvs.filter fun kv => decide (kv.1 ≠ k)
theorem valV_pos {p : κ × V} {r : List (κ × V)} {k : κ} (e : p.1 = k) : valV (p :: r) k = some p.2 := by simp [valV, List.find?_cons, e]
theorem valV_neg {p : κ × V} {r : List (κ × V)} {k : κ} (e : ¬ p.1 = k) : valV (p :: r) k = valV r k := by simp [valV, List.find?_cons, e]
/-- raw tables of the same keys -/
theorem KV.val {kvs : List (κ × V)} {vs : List (κ × Value)} (r : KV kvs vs) (k : κ) : RelO (valV kvs k) (valueAt vs k) := by
  unfold KV at r
  induction r with
  | nil => exact True.intro
  | @cons p q ps qs h t ih =>
    obtain ⟨h1, h2⟩ := h
    by_cases e : p.1 = k
    · have e' : q.1 = k := h1.symm.trans e
      have b : valueAt (q :: qs) k = some q.2 := by simp [valueAt, List.find?_cons, e']
      rw [valV_pos e, b]; exact h2
    · have e' : ¬ q.1 = k := fun z => e (h1.trans z)
      have b : valueAt (q :: qs) k = valueAt qs k := by simp [valueAt, List.find?_cons, e']
      rw [valV_neg e, b]; exact ih
end
/-! ### a tracked dict, its keys ints and texts or tuples of these -/
theorem kV_is {P : Program} {w : World} {k : Key} {u : Value} (r : RelV (kV k) u) : (mixKind P w).is k u = true := by
  cases k with
  | inl i => obtain ⟨t, e⟩ := (show ∃ t, u = Value.int i t from r); subst e; exact mixKind_int P w i t
  | inr x => obtain ⟨t, e⟩ := (show ∃ t, u = Value.str x t from r); subst e; exact mixKind_str P w x t
/-- raw entries of a dict with tuple keys -/
abbrev KT (H : Hp) : List (List Key × V) → List (List Key × Addr × Value) → Prop := Paired fun p q => p.1 = q.1 ∧ H q.2.1 = some (.tup (p.1.map kV)) ∧ RelV p.2 q.2.2
section
variable {P : Program} {w : World} {H : Hp} {h : Heap} {a : Addr}
end
/-- what the dict at a holds at the key y -/
def DGet (H : Hp) (a : Addr) (y : V) (r : Option V) : Prop :=
  (∃ kvs k, Rd H a (.dK kvs) ∧ y = kV k ∧ r = valV kvs k) ∨ ∃ kvs k b, Rd H a (.dT kvs) ∧ y = .ref b ∧ H b = some (.tup (k.map kV)) ∧ r = valV kvs k
/-- the heap behind a[y] = v -/
def DPut (H : Hp) (a : Addr) (y v : V) (H' : Hp) : Prop :=
  (∃ kvs k, H a = some (.dK kvs) ∧ y = kV k ∧ kvs.length < sizeLine ∧ H' = upd H a (.dK (putK kvs k v))) ∨
  ∃ kvs k b, H a = some (.dT kvs) ∧ y = .ref b ∧ H b = some (.tup (k.map kV)) ∧ kvs.length < sizeLine ∧ H' = upd H a (.dT (putK kvs k v))
section
variable {X : Cx} {pins : List (Addr × Obj)} {σ : St} {H : Hp} {s : Shared} {a : Addr} {y v : V} {u r : Value} {o : Option V} {A : Around} {E : Value → Shared → Prop}
end
section
variable {X : Cx} {pins : List (Addr × Obj)} {σ : St} {H : Hp} {s : Shared} {a : Addr} {kvs : List (Key × V)} {k : Key} {u : Value} {A : Around} {E : Value → Shared → Prop}
end
/-! ### readings and rules -/
/-- the element of a subscription, not a slice -/
def NoSl (i : Expr) : Prop := ∀ ov iv, subscripted i false ov iv = operate [ov, iv] (getItem ov iv)
/-- d[y] -/
def tDGet (td ty : TE) : TE := fun σ H Q => td σ H fun x H1 => ty σ H1 fun y H2 => ∃ a v, x = .ref a ∧ DGet H2 a y (some v) ∧ Q v H2
/-- y in d, y not in d -/
def tDIn (ty td : TE) : TE := fun σ H Q => ty σ H fun y H1 => td σ H1 fun x H2 => ∃ a o, x = .ref a ∧ DGet H2 a y o ∧ Q (.bl o.isSome) H2
def tDNotIn (ty td : TE) : TE := fun σ H Q => ty σ H fun y H1 => td σ H1 fun x H2 => ∃ a o, x = .ref a ∧ DGet H2 a y o ∧ Q (.bl (!o.isSome)) H2
/-- d[y] = v -/
def sDPut (td ty tv : TE) : TS := fun D σ H => tv σ H fun v H1 => td σ H1 fun x H2 => ty σ H2 fun y H3 => ∃ a H4, x = .ref a ∧ DPut H3 a y v H4 ∧ D.nx σ H4
/-- d[y] op= v -/
def sDAug (td ty tv : TE) (rd : V → V → Hp → VK → Prop) : TS := fun D σ H => td σ H fun x H1 => ty σ H1 fun y H2 => ∃ a v, x = .ref a ∧ DGet H2 a y (some v) ∧
  tv σ H2 fun y2 H3 => rd v y2 H3 fun z H4 => ∃ H5, DPut H4 a y z H5 ∧ D.nx σ H5
/-- del d[y] -/
def sDDel (td ty : TE) : TS := fun D σ H => td σ H fun x H1 => ty σ H1 fun y H2 => ∃ a kvs k, x = .ref a ∧ H2 a = some (.dK kvs) ∧ y = kV k ∧ (valV kvs k).isSome = true ∧ D.nx σ (upd H2 a (.dK (dropK kvs k)))
section
variable {X : Cx} {o i e value : Expr} {pos pos' tpos : Pos} {td ty tv : TE}
end
/-! ### displays -/
/-- {}, to be a dict of the kind that is wanted -/
def tDNewK : TE := fun _ H Q => ∀ p, H p = none → Q (.ref p) (upd H p (.dK []))
def tDNewT : TE := fun _ H Q => ∀ p, H p = none → Q (.ref p) (upd H p (.dT []))
section
variable {X : Cx} {pos : Pos}
end
/-- the pairs of a display, from the left -/
def tPairs : List (TE × TE) → St → Hp → (List (V × V) → Hp → Prop) → Prop
  | [], _, H, Q => Q [] H
  | (tk, tv) :: r, σ, H, Q => tk σ H fun x H1 => tv σ H1 fun y H2 => tPairs r σ H2 fun ps H3 => Q ((x, y) :: ps) H3
abbrev VV : List (V × V) → List (Value × Value) → Prop := Paired fun p q => RelV p.1 q.1 ∧ RelV p.2 q.2
def PPs (X : Cx) (pos : Pos) (keys : List (Option Expr)) (values : List Expr) (trs : List (TE × TE)) : Prop :=
  ∀ (pins : List (Addr × Obj)) (s : Shared) (σ : St) (H : Hp) (Q : List (V × V) → Hp → Prop), Inv X pins σ H s → tPairs trs σ H Q →
    wpAny (model X.prog X.w) X.A (evalPairs (pairTrees keys values X.env pos)) (fun vs s' => ∃ ps H', Inv X pins σ H' s' ∧ VV ps vs ∧ Q ps H') X.xe s
def mergeK (kvs more : List (Key × V)) : List (Key × V) := more.foldl (fun acc kv => putK acc kv.1 kv.2) kvs
/-- {k: v, ..} with keys ints and texts; the new dict stands empty while the pairs are made -/
def tDisp (trs : List (TE × TE)) : TE := fun σ H Q => ∀ p, H p = none → tPairs trs σ (upd H p (.dK [])) fun ps H2 => H2 p = some (.dK []) ∧ ∃ kvs : List (Key × V), ps = kvs.map (fun kv => (kV kv.1, kv.2)) ∧ kvs.length ≤ 15 ∧ Q (.ref p) (upd H2 p (.dK (mergeK [] kvs)))
/-! ### methods -/
/-- a method call o.m(e) of a built-in, with one argument: what must be seen of the text -/
structure M1 (X : Cx) (o : Expr) (m : Str) (apos : Pos) (e : Expr) (cpos : Pos) : Prop where
  base : attributeBase o m X.env (eval o X.env) = eval o X.env
  few : ((backTo cpos (starEach [e] X.env)).all (fun x => !x.1) && (backToKw cpos (keywordEach [] X.env)).all (fun x => x.1.isSome)
    && decide (([e] : List Expr).length + ([] : List Keyword).length + (if ([] : List Keyword).isEmpty then 0 else 1) < 30)) = true
  line : (apos.endLine == cpos.line) = true
  trees : backTo cpos (starEach [e] X.env) = [(false, eval e X.env)]
structure M2 (X : Cx) (o : Expr) (m : Str) (apos : Pos) (e f : Expr) (cpos : Pos) : Prop where
  base : attributeBase o m X.env (eval o X.env) = eval o X.env
  few : ((backTo cpos (starEach [e, f] X.env)).all (fun x => !x.1) && (backToKw cpos (keywordEach [] X.env)).all (fun x => x.1.isSome)
    && decide (([e, f] : List Expr).length + ([] : List Keyword).length + (if ([] : List Keyword).isEmpty then 0 else 1) < 30)) = true
  line : (apos.endLine == cpos.line) = true
  trees : backTo cpos (starEach [e, f] X.env) = [(false, eval e X.env), (false, eval f X.env)]
/-- a is a dict, whatever its keys -/
def IsD (H : Hp) (a : Addr) : Prop := (∃ kvs, Rd H a (.dK kvs)) ∨ ∃ kvs, Rd H a (.dT kvs)
section
variable {X : Cx} {pins : List (Addr × Obj)} {σ : St} {H : Hp} {s : Shared} {a : Addr} {y d : V} {u r : Value} {o : Option V} {A : Around} {E : Value → Shared → Prop}
end
def tDGet1 (td ty : TE) : TE := fun σ H Q => td σ H fun x H1 => ∃ a, x = .ref a ∧ IsD H1 a ∧ ty σ H1 fun y H2 => ∃ o, DGet H2 a y o ∧ Q (o.getD .non) H2
def tDGet2 (td ty tx : TE) : TE := fun σ H Q => td σ H fun x H1 => ∃ a, x = .ref a ∧ IsD H1 a ∧ ty σ H1 fun y H2 => tx σ H2 fun z H3 => ∃ o, DGet H3 a y o ∧ Q (o.getD z) H3
/-- d.pop(k): there; d.pop(k, x): there or not -/
def tDPop1 (td ty : TE) : TE := fun σ H Q => td σ H fun x H1 => ∃ a, x = .ref a ∧ IsD H1 a ∧ ty σ H1 fun y H2 => ∃ kvs k v, H2 a = some (.dK kvs) ∧ y = kV k ∧ valV kvs k = some v ∧ Q v (upd H2 a (.dK (dropK kvs k)))
def tDPop2 (td ty tx : TE) : TE := fun σ H Q => td σ H fun x H1 => ∃ a, x = .ref a ∧ IsD H1 a ∧ ty σ H1 fun y H2 => tx σ H2 fun z H3 => ∃ kvs k, H3 a = some (.dK kvs) ∧ y = kV k ∧
  (∀ v, valV kvs k = some v → Q v (upd H3 a (.dK (dropK kvs k)))) ∧ (valV kvs k = none → Q z H3)
section
variable {X : Cx} {o e f : Expr} {apos cpos : Pos} {td ty tx : TE}
end
/-! ### dict(d): a copy -/
section
variable {X : Cx} {pins : List (Addr × Obj)} {σ : St} {H : Hp} {s : Shared} {a : Addr} {kvs : List (Key × V)} {A : Around} {E : Value → Shared → Prop}
end
section
variable {X : Cx} {pins : List (Addr × Obj)} {σ : St} {H : Hp} {s : Shared} {a : Addr} {y : V} {u : Value} {A : Around} {E : Value → Shared → Prop}
end
end L2
namespace L2
open PySem PySem.Spec PyProof.Rows
/-! ### d.setdefault(k, v), k a tuple -/
section
variable {X : Cx} {pins : List (Addr × Obj)} {σ : St} {H : Hp} {s : Shared} {a b : Addr} {v : V} {u r : Value} {A : Around} {E : Value → Shared → Prop} {kvs : List (List Key × V)} {k : List Key}
end
end L2
namespace M
open PySem PySem.Spec L2
/-! ### dicts whose keys are tuples of ints and texts -/
def keyOf : D → Option Key
  | .int i => some (.inl i)
  | .str cs => some (.inr (strOf cs))
  | _ => none
def keysOf : List D → Option (List Key)
  | [] => some []
  | d :: ds => (keyOf d).bind fun k => (keysOf ds).map fun ks => k :: ks
def valM (kvs : List (List Key × D)) (k : List Key) : Option D := (kvs.find? fun kv => decide (kv.1 = k)).map (·.2)
section
variable {X : Cx} {e a b c o : Expr} {es : List Expr} {ma mb mc mo : ME} {mA : MA} {pos p2 p apos cpos : Pos}
/-- {} -/
def dicE : ME := fun _ st => .ok (.loc st.length) (st ++ [.dic []])
/-- d.get(k) -/
def getV : D → List D → Stor → R D
  | .loc n, [.tup ks], st => match st[n]?, keysOf ks with
    | some (.dic kvs), some k => .ok ((valM kvs k).getD .non) st
    | _, _ => .bad
  | _, _, _ => .bad
/-- d.setdefault(k, v) -/
def setdefV : D → List D → Stor → R D
  | .loc n, [.tup ks, d], st => match st[n]?, keysOf ks with
    | some (.dic kvs), some k => if kvs.length < 1000000 then (match valM kvs k with
      | some d' => .ok d' st
      | none => .ok d (st.set n (.dic (kvs ++ [(k, d)])))) else .bad
    | _, _ => .bad
  | _, _, _ => .bad
end
end M
namespace L2
open PySem PySem.Spec PyProof.Rows
/-! ### for c in text (of signs below 128) -/
def Its (x : Str) : It := ⟨fun i _ => i < x.cps.size, fun i H y H' => H' = H ∧ ∃ c, x.cps[i]? = some c ∧ y = .str ⟨#[c]⟩, fun i _ => x.cps.size ≤ i⟩
theorem turn_str {P : Program} {w : World} {K : PySem.W.Frag} {tg : Expr} (it : Addr) (x : Str) (t : Tok) : Turn P w K tg (Its x) [it] it (fun i h => h.IsStrIter it "str_ascii_iterator" x t i) where
  mem := by simp
  obj := fun i h st b hb => by
    have e : b = it := by simpa using hb
    subst e
    obtain ⟨o, e, c, d⟩ := st
    exact ⟨o, e, fun v z => by rw [d] at z; cases z⟩
  keep := fun i h h' st k => by
    obtain ⟨o, e, c, d⟩ := st
    exact ⟨o, k it (by simp) o e, c, d⟩
  item := by
    intro X hP hw hK hc i pins s σ H E I hf st hg
    subst hP hw hK
    obtain ⟨f0, f1, f2, f3, f4, f5⟩ := hf it (by simp)
    have hi : i < x.cps.size := hg
    refine wpAny_pyNext_ascii_item st (Array.getElem?_eq_getElem hi) fun h' st' sb => ?_
    have I1 : Inv X pins σ H { s with heap := h', toks := s.toks + 1 } := I.turned (fun b o hb e => (sb.2 b hb).trans e) f0 f1 f3 f4 f5
    obtain ⟨o, e, c, d⟩ := id st'
    exact ⟨_, rfl, go_of (s := { s with heap := h', toks := s.toks + 1 }) e c d (by decide) ⟨.str ⟨#[x.cps[i]]⟩, H, I1, ⟨_, rfl⟩, ⟨rfl, _, Array.getElem?_eq_getElem hi, rfl⟩, st', fun b hb => (hf b hb).1⟩⟩
  done := by
    intro X hP hw hK hc i pins s σ H E I hf st hg
    subst hP hw hK
    obtain ⟨f0, f1, f2, f3, f4, f5⟩ := hf it (by simp)
    have hi : x.cps.size ≤ i := hg
    exact wpAny_pyNext_ascii_end (I.ok.hd hc) st (Array.getElem?_eq_none hi) fun h' eb => ⟨rfl, I.turned (t' := s.toks) (fun b o hb e => eb b o hb e) f0 f1 f3 f4 f5⟩
  self := fun _ _ _ _ _ st h => wpAny_pyIter_striter_ascii st h
def iStr (tl : TE) : TI := fun σ H R => tl σ H fun y H1 => ∃ x, y = .str x ∧ strIterType x = "str_ascii_iterator" ∧ R (Its x) H1
theorem pi_str {X : Cx} {tg l : Expr} {tl : TE} (hl : PE X l tl) : PI X tg l (iStr tl) := by
  intro pins s σ H R I h
  refine thn (hl pins s σ H _ I h) fun v s1 ⟨y, H1, I1, r1, q1⟩ => ?_
  obtain ⟨x, e, ha, q⟩ := q1
  subst e
  obtain ⟨t, rfl⟩ := r1
  refine wpAny_pyIter_strU ?_
  rw [ha]
  refine ⟨s1.heap.objs.size, [s1.heap.objs.size], _, _, H1, rfl, I1.kept (t' := s1.toks) fun b o e => Heap.get?_push_of_some _ e, turn_str _ x t, ⟨_, Heap.get?_push_size _ rfl, rfl, rfl⟩, fun b hb => ?_, q⟩
  have e : b = s1.heap.objs.size := by simpa using hb
  subst e
  exact I1.fpOk (Nat.le_refl _) (I1.hok.fresh (Nat.le_refl _))
end L2
namespace M
open PySem PySem.Spec L2
section
variable {X : Cx} {tg l : Expr} {ml : ME} {μ : List Addr} {H : Hp}
def strI (m : ME) : MI := fun env st => (m env st).bind fun d st1 => match d with
  | .str cs => if cs.all (fun c => decide (c < 128)) = true then .ok (cs.map fun c => D.str [c], []) st1 else .bad
  | _ => .bad
theorem its_rep (cs : List Nat) : ItRep X μ H (Its (strOf cs)) (cs.map fun c => D.str [c], []) := by
  intro H' μ' st' g hs ok
  refine ⟨fun i d e => ?_, by show (strOf cs).cps.size ≤ _; simp⟩
  rw [List.getElem?_map] at e
  obtain ⟨c, e1, rfl⟩ := Option.map_eq_some_iff.mp e
  refine ⟨by show i < (strOf cs).cps.size; simpa using (List.getElem?_eq_some_iff.mp e1).1, ?_⟩
  rintro x H'' ⟨rfl, c', hc, rfl⟩
  have : c' = c := by
    have h2 : cs[i]? = some c' := by simpa using hc
    rw [e1] at h2; exact (Option.some.inj h2).symm
  subst this
  exact ⟨.refl _ _, hs, RepV.str_iff.mpr rfl⟩
theorem ji_str (hl : JE X l ml) : JI X tg l (strI ml) := by
  refine JI.of (pi_str hl) fun σ H R ⟨μ, env, st, hE, hs, hp⟩ => ⟨μ, env, st, hE, hs, (Post.bind hp).imp ?_⟩
  rintro v H1 ⟨μ1, st1, d, g1, hs1, hv, hp1⟩
  dsimp only at hp1
  split at hp1
  · rename_i cs
    split at hp1
    · rename_i hc
      obtain rfl := RepV.str_iff.mp hv
      refine ⟨strOf cs, rfl, ?_, hp1 _ _ _ (.refl _ _) hs1 (its_rep cs)⟩
      unfold strIterType
      rw [if_pos]
      show (cs.toArray.all _) = true
      rw [List.all_toArray]; exact hc
    · exact hp1.elim
  · exact hp1.elim
end
end M
namespace L2
open PySem PySem.Spec PyProof.Rows
end L2
namespace M
open PySem PySem.Spec L2
def intsOf : List D → Option (List Int)
  | [] => some []
  | .int i :: r => (intsOf r).map (i :: ·)
  | _ :: _ => none
def sumV : List D → Stor → R D
  | [.loc n], st => match (itemsAt st n).bind intsOf with | some ns => .ok (.int ns.sum) st | none => .bad
  | _, _ => .bad
end M
namespace M
open L2
/-! ### more rules for running, and plain facts -/
theorem cut_take {α : Type} (xs : List α) (c : Nat) (h : c ≤ xs.length) : cut xs none (some (c : Int)) = xs.take c := by
  unfold cut
  rw [HT.sIx_none, HT.sIx_nat, Nat.min_eq_left h]; simp
theorem cut_drop {α : Type} (xs : List α) (c : Nat) : cut xs (some (c : Int)) none = xs.drop c := by
  unfold cut
  rw [HT.sIx_none, HT.sIx_nat]
  by_cases h : c ≤ xs.length
  · rw [Nat.min_eq_left h, List.take_of_length_le (by simp)]
  · rw [Nat.min_eq_right (by omega), List.drop_eq_nil_of_le (Nat.le_refl _), List.drop_eq_nil_of_le (by omega)]; simp
theorem cut_map {α β : Type} (f : α → β) (l : List α) (lo hi : Option Int) : cut (l.map f) lo hi = (cut l lo hi).map f := by
  unfold cut
  rw [List.length_map, List.map_take, List.map_drop]
theorem cut_len {α : Type} (l : List α) (lo hi : Option Int) : (cut l lo hi).length ≤ l.length := by
  unfold cut
  rw [List.length_take, List.length_drop]; omega
section
variable (st : Stor)
@[simp] theorem r_strI (a : ME) (env : MEnv) : strI a env st = (a env st).bind fun d st1 => match d with
  | .str cs => if cs.all (fun c => decide (c < 128)) = true then .ok (cs.map fun c => D.str [c], []) st1 else .bad
  | _ => .bad := by_rfl rfl
end
end M
namespace M
open PySem PySem.Spec L2
section
variable {X : Cx}
/-! ### k in d, k not in d, d[k] = v, d[k] (keys that are tuples), l.pop() -/
def inDV (neg : Bool) : D → D → Stor → R D
  | .tup ks, .loc n, st => match st[n]?, keysOf ks with
    | some (.dic kvs), some k => .ok (.bl (if neg then !(valM kvs k).isSome else (valM kvs k).isSome)) st
    | _, _ => .bad
  | _, _, _ => .bad
/-- in its place, or at the end -/
def putM (kvs : List (List Key × D)) (k : List Key) (d : D) : List (List Key × D) :=
  if (kvs.any fun kv => decide (kv.1 = k)) = true then kvs.map (fun kv => if kv.1 = k then (kv.1, d) else kv) else kvs ++ [(k, d)]
def setDV : D → D → D → Stor → R Unit
  | .loc n, .tup ks, d, st => match st[n]?, keysOf ks with
    | some (.dic kvs), some k => if kvs.length < 1000000 then .ok () (st.set n (.dic (putM kvs k d))) else .bad
    | _, _ => .bad
  | _, _, _, _ => .bad
/-- l.pop() -/
def popV : D → List D → Stor → R D
  | .loc n, [], st => match st[n]? with
    | some (.lst ds) => (match ds[ds.length - 1]? with | some d => .ok d (st.set n (.lst ds.dropLast)) | none => .bad)
    | _ => .bad
  | _, _, _ => .bad
end
end M
namespace L2
open PySem PySem.Spec PyProof.Rows
/-- a new object is laid and tracked; of the frame only its map is told -/
theorem Inv.butLay {X : Cx} {pins : List (Addr × Obj)} {σ : St} {H : Hp} {s : Shared} {h' : Heap} {t' : Nat} {a : Addr} {o : HO} (I : Inv X pins σ H s) (k : ∀ b ob, b ≠ X.env.locals → s.heap.get? b = some ob → h'.get? b = some ob)
    (ns : ∀ m, s.heap.Ns X.env.locals m → h'.Ns X.env.locals m) (hp : s.heap.objs.size ≤ a) (new : ObjOk X.prog X.w (upd H a o) h' a o) : Inv X pins σ (upd H a o) { s with heap := h', toks := t' } := by
  have hn : H a = none := I.hok.fresh hp
  have neL : ∀ b u, H b = some u → b ≠ X.env.locals := fun b u e z => by rw [z, I.free] at e; cases e
  have na : ∀ b u, H b = some u → b ≠ a := fun b u e => ne_of_none e hn
  refine I.step (g' := s.gens) (d' := s.drawn) (ch := []) (fun _ z => nomatch z) (fun b o hL _ _ e _ => k b o hL e) (fun b o hL _ _ e _ => ⟨o.slots, k b o hL e⟩)
    (fun b o _ e n => by rw [upd_ne (Nat.ne_of_lt (Nat.lt_of_lt_of_le (Heap.lt_size e) hp))]; exact n) (fun b o _ e => ?_)
    (fun b xs e => by rw [upd_ne (na b _ e)]; exact e) (fun b o u e => by rw [upd_ne (na b _ e)]; exact e) (fun b ps e => ⟨#[], by rw [upd_ne (na b _ e), e]; simp⟩) ns (fun b u e => ?_) I.bare
  · by_cases hb : b = X.env.locals
    · subst hb
      obtain ⟨m, hm, _⟩ := I.loc
      obtain ⟨o', _, _, q, _⟩ := ns m hm
      exact ⟨o', q⟩
    · exact ⟨o, k b o hb e⟩
  · by_cases hb : b = a
    · subst hb; rw [upd_same] at e; cases e; exact new
    · rw [upd_ne hb] at e
      refine (I.hok b u e).stay (fun c v hc q => k c v ?_ q) (fun c q => by rw [upd_ne (na c _ q)]; exact q) fun c xs q => by rw [upd_ne (na c _ q)]; exact q
      rcases hc with z | z
      · rw [z]; exact neL b u e
      · exact neL c _ z
theorem news_whole (h : Heap) (L : Addr) : News (Att.noObjs h) L h (Att.ledger h L L) := by
  rintro ⟨a, o⟩ hp
  obtain ⟨n1, n2, e⟩ := Att.mem_ledger.mp hp
  exact ⟨e, n1, Att.noObjs_get _ _⟩
theorem vals_strs : ∀ (l : List (Str × Tok)), Vals (l.map fun p => V.str p.1) (strValues l)
  | [] => .nil
  | (y, t) :: l => .cons ⟨t, rfl⟩ (vals_strs l)
theorem strs_are : ∀ (ys : List Str) (its : List Value), Vals (ys.map V.str) its → StrsAre its ys
  | [], _, h => by cases h; exact .nil
  | y :: ys, _, h => by
    cases h with
    | cons r1 r2 =>
      obtain ⟨t, rfl⟩ := r1
      exact .cons y t (strs_are ys _ r2)
/-- x.split(y), y not without signs -/
theorem mt_splitS {X : Cx} : MtR X "str.split" (fun x xs H Q => ∃ z y : Str, x = .str z ∧ xs = [.str y] ∧ (y.length == 0) = false ∧ z.length + 2 ≤ sizeLine ∧ ∀ p, H p = none → Q (.ref p) (upd H p (.lst ((Txt.split z y).map V.str)))) := by
  rintro pins s σ H x xs v us Q I rx rxs ⟨z, y, rfl, rfl, hy, hz, h⟩
  obtain ⟨t, rfl⟩ := rx
  cases rxs with
  | cons r1 r2 =>
    cases r2
    obtain ⟨u, rfl⟩ := r1
    obtain ⟨m, hm, _⟩ := id I.loc
    refine splitN1A (Att.fr_all hm) (news_whole s.heap X.env.locals) hy (fun l h' k hl _ _ hL F' N' => ?_) hz
    have hfresh : H s.heap.objs.size = none := I.hok.fresh (Nat.le_refl _)
    have hsz : (Txt.split z y).length ≤ sizeLine := by have := (fact_split z y).2; omega
    refine ⟨.ref s.heap.objs.size, _, I.butLay (a := s.heap.objs.size) (o := .lst ((Txt.split z y).map V.str)) (fun b ob hb e => ?_) (fun m' hm' => ?_) (Nat.le_refl _) ?_, rfl, h _ hfresh⟩
    · exact N'.get (List.Mem.tail _ (Att.mem_ledger.mpr ⟨hb, hb, e⟩))
    · have : m' = m := by
        obtain ⟨o1, es1, ep1, q1, q2, _, q3⟩ := hm
        obtain ⟨o2, es2, ep2, w1, w2, _, w3⟩ := hm'
        rw [q1] at w1; cases w1
        rw [q2] at w2; cases w2
        funext x
        rw [← q3 x, ← w3 x]
      subst this
      exact F'.ns
    · refine ⟨by rw [List.length_map]; exact hsz, strValues l, 0, ?_, N'.get (List.Mem.head _)⟩
      rw [← hl, List.map_map]
      exact vals_strs l
/-- x.join(list of texts) -/
theorem mt_joinS {X : Cx} : MtR X "str.join" (fun x xs H Q => ∃ (z : Str) (p : Addr) (ys : List Str), x = .str z ∧ xs = [.ref p] ∧ SqL X.K H p (ys.map V.str) ∧ (ys.map fun y => y.length).sum + ys.length * z.length ≤ 16777216 ∧ Q (.str (Txt.join z ys)) H) := by
  rintro pins s σ H x xs v us Q I rx rxs ⟨z, p, ys, rfl, rfl, hq, hz, h⟩
  obtain ⟨t, rfl⟩ := rx
  cases rxs with
  | cons r1 r2 =>
    cases r2
    cases r1
    obtain ⟨its, rv, pl, _⟩ := I.list hq
    exact join_list pl.isList (strs_are ys its rv) hz fun t' k => ⟨.str (Txt.join z ys), H, I.kept (t' := k) fun b u h => h, ⟨t', rfl⟩, h⟩
end L2
namespace M
open PySem PySem.Spec L2
section
variable {X : Cx}
def textsOf : List D → Option (List (List Nat))
  | [] => some []
  | .str cs :: r => (textsOf r).map (cs :: ·)
  | _ :: _ => none
theorem texts_are {K : PySem.W.Frag} {μ : List Addr} {H : Hp} : ∀ {ds : List D} {xs : List V} {ts : List (List Nat)}, textsOf ds = some ts → RepVs K μ H ds xs → xs = (ts.map strOf).map V.str
  | [], _, _, e, h => by cases e; rw [RepVs] at h; exact h
  | d :: ds, _, ts, e, h => by
    rw [RepVs] at h
    obtain ⟨v, t, rfl, h1, h2⟩ := h
    cases d with
    | str cs =>
      simp only [textsOf] at e
      cases q : textsOf ds with
      | none => rw [q] at e; cases e
      | some ts' =>
        rw [q] at e; cases e
        rw [RepV.str_iff] at h1; subst h1
        rw [texts_are q h2]; rfl
    | _ => simp [textsOf] at e
def joinM (sep : List Nat) (ts : List (List Nat)) : List Nat := (Txt.join (strOf sep) (ts.map strOf)).cps.toList
def splitM (cs sep : List Nat) : List (List Nat) := (Txt.split (strOf cs) (strOf sep)).map fun y => y.cps.toList
def joinV : D → List D → Stor → R D
  | .str sep, [.loc n], st => match (itemsAt st n).bind textsOf with
    | some ts => if (ts.map List.length).sum + ts.length * sep.length ≤ 1000000 then .ok (.str (joinM sep ts)) st else .bad
    | none => .bad
  | _, _, _ => .bad
theorem mt_joinV : MtR X "str.join" (rMM X joinV) := by
  refine MtR.weak mt_joinS ?_
  rintro x xs H Q ⟨μ, st, d, ds, hs, hx, hxs, hp⟩
  unfold joinV at hp
  split at hp
  · rename_i sep n
    cases e : itemsAt st n with
    | none => rw [e] at hp; exact hp.elim
    | some l =>
      rw [e] at hp
      cases e2 : textsOf l with
      | none => simp only [Option.bind_some, e2] at hp; exact hp.elim
      | some ts =>
        simp only [Option.bind_some, e2] at hp
        split at hp
        · rename_i hl
          obtain ⟨v, rfl, q⟩ := RepVs.one hxs
          obtain ⟨p, q1, rfl⟩ := RepV.loc_iff.mp q
          obtain ⟨p', ys, r1, r2, r3⟩ := hs.items e
          rw [q1] at r1; cases r1
          rw [texts_are e2 r3] at r2
          obtain rfl := RepV.str_iff.mp hx
          refine ⟨_, p, ts.map strOf, rfl, rfl, r2, ?_, hp.ret hs (RepV.str_iff.mpr rfl)⟩
          rw [List.map_map, List.length_map]
          have e3 : (ts.map ((fun y : Str => y.length) ∘ strOf)) = ts.map List.length := List.map_congr_left fun t _ => by
            show (strOf t).cps.size = t.length
            simp
          rw [e3]
          have e4 : (strOf sep).length = sep.length := by show (strOf sep).cps.size = sep.length; simp
          rw [e4]; omega
        · exact hp.elim
  · exact hp.elim
def splitV : D → List D → Stor → R D
  | .str cs, [.str sep], st => if sep.length ≠ 0 ∧ cs.length ≤ 1000000 then .ok (.loc st.length) (st ++ [.lst ((splitM cs sep).map D.str)]) else .bad
  | _, _, _ => .bad
theorem mt_splitV : MtR X "str.split" (rMM X splitV) := by
  refine MtR.weak mt_splitS ?_
  rintro x xs H Q ⟨μ, st, d, ds, hs, hx, hxs, hp⟩
  unfold splitV at hp
  split at hp
  · rename_i cs sep
    split at hp
    · rename_i hc
      obtain ⟨v, rfl, q⟩ := RepVs.one hxs
      obtain rfl := RepV.str_iff.mp hx
      obtain rfl := RepV.str_iff.mp q
      refine ⟨_, _, rfl, rfl, ?_, ?_, fun p hn => ?_⟩
      · have : (strOf sep).length = sep.length := by show (strOf sep).cps.size = sep.length; simp
        rw [this]; simpa using hc.1
      · have : (strOf cs).length = cs.length := by show (strOf cs).cps.size = cs.length; simp
        rw [this]; exact Nat.le_trans (Nat.add_le_add_right hc.2 2) (by decide)
      · have hr : RepO X.K (μ ++ [p]) (upd H p (.lst ((Txt.split (strOf cs) (strOf sep)).map V.str))) p (.lst ((splitM cs sep).map D.str)) := by
          refine ⟨_, upd_same, ?_⟩
          have key : ∀ (l : List Str), RepVs X.K (μ ++ [p]) (upd H p (.lst ((Txt.split (strOf cs) (strOf sep)).map V.str))) ((l.map fun y => y.cps.toList).map D.str) (l.map V.str) := by
            intro l
            induction l with
            | nil => exact RepVs.nil
            | cons y l ih => exact RepVs.cons (RepV.str_iff.mpr (by show V.str y = V.str (strOf y.cps.toList); simp)) ih
          exact key _
        exact hp _ _ (μ ++ [p]) (Grow.new hn) (hs.new hn hr) (RepV.loc_iff.mpr ⟨p, by rw [← hs.len]; simp, rfl⟩)
    · exact hp.elim
  · exact hp.elim
end
end M
namespace M
open PySem PySem.Spec L2
/-! ### join and split are one another's way back -/
def joinL (sep : List Nat) : List (List Nat) → List Nat
  | [] => []
  | [t] => t
  | t :: u :: r => t ++ sep ++ joinL sep (u :: r)
theorem str_ext {a b : Str} (h : a.cps.toList = b.cps.toList) : a = b := by
  cases a; cases b
  congr 1
  exact Array.toList_inj.mp h
theorem join_toList (sep : Str) : ∀ (ts : List Str), (sep.join ts).cps.toList = joinL sep.cps.toList (ts.map fun t => t.cps.toList)
  | [] => by rw [PyProof.Rows.join_nil]; rfl
  | [t] => by rw [PyProof.Rows.join_one]; rfl
  | t :: u :: r => by
    have ih := join_toList sep (u :: r)
    rw [List.map_cons] at ih
    rw [PyProof.Rows.join_cons_cons, List.map_cons, List.map_cons, joinL, ← ih]
    show (t.cps ++ sep.cps ++ (sep.join (u :: r)).cps).toList = _
    simp
theorem joinM_eq (sep : List Nat) (ts : List (List Nat)) : joinM sep ts = joinL sep ts := by
  unfold joinM
  rw [show Txt.join (strOf sep) (ts.map strOf) = (strOf sep).join (ts.map strOf) from StrLaws.glued_eq_join _ _, join_toList, List.map_map]
  have : (fun t : Str => t.cps.toList) ∘ strOf = id := by funext t; simp
  rw [this, List.map_id]
theorem cnt_zero {c : Nat} : ∀ {l : List Nat}, PyProof.Rows.cnt c l = 0 → c ∉ l
  | [], _ => by simp
  | a :: l, h => by
    have h0 : ∀ l, 0 ≤ PyProof.Rows.cnt c l := fun l => by
      induction l with
      | nil => rw [PyProof.Rows.cnt_nil]; omega
      | cons b l ih => rw [PyProof.Rows.cnt_cons]; split <;> omega
    rw [PyProof.Rows.cnt_cons] at h
    have h1 := h0 l
    split at h
    · omega
    · rename_i hne
      have := cnt_zero (c := c) (l := l) (by omega)
      simp at hne ⊢
      exact ⟨fun z => hne z.symm, this⟩
theorem cut_uniq {c : Nat} : ∀ {a b r1 r2 : List Nat}, c ∉ a → c ∉ b → a ++ c :: r1 = b ++ c :: r2 → a = b ∧ r1 = r2
  | [], [], _, _, _, _, h => by simpa using h
  | [], y :: b, _, _, _, hb, h => by simp at h; exact absurd h.1 (fun z => hb (by simp [z]))
  | x :: a, [], _, _, ha, _, h => by simp at h; exact absurd h.1.symm (fun z => ha (by simp [z]))
  | x :: a, y :: b, _, _, ha, hb, h => by
    simp at h
    obtain ⟨rfl, h⟩ := h
    obtain ⟨rfl, h2⟩ := cut_uniq (fun z => ha (by simp [z])) (fun z => hb (by simp [z])) h
    exact ⟨rfl, h2⟩
theorem joinL_inj {c : Nat} : ∀ {ts us : List (List Nat)}, ts.length = us.length → (∀ t ∈ ts, c ∉ t) → (∀ t ∈ us, c ∉ t) → joinL [c] ts = joinL [c] us → ts = us
  | [], [], _, _, _, _ => rfl
  | [t], [u], _, _, _, h => by rw [joinL, joinL] at h; rw [h]
  | t :: t2 :: ts, u :: u2 :: us, hl, h1, h2, h => by
    rw [joinL, joinL, List.append_assoc, List.append_assoc] at h
    obtain ⟨rfl, h3⟩ := cut_uniq (h1 t (by simp)) (h2 u (by simp)) h
    rw [joinL_inj (by simpa using hl) (fun x hx => h1 x (by simp [hx])) (fun x hx => h2 x (by simp [hx])) h3]
  | [], _ :: _, hl, _, _, _ => by simp at hl
  | _ :: _, [], hl, _, _, _ => by simp at hl
  | [_], _ :: _ :: _, hl, _, _, _ => by simp at hl
  | _ :: _ :: _, [_], hl, _, _, _ => by simp at hl
/-- what is joined by a sign that stands in no part is split into the parts -/
theorem splitM_join (c : Nat) (ts : List (List Nat)) (hn : ts ≠ []) (hc : ∀ t ∈ ts, c ∉ t) : splitM (joinL [c] ts) [c] = ts := by
  have hx : strOf (joinL [c] ts) = (strOf [c]).join (ts.map strOf) := str_ext (by
    rw [join_toList, List.map_map]
    have : (fun t : Str => t.cps.toList) ∘ strOf = id := by funext t; simp
    rw [this, List.map_id])
  have hj := StrLaws.join_split (strOf (joinL [c] ts)) (strOf [c])
  have hl : ((Txt.split (strOf (joinL [c] ts)) (strOf [c])).length : Int) = 1 + PyProof.Rows.cnt c (joinL [c] ts) := PyProof.Rows.split_len (strOf (joinL [c] ts)) c
  have h1 : PyProof.Rows.cnt c [c] = 1 := by rw [PyProof.Rows.cnt_cons, PyProof.Rows.cnt_nil]; simp
  have hcnt : PyProof.Rows.cnt c (joinL [c] ts) = ((ts.length - 1 : Nat) : Int) := by
    have := PyProof.Rows.cnt_join (strOf [c]) c h1 (ts.map strOf) (fun t ht => by
      obtain ⟨t', ht', rfl⟩ := List.mem_map.mp ht
      simpa using hc t' ht')
    rw [← hx, List.length_map] at this
    exact this
  have hpos : 0 < ts.length := List.length_pos_iff.mpr hn
  have hlen : (Txt.split (strOf (joinL [c] ts)) (strOf [c])).length = ts.length := by omega
  have hsum := PyProof.Rows.cnt_join_sum (strOf [c]) c (Txt.split (strOf (joinL [c] ts)) (strOf [c]))
  rw [hj] at hsum
  have hs0 : ((Txt.split (strOf (joinL [c] ts)) (strOf [c])).map fun t => PyProof.Rows.cnt c t.cps.toList).sum = 0 := by
    have e1 : PyProof.Rows.cnt c (strOf [c]).cps.toList = 1 := h1
    have e2 : PyProof.Rows.cnt c (strOf (joinL [c] ts)).cps.toList = ((ts.length - 1 : Nat) : Int) := hcnt
    rw [e1, e2, hlen] at hsum
    omega
  have h0 : ∀ l, 0 ≤ PyProof.Rows.cnt c l := fun l => by
    induction l with
    | nil => rw [PyProof.Rows.cnt_nil]; omega
    | cons b l ih => rw [PyProof.Rows.cnt_cons]; split <;> omega
  have hall : ∀ (ys : List Str), (ys.map fun t => PyProof.Rows.cnt c t.cps.toList).sum = 0 → ∀ y ∈ ys, c ∉ y.cps.toList := by
    have hnn : ∀ ys : List Str, 0 ≤ (ys.map fun t => PyProof.Rows.cnt c t.cps.toList).sum := fun ys => by
      induction ys with
      | nil => simp
      | cons y ys ih => rw [List.map_cons, List.sum_cons]; have := h0 y.cps.toList; omega
    intro ys
    induction ys with
    | nil => intro _ y hy; exact absurd hy (List.not_mem_nil)
    | cons y ys ih =>
      intro h z hz
      rw [List.map_cons, List.sum_cons] at h
      have a1 := h0 y.cps.toList
      have a2 := hnn ys
      rcases List.mem_cons.mp hz with rfl | hz
      · exact cnt_zero (by omega)
      · exact ih (by omega) z hz
  unfold splitM
  refine joinL_inj (c := c) (by rw [List.length_map]; exact hlen) (fun t ht => ?_) hc ?_
  · obtain ⟨y, hy, rfl⟩ := List.mem_map.mp ht
    exact hall _ hs0 y hy
  · have := congrArg (fun z : Str => z.cps.toList) hj
    simp only at this
    rw [join_toList] at this
    exact this
end M
namespace L2
open PySem PySem.Spec PyProof.Rows
end L2
namespace M
open PySem PySem.Spec L2
/-! ### text * n -/
def mulSV : D → D → Stor → R D
  | .str cs, .int i, st => if 0 ≤ i ∧ i ≤ 1000000 ∧ cs.length * i.toNat ≤ 1000000 then .ok (.str (List.replicate i.toNat cs).flatten) st else .bad
  | _, _, _ => .bad
section
variable {X : Cx} {a b c : Expr} {ma mb mc : ME} {pos : Pos}
/-! ### a op1 b op2 c -/
def chainE (g g' : D → D → Stor → R D) (a b c : ME) : ME := fun env st => (a env st).bind fun x st1 => (b env st1).bind fun y st2 => (g x y st2).bind fun z st3 => match z with
  | .bl true => (c env st3).bind fun w st4 => g' y w st4
  | .bl false => .ok (.bl false) st3
  | _ => .bad
/-! ### str(i), str(text) -/
def strC : List D → Stor → R D
  | [.int i], st => if i.natAbs.log2 < 1920 then .ok (.str (toString i : Str).cps.toList) st else .bad
  | _, _ => .bad
end
end M
namespace M
open PySem PySem.Spec L2
section
variable {X : Cx} {pos : Pos} {x : Str}
/-! ### a module's constants; what is never reached -/
theorem je_globV {d : D} {v : V} {u : Value} (hg : Gl X x) (hm : X.mg x = some u) (r : RelV v u) (hv : ∀ μ H, RepV X.K μ H d v) (hd : (x == ("__debug__" : Str)) = false := by decide) : JE X (.Name x pos) (ct d) :=
  JE.of (pe_glob hg hm r hd) fun σ H Q ⟨μ, env, st, hE, hs, hp⟩ => hp.ret hs (hv μ H)
theorem je_globI {i : Int} (h : ∃ t, X.mg x = some (.int i t)) (hg : Gl X x := by rfl) (hd : (x == ("__debug__" : Str)) = false := by decide) : JE X (.Name x pos) (ct (.int i)) := by
  obtain ⟨t, h⟩ := h
  exact je_globV (v := .int i) hg h ⟨t, rfl⟩ (fun _ _ => RepV.int_iff.mpr rfl) hd
theorem je_globS {y : Str} (cs : List Nat) (h : ∃ t, X.mg x = some (.str y t)) (hy : y = strOf cs := by rfl) (hg : Gl X x := by rfl) (hd : (x == ("__debug__" : Str)) = false := by decide) : JE X (.Name x pos) (ct (.str cs)) := by
  obtain ⟨t, h⟩ := h
  exact je_globV (v := .str y) hg h ⟨t, rfl⟩ (fun _ _ => RepV.str_iff.mpr (by rw [hy])) hd
def badS : MS := fun _ _ => .bad
theorem js_never {s : Stmt} : JS X s badS := JS.of ps_never fun E σ H ⟨μ, env, st, hE, hs, hp⟩ => hp
end
end M
namespace M
open L2
section
variable (st : Stor)
theorem r_join (sep : List Nat) (n : Nat) (ts : List (List Nat)) (h : itemsAt st n = some (ts.map D.str)) (hl : (ts.map List.length).sum + ts.length * sep.length ≤ 1000000) : joinV (.str sep) [.loc n] st = .ok (.str (joinL sep ts)) st := by
  have e : textsOf (ts.map D.str) = some ts := by
    clear h hl
    induction ts with
    | nil => rfl
    | cons t ts ih => simp [textsOf, ih]
  simp only [joinV, h, Option.bind_some, e]
  rw [if_pos hl, joinM_eq]
end
end M
namespace M
open L2
/-! split at one sign, plainly -/
def splitL (c : Nat) : List Nat → List (List Nat)
  | [] => [[]]
  | x :: xs => if x = c then [] :: splitL c xs else match splitL c xs with
    | [] => [[x]]
    | t :: ts => (x :: t) :: ts
theorem joinL_cons (sep t : List Nat) (ts : List (List Nat)) (h : ts ≠ []) : joinL sep (t :: ts) = t ++ sep ++ joinL sep ts := by
  cases ts with
  | nil => exact absurd rfl h
  | cons u r => rfl
end M
namespace M
open L2
/-- a loop without early leave, by the turn's number -/
theorem forGo_ix {g : MG} {b : MS} {gs : List (Nat × MO)} {items : List D} (I : Nat → MEnv → Stor → Prop) {env : MEnv} {st : Stor} (h0 : I 0 env st)
    (step : ∀ i d env st, items[i]? = some d → I i env st → okG gs st ∧ ∃ env1 st1, g d env st = .ok env1 st1 ∧ ∃ env2 st2, (b env1 st1 = .ok (.nx env2) st2 ∨ b env1 st1 = .ok (.cn env2) st2) ∧ I (i + 1) env2 st2)
    (hend : ∀ env st, I items.length env st → okG gs st) : ∃ env' st', forGo g b gs items env st = .ok (.nx env') st' ∧ I items.length env' st' := by
  refine forGo_all (fun pre env st => I pre.length env st) h0 (fun pre d post env st e hI => ?_) hend
  have := step pre.length d env st (by rw [e]; simp) hI
  simpa using this
end M
namespace M
open L2
abbrev Asc (t : List Nat) : Prop := ∀ c ∈ t, c < 128
end M
namespace M
open L2
/-- a or b, a a text -/
def orS (a b : ME) : ME := fun env st => (a env st).bind fun x st1 => match x with
  | .str cs => if cs.length ≤ 1000000 then (if cs = [] then b env st1 else .ok x st1) else .bad
  | _ => .bad
/-- text * truth -/
def mulSBV : D → D → Stor → R D
  | .str cs, .bl b, st => if cs.length ≤ 1000000 then .ok (.str (if b then cs else [])) st else .bad
  | _, _, _ => .bad
end M
namespace M
open L2
/-! ### while, without fuel -/
open Classical in
noncomputable def whileW (c : MT) (b : MS) : MS := fun env st => if h : ∃ n, whileS c b n env st ≠ .bad then whileS c b (Classical.choose h) env st else .bad
/-! ### more of texts -/
/-- t.rstrip(c), c one sign -/
def rstripL (c : Nat) (cs : List Nat) : List Nat := (cs.reverse.dropWhile (fun x => decide (x = c))).reverse
def rstripV : D → List D → Stor → R D
  | .str cs, [.str [c]], st => if cs.length ≤ 1000000 then .ok (.str (rstripL c cs)) st else .bad
  | _, _, _ => .bad
/-- c in t, c one sign -/
def inSV : D → D → Stor → R D
  | .str [c], .str cs, st => if cs.length ≤ 1000000 then .ok (.bl (decide (c ∈ cs))) st else .bad
  | _, _, _ => .bad
end M
namespace M
open L2
theorem rstripL_nil (c : Nat) : rstripL c [] = [] := rfl
end M
namespace L2
open PySem PySem.Spec PyProof.Rows
section
variable {X : Cx} {a b : Expr} {rest : List Expr} {pos : Pos} {ta tb : TE}
/-- a or b, by a's truth -/
def tOrG (K : PySem.W.Frag) (ta tb : TE) : TE := fun σ H Q => ta σ H fun x H1 => ∃ k, TruV K x H1 k ∧ if k = true then Q x H1 else tb σ H1 Q
end
end L2
namespace M
open PySem PySem.Spec L2
section
variable {X : Cx} {a b c : Expr} {ma mb mc : ME} {pos : Pos} {rest : List Expr}
/-! while -/
/-! c in t, t.rstrip(c) -/
theorem op_inSV : OpR X (compareOp .In) (rM X inSV) := by
  refine OpR.weak op_in_str ?_
  rintro x y H Q ⟨μ, st, dx, dy, hs, hx, hy, hp⟩
  unfold inSV at hp
  split at hp
  · rename_i c cs
    split at hp
    · obtain rfl := RepV.str_iff.mp hx
      obtain rfl := RepV.str_iff.mp hy
      refine ⟨_, _, rfl, rfl, ?_⟩
      have e := PySem.StrLaws.found_one (strOf cs) c
      have e2 : (strOf [c]) = ⟨#[c]⟩ := rfl
      rw [e2, e]
      refine hp.ret hs (RepV.bl_iff.mpr ?_)
      simp
    · exact hp.elim
  · exact hp.elim
end
end M
namespace L2
open PySem PySem.Spec PyProof.Rows PySem.Builtin PySem.Builtin.Str
/-! ### text * truth -/
end L2
namespace M
open PySem PySem.Spec L2
/-! ### defs with a default -/
structure FunD (K : PySem.W.Frag) (x qual : Str) (st : Stmt) (f : Addr) (fd : FuncData) : Prop where
  ex : ∃ (oc : Value) (od : Option Addr) (dV kV doc pm : Value) (an : Option Addr) (cdv ct : Value) (osl : Array (Option Value)),
    fd = PySem.W.fnOf x qual (defArgs st) (defBody st) (defScope st) dV kV doc pm an cdv ct ∧ K.lookup f = some ⟨oc, od, .func fd, osl⟩ ∧ PySem.W.codeIn K cdv qual = true
  kp : PySem.W.keepIn K (.ref f) = true
section
variable {P : Program} {w : World} {K : PySem.W.Frag} {mg : Str → Option Value} {base : Heap}
end
section
variable {X : Cx} {e : Expr} {es : List Expr} {mA : MA} {pos p : Pos} {x : Str} {k : Nat} {f : Addr} {fd : FuncData} {ps : List Str} {F : FD} {i : Int}
end
end M
namespace M
open PySem PySem.Spec L2
end M
namespace M
/-! ### trees -/
inductive Tr where
  | lf (s : List Nat) | jn (l r : Tr)
namespace Tr
def isSj : Tr → Bool
  | .jn (.lf s) _ => s == [83]
  | _ => false
def val : Tr → Bool
  | .lf _ => true
  | .jn l r => val r && (match l with
    | .lf s => s == [83] || s == [75]
    | .jn _ _ => isSj l && val l)
def lv : Tr → Nat
  | .lf _ => 1
  | .jn l r => lv l + lv r
def dp : Tr → Nat
  | .lf _ => 0
  | .jn l r => max (dp l) (dp r) + 1
/-- what a joint of two values becomes that is itself none -/
def redex : Tr → Tr → Option Tr
  | .jn (.lf s) b, _ => if s = [75] then some b else none
  | .jn (.jn _ u) v, r => some (.jn (.jn u r) (.jn v r))
  | .lf _, _ => none
/-- one step -/
def step : Tr → Option Tr
  | .lf _ => none
  | .jn l r => if val l = false then (step l).map (fun x => .jn x r) else if val r = false then (step r).map (fun x => .jn l x) else if val (.jn l r) = true then none else redex l r
/-- a run of at most n steps -/
def run : Nat → Tr → Tr × Nat
  | 0, t => (t, 0)
  | n + 1, t => match step t with
    | none => (t, 0)
    | some u => ((run n u).1, (run n u).2 + 1)
/-! frames: what waits above -/
inductive Fr where
  | fl (r : Tr) | fr (l : Tr)
def fill : Fr → Tr → Tr
  | .fl r, t => .jn t r
  | .fr l, t => .jn l t
def plug (fs : List Fr) (t : Tr) : Tr := fs.foldr fill t
def good (fs : List Fr) : Prop := ∀ f ∈ fs, ∀ l, f = .fr l → val l = true
theorem plug_cons (fs : List Fr) (f : Fr) (t : Tr) : plug (f :: fs) t = fill f (plug fs t) := rfl
/-! trees of `S` and `K` alone are never stuck -/
def sk : Tr → Prop
  | .lf s => s = [83] ∨ s = [75]
  | .jn l r => sk l ∧ sk r
end Tr
open Tr
/-- as the program holds it -/
def enc : Tr → D
  | .lf s => .str s
  | .jn l r => .tup [enc l, enc r, .int (lv (.jn l r) : Nat), .bl (val (.jn l r))]
end M
namespace M
open PySem PySem.Spec L2 PyProof.Rows
/-- x is True, x a truth -/
def isTrueV : D → D → Stor → R D
  | .bl b, .bl true, st => .ok (.bl b) st
  | _, _, _ => .bad
def notTrueV : D → D → Stor → R D
  | .bl b, .bl true, st => .ok (.bl (!b)) st
  | _, _, _ => .bad
end M
namespace M
open L2
/-! ### more of lists -/
/-- l.pop(0) -/
def pop0V : D → List D → Stor → R D
  | .loc n, [.int 0], st => match st[n]? with
    | some (.lst (d :: ds)) => .ok d (st.set n (.lst ds))
    | _ => .bad
  | _, _, _ => .bad
/-- l.extend(m) -/
def extendV : D → List D → Stor → R D
  | .loc n, [.loc m], st => match st[n]?, st[m]? with
    | some (.lst a), some (.lst b) => if a.length + b.length ≤ 1000000 then .ok .non (st.set n (.lst (a ++ b))) else .bad
    | _, _ => .bad
  | _, _, _ => .bad
/-- l.reverse() -/
def reverseV : D → List D → Stor → R D
  | .loc n, [], st => match st[n]? with
    | some (.lst a) => .ok .non (st.set n (.lst a.reverse))
    | _ => .bad
  | _, _, _ => .bad
end M
namespace M
open PySem PySem.Spec L2
section
variable {X : Cx}
end
end M
namespace M
open PySem PySem.Spec L2
section
variable {X : Cx} {pos p : Pos} {x : Str} {k : Nat} {f : Addr} {fd : FuncData} {F : FD}
end
end M
namespace L2
open PySem PySem.Spec PyProof.Rows
/-! ### cells put among what is known, for a call's time -/
def addC (L : List (Addr × Obj)) (H : Hp) : Hp := fun b => match L.lookup b with | some o => some (.frz o (.own 0)) | none => H b
def delC (L : List (Addr × Obj)) (H : Hp) : Hp := fun b => match L.lookup b with | some _ => none | none => H b
section
variable {P : Program} {w : World} {H H' : Hp} {h h' : Heap} {L : List (Addr × Obj)}
end
section
variable {X : Cx} {k : Nat} {f : Addr} {fd : FuncData} {ps : List Str} {sp : Sp} {dvs : List V} {ds : List Value} {pins : List (Addr × Obj)} {σ : St} {H : Hp} {s : Shared} {Q : VK} {us : List Value} {vs : List V}
end
end L2
namespace L2
open PySem PySem.Spec PyProof.Rows
/-- the module of the built-ins, of the base -/
def BMain (mg : Str → Option Value) (base : Heap) : Prop :=
  ∃ bm o, mg "__builtins__" = some (.ref bm) ∧ bm ≠ builtinsNs ∧ bm ≠ mainGlobals ∧ base.get? bm = some o ∧ o.cls = .type "module" ∧ o.dict = some builtinsNs ∧ o.data = .plain
def TabP (H : Hp) (P : Addr) (q : Str) : Prop := ∃ ps : Array Value, H P = some (.tbl ps) ∧ TriplesOk ps.toList ∧ ∀ pos cv, codeAmong pos ps.toList = some cv → ∃ c', cv = .ref c' ∧ M.CodeF H c' q
/-- a lambda was made -/
structure LamNew (H H' : Hp) (P f c' : Addr) (q : Str) (ob : Obj) : Prop where
  new : H' f = some (.frz ob (.own 0))
  nf : H f = none
  code : M.CodeF H' c' q
  tab : TabP H' P q
  same : ∀ b u, b ≠ P → H b = some u → H' b = some u
def tLam (P : Addr) (q : Str) (params : Arguments) (body : Expr) (scope : Scope) (clos : List (Str × Addr)) : TE := fun σ H Q => TabP H P q ∧
  ∀ f c' pm ctv H', LamNew H H' P f c' q (PySem.W.kla_obj "<lambda>" q params body scope clos pm c' ctv) → Q (.ref f) H'
section
variable {X : Cx} {P c : Addr} {q : Str} {params : Arguments} {body : Expr} {scope : Scope} {clos : List (Str × Addr)} {pos : Pos}
end
end L2
namespace L2
open PySem PySem.Spec PyProof.Rows
/-! ### a lambda is called -/
/-- a lambda's scope: the names taken from around, then the parameters -/
structure LamScope (cn ps : List Str) (sc : Scope) : Prop where
  kind : sc.kind = .function
  co : sc.isCoroutine = false
  gen : sc.isGenerator = false
  nd : (cn ++ ps).Nodup
  free : ∀ y ∈ sc.names, y.2 = .free → y.1 ∈ cn
  nocell : ∀ y ∈ sc.names, y.2 ≠ .cell
  isfree : ∀ x ∈ cn, sc.names.lookup x = some .free
  par : ∀ x ∈ ps, sc.names.lookup x = some .local
/-- the context of a lambda's body -/
def lamCx (P : Program) (w : World) (K : PySem.W.Frag) (mg : Str → Option Value) (base : Heap) (N : List Str) (qual : Str) (scope : Scope) (f : Addr) (cd : Value) (cl : List (Str × Addr)) (A : Around) (outer : List Env) (s : Shared) (H : Hp) : Cx where
  prog := P
  w := w
  K := K
  mg := mg
  base := base
  A := A.deeper (PySem.W.envX qual scope s.heap.objs.size f cd cl)
  N := N
  s₀ := s
  H₀ := H
  env := PySem.W.envX qual scope s.heap.objs.size f cd cl
  outer := outer
  stack := PySem.W.envX qual scope s.heap.objs.size f cd cl :: outer
  ex := []
  calm := true
  fn := fun _ => false
  pn := []
  xe := fun _ _ => False
section
variable {P : Program} {w : World} {K : PySem.W.Frag} {mg : Str → Option Value} {base : Heap} {A : Around} {outer : List Env} {s : Shared} {H : Hp} {qual : Str} {params : Arguments} {body : Expr} {scope : Scope} {cl : List (Str × Addr)} {pm ctv : Value} {c' f : Addr} {k : Nat}
  {cn ps : List Str} {us : List Value} {vs vs0 : List V} {Q : VK} {t : TE}
end
end L2
namespace M
open PySem PySem.Spec L2
/-! ### what is told of data needs but the tuples -/
mutual
theorem RepV.tupMono {K : PySem.W.Frag} {μ : List Addr} {H H' : Hp} (e : ∀ b xs, H b = some (.tup xs) → H' b = some (.tup xs)) : ∀ (d : D) {v : V}, RepV K μ H d v → RepV K μ H' d v
  | .non, _, h => by simpa [RepV] using h
  | .bl _, _, h => by simpa [RepV] using h
  | .int _, _, h => by simpa [RepV] using h
  | .str _, _, h => by simpa [RepV] using h
  | .tup ds, _, h => by
    rw [RepV] at h ⊢
    obtain ⟨a, xs, rfl, h1, h2⟩ := h
    exact ⟨a, xs, rfl, h1.elim (fun z => .inl (e _ _ z)) .inr, RepVs.tupMono e ds h2⟩
  | .loc n, _, h => by
    rw [RepV] at h ⊢
    exact h
theorem RepVs.tupMono {K : PySem.W.Frag} {μ : List Addr} {H H' : Hp} (e : ∀ b xs, H b = some (.tup xs) → H' b = some (.tup xs)) : ∀ (ds : List D) {vs : List V}, RepVs K μ H ds vs → RepVs K μ H' ds vs
  | [], _, h => by simpa [RepVs] using h
  | d :: ds, _, h => by
    rw [RepVs] at h ⊢
    obtain ⟨v, r, rfl, h1, h2⟩ := h
    exact ⟨v, r, rfl, RepV.tupMono e d h1, RepVs.tupMono e ds h2⟩
end
def MO.isClo : MO → Bool
  | .clo _ _ _ => true
  | _ => false
/-- a list of cells that are known -/
def CellL (L : List (Addr × Obj)) (H : Hp) : Prop := ∀ b o, L.lookup b = some o → H b = some (.frz o (.own 0)) ∧ ∃ u, o.data = .cell (some u)
/-- the store without its lambdas -/
def hideS (st : Stor) : Stor := st.map fun o => if o.isClo then .hid else o
/-! ### a lambda's promise -/
/-- a lambda's body: what it took from around, then its arguments -/
def lamM (m : ME) : FD := fun ds st => m (ds.map some) st
structure LamOk (P : Program) (w : World) (K : PySem.W.Frag) (mg : Str → Option Value) (base : Heap) (k : Nat) (l : LamS) (ps : List Str) (m : ME) : Prop where
  sc : LamScope l.caps ps l.scope
  bind : ∀ cl pm c' ctv (us : List Value), us.length = ps.length → bindArgs (PySem.W.kla_fn "<lambda>" l.qual l.params l.body l.scope cl pm (.ref c') ctv) ⟨us, []⟩ = pure (ps.zip us)
  body : ∀ (f : Addr) (cd : Value) (cl : List (Str × Addr)) (A : Around) (outer : List Env) (s : Shared) (H : Hp), Room k (A.deeper (PySem.W.envX l.qual l.scope s.heap.objs.size f cd cl)) →
    JE (lamCx P w K mg base (l.caps ++ ps) l.qual l.scope f cd cl A outer s H) l.body m
open Classical in
/-- what a lambda of the store tells; the store stays -/
noncomputable def callL (Λ : Nat → LamS) (G : Nat → FD) (n : Nat) (as : List D) (st : Stor) : R D := match st[n]? with
  | some (.clo j l ds) => if l = Λ j then (match gc (hideS st) (G j (ds ++ as) (hideS st)) with
    | .ok d st2 => if st2 = hideS st ∧ under st.length d then .ok d st else .bad
    | _ => .bad) else .bad
  | _ => .bad
end M
namespace M
open PySem PySem.Spec L2
/-! ### a name that holds a lambda is called -/
def lamN (n : Nat) (m : ME) : FD := fun ds st => if ds.length = n then m (ds.map some) st else .bad
def LamsOk (P : Program) (w : World) (K : PySem.W.Frag) (mg : Str → Option Value) (base : Heap) (k : Nat) (Λ : Nat → LamS) (G : Nat → FD) : Prop :=
  ∀ j, (∀ ds st, G j ds st = .bad) ∨ ∃ ps m, LamOk P w K mg base k (Λ j) ps m ∧ G j = lamN ((Λ j).caps.length + ps.length) m
noncomputable def callC (Λ : Nat → LamS) (G : Nat → FD) (i : Nat) (mA : MA) : ME := fun env st => match env[i]? with
  | some (some (.loc n)) => (match st[n]? with
    | some (.clo _ _ _) => (mA env st).bind fun as st1 => callL Λ G n as st1
    | _ => .bad)
  | _ => .bad
section
variable {X : Cx} {e : Expr} {es : List Expr} {mA : MA} {pos p : Pos} {x : Str} {k : Nat} {Λ : Nat → LamS} {G : Nat → FD}
end
end M
namespace M
open PySem PySem.Spec L2
/-! ### arguments among which are lambdas -/
inductive LA where
  | v (d : D) | l (j : Nat) (cap : List Nat)
abbrev ML := MEnv → Stor → R (List LA)
def closOf (X : Cx) (l : LamS) : List (Str × Addr) := l.caps.map fun x => (x, (X.env.cells.lookup x).getD 0)
structure LamAtX (X : Cx) (l : LamS) (cap : List Nat) : Prop where
  nd : l.caps.Nodup
  cell : ∀ x ∈ l.caps, X.env.kindOf x = some .cell
  ix : cap.map (fun i => X.N[i]?) = l.caps.map some
def RepLA (X : Cx) (Λ : Nat → LamS) (μ : List Addr) (H : Hp) : LA → V → Prop
  | .v d, v => RepV X.K μ H d v
  | .l j cap, v => LamAtX X (Λ j) cap ∧ ∃ f pm c' ctv, v = .ref f ∧ H f = some (.frz (PySem.W.kla_obj "<lambda>" (Λ j).qual (Λ j).params (Λ j).body (Λ j).scope (closOf X (Λ j)) pm c' ctv) (.own 0)) ∧ CodeF H c' (Λ j).qual
def RepLAs (X : Cx) (Λ : Nat → LamS) (μ : List Addr) (H : Hp) : List LA → List V → Prop
  | [], vs => vs = []
  | a :: r, vs => ∃ v t, vs = v :: t ∧ RepLA X Λ μ H a v ∧ RepLAs X Λ μ H r t
abbrev relL (X : Cx) (Λ : Nat → LamS) : Rel (List LA) (List V) := fun μ H d v => RepLAs X Λ μ H d v
section
variable {X : Cx} {Λ : Nat → LamS} {μ μ' : List Addr} {H H' : Hp}
end
def tML (X : Cx) (Λ : Nat → LamS) (m : ML) : TA := fun σ H Q => ∃ μ env st, RepE X.K μ H env σ ∧ RepS X.K μ H st ∧ Post X μ H (relL X Λ) Q (m env st)
def JL (X : Cx) (Λ : Nat → LamS) (es : List Expr) (m : ML) : Prop := PA X es (tML X Λ m)
def nilL : ML := fun _ st => .ok [] st
def consL (a : ME) (r : ML) : ML := fun env st => (a env st).bind fun x st1 => (r env st1).bind fun xs st2 => .ok (.v x :: xs) st2
/-- a lambda: its number, the places of what it takes, the store's place of the table of this def -/
def lamL (j : Nat) (cap : List Nat) (k : Nat) (x : Str) (r : ML) : ML := fun env st => match st[k]? with
  | some (.tab y) => if y = x then (r env st).bind fun xs st2 => .ok (.l j cap :: xs) st2 else .bad
  | _ => .bad
/-- this frame's code, and its table -/
def TabX (X : Cx) (x : Str) : Prop := X.env.qual = x ++ ".<locals>." ∧ ∃ (c fa : Addr) (o : Obj) (fd : FuncData), X.env.code = .ref c ∧ PySem.W.nsIn X.K mainGlobals x = some (some (.ref fa)) ∧ X.K.lookup fa = some o ∧ o.data = .func fd ∧ fd.code = .ref c
section
variable {X : Cx} {Λ : Nat → LamS} {μ : List Addr} {H H' : Hp} {st : Stor} {e : Expr} {es : List Expr} {ma : ME} {m : ML}
end
/-! ### the cells of this frame -/
def cellAt (h : Heap) (c : Addr) : Option Obj := match h.get? c with
  | some o => (match o.data with | .cell (some _) => some o | _ => none)
  | none => none
def cellsL (cl : List (Str × Addr)) (h : Heap) : List Str → List (Addr × Obj)
  | [] => []
  | x :: r => match cl.lookup x with
    | some c => (match cellAt h c with | some o => (c, o) :: cellsL cl h r | none => cellsL cl h r)
    | none => cellsL cl h r
def capD : List Nat → MEnv → Option (List D)
  | [], _ => some []
  | i :: r, env => match env[i]? with
    | some (some d) => (match capD r env with | some ds => some (d :: ds) | none => none)
    | _ => none
def placeL (Λ : Nat → LamS) (env : MEnv) : Nat → List LA → Option (List D × List MO)
  | _, [] => some ([], [])
  | n, .v d :: r => (match placeL Λ env n r with | some (ds, os) => some (d :: ds, os) | none => none)
  | n, .l j cap :: r => (match capD cap env with
    | some cs => (match placeL Λ env (n + 1) r with | some (ds, os) => some (.loc n :: ds, .clo j (Λ j) cs :: os) | none => none)
    | none => none)
def noClo (st : Stor) : Prop := ∀ o ∈ st, o.isClo = false
open Classical in
/-- f(.., lambda .., ..): the lambdas lie in the store for the call's time -/
noncomputable def callLm (Λ : Nat → LamS) (F : FD) (dd : List D) (m : ML) : ME := fun env st => (m env st).bind fun as st1 => if noClo st1 then (match placeL Λ env st1.length as with
  | some (ds, os) => (match gc st1 (F (ds ++ dd) (st1 ++ os)) with
    | .ok d st2 => if noClo st2 then .ok d st2 else .bad
    | _ => .bad)
  | none => .bad) else .bad
section
variable {X : Cx} {Λ : Nat → LamS} {H : Hp} {env : MEnv}
end
section
variable {X : Cx} {Λ : Nat → LamS} {e : Expr} {es : List Expr} {m : ML} {pos p : Pos} {x : Str} {k : Nat} {f : Addr} {fd : FuncData} {ps : List Str} {F : FD} {dvs : List V} {ds : List Value} {dd : List D}
end
end M
namespace M
open PySem PySem.Spec L2 PyProof.Rows
/-! ### the head, with tables of code -/
structure TabK (K : PySem.W.Frag) (x : Str) (P : Addr) : Prop where
  code : ∃ (fa : Addr) (o : Obj) (fd : FuncData) (c : Addr), PySem.W.nsIn K mainGlobals x = some (some (.ref fa)) ∧ K.lookup fa = some o ∧ o.data = .func fd ∧ fd.code = .ref c ∧ PySem.W.codeHdIn K c P = true
  out : K.lookup P = none
theorem law_callT {P : Program} {w : World} {K : PySem.W.Frag} {mg mb : Str → Option Value} {k : Nat} {fa a : Addr} {fd : FuncData} {x : Str} {sp : Sp} {s₁ : Shared} {vs : List Value} {ns : List Int} {ts : List (Str × Addr)}
    (KX : K.In s₁.heap) (hns : s₁.heap.Ns mainGlobals mg) (hb : s₁.heap.Ns builtinsNs mb) (hbb : ∀ x : Str, x ≠ "__name__" → mb x = bootBuiltins x) (hlim : s₁.heap.NoLimit) (hg : s₁.gens = #[])
    (hbm : ∃ bm ob, mg "__builtins__" = some (.ref bm) ∧ bm ≠ builtinsNs ∧ s₁.heap.get? bm = some ob ∧ ob.cls = .type "module" ∧ ob.dict = some builtinsNs ∧ ob.data = .plain)
    (ht : ∀ p ∈ ts, s₁.heap.get? p.2 = some (PySem.W.tabObj #[])) (hk : ∀ p ∈ ts, TabK K p.1 p.2)
    (ha : s₁.heap.get? a = some { cls := .type "list", data := .seq vs.toArray }) (hi : IntsAre vs ns) (hl : ns.length ≤ sizeLine) (hr : Room k callerA)
    (F : ∀ base : Heap, K.In base → base.Ns mainGlobals mg → BMain mg base → FnOk P w K mg base CX0 k fa fd [x] sp) (hbind : ∀ (s : Shared) (u : Value), BindsTo s fd ⟨[u], []⟩ [(x, u)])
    (hsp : ∀ H : Hp, FrzL K H a (ns.map V.int) → (∀ p ∈ ts, H p.2 = some (.tbl #[])) → sp [.ref a] H (fun v _ => v = .bl true) fun _ _ _ => False) :
    codeAny (model P w) callerA (.call (.ref fa) ⟨[.ref a], []⟩) (fun r s' => r = .ok (.ret (.bool true)) ∧ OldK s₁.heap s'.heap ∧ s'.os = s₁.os ∧ AllBare s'.gens) s₁ := by
  have rv := vals_ints hi
  have lenV := hi.length
  have core : ∀ H : Hp, FrzL K H a (ns.map V.int) → (∀ p ∈ ts, H p.2 = some (.tbl #[])) → HOk P w H s₁.heap → (∀ b u, H b = some u → (b = a ∧ K.lookup a = none ∧ ∃ o xs, u = .frz o (.lst xs)) ∨ (∃ p ∈ ts, b = p.2 ∧ u = .tbl #[])) →
      codeAny (model P w) callerA (.call (.ref fa) ⟨[.ref a], []⟩) (fun r s' => r = .ok (.ret (.bool true)) ∧ OldK s₁.heap s'.heap ∧ s'.os = s₁.os ∧ AllBare s'.gens) s₁ := by
    intro H hS hT hok hA
    have base_of : ∀ {b : Addr} {o : Obj}, s₁.heap.get? b = some o → H b = none → (hidT s₁.heap H).get? b = some o := fun e n => hidT_get e n
    have noH : ∀ {b : Addr} {o : Obj}, s₁.heap.get? b = some o → o.cls ≠ .type "list" → (∀ vs, o.data ≠ .fields vs) → H b = none := fun {b o} e d1 d2 => by
      cases q : H b with
      | none => rfl
      | some u =>
        rcases hA b u q with ⟨rfl, _⟩ | ⟨p, hp, rfl, _⟩
        · rw [ha] at e; cases e; exact absurd rfl d1
        · rw [ht p hp] at e; cases e; exact absurd rfl (d2 _)
    have noA : ∀ {b : Addr} {o : Obj} {es : Array DictEntry} {ep : Nat}, s₁.heap.get? b = some o → o.data = .dict es ep → H b = none := fun {b o es ep} e d => by
      cases q : H b with
      | none => rfl
      | some u =>
        rcases hA b u q with ⟨rfl, _⟩ | ⟨p, hp, rfl, _⟩
        · rw [ha] at e; cases e
          have d' : Data.seq vs.toArray _ = Data.dict es ep := d
          cases d'
        · rw [ht p hp] at e; cases e
          have d' : Data.fields #[] = Data.dict es ep := d
          cases d'
    have nsK : ∀ {b : Addr} {m : Str → Option Value}, s₁.heap.Ns b m → (hidT s₁.heap H).Ns b m := fun {b m} ⟨o, es, ep, e, d, r⟩ => ⟨o, es, ep, base_of e (noA e d), d, r⟩
    have hKb : K.In (hidT s₁.heap H) := fun b o e => base_of (KX b o e) (by
      cases q : H b with
      | none => rfl
      | some u =>
        rcases hA b u q with ⟨rfl, z, _⟩ | ⟨p, hp, rfl, _⟩
        · rw [z] at e; cases e
        · rw [(hk p hp).out] at e; cases e)
    have hM : Mod K mg (hidT s₁.heap H) := ⟨hKb, nsK hns, ⟨mb, nsK hb, hbb⟩, let ⟨mc, h1, h2⟩ := hlim; ⟨mc, nsK h1, h2⟩⟩
    have e0 : Env0 P w K mg (hidT s₁.heap H) callerA [] s₁ H := ⟨rfl, hM, fun b o e => of_hidT e, Nat.le_of_eq (hidT_size _ _), trivial, fun b hb => absurd (show b ∈ ([] : List Addr) from hb) (by simp), hok, .of_eq hg⟩
    have hBM : BMain mg (hidT s₁.heap H) := by
      obtain ⟨bm, ob, b1, b2, b3, b4, b5, b6⟩ := hbm
      refine ⟨bm, ob, b1, b2, fun z => ?_, base_of b3 (noH b3 (by rw [b4]; simp) fun vs z => by rw [b6] at z; cases z), b4, b5, b6⟩
      obtain ⟨o, es, ep, e, d, _⟩ := hns
      rw [← z, b3] at e; cases e
      rw [b6] at d; cases d
    refine codeAny_mono ((F _ hKb (nsK hns) hBM).run callerA [] s₁ H ⟨[.ref a], []⟩ [.ref a] [.ref a] _ _ hr e0 (hbind s₁ (.ref a)) (.cons rfl .nil) (hsp H hS hT)) fun r s' h => ?_
    cases r with
    | error e => exact False.elim h
    | ok fl =>
      cases fl with
      | next => exact False.elim h
      | brk => exact False.elim h
      | cont => exact False.elim h
      | ret u =>
        obtain ⟨v, H', os, bare, un, hok', r', q⟩ := h
        have q' : v = .bl true := q
        subst q'
        obtain rfl : u = Value.bool true := r'
        refine ⟨rfl, ⟨fun b o e => ?_, fun b o e => un.there b o e (by simp)⟩, os, bare⟩
        cases q : H b with
        | none => exact .inl (un.keep b o e q (by intro z; exact absurd (show b ∈ ([] : List Addr) from z) (by simp)) (by simp))
        | some u =>
          rcases hA b u q with ⟨rfl, _, ob, xs, rfl⟩ | ⟨p, hp, rfl, rfl⟩
          · have z2 := un.frzs _ ob _ q
            obtain ⟨e1, _⟩ := hok _ _ q
            obtain ⟨e2, _⟩ := hok' _ _ z2
            rw [e] at e1; cases e1
            exact .inl e2
          · obtain ⟨more, z2⟩ := un.tbls p.2 #[] q
            have e2 : s'.heap.get? p.2 = some (PySem.W.tabObj (#[] ++ more)) := hok' _ _ z2
            obtain ⟨_, _, _, c, _, _, _, _, hcd⟩ := (hk p hp).code
            have hTA := (PySem.W.codeHd_of_K KX hcd).tab (ht p hp)
            rw [ht p hp] at e; cases e
            exact .inr (.inl ⟨hTA.isCodeTable, rfl, #[], more, rfl, e2⟩)
  have nt : ∀ p ∈ ts, p.2 ≠ a := fun p hp z => by
    have := ht p hp
    rw [z, ha] at this; cases this
  cases hka : K.lookup a with
  | some o =>
    have e := KX a o hka
    rw [ha] at e
    cases e
    let H : Hp := fun b => if (ts.map (·.2)).contains b = true then some (.tbl #[]) else none
    have hin : ∀ p ∈ ts, H p.2 = some (.tbl #[]) := fun p hp => if_pos (by simp; exact ⟨p.1, hp⟩)
    refine core H (.inr ⟨_, vs.toArray, _, hka, rfl, rfl, rfl, by rw [List.size_toArray, lenV]; exact hl, by simpa using rv⟩) hin (fun b u z => ?_) fun b u z => ?_
    · by_cases hb : (ts.map (·.2)).contains b = true
      · have z : (if (ts.map (·.2)).contains b = true then some (HO.tbl #[]) else none) = some u := z
        rw [if_pos hb] at z; cases z
        obtain ⟨p, hp, rfl⟩ := List.mem_map.mp (List.contains_iff_mem.mp hb)
        exact ht p hp
      · have z : (if (ts.map (·.2)).contains b = true then some (HO.tbl #[]) else none) = some u := z
        rw [if_neg hb] at z; cases z
    · by_cases hb : (ts.map (·.2)).contains b = true
      · have z : (if (ts.map (·.2)).contains b = true then some (HO.tbl #[]) else none) = some u := z
        rw [if_pos hb] at z; cases z
        obtain ⟨p, hp, rfl⟩ := List.mem_map.mp (List.contains_iff_mem.mp hb)
        exact .inr ⟨p, hp, rfl, rfl⟩
      · have z : (if (ts.map (·.2)).contains b = true then some (HO.tbl #[]) else none) = some u := z
        rw [if_neg hb] at z; cases z
  | none =>
    let H : Hp := fun b => if b = a then some (.frz { cls := .type "list", data := .seq vs.toArray } (.lst (ns.map V.int))) else if (ts.map (·.2)).contains b = true then some (.tbl #[]) else none
    have hin : ∀ p ∈ ts, H p.2 = some (.tbl #[]) := fun p hp => (if_neg (nt p hp)).trans (if_pos (by simp; exact ⟨p.1, hp⟩))
    have hat : H a = some (.frz { cls := .type "list", data := .seq vs.toArray } (.lst (ns.map V.int))) := if_pos rfl
    have hcase : ∀ b u, H b = some u → (b = a ∧ u = .frz { cls := .type "list", data := .seq vs.toArray } (.lst (ns.map V.int))) ∨ ∃ p ∈ ts, b = p.2 ∧ u = .tbl #[] := fun b u z => by
      by_cases hba : b = a
      · subst hba
        rw [hat] at z; cases z
        exact .inl ⟨rfl, rfl⟩
      · have z : (if b = a then some (HO.frz { cls := .type "list", data := .seq vs.toArray } (.lst (ns.map V.int))) else if (ts.map (·.2)).contains b = true then some (HO.tbl #[]) else none) = some u := z
        rw [if_neg hba] at z
        by_cases hb : (ts.map (·.2)).contains b = true
        · rw [if_pos hb] at z; cases z
          obtain ⟨p, hp, rfl⟩ := List.mem_map.mp (List.contains_iff_mem.mp hb)
          exact .inr ⟨p, hp, rfl, rfl⟩
        · rw [if_neg hb] at z; cases z
    refine core H (.inl ⟨_, hat⟩) hin (fun b u z => ?_) fun b u z => ?_
    · rcases hcase b u z with ⟨rfl, rfl⟩ | ⟨p, hp, rfl, rfl⟩
      · exact ⟨ha, by rw [List.length_map]; exact hl, vs, _, rv, ha⟩
      · exact ht p hp
    · rcases hcase b u z with ⟨rfl, rfl⟩ | h
      · exact .inl ⟨rfl, hka, _, _, rfl⟩
      · exact .inr h
/-- the script and the tables as the law finds them -/
theorem script_repT {K : PySem.W.Frag} {H : Hp} {a : Addr} {ns : List Int} {ts : List (Str × Addr)} (hnd : (ts.map (·.2)).Nodup) (hS : FrzL K H a (ns.map V.int)) (hT : ∀ p ∈ ts, H p.2 = some (.tbl #[])) (hk : ∀ p ∈ ts, TabK K p.1 p.2) :
    RepS K (a :: ts.map (·.2)) H (.frz (ns.map D.int) :: ts.map fun p => .tab p.1) := by
  have hv : ∀ (μ : List Addr) (l : List Int), RepVs K μ H (l.map D.int) (l.map V.int) := fun μ l => by
    induction l with
    | nil => exact RepVs.nil
    | cons i l ih => exact RepVs.cons (RepV.int_iff.mpr rfl) ih
  refine ⟨by simp, fun n o e => ?_, fun i j b oi oj ei ej mi mj hi hj => ?_⟩
  · match n, e with
    | 0, e =>
      simp at e; subst e
      exact ⟨a, rfl, _, hS, hv _ ns⟩
    | n + 1, e =>
      rw [List.getElem?_cons_succ, List.getElem?_map] at e
      cases q : ts[n]? with
      | none => rw [q] at e; cases e
      | some p =>
        rw [q] at e; cases e
        have hp := List.mem_of_getElem? q
        refine ⟨p.2, by rw [List.getElem?_cons_succ, List.getElem?_map, q]; rfl, (hk p hp).code, #[], hT p hp, trivial, fun pos cv z => by cases z⟩
  · match i, j, ei, ej, hi, hj with
    | 0, _, ei, _, _, _ => simp at ei; subst ei; cases mi
    | _ + 1, 0, _, ej, _, _ => simp at ej; subst ej; cases mj
    | i + 1, j + 1, _, _, hi, hj =>
      rw [List.getElem?_cons_succ] at hi hj
      have h1 := (List.getElem?_eq_some_iff.mp hi).1
      rw [(List.getElem?_inj h1 hnd).mp (hi.trans hj.symm)]
theorem holds_ofT (ts : List (Str × Addr)) {l : PySem.W.OpenLaw} {k : Nat} {q : Program} {loose : List Str} {XP : (Str → Option Value) → Heap → Prop} {YP : World → Heap → Prop} {d : DefRec} {K : Params → PySem.W.Frag} {F : FD} {x : Str}
    (hn : l.most = some 63) (hdf : d.params.defaults = []) (hr : Room k callerA) (hnd : (ts.map (·.2)).Nodup)
    (hY : ∀ (w : World) (h : Heap), YP w h → (K w.params).In h ∧ ∀ P ∈ ts.map (·.2), h.get? P = some (PySem.W.tabObj #[]))
    (G : ∀ (w : World) (mg : Str → Option Value) (fa : Addr) (h : Heap), (K w.params).In h → h.Ns mainGlobals mg → mg d.name = some (.ref fa) →
      ∃ fd : FuncData, (∀ (s : Shared) (u : Value), BindsTo s fd ⟨[u], []⟩ [(x, u)]) ∧ (∀ p ∈ ts, TabK (K w.params) p.1 p.2) ∧ ∀ base : Heap, (K w.params).In base → base.Ns mainGlobals mg → BMain mg base → FnOk l.prog w (K w.params) mg base CX0 k fa fd [x] (spM (K w.params) 1 F))
    (hF : ∀ ns : List Int, ns.length ≤ 63 → ∃ st, F [.loc 0] (.frz (ns.map D.int) :: ts.map fun p => .tab p.1) = .ok (.bl true) st) :
    PySem.W.WalkO q loose XP YP l.row.toRowW d [] (fun f vs => PySem.call f vs) := by
  refine Att.attach_call hn hdf fun w s₀ s₁ mg mb fa o pm cd doc a vs ns G0 Y ho hd hcd hmg hobj hints hlen hg => ?_
  obtain ⟨KX, hT⟩ := hY w _ Y
  obtain ⟨fd, hb, hk, hF'⟩ := G w mg fa _ KX G0.T.g hmg
  refine law_callT (ts := ts) KX G0.T.g G0.T.b G0.T.builtins G0.T.nolimit hg G0.T.bmain (fun p hp => hT p.2 (List.mem_map.mpr ⟨p, hp, rfl⟩)) hk hobj hints (Nat.le_trans hlen (by decide)) hr hF' hb fun H hS hTb => ?_
  obtain ⟨st, e⟩ := hF ns hlen
  refine ⟨rfl, a :: ts.map (·.2), [.loc 0], _, RepVs.cons (RepV.loc_iff.mpr ⟨a, rfl, rfl⟩) RepVs.nil, script_repT hnd hS hTb hk, ?_⟩
  rw [e]
  exact fun v H' μ' _ _ hv => RepV.bl_iff.mp hv
/-! ### a def that makes lambdas: it knows its own code -/
structure FunT (K : PySem.W.Frag) (x : Str) (st : Stmt) (f : Addr) (fd : FuncData) : Prop where
  ex : ∃ (oc : Value) (od : Option Addr) (dV kV doc pm : Value) (an : Option Addr) (c : Addr) (ct : Value) (osl : Array (Option Value)),
    fd = PySem.W.fnOf x x (defArgs st) (defBody st) (defScope st) dV kV doc pm an (.ref c) ct ∧ K.lookup f = some ⟨oc, od, .func fd, osl⟩ ∧ PySem.W.codeIn K (.ref c) x = true
  ns : PySem.W.nsIn K mainGlobals x = some (some (.ref f))
  kp : PySem.W.keepIn K (.ref f) = true
end M
namespace M
open PySem PySem.Spec L2
def argAt : Expr → Nat → Expr
  | .Call _ as _ _, i => as.getD i (.Constant .none 0 ⟨0, 0, 0, 0⟩)
  | e, _ => e
def valOfS : Stmt → Expr
  | .Return (some e) _ => e
  | .Assign _ e _ => e
  | _ => .Constant .none 0 ⟨0, 0, 0, 0⟩
def noLam : LamS := ⟨"", ⟨[], [], none, [], [], none, []⟩, .Constant .none 0 ⟨0, 0, 0, 0⟩, defScope (.Pass ⟨0, 0, 0, 0⟩), []⟩
def lamOf (x : Str) (caps : List Str) : Expr → LamS
  | .Lambda ps b sc _ => ⟨lamQual x, ps, b, sc, caps⟩
  | _ => noLam
end M
namespace M
open L2
/-! ### running lambdas -/
@[simp] theorem isClo_lst (l : List D) : (MO.lst l).isClo = false := rfl
@[simp] theorem isClo_frz (l : List D) : (MO.frz l).isClo = false := rfl
@[simp] theorem isClo_tab (x : PySem.Str) : (MO.tab x).isClo = false := rfl
@[simp] theorem isClo_dic (l : List (List Key × D)) : (MO.dic l).isClo = false := rfl
@[simp] theorem isClo_dkc (l : List (Key × D)) : (MO.dkc l).isClo = false := rfl
@[simp] theorem isClo_dkf (l : List (Key × D)) : (MO.dkf l).isClo = false := rfl
end M
namespace M
open PySem PySem.Spec L2
section
variable {X : Cx} {elt tg iter c : Expr} {ifs : List Expr} {scope : Scope} {pos : Pos} {N : List Str} {capt : List (Option Nat)} {mi : MI} {g : MG} {t : MT} {me : ME}
end
end M
namespace L2
open PySem PySem.Spec PyProof.Rows
/-! ### enumerate(text), of signs below 128 -/
def Ites (x : Str) : It :=
  ⟨fun i _ => i < x.cps.size,
   fun i H y H' => ∃ p c, H p = none ∧ y = .ref p ∧ x.cps[i]? = some c ∧ H' = upd H p (.tup [.int i, .str ⟨#[c]⟩]),
   fun i _ => x.cps.size ≤ i⟩
def iEnumS (ta : TA) : TI := fun σ H R => ta σ H fun vs H1 => ∃ x, vs = [.str x] ∧ strIterType x = "str_ascii_iterator" ∧ R (Ites x) H1
end L2
namespace M
open PySem PySem.Spec L2
section
variable {X : Cx} {a : Expr} {mA : MA} {μ : List Addr} {H : Hp} {p pos tpos : Pos}
def enumSI (mA : MA) : MI := fun env st => (mA env st).bind fun ds st1 => match ds with
  | [.str cs] => if cs.all (fun c => decide (c < 128)) = true then .ok (enumL 0 (cs.map fun c => D.str [c]), []) st1 else .bad
  | _ => .bad
end
end M
namespace M
open PySem PySem.Spec PySem.SeqAt L2
/-! ### tuples of the module's top -/
section
variable {X : Cx} {pos : Pos} {x : Str} {L : Nat}
/-! ### x in a list of flat things -/
def inLV (L : Nat) (neg : Bool) : D → D → Stor → R D
  | d, .loc n, st => match itemsAt st n with
    | some ds => if flat d = true ∧ flats ds = true ∧ (ds.all fun e => decide (cdep e d < L)) = true then .ok (.bl (if neg then !(ds.any fun e => eqD e d) else ds.any fun e => eqD e d)) st else .bad
    | none => .bad
  | _, _, _ => .bad
end
end M
namespace M
open PySem PySem.Spec L2
/-! ### a, b = a list -/
section
variable {prog : Program} {w : World} {A : Around} {E : Value → Shared → Prop} {s : Shared}
end
section
variable {X : Cx} {es : List Expr} {pos : Pos}
/-- (a, b, ..) = a tuple or a list of that length -/
def gSeq (K : PySem.W.Frag) (n : Nat) (t : TGs) : TG := fun v σ H Q => ∃ a xs, v = .ref a ∧ (SqT K H a xs ∨ SqL K H a xs) ∧ xs.length = n ∧ t xs σ H Q
def unpG (n : Nat) (g : MGs) : MG := fun d env st => match d with
  | .tup ds => if ds.length = n then g ds env st else .bad
  | .loc k => (match itemsAt st k with | some ds => if ds.length = n then g ds env st else .bad | none => .bad)
  | _ => .bad
end
end M
namespace M
namespace Tr
/-! ### just n steps; coming to a value -/
def stp : Nat → Tr → Option Tr
  | 0, t => some t
  | n + 1, t => (step t).bind (stp n)
/-- comes to a value in n steps -/
def Ev (t : Tr) (n : Nat) (v : Tr) : Prop := stp n t = some v ∧ val v = true
abbrev tS : Tr := .lf [83]
abbrev tK : Tr := .lf [75]
abbrev tI : Tr := .jn (.jn tS tK) tK
end Tr
end M
namespace M
namespace Tr
/-- handed things one by one -/
inductive AppEv (p : Tr) : List Tr → Nat → Tr → Prop
  | nil (h : val p = true) : AppEv p [] 0 p
  | snoc (ts : List Tr) (t w v : Tr) (n m : Nat) (h : AppEv p ts n w) (ht : val t = true) (k : Ev (.jn w t) m v) : AppEv p (ts ++ [t]) (n + m) v
def apps (p : Tr) (ts : List Tr) : Tr := ts.foldl (fun w t => .jn w t) p
/-- what hands its things to whatever it is handed -/
def hold (ts : List Tr) : Tr := ts.foldl (fun w t => .jn (.jn tS w) (.jn tK t)) tI
/-- names that do not stand there, and a value -/
def unas : Nat → Tr → Tr
  | 0, v => v
  | n + 1, v => .jn tK (unas n v)
/-- the name x taken out of m times (K ..) of x -/
def pkT : Nat → Tr
  | 0 => tI
  | 1 => tK
  | m + 2 => .jn (.jn tS (.jn tK tK)) (pkT (m + 1))
def pkC : Nat → Nat
  | 0 => 2
  | 1 => 0
  | m + 2 => 2 + pkC (m + 1)
def pickT (k many : Nat) : Tr := unas k (pkT (many - 1 - k))
end Tr
end M
namespace M
open Tr
end M
namespace M
open L2
/-- l.pop(i), i from 0 on -/
def popAtV : D → List D → Stor → R D
  | .loc n, [.int i], st => match st[n]? with
    | some (.lst ds) => if 0 ≤ i ∧ i < 1000000 then (match ds[i.toNat]? with | some d => .ok d (st.set n (.lst (ds.eraseIdx i.toNat))) | none => .bad) else .bad
    | _ => .bad
  | _, _, _ => .bad
end M
namespace M
open PySem PySem.Spec L2
section
variable {X : Cx}
end
end M
namespace M
open L2
/-! ### dicts whose keys are ints and texts -/
def valN (kvs : List (Key × D)) (k : Key) : Option D := (kvs.find? fun kv => decide (kv.1 = k)).map (·.2)
theorem valN_cons (p : Key × D) (r : List (Key × D)) (k : Key) : valN (p :: r) k = if p.1 = k then some p.2 else valN r k := by
  unfold valN
  rw [List.find?_cons]
  by_cases h : p.1 = k
  · simp [h]
  · simp [h]
def putN (kvs : List (Key × D)) (k : Key) (d : D) : List (Key × D) :=
  if (kvs.any fun kv => decide (kv.1 = k)) = true then kvs.map (fun kv => if kv.1 = k then (kv.1, d) else kv) else kvs ++ [(k, d)]
def mergeN (kvs more : List (Key × D)) : List (Key × D) := more.foldl (fun acc kv => putN acc kv.1 kv.2) kvs
/-- {} -/
def dkE : ME := fun _ st => .ok (.loc st.length) (st ++ [.dkc []])
/-- d.get(k, x) -/
def getK2 : D → List D → Stor → R D
  | .loc n, [k, d], st => match st[n]?, keyOf k with
    | some (.dkc kvs), some kk => .ok ((valN kvs kk).getD d) st
    | _, _ => .bad
  | _, _, _ => .bad
/-- d[k] -/
def ixK : D → D → Stor → R D
  | .loc n, k, st => match st[n]?, keyOf k with
    | some (.dkc kvs), some kk => (match valN kvs kk with | some d => .ok d st | none => .bad)
    | _, _ => .bad
  | _, _, _ => .bad
/-- d[k] = v -/
def setK : D → D → D → Stor → R Unit
  | .loc n, k, d, st => match st[n]?, keyOf k with
    | some (.dkc kvs), some kk => if kvs.length < 1000000 then .ok () (st.set n (.dkc (putN kvs kk d))) else .bad
    | _, _ => .bad
  | _, _, _, _ => .bad
/-- pairs of a display -/
abbrev MPs := MEnv → Stor → R (List (D × D))
def nilPs : MPs := fun _ st => .ok [] st
def consPs (a b : ME) (r : MPs) : MPs := fun env st => (a env st).bind fun x st1 => (b env st1).bind fun y st2 => (r env st2).bind fun ps st3 => .ok ((x, y) :: ps) st3
def keysP : List (D × D) → Option (List (Key × D))
  | [] => some []
  | (k, d) :: r => match keyOf k, keysP r with | some kk, some l => some ((kk, d) :: l) | _, _ => none
/-- {k: v, ..} -/
def dispE (m : MPs) : ME := fun env st => (m env (st ++ [.dkc []])).bind fun ps st1 => match keysP ps, st1[st.length]? with
  | some kvs, some (.dkc []) => if kvs.length ≤ 15 then .ok (.loc st.length) (st1.set st.length (.dkc (mergeN [] kvs))) else .bad
  | _, _ => .bad
end M
namespace M
open PySem PySem.Spec L2
section
variable {X : Cx} {K : PySem.W.Frag} {μ : List Addr} {H : Hp}
theorem RepKV.valN {k : Key} : ∀ {kvs : List (Key × D)} {ws : List (Key × V)}, RepKV K μ H kvs ws →
    (M.valN kvs k = none ∧ valV ws k = none) ∨ ∃ d v, M.valN kvs k = some d ∧ valV ws k = some v ∧ RepV K μ H d v
  | [], ws, h => .inl ⟨rfl, by rw [RepKV] at h; rw [h]; rfl⟩
  | (j, d) :: r, ws, h => by
    obtain ⟨v, r', rfl, h1, h2⟩ := h
    rw [valN_cons]
    by_cases e : j = k
    · rw [if_pos e]
      exact .inr ⟨d, v, rfl, valV_pos (p := (j, v)) e, h1⟩
    · rw [if_neg e, valV_neg (p := (j, v)) e]
      exact RepKV.valN h2
end
section
variable {X : Cx} {a b o i : Expr} {ma mb : ME} {pos : Pos}
/-! displays -/
def RepPs (K : PySem.W.Frag) (μ : List Addr) (H : Hp) : List (D × D) → List (V × V) → Prop
  | [], vs => vs = []
  | (k, d) :: r, vs => ∃ u v s, vs = (u, v) :: s ∧ RepV K μ H k u ∧ RepV K μ H d v ∧ RepPs K μ H r s
abbrev relPs (X : Cx) : Rel (List (D × D)) (List (V × V)) := fun μ H d v => RepPs X.K μ H d v
def JPs (X : Cx) (pos : Pos) (keys : List (Option Expr)) (values : List Expr) (m : MPs) : Prop :=
  ∃ trs, PPs X pos keys values trs ∧ ∀ (σ : L2.St) (H : Hp) (Q : List (V × V) → Hp → Prop) (μ : List Addr) (env : MEnv) (st : Stor), RepE X.K μ H env σ → RepS X.K μ H st → Post X μ H (relPs X) Q (m env st) → tPairs trs σ H Q
end
end M
namespace M
open PySem PySem.Spec PySem.SeqAt L2
/-- ==, where lists of different lengths may hold what they will -/
def eqNV (L : Nat) : D → D → Stor → R D
  | .loc m, .loc n, st => match itemsAt st m, itemsAt st n with
    | some a, some b => if a.length = b.length then eqV L (.loc m) (.loc n) st else if 1 < L then .ok (.bl false) st else .bad
    | _, _ => .bad
  | d1, d2, st => eqV L d1 d2 st
end M
namespace L2
open PySem PySem.Spec PyProof.Rows
/-! ### for k in d (a dict with plain keys) -/
/-- the keys of the dict at d, whose object is o -/
def Itk (d : Addr) (o : Obj) (kvs : List (Key × V)) : It :=
  ⟨fun i H => i < kvs.length ∧ H d = some (.frz o (.dK kvs)), fun i H y H' => H' = H ∧ ∃ p, kvs[i]? = some p ∧ y = kV p.1, fun i H => kvs.length ≤ i ∧ H d = some (.frz o (.dK kvs))⟩
def iDk (tl : TE) : TI := fun σ H R => tl σ H fun y H1 => ∃ a kvs, y = .ref a ∧ ((∃ o, H1 a = some (.frz o (.dK kvs)) ∧ R (Itk a o kvs) H1) ∨ (H1 a = some (.dK kvs) ∧ ∀ o, R (Itk a o kvs) (upd H1 a (.frz o (.dK kvs)))))
end L2
namespace M
open PySem PySem.Spec L2
def keyD : Key → D
  | .inl i => .int i
  | .inr x => .str x.cps.toList
/-- for k in d -/
def dkI (m : ME) : MI := fun env st => (m env st).bind fun d st1 => match d with
  | .loc n => (match st1[n]? with
    | some (.dkc kvs) => .ok (kvs.map (fun p => keyD p.1), []) (st1.set n (.dkf kvs))
    | some (.dkf kvs) => .ok (kvs.map (fun p => keyD p.1), []) st1
    | _ => .bad)
  | _ => .bad
/-- d[k], also where d is only read -/
def ixA : D → D → Stor → R D
  | .loc n, k, st => match st[n]?, keyOf k with
    | some (.dkc kvs), some kk => (match valN kvs kk with | some d => .ok d st | none => .bad)
    | some (.dkf kvs), some kk => (match valN kvs kk with | some d => .ok d st | none => .bad)
    | _, _ => .bad
  | _, _, _ => .bad
section
variable {X : Cx} {tg l a b : Expr} {ml ma mb : ME} {μ : List Addr} {H : Hp} {K : PySem.W.Frag} {st : Stor} {pos : Pos}
end
end M
namespace L2
open PySem PySem.Spec PyProof.Rows
/-! ### the module's dicts: their keys are walked -/
def ItN (ks : List V) : It :=
  ⟨fun i _ => i < ks.length, fun i H y H' => H' = H ∧ ks[i]? = some y, fun i _ => ks.length ≤ i⟩
end L2
namespace L2
open PySem PySem.Spec PyProof.Rows
/-! ### l.extend(t), t a tuple -/
def rExtT (K : PySem.W.Frag) : V → List V → Hp → VK → Prop := fun x vs H Q => ∃ l b xs zs, x = .ref l ∧ vs = [.ref b] ∧ H l = some (.lst xs) ∧ SqT K H b zs ∧ xs.length + zs.length ≤ sizeLine ∧ Q .non (upd H l (.lst (xs ++ zs)))
end L2
namespace M
open PySem PySem.Spec L2
/-- l.extend(t) -/
def extendT : D → List D → Stor → R D
  | .loc n, [.tup b], st => match st[n]? with
    | some (.lst a) => if a.length + b.length ≤ 1000000 then .ok .non (st.set n (.lst (a ++ b))) else .bad
    | _ => .bad
  | _, _, _ => .bad
end M
namespace M
open PySem PySem.Spec L2
/-! ### the module's dicts, whose keys are texts -/
def keysI (tb : List (List Nat × D)) : MI := fun _ st => .ok (tb.map (fun p => D.str p.1), []) st
def lookT : List (List Nat × D) → List Nat → Option D
  | [], _ => none
  | (c, d) :: r, cs => if c = cs then some d else lookT r cs
def tabV (tb : List (List Nat × D)) : D → Stor → R D
  | .str cs, st => (match lookT tb cs with | some d => .ok d st | none => .bad)
  | _, _ => .bad
def tabE (tb : List (List Nat × D)) (m : ME) : ME := fun env st => (m env st).bind fun k st1 => tabV tb k st1
theorem strOf_eqM {a b : List Nat} : (strOf a = strOf b) ↔ a = b := by
  constructor
  · intro h
    have := congrArg (fun s => s.cps.toList) h
    simpa [strOf] using this
  · rintro rfl; rfl
/-- the module's dict at a: its keys and values -/
def keyT (tb : List (List Nat × D)) : List (Key × D) := tb.map fun p => (Sum.inr (strOf p.1), p.2)
structure DictK (w : World) (K : PySem.W.Frag) (a : Addr) (tb : List (List Nat × D)) : Prop where
  low : (a == sysModules) = false
  at_ : ∀ P : Program, ∃ (kvs : List (Key × V)) (vs : List (Key × Value)) (ep : Nat), (∀ μ H, RepKV K μ H (keyT tb) kvs) ∧ KV kvs vs ∧ ∀ h : Heap, K.In h → h.DictAt (mixKind P w) a vs ep
/-- the rows of such a dict -/
inductive Rws (K : PySem.W.Frag) (w : World) : List DictEntry → List (List Nat × D) → Prop
  | nil : Rws K w [] []
  | i {h : Int} {x : Str} {t u : Tok} {cs : List Nat} {n : Int} {es : List DictEntry} {tb : List (List Nat × D)} (hx : x = strOf cs) (hh : h = keyH w (.inr x)) (r : Rws K w es tb) : Rws K w (⟨h, .str x t, .int n u⟩ :: es) ((cs, .int n) :: tb)
theorem Rws.all {K : PySem.W.Frag} {w : World} (P : Program) : ∀ {es : List DictEntry} {tb : List (List Nat × D)}, Rws K w es tb →
    ∃ (kvs : List (Key × V)) (vs : List (Key × Value)), (∀ μ H, RepKV K μ H (keyT tb) kvs) ∧ KV kvs vs ∧ (∀ e ∈ es, ∃ k, (mixKind P w).is k e.key = true ∧ e.hash = (mixKind P w).hash k) ∧ Pairs (mixKind P w) es vs ∧ vs.map (·.1) = (keyT tb).map (·.1)
  | _, _, .nil => ⟨[], [], fun _ _ => rfl, .nil, (fun _ h => nomatch h), .nil, rfl⟩
  | _, _, @Rws.i _ _ h x t u cs n es tb hx hh r => by
    obtain ⟨kvs, vs, h1, h2, h3, h4, h5⟩ := Rws.all P r
    refine ⟨(.inr x, .int n) :: kvs, (.inr x, .int n u) :: vs, fun μ H => ?_, .cons ⟨rfl, ⟨u, rfl⟩⟩ h2, fun e he => ?_, .cons (mixKind_str P w x t) rfl h4, ?_⟩
    · subst hx
      exact ⟨.int n, kvs, rfl, RepV.int_iff.mpr rfl, h1 μ H⟩
    · rcases List.mem_cons.mp he with rfl | he
      · exact ⟨.inr x, mixKind_str P w x t, hh⟩
      · exact h3 e he
    · subst hx
      show (.inr (strOf cs) : Key) :: vs.map (·.1) = .inr (strOf cs) :: (keyT tb).map (·.1)
      rw [h5]
theorem dictK_mk {w : World} {K : PySem.W.Frag} {a : Addr} {tb : List (List Nat × D)} {es : Array DictEntry} {ep : Nat} (hl : K.lookup a = some ⟨.type "dict", none, .dict es ep, #[]⟩) (h0 : (a == sysModules) = false) (hr : Rws K w es.toList tb) (hn : (tb.map (·.1)).Nodup) : DictK w K a tb := by
  refine ⟨h0, fun P => ?_⟩
  obtain ⟨kvs, vs, h1, h2, h3, h4, h5⟩ := Rws.all P hr
  refine ⟨kvs, vs, ep, h1, h2, fun h KI => ⟨_, es, KI a _ hl, ⟨rfl, rfl, rfl⟩, rfl, fun e he => h3 e (by simpa using he), h4, ?_⟩⟩
  rw [h5]
  have e : (keyT tb).map (·.1) = (tb.map (·.1)).map fun cs => (Sum.inr (strOf cs) : Key) := by simp [keyT]
  rw [e]
  exact List.Pairwise.map (fun cs => (Sum.inr (strOf cs) : Key)) (fun a b hne e => hne (strOf_eqM.mp (Sum.inr.inj e))) hn
theorem valN_keyT (cs : List Nat) : ∀ tb : List (List Nat × D), valN (keyT tb) (.inr (strOf cs)) = lookT tb cs
  | [] => rfl
  | (c, d) :: r => by
    show valN ((Sum.inr (strOf c), d) :: keyT r) _ = _
    rw [valN_cons, valN_keyT cs r]
    by_cases h : c = cs
    · subst h; simp [lookT]
    · rw [if_neg (fun z => h (strOf_eqM.mp (Sum.inr.inj z)))]; simp [lookT, h]
section
variable {X : Cx} {tg b : Expr} {mb : ME} {pos pos' : Pos} {x : Str} {tb : List (List Nat × D)}
end
end M
namespace M
open PySem PySem.Spec PySem.SeqAt L2
/-! ### i << j -/
def shlV : D → D → Stor → R D := intV (fun i j => 0 ≤ j ∧ j ≤ 1000000 ∧ i.natAbs < 2 ^ 64) fun i j => .int (i * 2 ^ j.toNat)
/-! ### dict(d), d != e: dicts with text keys and flat values -/
def dictC : List D → Stor → R D
  | [.loc n], st => match st[n]? with | some (.dkc kvs) => .ok (.loc st.length) (st ++ [.dkc kvs]) | _ => .bad
  | _, _ => .bad
def hitD (b : List (Key × D)) (p : Key × D) : Bool := match valN b p.1 with | some d => eqD p.2 d | none => false
def eqKV (a b : List (Key × D)) : Bool := a.length == b.length && a.all (hitD b)
def fitKV (L : Nat) (a : List (Key × D)) : Bool := a.all fun p => flat p.2 && decide (dep p.2 < L)
def neKV (L : Nat) : D → D → Stor → R D
  | .loc m, .loc n, st => match st[m]?, st[n]? with
    | some (.dkc a), some (.dkc b) => if fitKV L a = true ∧ fitKV L b = true then .ok (.bl (!(eqKV a b))) st else .bad
    | _, _ => .bad
  | _, _, _ => .bad
section
variable {X : Cx} {L : Nat}
end
end M
namespace M
open PySem PySem.Spec L2
/-! ### figures: str(i), int(text) of numbers from 0 to 999; G.get(k) of the module's dicts -/
def fig (n : Nat) : List Nat := if n < 10 then [48 + n] else if n < 100 then [48 + n / 10, 48 + n % 10] else [48 + n / 100, 48 + n / 10 % 10, 48 + n % 10]
def isFig (c : Nat) : Bool := decide (48 ≤ c ∧ c ≤ 57)
def figV : List Nat → Option Nat
  | [a] => if isFig a then some (a - 48) else none
  | [a, b] => if isFig a && isFig b && decide (a ≠ 48) then some ((a - 48) * 10 + (b - 48)) else none
  | [a, b, c] => if isFig a && isFig b && isFig c && decide (a ≠ 48) then some ((a - 48) * 100 + (b - 48) * 10 + (c - 48)) else none
  | _ => none
def strW : List D → Stor → R D
  | [.str cs], st => .ok (.str cs) st
  | [.int i], st => if 0 ≤ i ∧ i < 1000 then .ok (.str (fig i.toNat)) st else .bad
  | _, _ => .bad
def intW : List D → Stor → R D
  | [.str cs], st => (match figV cs with | some n => .ok (.int (n : Nat)) st | none => .bad)
  | ds, st => intC ds st
def tabG (tb : List (List Nat × D)) : D → Stor → R D
  | .str cs, st => .ok ((lookT tb cs).getD .non) st
  | _, _ => .bad
def tabGE (tb : List (List Nat × D)) (m : ME) : ME := fun env st => (m env st).bind fun k st1 => tabG tb k st1
@[simp] theorem r_tabGE (tb : List (List Nat × D)) (m : ME) (env : MEnv) (st : Stor) : tabGE tb m env st = (m env st).bind fun k st1 => tabG tb k st1 := by_rfl rfl
@[simp] theorem r_tabG (tb : List (List Nat × D)) (cs : List Nat) (st : Stor) : tabG tb (.str cs) st = .ok ((lookT tb cs).getD .non) st := by_rfl rfl
@[simp] theorem r_strW_s (cs : List Nat) (st : Stor) : strW [.str cs] st = .ok (.str cs) st := by_rfl rfl
theorem r_strW_i (n : Nat) (st : Stor) (h : n < 1000) : strW [.int (n : Nat)] st = .ok (.str (fig n)) st := by
  show (if (0 : Int) ≤ (n : Int) ∧ (n : Int) < 1000 then R.ok (D.str (fig (n : Int).toNat)) st else .bad) = _
  rw [if_pos (by omega), Int.toNat_natCast]
theorem figV_fig : ∀ n : Nat, n < 1000 → figV (fig n) = some n := by
  intro n h
  unfold fig
  split
  · simp [figV, isFig]; omega
  · split
    · simp [figV, isFig]; omega
    · simp [figV, isFig]; omega
theorem r_intW_s (n : Nat) (st : Stor) (h : n < 1000) : intW [.str (fig n)] st = .ok (.int (n : Nat)) st := by
  unfold intW
  simp only [figV_fig n h]
theorem figV_some : ∀ {cs : List Nat} {n : Nat}, figV cs = some n → n < 1000 ∧ cs = fig n := by
  intro cs n h
  unfold figV at h
  split at h
  · rename_i a
    split at h
    · rename_i c
      simp only [isFig, decide_eq_true_eq] at c
      cases h
      refine ⟨by omega, ?_⟩
      unfold fig
      rw [if_pos (by omega)]
      congr 1; omega
    · cases h
  · rename_i a b
    split at h
    · rename_i c
      simp only [isFig, Bool.and_eq_true, decide_eq_true_eq] at c
      cases h
      refine ⟨by omega, ?_⟩
      unfold fig
      rw [if_neg (by omega), if_pos (by omega)]
      congr 1
      · omega
      · congr 1; omega
    · cases h
  · rename_i a b d
    split at h
    · rename_i c
      simp only [isFig, Bool.and_eq_true, decide_eq_true_eq] at c
      cases h
      refine ⟨by omega, ?_⟩
      unfold fig
      rw [if_neg (by omega), if_neg (by omega)]
      congr 1
      · omega
      · congr 1
        · omega
        · congr 1; omega
    · cases h
  · cases h
/-! sound -/
theorem fig_text_all : ((List.range 1000).all fun n => decide ((Nat.toDigits 10 n).map Char.toNat = fig n)) = true := by decide +kernel
theorem fig_text {n : Nat} (h : n < 1000) : PySem.Str.ofString (toString ((n : Nat) : Int)) = strOf (fig n) := by
  have h1 := List.all_eq_true.mp fig_text_all n (List.mem_range.mpr h)
  simp only [decide_eq_true_eq] at h1
  have h2 := PySem.W.KIN.signs_num n
  rw [h1] at h2
  show _ = (⟨(fig n).toArray⟩ : Str)
  rw [← h2]
section
variable {X : Cx} {b : Expr} {mb : ME} {x : Str} {tb : List (List Nat × D)} {cpos apos pos' : Pos}
theorem call_strW : CallR X (.type "str") (rMC X strW) := by
  rintro pins s σ H xs us Q I rv ⟨μ, st, ds, hs, hv, hp⟩
  unfold strW at hp
  split at hp
  · rename_i cs
    obtain ⟨v, rfl, q⟩ := RepVs.one hv
    obtain rfl := RepV.str_iff.mp q
    obtain ⟨u, rfl, t, rfl⟩ := rv.one
    exact P.str_of_str ⟨.str (strOf cs), H, I, ⟨_, rfl⟩, hp.ret hs (RepV.str_iff.mpr rfl)⟩
  · rename_i i
    split at hp
    · rename_i hi
      obtain ⟨v, rfl, q⟩ := RepVs.one hv
      obtain rfl := RepV.int_iff.mp q
      obtain ⟨u, rfl, t, rfl⟩ := rv.one
      obtain ⟨n, rfl⟩ := Int.eq_ofNat_of_zero_le hi.1
      have hn : n < 1000 := by omega
      rw [Int.toNat_natCast] at hp
      refine PySem.P.str_of_int ?_ ⟨.str (PySem.Str.ofString (toString ((n : Nat) : Int))), H, I.tok _, ⟨_, rfl⟩, hp.ret hs (RepV.str_iff.mpr (by rw [fig_text hn]))⟩
      have : n.log2 ≤ n := Nat.log2_le_self n
      show (Int.natAbs (n : Int)).log2 < 1920
      rw [Int.natAbs_natCast]; omega
    · exact hp.elim
  · exact hp.elim
theorem call_intW : CallR X (.type "int") (rMC X intW) := by
  rintro pins s σ H xs us Q I rv ⟨μ, st, ds, hs, hv, hp⟩
  unfold intW at hp
  split at hp
  · rename_i cs
    split at hp
    · rename_i n e
      obtain ⟨hn, ec⟩ := figV_some e
      obtain ⟨v, rfl, q⟩ := RepVs.one hv
      obtain rfl := RepV.str_iff.mp q
      obtain ⟨u, rfl, t, rfl⟩ := rv.one
      rw [ec, ← fig_text hn]
      exact PySem.W.KIN.call_num (n := ((n : Nat) : Int)) (by omega) (by omega) ⟨.int (n : Nat), H, I.tok _, ⟨_, rfl⟩, hp.ret hs (RepV.int_iff.mpr rfl)⟩
    · exact hp.elim
  · exact call_intC pins s σ H xs us Q I rv ⟨μ, st, _, hs, hv, hp⟩
theorem je_tabGet (h : ∃ a, X.mg x = some (.ref a) ∧ DictK X.w X.K a tb) (hb : JE X b mb) (hg : Gl X x := by rfl) (hd : (x == ("__debug__" : Str)) = false := by decide)
    (hbase : attributeBase (.Name x pos') "get" X.env (eval (.Name x pos') X.env) = eval (.Name x pos') X.env := by rfl)
    (hfew : ((backTo cpos (starEach [b] X.env)).all (fun x => !x.1) && (backToKw cpos (keywordEach [] X.env)).all (fun x => x.1.isSome)
      && decide ([b].length + ([] : List Keyword).length + (if ([] : List Keyword).isEmpty then 0 else 1) < 30)) = true := by rfl)
    (hline : (apos.endLine == cpos.line) = true := by rfl) (hs : starEach [b] X.env = (false, eval b X.env) :: starEach [] X.env := by rfl) :
    JE X (.Call (.Attribute (.Name x pos') "get" apos) [b] [] cpos) (tabGE tb mb) := by
  obtain ⟨a, hm, dk⟩ := h
  obtain ⟨kvs, vs, ep, h1, rel, da⟩ := dk.at_ X.prog
  rintro pins s σ H Q I ⟨μ, env, st, hE, hsS, hp⟩
  refine wpAny_Call_method_late hbase hfew hline rfl (ld_glob I hg hm ?_ hd)
  have d0 := (da _ I.kIn).dictOf
  refine ⟨"dict", "dict.get", PySem.F.plainAttrs_dict, PySem.F.slot_dict_get, PySem.F.type_dict_get, d0.typeIs, d0.mapOf.noDict, ?_⟩
  rw [hs]
  refine Calls.callWith_builtin rfl (Calls.evalArgs_plain (Calls.spliced_cons (thn (hb pins s σ H _ I ⟨μ, env, st, hE, hsS, Post.bind hp⟩) fun iv s1 ⟨y, H1, I1, ry, μ1, st1, d, g1, hs1, hv, hp1⟩ => Calls.spliced_nil ?_)))
  dsimp only at hp1
  unfold tabG at hp1
  split at hp1
  · rename_i cs
    obtain rfl := RepV.str_iff.mp hv
    have dd := (da _ I1.kIn).dictOf
    refine call_meetsIn PySem.F.slot_dict_get dd.typeIs PySem.F.entry_dict_get (PySem.F.args_dict_get_2 _ _) (meets_dict_get (mixKind X.prog X.w) a (kV_is (k := .inr (strOf cs)) ry) dk.low) ⟨_, dd.mapOf, ?_⟩
    rcases (h1 μ1 H1).valN (k := .inr (strOf cs)) with ⟨z1, z2⟩ | ⟨d2, v', z1, z2, z3⟩
    · rw [valN_keyT] at z1
      rw [z1] at hp1
      have hn : valueAt vs (.inr (strOf cs)) = none := RelO.none_of (by rw [← z2]; exact rel.val _)
      rw [hn]
      exact ⟨.non, H1, I1.tok _, rfl, hp1.ret hs1 (RepV.non_iff.mpr rfl)⟩
    · rw [valN_keyT] at z1
      rw [z1] at hp1
      obtain ⟨w', hw, rw'⟩ := RelO.some_of (v := v') (o := valueAt vs (.inr (strOf cs))) (by rw [← z2]; exact rel.val _)
      rw [hw]
      exact ⟨v', H1, I1.tok _, rw', hp1.ret hs1 z3⟩
  · exact hp1.elim
end
end M
set_option maxHeartbeats 0
namespace Law
open PySem PySem.Spec L2 M
def top (i : Nat) : Stmt := PySem.Challenge.pw_oneofall_k14_programs_written.main.body.getD i (.Pass ⟨0, 0, 0, 0⟩)
abbrev s_p_counter_read : Stmt := top 7
abbrev s_p_row_of_line : Stmt := top 8
abbrev s_p_is_number : Stmt := top 9
abbrev s_p_counter_show : Stmt := top 10
abbrev s_p_line_of_row : Stmt := top 11
abbrev s_l_cell_at : Stmt := top 13
abbrev s_l_mixed : Stmt := top 14
abbrev s_l_number : Stmt := top 15
abbrev s_l_row : Stmt := top 16
abbrev s_l_figures : Stmt := top 17
abbrev s_l_text : Stmt := top 18
abbrev s_l_right : Stmt := top 19
abbrev s_p_law : Stmt := top 20
/-! ### the denotations -/
noncomputable def b_p_is_number : MS :=
    (seqS (ifS (orT (tB1 (op2 (eqV 200) (vr 0) (ct (.str [])))) (tB1 (op2 gtV (callE lenV (consA (vr 0) nilA)) (ct (.int 3))))) (retS (ct (.bl false))) skipS)
    (seqS (ifS (andT (tB1 (op2 (eqV 200) (op2 ixV (vr 0) (ct (.int 0))) (ct (.str [48])))) (tB1 (op2 (neV 200) (vr 0) (ct (.str [48]))))) (retS (ct (.bl false))) skipS)
    (retS (callE (allV fun bs => bs.all fun b => b) (consA (compE [none] (strI (vr 0)) (nameG 0) yesT (op2 inSV (vr 0) (ct (.str [48, 49, 50, 51, 52, 53, 54, 55, 56, 57])))) nilA)))))
noncomputable def F_p_is_number : FD := gcF (fnM 1 b_p_is_number)
noncomputable def b_p_row_of_line : MS :=
    (seqS (setS 1 (methE "str" splitV (vr 0) (consA (ct (.str [32])) nilA)))
    (seqS (ifS (tB1 (op2 (neV 200) (callE lenV (consA (vr 1) nilA)) (tabGE [([117, 112], .int 3), ([100, 111, 119, 110], .int 4)] (op2 ixV (vr 1) (ct (.int 0)))))) (retS (ct .non)) skipS)
    (seqS (ifS (notT (tru (callE (allV fun bs => bs.all fun b => b) (consA (compE [none] (seqI (slE (vr 1) (inP (ct (.int 1))) noP)) (nameG 0) yesT (callF F_p_is_number [] (consA (vr 0) nilA))) nilA)))) (retS (ct .non)) skipS)
    (retS (callE tupleC (consA (op2 addV (slE (vr 1) noP (inP (ct (.int 1)))) (compE [none] (seqI (slE (vr 1) (inP (ct (.int 1))) noP)) (nameG 0) yesT (callE intW (consA (vr 0) nilA)))) nilA))))))
noncomputable def F_p_row_of_line : FD := gcF (fnM 2 b_p_row_of_line)
noncomputable def b_p_counter_read : MS :=
    (seqS (ifS (tB1 (op2 (eqV 200) (vr 0) (ct (.str [])))) (retS (lstE nilA)) skipS)
    (seqS (setS 1 (lstE nilA))
    (seqS (forS (enumI (consA (methE "str" splitV (vr 0) (consA (ct (.str [10])) nilA)) nilA)) (tupG 2 (consG (nameG 2) (consG (nameG 3) nilG))) (seqS (setS 4 (callF F_p_row_of_line [] (consA (vr 3) nilA)))
    (seqS (ifS (tB1 (op2 isNoneV (vr 4) (ct .non))) badS skipS)
    (exprS (methE "list" appendV (vr 1) (consA (vr 4) nilA))))))
    (retS (vr 1)))))
noncomputable def F_p_counter_read : FD := gcF (fnM 5 b_p_counter_read)
noncomputable def b_p_line_of_row : MS :=
    (retS (methE "str" joinV (ct (.str [32])) (consA (compE [none] (seqI (vr 0)) (nameG 0) yesT (callE strW (consA (vr 0) nilA))) nilA)))
noncomputable def F_p_line_of_row : FD := gcF (fnM 1 b_p_line_of_row)
noncomputable def b_p_counter_show : MS :=
    (retS (methE "str" joinV (ct (.str [10])) (consA (compE [none] (seqI (vr 0)) (nameG 0) yesT (callF F_p_line_of_row [] (consA (vr 0) nilA))) nilA)))
noncomputable def F_p_counter_show : FD := gcF (fnM 1 b_p_counter_show)
noncomputable def b_l_cell_at : MS :=
    (seqS (ifS (tB1 (op2 ltV (vr 1) (callE lenV (consA (vr 0) nilA)))) (retS (op2 ixV (vr 0) (vr 1))) skipS)
    (retS (ct (.int 0))))
noncomputable def F_l_cell_at : FD := gcF (fnM 2 b_l_cell_at)
noncomputable def b_l_mixed : MS :=
    (seqS (setS 2 (op2 addV (op2 addV (op2 modV (vr 0) (ct (.int 1000000007))) (op2 mulV (ct (.int 7919)) (vr 1))) (ct (.int 13))))
    (retS (op2 fdivV (op2 modV (op2 mulV (vr 2) (vr 2)) (ct (.int 998244353))) (ct (.int 3)))))
noncomputable def F_l_mixed : FD := gcF (fnM 3 b_l_mixed)
noncomputable def b_l_number : MS :=
    (seqS (setS 2 (callF F_l_mixed [] (consA (vr 0) (consA (vr 1) nilA))))
    (retS (op2 ixV (lstE (consA (op2 modV (op2 fdivV (vr 2) (ct (.int 3))) (ct (.int 10))) (consA (op2 modV (op2 fdivV (vr 2) (ct (.int 3))) (ct (.int 1000))) (consA (op2 addV (ct (.int 100)) (op2 modV (op2 fdivV (vr 2) (ct (.int 3))) (ct (.int 900)))) nilA)))) (op2 modV (vr 2) (ct (.int 3))))))
noncomputable def F_l_number : FD := gcF (fnM 3 b_l_number)
noncomputable def b_l_row : MS :=
    (seqS (setS 1 (op2 fdivV (vr 0) (ct (.int 4))))
    (seqS (ifS (tB1 (op2 (eqV 200) (op2 modV (vr 0) (ct (.int 4))) (ct (.int 0)))) (retS (tupE (consA (ct (.str [117, 112])) (consA (op2 modV (vr 1) (ct (.int 1000))) (consA (op2 modV (op2 fdivV (vr 1) (ct (.int 1000))) (ct (.int 1000))) nilA))))) skipS)
    (seqS (ifS (tB1 (op2 (eqV 200) (op2 modV (vr 0) (ct (.int 4))) (ct (.int 2)))) (retS (tupE (consA (ct (.str [100, 111, 119, 110])) (consA (op2 modV (vr 1) (ct (.int 1000))) (consA (op2 modV (op2 fdivV (vr 1) (ct (.int 1000))) (ct (.int 1000))) (consA (op2 modV (op2 fdivV (vr 1) (op2 powV (ct (.int 10)) (ct (.int 6)))) (ct (.int 1000))) nilA)))))) skipS)
    (seqS (ifS (tB1 (op2 (eqV 200) (op2 modV (callF F_l_mixed [] (consA (vr 0) (consA (ct (.int 1)) nilA))) (ct (.int 2))) (ct (.int 0)))) (retS (tupE (consA (ct (.str [117, 112])) (consA (callF F_l_number [] (consA (vr 0) (consA (ct (.int 2)) nilA))) (consA (callF F_l_number [] (consA (vr 0) (consA (ct (.int 3)) nilA))) nilA))))) skipS)
    (retS (tupE (consA (ct (.str [100, 111, 119, 110])) (consA (callF F_l_number [] (consA (vr 0) (consA (ct (.int 2)) nilA))) (consA (callF F_l_number [] (consA (vr 0) (consA (ct (.int 3)) nilA))) (consA (callF F_l_number [] (consA (vr 0) (consA (ct (.int 4)) nilA))) nilA))))))))))
noncomputable def F_l_row : FD := gcF (fnM 2 b_l_row)
noncomputable def b_l_figures : MS :=
    (seqS (setS 1 (ct (.str [48, 49, 50, 51, 52, 53, 54, 55, 56, 57])))
    (seqS (setS 2 (op2 ixV (vr 1) (op2 modV (vr 0) (ct (.int 10)))))
    (seqS (ifS (tB1 (op2 gtV (vr 0) (ct (.int 9)))) (setS 2 (op2 addV (op2 ixV (vr 1) (op2 modV (op2 fdivV (vr 0) (ct (.int 10))) (ct (.int 10)))) (vr 2))) skipS)
    (seqS (ifS (tB1 (op2 gtV (vr 0) (ct (.int 99)))) (setS 2 (op2 addV (op2 ixV (vr 1) (op2 fdivV (vr 0) (ct (.int 100)))) (vr 2))) skipS)
    (retS (vr 2))))))
noncomputable def F_l_figures : FD := gcF (fnM 3 b_l_figures)
noncomputable def b_l_text : MS :=
    (seqS (setS 1 (ct (.str [])))
    (seqS (forS (enumI (consA (vr 0) nilA)) (tupG 2 (consG (nameG 2) (consG (nameG 3) nilG))) (seqS (ifS (tB1 (op2 gtV (vr 2) (ct (.int 0)))) (setS 1 (op2 addV (vr 1) (ct (.str [10])))) skipS)
    (seqS (setS 1 (op2 addV (vr 1) (op2 ixV (vr 3) (ct (.int 0)))))
    (forS (seqI (slE (vr 3) (inP (ct (.int 1))) noP)) (nameG 4) (setS 1 (op2 addV (op2 addV (vr 1) (ct (.str [32]))) (callF F_l_figures [] (consA (vr 4) nilA))))))))
    (retS (vr 1))))
noncomputable def F_l_text : FD := gcF (fnM 5 b_l_text)
noncomputable def b_l_right : MS :=
    (seqS (ifS (orT (notT (tru (op1 (isV "list") (vr 0)))) (tB1 (op2 (neV 200) (vr 0) (vr 1)))) (retS (ct (.bl false))) skipS)
    (seqS (forS (seqI (vr 0)) (nameG 2) (seqS (ifS (orT (notT (tru (op1 (isV "tuple") (vr 2)))) (notT (tru (op1 (isV "str") (op2 ixV (vr 2) (ct (.int 0))))))) (retS (ct (.bl false))) skipS)
    (ifS (notT (tru (callE (allV fun bs => bs.all fun b => b) (consA (compE [none] (seqI (slE (vr 2) (inP (ct (.int 1))) noP)) (nameG 0) yesT (andV (op1 (isV "int") (vr 0)) (notV (op1 (isV "bool") (vr 0))))) nilA)))) (retS (ct (.bl false))) skipS)))
    (retS (ct (.bl true)))))
noncomputable def F_l_right : FD := gcF (fnM 3 b_l_right)
noncomputable def b_p_law : MS :=
    (seqS (setS 1 (compE [none] (seqI (slE (vr 0) noP (inP (ct (.int 20))))) (nameG 0) yesT (callF F_l_row [] (consA (vr 0) nilA))))
    (seqS (setS 2 (callF F_l_text [] (consA (vr 1) nilA)))
    (seqS (setS 3 (callF F_p_counter_read [] (consA (vr 2) nilA)))
    (seqS (ifS (notT (tru (callF F_l_right [] (consA (vr 3) (consA (vr 1) nilA))))) (retS (ct (.bl false))) skipS)
    (seqS (setS 4 (callF F_p_counter_show [] (consA (vr 3) nilA)))
    (seqS (ifS (orT (notT (tru (op1 (isV "str") (vr 4)))) (orT (tB1 (op2 (neV 200) (vr 4) (vr 2))) (notT (tru (callF F_l_right [] (consA (vr 3) (consA (vr 1) nilA))))))) (retS (ct (.bl false))) skipS)
    (seqS (exprS (methE "list" appendV (vr 3) (consA (tupE (consA (ct (.str [117, 112])) (consA (ct (.int 0)) (consA (ct (.int 0)) nilA)))) nilA)))
    (retS (andV (callF F_l_right [] (consA (callF F_p_counter_read [] (consA (vr 2) nilA)) (consA (vr 1) nilA))) (andV (op2 (eqV 200) (callF F_p_counter_read [] (consA (ct (.str [])) nilA)) (lstE nilA)) (op2 (eqV 200) (callF F_p_counter_show [] (consA (lstE nilA) nilA)) (ct (.str [])))))))))))))
noncomputable def F_p_law : FD := gcF (fnM 5 b_p_law)
/-! ### the text as it stands behind the top -/
structure Adr where
  a_p_counter_read : Addr
  d_p_counter_read : FuncData
  a_p_row_of_line : Addr
  d_p_row_of_line : FuncData
  a_p_is_number : Addr
  d_p_is_number : FuncData
  a_p_counter_show : Addr
  d_p_counter_show : FuncData
  a_p_line_of_row : Addr
  d_p_line_of_row : FuncData
  a_l_cell_at : Addr
  d_l_cell_at : FuncData
  a_l_mixed : Addr
  d_l_mixed : FuncData
  a_l_number : Addr
  d_l_number : FuncData
  a_l_row : Addr
  d_l_row : FuncData
  a_l_figures : Addr
  d_l_figures : FuncData
  a_l_text : Addr
  d_l_text : FuncData
  a_l_right : Addr
  d_l_right : FuncData
  a_p_law : Addr
  d_p_law : FuncData
structure Txt (w : World) (K : PySem.W.Frag) (mg : Str → Option Value) (A : Adr) : Prop where
  f_p_counter_read : Fun K "counter_read" "counter_read" s_p_counter_read A.a_p_counter_read A.d_p_counter_read
  m_p_counter_read : mg "counter_read" = some (.ref A.a_p_counter_read)
  b_p_counter_read : Binds K A.d_p_counter_read ["text"] []
  f_p_row_of_line : Fun K "row_of_line" "row_of_line" s_p_row_of_line A.a_p_row_of_line A.d_p_row_of_line
  m_p_row_of_line : mg "row_of_line" = some (.ref A.a_p_row_of_line)
  b_p_row_of_line : Binds K A.d_p_row_of_line ["line"] []
  f_p_is_number : Fun K "is_number" "is_number" s_p_is_number A.a_p_is_number A.d_p_is_number
  m_p_is_number : mg "is_number" = some (.ref A.a_p_is_number)
  b_p_is_number : Binds K A.d_p_is_number ["word"] []
  f_p_counter_show : Fun K "counter_show" "counter_show" s_p_counter_show A.a_p_counter_show A.d_p_counter_show
  m_p_counter_show : mg "counter_show" = some (.ref A.a_p_counter_show)
  b_p_counter_show : Binds K A.d_p_counter_show ["program"] []
  f_p_line_of_row : Fun K "line_of_row" "line_of_row" s_p_line_of_row A.a_p_line_of_row A.d_p_line_of_row
  m_p_line_of_row : mg "line_of_row" = some (.ref A.a_p_line_of_row)
  b_p_line_of_row : Binds K A.d_p_line_of_row ["row"] []
  f_l_cell_at : Fun K "_law_cell_at" "_law_cell_at" s_l_cell_at A.a_l_cell_at A.d_l_cell_at
  m_l_cell_at : mg "_law_cell_at" = some (.ref A.a_l_cell_at)
  b_l_cell_at : Binds K A.d_l_cell_at ["_law_script", "_law_k"] []
  f_l_mixed : Fun K "_law_mixed" "_law_mixed" s_l_mixed A.a_l_mixed A.d_l_mixed
  m_l_mixed : mg "_law_mixed" = some (.ref A.a_l_mixed)
  b_l_mixed : Binds K A.d_l_mixed ["_law_cell", "_law_k"] []
  f_l_number : Fun K "_law_number" "_law_number" s_l_number A.a_l_number A.d_l_number
  m_l_number : mg "_law_number" = some (.ref A.a_l_number)
  b_l_number : Binds K A.d_l_number ["_law_cell", "_law_k"] []
  f_l_row : Fun K "_law_row" "_law_row" s_l_row A.a_l_row A.d_l_row
  m_l_row : mg "_law_row" = some (.ref A.a_l_row)
  b_l_row : Binds K A.d_l_row ["_law_cell"] []
  f_l_figures : Fun K "_law_figures" "_law_figures" s_l_figures A.a_l_figures A.d_l_figures
  m_l_figures : mg "_law_figures" = some (.ref A.a_l_figures)
  b_l_figures : Binds K A.d_l_figures ["_law_number_here"] []
  f_l_text : Fun K "_law_text" "_law_text" s_l_text A.a_l_text A.d_l_text
  m_l_text : mg "_law_text" = some (.ref A.a_l_text)
  b_l_text : Binds K A.d_l_text ["_law_rows"] []
  f_l_right : Fun K "_law_right" "_law_right" s_l_right A.a_l_right A.d_l_right
  m_l_right : mg "_law_right" = some (.ref A.a_l_right)
  b_l_right : Binds K A.d_l_right ["_law_found", "_law_rows"] []
  f_p_law : Fun K "law" "law" s_p_law A.a_p_law A.d_p_law
  m_p_law : mg "law" = some (.ref A.a_p_law)
  b_p_law : Binds K A.d_p_law ["_law_script"] []
  v_WORDS_IN_LINE : ∃ a, mg "WORDS_IN_LINE" = some (.ref a) ∧ DictK w K a [([117, 112], .int 3), ([100, 111, 119, 110], .int 4)]
  v_FIGURES : ∃ t, mg "FIGURES" = some (.str "0123456789" t)
  v_MOST_FIGURES : ∃ t, mg "MOST_FIGURES" = some (.int 3 t)
  z_all : mg "all" = none
  z_bool : mg "bool" = none
  z_enumerate : mg "enumerate" = none
  z_int : mg "int" = none
  z_isinstance : mg "isinstance" = none
  z_len : mg "len" = none
  z_list : mg "list" = none
  z_str : mg "str" = none
  z_tuple : mg "tuple" = none
section
variable {P : Program} {w : World} {K : PySem.W.Frag} {mg : Str → Option Value} {base : Heap} {Ad : Adr}
theorem sc_p_is_number : FnScope ["word"] ["word"] (defScope s_p_is_number) := ⟨rfl, rfl, rfl, by decide +kernel, rfl, by decide +kernel, by decide +kernel⟩
theorem ok_p_is_number (T : Txt w K mg Ad) : FnOk P w K mg base CX0 1 Ad.a_p_is_number Ad.d_p_is_number ["word"] (spM K 1 F_p_is_number) := by
  refine FnOk.imp (fn_ok (m := b_p_is_number) T.f_p_is_number sc_p_is_number fun cdv A outer s H hr => ?_) fun vs H Q E h => sp_gc h
  exact (js_cons (js_if (JW.jt (jw_or (jt_cmp (op_eqV (hu200 hr)) (je_var 0) (je_str []) (nomark _)) (jw_or1 (jt_cmp op_gtV (je_callB call_lenV rfl T.z_len (by decide +kernel) (ja_cons (je_var 0) ja_nil)) (je_globI T.v_MOST_FIGURES) (nomark _))))) (js_one (js_ret je_bl)) js_nil)
    (js_cons (js_if (JW.jt (jw_and (jt_cmp (op_eqV (hu200 hr)) (je_ix (je_var 0) je_int) (je_str [48]) (nomark _)) (jw_and1 (jt_cmp (op_neV (hu200 hr)) (je_var 0) (je_str [48]) (nomark _))))) (js_one (js_ret je_bl)) js_nil)
    (js_one (js_ret (je_callB (call_allV hr.hd) rfl T.z_all (by decide +kernel) (ja_cons (je_comp (N := ["sign"]) (capt := [none]) (sc0 := defScope s_p_is_number) (ji_str (je_var 0)) ⟨rfl, by decide +kernel, by decide +kernel⟩ (by decide +kernel) trivial rfl (fun cl C fp s H => (jg_name 0 (show List.Nodup (["sign"] : List Str) by decide +kernel))) (fun cl C fp s H => jts_nil) (fun cl C fp s H => (je_cmp op_inSV (je_var 0) (je_globS [48, 49, 50, 51, 52, 53, 54, 55, 56, 57] T.v_FIGURES) rfl))) ja_nil))))))
theorem sc_p_row_of_line : FnScope ["line", "words"] ["line"] (defScope s_p_row_of_line) := ⟨rfl, rfl, rfl, by decide +kernel, rfl, by decide +kernel, by decide +kernel⟩
theorem ok_p_row_of_line (T : Txt w K mg Ad) : FnOk P w K mg base CX0 2 Ad.a_p_row_of_line Ad.d_p_row_of_line ["line"] (spM K 1 F_p_row_of_line) := by
  refine FnOk.imp (fn_ok (m := b_p_row_of_line) T.f_p_row_of_line sc_p_row_of_line fun cdv A outer s H hr => ?_) fun vs H Q E h => sp_gc h
  exact (js_cons (js_set 1 (je_meth PySem.F.plainAttrs_str PySem.F.slot_str_split PySem.F.type_str_split mt_splitV (je_var 0) (ja_cons (je_str [32]) ja_nil)) sc_p_row_of_line.nd)
    (js_cons (js_if (jt_cmp (op_neV (hu200 hr)) (je_callB call_lenV rfl T.z_len (by decide +kernel) (ja_cons (je_var 1) ja_nil)) (je_tabGet T.v_WORDS_IN_LINE (je_ix (je_var 1) je_int)) (nomark _)) (js_one (js_ret je_non)) js_nil)
    (js_cons (js_if (jt_not (jt_truth (je_callB (call_allV hr.hd) rfl T.z_all (by decide +kernel) (ja_cons (je_comp (N := ["word"]) (capt := [none]) (sc0 := defScope s_p_row_of_line) (ji_seq (je_slice (je_var 1) (jp_some je_int) jp_none)) ⟨rfl, by decide +kernel, by decide +kernel⟩ (by decide +kernel) trivial rfl (fun cl C fp s H => (jg_name 0 (show List.Nodup (["word"] : List Str) by decide +kernel))) (fun cl C fp s H => jts_nil) (fun cl C fp s H => (je_call ((ok_p_is_number T).mono (by decide)) hr T.m_p_is_number T.f_p_is_number.kp T.b_p_is_number .nil (fun _ _ => RepVs.nil) (ja_cons (je_var 0) ja_nil) rfl rfl (by decide) rfl rfl (lenA_cons lenA_nil)))) ja_nil)))) (js_one (js_ret je_non)) js_nil)
    (js_one (js_ret (je_callTy call_tupleC rfl T.z_tuple (by decide +kernel) (ja_cons (je_op op_addV (je_slice (je_var 1) jp_none (jp_some je_int)) (je_comp (N := ["word"]) (capt := [none]) (sc0 := defScope s_p_row_of_line) (ji_seq (je_slice (je_var 1) (jp_some je_int) jp_none)) ⟨rfl, by decide +kernel, by decide +kernel⟩ (by decide +kernel) trivial rfl (fun cl C fp s H => (jg_name 0 (show List.Nodup (["word"] : List Str) by decide +kernel))) (fun cl C fp s H => jts_nil) (fun cl C fp s H => (je_callTy call_intW rfl T.z_int (by decide +kernel) (ja_cons (je_var 0) ja_nil))))) ja_nil)))))))
theorem sc_p_counter_read : FnScope ["text", "program", "at", "line", "row"] ["text"] (defScope s_p_counter_read) := ⟨rfl, rfl, rfl, by decide +kernel, rfl, by decide +kernel, by decide +kernel⟩
theorem ok_p_counter_read (T : Txt w K mg Ad) : FnOk P w K mg base CX0 3 Ad.a_p_counter_read Ad.d_p_counter_read ["text"] (spM K 1 F_p_counter_read) := by
  refine FnOk.imp (fn_ok (m := b_p_counter_read) T.f_p_counter_read sc_p_counter_read fun cdv A outer s H hr => ?_) fun vs H Q E h => sp_gc h
  exact (js_cons (js_if (jt_cmp (op_eqV (hu200 hr)) (je_var 0) (je_str []) (nomark _)) (js_one (js_ret (je_lst ja_nil))) js_nil)
    (js_cons (js_set 1 (je_lst ja_nil) sc_p_counter_read.nd)
    (js_cons (js_for (ji_enum (ja_cons (je_meth PySem.F.plainAttrs_str PySem.F.slot_str_split PySem.F.type_str_split mt_splitV (je_var 0) (ja_cons (je_str [10]) ja_nil)) ja_nil) rfl T.z_enumerate) (jg_tup 2 rfl (jgs_cons (jg_name 2 sc_p_counter_read.nd) (jgs_cons (jg_name 3 sc_p_counter_read.nd) jgs_nil))) (js_cons (js_set 4 (je_call ((ok_p_row_of_line T).mono (by decide)) hr T.m_p_row_of_line T.f_p_row_of_line.kp T.b_p_row_of_line .nil (fun _ _ => RepVs.nil) (ja_cons (je_var 3) ja_nil) rfl rfl (by decide) rfl rfl (lenA_cons lenA_nil)) sc_p_counter_read.nd)
    (js_cons (js_if (jt_cmp op_isNoneV (je_var 4) je_non (nomark _)) (js_one js_never) js_nil)
    (js_one (js_expr (je_meth PySem.F.plainAttrs_list PySem.F.slot_list_append PySem.F.type_list_append mt_appendV (je_var 1) (ja_cons (je_var 4) ja_nil)))))) PassesOwn.never rfl)
    (js_one (js_ret (je_var 1))))))
theorem sc_p_line_of_row : FnScope ["row"] ["row"] (defScope s_p_line_of_row) := ⟨rfl, rfl, rfl, by decide +kernel, rfl, by decide +kernel, by decide +kernel⟩
theorem ok_p_line_of_row (T : Txt w K mg Ad) : FnOk P w K mg base CX0 1 Ad.a_p_line_of_row Ad.d_p_line_of_row ["row"] (spM K 1 F_p_line_of_row) := by
  refine FnOk.imp (fn_ok (m := b_p_line_of_row) T.f_p_line_of_row sc_p_line_of_row fun cdv A outer s H hr => ?_) fun vs H Q E h => sp_gc h
  exact (js_one (js_ret (je_meth PySem.F.plainAttrs_str PySem.F.slot_str_join PySem.F.type_str_join mt_joinV (je_str [32]) (ja_cons (je_comp (N := ["part"]) (capt := [none]) (sc0 := defScope s_p_line_of_row) (ji_seq (je_var 0)) ⟨rfl, by decide +kernel, by decide +kernel⟩ (by decide +kernel) trivial rfl (fun cl C fp s H => (jg_name 0 (show List.Nodup (["part"] : List Str) by decide +kernel))) (fun cl C fp s H => jts_nil) (fun cl C fp s H => (je_callTy call_strW rfl T.z_str (by decide +kernel) (ja_cons (je_var 0) ja_nil)))) ja_nil))))
theorem sc_p_counter_show : FnScope ["program"] ["program"] (defScope s_p_counter_show) := ⟨rfl, rfl, rfl, by decide +kernel, rfl, by decide +kernel, by decide +kernel⟩
theorem ok_p_counter_show (T : Txt w K mg Ad) : FnOk P w K mg base CX0 2 Ad.a_p_counter_show Ad.d_p_counter_show ["program"] (spM K 1 F_p_counter_show) := by
  refine FnOk.imp (fn_ok (m := b_p_counter_show) T.f_p_counter_show sc_p_counter_show fun cdv A outer s H hr => ?_) fun vs H Q E h => sp_gc h
  exact (js_one (js_ret (je_meth PySem.F.plainAttrs_str PySem.F.slot_str_join PySem.F.type_str_join mt_joinV (je_str [10]) (ja_cons (je_comp (N := ["row"]) (capt := [none]) (sc0 := defScope s_p_counter_show) (ji_seq (je_var 0)) ⟨rfl, by decide +kernel, by decide +kernel⟩ (by decide +kernel) trivial rfl (fun cl C fp s H => (jg_name 0 (show List.Nodup (["row"] : List Str) by decide +kernel))) (fun cl C fp s H => jts_nil) (fun cl C fp s H => (je_call ((ok_p_line_of_row T).mono (by decide)) hr T.m_p_line_of_row T.f_p_line_of_row.kp T.b_p_line_of_row .nil (fun _ _ => RepVs.nil) (ja_cons (je_var 0) ja_nil) rfl rfl (by decide) rfl rfl (lenA_cons lenA_nil)))) ja_nil))))
theorem sc_l_cell_at : FnScope ["_law_script", "_law_k"] ["_law_script", "_law_k"] (defScope s_l_cell_at) := ⟨rfl, rfl, rfl, by decide +kernel, rfl, by decide +kernel, by decide +kernel⟩
theorem ok_l_cell_at (T : Txt w K mg Ad) : FnOk P w K mg base CX0 1 Ad.a_l_cell_at Ad.d_l_cell_at ["_law_script", "_law_k"] (spM K 2 F_l_cell_at) := by
  refine FnOk.imp (fn_ok (m := b_l_cell_at) T.f_l_cell_at sc_l_cell_at fun cdv A outer s H hr => ?_) fun vs H Q E h => sp_gc h
  exact (js_cons (js_if (jt_cmp op_ltV (je_var 1) (je_callB call_lenV rfl T.z_len (by decide +kernel) (ja_cons (je_var 0) ja_nil)) (nomark _)) (js_one (js_ret (je_ix (je_var 0) (je_var 1)))) js_nil)
    (js_one (js_ret je_int)))
theorem sc_l_mixed : FnScope ["_law_cell", "_law_k", "_law_number_here"] ["_law_cell", "_law_k"] (defScope s_l_mixed) := ⟨rfl, rfl, rfl, by decide +kernel, rfl, by decide +kernel, by decide +kernel⟩
theorem ok_l_mixed (T : Txt w K mg Ad) : FnOk P w K mg base CX0 1 Ad.a_l_mixed Ad.d_l_mixed ["_law_cell", "_law_k"] (spM K 2 F_l_mixed) := by
  refine FnOk.imp (fn_ok (m := b_l_mixed) T.f_l_mixed sc_l_mixed fun cdv A outer s H hr => ?_) fun vs H Q E h => sp_gc h
  exact (js_cons (js_set 2 (je_op op_addV (je_op op_addV (je_op op_modV (je_var 0) je_int) (je_op op_mulV je_int (je_var 1))) je_int) sc_l_mixed.nd)
    (js_one (js_ret (je_op op_fdivV (je_op op_modV (je_op op_mulV (je_var 2) (je_var 2)) je_int) je_int))))
theorem sc_l_number : FnScope ["_law_cell", "_law_k", "_law_seed"] ["_law_cell", "_law_k"] (defScope s_l_number) := ⟨rfl, rfl, rfl, by decide +kernel, rfl, by decide +kernel, by decide +kernel⟩
theorem ok_l_number (T : Txt w K mg Ad) : FnOk P w K mg base CX0 2 Ad.a_l_number Ad.d_l_number ["_law_cell", "_law_k"] (spM K 2 F_l_number) := by
  refine FnOk.imp (fn_ok (m := b_l_number) T.f_l_number sc_l_number fun cdv A outer s H hr => ?_) fun vs H Q E h => sp_gc h
  exact (js_cons (js_set 2 (je_call ((ok_l_mixed T).mono (by decide)) hr T.m_l_mixed T.f_l_mixed.kp T.b_l_mixed .nil (fun _ _ => RepVs.nil) (ja_cons (je_var 0) (ja_cons (je_var 1) ja_nil)) rfl rfl (by decide) rfl rfl (lenA_cons (lenA_cons lenA_nil))) sc_l_number.nd)
    (js_one (js_ret (je_ix (je_lst (ja_cons (je_op op_modV (je_op op_fdivV (je_var 2) je_int) je_int) (ja_cons (je_op op_modV (je_op op_fdivV (je_var 2) je_int) je_int) (ja_cons (je_op op_addV je_int (je_op op_modV (je_op op_fdivV (je_var 2) je_int) je_int)) ja_nil)))) (je_op op_modV (je_var 2) je_int)))))
theorem sc_l_row : FnScope ["_law_cell", "_law_left"] ["_law_cell"] (defScope s_l_row) := ⟨rfl, rfl, rfl, by decide +kernel, rfl, by decide +kernel, by decide +kernel⟩
theorem ok_l_row (T : Txt w K mg Ad) : FnOk P w K mg base CX0 3 Ad.a_l_row Ad.d_l_row ["_law_cell"] (spM K 1 F_l_row) := by
  refine FnOk.imp (fn_ok (m := b_l_row) T.f_l_row sc_l_row fun cdv A outer s H hr => ?_) fun vs H Q E h => sp_gc h
  exact (js_cons (js_set 1 (je_op op_fdivV (je_var 0) je_int) sc_l_row.nd)
    (js_cons (js_if (jt_cmp (op_eqV (hu200 hr)) (je_op op_modV (je_var 0) je_int) je_int (nomark _)) (js_one (js_ret (je_tup (ja_cons (je_str [117, 112]) (ja_cons (je_op op_modV (je_var 1) je_int) (ja_cons (je_op op_modV (je_op op_fdivV (je_var 1) je_int) je_int) ja_nil)))))) js_nil)
    (js_cons (js_if (jt_cmp (op_eqV (hu200 hr)) (je_op op_modV (je_var 0) je_int) je_int (nomark _)) (js_one (js_ret (je_tup (ja_cons (je_str [100, 111, 119, 110]) (ja_cons (je_op op_modV (je_var 1) je_int) (ja_cons (je_op op_modV (je_op op_fdivV (je_var 1) je_int) je_int) (ja_cons (je_op op_modV (je_op op_fdivV (je_var 1) (je_op op_powV je_int je_int)) je_int) ja_nil))))))) js_nil)
    (js_cons (js_if (jt_cmp (op_eqV (hu200 hr)) (je_op op_modV (je_call ((ok_l_mixed T).mono (by decide)) hr T.m_l_mixed T.f_l_mixed.kp T.b_l_mixed .nil (fun _ _ => RepVs.nil) (ja_cons (je_var 0) (ja_cons je_int ja_nil)) rfl rfl (by decide) rfl rfl (lenA_cons (lenA_cons lenA_nil))) je_int) je_int (nomark _)) (js_one (js_ret (je_tup (ja_cons (je_str [117, 112]) (ja_cons (je_call ((ok_l_number T).mono (by decide)) hr T.m_l_number T.f_l_number.kp T.b_l_number .nil (fun _ _ => RepVs.nil) (ja_cons (je_var 0) (ja_cons je_int ja_nil)) rfl rfl (by decide) rfl rfl (lenA_cons (lenA_cons lenA_nil))) (ja_cons (je_call ((ok_l_number T).mono (by decide)) hr T.m_l_number T.f_l_number.kp T.b_l_number .nil (fun _ _ => RepVs.nil) (ja_cons (je_var 0) (ja_cons je_int ja_nil)) rfl rfl (by decide) rfl rfl (lenA_cons (lenA_cons lenA_nil))) ja_nil)))))) js_nil)
    (js_one (js_ret (je_tup (ja_cons (je_str [100, 111, 119, 110]) (ja_cons (je_call ((ok_l_number T).mono (by decide)) hr T.m_l_number T.f_l_number.kp T.b_l_number .nil (fun _ _ => RepVs.nil) (ja_cons (je_var 0) (ja_cons je_int ja_nil)) rfl rfl (by decide) rfl rfl (lenA_cons (lenA_cons lenA_nil))) (ja_cons (je_call ((ok_l_number T).mono (by decide)) hr T.m_l_number T.f_l_number.kp T.b_l_number .nil (fun _ _ => RepVs.nil) (ja_cons (je_var 0) (ja_cons je_int ja_nil)) rfl rfl (by decide) rfl rfl (lenA_cons (lenA_cons lenA_nil))) (ja_cons (je_call ((ok_l_number T).mono (by decide)) hr T.m_l_number T.f_l_number.kp T.b_l_number .nil (fun _ _ => RepVs.nil) (ja_cons (je_var 0) (ja_cons je_int ja_nil)) rfl rfl (by decide) rfl rfl (lenA_cons (lenA_cons lenA_nil))) ja_nil)))))))))))
theorem sc_l_figures : FnScope ["_law_number_here", "_law_some", "_law_text_here"] ["_law_number_here"] (defScope s_l_figures) := ⟨rfl, rfl, rfl, by decide +kernel, rfl, by decide +kernel, by decide +kernel⟩
theorem ok_l_figures (T : Txt w K mg Ad) : FnOk P w K mg base CX0 1 Ad.a_l_figures Ad.d_l_figures ["_law_number_here"] (spM K 1 F_l_figures) := by
  refine FnOk.imp (fn_ok (m := b_l_figures) T.f_l_figures sc_l_figures fun cdv A outer s H hr => ?_) fun vs H Q E h => sp_gc h
  exact (js_cons (js_set 1 (je_str [48, 49, 50, 51, 52, 53, 54, 55, 56, 57]) sc_l_figures.nd)
    (js_cons (js_set 2 (je_ix (je_var 1) (je_op op_modV (je_var 0) je_int)) sc_l_figures.nd)
    (js_cons (js_if (jt_cmp op_gtV (je_var 0) je_int (nomark _)) (js_one (js_set 2 (je_op op_addV (je_ix (je_var 1) (je_op op_modV (je_op op_fdivV (je_var 0) je_int) je_int)) (je_var 2)) sc_l_figures.nd)) js_nil)
    (js_cons (js_if (jt_cmp op_gtV (je_var 0) je_int (nomark _)) (js_one (js_set 2 (je_op op_addV (je_ix (je_var 1) (je_op op_fdivV (je_var 0) je_int)) (je_var 2)) sc_l_figures.nd)) js_nil)
    (js_one (js_ret (je_var 2)))))))
theorem sc_l_text : FnScope ["_law_rows", "_law_text_here", "_law_k", "_law_row_here", "_law_number_here"] ["_law_rows"] (defScope s_l_text) := ⟨rfl, rfl, rfl, by decide +kernel, rfl, by decide +kernel, by decide +kernel⟩
theorem ok_l_text (T : Txt w K mg Ad) : FnOk P w K mg base CX0 2 Ad.a_l_text Ad.d_l_text ["_law_rows"] (spM K 1 F_l_text) := by
  refine FnOk.imp (fn_ok (m := b_l_text) T.f_l_text sc_l_text fun cdv A outer s H hr => ?_) fun vs H Q E h => sp_gc h
  exact (js_cons (js_set 1 (je_str []) sc_l_text.nd)
    (js_cons (js_for (ji_enum (ja_cons (je_var 0) ja_nil) rfl T.z_enumerate) (jg_tup 2 rfl (jgs_cons (jg_name 2 sc_l_text.nd) (jgs_cons (jg_name 3 sc_l_text.nd) jgs_nil))) (js_cons (js_if (jt_cmp op_gtV (je_var 2) je_int (nomark _)) (js_one (js_set 1 (je_op op_addV (je_var 1) (je_str [10])) sc_l_text.nd)) js_nil)
    (js_cons (js_set 1 (je_op op_addV (je_var 1) (je_ix (je_var 3) je_int)) sc_l_text.nd)
    (js_one (js_for (ji_seq (je_slice (je_var 3) (jp_some je_int) jp_none)) (jg_name 4 sc_l_text.nd) (js_one (js_set 1 (je_op op_addV (je_op op_addV (je_var 1) (je_str [32])) (je_call ((ok_l_figures T).mono (by decide)) hr T.m_l_figures T.f_l_figures.kp T.b_l_figures .nil (fun _ _ => RepVs.nil) (ja_cons (je_var 4) ja_nil) rfl rfl (by decide) rfl rfl (lenA_cons lenA_nil))) sc_l_text.nd)) PassesOwn.never rfl)))) PassesOwn.never rfl)
    (js_one (js_ret (je_var 1)))))
theorem sc_l_right : FnScope ["_law_found", "_law_rows", "_law_row_here"] ["_law_found", "_law_rows"] (defScope s_l_right) := ⟨rfl, rfl, rfl, by decide +kernel, rfl, by decide +kernel, by decide +kernel⟩
theorem ok_l_right (T : Txt w K mg Ad) : FnOk P w K mg base CX0 1 Ad.a_l_right Ad.d_l_right ["_law_found", "_law_rows"] (spM K 2 F_l_right) := by
  refine FnOk.imp (fn_ok (m := b_l_right) T.f_l_right sc_l_right fun cdv A outer s H hr => ?_) fun vs H Q E h => sp_gc h
  exact (js_cons (js_if (JW.jt (jw_or (jt_not (jt_truth (je_isV kit_list (je_var 0) rfl T.z_isinstance rfl T.z_list (by decide +kernel) (by decide +kernel)))) (jw_or1 (jt_cmp (op_neV (hu200 hr)) (je_var 0) (je_var 1) (nomark _))))) (js_one (js_ret je_bl)) js_nil)
    (js_cons (js_for (ji_seq (je_var 0)) (jg_name 2 sc_l_right.nd) (js_cons (js_if (JW.jt (jw_or (jt_not (jt_truth (je_isV kit_tuple (je_var 2) rfl T.z_isinstance rfl T.z_tuple (by decide +kernel) (by decide +kernel)))) (jw_or1 (jt_not (jt_truth (je_isV kit_str (je_ix (je_var 2) je_int) rfl T.z_isinstance rfl T.z_str (by decide +kernel) (by decide +kernel))))))) (js_one (js_ret je_bl)) js_nil)
    (js_one (js_if (jt_not (jt_truth (je_callB (call_allV hr.hd) rfl T.z_all (by decide +kernel) (ja_cons (je_comp (N := ["_law_number_here"]) (capt := [none]) (sc0 := defScope s_l_right) (ji_seq (je_slice (je_var 2) (jp_some je_int) jp_none)) ⟨rfl, by decide +kernel, by decide +kernel⟩ (by decide +kernel) trivial rfl (fun cl C fp s H => (jg_name 0 (show List.Nodup (["_law_number_here"] : List Str) by decide +kernel))) (fun cl C fp s H => jts_nil) (fun cl C fp s H => (je_and (je_isV kit_int (je_var 0) rfl T.z_isinstance rfl T.z_int (by decide +kernel) (by decide +kernel)) (je_one (je_not (je_isV kit_bool (je_var 0) rfl T.z_isinstance rfl T.z_bool (by decide +kernel) (by decide +kernel))))))) ja_nil)))) (js_one (js_ret je_bl)) js_nil))) PassesOwn.never rfl)
    (js_one (js_ret je_bl))))
theorem sc_p_law : FnScope ["_law_script", "_law_rows", "_law_text_here", "_law_found", "_law_shown"] ["_law_script"] (defScope s_p_law) := ⟨rfl, rfl, rfl, by decide +kernel, rfl, by decide +kernel, by decide +kernel⟩
theorem ok_p_law (T : Txt w K mg Ad) : FnOk P w K mg base CX0 4 Ad.a_p_law Ad.d_p_law ["_law_script"] (spM K 1 F_p_law) := by
  refine FnOk.imp (fn_ok (m := b_p_law) T.f_p_law sc_p_law fun cdv A outer s H hr => ?_) fun vs H Q E h => sp_gc h
  exact (js_cons (js_setComp 1 (N := ["_law_cell"]) (capt := [none]) (sc0 := defScope s_p_law) (ji_seq (je_slice (je_var 0) jp_none (jp_some je_int))) ⟨rfl, by decide +kernel, by decide +kernel⟩ (by decide +kernel) trivial rfl (fun cl C fp s H => (jg_name 0 (show List.Nodup (["_law_cell"] : List Str) by decide +kernel))) (fun cl C fp s H => jts_nil) (fun cl C fp s H => (je_call ((ok_l_row T).mono (by decide)) hr T.m_l_row T.f_l_row.kp T.b_l_row .nil (fun _ _ => RepVs.nil) (ja_cons (je_var 0) ja_nil) rfl rfl (by decide) rfl rfl (lenA_cons lenA_nil))) sc_p_law.nd)
    (js_cons (js_set 2 (je_call ((ok_l_text T).mono (by decide)) hr T.m_l_text T.f_l_text.kp T.b_l_text .nil (fun _ _ => RepVs.nil) (ja_cons (je_var 1) ja_nil) rfl rfl (by decide) rfl rfl (lenA_cons lenA_nil)) sc_p_law.nd)
    (js_cons (js_set 3 (je_call ((ok_p_counter_read T).mono (by decide)) hr T.m_p_counter_read T.f_p_counter_read.kp T.b_p_counter_read .nil (fun _ _ => RepVs.nil) (ja_cons (je_var 2) ja_nil) rfl rfl (by decide) rfl rfl (lenA_cons lenA_nil)) sc_p_law.nd)
    (js_cons (js_if (jt_not (jt_truth (je_call ((ok_l_right T).mono (by decide)) hr T.m_l_right T.f_l_right.kp T.b_l_right .nil (fun _ _ => RepVs.nil) (ja_cons (je_var 3) (ja_cons (je_var 1) ja_nil)) rfl rfl (by decide) rfl rfl (lenA_cons (lenA_cons lenA_nil))))) (js_one (js_ret je_bl)) js_nil)
    (js_cons (js_set 4 (je_call ((ok_p_counter_show T).mono (by decide)) hr T.m_p_counter_show T.f_p_counter_show.kp T.b_p_counter_show .nil (fun _ _ => RepVs.nil) (ja_cons (je_var 3) ja_nil) rfl rfl (by decide) rfl rfl (lenA_cons lenA_nil)) sc_p_law.nd)
    (js_cons (js_if (JW.jt (jw_or (jt_not (jt_truth (je_isV kit_str (je_var 4) rfl T.z_isinstance rfl T.z_str (by decide +kernel) (by decide +kernel)))) (jw_or (jt_cmp (op_neV (hu200 hr)) (je_var 4) (je_var 2) (nomark _)) (jw_or1 (jt_not (jt_truth (je_call ((ok_l_right T).mono (by decide)) hr T.m_l_right T.f_l_right.kp T.b_l_right .nil (fun _ _ => RepVs.nil) (ja_cons (je_var 3) (ja_cons (je_var 1) ja_nil)) rfl rfl (by decide) rfl rfl (lenA_cons (lenA_cons lenA_nil))))))))) (js_one (js_ret je_bl)) js_nil)
    (js_cons (js_expr (je_meth PySem.F.plainAttrs_list PySem.F.slot_list_append PySem.F.type_list_append mt_appendV (je_var 3) (ja_cons (je_tup (ja_cons (je_str [117, 112]) (ja_cons je_int (ja_cons je_int ja_nil)))) ja_nil)))
    (js_one (js_ret (je_and (je_call ((ok_l_right T).mono (by decide)) hr T.m_l_right T.f_l_right.kp T.b_l_right .nil (fun _ _ => RepVs.nil) (ja_cons (je_call ((ok_p_counter_read T).mono (by decide)) hr T.m_p_counter_read T.f_p_counter_read.kp T.b_p_counter_read .nil (fun _ _ => RepVs.nil) (ja_cons (je_var 2) ja_nil) rfl rfl (by decide) rfl rfl (lenA_cons lenA_nil)) (ja_cons (je_var 1) ja_nil)) rfl rfl (by decide) rfl rfl (lenA_cons (lenA_cons lenA_nil))) (je_and (je_cmp (op_eqV (hu200 hr)) (je_call ((ok_p_counter_read T).mono (by decide)) hr T.m_p_counter_read T.f_p_counter_read.kp T.b_p_counter_read .nil (fun _ _ => RepVs.nil) (ja_cons (je_str []) ja_nil) rfl rfl (by decide) rfl rfl (lenA_cons lenA_nil)) (je_lst ja_nil) (nomark _)) (je_one (je_cmp (op_eqV (hu200 hr)) (je_call ((ok_p_counter_show T).mono (by decide)) hr T.m_p_counter_show T.f_p_counter_show.kp T.b_p_counter_show .nil (fun _ _ => RepVs.nil) (ja_cons (je_lst ja_nil) ja_nil) rfl rfl (by decide) rfl rfl (lenA_cons lenA_nil)) (je_str []) (nomark _))))))))))))))
end
theorem all_mk {l : PySem.W.OpenLaw} {w : World} {K : PySem.W.Frag} {h : Heap} {mg : Str → Option Value} {fa f0 f1 f2 f3 f4 f5 f6 f7 f8 f9 f10 f11 f12 : Addr} (X : K.In h) (G : h.Ns mainGlobals mg) (hfa : mg "law" = some (.ref fa))
    {od0 an0 : Option Addr} {sl0 : Array (Option Value)} {oc0 kV0 dc0 pm0 cd0 ct0 : Value}
    {od1 an1 : Option Addr} {sl1 : Array (Option Value)} {oc1 kV1 dc1 pm1 cd1 ct1 : Value}
    {od2 an2 : Option Addr} {sl2 : Array (Option Value)} {oc2 kV2 dc2 pm2 cd2 ct2 : Value}
    {od3 an3 : Option Addr} {sl3 : Array (Option Value)} {oc3 kV3 dc3 pm3 cd3 ct3 : Value}
    {od4 an4 : Option Addr} {sl4 : Array (Option Value)} {oc4 kV4 dc4 pm4 cd4 ct4 : Value}
    {od5 an5 : Option Addr} {sl5 : Array (Option Value)} {oc5 kV5 dc5 pm5 cd5 ct5 : Value}
    {od6 an6 : Option Addr} {sl6 : Array (Option Value)} {oc6 kV6 dc6 pm6 cd6 ct6 : Value}
    {od7 an7 : Option Addr} {sl7 : Array (Option Value)} {oc7 kV7 dc7 pm7 cd7 ct7 : Value}
    {od8 an8 : Option Addr} {sl8 : Array (Option Value)} {oc8 kV8 dc8 pm8 cd8 ct8 : Value}
    {od9 an9 : Option Addr} {sl9 : Array (Option Value)} {oc9 kV9 dc9 pm9 cd9 ct9 : Value}
    {od10 an10 : Option Addr} {sl10 : Array (Option Value)} {oc10 kV10 dc10 pm10 cd10 ct10 : Value}
    {od11 an11 : Option Addr} {sl11 : Array (Option Value)} {oc11 kV11 dc11 pm11 cd11 ct11 : Value}
    {od12 an12 : Option Addr} {sl12 : Array (Option Value)} {oc12 kV12 dc12 pm12 cd12 ct12 : Value}
    (a0 : PySem.W.nsIn K mainGlobals "counter_read" = some (some (.ref f0))) (l0 : K.lookup f0 = some ⟨oc0, od0, .func (PySem.W.fnOf "counter_read" "counter_read" (defArgs s_p_counter_read) (defBody s_p_counter_read) (defScope s_p_counter_read) .none kV0 dc0 pm0 an0 cd0 ct0), sl0⟩) (c0 : PySem.W.codeIn K cd0 "counter_read" = true) (k0 : PySem.W.keepIn K (.ref f0) = true)
    (a1 : PySem.W.nsIn K mainGlobals "row_of_line" = some (some (.ref f1))) (l1 : K.lookup f1 = some ⟨oc1, od1, .func (PySem.W.fnOf "row_of_line" "row_of_line" (defArgs s_p_row_of_line) (defBody s_p_row_of_line) (defScope s_p_row_of_line) .none kV1 dc1 pm1 an1 cd1 ct1), sl1⟩) (c1 : PySem.W.codeIn K cd1 "row_of_line" = true) (k1 : PySem.W.keepIn K (.ref f1) = true)
    (a2 : PySem.W.nsIn K mainGlobals "is_number" = some (some (.ref f2))) (l2 : K.lookup f2 = some ⟨oc2, od2, .func (PySem.W.fnOf "is_number" "is_number" (defArgs s_p_is_number) (defBody s_p_is_number) (defScope s_p_is_number) .none kV2 dc2 pm2 an2 cd2 ct2), sl2⟩) (c2 : PySem.W.codeIn K cd2 "is_number" = true) (k2 : PySem.W.keepIn K (.ref f2) = true)
    (a3 : PySem.W.nsIn K mainGlobals "counter_show" = some (some (.ref f3))) (l3 : K.lookup f3 = some ⟨oc3, od3, .func (PySem.W.fnOf "counter_show" "counter_show" (defArgs s_p_counter_show) (defBody s_p_counter_show) (defScope s_p_counter_show) .none kV3 dc3 pm3 an3 cd3 ct3), sl3⟩) (c3 : PySem.W.codeIn K cd3 "counter_show" = true) (k3 : PySem.W.keepIn K (.ref f3) = true)
    (a4 : PySem.W.nsIn K mainGlobals "line_of_row" = some (some (.ref f4))) (l4 : K.lookup f4 = some ⟨oc4, od4, .func (PySem.W.fnOf "line_of_row" "line_of_row" (defArgs s_p_line_of_row) (defBody s_p_line_of_row) (defScope s_p_line_of_row) .none kV4 dc4 pm4 an4 cd4 ct4), sl4⟩) (c4 : PySem.W.codeIn K cd4 "line_of_row" = true) (k4 : PySem.W.keepIn K (.ref f4) = true)
    (a5 : PySem.W.nsIn K mainGlobals "_law_cell_at" = some (some (.ref f5))) (l5 : K.lookup f5 = some ⟨oc5, od5, .func (PySem.W.fnOf "_law_cell_at" "_law_cell_at" (defArgs s_l_cell_at) (defBody s_l_cell_at) (defScope s_l_cell_at) .none kV5 dc5 pm5 an5 cd5 ct5), sl5⟩) (c5 : PySem.W.codeIn K cd5 "_law_cell_at" = true) (k5 : PySem.W.keepIn K (.ref f5) = true)
    (a6 : PySem.W.nsIn K mainGlobals "_law_mixed" = some (some (.ref f6))) (l6 : K.lookup f6 = some ⟨oc6, od6, .func (PySem.W.fnOf "_law_mixed" "_law_mixed" (defArgs s_l_mixed) (defBody s_l_mixed) (defScope s_l_mixed) .none kV6 dc6 pm6 an6 cd6 ct6), sl6⟩) (c6 : PySem.W.codeIn K cd6 "_law_mixed" = true) (k6 : PySem.W.keepIn K (.ref f6) = true)
    (a7 : PySem.W.nsIn K mainGlobals "_law_number" = some (some (.ref f7))) (l7 : K.lookup f7 = some ⟨oc7, od7, .func (PySem.W.fnOf "_law_number" "_law_number" (defArgs s_l_number) (defBody s_l_number) (defScope s_l_number) .none kV7 dc7 pm7 an7 cd7 ct7), sl7⟩) (c7 : PySem.W.codeIn K cd7 "_law_number" = true) (k7 : PySem.W.keepIn K (.ref f7) = true)
    (a8 : PySem.W.nsIn K mainGlobals "_law_row" = some (some (.ref f8))) (l8 : K.lookup f8 = some ⟨oc8, od8, .func (PySem.W.fnOf "_law_row" "_law_row" (defArgs s_l_row) (defBody s_l_row) (defScope s_l_row) .none kV8 dc8 pm8 an8 cd8 ct8), sl8⟩) (c8 : PySem.W.codeIn K cd8 "_law_row" = true) (k8 : PySem.W.keepIn K (.ref f8) = true)
    (a9 : PySem.W.nsIn K mainGlobals "_law_figures" = some (some (.ref f9))) (l9 : K.lookup f9 = some ⟨oc9, od9, .func (PySem.W.fnOf "_law_figures" "_law_figures" (defArgs s_l_figures) (defBody s_l_figures) (defScope s_l_figures) .none kV9 dc9 pm9 an9 cd9 ct9), sl9⟩) (c9 : PySem.W.codeIn K cd9 "_law_figures" = true) (k9 : PySem.W.keepIn K (.ref f9) = true)
    (a10 : PySem.W.nsIn K mainGlobals "_law_text" = some (some (.ref f10))) (l10 : K.lookup f10 = some ⟨oc10, od10, .func (PySem.W.fnOf "_law_text" "_law_text" (defArgs s_l_text) (defBody s_l_text) (defScope s_l_text) .none kV10 dc10 pm10 an10 cd10 ct10), sl10⟩) (c10 : PySem.W.codeIn K cd10 "_law_text" = true) (k10 : PySem.W.keepIn K (.ref f10) = true)
    (a11 : PySem.W.nsIn K mainGlobals "_law_right" = some (some (.ref f11))) (l11 : K.lookup f11 = some ⟨oc11, od11, .func (PySem.W.fnOf "_law_right" "_law_right" (defArgs s_l_right) (defBody s_l_right) (defScope s_l_right) .none kV11 dc11 pm11 an11 cd11 ct11), sl11⟩) (c11 : PySem.W.codeIn K cd11 "_law_right" = true) (k11 : PySem.W.keepIn K (.ref f11) = true)
    (a12 : PySem.W.nsIn K mainGlobals "law" = some (some (.ref f12))) (l12 : K.lookup f12 = some ⟨oc12, od12, .func (PySem.W.fnOf "law" "law" (defArgs s_p_law) (defBody s_p_law) (defScope s_p_law) .none kV12 dc12 pm12 an12 cd12 ct12), sl12⟩) (c12 : PySem.W.codeIn K cd12 "law" = true) (k12 : PySem.W.keepIn K (.ref f12) = true)
    {t_WORDS_IN_LINE : Addr} {ep_WORDS_IN_LINE : Nat} {dh_WORDS_IN_LINE_0 : Int} {dk_WORDS_IN_LINE_0 dv_WORDS_IN_LINE_0 : Tok} {dh_WORDS_IN_LINE_1 : Int} {dk_WORDS_IN_LINE_1 dv_WORDS_IN_LINE_1 : Tok}
    (v_WORDS_IN_LINE : PySem.W.nsIn K mainGlobals "WORDS_IN_LINE" = some (some (.ref t_WORDS_IN_LINE)))
    (vl_WORDS_IN_LINE : K.lookup t_WORDS_IN_LINE = some ⟨.type "dict", none, .dict #[⟨dh_WORDS_IN_LINE_0, .str "up" dk_WORDS_IN_LINE_0, .int 3 dv_WORDS_IN_LINE_0⟩, ⟨dh_WORDS_IN_LINE_1, .str "down" dk_WORDS_IN_LINE_1, .int 4 dv_WORDS_IN_LINE_1⟩] ep_WORDS_IN_LINE, #[]⟩)
    (low_WORDS_IN_LINE : (t_WORDS_IN_LINE == sysModules) = false) (dq_WORDS_IN_LINE_0 : dh_WORDS_IN_LINE_0 = keyH w (.inr "up")) (dq_WORDS_IN_LINE_1 : dh_WORDS_IN_LINE_1 = keyH w (.inr "down"))
    {t_FIGURES : Tok} (v_FIGURES : PySem.W.nsIn K mainGlobals "FIGURES" = some (some (.str "0123456789" t_FIGURES)))
    {t_MOST_FIGURES : Tok} (v_MOST_FIGURES : PySem.W.nsIn K mainGlobals "MOST_FIGURES" = some (some (.int 3 t_MOST_FIGURES)))
    (z_all : PySem.W.nsIn K mainGlobals "all" = some none)
    (z_bool : PySem.W.nsIn K mainGlobals "bool" = some none)
    (z_enumerate : PySem.W.nsIn K mainGlobals "enumerate" = some none)
    (z_int : PySem.W.nsIn K mainGlobals "int" = some none)
    (z_isinstance : PySem.W.nsIn K mainGlobals "isinstance" = some none)
    (z_len : PySem.W.nsIn K mainGlobals "len" = some none)
    (z_list : PySem.W.nsIn K mainGlobals "list" = some none)
    (z_str : PySem.W.nsIn K mainGlobals "str" = some none)
    (z_tuple : PySem.W.nsIn K mainGlobals "tuple" = some none)
    : ∃ fd : FuncData, (∀ (s : Shared) (v : Value), BindsTo s fd ⟨[v], []⟩ [("_law_script", v)]) ∧ ∀ base : Heap, K.In base → base.Ns mainGlobals mg → FnOk l.prog w K mg base CX0 4 fa fd ["_law_script"] (spM K 1 F_p_law) := by
  have e := hfa.symm.trans (PySem.W.mg_of X G a12)
  cases e
  have F0 := fun_mk (st := s_p_counter_read) l0 c0 k0
  have F1 := fun_mk (st := s_p_row_of_line) l1 c1 k1
  have F2 := fun_mk (st := s_p_is_number) l2 c2 k2
  have F3 := fun_mk (st := s_p_counter_show) l3 c3 k3
  have F4 := fun_mk (st := s_p_line_of_row) l4 c4 k4
  have F5 := fun_mk (st := s_l_cell_at) l5 c5 k5
  have F6 := fun_mk (st := s_l_mixed) l6 c6 k6
  have F7 := fun_mk (st := s_l_number) l7 c7 k7
  have F8 := fun_mk (st := s_l_row) l8 c8 k8
  have F9 := fun_mk (st := s_l_figures) l9 c9 k9
  have F10 := fun_mk (st := s_l_text) l10 c10 k10
  have F11 := fun_mk (st := s_l_right) l11 c11 k11
  have F12 := fun_mk (st := s_p_law) l12 c12 k12
  have b0 := F0.binds (ps := ["text"]) fun _ _ _ _ _ _ us hl => match us, hl with | [_], _ => rfl
  have b1 := F1.binds (ps := ["line"]) fun _ _ _ _ _ _ us hl => match us, hl with | [_], _ => rfl
  have b2 := F2.binds (ps := ["word"]) fun _ _ _ _ _ _ us hl => match us, hl with | [_], _ => rfl
  have b3 := F3.binds (ps := ["program"]) fun _ _ _ _ _ _ us hl => match us, hl with | [_], _ => rfl
  have b4 := F4.binds (ps := ["row"]) fun _ _ _ _ _ _ us hl => match us, hl with | [_], _ => rfl
  have b5 := F5.binds (ps := ["_law_script", "_law_k"]) fun _ _ _ _ _ _ us hl => match us, hl with | [_, _], _ => rfl
  have b6 := F6.binds (ps := ["_law_cell", "_law_k"]) fun _ _ _ _ _ _ us hl => match us, hl with | [_, _], _ => rfl
  have b7 := F7.binds (ps := ["_law_cell", "_law_k"]) fun _ _ _ _ _ _ us hl => match us, hl with | [_, _], _ => rfl
  have b8 := F8.binds (ps := ["_law_cell"]) fun _ _ _ _ _ _ us hl => match us, hl with | [_], _ => rfl
  have b9 := F9.binds (ps := ["_law_number_here"]) fun _ _ _ _ _ _ us hl => match us, hl with | [_], _ => rfl
  have b10 := F10.binds (ps := ["_law_rows"]) fun _ _ _ _ _ _ us hl => match us, hl with | [_], _ => rfl
  have b11 := F11.binds (ps := ["_law_found", "_law_rows"]) fun _ _ _ _ _ _ us hl => match us, hl with | [_, _], _ => rfl
  have b12 := F12.binds (ps := ["_law_script"]) fun _ _ _ _ _ _ us hl => match us, hl with | [_], _ => rfl
  exact ⟨_, fun s v => .of_eq rfl, fun base _ _ => ok_p_law (Ad := ⟨_, _, _, _, _, _, _, _, _, _, _, _, _, _, _, _, _, _, _, _, _, _, _, _, _, _⟩) ⟨F0, PySem.W.mg_of X G a0, b0, F1, PySem.W.mg_of X G a1, b1, F2, PySem.W.mg_of X G a2, b2, F3, PySem.W.mg_of X G a3, b3, F4, PySem.W.mg_of X G a4, b4, F5, PySem.W.mg_of X G a5, b5, F6, PySem.W.mg_of X G a6, b6, F7, PySem.W.mg_of X G a7, b7, F8, PySem.W.mg_of X G a8, b8, F9, PySem.W.mg_of X G a9, b9, F10, PySem.W.mg_of X G a10, b10, F11, PySem.W.mg_of X G a11, b11, F12, PySem.W.mg_of X G a12, b12, ⟨_, PySem.W.mg_of X G v_WORDS_IN_LINE, dictK_mk vl_WORDS_IN_LINE low_WORDS_IN_LINE (.i rfl dq_WORDS_IN_LINE_0 (.i rfl dq_WORDS_IN_LINE_1 .nil)) (by decide)⟩, ⟨_, PySem.W.mg_of X G v_FIGURES⟩, ⟨_, PySem.W.mg_of X G v_MOST_FIGURES⟩, PySem.W.mg_none_of X G z_all, PySem.W.mg_none_of X G z_bool, PySem.W.mg_none_of X G z_enumerate, PySem.W.mg_none_of X G z_int, PySem.W.mg_none_of X G z_isinstance, PySem.W.mg_none_of X G z_len, PySem.W.mg_none_of X G z_list, PySem.W.mg_none_of X G z_str, PySem.W.mg_none_of X G z_tuple⟩⟩
end Law
set_option maxHeartbeats 0
namespace Law
open L2 M
/-! rows, lines, texts -/
structure Rr where
  w : List Nat
  ns : List Nat
def goodR (r : Rr) : Prop := ((r.w = [117, 112] ∧ r.ns.length = 2) ∨ (r.w = [100, 111, 119, 110] ∧ r.ns.length = 3)) ∧ ∀ n ∈ r.ns, n < 1000
def encR (r : Rr) : D := .tup (.str r.w :: r.ns.map fun n => D.int (n : Nat))
def lineR (r : Rr) : List Nat := joinL [32] (r.w :: r.ns.map fig)
def textR (rs : List Rr) : List Nat := joinL [10] (rs.map lineR)
theorem joinL_flat (c : Nat) (a : List Nat) (ts : List (List Nat)) : joinL [c] (a :: ts) = a ++ (ts.map fun t => c :: t).flatten := by
  induction ts generalizing a with
  | nil => simp [joinL]
  | cons t ts ih => rw [joinL_cons _ _ _ (by simp), ih]; simp
theorem fig_in (n : Nat) (h : n < 1000) : ∀ c ∈ fig n, 48 ≤ c ∧ c ≤ 57 := by
  unfold fig
  split
  · intro c hc; simp at hc; omega
  · split
    · intro c hc; simp at hc; omega
    · intro c hc; simp at hc; omega
theorem fig_len (n : Nat) : 1 ≤ (fig n).length ∧ (fig n).length ≤ 3 := by
  unfold fig
  split
  · simp
  · split <;> simp
theorem wordsNo {r : Rr} (h : goodR r) (c : Nat) (hc : c = 32 ∨ c = 10) : ∀ t ∈ r.w :: r.ns.map fig, c ∉ t := by
  intro t ht hm
  rcases List.mem_cons.mp ht with rfl | ht
  · rcases h.1 with ⟨e, _⟩ | ⟨e, _⟩ <;> rw [e] at hm <;> simp at hm <;> omega
  · obtain ⟨n, hn, rfl⟩ := List.mem_map.mp ht
    have := fig_in n (h.2 n hn) c hm
    omega
theorem line_no {r : Rr} (h : goodR r) : 10 ∉ lineR r := by
  unfold lineR
  rw [joinL_flat]
  intro hm
  rcases List.mem_append.mp hm with hm | hm
  · exact wordsNo h 10 (.inr rfl) r.w (by simp) hm
  · obtain ⟨t, ht, h2⟩ := List.mem_flatten.mp hm
    obtain ⟨u, hu, rfl⟩ := List.mem_map.mp ht
    rcases List.mem_cons.mp h2 with e | h2
    · omega
    · exact wordsNo h 10 (.inr rfl) u (by simp only [List.mem_cons]; exact .inr hu) h2
theorem line_ne {r : Rr} (h : goodR r) : lineR r ≠ [] := by
  unfold lineR
  rw [joinL_flat]
  rcases h.1 with ⟨e, _⟩ | ⟨e, _⟩ <;> rw [e] <;> simp
theorem line_len {r : Rr} (h : goodR r) : (lineR r).length ≤ 16 := by
  unfold lineR
  rw [joinL_flat]
  have key : ∀ ns : List Nat, ((ns.map fig).map fun t => 32 :: t).flatten.length ≤ 4 * ns.length := by
    intro ns
    induction ns with
    | nil => simp
    | cons n ns ih =>
      have := (fig_len n).2
      simp only [List.map_cons, List.flatten_cons, List.length_append, List.length_cons] at ih ⊢
      omega
  have := key r.ns
  rw [List.length_append]
  rcases h.1 with ⟨e, l⟩ | ⟨e, l⟩ <;> rw [e] <;> simp only [List.length_cons, List.length_nil] <;> omega
theorem joinL_snoc (c : Nat) (ls : List (List Nat)) (l : List Nat) (h : ls ≠ []) : joinL [c] (ls ++ [l]) = joinL [c] ls ++ (c :: l) := by
  cases ls with
  | nil => exact absurd rfl h
  | cons a ls => rw [List.cons_append, joinL_flat, joinL_flat]; simp
theorem text_len : ∀ (rs : List Rr), (∀ r ∈ rs, goodR r) → (textR rs).length ≤ 17 * rs.length
  | [], _ => by simp [textR, joinL]
  | r :: rs, h => by
    unfold textR
    rw [List.map_cons, joinL_flat]
    have h1 := line_len (h r (by simp))
    have key : ∀ rs : List Rr, (∀ r ∈ rs, goodR r) → ((rs.map lineR).map fun t => 10 :: t).flatten.length ≤ 17 * rs.length := by
      intro rs
      induction rs with
      | nil => simp
      | cons q qs ih =>
        intro hq
        have := line_len (hq q (by simp))
        have := ih fun r hr => hq r (by simp [hr])
        simp only [List.map_cons, List.flatten_cons, List.length_append, List.length_cons] at this ⊢
        omega
    have := key rs fun q hq => h q (by simp [hq])
    rw [List.length_append, List.length_cons]; omega
theorem text_snoc (rs : List Rr) (r : Rr) : textR (rs ++ [r]) = if rs = [] then lineR r else textR rs ++ (10 :: lineR r) := by
  unfold textR
  cases rs with
  | nil => simp [joinL]
  | cons a rs =>
    rw [if_neg (by simp), List.map_append]
    exact joinL_snoc 10 _ _ (by simp)
/-! the law's numbers and rows -/
theorem mixed_ok (c : Int) (k : Nat) (hk : k ≤ 10) : ∃ v : Nat, ∀ st : Stor, F_l_mixed [.int c, .int (k : Nat)] st = .ok (.int (v : Nat)) st := by
  have m1 : ∀ s, mulV (.int 7919) (.int (k : Nat)) s = .ok (.int (7919 * (k : Int))) s := fun s => r_mul_int s _ _ (by omega)
  obtain ⟨q, hq⟩ : ∃ q : Nat, c % 1000000007 + 7919 * (k : Int) + 13 = (q : Nat) := Int.eq_ofNat_of_zero_le (by omega)
  have hq2 : q ≤ 2000000000 := by omega
  have m2 : ∀ s, mulV (.int (q : Nat)) (.int (q : Nat)) s = .ok (.int ((q : Int) * (q : Int))) s := fun s => r_mul_int s _ _ (by omega)
  obtain ⟨v, hv⟩ : ∃ v : Nat, (q : Int) * (q : Int) % 998244353 / 3 = (v : Nat) := Int.eq_ofNat_of_zero_le (by
    have : 0 ≤ (q : Int) * (q : Int) % 998244353 := Int.emod_nonneg _ (by decide)
    omega)
  refine ⟨v, fun st => ?_⟩
  unfold F_l_mixed gcF fnM b_l_mixed
  generalize (q : Int) * (q : Int) = qq at *
  simp [startM, r_mod_int, m1, hq, m2, r_fdiv_int, hv]
  exact gc_same (by simp)
theorem number_ok (c : Int) (k : Nat) (hk : k ≤ 10) : ∃ n : Nat, n < 1000 ∧ ∀ st : Stor, F_l_number [.int c, .int (k : Nat)] st = .ok (.int (n : Nat)) st := by
  obtain ⟨v, hv⟩ := mixed_ok c k hk
  have e0 : (v : Int) / 3 % 10 = ((v / 3 % 10 : Nat) : Int) := by omega
  have e1 : (v : Int) / 3 % 1000 = ((v / 3 % 1000 : Nat) : Int) := by omega
  have e2 : (100 : Int) + (v : Int) / 3 % 900 = ((100 + v / 3 % 900 : Nat) : Int) := by omega
  have hc : (v : Int) % 3 = 0 ∨ (v : Int) % 3 = 1 ∨ (v : Int) % 3 = 2 := by omega
  let L : List D := [.int ((v / 3 % 10 : Nat) : Int), .int ((v / 3 % 1000 : Nat) : Int), .int ((100 + v / 3 % 900 : Nat) : Int)]
  have key : ∀ (n : Nat), n < 1000 → atI L ((v : Int) % 3) = some (.int (n : Nat)) → ∀ st : Stor, F_l_number [.int c, .int (k : Nat)] st = .ok (.int (n : Nat)) st := fun n hn ha st => by
    have hv := hv st
    have ix := r_ix_loc (st ++ [.lst L]) st.length ((v : Int) % 3) L (.int (n : Nat)) (by simp) ha
    unfold F_l_number gcF fnM b_l_number
    simp only [L] at ix
    generalize ((v / 3 % 10 : Nat) : Int) = q0 at *
    generalize ((v / 3 % 1000 : Nat) : Int) = q1 at *
    generalize ((100 + v / 3 % 900 : Nat) : Int) = q2 at *
    generalize ((v : Nat) : Int) = vv at *
    simp [startM, hv, r_fdiv_int, r_mod_int, e0, e1, e2, ix]
    exact gc_flat (by simp)
  rcases hc with h | h | h
  · exact ⟨v / 3 % 10, by omega, key _ (by omega) (by rw [h]; rfl)⟩
  · exact ⟨v / 3 % 1000, by omega, key _ (by omega) (by rw [h]; rfl)⟩
  · exact ⟨100 + v / 3 % 900, by omega, key _ (by omega) (by rw [h]; rfl)⟩
theorem under_R (n : Nat) (r : Rr) : under n (encR r) := by
  have : ∀ ns : List Nat, unders n (ns.map fun n => D.int (n : Nat)) := by
    intro ns
    induction ns with
    | nil => simp
    | cons a ns ih => simp [ih]
  simp [encR, this]
theorem row_ok (c : Int) : ∃ r : Rr, goodR r ∧ ∀ st, F_l_row [.int c] st = .ok (encR r) st := by
  have key : ∀ (r : Rr), goodR r → (∀ st : Stor, F_l_row [.int c] st = .ok (encR r) st) → ∃ r : Rr, goodR r ∧ ∀ st, F_l_row [.int c] st = .ok (encR r) st := fun r h1 h2 => ⟨r, h1, h2⟩
  have p6 : ∀ st : Stor, powV (.int 10) (.int 6) st = .ok (.int 1000000) st := fun st => by simp [powV, intV]
  obtain ⟨a, ha⟩ : ∃ a : Nat, c / 4 % 1000 = (a : Nat) := Int.eq_ofNat_of_zero_le (by omega)
  obtain ⟨b, hb⟩ : ∃ b : Nat, c / 4 / 1000 % 1000 = (b : Nat) := Int.eq_ofNat_of_zero_le (by omega)
  obtain ⟨d, hd⟩ : ∃ d : Nat, c / 4 / 1000000 % 1000 = (d : Nat) := Int.eq_ofNat_of_zero_le (by omega)
  obtain ⟨q, hq⟩ : ∃ q : Int, q = c / 4 := ⟨_, rfl⟩
  rw [← hq] at ha hb hd
  have f4 : ∀ st : Stor, fdivV (.int c) (.int 4) st = .ok (.int q) st := fun st => by rw [hq]; exact r_fdiv_int st _ _ (by omega)
  by_cases h0 : c % 4 = 0
  · refine key ⟨[117, 112], [a, b]⟩ ⟨.inl ⟨rfl, rfl⟩, by simp; omega⟩ fun st => ?_
    have hu := under_R st.length ⟨[117, 112], [a, b]⟩
    unfold F_l_row gcF fnM b_l_row
    simp only [encR, List.map_cons, List.map_nil] at *
    simp [startM, f4, r_fdiv_int, r_mod_int, h0, ha, hb]
    exact gc_same hu
  · by_cases h2 : c % 4 = 2
    · refine key ⟨[100, 111, 119, 110], [a, b, d]⟩ ⟨.inr ⟨rfl, rfl⟩, by simp; omega⟩ fun st => ?_
      have hu := under_R st.length ⟨[100, 111, 119, 110], [a, b, d]⟩
      unfold F_l_row gcF fnM b_l_row
      simp only [encR, List.map_cons, List.map_nil] at *
      simp [startM, f4, r_fdiv_int, r_mod_int, h0, h2, ha, hb, p6, hd]
      exact gc_same hu
    · obtain ⟨v, hv⟩ := mixed_ok c 1 (by omega)
      obtain ⟨n2, g2, e2⟩ := number_ok c 2 (by omega)
      obtain ⟨n3, g3, e3⟩ := number_ok c 3 (by omega)
      obtain ⟨n4, g4, e4⟩ := number_ok c 4 (by omega)
      rw [show ((1 : Nat) : Int) = 1 from rfl] at hv
      rw [show ((2 : Nat) : Int) = 2 from rfl] at e2
      rw [show ((3 : Nat) : Int) = 3 from rfl] at e3
      rw [show ((4 : Nat) : Int) = 4 from rfl] at e4
      by_cases h3 : (v : Int) % 2 = 0
      · refine key ⟨[117, 112], [n2, n3]⟩ ⟨.inl ⟨rfl, rfl⟩, by simp; omega⟩ fun st => ?_
        have hu := under_R st.length ⟨[117, 112], [n2, n3]⟩
        unfold F_l_row gcF fnM b_l_row
        simp only [encR, List.map_cons, List.map_nil] at *
        generalize ((v : Nat) : Int) = vv at *
        simp [startM, f4, r_mod_int, h0, h2, hv, h3, e2, e3]
        exact gc_same hu
      · refine key ⟨[100, 111, 119, 110], [n2, n3, n4]⟩ ⟨.inr ⟨rfl, rfl⟩, by simp; omega⟩ fun st => ?_
        have hu := under_R st.length ⟨[100, 111, 119, 110], [n2, n3, n4]⟩
        unfold F_l_row gcF fnM b_l_row
        simp only [encR, List.map_cons, List.map_nil] at *
        generalize ((v : Nat) : Int) = vv at *
        simp [startM, f4, r_mod_int, h0, h2, hv, h3, e2, e3, e4]
        exact gc_same hu
theorem dgt (i : Nat) (h : i < 10) (st : Stor) : ixV (.str [48, 49, 50, 51, 52, 53, 54, 55, 56, 57]) (.int (i : Nat)) st = .ok (.str [48 + i]) st := by
  have : i = 0 ∨ i = 1 ∨ i = 2 ∨ i = 3 ∨ i = 4 ∨ i = 5 ∨ i = 6 ∨ i = 7 ∨ i = 8 ∨ i = 9 := by omega
  rcases this with rfl | rfl | rfl | rfl | rfl | rfl | rfl | rfl | rfl | rfl <;> rfl
theorem figures_ok (n : Nat) (h : n < 1000) (st : Stor) : F_l_figures [.int (n : Nat)] st = .ok (.str (fig n)) st := by
  have e0 : (n : Int) % 10 = ((n % 10 : Nat) : Int) := by omega
  have e1 : (n : Int) / 10 % 10 = ((n / 10 % 10 : Nat) : Int) := by omega
  have e2 : (n : Int) / 100 = ((n / 100 : Nat) : Int) := by omega
  have d0 := dgt (n % 10) (by omega) st
  have d1 := dgt (n / 10 % 10) (by omega) st
  have d2 := dgt (n / 100) (by omega) st
  unfold F_l_figures gcF fnM b_l_figures
  generalize hn : ((n : Nat) : Int) = N at *
  unfold fig
  by_cases c1 : n < 10
  · rw [if_pos c1]
    have g1 : ¬ (9 : Int) < N := by omega
    have g2 : ¬ (99 : Int) < N := by omega
    rw [show n % 10 = n from by omega, hn] at d0 e0
    simp [startM, r_mod_int, e0, d0, g1, g2]
    exact gc_same (by simp)
  · rw [if_neg c1]
    have g1 : (9 : Int) < N := by omega
    by_cases c2 : n < 100
    · rw [if_pos c2]
      have g2 : ¬ (99 : Int) < N := by omega
      rw [show n / 10 % 10 = n / 10 from by omega] at d1 e1
      generalize ((n % 10 : Nat) : Int) = q0 at *
      generalize ((n / 10 : Nat) : Int) = q1 at *
      generalize ((n / 100 : Nat) : Int) = q2 at *
      simp [startM, r_mod_int, r_fdiv_int, e0, e1, d0, d1, g1, g2, addV]
      exact gc_same (by simp)
    · rw [if_neg c2]
      have g2 : (99 : Int) < N := by omega
      generalize ((n % 10 : Nat) : Int) = q0 at *
      generalize ((n / 10 % 10 : Nat) : Int) = q1 at *
      generalize ((n / 100 : Nat) : Int) = q2 at *
      simp [startM, r_mod_int, r_fdiv_int, e0, e1, e2, d0, d1, d2, g1, g2, addV]
      exact gc_same (by simp)
end Law
set_option maxHeartbeats 0
namespace Law
open L2 M
theorem forGo_step {g : MG} {b : MS} {gs : List (Nat × MO)} {d : D} {r : List D} {env env1 env2 : MEnv} {st st1 st2 : Stor} (ho : okG gs st) (hg : g d env st = .ok env1 st1) (hb : b env1 st1 = .ok (.nx env2) st2) :
    forGo g b gs (d :: r) env st = forGo g b gs r env2 st2 := by
  rw [forGo, if_pos ho, hg, R.bind_ok, hb, R.bind_ok]
theorem forGo_end {g : MG} {b : MS} {gs : List (Nat × MO)} {env : MEnv} {st : Stor} (ho : okG gs st) : forGo g b gs [] env st = .ok (.nx env) st := by
  rw [forGo, if_pos ho]
def intsD (ns : List Nat) : List D := ns.map fun n => D.int (n : Nat)
theorem cut1 {α : Type} (a : α) (l : List α) : cut (a :: l) (some 1) none = l := by
  have := cut_drop (a :: l) 1
  rw [show ((1 : Nat) : Int) = 1 from rfl] at this
  rw [this]; rfl
theorem cut01 {α : Type} (a : α) (l : List α) : cut (a :: l) none (some 1) = [a] := by
  have := cut_take (a :: l) 1 (by simp)
  rw [show ((1 : Nat) : Int) = 1 from rfl] at this
  rw [this]; rfl
/-- the numbers of a row, written behind -/
def tailR (ns : List Nat) : List Nat := (ns.map fun n => 32 :: fig n).flatten
theorem line_eq (r : Rr) : lineR r = r.w ++ tailR r.ns := by
  unfold lineR tailR
  rw [joinL_flat, List.map_map]; rfl
theorem tail_len (ns : List Nat) : (tailR ns).length ≤ 4 * ns.length := by
  unfold tailR
  induction ns with
  | nil => simp
  | cons n ns ih =>
    have := (fig_len n).2
    simp only [List.map_cons, List.flatten_cons, List.length_append, List.length_cons] at ih ⊢
    omega
theorem inner_ok (B : MS) (hB : (setS 1 (op2 addV (op2 addV (vr 1) (ct (.str [32]))) (callF F_l_figures [] (consA (vr 4) nilA)))) = B) (st : Stor) : ∀ (ns : List Nat) (T : List Nat) (a0 a2 a3 a4 : Option D), (∀ n ∈ ns, n < 1000) → T.length + 4 * ns.length ≤ 100000 →
    ∃ b4, forGo (nameG 4) B [] (intsD ns) [a0, some (.str T), a2, a3, a4] st = .ok (.nx [a0, some (.str (T ++ tailR ns)), a2, a3, b4]) st := by
  intro ns
  induction ns with
  | nil => intro T a0 a2 a3 a4 _ _; exact ⟨a4, by simp [intsD, tailR, forGo]⟩
  | cons n ns ih =>
    intro T a0 a2 a3 a4 h hl
    simp only [List.length_cons] at hl
    have f := fig_len n
    obtain ⟨b4, e⟩ := ih (T ++ [32] ++ fig n) a0 a2 a3 (some (.int (n : Nat))) (fun m hm => h m (by simp [hm])) (by simp; omega)
    refine ⟨b4, ?_⟩
    have fo := figures_ok n (h n (by simp)) st
    have a1 : addV (.str T) (.str [32]) st = .ok (.str (T ++ [32])) st := by
      simp only [addV]; rw [if_pos (by simp; omega)]
    have a2' : addV (.str (T ++ [32])) (.str (fig n)) st = .ok (.str (T ++ [32] ++ fig n)) st := by
      simp only [addV]; rw [if_pos (by simp; omega)]
    have eT : T ++ tailR (n :: ns) = T ++ [32] ++ fig n ++ tailR ns := by simp [tailR]
    rw [eT, ← e]
    refine forGo_step (env1 := [a0, some (.str T), a2, a3, some (.int (n : Nat))]) (st1 := st) (by simp) rfl ?_
    rw [← hB]
    generalize T ++ [32] ++ fig n = T2 at *
    generalize T ++ [32] = T1 at *
    generalize fig n = FN at *
    simp [fo, a1, a2']
theorem encR_ix0 (r : Rr) (st : Stor) : ixV (encR r) (.int 0) st = .ok (.str r.w) st := by rw [encR]; exact r_ix_tup st 0 _ _ (by rw [show (0 : Int) = ((0 : Nat) : Int) from rfl, atI_ofNat]; rfl)
theorem encR_sl (r : Rr) (st : Stor) : slV (encR r) (some 1) none st = .ok (.tup (intsD r.ns)) st := by rw [encR, r_sl_tup, cut1]; rfl
theorem enumL_get2 : ∀ (k : Nat) (xs : List D) (i : Nat) (d : D), (enumL k xs)[i]? = some d → ∃ x, xs[i]? = some x ∧ d = .tup [.int ((k + i : Nat) : Int), x] := by
  intro k xs
  induction xs generalizing k with
  | nil => intro i d h; simp [enumL] at h
  | cons x xs ih =>
    intro i d h
    cases i with
    | zero => simp [enumL] at h; exact ⟨x, rfl, by rw [← h]; simp⟩
    | succ i =>
      rw [enumL, List.getElem?_cons_succ] at h
      obtain ⟨y, h1, h2⟩ := ih (k + 1) i d h
      exact ⟨y, by simpa using h1, by rw [h2]; congr 3; omega⟩
theorem ltext_ok (rs : List Rr) (hr : ∀ r ∈ rs, goodR r) (hl : rs.length ≤ 20) (n : Nat) (st : Stor) (h : st[n]? = some (.lst (rs.map encR))) : F_l_text [.loc n] st = .ok (.str (textR rs)) st := by
  unfold F_l_text gcF fnM b_l_text
  generalize hI : (setS 1 (op2 addV (op2 addV (vr 1) (ct (.str [32]))) _) : MS) = BI
  generalize hB : (seqS (ifS (tB1 (op2 gtV (vr 2) (ct (.int 0)))) _ _) _ : MS) = B
  obtain ⟨env', st', h1, a2, a3, a4, rfl, e9⟩ := forGo_ix (g := tupG 2 (consG (nameG 2) (consG (nameG 3) nilG))) (b := B) (gs := [(n, .lst (rs.map encR))]) (items := enumL 0 (rs.map encR))
    (fun i env s => ∃ (a2 a3 a4 : Option D), env = [some (.loc n), some (.str (textR (rs.take i))), a2, a3, a4] ∧ s = st)
    (env := [some (.loc n), some (.str []), none, none, none]) (st := st) ⟨none, none, none, rfl, rfl⟩ (by
      rintro i d env s hi ⟨a2, a3, a4, rfl, rfl⟩
      obtain ⟨x, hx, rfl⟩ := enumL_get2 0 _ i d hi
      rw [List.getElem?_map] at hx
      obtain ⟨r, hr1, rfl⟩ := Option.map_eq_some_iff.mp hx
      have hil := (List.getElem?_eq_some_iff.mp hr1).1
      have hmem : r ∈ rs := List.mem_of_getElem? hr1
      have gr := hr r hmem
      have tl := text_len (rs.take i) (fun q hq => hr q (List.mem_of_mem_take hq))
      have lt : (rs.take i).length = i := by rw [List.length_take]; omega
      rw [lt] at tl
      have ts : textR (rs.take (i + 1)) = if i = 0 then lineR r else textR (rs.take i) ++ (10 :: lineR r) := by
        have e1 : rs.take (i + 1) = rs.take i ++ [r] := by
          rw [List.take_succ, hr1]; rfl
        rw [e1, text_snoc]
        have : rs.take i = [] ↔ i = 0 := by
          rw [← List.length_eq_zero_iff, lt]
        by_cases c : i = 0
        · rw [if_pos c, if_pos (this.mpr c)]
        · rw [if_neg c, if_neg (fun z => c (this.mp z))]
      rw [Nat.zero_add]
      have wl : r.w.length ≤ 4 := by rcases gr.1 with ⟨e, _⟩ | ⟨e, _⟩ <;> rw [e] <;> simp
      have nl : r.ns.length ≤ 3 := by rcases gr.1 with ⟨_, e⟩ | ⟨_, e⟩ <;> omega
      refine ⟨by simp [h], [some (.loc n), some (.str (textR (rs.take i))), some (.int (i : Nat)), some (encR r), a4], s, by simp, ?_⟩
      by_cases c : i = 0
      · subst c
        have t0 : textR (rs.take 0) = [] := by simp [textR, joinL]
        rw [if_pos rfl, line_eq] at ts
        obtain ⟨b4, e⟩ := inner_ok BI hI s r.ns r.w (some (.loc n)) (some (.int ((0 : Nat) : Int))) (some (encR r)) a4 gr.2 (by omega)
        refine ⟨_, s, .inl ?_, some (.int ((0 : Nat) : Int)), some (encR r), b4, rfl, rfl⟩
        rw [ts, t0, ← hB]
        have x0 := encR_ix0 r s
        have x1 := encR_sl r s
        have a1 : addV (.str []) (.str r.w) s = .ok (.str r.w) s := by
          simp only [addV]; rw [if_pos (by simp; omega)]; simp
        rw [show ((0 : Nat) : Int) = 0 from rfl] at *
        generalize encR r = ER at *
        generalize tailR r.ns = TL at *
        generalize r.w = W at *
        simp [x0, a1, x1, e]
      · rw [if_neg c, line_eq] at ts
        obtain ⟨b4, e⟩ := inner_ok BI hI s r.ns (textR (rs.take i) ++ [10] ++ r.w) (some (.loc n)) (some (.int (i : Nat))) (some (encR r)) a4 gr.2 (by simp; omega)
        refine ⟨_, s, .inl ?_, some (.int (i : Nat)), some (encR r), b4, rfl, rfl⟩
        have ets : textR (rs.take i) ++ 10 :: (r.w ++ tailR r.ns) = textR (rs.take i) ++ [10] ++ r.w ++ tailR r.ns := by simp
        rw [ts, ets, ← hB]
        have x0 := encR_ix0 r s
        have x1 := encR_sl r s
        generalize textR (rs.take i) = T at *
        have a0 : addV (.str T) (.str [10]) s = .ok (.str (T ++ [10])) s := by
          simp only [addV]; rw [if_pos (by simp; omega)]
        have a1 : addV (.str (T ++ [10])) (.str r.w) s = .ok (.str (T ++ [10] ++ r.w)) s := by
          simp only [addV]; rw [if_pos (by simp; omega)]
        have ci : (0 : Int) < (i : Int) := by omega
        generalize T ++ [10] ++ r.w ++ tailR r.ns = T4 at *
        generalize T ++ [10] ++ r.w = T3 at *
        generalize T ++ [10] = T2 at *
        generalize encR r = ER at *
        generalize r.w = W at *
        generalize ((i : Nat) : Int) = ii at *
        simp [ci, a0, x0, a1, x1, e]) (fun _ _ ⟨_, _, _, _, e⟩ => by rw [e]; simp [h])
  have le : (enumL 0 (rs.map encR)).length = rs.length := by
    have : ∀ (k : Nat) (xs : List D), (enumL k xs).length = xs.length := by
      intro k xs
      induction xs generalizing k with
      | nil => rfl
      | cons x xs ih => rw [enumL, List.length_cons, ih, List.length_cons]
    rw [this, List.length_map]
  rw [le, List.take_length, e9] at h1
  have lg : lstG st n = some (rs.map encR, .lst (rs.map encR)) := by simp [lstG, h]
  rw [show startM 5 [D.loc n] = [some (.loc n), none, none, none, none] from rfl]
  generalize rs.map encR = X at *
  generalize textR rs = T at *
  simp [lg, h1]
  exact gc_same (by simp)
end Law
set_option maxHeartbeats 0
namespace Law
open L2 M
theorem bools_all {α : Type} (l : List α) : boolsOf (l.map fun _ => D.bl true) = some (l.map fun _ => true) := by
  induction l with
  | nil => rfl
  | cons a l ih => simp [boolsOf, ih]
theorem all_true {α : Type} (l : List α) (n : Nat) (st : Stor) (h : itemsAt st n = some (l.map fun _ => D.bl true)) : allV (fun bs => bs.all fun b => b) [.loc n] st = .ok (.bl true) st := by
  simp only [allV, h, Option.bind_some, bools_all]
  congr 2
  simp
theorem is_number_ok (n : Nat) (h : n < 1000) (st : Stor) : F_p_is_number [.str (fig n)] st = .ok (.bl true) st := by
  have fl := fig_len n
  have fi := fig_in n h
  have cm := compE_map (capt := [none]) (mi := strI (vr 0)) (g := nameG 0) (e := op2 inSV (vr 0) (ct (.str [48, 49, 50, 51, 52, 53, 54, 55, 56, 57])))
    (env := [some (.str (fig n))]) (st := st) (st1 := st) (items := (fig n).map fun c => D.str [c]) (gs := []) (fun _ => .bl true) (fun e => ∃ a, e = [a])
    (by
      have : ((fig n).all fun c => decide (c < 128)) = true := List.all_eq_true.mpr fun c hc => decide_eq_true (by have := fi c hc; omega)
      generalize fig n = F at *
      simp only [r_strI, r_vr, List.getElem?_cons_zero, R.bind_ok]
      rw [if_pos this])
    ⟨none, by simp [captE]⟩ (by rw [List.length_map]; omega) (fun ys => by simp) (by
      rintro d hd env' ys ⟨a, rfl⟩
      obtain ⟨c, hc, rfl⟩ := List.mem_map.mp hd
      refine ⟨[some (.str [c])], ⟨_, rfl⟩, by simp, ?_⟩
      have := fi c hc
      have hm : c ∈ [48, 49, 50, 51, 52, 53, 54, 55, 56, 57] := by simp; omega
      have hi : inSV (.str [c]) (.str [48, 49, 50, 51, 52, 53, 54, 55, 56, 57]) (st ++ [.lst ys]) = .ok (.bl true) (st ++ [.lst ys]) := by
        simp only [inSV]
        rw [if_pos (by simp), decide_eq_true hm]
      generalize st ++ [MO.lst ys] = Z at *
      simp [hi])
  have ea : (((fig n).map fun c => D.str [c]).map fun _ => D.bl true) = (fig n).map fun _ => D.bl true := by rw [List.map_map]; rfl
  rw [ea] at cm
  have al := all_true (fig n) st.length (st ++ [.lst ((fig n).map fun _ => D.bl true)]) (by simp)
  have hu : gc st (.ok (.bl true) (st ++ [.lst ((fig n).map fun _ => D.bl true)])) = .ok (.bl true) st := gc_flat (by simp)
  have ln : lenV [.str (fig n)] st = .ok (.int ((fig n).length : Nat)) st := by simp only [lenV]; rw [if_pos (by omega)]
  have l3 : ¬ (3 : Int) < (((fig n).length : Nat) : Int) := by omega
  have ne : fig n ≠ [] := fun z => by rw [z] at fl; simp at fl
  have i0 : ∃ c, ixV (.str (fig n)) (.int 0) st = .ok (.str [c]) st ∧ (c = 48 → fig n = [48]) := by
    unfold fig
    split
    · exact ⟨48 + n, by simp [ixV, atI, ixN], fun e => by rw [e]⟩
    · split
      · exact ⟨48 + n / 10, by simp [ixV, atI, ixN], fun e => by omega⟩
      · exact ⟨48 + n / 100, by simp [ixV, atI, ixN], fun e => by omega⟩
  obtain ⟨c, i0, hc0⟩ := i0
  unfold F_p_is_number gcF fnM b_p_is_number
  rw [show startM 1 [D.str (fig n)] = [some (.str (fig n))] from rfl]
  generalize compE [none] _ _ _ _ = CE at *
  generalize (st ++ [.lst ((fig n).map fun _ => D.bl true)] : Stor) = Z at *
  generalize (((fig n).length : Nat) : Int) = LL at *
  by_cases c4 : c = 48
  · have e48 := hc0 c4
    subst c4
    clear hc0 fi fl
    generalize fig n = F at *
    subst e48
    simp [ln, l3, i0, cm, al]
    exact hu
  · generalize hF : fig n = F at *
    simp [ne, ln, l3, i0, c4, cm, al]
    exact hu
noncomputable abbrev numsE : ME := compE [none] (seqI (slE (vr 1) (inP (ct (.int 1))) noP)) (nameG 0) yesT (callF F_p_is_number [] (consA (vr 0) nilA))
noncomputable abbrev intsE : ME := compE [none] (seqI (slE (vr 1) (inP (ct (.int 1))) noP)) (nameG 0) yesT (callE intW (consA (vr 0) nilA))
theorem slI (w : List Nat) (ts : List (List Nat)) (m : Nat) (st : Stor) (a0 : Option D) (h : itemsAt st m = some ((w :: ts).map D.str)) :
    seqI (slE (vr 1) (inP (ct (.int 1))) noP) [a0, some (.loc m)] st = .ok (ts.map D.str, [(st.length, .lst (ts.map D.str))]) (st ++ [.lst (ts.map D.str)]) := by
  have sl : slV (.loc m) (some 1) none st = .ok (.loc st.length) (st ++ [.lst (ts.map D.str)]) := by
    simp only [slV, h, List.map_cons, cut1]
  have hg : (st ++ [MO.lst (ts.map D.str)])[st.length]? = some (.lst (ts.map D.str)) := by simp
  generalize (st ++ [MO.lst (ts.map D.str)] : Stor) = Z at *
  generalize ts.map D.str = X at *
  simp [inP, noP, sl, hg]
theorem nums_ok (w : List Nat) (ns : List Nat) (hn : ∀ n ∈ ns, n < 1000) (hl : ns.length ≤ 3) (m : Nat) (st : Stor) (a0 : Option D) (h : itemsAt st m = some ((w :: ns.map fig).map D.str)) :
    numsE [a0, some (.loc m)] st = .ok (.loc (st.length + 1)) (st ++ [.lst ((ns.map fig).map D.str), .lst (ns.map fun _ => D.bl true)]) := by
  have cm := compE_map (capt := [none]) (mi := seqI (slE (vr 1) (inP (ct (.int 1))) noP)) (g := nameG 0) (e := callF F_p_is_number [] (consA (vr 0) nilA))
    (env := [a0, some (.loc m)]) (st := st) (st1 := st ++ [.lst ((ns.map fig).map D.str)]) (items := (ns.map fig).map D.str) (gs := [(st.length, .lst ((ns.map fig).map D.str))]) (fun _ => .bl true) (fun e => ∃ a, e = [a])
    (slI w (ns.map fig) m st a0 h) ⟨none, by simp [captE]⟩ (by simp; omega) (fun ys => by simp) (by
      rintro d hd env' ys ⟨a, rfl⟩
      obtain ⟨t, ht, rfl⟩ := List.mem_map.mp hd
      obtain ⟨n, hn1, rfl⟩ := List.mem_map.mp ht
      refine ⟨[some (.str (fig n))], ⟨_, rfl⟩, by simp, ?_⟩
      have := is_number_ok n (hn n hn1) (st ++ [.lst ((ns.map fig).map D.str)] ++ [.lst ys])
      generalize st ++ [MO.lst ((ns.map fig).map D.str)] ++ [.lst ys] = Z at *
      simp [this])
  rw [numsE, cm]
  simp
theorem ints_ok (w : List Nat) (ns : List Nat) (hn : ∀ n ∈ ns, n < 1000) (hl : ns.length ≤ 3) (m : Nat) (st : Stor) (a0 : Option D) (h : itemsAt st m = some ((w :: ns.map fig).map D.str)) :
    intsE [a0, some (.loc m)] st = .ok (.loc (st.length + 1)) (st ++ [.lst ((ns.map fig).map D.str), .lst (intsD ns)]) := by
  have cm := compE_map (capt := [none]) (mi := seqI (slE (vr 1) (inP (ct (.int 1))) noP)) (g := nameG 0) (e := callE intW (consA (vr 0) nilA))
    (env := [a0, some (.loc m)]) (st := st) (st1 := st ++ [.lst ((ns.map fig).map D.str)]) (items := (ns.map fig).map D.str) (gs := [(st.length, .lst ((ns.map fig).map D.str))]) (fun d => match d with | .str cs => (match figV cs with | some k => .int (k : Nat) | none => .non) | _ => .non) (fun e => ∃ a, e = [a])
    (slI w (ns.map fig) m st a0 h) ⟨none, by simp [captE]⟩ (by simp; omega) (fun ys => by simp) (by
      rintro d hd env' ys ⟨a, rfl⟩
      obtain ⟨t, ht, rfl⟩ := List.mem_map.mp hd
      obtain ⟨n, hn1, rfl⟩ := List.mem_map.mp ht
      refine ⟨[some (.str (fig n))], ⟨_, rfl⟩, by simp, ?_⟩
      have := r_intW_s n (st ++ [.lst ((ns.map fig).map D.str)] ++ [.lst ys]) (hn n hn1)
      have fv := figV_fig n (hn n hn1)
      generalize st ++ [MO.lst ((ns.map fig).map D.str)] ++ [.lst ys] = Z at *
      generalize fig n = FN at *
      simp [this, fv])
  have e : (((ns.map fig).map D.str).map fun d => match d with | .str cs => (match figV cs with | some k => D.int (k : Nat) | none => .non) | _ => .non) = intsD ns := by
    unfold intsD
    rw [List.map_map, List.map_map]
    refine List.map_congr_left fun n hm => ?_
    simp [figV_fig n (hn n hm)]
  rw [e] at cm
  rw [intsE, cm]
  simp
theorem row_of_line_ok (r : Rr) (g : goodR r) (st : Stor) : F_p_row_of_line [.str (lineR r)] st = .ok (encR r) st := by
  have ll := line_len g
  have nl : r.ns.length ≤ 3 := by rcases g.1 with ⟨_, e⟩ | ⟨_, e⟩ <;> omega
  have sp : splitV (.str (lineR r)) [.str [32]] st = .ok (.loc st.length) (st ++ [.lst ((r.w :: r.ns.map fig).map D.str)]) := by
    simp only [splitV]
    rw [if_pos ⟨by simp, by omega⟩]
    unfold lineR
    rw [splitM_join 32 _ (by simp) (wordsNo g 32 (.inl rfl))]
  let A : MO := .lst ((r.w :: r.ns.map fig).map D.str)
  let Z0 : Stor := st ++ [A]
  have i0 : itemsAt Z0 st.length = some ((r.w :: r.ns.map fig).map D.str) := by simp [Z0, A]
  have ln : lenV [.loc st.length] Z0 = .ok (.int ((1 + r.ns.length : Nat) : Int)) Z0 := by
    have := r_len_loc Z0 st.length _ i0
    rw [this]; congr 3; simp; omega
  have x0 : ixV (.loc st.length) (.int 0) Z0 = .ok (.str r.w) Z0 := r_ix_loc _ _ _ _ _ i0 (by rw [show (0 : Int) = ((0 : Nat) : Int) from rfl, atI_ofNat]; rfl)
  have lk : (lookT [([117, 112], .int 3), ([100, 111, 119, 110], .int 4)] r.w).getD .non = .int ((1 + r.ns.length : Nat) : Int) := by
    rcases g.1 with ⟨e, l⟩ | ⟨e, l⟩
    · rw [e, l]; simp [lookT]
    · rw [e, l]; simp [lookT]
  have nu := nums_ok r.w r.ns g.2 nl st.length Z0 (some (.str (lineR r))) i0
  let Z2 : Stor := Z0 ++ [.lst ((r.ns.map fig).map D.str), .lst (r.ns.map fun _ => D.bl true)]
  have lz : Z0.length = st.length + 1 := by simp [Z0]
  rw [lz, show Z0 ++ [.lst ((r.ns.map fig).map D.str), .lst (r.ns.map fun _ => D.bl true)] = Z2 from rfl] at nu
  have al := all_true r.ns (st.length + 2) Z2 (by simp [Z2, Z0, itemsAt])
  have i2 : itemsAt Z2 st.length = some ((r.w :: r.ns.map fig).map D.str) := itemsAt_app i0
  let Z3 : Stor := Z2 ++ [.lst [.str r.w]]
  have sl : slV (.loc st.length) none (some 1) Z2 = .ok (.loc (st.length + 3)) Z3 := by
    simp only [slV, i2, List.map_cons, cut01]
    have : Z2.length = st.length + 3 := by simp [Z2, Z0]
    rw [this]
  have i3 : itemsAt Z3 st.length = some ((r.w :: r.ns.map fig).map D.str) := itemsAt_app i2
  have it := ints_ok r.w r.ns g.2 nl st.length Z3 (some (.str (lineR r))) i3
  have lz3 : Z3.length = st.length + 4 := by simp [Z3, Z2, Z0]
  let Z4 : Stor := Z3 ++ [.lst ((r.ns.map fig).map D.str), .lst (intsD r.ns)]
  rw [lz3, show Z3 ++ [.lst ((r.ns.map fig).map D.str), .lst (intsD r.ns)] = Z4 from rfl] at it
  let Z5 : Stor := Z4 ++ [.lst ([.str r.w] ++ intsD r.ns)]
  have ad : addV (.loc (st.length + 3)) (.loc (st.length + 5)) Z4 = .ok (.loc (st.length + 6)) Z5 := by
    have e1 : Z4[st.length + 3]? = some (.lst [.str r.w]) := by simp [Z4, Z3, Z2, Z0]
    have e2 : Z4[st.length + 5]? = some (.lst (intsD r.ns)) := by simp [Z4, Z3, Z2, Z0]
    have e3 : Z4.length = st.length + 6 := by simp [Z4, Z3, Z2, Z0]
    simp only [addV, e1, e2]
    rw [if_pos (by simp [intsD]; omega), e3]
  have tp : tupleC [.loc (st.length + 6)] Z5 = .ok (encR r) Z5 := by
    have : itemsAt Z5 (st.length + 6) = some ([.str r.w] ++ intsD r.ns) := by simp [Z5, Z4, Z3, Z2, Z0, itemsAt]
    simp only [tupleC, this]; rfl
  have hu : gc st (.ok (encR r) Z5) = .ok (encR r) st := by
    have : Z5 = st ++ ([A, .lst ((r.ns.map fig).map D.str), .lst (r.ns.map fun _ => D.bl true), .lst [.str r.w], .lst ((r.ns.map fig).map D.str), .lst (intsD r.ns), .lst ([.str r.w] ++ intsD r.ns)]) := by simp [Z5, Z4, Z3, Z2, Z0]
    rw [this]; exact gc_flat (under_R _ r)
  unfold F_p_row_of_line gcF fnM b_p_row_of_line
  rw [show startM 2 [D.str (lineR r)] = [some (.str (lineR r)), none] from rfl]
  rw [show (st ++ [.lst ((r.w :: r.ns.map fig).map D.str)] : Stor) = Z0 from rfl] at sp
  generalize hNE : numsE = NE at *
  unfold numsE at hNE
  generalize hIE : intsE = IE at *
  unfold intsE at hIE
  rw [hNE, hIE]
  generalize Z5 = Y5 at *
  generalize Z4 = Y4 at *
  generalize Z3 = Y3 at *
  generalize Z2 = Y2 at *
  generalize Z0 = Y0 at *
  generalize encR r = ER at *
  generalize lineR r = LR at *
  generalize ((1 + r.ns.length : Nat) : Int) = LL at *
  simp [isTy, sp, ln, x0, lk, nu, al, truV, inP, noP, sl, it, ad, tp]
  exact hu
end Law
set_option maxHeartbeats 0
namespace Law
open L2 M
theorem enumL_len (k : Nat) (xs : List D) : (enumL k xs).length = xs.length := by
  induction xs generalizing k with
  | nil => rfl
  | cons x xs ih => rw [enumL, List.length_cons, ih, List.length_cons]
theorem none_R (r : Rr) (st : Stor) : isNoneV (encR r) .non st = .ok (.bl false) st := rfl
theorem unders_R (n : Nat) (rs : List Rr) : unders n (rs.map encR) := by
  induction rs with
  | nil => simp
  | cons r rs ih => simp [ih, under_R]
theorem read_ok (rs : List Rr) (hr : ∀ r ∈ rs, goodR r) (hl : rs.length ≤ 20) (st : Stor) : F_p_counter_read [.str (textR rs)] st = .ok (.loc st.length) (st ++ [.lst (rs.map encR)]) := by
  have tl := text_len rs hr
  unfold F_p_counter_read gcF fnM b_p_counter_read
  rw [show startM 5 [D.str (textR rs)] = [some (.str (textR rs)), none, none, none, none] from rfl]
  generalize hB : (seqS (setS 4 _) _ : MS) = B
  by_cases hne : rs = []
  · subst hne
    rw [show textR [] = [] from rfl]
    have hu : gc st (.ok (.loc st.length) (st ++ [.lst []])) = .ok (.loc st.length) (st ++ [.lst []]) := gc_new0 (by simp [underO])
    simp
    exact hu
  · have tne : textR rs ≠ [] := by
      cases rs with
      | nil => exact absurd rfl hne
      | cons r rs =>
        unfold textR
        rw [List.map_cons, joinL_flat]
        intro z
        exact line_ne (hr r (by simp)) (List.append_eq_nil_iff.mp z).1
    obtain ⟨LL, hLL⟩ : ∃ LL : List D, LL = (rs.map lineR).map D.str := ⟨_, rfl⟩
    let S : List D → Stor := fun P => st ++ [.lst P, .lst LL]
    have sp : splitV (.str (textR rs)) [.str [10]] (st ++ [.lst []]) = .ok (.loc (st.length + 1)) (S []) := by
      simp only [splitV]
      rw [if_pos ⟨by simp, by omega⟩]
      unfold textR
      rw [splitM_join 10 _ (by simpa using hne) (by
        intro t ht
        obtain ⟨r, hr1, rfl⟩ := List.mem_map.mp ht
        exact line_no (hr r hr1))]
      simp [S, hLL]
    obtain ⟨env', st', h1, a2, a3, a4, rfl, rfl⟩ := forGo_ix (g := tupG 2 (consG (nameG 2) (consG (nameG 3) nilG))) (b := B) (gs := [(st.length + 1, .lst LL)]) (items := enumL 0 LL)
      (fun i env s => ∃ (a2 a3 a4 : Option D), env = [some (.str (textR rs)), some (.loc st.length), a2, a3, a4] ∧ s = S ((rs.take i).map encR))
      (env := [some (.str (textR rs)), some (.loc st.length), none, none, none]) (st := S []) ⟨none, none, none, rfl, rfl⟩ (by
        rintro i d env s hi ⟨a2, a3, a4, rfl, rfl⟩
        obtain ⟨x, hx, rfl⟩ := enumL_get2 0 _ i d hi
        rw [hLL, List.getElem?_map, List.getElem?_map] at hx
        obtain ⟨y, hy, rfl⟩ := Option.map_eq_some_iff.mp hx
        obtain ⟨r, hr1, rfl⟩ := Option.map_eq_some_iff.mp hy
        have hil := (List.getElem?_eq_some_iff.mp hr1).1
        have gr := hr r (List.mem_of_getElem? hr1)
        rw [Nat.zero_add]
        have ro := row_of_line_ok r gr (S ((rs.take i).map encR))
        have nn := none_R r (S ((rs.take i).map encR))
        have e1 : rs.take (i + 1) = rs.take i ++ [r] := by rw [List.take_succ, hr1]; rfl
        have ap : appendV (.loc st.length) [encR r] (S ((rs.take i).map encR)) = .ok .non (S ((rs.take (i + 1)).map encR)) := by
          have : ((rs.take i).map encR).length < 1000000 := by rw [List.length_map, List.length_take]; omega
          rw [e1, List.map_append]
          generalize (rs.take i).map encR = P at *
          simp [S, appendV, this]
        have ty : isTy "list" (.loc st.length) (S ((rs.take i).map encR)) = true := by simp [S, isTy]
        refine ⟨by simp [S], [some (.str (textR rs)), some (.loc st.length), some (.int (i : Nat)), some (.str (lineR r)), a4], S ((rs.take i).map encR), by generalize S ((rs.take i).map encR) = Z; simp, [some (.str (textR rs)), some (.loc st.length), some (.int (i : Nat)), some (.str (lineR r)), some (encR r)], S ((rs.take (i + 1)).map encR), .inl ?_, _, _, _, rfl, rfl⟩
        rw [← hB]
        generalize S ((rs.take i).map encR) = Z1 at *
        generalize S ((rs.take (i + 1)).map encR) = Z2 at *
        generalize encR r = ER at *
        generalize lineR r = LR at *
        generalize textR rs = T at *
        simp [ro, nn, ty, ap]) (fun _ _ ⟨_, _, _, _, e⟩ => by rw [e]; simp [S])
    rw [enumL_len, hLL, List.length_map, List.length_map, List.take_length, ← hLL] at h1
    have lg : lstG (S []) (st.length + 1) = some (LL, .lst LL) := by simp [S, lstG]
    have hu : gc st (.ok (.loc st.length) (S (rs.map encR))) = .ok (.loc st.length) (st ++ [.lst (rs.map encR)]) := by
      have := gc_new (st := st) (g := []) (g' := [.lst LL]) (o := .lst (rs.map encR)) (unders_R _ rs)
      simpa [S] using this
    generalize S (rs.map encR) = Z9 at *
    generalize S [] = Z1 at *
    generalize textR rs = T at *
    simp [tne, isTy, sp, lg, h1]
    exact hu
theorem line_of_row_ok (r : Rr) (g : goodR r) (st : Stor) : F_p_line_of_row [encR r] st = .ok (.str (lineR r)) st := by
  have ll := line_len g
  have nl : r.ns.length ≤ 3 := by rcases g.1 with ⟨_, e⟩ | ⟨_, e⟩ <;> omega
  have cm := compE_map (capt := [none]) (mi := seqI (vr 0)) (g := nameG 0) (e := callE strW (consA (vr 0) nilA))
    (env := [some (encR r)]) (st := st) (st1 := st) (items := .str r.w :: intsD r.ns) (gs := []) (fun d => match d with | .str cs => .str cs | .int i => .str (fig i.toNat) | _ => .non) (fun e => ∃ a, e = [a])
    (by simp [encR, intsD]) ⟨none, by simp [captE]⟩ (by simp [intsD]; omega) (fun ys => by simp) (by
      rintro d hd env' ys ⟨a, rfl⟩
      rcases List.mem_cons.mp hd with rfl | hd
      · exact ⟨[some (.str r.w)], ⟨_, rfl⟩, by simp, by simp⟩
      · obtain ⟨n, hn1, rfl⟩ := List.mem_map.mp hd
        refine ⟨[some (.int (n : Nat))], ⟨_, rfl⟩, by simp, ?_⟩
        have := r_strW_i n (st ++ [.lst ys]) (g.2 n hn1)
        dsimp only
        rw [Int.toNat_natCast]
        generalize st ++ [MO.lst ys] = Z at *
        simp [this])
  have e : ((.str r.w :: intsD r.ns).map fun d => match d with | .str cs => D.str cs | .int i => .str (fig i.toNat) | _ => .non) = (r.w :: r.ns.map fig).map D.str := by
    simp only [List.map_cons, intsD, List.map_map]
    congr 1
  rw [e] at cm
  have jn := r_join (st ++ [.lst ((r.w :: r.ns.map fig).map D.str)]) [32] st.length (r.w :: r.ns.map fig) (by simp) (by
    have wl : r.w.length ≤ 4 := by rcases g.1 with ⟨e, _⟩ | ⟨e, _⟩ <;> rw [e] <;> simp
    have : ∀ ns : List Nat, ((ns.map fig).map List.length).sum ≤ 3 * ns.length := by
      intro ns
      induction ns with
      | nil => simp
      | cons n ns ih =>
        have := (fig_len n).2
        simp only [List.map_cons, List.sum_cons, List.length_cons] at ih ⊢
        omega
    have := this r.ns
    simp only [List.map_cons, List.sum_cons, List.length_cons, List.length_map, List.length_nil]
    omega)
  have hu : gc st (.ok (.str (lineR r)) (st ++ [.lst ((r.w :: r.ns.map fig).map D.str)])) = .ok (.str (lineR r)) st := gc_flat (by simp)
  rw [show joinL [32] (r.w :: r.ns.map fig) = lineR r from rfl] at jn
  unfold F_p_line_of_row gcF fnM b_p_line_of_row
  rw [show startM 1 [encR r] = [some (encR r)] from rfl]
  generalize compE [none] _ _ _ _ = CE at *
  generalize (st ++ [.lst ((r.w :: r.ns.map fig).map D.str)] : Stor) = Z at *
  generalize encR r = ER at *
  generalize lineR r = LR at *
  simp [isTy, cm, jn]
  exact hu
def numF : D → List Nat
  | .int i => fig i.toNat
  | _ => []
def rowL : D → D
  | .tup (.str w :: ds) => .str (joinL [32] (w :: ds.map numF))
  | _ => .non
theorem rowL_R (r : Rr) : rowL (encR r) = .str (lineR r) := by
  unfold encR lineR rowL
  dsimp only
  rw [List.map_map]
  congr 3
theorem show_ok (rs : List Rr) (hr : ∀ r ∈ rs, goodR r) (hl : rs.length ≤ 20) (n : Nat) (st : Stor) (h : st[n]? = some (.lst (rs.map encR))) : F_p_counter_show [.loc n] st = .ok (.str (textR rs)) st := by
  have cm := compE_map (capt := [none]) (mi := seqI (vr 0)) (g := nameG 0) (e := callF F_p_line_of_row [] (consA (vr 0) nilA))
    (env := [some (.loc n)]) (st := st) (st1 := st) (items := rs.map encR) (gs := [(n, .lst (rs.map encR))])
    rowL (fun e => ∃ a, e = [a])
    (by simp [h]) ⟨none, by simp [captE]⟩ (by rw [List.length_map]; omega) (fun ys => by simp [get_app h]) (by
      rintro d hd env' ys ⟨a, rfl⟩
      obtain ⟨r, hr1, rfl⟩ := List.mem_map.mp hd
      refine ⟨[some (encR r)], ⟨_, rfl⟩, by simp, ?_⟩
      have := line_of_row_ok r (hr r hr1) (st ++ [.lst ys])
      rw [rowL_R]
      generalize st ++ [MO.lst ys] = Z at *
      generalize encR r = ER at *
      simp [this])
  have e : (rs.map encR).map rowL = (rs.map lineR).map D.str := by
    rw [List.map_map, List.map_map]
    exact List.map_congr_left fun r _ => rowL_R r
  rw [e] at cm
  have jn := r_join (st ++ [.lst ((rs.map lineR).map D.str)]) [10] st.length (rs.map lineR) (by simp) (by
    have : ∀ rs : List Rr, (∀ r ∈ rs, goodR r) → ((rs.map lineR).map List.length).sum ≤ 16 * rs.length := by
      intro rs
      induction rs with
      | nil => simp
      | cons r rs ih =>
        intro h
        have h1 := line_len (h r (by simp))
        have h2 := ih fun q hq => h q (by simp [hq])
        simp only [List.map_cons, List.sum_cons, List.length_cons] at h2 ⊢
        omega
    have := this rs hr
    simp only [List.length_map, List.length_cons, List.length_nil]
    omega)
  have hu : gc st (.ok (.str (textR rs)) (st ++ [.lst ((rs.map lineR).map D.str)])) = .ok (.str (textR rs)) st := gc_flat (by simp)
  rw [show joinL [10] (rs.map lineR) = textR rs from rfl] at jn
  unfold F_p_counter_show gcF fnM b_p_counter_show
  rw [show startM 1 [D.loc n] = [some (.loc n)] from rfl]
  generalize compE [none] _ _ _ _ = CE at *
  generalize (st ++ [.lst ((rs.map lineR).map D.str)] : Stor) = Z at *
  generalize textR rs = T at *
  simp [isTy, cm, jn]
  exact hu
theorem eqDs_self : ∀ (rs : List Rr), eqDs (rs.map encR) (rs.map encR) = true
  | [] => by simp [eqDs]
  | r :: rs => by
    have ih := eqDs_self rs
    have e1 : ∀ ns : List Nat, eqDs (ns.map fun n => D.int (n : Nat)) (ns.map fun n => D.int (n : Nat)) = true := by
      intro ns
      induction ns with
      | nil => simp [eqDs]
      | cons n ns ih => simp [eqDs, eqD, ih]
    simp [eqDs, eqD, encR, e1, ih]
end Law
set_option maxHeartbeats 0
namespace Law
open L2 M
theorem flats_nats (ns : List Nat) : flats (ns.map fun n => D.int (n : Nat)) = true := by
  induction ns with
  | nil => simp
  | cons n ns ih => simp [ih, flat]
theorem flats_R (rs : List Rr) : flats (rs.map encR) = true := by
  induction rs with
  | nil => simp
  | cons r rs ih => simp [ih, encR, flat, flats_nats]
theorem deps_nats (ns : List Nat) : deps (ns.map fun n => D.int (n : Nat)) = 0 := by
  induction ns with
  | nil => simp [deps]
  | cons n ns ih => simp [deps, dep, ih]
theorem deps_R (rs : List Rr) : deps (rs.map encR) ≤ 1 := by
  induction rs with
  | nil => simp [deps]
  | cons r rs ih =>
    simp only [List.map_cons, deps, encR, dep, deps_nats]
    omega
theorem eqR_R (rs : List Rr) (m n : Nat) (st : Stor) (h1 : itemsAt st m = some (rs.map encR)) (h2 : itemsAt st n = some (rs.map encR)) : eqR 200 (.loc m) (.loc n) st = some true := by
  simp only [eqR, h1, h2]
  have hc := cdeps_le (rs.map encR) (rs.map encR)
  have hd := deps_R rs
  rw [if_pos ⟨flats_R rs, flats_R rs, by omega⟩, eqDs_self]
noncomputable abbrev wholeE : ME := compE [none] (seqI (slE (vr 2) (inP (ct (.int 1))) noP)) (nameG 0) yesT (andV (op1 (isV "int") (vr 0)) (notV (op1 (isV "bool") (vr 0))))
theorem whole_ok (r : Rr) (hl : r.ns.length ≤ 3) (st : Stor) (a0 a1 : Option D) : wholeE [a0, a1, some (encR r)] st = .ok (.loc st.length) (st ++ [.lst (r.ns.map fun _ => D.bl true)]) := by
  have sl := encR_sl r st
  have cm := compE_map (capt := [none]) (mi := seqI (slE (vr 2) (inP (ct (.int 1))) noP)) (g := nameG 0) (e := andV (op1 (isV "int") (vr 0)) (notV (op1 (isV "bool") (vr 0))))
    (env := [a0, a1, some (encR r)]) (st := st) (st1 := st) (items := intsD r.ns) (gs := []) (fun _ => .bl true) (fun e => ∃ a, e = [a])
    (by
      generalize encR r = ER at *
      simp [inP, noP, sl]) ⟨none, by simp [captE]⟩ (by simp [intsD]; omega) (fun ys => by simp) (by
      rintro d hd env' ys ⟨a, rfl⟩
      obtain ⟨n, hn1, rfl⟩ := List.mem_map.mp hd
      refine ⟨[some (.int (n : Nat))], ⟨_, rfl⟩, by simp, ?_⟩
      generalize st ++ [MO.lst ys] = Z at *
      generalize ((n : Nat) : Int) = nn at *
      simp [subTy])
  have e : ((intsD r.ns).map fun _ => D.bl true) = r.ns.map fun _ => D.bl true := by simp [intsD]
  rw [e] at cm
  rw [wholeE, cm]
theorem right_ok (rs : List Rr) (hr : ∀ r ∈ rs, goodR r) (m n : Nat) (st : Stor) (h1 : st[m]? = some (.lst (rs.map encR))) (h2 : itemsAt st n = some (rs.map encR)) : F_l_right [.loc m, .loc n] st = .ok (.bl true) st := by
  have i1 : itemsAt st m = some (rs.map encR) := by simp [itemsAt, h1]
  have er := eqR_R rs m n st i1 h2
  have ne : M.neV 200 (.loc m) (.loc n) st = .ok (.bl false) st := by unfold M.neV; rw [er]; rfl
  have il : isV "list" (.loc m) st = .ok (.bl true) st := by simp [isV, tyD, h1, subTy]
  unfold F_l_right gcF fnM b_l_right
  generalize hB : (seqS (ifS (orT (notT (tru (op1 (isV "tuple") (vr 2)))) _) _ _) _ : MS) = B
  obtain ⟨env', st', e1, g, a2, rfl, rfl⟩ := forGo_ix (g := nameG 2) (b := B) (gs := [(m, .lst (rs.map encR))]) (items := rs.map encR)
    (fun i env s => ∃ (g : Stor) (a2 : Option D), env = [some (.loc m), some (.loc n), a2] ∧ s = st ++ g)
    (env := [some (.loc m), some (.loc n), none]) (st := st) ⟨[], none, rfl, by simp⟩ (by
      rintro i d env s hi ⟨g, a2, rfl, rfl⟩
      rw [List.getElem?_map] at hi
      obtain ⟨r, hr1, rfl⟩ := Option.map_eq_some_iff.mp hi
      have gr := hr r (List.mem_of_getElem? hr1)
      have nl : r.ns.length ≤ 3 := by rcases gr.1 with ⟨_, e⟩ | ⟨_, e⟩ <;> omega
      have wo := whole_ok r nl (st ++ g) (some (.loc m)) (some (.loc n))
      have al := all_true r.ns (st ++ g).length (st ++ g ++ [.lst (r.ns.map fun _ => D.bl true)]) (by simp)
      have it : isV "tuple" (encR r) (st ++ g) = .ok (.bl true) (st ++ g) := by simp [isV, tyD, encR, subTy]
      have x0 := encR_ix0 r (st ++ g)
      have is : isV "str" (.str r.w) (st ++ g) = .ok (.bl true) (st ++ g) := by simp [isV, tyD, subTy]
      refine ⟨by simp [get_app h1], [some (.loc m), some (.loc n), some (encR r)], st ++ g, by simp, [some (.loc m), some (.loc n), some (encR r)], st ++ g ++ [.lst (r.ns.map fun _ => D.bl true)], .inl ?_, g ++ [.lst (r.ns.map fun _ => D.bl true)], some (encR r), rfl, by rw [List.append_assoc]⟩
      rw [← hB]
      generalize hWE : wholeE = WE at *
      unfold wholeE at hWE
      rw [hWE]
      generalize (st ++ g ++ [.lst (r.ns.map fun _ => D.bl true)] : Stor) = Z2 at *
      generalize (st ++ g : Stor) = Z1 at *
      generalize encR r = ER at *
      simp [it, x0, is, truV, wo, al]) (fun _ _ ⟨_, _, _, e⟩ => by rw [e]; simp [get_app h1])
  have hu : gc st (.ok (.bl true) (st ++ g)) = .ok (.bl true) st := gc_flat (by simp)
  rw [show startM 3 [D.loc m, .loc n] = [some (.loc m), some (.loc n), none] from rfl]
  generalize (st ++ g : Stor) = Z at *
  generalize rs.map encR = X at *
  simp [il, truV, ne, h1, e1]
  exact hu
theorem law_true (ns : List Int) (hn : ns.length ≤ 63) : ∃ st, F_p_law [.loc 0] [.frz (ns.map D.int)] = .ok (.bl true) st := by
  let S0 : Stor := [.frz (ns.map D.int)]
  let ro : Int → Rr := fun c => Classical.choose (row_ok c)
  have hro : ∀ c, goodR (ro c) ∧ ∀ st, F_l_row [.int c] st = .ok (encR (ro c)) st := fun c => Classical.choose_spec (row_ok c)
  let cs : List Int := cut ns none (some 20)
  have hcs : cs.length ≤ 20 := by
    have e : cs = cut ns none (some ((20 : Nat) : Int)) := rfl
    by_cases h : 20 ≤ ns.length
    · rw [e, cut_take ns 20 h, List.length_take]; omega
    · have := cut_len ns none (some (20 : Int))
      have e2 : cs.length ≤ ns.length := this
      omega
  let rs : List Rr := cs.map ro
  have hrs : ∀ r ∈ rs, goodR r := fun r hr => by
    obtain ⟨c, _, rfl⟩ := List.mem_map.mp hr
    exact (hro c).1
  have hrl : rs.length ≤ 20 := by simp only [rs, List.length_map]; exact hcs
  let S1 : Stor := [.frz (ns.map D.int), .lst (cs.map D.int)]
  let S2 : Stor := [.frz (ns.map D.int), .lst (cs.map D.int), .lst (rs.map encR)]
  have sl : slV (.loc 0) none (some 20) S0 = .ok (.loc 1) S1 := by
    have : itemsAt S0 0 = some (ns.map D.int) := by simp [S0]
    simp only [slV, this, cut_map]
    rfl
  have hg1 : S1[1]? = some (.lst (cs.map D.int)) := rfl
  have cm := compE_map (capt := [none]) (mi := seqI (slE (vr 0) noP (inP (ct (.int 20))))) (g := nameG 0) (e := callF F_l_row [] (consA (vr 0) nilA))
    (env := [some (.loc 0), none, none, none, none]) (st := S0) (st1 := S1) (items := cs.map D.int) (gs := [(1, .lst (cs.map D.int))]) (fun d => match d with | .int c => encR (ro c) | _ => .non) (fun e => ∃ a, e = [a])
    (by
      generalize S1 = Z1 at *
      generalize S0 = Z0 at *
      simp [inP, noP, sl, hg1]) ⟨none, by simp [captE]⟩ (by rw [List.length_map]; omega) (fun ys => by simp [S1]) (by
      rintro d hd env' ys ⟨a, rfl⟩
      obtain ⟨c, hc, rfl⟩ := List.mem_map.mp hd
      refine ⟨[some (.int c)], ⟨_, rfl⟩, by simp, ?_⟩
      have := (hro c).2 (S1 ++ [.lst ys])
      dsimp only
      generalize S1 ++ [MO.lst ys] = Z at *
      generalize encR (ro c) = ER at *
      simp [this])
  have em : ((cs.map D.int).map fun d => match d with | .int c => encR (ro c) | _ => .non) = rs.map encR := by
    simp only [rs, List.map_map]
    rfl
  rw [em] at cm
  have cm : compE [none] (seqI (slE (vr 0) noP (inP (ct (.int 20))))) (nameG 0) yesT (callF F_l_row [] (consA (vr 0) nilA)) [some (.loc 0), none, none, none, none] S0 = .ok (.loc 2) S2 := cm
  clear_value rs
  have tx := ltext_ok rs hrs hrl 2 S2 rfl
  let S3 : Stor := [.frz (ns.map D.int), .lst (cs.map D.int), .lst (rs.map encR), .lst (rs.map encR)]
  have rd : F_p_counter_read [.str (textR rs)] S2 = .ok (.loc 3) S3 := read_ok rs hrs hrl S2
  have r3 := right_ok rs hrs 3 2 S3 rfl (by simp [S3, itemsAt])
  have sh := show_ok rs hrs hrl 3 S3 rfl
  let S4 : Stor := [.frz (ns.map D.int), .lst (cs.map D.int), .lst (rs.map encR), .lst (rs.map encR ++ [.tup [.str [117, 112], .int 0, .int 0]])]
  have ap : appendV (.loc 3) [.tup [.str [117, 112], .int 0, .int 0]] S3 = .ok .non S4 := by
    have : (rs.map encR).length < 1000000 := by rw [List.length_map]; omega
    simp only [S3, S4]
    generalize rs.map encR = X at *
    simp [appendV, this]
  have ty : isTy "list" (.loc 3) S3 = true := by simp [S3, isTy]
  let S5 : Stor := [.frz (ns.map D.int), .lst (cs.map D.int), .lst (rs.map encR), .lst (rs.map encR ++ [.tup [.str [117, 112], .int 0, .int 0]]), .lst (rs.map encR)]
  have rd4 : F_p_counter_read [.str (textR rs)] S4 = .ok (.loc 4) S5 := read_ok rs hrs hrl S4
  have r5 := right_ok rs hrs 4 2 S5 rfl (by simp [S5, itemsAt])
  let S6 : Stor := S5 ++ [.lst []]
  have rd5 : F_p_counter_read [.str []] S5 = .ok (.loc 5) S6 := read_ok [] (by simp) (by simp) S5
  let S7 : Stor := S6 ++ [.lst []]
  have l6 : ∀ env, lstE nilA env S6 = .ok (.loc 6) S7 := fun env => by simp [S7, S6, S5]
  have eq7 : M.eqV 200 (.loc 5) (.loc 6) S7 = .ok (.bl true) S7 := by
    have e : eqR 200 (.loc 5) (.loc 6) S7 = some true := by
      have a1 : itemsAt S7 5 = some [] := by simp [S7, S6, S5, itemsAt]
      have a2 : itemsAt S7 6 = some [] := by simp [S7, S6, S5, itemsAt]
      simp only [eqR, a1, a2]
      rw [if_pos (by simp)]; simp [eqDs]
    unfold M.eqV; rw [e]
  let S8 : Stor := S7 ++ [.lst []]
  have l7 : ∀ env, lstE nilA env S7 = .ok (.loc 7) S8 := fun env => by simp [S8, S7, S6, S5]
  have sh8 : F_p_counter_show [.loc 7] S8 = .ok (.str []) S8 := show_ok [] (by simp) (by simp) 7 S8 (by simp [S8, S7, S6, S5])
  have hu : gc S0 (.ok (.bl true) S8) = .ok (.bl true) S0 := by
    have e : S8 = S0 ++ [.lst (cs.map D.int), .lst (rs.map encR), .lst (rs.map encR ++ [.tup [.str [117, 112], .int 0, .int 0]]), .lst (rs.map encR), .lst [], .lst [], .lst []] := rfl
    rw [e]; exact gc_flat (by simp)
  show ∃ st, F_p_law [.loc 0] S0 = .ok (.bl true) st
  refine ⟨S0, ?_⟩
  unfold F_p_law gcF fnM b_p_law
  rw [show startM 5 [D.loc 0] = [some (.loc 0), none, none, none, none] from rfl]
  generalize hCE : compE [none] _ _ _ _ = CE at *
  generalize hNL : lstE nilA = NL at *
  generalize S8 = Z8 at *
  generalize S7 = Z7 at *
  generalize S6 = Z6 at *
  generalize S5 = Z5 at *
  generalize S4 = Z4 at *
  generalize S3 = Z3 at *
  generalize S2 = Z2 at *
  generalize hZ : S0 = Z0 at *
  generalize textR rs = T at *
  simp [hZ, cm, tx, rd, r3, truV, sh, subTy, ty, ap, rd4, r5, rd5, l6, eq7, l7, sh8, hu]
end Law
open PySem PySem.W PyProof.Rows
set_option maxRecDepth 100000 in
set_option maxHeartbeats 0 in
theorem PySem.Challenge.cw_oneofall_k14_programs_written_holds : PySem.Challenge.rw_oneofall_k14_programs_written.Holds := by
  w_on; o_law; k_head; (case hw => w_witness2)
  k_fill
  refine M.holds_of (F := Law.F_p_law) (k := 4) (x := "_law_script") rfl rfl ⟨rfl, by decide, by decide⟩ (fun w h Y => PySem.W.kIn_of Y) ?F Law.law_true
  case F =>
    intro w mg fa h KX G hmg
    refine' Law.all_mk KX G hmg ?a0 ?l0 ?c0 ?k0 ?a1 ?l1 ?c1 ?k1 ?a2 ?l2 ?c2 ?k2 ?a3 ?l3 ?c3 ?k3 ?a4 ?l4 ?c4 ?k4 ?a5 ?l5 ?c5 ?k5 ?a6 ?l6 ?c6 ?k6 ?a7 ?l7 ?c7 ?k7 ?a8 ?l8 ?c8 ?k8 ?a9 ?l9 ?c9 ?k9 ?a10 ?l10 ?c10 ?k10 ?a11 ?l11 ?c11 ?k11 ?a12 ?l12 ?c12 ?k12 ?v_WORDS_IN_LINE ?vl_WORDS_IN_LINE ?low_WORDS_IN_LINE ?dq_WORDS_IN_LINE_0 ?dq_WORDS_IN_LINE_1 ?v_FIGURES ?v_MOST_FIGURES ?z_all ?z_bool ?z_enumerate ?z_int ?z_isinstance ?z_len ?z_list ?z_str ?z_tuple
    (case a0 => k_is)
    (case l0 => k_is)
    (case c0 => k_is)
    (case k0 => k_is)
    (case a1 => k_is)
    (case l1 => k_is)
    (case c1 => k_is)
    (case k1 => k_is)
    (case a2 => k_is)
    (case l2 => k_is)
    (case c2 => k_is)
    (case k2 => k_is)
    (case a3 => k_is)
    (case l3 => k_is)
    (case c3 => k_is)
    (case k3 => k_is)
    (case a4 => k_is)
    (case l4 => k_is)
    (case c4 => k_is)
    (case k4 => k_is)
    (case a5 => k_is)
    (case l5 => k_is)
    (case c5 => k_is)
    (case k5 => k_is)
    (case a6 => k_is)
    (case l6 => k_is)
    (case c6 => k_is)
    (case k6 => k_is)
    (case a7 => k_is)
    (case l7 => k_is)
    (case c7 => k_is)
    (case k7 => k_is)
    (case a8 => k_is)
    (case l8 => k_is)
    (case c8 => k_is)
    (case k8 => k_is)
    (case a9 => k_is)
    (case l9 => k_is)
    (case c9 => k_is)
    (case k9 => k_is)
    (case a10 => k_is)
    (case l10 => k_is)
    (case c10 => k_is)
    (case k10 => k_is)
    (case a11 => k_is)
    (case l11 => k_is)
    (case c11 => k_is)
    (case k11 => k_is)
    (case a12 => k_is)
    (case l12 => k_is)
    (case c12 => k_is)
    (case k12 => k_is)
    (case v_WORDS_IN_LINE => k_is)
    (case vl_WORDS_IN_LINE => k_is)
    (case low_WORDS_IN_LINE => kernel_rfl)
    (case dq_WORDS_IN_LINE_0 => rfl)
    (case dq_WORDS_IN_LINE_1 => rfl)
    (case v_FIGURES => k_is)
    (case v_MOST_FIGURES => k_is)
    (case z_all => k_is)
    (case z_bool => k_is)
    (case z_enumerate => k_is)
    (case z_int => k_is)
    (case z_isinstance => k_is)
    (case z_len => k_is)
    (case z_list => k_is)
    (case z_str => k_is)
    (case z_tuple => k_is)
