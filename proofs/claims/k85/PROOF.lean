import PyProof.Rows.All
import Wide.All
import OpenK.AllK
import Wide.FinOn
import Lean
import PyProof.EqAt
import PyProof.EqKinds
import PyProof.TupleCall
import PyProof.DictWalks
import PySem.Challenge.RW_oneofall_k85_whole_plays_itself_playing
set_option Elab.async false
set_option linter.all false
set_option maxRecDepth 100000
-- CHANGE: your row's module here, as the last of these rows
/-! THE HAND LAYER, for ints, bools, texts, own classes, LISTS and tuples (index, slices, in, append, pop ..), calls, loops. Paste it whole ahead of your own text; what your proof does not reach may be deleted. -/
namespace L2
open PySem PySem.Spec PyProof.Rows
/-- a key: an int or a str -/
abbrev Key := Sum Int Str
def keyIs : Key → Value → Bool
  | .inl k, v => Value.isInt k v
  | .inr x, v => Value.isStrOf x v
def keyH (w : World) : Key → Int
  | .inl k => hashInt k
  | .inr x => hashStr w x
theorem keyIs_shape : ∀ {k : Key} {v : Value}, keyIs k v = true → (∃ i t, k = Sum.inl i ∧ v = Value.int i t) ∨ (∃ x t, k = Sum.inr x ∧ v = Value.str x t)
  | .inl i, v, h => by
    obtain ⟨t, e⟩ := Value.isInt_shape (k := i) (v := v) h
    exact .inl ⟨i, t, rfl, e⟩
  | .inr x, v, h => by
    obtain ⟨t, e⟩ := Value.isStrOf_shape (x := x) (v := v) h
    exact .inr ⟨x, t, rfl, e⟩
theorem keyIs_int (i : Int) (t : Tok) : keyIs (.inl i) (.int i t) = true := by simp [keyIs, Value.isInt]
theorem keyIs_str (x : Str) (t : Tok) : keyIs (.inr x) (.str x t) = true := by simp [keyIs, Value.isStrOf]
theorem key_ll (a b : Int) : decide ((Sum.inl a : Key) = Sum.inl b) = (a == b) := by
  by_cases e : a = b
  · subst e; simp
  · have h : ¬ (Sum.inl a : Key) = Sum.inl b := fun q => e (Sum.inl.inj q)
    rw [decide_eq_false h]
    exact (beq_eq_false_iff_ne.mpr e).symm
theorem key_rr (a b : Str) : decide ((Sum.inr a : Key) = Sum.inr b) = decide (a = b) := by
  by_cases e : a = b
  · subst e; simp
  · have h : ¬ (Sum.inr a : Key) = Sum.inr b := fun q => e (Sum.inr.inj q)
    rw [decide_eq_false h, decide_eq_false e]
theorem key_lr (a : Int) (b : Str) : decide ((Sum.inl a : Key) = Sum.inr b) = false := decide_eq_false (fun q => nomatch q)
theorem key_rl (a : Str) (b : Int) : decide ((Sum.inr a : Key) = Sum.inl b) = false := decide_eq_false (fun q => nomatch q)
def mixKind (prog : Program) (w : World) : PySem.KeyKind prog w Key where
  is := keyIs
  hash := keyH w
  inj := fun v a b ha hb => by
    rcases keyIs_shape ha with ⟨i, t, rfl, rfl⟩ | ⟨x, t, rfl, rfl⟩
    · rcases keyIs_shape hb with ⟨j, u, rfl, e⟩ | ⟨y, u, rfl, e⟩
      · injection e with e1 _; rw [e1]
      · exact nomatch e
    · rcases keyIs_shape hb with ⟨j, u, rfl, e⟩ | ⟨y, u, rfl, e⟩
      · exact nomatch e
      · injection e with e1 _; rw [e1]
  byValue := fun k v h => by
    rcases keyIs_shape h with ⟨i, t, rfl, rfl⟩ | ⟨x, t, rfl, rfl⟩ <;> rfl
  pyHash := fun hv h => by
    rcases keyIs_shape hv with ⟨i, t, rfl, rfl⟩ | ⟨x, t, rfl, rfl⟩
    · exact wpAny_pyHash_int h
    · exact wpAny_pyHash_str h
  eqBool := fun hu hv h => by
    rcases keyIs_shape hu with ⟨i, t, rfl, rfl⟩ | ⟨x, t, rfl, rfl⟩
    · rcases keyIs_shape hv with ⟨j, u, rfl, rfl⟩ | ⟨y, u, rfl, rfl⟩
      · rw [key_ll] at h; exact wpAny_eqBool_int h
      · rw [key_lr] at h; exact SeqAt.EqAt.int_str i t y u _ _ _ _ h
    · rcases keyIs_shape hv with ⟨j, u, rfl, rfl⟩ | ⟨y, u, rfl, rfl⟩
      · rw [key_rl] at h; exact SeqAt.EqAt.str_int x t j u _ _ _ _ h
      · rw [key_rr] at h; exact wpAny_eqBool_str h
  «strs» := fun k x t v h => by
    rcases keyIs_shape h with ⟨i, u, rfl, e⟩ | ⟨y, u, rfl, e⟩
    · exact nomatch e
    · injection e with e1 _
      subst e1
      cases v <;> rfl
theorem mixKind_is (prog : Program) (w : World) (k : Key) (v : Value) : (mixKind prog w).is k v = keyIs k v := rfl
theorem mixKind_int (prog : Program) (w : World) (i : Int) (t : Tok) : (mixKind prog w).is (.inl i) (.int i t) = true := keyIs_int i t
theorem mixKind_str (prog : Program) (w : World) (x : Str) (t : Tok) : (mixKind prog w).is (.inr x) (.str x t) = true := keyIs_str x t
end L2
namespace L2
open PySem PySem.Spec PyProof.Rows
/-- a value, without the heap -/
inductive V where
  | non | bl (b : Bool) | int (i : Int) | str (x : Str) | byt (b : Array UInt8) | flt (b : UInt64) | ref (a : Addr) | ty (n : String)
  deriving DecidableEq
def RelV : V → Value → Prop
  | .non, u => u = Value.none
  | .bl b, u => u = Value.bool b
  | .int i, u => ∃ t, u = Value.int i t
  | .str x, u => ∃ t, u = Value.str x t
  | .byt b, u => ∃ t, u = Value.bytes b t
  | .flt b, u => ∃ t, u = Value.float b t
  | .ref a, u => u = Value.ref a
  | .ty n, u => u = Value.type n
abbrev Vals : List V → List Value → Prop := Paired RelV
theorem Vals.length {xs : List V} {us : List Value} (r : Vals xs us) : xs.length = us.length := Paired.length r
theorem Vals.get : ∀ {xs : List V} {us : List Value} {i : Nat} {x : V}, Vals xs us → xs[i]? = some x → ∃ u, us[i]? = some u ∧ RelV x u
  | _, _, _, _, .nil, e => by simp at e
  | _, _, 0, _, .cons r _, e => by simp at e; subst e; exact ⟨_, rfl, r⟩
  | _, _, i + 1, x, .cons _ t, e => by
    obtain ⟨u, h1, h2⟩ := Vals.get (i := i) (x := x) t (by simpa using e)
    exact ⟨u, by simpa using h1, h2⟩
theorem Vals.append : ∀ {xs ys : List V} {us ws : List Value}, Vals xs us → Vals ys ws → Vals (xs ++ ys) (us ++ ws)
  | _, _, _, _, .nil, s => s
  | _, _, _, _, .cons r t, s => .cons r (Vals.append t s)
theorem Vals.take : ∀ {xs : List V} {us : List Value} (n : Nat), Vals xs us → Vals (xs.take n) (us.take n)
  | _, _, 0, _ => .nil
  | _, _, _ + 1, .nil => .nil
  | _, _, n + 1, .cons r t => .cons r (Vals.take n t)
theorem Vals.drop : ∀ {xs : List V} {us : List Value} (n : Nat), Vals xs us → Vals (xs.drop n) (us.drop n)
  | _, _, 0, r => r
  | _, _, _ + 1, .nil => .nil
  | _, _, n + 1, .cons _ t => Vals.drop n t
def RelO : Option V → Option Value → Prop
  | some v, some u => RelV v u
  | none, none => True
  | _, _ => False
def KV {κ : Type} : List (κ × V) → List (κ × Value) → Prop := Paired fun (p : κ × V) (q : κ × Value) => p.1 = q.1 ∧ RelV p.2 q.2
/-- a key of a dict (00_mix): an int or a text -/
def kV : Key → V
  | .inl i => .int i
  | .inr x => .str x
/-- what stands at a tracked address -/
inductive HO where
  /-- a list -/
  | lst (xs : List V)
  /-- a tuple (never changes) -/
  | tup (xs : List V)
  /-- a dict whose keys are ints and texts; one whose keys are tuples of ints and texts (the empty one is both) -/
  | dK (kvs : List (Key × V)) | dT (kvs : List (List Key × V))
  /-- a set of ints: its members, its size -/
  | set (S : Int → Bool) (n : Nat)
  /-- an instance of the class at C, its dict at dx, its attributes -/
  | ins (C dx : Addr) (fs : List (Str × V))
  /-- the dict of the instance at x -/
  | own (x : Addr)
  /-- the dict of an exception -/
  | xd (fs : List (Str × V))
  /-- a bound method, f of x -/
  | met (f x : Addr)
  /-- a range object lo, lo + 1, .. below hi -/
  | rng (lo hi : Int)
  /-- a thing that is known to the object (the script; a dict while a loop walks it): read, never written while it is so -/
  | frz (o : Obj) (u : HO)
  /-- a code object's table -/
  | tbl (ps : Array Value)
  /-- any other thing, by what is true of its one object (a def of one's own: SetO a S n := HO.ext fun h => ..) -/
  | ext (φ : Heap → Prop)
abbrev Hp := Addr → Option HO
def upd (H : Hp) (a : Addr) (o : HO) : Hp := fun b => if b = a then some o else H b
theorem upd_same {H : Hp} {a : Addr} {o : HO} : upd H a o a = some o := by unfold upd; rw [if_pos rfl]
theorem upd_ne {H : Hp} {a b : Addr} {o : HO} (h : b ≠ a) : upd H a o b = H b := by unfold upd; rw [if_neg h]
/-- two objects of different content stand apart -/
theorem ne_of {H : Hp} {a b : Addr} {o u : HO} (h : H a = some o) (h' : H b = some u) (d : o ≠ u) : a ≠ b := by
  intro e; subst e; rw [h] at h'; exact d (Option.some.inj h')
theorem ne_of_none {H : Hp} {a b : Addr} {o : HO} (h : H a = some o) (h' : H b = none) : a ≠ b := by
  intro e; subst e; rw [h] at h'; cases h'
section
variable (P : Program) (w : World)
def ObjOk (H : Hp) (h : Heap) (a : Addr) : HO → Prop
  | .lst xs => xs.length ≤ sizeLine ∧ ∃ (its : List Value) (n : Nat), Vals xs its ∧ h.get? a = some { cls := .type "list", data := .seq its.toArray n }
  | .tup xs => xs.length ≤ sizeLine ∧ ∃ its : List Value, Vals xs its ∧ IsTup h a its.toArray
  | .dK kvs => kvs.length ≤ sizeLine ∧ (a == sysModules) = false ∧ ∃ vs, KV kvs vs ∧ h.DictOf (mixKind P w) a vs
  | .dT kvs => kvs.length ≤ sizeLine ∧ (a == sysModules) = false ∧ ∃ xs : List (List Key × Addr × Value),
      Paired (fun (p : List Key × V) (q : List Key × Addr × Value) => p.1 = q.1 ∧ H q.2.1 = some (.tup (p.1.map kV)) ∧ RelV p.2 q.2.2) kvs xs ∧
      ∃ o es ep, h.get? a = some o ∧ o.ExactDict ∧ o.data = .dict es ep ∧ es.toList = xs.map (entryOfKey (tupleKind (mixKind P w))) ∧ (xs.map (·.1)).Nodup
  | .set S n => h.SetOf (intKind P w) a S n
  | .ins C dx fs => H dx = some (.own a) ∧ fs.length ≤ 1000 ∧ dx ≠ a ∧ h.get? a = some (PySem.W.instObj C dx) ∧
      ∃ mA, h.Ns1 dx mA ∧ (∀ f, RelO (fs.lookup f) (mA f)) ∧ PySem.Within mA (fs.map (·.1))
  | .own _ => ∃ o, h.get? a = some o
  | .xd fs => ∃ mA, h.Ns1 a mA ∧ ∀ f, RelO (fs.lookup f) (mA f)
  | .rng lo hi => ∃ t u v, h.get? a = some { cls := .type "range", data := .fields #[.int lo t, .int hi u, .int 1 v] }
  | .frz o u => h.get? a = some o ∧ ObjOk H h a u
  | .tbl ps => h.get? a = some { cls := .none, data := .fields ps }
  | .met f x => h.get? a = some (PySem.W.methodObj (.ref f) (.ref x))
  | .ext φ => φ h ∧ (∃ o, h.get? a = some o) ∧ ∀ h1 h2 : Heap, φ h1 → (∀ o, h1.get? a = some o → h2.get? a = some o) → φ h2
/-- the abstract heap is held -/
def HOk (H : Hp) (h : Heap) : Prop := ∀ a o, H a = some o → ObjOk P w H h a o
end
section
variable {P : Program} {w : World} {H H' : Hp} {h h' : Heap} {a : Addr} {o : HO}
theorem ObjOk.lt (x : ObjOk P w H h a o) : a < h.objs.size := by
  cases o with
  | lst xs => obtain ⟨_, _, _, _, e⟩ := x; exact Heap.lt_size e
  | tup xs => obtain ⟨_, _, _, p⟩ := x; exact p.lt
  | dK kvs => obtain ⟨_, _, _, _, o, _, _, e, _⟩ := x; exact Heap.lt_size e
  | dT kvs => obtain ⟨_, _, _, _, o, _, _, e, _⟩ := x; exact Heap.lt_size e
  | set S n => obtain ⟨o, _, _, _, e, _⟩ := x; exact Heap.lt_size e
  | ins C dx fs => obtain ⟨_, _, _, e, _⟩ := x; exact Heap.lt_size e
  | own y => obtain ⟨_, e⟩ := x; exact Heap.lt_size e
  | xd fs => obtain ⟨_, ⟨_, _, _, e, _⟩, _⟩ := x; exact Heap.lt_size e
  | rng lo hi => obtain ⟨_, _, _, e⟩ := x; exact Heap.lt_size e
  | frz ob u => obtain ⟨e, _⟩ := x; exact Heap.lt_size e
  | tbl ps => exact Heap.lt_size (show h.get? a = some _ from x)
  | met f y => exact Heap.lt_size (show h.get? a = some _ from x)
  | ext φ => obtain ⟨_, ⟨_, e⟩, _⟩ := x; exact Heap.lt_size e
theorem Paired.mapP {α β : Type} {F G : α → β → Prop} : ∀ {l₁ : List α} {l₂ : List β}, Paired F l₁ l₂ → (∀ a b, F a b → G a b) → Paired G l₁ l₂
  | _, _, .nil, _ => .nil
  | _, _, .cons r t, f => .cons (f _ _ r) (Paired.mapP t f)
/-- what an object's description leans on: its own object, its own dict, the tuples -/
theorem ObjOk.stay (x : ObjOk P w H h a o) (k : ∀ b u, (b = a ∨ H b = some (.own a)) → h.get? b = some u → h'.get? b = some u)
    (ho : ∀ b, H b = some (.own a) → H' b = some (.own a)) (ht : ∀ b xs, H b = some (.tup xs) → H' b = some (.tup xs)) : ObjOk P w H' h' a o := by
  induction o with
  | lst xs => obtain ⟨z, its, n, r, e⟩ := x; exact ⟨z, its, n, r, k _ _ (.inl rfl) e⟩
  | tup xs => obtain ⟨z, its, r, ob, e, c⟩ := x; exact ⟨z, its, r, ob, k _ _ (.inl rfl) e, c⟩
  | dK kvs => obtain ⟨z, y, vs, r, ob, es, ep, e, c⟩ := x; exact ⟨z, y, vs, r, ob, es, ep, k _ _ (.inl rfl) e, c⟩
  | dT kvs =>
    obtain ⟨z, y, xs, r, ob, es, ep, e, c⟩ := x
    exact ⟨z, y, xs, Paired.mapP r fun p q z => ⟨z.1, ht _ _ z.2.1, z.2.2⟩, ob, es, ep, k _ _ (.inl rfl) e, c⟩
  | set S n => obtain ⟨ob, es, ep, t, e, c⟩ := x; exact ⟨ob, es, ep, t, k _ _ (.inl rfl) e, c⟩
  | ins C dx fs =>
    obtain ⟨d, z, ne, e, mA, ⟨od, es, ep, e2, c⟩, r⟩ := x
    exact ⟨ho _ d, z, ne, k _ _ (.inl rfl) e, mA, ⟨od, es, ep, k _ _ (.inr d) e2, c⟩, r⟩
  | own y => obtain ⟨ob, e⟩ := x; exact ⟨ob, k _ _ (.inl rfl) e⟩
  | xd fs => obtain ⟨mA, ⟨od, es, ep, e, c⟩, r⟩ := x; exact ⟨mA, ⟨od, es, ep, k _ _ (.inl rfl) e, c⟩, r⟩
  | rng lo hi => obtain ⟨t, u, v, e⟩ := x; exact ⟨t, u, v, k _ _ (.inl rfl) e⟩
  | frz ob u ih => obtain ⟨e, q⟩ := x; exact ⟨k _ _ (.inl rfl) e, ih q⟩
  | tbl ps =>
    have e : h.get? a = some { cls := .none, data := .fields ps } := x
    show h'.get? a = some { cls := .none, data := .fields ps }
    exact k a _ (.inl rfl) e
  | met f y =>
    have e : h.get? a = some (PySem.W.methodObj (.ref f) (.ref y)) := x
    show h'.get? a = some (PySem.W.methodObj (.ref f) (.ref y))
    exact k a _ (.inl rfl) e
  | ext φ => obtain ⟨p, ⟨o, e⟩, st⟩ := x; exact ⟨st _ _ p fun o q => k _ _ (.inl rfl) q, ⟨o, k _ _ (.inl rfl) e⟩, st⟩
theorem HOk.lt (x : HOk P w H h) (e : H a = some o) : a < h.objs.size := (x a o e).lt
theorem HOk.fresh (x : HOk P w H h) (e : h.objs.size ≤ a) : H a = none := by
  cases q : H a with
  | none => rfl
  | some u => exact absurd (Nat.lt_of_lt_of_le (x.lt q) e) (Nat.lt_irrefl _)
/-- every object of the heap is kept -/
theorem HOk.kept (x : HOk P w H h) (k : ∀ b u, h.get? b = some u → h'.get? b = some u) : HOk P w H h' := fun a o e =>
  (x a o e).stay (fun b u _ q => k b u q) (fun _ q => q) fun _ _ q => q
/-- a new object is laid and tracked -/
theorem HOk.laid (x : HOk P w H h) (k : ∀ b u, h.get? b = some u → h'.get? b = some u) (hp : h.objs.size ≤ a) (new : ObjOk P w (upd H a o) h' a o) : HOk P w (upd H a o) h' := fun b u e => by
  have hn := x.fresh hp
  by_cases hb : b = a
  · subst hb; rw [upd_same] at e; cases e; exact new
  · rw [upd_ne hb] at e
    exact (x b u e).stay (fun c v _ q => k c v q) (fun c q => by rw [upd_ne (ne_of_none q hn)]; exact q) fun c xs q => by rw [upd_ne (ne_of_none q hn)]; exact q
end
/-- what may be read as u: it is u, or a known u -/
def Rd (H : Hp) (a : Addr) (u : HO) : Prop := H a = some u ∨ ∃ o, H a = some (.frz o u)
theorem Rd.ok {P : Program} {w : World} {H : Hp} {h : Heap} {a : Addr} {u : HO} (r : Rd H a u) (x : HOk P w H h) : ObjOk P w H h a u := by
  rcases r with r | ⟨o, r⟩
  · exact x a u r
  · obtain ⟨_, q⟩ := x a _ r
    exact q
/-- what may be written -/
def Mut : Option HO → Prop
  | some (.lst _) => True
  | some (.dK _) => True
  | some (.dT _) => True
  | some (.set _ _) => True
  | some (.ins _ _ _) => True
  | some (.ext _) => True
  | _ => False
section
variable {P : Program} {w : World} {H : Hp} {h h' : Heap} {x e : Addr} {o' : HO}
/-- the object at e is changed: x itself, or the dict of the instance x -/
theorem HOk.write (ok : HOk P w H h) (mu : Mut (H x)) (he : e = x ∨ H e = some (.own x)) (k : ∀ b u, b ≠ e → h.get? b = some u → h'.get? b = some u) (heo : ∃ u, h'.get? e = some u)
    (new : ObjOk P w (upd H x o') h' x o') : HOk P w (upd H x o') h' := fun b u q => by
  have nown : ∀ c y, H c = some (.own y) → c ≠ x := fun c y r z => by subst z; rw [r] at mu; exact mu
  have ntup : ∀ c xs, H c = some (.tup xs) → c ≠ x := fun c xs r z => by subst z; rw [r] at mu; exact mu
  by_cases hb : b = x
  · subst hb; rw [upd_same] at q; cases q; exact new
  · rw [upd_ne hb] at q
    by_cases hbe : b = e
    · have q' : H b = some (.own x) := by
        rcases he with z | z
        · exact absurd (hbe.trans z) hb
        · rw [hbe]; exact z
      rw [q] at q'; cases q'
      obtain ⟨v, hv⟩ := heo
      exact ⟨v, by rw [hbe]; exact hv⟩
    · refine (ok b u q).stay (fun c v hc r => k c v ?_ r) (fun c r => by rw [upd_ne (nown c b r)]; exact r) fun c xs r => by rw [upd_ne (ntup c xs r)]; exact r
      rcases hc with rfl | hc
      · exact hbe
      · rintro rfl
        rcases he with z | z
        · exact nown c b hc z
        · rw [hc] at z; cases z; exact hb rfl
end
/-! ### kept unless tracked; of the frames at fs (the callers') the slots may change (an exception that passes writes there); of the records at ex (iterators) nothing is said -/
structure Un (fs ex : List Addr) (H H' : Hp) (h h' : Heap) : Prop where
  keep : ∀ b o, h.get? b = some o → H b = none → b ∉ fs → b ∉ ex → h'.get? b = some o
  slot : ∀ b o, h.get? b = some o → H b = none → b ∈ fs → b ∉ ex → ∃ sl, h'.get? b = some { o with slots := sl }
  free : ∀ b o, h.get? b = some o → H b = none → b ∉ ex → H' b = none
  there : ∀ b o, h.get? b = some o → b ∉ ex → ∃ o', h'.get? b = some o'
  tups : ∀ b xs, H b = some (.tup xs) → H' b = some (.tup xs)
  frzs : ∀ b o u, H b = some (.frz o u) → H' b = some (.frz o u)
  tbls : ∀ b ps, H b = some (.tbl ps) → ∃ more, H' b = some (.tbl (ps ++ more))
section
variable {fs fs' ex ex' : List Addr} {H H1 H2 : Hp} {h h1 h2 h' : Heap} {a x e : Addr} {o : HO}
theorem Un.any (u : Un fs ex H H1 h h1) {b : Addr} {ob : Obj} (q : h.get? b = some ob) (n : H b = none) (hx : b ∉ ex) : ∃ sl, h1.get? b = some { ob with slots := sl } := by
  by_cases hb : b ∈ fs
  · exact u.slot b ob q n hb hx
  · exact ⟨ob.slots, u.keep b ob q n hb hx⟩
theorem Un.kept (k : ∀ b u, h.get? b = some u → h'.get? b = some u) : Un fs ex H H h h' :=
  ⟨fun b ob q _ _ _ => k b ob q, fun b ob q _ _ _ => ⟨ob.slots, k b ob q⟩, fun _ _ _ n _ => n, fun b ob q _ => ⟨ob, k b ob q⟩, fun _ _ q => q, fun _ _ _ q => q, fun _ ps q => ⟨#[], by rw [q]; simp⟩⟩
theorem Un.refl : Un fs ex H H h h := Un.kept fun _ _ q => q
theorem Un.laid (k : ∀ b u, h.get? b = some u → h'.get? b = some u) (hp : h.objs.size ≤ a) (hn : H a = none) : Un fs ex H (upd H a o) h h' where
  keep := fun b u q _ _ _ => k b u q
  slot := fun b u q _ _ _ => ⟨u.slots, k b u q⟩
  free := fun b u q n _ => by rw [upd_ne (Nat.ne_of_lt (Nat.lt_of_lt_of_le (Heap.lt_size q) hp))]; exact n
  there := fun b u q _ => ⟨u, k b u q⟩
  tups := fun b xs q => by rw [upd_ne (ne_of_none q hn)]; exact q
  frzs := fun b u xs q => by rw [upd_ne (ne_of_none q hn)]; exact q
  tbls := fun b ps q => ⟨#[], by rw [upd_ne (ne_of_none q hn), q]; simp⟩
theorem Un.write (mu : Mut (H x)) (he : e = x ∨ H e = some (.own x)) (k : ∀ b u, b ≠ e → h.get? b = some u → h'.get? b = some u) (heo : ∃ u, h'.get? e = some u) : Un fs ex H (upd H x o) h h' := by
  have hx : ∀ b, H b = none → b ≠ x := fun b n z => by subst z; rw [n] at mu; exact mu
  have hb : ∀ b, H b = none → b ≠ e := fun b n z => by
    subst z
    rcases he with r | r
    · exact hx b n r
    · rw [n] at r; cases r
  have hm : ∀ b u, H b = some u → ¬ Mut (some u) → b ≠ x := fun b u q nm z => by subst z; rw [q] at mu; exact nm mu
  refine ⟨fun b u q n _ _ => k b u (hb b n) q, fun b u q n _ _ => ⟨u.slots, k b u (hb b n) q⟩, fun b u q n _ => by rw [upd_ne (hx b n)]; exact n, fun b u q _ => ?_,
    fun b xs q => by rw [upd_ne (hm b _ q fun z => z)]; exact q, fun b u xs q => by rw [upd_ne (hm b _ q fun z => z)]; exact q, fun b ps q => ⟨#[], by rw [upd_ne (hm b _ q fun z => z), q]; simp⟩⟩
  by_cases hbe : b = e
  · subst hbe; exact heo
  · exact ⟨u, k b u hbe q⟩
end
/-! ### the heap without what is tracked -/
def trk (h : Heap) (H : Hp) : List Addr := (List.range h.objs.size).filter fun a => (H a).isSome
def hidT (h : Heap) (H : Hp) : Heap := PySem.W.hideAll h (trk h H)
theorem hidT_size (h : Heap) (H : Hp) : (hidT h H).objs.size = h.objs.size := PySem.W.hideAll_size _ _
theorem hidT_get {h : Heap} {H : Hp} {b : Addr} {o : Obj} (e : h.get? b = some o) (n : H b = none) : (hidT h H).get? b = some o :=
  PySem.W.hideAll_get _ e fun hm => by
    have q : (H b).isSome = true := (List.mem_filter.mp hm).2
    rw [n] at q; simp at q
theorem of_hidT {h : Heap} {H : Hp} {b : Addr} {o : Obj} (e : (hidT h H).get? b = some o) : h.get? b = some o ∧ H b = none := by
  have e' : h.get? b = some o := PySem.W.of_hideAll (trk h H) e
  refine ⟨e', ?_⟩
  cases q : H b with
  | none => rfl
  | some x =>
    have hm : b ∈ trk h H := List.mem_filter.mpr ⟨List.mem_range.mpr (Heap.lt_size e'), by simp [q]⟩
    have z : (hidT h H).get? b = none := PySem.W.hideAll_none (trk h H) hm
    rw [z] at e; cases e
/-! ### OpenK's ledger, filled with every new object but one -/
def allNews (g h : Heap) (L : Addr) : List (Addr × Obj) := (List.range h.objs.size).filterMap fun a => if a = L ∨ (g.get? a).isSome = true then none else (h.get? a).map fun o => (a, o)
def rest (g h : Heap) (L d : Addr) : List (Addr × Obj) := (allNews g h L).filter fun p => decide (p.1 ≠ d)
end L2
namespace L2
open PySem PySem.Spec PyProof.Rows
/-- the module's facts, over the base: the heap at the law's entry without what is tracked there -/
structure Mod (K : PySem.W.Frag) (mg : Str → Option Value) (base : Heap) : Prop where
  kin : K.In base
  glob : base.Ns mainGlobals mg
  blt : ∃ mb, base.Ns builtinsNs mb ∧ ∀ x : Str, x ≠ "__name__" → mb x = bootBuiltins x
  nolimit : base.NoLimit
/-- the context: a def's body (or a comprehension's block) running. base: fixed through the whole law; s₀, H₀: the entry; outer: the frames whose slots others may change (a def's callers); stack: all frames that run;
   ex: iterators that were made ahead of the entry and are walked here (a comprehension's); fn: the names whose cells were made at the entry (a def: all; a comprehension's block: its own); calm: not within an except suite; pn: pins that every state bears; xe: what is wanted of an exception that leaves the code -/
structure Cx where
  prog : Program
  w : World
  K : PySem.W.Frag
  mg : Str → Option Value
  base : Heap
  A : Around
  N : List Str
  s₀ : Shared
  H₀ : Hp
  env : Env
  outer : List Env
  stack : List Env
  ex : List Addr
  fn : Str → Bool
  calm : Bool
  pn : List (Addr × Obj)
  xe : Value → Shared → Prop
/-- the callers' frames -/
def frs (l : List Env) : List Addr := l.filterMap (·.frame)
abbrev Cx.fs (X : Cx) : List Addr := frs X.outer
def Vis (sc : Scope) (x : Str) : Prop := sc.names.lookup x = some .local ∨ sc.names.lookup x = some .cell ∨ sc.names.lookup x = some .free
def Loc (sc : Scope) (x : Str) : Prop := sc.names.lookup x = some .local ∨ sc.names.lookup x = some .cell
def Look (env : Env) (h : Heap) (m : Str → Option Value) (x : Str) (u : Value) : Prop :=
  (env.kindOf x = some .local ∧ m x = some u) ∨ ((env.kindOf x = some .cell ∨ env.kindOf x = some .free) ∧ ∃ c, env.cells.lookup x = some c ∧ h.IsCell c (some u))
structure Cx.Ok (X : Cx) : Prop where
  mod : Mod X.K X.mg X.base
  kind : X.env.scope.kind = .function
  glob : X.env.globals = mainGlobals
  blt : X.env.builtins = builtinsNs
  above : X.s₀.heap.objs.size ≤ X.env.locals
  inj : ∀ x y c, X.env.cells.lookup x = some c → X.env.cells.lookup y = some c → x = y
  has : ∀ x, (X.env.kindOf x = some .cell ∨ X.env.kindOf x = some .free) → ∃ c, X.env.cells.lookup x = some c
  cab : ∀ x c, X.fn x = true → X.env.cells.lookup x = some c → X.s₀.heap.objs.size ≤ c
  hd : X.calm = true → X.A.handled = none
  frames : X.A.frames = some X.stack
  stk : X.stack = X.outer ∨ (X.stack = X.env :: X.outer ∧ X.env.frame = some X.env.locals)
  exf : ∀ b ∈ X.ex, b ≠ X.env.locals ∧ ∀ x c, X.env.cells.lookup x = some c → c ≠ b
  bs : ∀ b o, X.base.get? b = some o → X.s₀.heap.get? b = some o ∧ X.H₀ b = none
  bsz : X.base.objs.size ≤ X.s₀.heap.objs.size
  noex : ∀ b o, X.base.get? b = some o → b ∉ X.ex
  exfs : ∀ b ∈ X.ex, b ∉ X.fs
  funs : X.s₀.heap.FunFrames X.base X.outer
  frf : ∀ b ∈ X.fs, X.H₀ b = none
structure Inv (X : Cx) (pins : List (Addr × Obj)) (σ : List (Option V)) (H : Hp) (s : Shared) : Prop where
  ok : X.Ok
  os : s.os = X.s₀.os
  bare : AllBare s.gens
  base : Un X.fs X.ex X.H₀ H X.s₀.heap s.heap
  loc : ∃ m, s.heap.Ns X.env.locals m ∧ ∀ (i : Nat) (x : Str) (v : V), X.N[i]? = some x → σ[i]? = some (some v) → Vis X.env.scope x → ∃ u, RelV v u ∧ Look X.env s.heap m x u
  cell : ∀ x c, X.env.cells.lookup x = some c → ∃ v, s.heap.IsCell c v
  free : H X.env.locals = none
  freeC : ∀ x c, X.env.cells.lookup x = some c → H c = none
  pin : ∀ p ∈ X.pn ++ pins, s.heap.get? p.1 = some p.2 ∧ H p.1 = none ∧ p.1 ≠ X.env.locals ∧ p.1 ∉ X.fs ∧ ∀ v, p.2.data ≠ .cell v
  hok : HOk X.prog X.w H s.heap
  len : σ.length = X.N.length
section
variable {X : Cx} {pins : List (Addr × Obj)} {σ : List (Option V)} {H H' : Hp} {s : Shared} {h' : Heap}
theorem Cx.Ok.nofr (ok : X.Ok) {b : Addr} {o : Obj} (e : X.base.get? b = some o) : b ∉ X.fs := fun hb => by
  have := (ok.funs.mem hb).1
  rw [e] at this; cases this
theorem Inv.bs (I : Inv X pins σ H s) : ∀ b o, X.base.get? b = some o → s.heap.get? b = some o ∧ H b = none := fun b o e =>
  ⟨I.base.keep b o (I.ok.bs b o e).1 (I.ok.bs b o e).2 (I.ok.nofr e) (I.ok.noex b o e), I.base.free b o (I.ok.bs b o e).1 (I.ok.bs b o e).2 (I.ok.noex b o e)⟩
theorem Inv.bk (I : Inv X pins σ H s) : ∀ b o, X.base.get? b = some o → s.heap.get? b = some o := fun b o e => (I.bs b o e).1
theorem Inv.mod (I : Inv X pins σ H s) : Mod X.K X.mg X.base := I.ok.mod
theorem Inv.kIn (I : Inv X pins σ H s) : X.K.In s.heap := I.ok.mod.kin.keeps I.bk
theorem Inv.lt (I : Inv X pins σ H s) : X.env.locals < s.heap.objs.size := let ⟨_, hn, _⟩ := I.loc; hn.lt
theorem Inv.sz (I : Inv X pins σ H s) : X.s₀.heap.objs.size ≤ s.heap.objs.size := Nat.le_trans I.ok.above (Nat.le_of_lt I.lt)
theorem Inv.nofs (I : Inv X pins σ H s) {a : Addr} (h : s.heap.objs.size ≤ a) : a ∉ X.fs := fun hb => by
  obtain ⟨_, o, ho, _⟩ := I.ok.funs.mem hb
  exact absurd (Nat.lt_of_lt_of_le (Heap.lt_size ho) (Nat.le_trans I.sz h)) (Nat.lt_irrefl _)
theorem Inv.cne (I : Inv X pins σ H s) : ∀ x c, X.env.cells.lookup x = some c → c ≠ X.env.locals := fun x c e z => by
  obtain ⟨v, o, ho, hd⟩ := I.cell x c e
  obtain ⟨m, ⟨o', es, ep, ho', hd', _⟩, _⟩ := I.loc
  rw [z, ho'] at ho; cases ho; rw [hd'] at hd; cases hd
theorem Inv.funs (I : Inv X pins σ H s) : s.heap.FunFrames X.base X.outer := by
  have all : ∀ (l : List Env), (∀ b ∈ frs l, b ∈ X.fs) → X.s₀.heap.FunFrames X.base l → s.heap.FunFrames X.base l := by
    intro l
    induction l with
    | nil => intro _ _; trivial
    | cons env r ih =>
      intro hs hl
      obtain ⟨hk, ⟨L, o, hf, hn, ho, hd⟩, hr⟩ := hl
      have hL : L ∈ X.fs := hs L (by unfold frs; rw [List.filterMap_cons, hf]; exact List.mem_cons_self)
      obtain ⟨sl, e⟩ := I.base.slot L o ho (I.ok.frf L hL) hL fun z => I.ok.exfs L z hL
      exact ⟨hk, ⟨L, _, hf, hn, e, hd⟩, ih (fun b hb => hs b (by unfold frs; rw [List.filterMap_cons, hf]; exact List.mem_cons_of_mem _ hb)) hr⟩
  exact all X.outer (fun _ hb => hb) I.ok.funs
/-- the frames that run, for a call -/
theorem Inv.stack (I : Inv X pins σ H s) : s.heap.FunFrames X.base X.stack := by
  rcases I.ok.stk with e | ⟨e, hf⟩
  · rw [e]; exact I.funs
  · rw [e]
    obtain ⟨m, hn, _⟩ := I.loc
    refine .cons (by rw [I.ok.kind]; decide) hf hn ?_ I.funs
    exact Heap.get?_none_of_le (Nat.le_trans I.ok.bsz I.ok.above)
theorem Inv.stkSub (I : Inv X pins σ H s) : ∀ b ∈ frs X.stack, b ∈ X.env.locals :: X.fs := fun b hb => by
  rcases I.ok.stk with e | ⟨e, hf⟩
  · rw [e] at hb; exact List.mem_cons_of_mem _ hb
  · rw [e] at hb
    unfold frs at hb
    rw [List.filterMap_cons, hf] at hb
    exact hb
theorem Inv.stkFree (I : Inv X pins σ H s) : ∀ b ∈ frs X.stack, H b = none := fun b hb => by
  rcases List.mem_cons.mp (I.stkSub b hb) with e | hb
  · rw [e]; exact I.free
  · obtain ⟨_, o, ho, _⟩ := I.ok.funs.mem hb
    exact I.base.free b o ho (I.ok.frf b hb) fun z => I.ok.exfs b z hb
/-- THE STEP: the untracked objects but the frame and the records at ch are kept (the callers' frames up to slots), the frame's map is kept, the new abstract heap is held -/
theorem Inv.step {g' : Array GenState} {t' : Nat} {d' : Drawn} {ch : List Addr} (I : Inv X pins σ H s)
    (hch : ∀ b ∈ ch, (b ∈ X.ex ∨ X.s₀.heap.objs.size ≤ b) ∧ b ≠ X.env.locals ∧ (∀ x c, X.env.cells.lookup x = some c → c ≠ b) ∧ ∀ p ∈ X.pn ++ pins, p.1 ≠ b)
    (keep : ∀ b o, b ≠ X.env.locals → b ∉ X.fs → b ∉ ch → s.heap.get? b = some o → H b = none → h'.get? b = some o)
    (slot : ∀ b o, b ≠ X.env.locals → b ∈ X.fs → b ∉ ch → s.heap.get? b = some o → H b = none → ∃ sl, h'.get? b = some { o with slots := sl }) (free : ∀ b o, b ∉ ch → s.heap.get? b = some o → H b = none → H' b = none)
    (there : ∀ b o, b ∉ ch → s.heap.get? b = some o → ∃ o', h'.get? b = some o')
    (tups : ∀ b xs, H b = some (.tup xs) → H' b = some (.tup xs)) (frzs : ∀ b o u, H b = some (.frz o u) → H' b = some (.frz o u)) (tbls : ∀ b ps, H b = some (.tbl ps) → ∃ more, H' b = some (.tbl (ps ++ more)))
    (ns : ∀ m, s.heap.Ns X.env.locals m → h'.Ns X.env.locals m) (hok : HOk X.prog X.w H' h') (hg : AllBare g') :
    Inv X pins σ H' { s with heap := h', gens := g', drawn := d', toks := t' } := by
  have neL : ∀ b o, X.s₀.heap.get? b = some o → b ≠ X.env.locals := fun b o e => Nat.ne_of_lt (Nat.lt_of_lt_of_le (Heap.lt_size e) I.ok.above)
  have neC : ∀ b o, X.s₀.heap.get? b = some o → b ∉ X.ex → b ∉ ch := fun b o e hx hb => by
    rcases (hch b hb).1 with z | z
    · exact hx z
    · exact absurd (Nat.lt_of_lt_of_le (Heap.lt_size e) z) (Nat.lt_irrefl _)
  have cellK : ∀ x c, X.env.cells.lookup x = some c → ∀ v, s.heap.IsCell c v → h'.IsCell c v := fun x c e v ⟨o, ho, hd⟩ => by
    have nch : c ∉ ch := fun z => (hch c z).2.2.1 x c e rfl
    by_cases hc : c ∈ X.fs
    · obtain ⟨sl, q⟩ := slot c o (I.cne x c e) hc nch ho (I.freeC x c e)
      exact ⟨_, q, hd⟩
    · exact ⟨o, keep c o (I.cne x c e) hc nch ho (I.freeC x c e), hd⟩
  refine ⟨I.ok, I.os, hg, ⟨fun b o e n hb hx => ?_, fun b o e n hb hx => ?_, fun b o e n hx => ?_, fun b o e hx => ?_, fun b xs e => tups b xs (I.base.tups b xs e), fun b o xs e => frzs b o xs (I.base.frzs b o xs e), fun b ps e => ?_⟩, ?_, fun x c e => ?_, ?_, fun x c e => ?_, fun p hp => ?_, hok, I.len⟩
  · exact keep b o (neL b o e) hb (neC b o e hx) (I.base.keep b o e n hb hx) (I.base.free b o e n hx)
  · obtain ⟨sl, e1⟩ := I.base.slot b o e n hb hx
    obtain ⟨sl', e2⟩ := slot b _ (neL b o e) hb (neC b o e hx) e1 (I.base.free b o e n hx)
    exact ⟨sl', e2⟩
  · obtain ⟨o', e1⟩ := I.base.there b o e hx
    exact free b o' (neC b o e hx) e1 (I.base.free b o e n hx)
  · obtain ⟨o', e1⟩ := I.base.there b o e hx
    exact there b o' (neC b o e hx) e1
  · obtain ⟨m1, e1⟩ := I.base.tbls b ps e
    obtain ⟨m2, e2⟩ := tbls b _ e1
    exact ⟨m1 ++ m2, by rw [e2, Array.append_assoc]⟩
  · obtain ⟨m, hn, hl⟩ := I.loc
    refine ⟨m, ns m hn, fun i x v e1 e2 e3 => ?_⟩
    obtain ⟨u, r, l⟩ := hl i x v e1 e2 e3
    refine ⟨u, r, ?_⟩
    rcases l with l | ⟨k, c, e, z⟩
    · exact .inl l
    · exact .inr ⟨k, c, e, cellK x c e _ z⟩
  · obtain ⟨v, z⟩ := I.cell x c e
    exact ⟨v, cellK x c e v z⟩
  · obtain ⟨m, ⟨o, _, _, ho, _⟩, _⟩ := I.loc
    exact free _ o (fun z => (hch _ z).2.1 rfl) ho I.free
  · obtain ⟨v, o, ho, hd⟩ := I.cell x c e
    exact free c o (fun z => (hch c z).2.2.1 x c e rfl) ho (I.freeC x c e)
  · obtain ⟨e, n, ne, nf, d⟩ := I.pin p hp
    have nch : p.1 ∉ ch := fun z => (hch p.1 z).2.2.2 p hp rfl
    exact ⟨keep p.1 p.2 ne nf nch e n, free p.1 p.2 nch e n, ne, nf, d⟩
/-- .. where the frame's own object is kept too -/
theorem Inv.un {t' : Nat} (I : Inv X pins σ H s) (u : Un X.fs [] H H' s.heap h') (hok : HOk X.prog X.w H' h') : Inv X pins σ H' { s with heap := h', toks := t' } := by
  obtain ⟨m, ⟨o, es, ep, ho, r⟩, _⟩ := id I.loc
  obtain ⟨sl, hL⟩ := u.any ho I.free (by simp)
  exact I.step (g' := s.gens) (d' := s.drawn) (ch := []) (fun _ z => nomatch z) (fun b o _ hb _ e n => u.keep b o e n hb (by simp)) (fun b o _ hb _ e n => u.slot b o e n hb (by simp)) (fun b o _ e n => u.free b o e n (by simp)) (fun b o _ e => u.there b o e (by simp)) u.tups u.frzs u.tbls (fun m' hm => by
    obtain ⟨o', es', ep', ho', r'⟩ := hm
    rw [ho] at ho'; cases ho'
    exact ⟨_, es', ep', hL, r'⟩) hok I.bare
/-- behind a call (or a comprehension's block): the slots of this frame may have changed too, the records at ch may have turned -/
theorem Inv.call {g' : Array GenState} {t' : Nat} {d' : Drawn} {ch : List Addr} (I : Inv X pins σ H s) (u : Un (frs X.stack) ch H H' s.heap h') (hok : HOk X.prog X.w H' h') (hg : AllBare g')
    (hch : ∀ b ∈ ch, (b ∈ X.ex ∨ X.s₀.heap.objs.size ≤ b) ∧ b ≠ X.env.locals ∧ (∀ x c, X.env.cells.lookup x = some c → c ≠ b) ∧ ∀ p ∈ X.pn ++ pins, p.1 ≠ b) :
    Inv X pins σ H' { s with heap := h', gens := g', drawn := d', toks := t' } := by
  obtain ⟨m, ⟨o, es, ep, ho, r⟩, _⟩ := id I.loc
  obtain ⟨sl, hL⟩ := u.any ho I.free fun z => (hch _ z).2.1 rfl
  exact I.step (ch := ch) hch (fun b o hL hb hc e n => u.keep b o e n (fun z => (List.mem_cons.mp (I.stkSub b z)).elim hL hb) hc) (fun b o _ _ hc e n => u.any e n hc) (fun b o hc e n => u.free b o e n hc) (fun b o hc e => u.there b o e hc) u.tups u.frzs u.tbls (fun m' hm => by
    obtain ⟨o', es', ep', ho', r'⟩ := hm
    rw [ho] at ho'; cases ho'
    exact ⟨_, es', ep', hL, r'⟩) hok hg
/-- an untracked record of ours (an iterator) has turned -/
theorem Inv.turned {t' : Nat} {it : Addr} (I : Inv X pins σ H s) (k : ∀ b o, b ≠ it → s.heap.get? b = some o → h'.get? b = some o) (hn : H it = none) (hL : it ≠ X.env.locals)
    (h1 : it ∈ X.ex ∨ X.s₀.heap.objs.size ≤ it) (h2 : ∀ x c, X.env.cells.lookup x = some c → c ≠ it) (h3 : ∀ p ∈ X.pn ++ pins, p.1 ≠ it) : Inv X pins σ H { s with heap := h', toks := t' } := by
  have nit : ∀ b u, H b = some u → b ≠ it := fun b u e z => by rw [z, hn] at e; cases e
  refine I.step (g' := s.gens) (d' := s.drawn) (ch := [it]) (fun b hb => ?_) (fun b o _ _ hc e _ => k b o (fun z => hc (by simp [z])) e) (fun b o _ _ hc e _ => ⟨o.slots, k b o (fun z => hc (by simp [z])) e⟩) (fun _ _ _ _ n => n)
    (fun b o hc e => ⟨o, k b o (fun z => hc (by simp [z])) e⟩) (fun _ _ e => e) (fun _ _ _ e => e) (fun b ps e => ⟨#[], by rw [e]; simp⟩) (fun m hm => ?_) (fun b u e => ?_) I.bare
  · have e : b = it := by simpa using hb
    subst e
    exact ⟨h1, hL, h2, h3⟩
  · obtain ⟨o, es, ep, ho, r⟩ := hm
    exact ⟨o, es, ep, k _ o (Ne.symm hL) ho, r⟩
  · refine (I.hok b u e).stay (fun c v hc q => k c v ?_ q) (fun _ q => q) fun _ _ q => q
    rcases hc with z | z
    · rw [z]; exact nit b u e
    · exact nit c _ z
theorem Inv.tok (I : Inv X pins σ H s) (t : Nat) : Inv X pins σ H { s with toks := t } := I.un (h' := s.heap) (t' := t) Un.refl I.hok
/-- all objects kept -/
theorem Inv.kept {t' : Nat} (I : Inv X pins σ H s) (k : ∀ b u, s.heap.get? b = some u → h'.get? b = some u) : Inv X pins σ H { s with heap := h', toks := t' } := I.un (Un.kept k) (I.hok.kept k)
/-- a new object laid and tracked -/
theorem Inv.laid {a : Addr} {o : HO} {t' : Nat} (I : Inv X pins σ H s) (k : ∀ b u, s.heap.get? b = some u → h'.get? b = some u) (hp : s.heap.objs.size ≤ a) (new : ObjOk X.prog X.w (upd H a o) h' a o) :
    Inv X pins σ (upd H a o) { s with heap := h', toks := t' } := I.un (Un.laid k hp (I.hok.fresh hp)) (I.hok.laid k hp new)
/-- an object written -/
theorem Inv.write {x e : Addr} {o : HO} {t' : Nat} (I : Inv X pins σ H s) (mu : Mut (H x)) (he : e = x ∨ H e = some (.own x)) (k : ∀ b u, b ≠ e → s.heap.get? b = some u → h'.get? b = some u) (heo : ∃ u, h'.get? e = some u)
    (new : ObjOk X.prog X.w (upd H x o) h' x o) : Inv X pins σ (upd H x o) { s with heap := h', toks := t' } := I.un (Un.write mu he k heo) (I.hok.write mu he k heo new)
theorem Inv.pins_of {pins' : List (Addr × Obj)} (I : Inv X pins σ H s) (h : ∀ p ∈ pins', s.heap.get? p.1 = some p.2 ∧ H p.1 = none ∧ p.1 ≠ X.env.locals ∧ p.1 ∉ X.fs ∧ ∀ v, p.2.data ≠ .cell v) : Inv X pins' σ H s :=
  ⟨I.ok, I.os, I.bare, I.base, I.loc, I.cell, I.free, I.freeC, fun p hp => (List.mem_append.mp hp).elim (fun z => I.pin p (List.mem_append_left _ z)) (h p), I.hok, I.len⟩
theorem nodup_ix {N : List Str} (hN : N.Nodup) {i j : Nat} {x : Str} (a : N[i]? = some x) (b : N[j]? = some x) : i = j := by
  obtain ⟨h1, e1⟩ := List.getElem?_eq_some_iff.mp a
  obtain ⟨h2, e2⟩ := List.getElem?_eq_some_iff.mp b
  exact (List.getElem_inj hN).mp (e1.trans e2.symm)
/-- a name is stored; what changed -/
theorem store_ok2 {M : Model} {A : Around} {E : Value → Shared → Prop} {i : Nat} {x : Str} {v : V} {u : Value} {Q : Unit → Shared → Prop} (I : Inv X pins σ H s) (hN : X.N.Nodup) (hi : X.N[i]? = some x) (hx : Loc X.env.scope x) (r : RelV v u)
    (h : ∀ s', Inv X pins (σ.set i (some v)) H s' → (∃ a, Heap.SameBut a s.heap s'.heap ∧ (a = X.env.locals ∨ X.env.cells.lookup x = some a)) → Q () s') (hf : X.fn x = true ∨ X.env.scope.names.lookup x = some .local := by first | exact .inl rfl | exact .inr rfl | assumption) : wpAny M A (storeName X.env x u) Q E s := by
  obtain ⟨m, hn, hl⟩ := id I.loc
  have hcls : (X.env.scope.kind == .class || (X.env.scope.kind == .module && X.env.locals != X.env.globals)) = false := by rw [I.ok.kind]; rfl
  have hiσ : i < σ.length := by rw [I.len]; exact (List.getElem?_eq_some_iff.mp hi).1
  have cne := I.cne
  have tracked : ∀ {a : Addr} {h' : Heap}, (∃ o, s.heap.get? a = some o ∧ H a = none) → Heap.SameBut a s.heap h' → HOk X.prog X.w H h' := fun {a h'} ha hs b ob e => by
    obtain ⟨_, _, hfree⟩ := ha
    refine (I.hok b ob e).stay (fun c w' hc q => (hs.2 c ?_).trans q) (fun _ q => q) fun _ _ q => q
    rintro rfl
    rcases hc with rfl | hc
    · rw [hfree] at e; cases e
    · rw [hfree] at hc; cases hc
  rcases hx with hk | hk
  · refine wpAny_storeName_local hk hn (fun h' hn' hs => ?_) hcls
    obtain ⟨oL, _, _, hoL, _⟩ := id hn
    refine h _ ⟨I.ok, I.os, I.bare, ⟨fun b o e n hb hx => ?_, fun b o e n hb hx => ?_, I.base.free, fun b o e hx => ?_, I.base.tups, I.base.frzs, I.base.tbls⟩, ⟨_, hn', fun j y v' e1 e2 e3 => ?_⟩, fun y c e => ?_, I.free, I.freeC, fun p hp => ?_, tracked ⟨oL, hoL, I.free⟩ hs, by simpa using I.len⟩ ⟨_, hs, .inl rfl⟩
    · exact (hs.2 b (Nat.ne_of_lt (Nat.lt_of_lt_of_le (Heap.lt_size e) I.ok.above))).trans (I.base.keep b o e n hb hx)
    · obtain ⟨sl, e1⟩ := I.base.slot b o e n hb hx
      exact ⟨sl, (hs.2 b (Nat.ne_of_lt (Nat.lt_of_lt_of_le (Heap.lt_size e) I.ok.above))).trans e1⟩
    · obtain ⟨o', e1⟩ := I.base.there b o e hx
      exact ⟨o', (hs.2 b (Nat.ne_of_lt (Nat.lt_of_lt_of_le (Heap.lt_size e) I.ok.above))).trans e1⟩
    · by_cases hj : j = i
      · subst hj
        rw [hi] at e1; cases e1
        rw [List.getElem?_set_self hiσ] at e2
        cases e2
        exact ⟨u, r, .inl ⟨hk, by simp⟩⟩
      · rw [List.getElem?_set_ne (Ne.symm hj)] at e2
        obtain ⟨u', r', q⟩ := hl j y v' e1 e2 e3
        refine ⟨u', r', ?_⟩
        rcases q with ⟨k, e⟩ | ⟨k, c, e, z⟩
        · refine .inl ⟨k, ?_⟩
          have : y ≠ x := fun e => hj (nodup_ix hN e1 (e ▸ hi))
          simp [this, e]
        · exact .inr ⟨k, c, e, z.sameBut hs (cne y c e)⟩
    · obtain ⟨w', z⟩ := I.cell y c e
      exact ⟨w', z.sameBut hs (cne y c e)⟩
    · obtain ⟨e, n, ne, nf, d⟩ := I.pin p hp
      exact ⟨(hs.2 p.1 ne).trans e, n, ne, nf, d⟩
  · have hfn : X.fn x = true := by
      rcases hf with z | z
      · exact z
      · rw [z] at hk; cases hk
    obtain ⟨c, hc⟩ := I.ok.has x (.inl hk)
    obtain ⟨w', z⟩ := I.cell x c hc
    refine wpAny_storeName_cell I.ok.kind hk hc z (fun h' hc' hs => ?_)
    obtain ⟨oc, hoc, hocd⟩ := id z
    refine h { s with heap := h' } ⟨I.ok, I.os, I.bare, ⟨fun b o e n hb hx => ?_, fun b o e n hb hx => ?_, I.base.free, fun b o e hx => ?_, I.base.tups, I.base.frzs, I.base.tbls⟩, ⟨m, hn.sameBut hs (Ne.symm (cne x c hc)), fun j y v' e1 e2 e3 => ?_⟩, fun y c' e => ?_, I.free, I.freeC, fun p hp => ?_, tracked ⟨oc, hoc, I.freeC x c hc⟩ hs, by simpa using I.len⟩ ⟨c, hs, .inr hc⟩
    · exact (hs.2 b (Nat.ne_of_lt (Nat.lt_of_lt_of_le (Heap.lt_size e) (I.ok.cab x c hfn hc)))).trans (I.base.keep b o e n hb hx)
    · obtain ⟨sl, e1⟩ := I.base.slot b o e n hb hx
      exact ⟨sl, (hs.2 b (Nat.ne_of_lt (Nat.lt_of_lt_of_le (Heap.lt_size e) (I.ok.cab x c hfn hc)))).trans e1⟩
    · obtain ⟨o', e1⟩ := I.base.there b o e hx
      exact ⟨o', (hs.2 b (Nat.ne_of_lt (Nat.lt_of_lt_of_le (Heap.lt_size e) (I.ok.cab x c hfn hc)))).trans e1⟩
    · by_cases hj : j = i
      · subst hj
        rw [hi] at e1; cases e1
        rw [List.getElem?_set_self hiσ] at e2
        cases e2
        exact ⟨u, r, .inr ⟨.inl hk, c, hc, hc'⟩⟩
      · rw [List.getElem?_set_ne (Ne.symm hj)] at e2
        obtain ⟨u', r', q⟩ := hl j y v' e1 e2 e3
        refine ⟨u', r', ?_⟩
        rcases q with q | ⟨k, c', e, z'⟩
        · exact .inl q
        · refine .inr ⟨k, c', e, z'.sameBut hs ?_⟩
          rintro rfl
          exact hj (nodup_ix hN e1 (I.ok.inj _ _ _ e hc ▸ hi))
    · by_cases hcc : c' = c
      · subst hcc; exact ⟨_, hc'⟩
      · obtain ⟨w2, z2⟩ := I.cell y c' e
        exact ⟨w2, z2.sameBut hs hcc⟩
    · obtain ⟨e, n, ne, nf, d⟩ := I.pin p hp
      refine ⟨(hs.2 p.1 ?_).trans e, n, ne, nf, d⟩
      intro q
      rw [q, hoc] at e
      have q' : oc = p.2 := Option.some.inj e
      exact d w' (by rw [← q']; exact hocd)
theorem store_ok {M : Model} {A : Around} {E : Value → Shared → Prop} {i : Nat} {x : Str} {v : V} {u : Value} {Q : Unit → Shared → Prop} (I : Inv X pins σ H s) (hN : X.N.Nodup) (hi : X.N[i]? = some x) (hx : Loc X.env.scope x) (r : RelV v u)
    (h : ∀ s', Inv X pins (σ.set i (some v)) H s' → Q () s') (hf : X.fn x = true ∨ X.env.scope.names.lookup x = some .local := by first | exact .inl rfl | exact .inr rfl | assumption) : wpAny M A (storeName X.env x u) Q E s :=
  store_ok2 I hN hi hx r (fun s' I' _ => h s' I') hf
end
/-! ### the judgements -/
/-- an exception: its class, its own dict's address (where it has one), the abstract heap behind it -/
abbrev XK := Value → Option Addr → Hp → Prop
abbrev St := List (Option V)
abbrev VK := V → Hp → Prop
/-- an expression's reading; a test's; an argument list's -/
abbrev TE := St → Hp → VK → Prop
abbrev TT := St → Hp → (Bool → Hp → Prop) → Prop
abbrev TA := St → Hp → (List V → Hp → Prop) → Prop
/-- what is wanted behind a statement -/
structure Ends where
  nx : St → Hp → Prop
  rt : VK
  bk : St → Hp → Prop := fun _ _ => False
  ct : St → Hp → Prop := fun _ _ => False
abbrev TS := Ends → St → Hp → Prop
def EP (X : Cx) (pins : List (Addr × Obj)) (σ : St) (Q : VK) (u : Value) (s' : Shared) : Prop := ∃ v H', Inv X pins σ H' s' ∧ RelV v u ∧ Q v H'
def TP (X : Cx) (pins : List (Addr × Obj)) (σ : St) (Q : Bool → Hp → Prop) (b : Bool) (s' : Shared) : Prop := ∃ H', Inv X pins σ H' s' ∧ Q b H'
def AP (X : Cx) (pins : List (Addr × Obj)) (σ : St) (Q : List V → Hp → Prop) (us : List Value) (s' : Shared) : Prop := ∃ vs H', Inv X pins σ H' s' ∧ Vals vs us ∧ Q vs H'
def SP (X : Cx) (pins : List (Addr × Obj)) (D : Ends) (f : Flow) (s' : Shared) : Prop :=
  match f with
  | .next => ∃ σ' H', Inv X pins σ' H' s' ∧ D.nx σ' H'
  | .brk => ∃ σ' H', Inv X pins σ' H' s' ∧ D.bk σ' H'
  | .cont => ∃ σ' H', Inv X pins σ' H' s' ∧ D.ct σ' H'
  | .ret u => ∃ v σ' H', Inv X pins σ' H' s' ∧ RelV v u ∧ D.rt v H'
def PE (X : Cx) (e : Expr) (t : TE) : Prop :=
  ∀ (pins : List (Addr × Obj)) (s : Shared) (σ : St) (H : Hp) (Q : VK), Inv X pins σ H s → t σ H Q → wpAny (model X.prog X.w) X.A (eval e X.env) (EP X pins σ Q) X.xe s
def PT (X : Cx) (e : Expr) (t : TT) : Prop :=
  ∀ (pins : List (Addr × Obj)) (s : Shared) (σ : St) (H : Hp) (Q : Bool → Hp → Prop), Inv X pins σ H s → t σ H Q → wpAny (model X.prog X.w) X.A (isTrue e X.env (eval e X.env)) (TP X pins σ Q) X.xe s
/-- a test whatever its 'whole' is (and, or) -/
def PW (X : Cx) (e : Expr) (t : TT) : Prop :=
  ∀ (whole : Sem Value) (pins : List (Addr × Obj)) (s : Shared) (σ : St) (H : Hp) (Q : Bool → Hp → Prop), Inv X pins σ H s → t σ H Q → wpAny (model X.prog X.w) X.A (isTrue e X.env whole) (TP X pins σ Q) X.xe s
theorem PW.pt {X : Cx} {e : Expr} {t : TT} (h : PW X e t) : PT X e t := h _
/-- an argument list (no star), from the left -/
def PA (X : Cx) (es : List Expr) (t : TA) : Prop :=
  ∀ (pos : Pos) (pins : List (Addr × Obj)) (s : Shared) (σ : St) (H : Hp) (Q : List V → Hp → Prop), Inv X pins σ H s → t σ H Q → wpAny (model X.prog X.w) X.A (spliced (backTo pos (starEach es X.env))) (AP X pins σ Q) X.xe s
def PS (X : Cx) (st : Stmt) (t : TS) : Prop :=
  ∀ (pins : List (Addr × Obj)) (s : Shared) (σ : St) (H : Hp) (D : Ends), Inv X pins σ H s → t D σ H → wpAny (model X.prog X.w) X.A (exec st X.env) (SP X pins D) X.xe s
def PSs (X : Cx) (st : List Stmt) (t : TS) : Prop :=
  ∀ (pins : List (Addr × Obj)) (s : Shared) (σ : St) (H : Hp) (D : Ends), Inv X pins σ H s → t D σ H → wpAny (model X.prog X.w) X.A (execs st X.env) (SP X pins D) X.xe s
/-- weaken the end -/
theorem thn {α : Type} {t : Sem α} {Q Q' : α → Shared → Prop} {M : Model} {A : Around} {E : Value → Shared → Prop} {s : Shared} (h : wpAny M A t Q E s) (hQ : ∀ a s, Q a s → Q' a s) : wpAny M A t Q' E s := wpAny_mono h hQ fun _ _ x => x
end L2
namespace L2
open PySem PySem.Spec PyProof.Rows
section
variable {X : Cx}
/-! ### names and constants -/
def tVar (i : Nat) : TE := fun σ H Q => ∃ v, σ[i]? = some (some v) ∧ Q v H
def tC (v : V) : TE := fun _ H Q => Q v H
theorem pe_var {i : Nat} {x : Str} {pos : Pos} (hN : X.N[i]? = some x) (hv : Vis X.env.scope x) (hd : (x == ("__debug__" : Str)) = false := by decide) (hcd : (x == ("__classdict__" : Str)) = false := by decide) : PE X (.Name x pos) (tVar i) := by
  intro pins s σ H Q I h
  obtain ⟨v, e, h⟩ := h
  obtain ⟨m, hn, hl⟩ := I.loc
  obtain ⟨u, r, l⟩ := hl i x v hN e hv
  have fin : EP X pins σ Q u s := ⟨v, H, I, r, h⟩
  rcases l with ⟨hk, hm⟩ | ⟨hk, c, hc, hcell⟩
  · exact wpAny_Name (wpAny_loadName_local I.ok.kind hk hn hm fin) hd
  · rcases hk with hk | hk
    · exact wpAny_Name (wpAny_loadName_cell I.ok.kind hk hc hcell fin) hd
    · exact wpAny_Name (wpAny_loadName_free I.ok.kind hk hc hcell fin hcd) hd
theorem pe_int {i j pos} : PE X (.Constant (.int i) j pos) (tC (.int i)) := fun _ _ _ H _ I h => wpAny_Constant_int ⟨.int i, H, I.tok _, ⟨_, rfl⟩, h⟩
theorem pe_bl {b j pos} : PE X (.Constant (.bool b) j pos) (tC (.bl b)) := fun _ _ _ H _ I h => Constant_bool ⟨.bl b, H, I, rfl, h⟩
theorem pe_non {j pos} : PE X (.Constant .none j pos) (tC .non) := fun _ _ _ H _ I h => Constant_none ⟨.non, H, I, rfl, h⟩
theorem pe_str {x j pos} : PE X (.Constant (.str x) j pos) (tC (.str x)) := fun _ _ _ H _ I h => Calls.Constant_str ⟨.str x, H, I.tok _, ⟨_, rfl⟩, h⟩
/-- a global name of the def -/
def Gl (X : Cx) (x : Str) : Prop := X.env.kindOf x = some .globalImplicit
theorem ld_glob {E : Value → Shared → Prop} {pins : List (Addr × Obj)} {s : Shared} {σ : St} {H : Hp} {x : Str} {u : Value} {pos : Pos} {Q : Value → Shared → Prop} (I : Inv X pins σ H s) (hg : Gl X x) (hm : X.mg x = some u) (h : Q u s)
    (hd : (x == ("__debug__" : Str)) = false := by decide) : wpAny (model X.prog X.w) X.A (eval (.Name x pos) X.env) Q E s :=
  Calls.Name_function_global I.ok.kind hg (Calls.loadGlobal_global (by rw [I.ok.glob]; exact I.mod.glob.keeps I.bk) hm h) hd
theorem ld_blt {E : Value → Shared → Prop} {pins : List (Addr × Obj)} {s : Shared} {σ : St} {H : Hp} {x : Str} {u : Value} {pos : Pos} {Q : Value → Shared → Prop} (I : Inv X pins σ H s) (hg : Gl X x) (hm : X.mg x = none) (hv : bootBuiltins x = some u) (h : Q u s)
    (hn : x ≠ "__name__" := by decide) (hd : (x == ("__debug__" : Str)) = false := by decide) : wpAny (model X.prog X.w) X.A (eval (.Name x pos) X.env) Q E s := by
  obtain ⟨mb, h1, h2⟩ := I.mod.blt
  exact Calls.Name_function_global I.ok.kind hg (Calls.loadGlobal_builtin (by rw [I.ok.glob]; exact I.mod.glob.keeps I.bk) hm (by rw [I.ok.blt]; exact h1.keeps I.bk) ((h2 x hn).trans hv) h) hd
/-- a module's constant, a class, a function, as a value -/
theorem pe_glob {x : Str} {v : V} {u : Value} {pos : Pos} (hg : Gl X x) (hm : X.mg x = some u) (r : RelV v u) (hd : (x == ("__debug__" : Str)) = false := by decide) : PE X (.Name x pos) (tC v) :=
  fun _ _ _ H _ I h => ld_glob I hg hm ⟨v, H, I, r, h⟩ hd
theorem pe_bltn {x : Str} {v : V} {u : Value} {pos : Pos} (hg : Gl X x) (hm : X.mg x = none) (hv : bootBuiltins x = some u) (r : RelV v u) (hn : x ≠ "__name__" := by decide) (hd : (x == ("__debug__" : Str)) = false := by decide) : PE X (.Name x pos) (tC v) :=
  fun _ _ _ H _ I h => ld_blt I hg hm hv ⟨v, H, I, r, h⟩ hn hd
/-! ### arithmetic -/
/-- two ints -/
def t2I (ta tb : TE) (k : Int → Int → Hp → Prop) : St → Hp → Prop := fun σ H => ta σ H fun x H1 => tb σ H1 fun y H2 => ∃ i j, x = .int i ∧ y = .int j ∧ k i j H2
def tAdd (ta tb : TE) : TE := fun σ H Q => t2I ta tb (fun i j H2 => Q (.int (i + j)) H2) σ H
def tSub (ta tb : TE) : TE := fun σ H Q => t2I ta tb (fun i j H2 => Q (.int (i - j)) H2) σ H
/-- the left factor below 2^64 -/
def tMul (ta tb : TE) : TE := fun σ H Q => t2I ta tb (fun i j H2 => (-(2 ^ 64) < i ∧ i < 2 ^ 64) ∧ Q (.int (i * j)) H2) σ H
variable {a b : Expr} {ta tb : TE} {pos : Pos}
/-! ### comparisons -/
def PC (X : Cx) (op : CmpOp) (a b : Expr) (t : TE) : Prop :=
  ∀ (pins : List (Addr × Obj)) (s : Shared) (σ : St) (H : Hp) (Q : VK), Inv X pins σ H s → t σ H Q →
    wpAny (model X.prog X.w) X.A (eval a X.env) (fun v s₁ => wpAny (model X.prog X.w) X.A (eval b X.env) (fun u s₂ => wpAny (model X.prog X.w) X.A (compareOp op v u) (EP X pins σ Q) X.xe s₂) X.xe s₁) X.xe s
def tCmp (p : Int → Int → Bool) (ta tb : TE) : TE := fun σ H Q => t2I ta tb (fun i j H2 => Q (.bl (p i j)) H2) σ H
abbrev tLt : TE → TE → TE := tCmp fun i j => decide (i < j)
abbrev tLe : TE → TE → TE := tCmp fun i j => decide (i ≤ j)
abbrev tGt : TE → TE → TE := tCmp fun i j => decide (j < i)
abbrev tGe : TE → TE → TE := tCmp fun i j => decide (j ≤ i)
abbrev tEqI : TE → TE → TE := tCmp fun i j => decide (i = j)
abbrev tNeI : TE → TE → TE := tCmp fun i j => !decide (i = j)
/-- is None -/
def tIsN (ta : TE) : TE := fun σ H Q => ta σ H fun x H1 => Q (.bl (decide (x = .non))) H1
def tNotN (ta : TE) : TE := fun σ H Q => ta σ H fun x H1 => Q (.bl (!decide (x = .non))) H1
/-- a comparison as a value, as a test -/
def tB (t : TE) : TT := fun σ H Q => t σ H fun x H1 => ∃ c, x = .bl c ∧ Q c H1
/-! ### and, or, not -/
variable {tA tB' : TT} {rest : List Expr}
def tAnd (t u : TT) : TT := fun σ H Q => t σ H fun c H1 => if c = true then u σ H1 Q else Q false H1
def tOr (t u : TT) : TT := fun σ H Q => t σ H fun c H1 => if c = true then Q true H1 else u σ H1 Q
def tNot (t : TT) : TT := fun σ H Q => t σ H fun c H1 => Q (!c) H1
theorem pw_and1 (ha : PT X a tA) : PW X (.BoolOp .And [a] pos) tA := by
  intro wh pins s σ H Q I h
  refine isTrue_and (thn (ha pins s σ H Q I h) fun c s1 e => ?_)
  cases c with
  | true => exact isTrue_and_nil e
  | false => exact e
theorem pw_or1 (ha : PT X a tA) : PW X (.BoolOp .Or [a] pos) tA := by
  intro wh pins s σ H Q I h
  refine isTrue_or (thn (ha pins s σ H Q I h) fun c s1 e => ?_)
  cases c with
  | false => exact isTrue_or_nil e
  | true => exact e
theorem pw_and (ha : PT X a tA) (hb : PW X (.BoolOp .And (b :: rest) pos) tB') : PW X (.BoolOp .And (a :: b :: rest) pos) (tAnd tA tB') := by
  intro wh pins s σ H Q I h
  refine isTrue_and (thn (ha pins s σ H _ I h) fun c s1 ⟨H1, I1, q1⟩ => ?_)
  cases c with
  | true => exact hb wh pins s1 σ H1 Q I1 q1
  | false => exact ⟨H1, I1, q1⟩
theorem pw_or (ha : PT X a tA) (hb : PW X (.BoolOp .Or (b :: rest) pos) tB') : PW X (.BoolOp .Or (a :: b :: rest) pos) (tOr tA tB') := by
  intro wh pins s σ H Q I h
  refine isTrue_or (thn (ha pins s σ H _ I h) fun c s1 ⟨H1, I1, q1⟩ => ?_)
  cases c with
  | true => exact ⟨H1, I1, q1⟩
  | false => exact hb wh pins s1 σ H1 Q I1 q1
theorem pt_not (ha : PT X a tA) : PT X (.UnaryOp .Not a pos) (tNot tA) := by
  intro pins s σ H Q I h
  exact isTrue_not (ha pins s σ H (fun c H1 => Q (!c) H1) I h)
/-- .. as values (bools) -/
def tAndV (ta tb : TE) : TE := fun σ H Q => ta σ H fun x H1 => ∃ c, x = .bl c ∧ if c = true then tb σ H1 Q else Q (.bl false) H1
def tOrV (ta tb : TE) : TE := fun σ H Q => ta σ H fun x H1 => ∃ c, x = .bl c ∧ if c = true then Q (.bl true) H1 else tb σ H1 Q
def tNotV (ta : TE) : TE := fun σ H Q => ta σ H fun x H1 => ∃ c, x = .bl c ∧ Q (.bl (!c)) H1
theorem pe_one {op} {t : TE} (h : PE X a t) : PE X (.BoolOp op [a] pos) t := fun pins s σ H Q I hw => BoolOp_one (h pins s σ H Q I hw)
theorem pe_and (ha : PE X a ta) (hb : PE X (.BoolOp .And (b :: rest) pos) tb) : PE X (.BoolOp .And (a :: b :: rest) pos) (tAndV ta tb) := by
  intro pins s σ H Q I h
  refine BoolOp_and (thn (ha pins s σ H _ I h) fun v s1 ⟨x, H1, I1, r1, q1⟩ => ?_)
  obtain ⟨c, rfl, q1⟩ := q1
  cases r1
  refine wpAny_truthy_bool ?_
  cases c with
  | true => exact hb pins s1 σ H1 Q I1 q1
  | false => exact ⟨.bl false, H1, I1, rfl, q1⟩
theorem pe_or (ha : PE X a ta) (hb : PE X (.BoolOp .Or (b :: rest) pos) tb) : PE X (.BoolOp .Or (a :: b :: rest) pos) (tOrV ta tb) := by
  intro pins s σ H Q I h
  refine BoolOp_or (thn (ha pins s σ H _ I h) fun v s1 ⟨x, H1, I1, r1, q1⟩ => ?_)
  obtain ⟨c, rfl, q1⟩ := q1
  cases r1
  refine wpAny_truthy_bool ?_
  cases c with
  | false => exact hb pins s1 σ H1 Q I1 q1
  | true => exact ⟨.bl true, H1, I1, rfl, q1⟩
theorem pe_not (ha : PE X a ta) : PE X (.UnaryOp .Not a pos) (tNotV ta) := by
  intro pins s σ H Q I h
  refine UnaryOp_ (thn (ha pins s σ H _ I h) fun v s1 ⟨x, H1, I1, r1, q1⟩ => ?_)
  obtain ⟨c, rfl, q1⟩ := q1
  cases r1
  exact not_of (wpAny_truthy_bool ⟨.bl (!c), H1, I1, rfl, q1⟩)
/-- a if t else b -/
def tIf (t : TT) (ta tb : TE) : TE := fun σ H Q => t σ H fun c H1 => if c = true then ta σ H1 Q else tb σ H1 Q
theorem pe_ifExp {c : Expr} (hc : PT X c tA) (ha : PE X a ta) (hb : PE X b tb) : PE X (.IfExp c a b pos) (tIf tA ta tb) := by
  intro pins s σ H Q I h
  refine wpAny_IfExp (thn (hc pins s σ H _ I h) fun d s1 ⟨H1, I1, q1⟩ => ?_)
  cases d with
  | true => exact ha pins s1 σ H1 Q I1 q1
  | false => exact hb pins s1 σ H1 Q I1 q1
end
end L2
namespace L2
open PySem PySem.Spec PyProof.Rows
/-! ### a list, a tuple that is read: tracked, frozen, or an object of the module -/
def SqL (K : PySem.W.Frag) (H : Hp) (a : Addr) (xs : List V) : Prop :=
  Rd H a (.lst xs) ∨
    ∃ (o : Obj) (its : Array Value) (n : Nat), K.lookup a = some o ∧ o.cls = .type "list" ∧ o.dict = none ∧ o.data = .seq its n ∧ its.size ≤ sizeLine ∧ Vals xs its.toList
def SqT (K : PySem.W.Frag) (H : Hp) (a : Addr) (xs : List V) : Prop :=
  Rd H a (.tup xs) ∨
    ∃ (o : Obj) (its : Array Value) (n : Nat), K.lookup a = some o ∧ o.cls = .type "tuple" ∧ o.data = .seq its n ∧ its.size ≤ sizeLine ∧ Vals xs its.toList
def absV : Value → Option V
  | .none => some .non
  | .bool b => some (.bl b)
  | .int i _ => some (.int i)
  | .str x _ => some (.str x)
  | .bytes b _ => some (.byt b)
  | .float b _ => some (.flt b)
  | .ref a => some (.ref a)
  | .type n => some (.ty n)
  | _ => none
theorem RelV.abs {x : V} {u : Value} (r : RelV x u) : absV u = some x := by
  cases x with
  | non => cases r; rfl
  | bl _ => cases r; rfl
  | int _ => obtain ⟨t, rfl⟩ := r; rfl
  | str _ => obtain ⟨t, rfl⟩ := r; rfl
  | byt _ => obtain ⟨t, rfl⟩ := r; rfl
  | flt _ => obtain ⟨t, rfl⟩ := r; rfl
  | ref _ => cases r; rfl
  | ty _ => cases r; rfl
theorem RelV.inj {x y : V} {u : Value} (r : RelV x u) (q : RelV y u) : x = y := Option.some.inj (r.abs.symm.trans q.abs)
theorem Vals.inj : ∀ {xs ys : List V} {us : List Value}, Vals xs us → Vals ys us → xs = ys
  | _, _, _, .nil, .nil => rfl
  | _, _, _, .cons r t, .cons r' t' => by rw [r.inj r', Vals.inj t t']
section
variable {X : Cx} {pins : List (Addr × Obj)} {σ : St} {H : Hp} {s : Shared} {a : Addr} {xs ys : List V}
theorem SqL.of {K : PySem.W.Frag} (h : H a = some (.lst xs)) : SqL K H a xs := .inl (.inl h)
theorem SqT.of {K : PySem.W.Frag} (h : H a = some (.tup xs)) : SqT K H a xs := .inl (.inl h)
theorem Inv.list (I : Inv X pins σ H s) (h : SqL X.K H a xs) : ∃ its : List Value, Vals xs its ∧ PlainL s.heap a its.toArray ∧ xs.length ≤ sizeLine := by
  rcases h with h | ⟨o, its, n, hk, hc, hd, hs, hz, r⟩
  · obtain ⟨z, its, n, r, e⟩ := h.ok I.hok
    exact ⟨its, r, ⟨_, n, e, rfl, rfl, rfl⟩, z⟩
  · refine ⟨its.toList, r, ⟨o, n, I.kIn a o hk, hc, hd, by simpa using hs⟩, ?_⟩
    have e := r.length
    simp only [Array.length_toList] at e
    omega
theorem Inv.tuple (I : Inv X pins σ H s) (h : SqT X.K H a xs) : ∃ its : List Value, Vals xs its ∧ IsTup s.heap a its.toArray ∧ xs.length ≤ sizeLine := by
  rcases h with h | ⟨o, its, n, hk, hc, hs, hz, r⟩
  · obtain ⟨z, its, r, p⟩ := h.ok I.hok
    exact ⟨its, r, p, z⟩
  · refine ⟨its.toList, r, ⟨o, I.kIn a o hk, hc, n, by simpa using hs⟩, ?_⟩
    have e := r.length
    simp only [Array.length_toList] at e
    omega
theorem Inv.list_inj (I : Inv X pins σ H s) (h : SqL X.K H a xs) (h' : SqL X.K H a ys) : xs = ys := by
  obtain ⟨its, r, ⟨o, n, e, _, _, d⟩, _⟩ := I.list h
  obtain ⟨its', r', ⟨o', n', e', _, _, d'⟩, _⟩ := I.list h'
  rw [e] at e'; cases e'
  rw [d] at d'
  injection d' with d1 _
  have : its = its' := by simpa using congrArg Array.toList d1
  subst this
  exact r.inj r'
theorem Inv.tuple_inj (I : Inv X pins σ H s) (h : SqT X.K H a xs) (h' : SqT X.K H a ys) : xs = ys := by
  obtain ⟨its, r, ⟨o, e, _, n, d⟩, _⟩ := I.tuple h
  obtain ⟨its', r', ⟨o', e', _, n', d'⟩, _⟩ := I.tuple h'
  rw [e] at e'; cases e'
  rw [d] at d'
  injection d' with d1 _
  have : its = its' := by simpa using congrArg Array.toList d1
  subst this
  exact r.inj r'
end
/-! ### another wish about exceptions -/
abbrev Cx.wish (X : Cx) (E : Value → Shared → Prop) : Cx := { X with xe := E }
/-- no exception leaves -/
abbrev Cx.nox (X : Cx) : Cx := X.wish fun _ _ => False
theorem Cx.Ok.wish {X : Cx} (ok : X.Ok) (E : Value → Shared → Prop) : (X.wish E).Ok :=
  ⟨ok.mod, ok.kind, ok.glob, ok.blt, ok.above, ok.inj, ok.has, ok.cab, ok.hd, ok.frames, ok.stk, ok.exf, ok.bs, ok.bsz, ok.noex, ok.exfs, ok.funs, ok.frf⟩
theorem Cx.Ok.unwish {X : Cx} {E : Value → Shared → Prop} (ok : (X.wish E).Ok) : X.Ok :=
  ⟨ok.mod, ok.kind, ok.glob, ok.blt, ok.above, ok.inj, ok.has, ok.cab, ok.hd, ok.frames, ok.stk, ok.exf, ok.bs, ok.bsz, ok.noex, ok.exfs, ok.funs, ok.frf⟩
section
variable {X : Cx} {pins : List (Addr × Obj)} {σ : St} {H : Hp} {s : Shared} {E : Value → Shared → Prop}
theorem Inv.wish (I : Inv X pins σ H s) (E : Value → Shared → Prop) : Inv (X.wish E) pins σ H s := ⟨I.ok.wish E, I.os, I.bare, I.base, I.loc, I.cell, I.free, I.freeC, I.pin, I.hok, I.len⟩
theorem Inv.unwish (I : Inv (X.wish E) pins σ H s) : Inv X pins σ H s := ⟨I.ok.unwish, I.os, I.bare, I.base, I.loc, I.cell, I.free, I.freeC, I.pin, I.hok, I.len⟩
theorem SP.unwish {D : Ends} {f : Flow} {s' : Shared} (h : SP (X.wish E) pins D f s') : SP X pins D f s' := by
  cases f with
  | next => obtain ⟨σ', H', I, q⟩ := h; exact ⟨σ', H', I.unwish, q⟩
  | brk => obtain ⟨σ', H', I, q⟩ := h; exact ⟨σ', H', I.unwish, q⟩
  | cont => obtain ⟨σ', H', I, q⟩ := h; exact ⟨σ', H', I.unwish, q⟩
  | ret u => obtain ⟨v, σ', H', I, r, q⟩ := h; exact ⟨v, σ', H', I.unwish, r, q⟩
theorem PSs.nox {st : List Stmt} {t : TS} (h : PSs X.nox st t) : PSs X st t := fun pins s σ H D I hw =>
  wpAny_mono (h pins s σ H D (I.wish _) hw) (fun _ _ q => q.unwish) fun _ _ z => False.elim z
end
/-! ### blocks and small statements -/
section
variable {X : Cx} {st : Stmt} {rest : List Stmt} {t u : TS} {e : Expr} {te : TE} {pos : Pos}
def tNext : TS := fun D σ H => D.nx σ H
def tSeq (t u : TS) : TS := fun D σ H => t { D with nx := u D } σ H
theorem pss_nil : PSs X [] tNext := fun _ _ σ H _ I h => wpAny_execs_nil ⟨σ, H, I, h⟩
theorem pss_cons (h1 : PS X st t) (h2 : PSs X rest u) : PSs X (st :: rest) (tSeq t u) := by
  intro pins s σ H D I h
  refine wpAny_execs_cons (thn (h1 pins s σ H { D with nx := u D } I h) fun f s1 q => ?_)
  cases f with
  | next =>
    obtain ⟨σ', H', I', q⟩ := q
    exact h2 pins s1 σ' H' D I' q
  | ret v => exact q
  | brk => exact q
  | cont => exact q
theorem pss_one (h1 : PS X st t) : PSs X [st] t := by
  intro pins s σ H D I h
  refine wpAny_execs_cons (thn (h1 pins s σ H D I h) fun f s1 q => ?_)
  cases f with
  | next => exact wpAny_execs_nil q
  | ret v => exact q
  | brk => exact q
  | cont => exact q
def tBreak : TS := fun D σ H => D.bk σ H
def tCont : TS := fun D σ H => D.ct σ H
theorem ps_break : PS X (.Break pos) tBreak := fun _ _ σ H _ I h => wpAny_Break ⟨σ, H, I, h⟩
/-- in a def's body nothing is shown -/
theorem Inv.quiet {pins : List (Addr × Obj)} {σ : St} {H : Hp} {s : Shared} (I : Inv X pins σ H s) : interactive X.env = false := by simp [interactive, I.ok.kind]
/-- an expression whose value is dropped -/
def tDrop (te : TE) : TS := fun D σ H => te σ H fun _ H1 => D.nx σ H1
theorem ps_expr (he : PE X e te) (hs : swapsWith e none pos.line X.env = pure false := by rfl) : PS X (.Expr e pos) (tDrop te) := by
  intro pins s σ H D I h
  exact wpAny_Expr_any (thn (he pins s σ H _ I h) fun v s1 ⟨x, H1, I1, r1, q1⟩ => ⟨σ, H1, I1, q1⟩) I.quiet hs
def tRet (te : TE) : TS := fun D σ H => te σ H D.rt
theorem ps_ret (he : PE X e te) : PS X (.Return (some e) pos) (tRet te) := by
  intro pins s σ H D I h
  exact wpAny_Return_some (thn (he pins s σ H _ I h) fun v s1 ⟨x, H1, I1, r1, q1⟩ => ⟨x, σ, H1, I1, r1, q1⟩)
def tRetN : TS := fun D _ H => D.rt .non H
def tIfS (c : TT) (t u : TS) : TS := fun D σ H => c σ H fun b H1 => if b = true then t D σ H1 else u D σ H1
theorem ps_if {c : Expr} {a b : List Stmt} {tc : TT} (hc : PT X c tc) (ha : PSs X a t) (hb : PSs X b u) : PS X (.If c a b pos) (tIfS tc t u) := by
  intro pins s σ H D I h
  refine wpAny_If (thn (hc pins s σ H _ I h) fun d s1 ⟨H1, I1, q1⟩ => ?_)
  cases d with
  | true => exact ha pins s1 σ H1 D I1 q1
  | false => exact hb pins s1 σ H1 D I1 q1
/-- code that the proof never comes to -/
def tNever : TS := fun _ _ _ => False
end
/-! ### targets -/
abbrev TG := V → St → Hp → (St → Hp → Prop) → Prop
abbrev TGs := List V → St → Hp → (St → Hp → Prop) → Prop
def PG (X : Cx) (target : Expr) (t : TG) : Prop :=
  ∀ (pins : List (Addr × Obj)) (s : Shared) (σ : St) (H : Hp) (v : V) (u : Value) (Q : St → Hp → Prop), Inv X pins σ H s → RelV v u → t v σ H Q →
    wpAny (model X.prog X.w) X.A (assign target X.env u) (fun _ s' => ∃ σ' H', Inv X pins σ' H' s' ∧ Q σ' H') X.xe s
/-- several targets, one after another -/
def PGs (X : Cx) (ts : List Expr) (t : TGs) : Prop :=
  ∀ (pins : List (Addr × Obj)) (s : Shared) (σ : St) (H : Hp) (vs : List V) (us : List Value) (Q : St → Hp → Prop), Inv X pins σ H s → Vals vs us → t vs σ H Q →
    wpAny (model X.prog X.w) X.A (assignInOrder ((assignEach ts X.env).map (·.2)) us) (fun _ s' => ∃ σ' H', Inv X pins σ' H' s' ∧ Q σ' H') X.xe s
/-- o[i] = v, by values -/
abbrev TSet := V → V → V → Hp → (Hp → Prop) → Prop
def PSet (X : Cx) (t : TSet) : Prop :=
  ∀ (pins : List (Addr × Obj)) (s : Shared) (σ : St) (H : Hp) (o i v : V) (ov iv u : Value) (Q : Hp → Prop), Inv X pins σ H s → RelV o ov → RelV i iv → RelV v u → t o i v H Q →
    wpAny (model X.prog X.w) X.A (setItem ov iv u) (fun _ s' => ∃ H', Inv X pins σ H' s' ∧ Q H') X.xe s
/-- a op= b, by values -/
abbrev TIp := V → V → Hp → VK → Prop
def PIp (X : Cx) (op : Operator) (t : TIp) : Prop :=
  ∀ (pins : List (Addr × Obj)) (s : Shared) (σ : St) (H : Hp) (x y : V) (v u : Value) (Q : VK), Inv X pins σ H s → RelV x v → RelV y u → t x y H Q →
    wpAny (model X.prog X.w) X.A (inplaceOp op v u) (EP X pins σ Q) X.xe s
section
variable {X : Cx} {pos : Pos}
def gName (i : Nat) : TG := fun v σ H Q => Q (σ.set i (some v)) H
theorem pg_name {i : Nat} {x : Str} (hN : X.N.Nodup) (hi : X.N[i]? = some x) (hx : Loc X.env.scope x) (hf : X.fn x = true ∨ X.env.scope.names.lookup x = some .local := by first | exact .inl rfl | exact .inr rfl | assumption) : PG X (.Name x pos) (gName i) := by
  intro pins s σ H v u Q I r h
  exact wpAny_assign_Name (store_ok I hN hi hx r (fun s' I' => ⟨_, H, I', h⟩) hf)
def gNil : TGs := fun vs σ H Q => vs = [] ∧ Q σ H
def gCons (t : TG) (u : TGs) : TGs := fun vs σ H Q => ∃ v r, vs = v :: r ∧ t v σ H fun σ' H' => u r σ' H' Q
/-- (a, b, ..) = a tuple of that length -/
def gTup (K : PySem.W.Frag) (n : Nat) (t : TGs) : TG := fun v σ H Q => ∃ a xs, v = .ref a ∧ SqT K H a xs ∧ xs.length = n ∧ t xs σ H Q
/-- o[i] = .. -/
def gSub (to ti : TE) (t : TSet) : TG := fun v σ H Q => to σ H fun o H1 => ti σ H1 fun i H2 => t o i v H2 fun H3 => Q σ H3
theorem pg_sub {o i : Expr} {to ti : TE} {t : TSet} (ho : PE X o to) (hi : PE X i ti) (hs : PSet X t)
    (ha : ∀ v, assign (.Subscript o i pos) X.env v = (do
      let ov ← holding [v] (eval o X.env)
      let iv ← holding [v, ov] (eval i X.env)
      standAt pos
      holding [v, ov, iv] (setItem ov iv v)
      release [v, ov, iv] []) := by intro _; rfl) : PG X (.Subscript o i pos) (gSub to ti t) := by
  intro pins s σ H v u Q I r h
  rw [ha]
  refine wpAny_bind (wpAny_holding (thn (ho pins s σ H _ I h) fun ov s1 ⟨x, H1, I1, r1, q1⟩ => ?_))
  refine wpAny_bind (wpAny_holding (thn (hi pins s1 σ H1 _ I1 q1) fun iv s2 ⟨y, H2, I2, r2, q2⟩ => ?_))
  refine wpAny_bind (wpAny_standAt (wpAny_bind (wpAny_holding (thn (hs pins s2 σ H2 x y v ov iv u _ I2 r1 r2 r q2) fun _ s3 ⟨H3, I3, q3⟩ => ?_))))
  exact wpAny_release ⟨σ, H3, I3, q3⟩
/-- target = value -/
def tAsg (te : TE) (g : TG) : TS := fun D σ H => te σ H fun x H1 => g x σ H1 D.nx
theorem ps_asg {tg e : Expr} {te : TE} {g : TG} (he : PE X e te) (hg : PG X tg g) (hs : swapsWithSole [tg] e pos.line X.env = pure false := by rfl) (hw : swappedStores [tg] e X.env = pure none := by rfl)
    (h1 : (assignEach [tg] X.env).map (·.2) = [assign tg X.env] := by rfl) : PS X (.Assign [tg] e pos) (tAsg te g) := by
  intro pins s σ H D I h
  refine wpAny_Assign_stores (thn (he pins s σ H _ I h) fun v s1 ⟨x, H1, I1, r1, q1⟩ => ?_) hs hw
  rw [h1]
  exact thn (hg pins s1 σ H1 x v _ I1 r1 q1) fun _ s2 q => q
/-- name = value -/
theorem ps_set {i : Nat} {x : Str} {e : Expr} {te : TE} {pos' : Pos} (hN : X.N.Nodup) (hi : X.N[i]? = some x) (hx : Loc X.env.scope x) (he : PE X e te) (hs : swapsWith e (some (.Name x pos')) pos.line X.env = pure false := by rfl) (hf : X.fn x = true ∨ X.env.scope.names.lookup x = some .local := by first | exact .inl rfl | exact .inr rfl | assumption) :
    PS X (.Assign [.Name x pos'] e pos) (tAsg te (gName i)) := by
  intro pins s σ H D I h
  refine wpAny_Assign_Name (thn (he pins s σ H _ I h) fun v s1 ⟨y, H1, I1, r1, q1⟩ => ?_) hs
  exact store_ok I1 hN hi hx r1 (fun s2 I2 => ⟨_, H1, I2, q1⟩) hf
/-- a, b = x, y with plain local names: stored from the right; the pair itself is not tracked (the opening rows as in PyProof/Rows/TupAssign.lean:23) -/
def tPar (i j : Nat) (ta : TA) : TS := fun D σ H => ta σ H fun vs H1 => ∃ v w, vs = [v, w] ∧ D.nx ((σ.set i (some v)).set j (some w)) H1
/-- name op= e -/
def tAug (i : Nat) (te : TE) (ti : TIp) : TS := fun D σ H => ∃ x, σ[i]? = some (some x) ∧ te σ H fun y H1 => ti x y H1 fun z H2 => D.nx (σ.set i (some z)) H2
/-- o[i] op= e -/
def tAugS (to ti te : TE) (tget : V → V → Hp → VK → Prop) (tip : TIp) (tset : TSet) : TS := fun D σ H => to σ H fun o H1 => ti σ H1 fun i H2 => tget o i H2 fun x H3 => te σ H3 fun y H4 => tip x y H4 fun z H5 => tset o i z H5 fun H6 => D.nx σ H6
/-- o[i], by values -/
def PGet (X : Cx) (t : V → V → Hp → VK → Prop) : Prop :=
  ∀ (pins : List (Addr × Obj)) (s : Shared) (σ : St) (H : Hp) (o i : V) (ov iv : Value) (Q : VK), Inv X pins σ H s → RelV o ov → RelV i iv → t o i H Q →
    wpAny (model X.prog X.w) X.A (getItem ov iv) (EP X pins σ Q) X.xe s
/-- ints -/
def ipI (f : Int → Int → Int) : TIp := fun x y H Q => ∃ i j, x = .int i ∧ y = .int j ∧ Q (.int (f i j)) H
end
/-! ### while -/
section
variable {X : Cx} {pos : Pos}
/-- the invariant W with its measure -/
def tWhile (c : TT) (tb : TS) : TS := fun D σ H => ∃ W : Nat → St → Hp → Prop, (∃ m, W m σ H) ∧ ∀ m σ H, W m σ H →
  c σ H fun b H1 => if b = true then ∃ N : St → Hp → Prop, (∀ σ' H', N σ' H' → ∃ m', m' < m ∧ W m' σ' H') ∧ tb { D with nx := N, ct := N, bk := D.nx } σ H1 else D.nx σ H1
theorem ps_while {c : Expr} {body : List Stmt} {tc : TT} {tb : TS} (hp : PassesOwn (model X.prog X.w) X.A X.env X.xe) (hc : PT X c tc) (hb : PSs X body tb) : PS X (.While c body [] pos) (tWhile tc tb) := by
  intro pins s σ H D I h
  obtain ⟨W, ⟨m0, w0⟩, turn⟩ := h
  refine wpAny_While (codeAny_whileLoop (fun n s' => ∃ σ' H', Inv X pins σ' H' s' ∧ W n σ' H') ?_ m0 ⟨σ, H, I, w0⟩)
  rintro n s1 ⟨σ1, H1, I1, w1⟩
  refine wpAny_passesOwn hp (thn (hc pins s1 σ1 H1 _ I1 (turn n σ1 H1 w1)) fun b s2 ⟨H2, I2, q2⟩ => ?_)
  cases b with
  | true =>
    obtain ⟨N, hN, q2⟩ := q2
    rw [if_pos rfl]
    refine wpAny_passesOwn hp (thn (hb pins s2 σ1 H2 _ I2 q2) fun f s3 q3 => ?_)
    cases f with
    | next =>
      obtain ⟨σ3, H3, I3, n3⟩ := q3
      obtain ⟨m', hm, w3⟩ := hN σ3 H3 n3
      exact ⟨m', hm, σ3, H3, I3, w3⟩
    | cont =>
      obtain ⟨σ3, H3, I3, n3⟩ := q3
      obtain ⟨m', hm, w3⟩ := hN σ3 H3 n3
      exact ⟨m', hm, σ3, H3, I3, w3⟩
    | brk => exact q3
    | ret v => exact q3
  | false =>
    rw [if_neg Bool.false_ne_true]
    exact wpAny_execs_nil ⟨σ1, H2, I2, q2⟩
end
/-! ### what a loop or a comprehension walks -/
/-- at turn i: it yields x (the heap may grow), or it stops -/
structure It where
  go : Nat → Hp → Prop
  yld : Nat → Hp → V → Hp → Prop
  stop : Nat → Hp → Prop
/-- the iterator's own objects may turn: they are not the frame's, not pinned, younger than the entry (or a comprehension's own) -/
def FpOk (X : Cx) (pins : List (Addr × Obj)) (H : Hp) (b : Addr) : Prop :=
  H b = none ∧ b ≠ X.env.locals ∧ b ∉ X.fs ∧ (b ∈ X.ex ∨ X.s₀.heap.objs.size ≤ b) ∧ (∀ x c, X.env.cells.lookup x = some c → c ≠ b) ∧ ∀ p ∈ X.pn ++ pins, p.1 ≠ b
theorem Inv.fpOk {X : Cx} {pins : List (Addr × Obj)} {σ : St} {H H' : Hp} {s : Shared} {b : Addr} (I : Inv X pins σ H s) (hb : s.heap.objs.size ≤ b) (hn : H' b = none) : FpOk X pins H' b := by
  refine ⟨hn, Nat.ne_of_gt (Nat.lt_of_lt_of_le I.lt hb), I.nofs hb, .inr (Nat.le_trans I.sz hb), fun x c e z => ?_, fun p hp z => ?_⟩
  · obtain ⟨v, q⟩ := I.cell x c e
    exact absurd (Nat.lt_of_lt_of_le q.lt (by rw [z]; exact hb)) (Nat.lt_irrefl _)
  · exact absurd (Nat.lt_of_lt_of_le (Heap.lt_size (I.pin p hp).1) (by rw [z]; exact hb)) (Nat.lt_irrefl _)
structure Turn (P : Program) (w : World) (K : PySem.W.Frag) (tg : Expr) (J : It) (fp : List Addr) (it : Addr) (tn : Nat → Heap → Prop) : Prop where
  mem : it ∈ fp
  obj : ∀ i h, tn i h → ∀ b ∈ fp, ∃ o, h.get? b = some o ∧ ∀ v, o.data ≠ .cell v
  keep : ∀ i h h', tn i h → (∀ b ∈ fp, ∀ o, h.get? b = some o → h'.get? b = some o) → tn i h'
  item : ∀ (X : Cx), X.prog = P → X.w = w → X.K = K → X.calm = true → ∀ (i : Nat) (pins : List (Addr × Obj)) (s : Shared) (σ : St) (H : Hp) (E : Value → Shared → Prop), Inv X pins σ H s → (∀ b ∈ fp, FpOk X pins H b) → tn i s.heap → J.go i H →
    wpAny (model P w) X.A (pyNext (.ref it)) (fun r s1 => ∃ u, r = some u ∧
      wpAny (model P w) X.A (letOwnedTupleGo tg (.ref it) u) (fun _ s2 => ∃ x H', Inv X pins σ H' s2 ∧ RelV x u ∧ J.yld i H x H' ∧ tn (i + 1) s2.heap ∧ ∀ b ∈ fp, H' b = none) E s1) E s
  done : ∀ (X : Cx), X.prog = P → X.w = w → X.K = K → X.calm = true → ∀ (i : Nat) (pins : List (Addr × Obj)) (s : Shared) (σ : St) (H : Hp) (E : Value → Shared → Prop), Inv X pins σ H s → (∀ b ∈ fp, FpOk X pins H b) → tn i s.heap → J.stop i H →
    wpAny (model P w) X.A (pyNext (.ref it)) (fun r s1 => r = none ∧ Inv X pins σ H s1) E s
  self : ∀ (A : Around) (i : Nat) (s : Shared) (Q : Value → Shared → Prop) (E : Value → Shared → Prop), tn i s.heap → Q (.ref it) s → wpAny (model P w) A (pyIter (.ref it)) Q E s
abbrev TI := St → Hp → (It → Hp → Prop) → Prop
/-- an iterator has come -/
def PIE (X : Cx) (pins : List (Addr × Obj)) (σ : St) (tg : Expr) (R : It → Hp → Prop) (itv : Value) (s2 : Shared) : Prop :=
  ∃ (it : Addr) (fp : List Addr) (tn : Nat → Heap → Prop) (J : It) (H' : Hp), itv = .ref it ∧ Inv X pins σ H' s2 ∧ Turn X.prog X.w X.K tg J fp it tn ∧ tn 0 s2.heap ∧ (∀ b ∈ fp, FpOk X pins H' b) ∧ R J H'
def PI (X : Cx) (tg iter : Expr) (wi : TI) : Prop :=
  ∀ (pins : List (Addr × Obj)) (s : Shared) (σ : St) (H : Hp) (R : It → Hp → Prop), Inv X pins σ H s → wi σ H R →
    wpAny (model X.prog X.w) X.A (eval iter X.env) (fun v s1 => wpAny (model X.prog X.w) X.A (pyIter v) (PIE X pins σ tg R) X.xe s1) X.xe s
/-- the step ahead of the store is nothing for an iterator that keeps no tuple -/
theorem go_of {M : Model} {A : Around} {E : Value → Shared → Prop} {s : Shared} {tg : Expr} {it : Addr} {u : Value} {o : Obj} {n : String} {vs : Array Value} {Q : Unit → Shared → Prop} (ho : s.heap.get? it = some o) (hc : o.cls = .type n) (hd : o.data = .fields vs)
    (hn : ["enumerate", "zip", "dict_itemiterator", "dict_reverseitemiterator", "odict_iterator", "itertools.zip_longest", "itertools.pairwise"].contains n = false) (hQ : Q () s) : wpAny M A (letOwnedTupleGo tg (.ref it) u) Q E s := by
  unfold letOwnedTupleGo
  cases tg <;> first
    | exact wpAny_pure hQ
    | (cases u <;> first
        | exact wpAny_pure hQ
        | (refine wpAny_bind (wpAny_load ho ?_)
           rw [hc, hd]
           show wpAny M A (if (["enumerate", "zip", "dict_itemiterator", "dict_reverseitemiterator", "odict_iterator", "itertools.zip_longest", "itertools.pairwise"].contains n && vs[0]? == some (rawInt _)) = true then _ else _) Q E s
           rw [if_neg (by intro h; rw [hn, Bool.false_and] at h; cases h)]
           exact wpAny_pure hQ))
/-- the list at a, as it stands at each turn (a loop may append to it) -/
def Itl (K : PySem.W.Frag) (a : Addr) : It :=
  ⟨fun i H => ∃ xs x, SqL K H a xs ∧ xs[i]? = some x, fun i H x H' => H' = H ∧ ∀ xs, SqL K H a xs → xs[i]? = some x, fun i H => ∃ xs, SqL K H a xs ∧ xs.length ≤ i⟩
def Itt (K : PySem.W.Frag) (a : Addr) : It :=
  ⟨fun i H => ∃ xs x, SqT K H a xs ∧ xs[i]? = some x, fun i H x H' => H' = H ∧ ∀ xs, SqT K H a xs → xs[i]? = some x, fun i H => ∃ xs, SqT K H a xs ∧ xs.length ≤ i⟩
/-- lo, lo + 1, .. (n of them) -/
def Itr (lo : Int) (n : Nat) : It := ⟨fun i _ => i < n, fun i H x H' => H' = H ∧ x = .int (lo + i), fun i _ => n ≤ i⟩
theorem turn_list {P : Program} {w : World} {K : PySem.W.Frag} {tg : Expr} (a it : Addr) : Turn P w K tg (Itl K a) [it] it (fun i h => h.IsListIter it a i) where
  mem := by simp
  obj := fun i h st b hb => by
    have e : b = it := by simpa using hb
    subst e
    obtain ⟨o, e, c, d⟩ := st
    exact ⟨o, e, fun v z => by rw [d] at z; cases z⟩
  keep := fun i h h' st k => st.at fun o e => k it (by simp) o e
  item := by
    intro X hP hw hK hc i pins s σ H E I hf st hg
    subst hP hw hK
    obtain ⟨xs, x, hq, hx⟩ := hg
    obtain ⟨its, rv, p, hz⟩ := I.list hq
    obtain ⟨u, hu, ru⟩ := rv.get hx
    obtain ⟨f0, f1, f2, f3, f4, f5⟩ := hf it (by simp)
    refine wpAny_pyNext_list_item st p.isList (x := u) (by simpa using hu) fun h' st' sb => ?_
    have I1 : Inv X pins σ H { s with heap := h' } := I.turned (t' := s.toks) (fun b o hb e => (sb.2 b hb).trans e) f0 f1 f3 f4 f5
    obtain ⟨o, e, c, d⟩ := id st'
    exact ⟨u, rfl, go_of (s := { s with heap := h' }) e c d (by decide) ⟨x, H, I1, ru, ⟨rfl, fun ys hy => by rw [I.list_inj hy hq]; exact hx⟩, st', fun b hb => (hf b hb).1⟩⟩
  done := by
    intro X hP hw hK hc i pins s σ H E I hf st hg
    subst hP hw hK
    obtain ⟨xs, hq, hx⟩ := hg
    obtain ⟨its, rv, p, hz⟩ := I.list hq
    obtain ⟨f0, f1, f2, f3, f4, f5⟩ := hf it (by simp)
    have hl := rv.length
    exact wpAny_pyNext_list_end (I.ok.hd hc) st p.isList (by simp; omega) fun h' eb => ⟨rfl, I.turned (t' := s.toks) (fun b o hb e => eb b o hb e) f0 f1 f3 f4 f5⟩
  self := fun _ _ _ _ _ st h => wpAny_pyIter_listiter st h
theorem turn_tuple {P : Program} {w : World} {K : PySem.W.Frag} {tg : Expr} (a it : Addr) : Turn P w K tg (Itt K a) [it] it (fun i h => h.IsTupleIter it a i) where
  mem := by simp
  obj := fun i h st b hb => by
    have e : b = it := by simpa using hb
    subst e
    obtain ⟨o, e, c, d⟩ := st
    exact ⟨o, e, fun v z => by rw [d] at z; cases z⟩
  keep := fun i h h' st k => st.at fun o e => k it (by simp) o e
  item := by
    intro X hP hw hK hc i pins s σ H E I hf st hg
    subst hP hw hK
    obtain ⟨xs, x, hq, hx⟩ := hg
    obtain ⟨its, rv, p, hz⟩ := I.tuple hq
    obtain ⟨u, hu, ru⟩ := rv.get hx
    obtain ⟨f0, f1, f2, f3, f4, f5⟩ := hf it (by simp)
    refine wpAny_pyNext_tuple_item st (show s.heap.IsTuple a its.toArray from p) (x := u) (by simpa using hu) fun h' st' sb => ?_
    have I1 : Inv X pins σ H { s with heap := h' } := I.turned (t' := s.toks) (fun b o hb e => (sb.2 b hb).trans e) f0 f1 f3 f4 f5
    obtain ⟨o, e, c, d⟩ := id st'
    exact ⟨u, rfl, go_of (s := { s with heap := h' }) e c d (by decide) ⟨x, H, I1, ru, ⟨rfl, fun ys hy => by rw [I.tuple_inj hy hq]; exact hx⟩, st', fun b hb => (hf b hb).1⟩⟩
  done := by
    intro X hP hw hK hc i pins s σ H E I hf st hg
    subst hP hw hK
    obtain ⟨xs, hq, hx⟩ := hg
    obtain ⟨its, rv, p, hz⟩ := I.tuple hq
    obtain ⟨f0, f1, f2, f3, f4, f5⟩ := hf it (by simp)
    have hl := rv.length
    exact wpAny_pyNext_tuple_end (I.ok.hd hc) st (show s.heap.IsTuple a its.toArray from p) (by simp; omega) fun h' eb => ⟨rfl, I.turned (t' := s.toks) (fun b o hb e => eb b o hb e) f0 f1 f3 f4 f5⟩
  self := fun _ _ _ _ _ st h => wpAny_pyIter_tupleiter st h
theorem turn_range {P : Program} {w : World} {K : PySem.W.Frag} {tg : Expr} (it : Addr) (lo : Int) (n : Nat) : Turn P w K tg (Itr lo n) [it] it (fun i h => IsRangeIter h it (lo + (i : Nat) * 1) ((n : Int) - (i : Nat)) 1) where
  mem := by simp
  obj := fun i h st b hb => by
    have e : b = it := by simpa using hb
    subst e
    exact ⟨_, st, fun v z => by
      have z' : Data.fields _ = Data.cell v := z
      cases z'⟩
  keep := fun i h h' st k => k it (by simp) _ st
  item := by
    intro X hP hw hK hc i pins s σ H E I hf st hg
    subst hP hw hK
    obtain ⟨f0, f1, f2, f3, f4, f5⟩ := hf it (by simp)
    have W := Walks.range (prog := X.prog) (w := X.w) (I.ok.hd hc) it lo 1 n
    refine W.item i s _ _ hg st fun v h' tk hv st' kk => ?_
    obtain ⟨t, rfl⟩ := hv
    have I1 : Inv X pins σ H { s with heap := h', toks := tk } := I.turned (fun b o hb e => kk b o (by simpa using hb) e) f0 f1 f3 f4 f5
    refine ⟨_, rfl, go_of (s := { s with heap := h', toks := tk }) (n := "range_iterator") st' rfl rfl (by decide) ⟨.int (lo + i), H, I1, ⟨t, ?_⟩, ⟨rfl, rfl⟩, st', fun b hb => (hf b hb).1⟩⟩
    rw [Int.mul_one]
  done := by
    intro X hP hw hK hc i pins s σ H E I hf st hg
    subst hP hw hK
    obtain ⟨f0, f1, f2, f3, f4, f5⟩ := hf it (by simp)
    exact wpAny_pyNext_range_end (I.ok.hd hc) st (by have : n ≤ i := hg; omega) fun h' eb => ⟨rfl, I.turned (t' := s.toks) (fun b o hb e => eb b o hb e) f0 f1 f3 f4 f5⟩
  self := fun _ _ _ _ _ st h => wpAny_pyIter_rangeiter st h
end L2
namespace L2
open PySem PySem.Spec PyProof.Rows
section
variable {X : Cx} {tg : Expr}
def iList (K : PySem.W.Frag) (tl : TE) : TI := fun σ H R => tl σ H fun x H1 => ∃ a, x = .ref a ∧ (∃ xs, SqL K H1 a xs) ∧ R (Itl K a) H1
def iTup (K : PySem.W.Frag) (tl : TE) : TI := fun σ H R => tl σ H fun x H1 => ∃ a, x = .ref a ∧ (∃ xs, SqT K H1 a xs) ∧ R (Itt K a) H1
theorem pi_list {l : Expr} {tl : TE} (hl : PE X l tl) : PI X tg l (iList X.K tl) := by
  intro pins s σ H R I h
  refine thn (hl pins s σ H _ I h) fun v s1 ⟨x, H1, I1, r1, q1⟩ => ?_
  obtain ⟨a, e, ⟨xs, hq⟩, q⟩ := q1
  subst e
  cases r1
  obtain ⟨its, rv, p, hz⟩ := I1.list hq
  refine wpAny_pyIter_list p.isList ?_
  refine ⟨s1.heap.objs.size, [s1.heap.objs.size], _, _, H1, rfl, I1.kept (t' := s1.toks) fun b o e => Heap.get?_push_of_some _ e, turn_list a _, ⟨_, Heap.get?_push_size _ rfl, rfl, rfl⟩, fun b hb => ?_, q⟩
  have e : b = s1.heap.objs.size := by simpa using hb
  subst e
  exact I1.fpOk (Nat.le_refl _) (I1.hok.fresh (Nat.le_refl _))
theorem pi_tup {l : Expr} {tl : TE} (hl : PE X l tl) : PI X tg l (iTup X.K tl) := by
  intro pins s σ H R I h
  refine thn (hl pins s σ H _ I h) fun v s1 ⟨x, H1, I1, r1, q1⟩ => ?_
  obtain ⟨a, e, ⟨xs, hq⟩, q⟩ := q1
  subst e
  cases r1
  obtain ⟨its, rv, p, hz⟩ := I1.tuple hq
  refine wpAny_pyIter_tuple (show s1.heap.IsTuple a its.toArray from p) ?_
  refine ⟨s1.heap.objs.size, [s1.heap.objs.size], _, _, H1, rfl, I1.kept (t' := s1.toks) fun b o e => Heap.get?_push_of_some _ e, turn_tuple a _, ⟨_, Heap.get?_push_size _ rfl, rfl, rfl⟩, fun b hb => ?_, q⟩
  have e : b = s1.heap.objs.size := by simpa using hb
  subst e
  exact I1.fpOk (Nat.le_refl _) (I1.hok.fresh (Nat.le_refl _))
/-- a range object just made, walked -/
theorem range_it {pins : List (Addr × Obj)} {σ : St} {H : Hp} {s : Shared} {R : It → Hp → Prop} {E : Value → Shared → Prop} {lo hi : Int} {t u v : Tok} {tk : Nat} (I : Inv X pins σ H s) (h1 : -(2 ^ 62) ≤ lo) (h2 : lo < 2 ^ 62) (h3 : -(2 ^ 62) ≤ hi) (h4 : hi < 2 ^ 62)
    (q : R (Itr lo (hi - lo).toNat) H) : wpAny (model X.prog X.w) X.A (pyIter (.ref s.heap.objs.size)) (PIE X pins σ tg R) E { s with heap := s.heap.push { cls := .type "range", data := .fields #[.int lo t, .int hi u, .int 1 v] }, toks := tk } := by
  refine wpAny_pyIter_range (IsRange.new ..) (small_one h1 h2 h3 h4) ?_
  have I1 : Inv X pins σ H { s with heap := s.heap.push { cls := .type "range", data := .fields #[.int lo t, .int hi u, .int 1 v] }, toks := tk } := I.kept fun b o e => Heap.get?_push_of_some _ e
  refine ⟨(s.heap.push { cls := .type "range", data := .fields #[.int lo t, .int hi u, .int 1 v] }).objs.size, [(s.heap.push { cls := .type "range", data := .fields #[.int lo t, .int hi u, .int 1 v] }).objs.size], _, _, H, rfl,
    I1.kept (t' := tk) fun b o e => Heap.get?_push_of_some _ e, turn_range _ lo (hi - lo).toNat, ?_, fun b hb => ?_, q⟩
  · have e1 : lo + ((0 : Nat) : Int) * 1 = lo := by simp
    have e2 : (((hi - lo).toNat : Nat) : Int) - ((0 : Nat) : Int) = Builtin.Range.rangeSize lo hi 1 := by rw [rangeSize_one]; split <;> omega
    show IsRangeIter _ _ (lo + ((0 : Nat) : Int) * 1) ((((hi - lo).toNat : Nat) : Int) - ((0 : Nat) : Int)) 1
    rw [e1, e2]
    exact Heap.get?_push_size _ rfl
  · have e : b = (s.heap.push { cls := .type "range", data := .fields #[.int lo t, .int hi u, .int 1 v] }).objs.size := by simpa using hb
    subst e
    exact I1.fpOk (Nat.le_refl _) (I1.hok.fresh (Nat.le_refl _))
def iRng1 (ta : TA) : TI := fun σ H R => ta σ H fun vs H1 => ∃ j : Int, vs = [.int j] ∧ -(2 ^ 62) ≤ j ∧ j < 2 ^ 62 ∧ R (Itr 0 j.toNat) H1
def iRng2 (ta : TA) : TI := fun σ H R => ta σ H fun vs H1 => ∃ i j : Int, vs = [.int i, .int j] ∧ (-(2 ^ 62) ≤ i ∧ i < 2 ^ 62 ∧ -(2 ^ 62) ≤ j ∧ j < 2 ^ 62) ∧ R (Itr i (j - i).toNat) H1
theorem pi_range1 {a : Expr} {ta : TA} {p pos : Pos} (hg : Gl X "range") (hm : X.mg "range" = none) (ha : PA X [a] ta) (hs : starEach [a] X.env = [(false, eval a X.env)] := by rfl) : PI X tg (.Call (.Name "range" p) [a] [] pos) (iRng1 ta) := by
  intro pins s σ H R I h
  refine Call_ (ld_blt I hg hm boot_range (PyProof.Rows.callWith_type1 (thn (ha pos pins s σ H _ I h) fun us s1 ⟨vs, H1, I1, r1, q1⟩ => ?_) hs rfl))
  obtain ⟨j, e, q1, q2, q⟩ := q1
  subst e
  cases r1 with
  | cons r rr =>
    cases rr
    obtain ⟨t, rfl⟩ := r
    exact call_range_1 (range_it I1 (by omega) (by omega) q1 q2 (by simpa using q))
/-! ### for -/
/-- W: the invariant by the turn and a measure; N: what the body is to reach -/
def tFor (wi : TI) (g : TG) (tb : TS) : TS := fun D σ H => wi σ H fun J H1 => ∃ W : Nat → Nat → St → Hp → Prop, (∃ m, W 0 m σ H1) ∧ ∀ i m σ H, W i m σ H →
  (J.stop i H ∧ D.nx σ H) ∨ (J.go i H ∧ ∃ N : St → Hp → Prop, (∀ σ' H', N σ' H' → ∃ m', m' < m ∧ W (i + 1) m' σ' H') ∧ ∀ x H', J.yld i H x H' → g x σ H' fun σ2 H2 => tb { D with nx := N, ct := N, bk := D.nx } σ2 H2)
/-- the records at fp as they stand -/
def pinsAt (fp : List Addr) (h : Heap) : List (Addr × Obj) := fp.filterMap fun b => (h.get? b).map fun o => (b, o)
theorem mem_pinsAt {fp : List Addr} {h : Heap} {b : Addr} {o : Obj} (hb : b ∈ fp) (e : h.get? b = some o) : (b, o) ∈ pinsAt fp h := List.mem_filterMap.mpr ⟨b, hb, by rw [e]; rfl⟩
theorem of_pinsAt {fp : List Addr} {h : Heap} {p : Addr × Obj} (hp : p ∈ pinsAt fp h) : p.1 ∈ fp ∧ h.get? p.1 = some p.2 := by
  obtain ⟨b, hb, e⟩ := List.mem_filterMap.mp hp
  cases q : h.get? b with
  | none => rw [q] at e; cases e
  | some o =>
    rw [q] at e
    have e' : (b, o) = p := Option.some.inj e
    subst e'
    exact ⟨hb, q⟩
theorem Inv.pinned {pins : List (Addr × Obj)} {σ : St} {H : Hp} {s : Shared} {fp : List Addr} (I : Inv X pins σ H s) (hf : ∀ b ∈ fp, FpOk X pins H b) (ho : ∀ b ∈ fp, ∃ o, s.heap.get? b = some o ∧ ∀ v, o.data ≠ .cell v) : Inv X (pins ++ pinsAt fp s.heap) σ H s :=
  I.pins_of fun p hp => (List.mem_append.mp hp).elim (fun z => I.pin p (List.mem_append_right _ z)) fun z => by
    obtain ⟨hb, e⟩ := of_pinsAt z
    obtain ⟨f0, f1, f2, _⟩ := hf p.1 hb
    obtain ⟨o, e', d⟩ := ho p.1 hb
    rw [e] at e'; cases e'
    exact ⟨e, f0, f1, f2, d⟩
theorem Inv.unpinned {pins pl : List (Addr × Obj)} {σ : St} {H : Hp} {s : Shared} (I : Inv X (pins ++ pl) σ H s) : Inv X pins σ H s := I.pins_of fun p hp => I.pin p (List.mem_append_right _ (List.mem_append_left _ hp))
theorem ps_for {iter : Expr} {body : List Stmt} {wi : TI} {g : TG} {tb : TS} {pos : Pos} (hp : PassesOwn (model X.prog X.w) X.A X.env X.xe) (hc : X.calm = true) (hi : PI X tg iter wi) (hg : PG X tg g) (hb : PSs X body tb)
    (hs : ∀ x, foldedSetIterable iter X.env x = pure x := by intro _; rfl) : PS X (.For tg iter body [] pos) (tFor wi g tb) := by
  intro pins s σ H D I h
  refine wpAny_For (thn (hi pins s σ H _ I h) fun v s1 h1 => thn h1 fun itv s2 h2 => ?_) hs
  obtain ⟨it, fp, tn, J, H2, e, I2, T, st2, f2, W, ⟨m0, w0⟩, turn⟩ := h2
  subst e
  -- what stays true of the iterator's objects through the loop
  have stat : ∀ {H' : Hp}, (∀ b ∈ fp, H' b = none) → ∀ b ∈ fp, FpOk X pins H' b := fun hn b hb => ⟨hn b hb, (f2 b hb).2⟩
  refine codeAny_forLoop_any (fun n s' => ∃ i σ' H', Inv X pins σ' H' s' ∧ tn i s'.heap ∧ (∀ b ∈ fp, H' b = none) ∧ W i n σ' H') ?_ m0 ⟨0, σ, H2, I2, st2, fun b hb => (f2 b hb).1, w0⟩
  rintro n s3 ⟨i, σ3, H3, I3, st3, fr3, w3⟩
  rcases turn i n σ3 H3 w3 with ⟨stop, qn⟩ | ⟨go, N, hN, step⟩
  · refine wpAny_passesOwn hp (thn (T.done X rfl rfl rfl hc i pins s3 σ3 H3 X.xe I3 (stat fr3) st3 stop) fun r s4 ⟨hr, I4⟩ => ?_)
    subst hr
    exact wpAny_execs_nil ⟨σ3, H3, I4, qn⟩
  · refine wpAny_passesOwn hp (thn (T.item X rfl rfl rfl hc i pins s3 σ3 H3 X.xe I3 (stat fr3) st3 go) fun r s4 ⟨u, hr, h4⟩ => ?_)
    subst hr
    refine wpAny_passesOwn hp (thn h4 fun _ s5 ⟨x, H5, I5, r5, y5, st5, fr5⟩ => ?_)
    have I5' := I5.pinned (stat fr5) (T.obj _ _ st5)
    refine wpAny_passesOwn hp (thn (hg _ s5 σ3 H5 x u _ I5' r5 (step x H5 y5)) fun _ s6 ⟨σ6, H6, I6, q6⟩ => ?_)
    refine wpAny_passesOwn hp (thn (hb _ s6 σ6 H6 _ I6 q6) fun f s7 q7 => ?_)
    have again : ∀ {σ7 : St} {H7 : Hp}, Inv X (pins ++ pinsAt fp s5.heap) σ7 H7 s7 → N σ7 H7 → ∃ m, m < n ∧ ∃ i σ' H', Inv X pins σ' H' s7 ∧ tn i s7.heap ∧ (∀ b ∈ fp, H' b = none) ∧ W i m σ' H' := fun {σ7 H7} I7 n7 => by
      obtain ⟨m', hm, w7⟩ := hN σ7 H7 n7
      refine ⟨m', hm, i + 1, σ7, H7, I7.unpinned, T.keep _ _ _ st5 fun b hb o e => (I7.pin (b, o) (List.mem_append_right _ (List.mem_append_right _ (mem_pinsAt hb e)))).1, fun b hb => ?_, w7⟩
      obtain ⟨o, e, d⟩ := T.obj _ _ st5 b hb
      exact (I7.pin (b, o) (List.mem_append_right _ (List.mem_append_right _ (mem_pinsAt hb e)))).2.1
    cases f with
    | next => obtain ⟨σ7, H7, I7, n7⟩ := q7; exact again I7 n7
    | cont => obtain ⟨σ7, H7, I7, n7⟩ := q7; exact again I7 n7
    | brk => obtain ⟨σ7, H7, I7, q7⟩ := q7; exact ⟨σ7, H7, I7.unpinned, q7⟩
    | ret v => obtain ⟨x7, σ7, H7, I7, r7, q7⟩ := q7; exact ⟨x7, σ7, H7, I7.unpinned, r7, q7⟩
end
/-! ### the forms one uses -/
end L2
namespace L2
open PySem PySem.Spec PyProof.Rows
abbrev R2 := V → V → Hp → VK → Prop
/-- a two-place operation on values: f is binaryOp op, inplaceOp op or compareOp op -/
def OpR (X : Cx) (f : Value → Value → Sem Value) (r : R2) : Prop :=
  ∀ (pins : List (Addr × Obj)) (s : Shared) (σ : St) (H : Hp) (x y : V) (v u : Value) (Q : VK), Inv X pins σ H s → RelV x v → RelV y u → r x y H Q →
    wpAny (model X.prog X.w) X.A (f v u) (EP X pins σ Q) X.xe s
/-- a one-place operation -/
def UnR (X : Cx) (f : Value → Sem Value) (r : V → Hp → VK → Prop) : Prop :=
  ∀ (pins : List (Addr × Obj)) (s : Shared) (σ : St) (H : Hp) (x : V) (v : Value) (Q : VK), Inv X pins σ H s → RelV x v → r x H Q →
    wpAny (model X.prog X.w) X.A (f v) (EP X pins σ Q) X.xe s
/-- a call of a value that is known (a builtin, a type) with values -/
def CallR (X : Cx) (f : Value) (r : List V → Hp → VK → Prop) : Prop :=
  ∀ (pins : List (Addr × Obj)) (s : Shared) (σ : St) (H : Hp) (xs : List V) (us : List Value) (Q : VK), Inv X pins σ H s → Vals xs us → r xs H Q →
    wpAny (model X.prog X.w) X.A (call f us) (EP X pins σ Q) X.xe s
/-- a value's truth -/
def TruR (X : Cx) (r : V → Hp → (Bool → Hp → Prop) → Prop) : Prop :=
  ∀ (pins : List (Addr × Obj)) (s : Shared) (σ : St) (H : Hp) (x : V) (v : Value) (Q : Bool → Hp → Prop), Inv X pins σ H s → RelV x v → r x H Q →
    wpAny (model X.prog X.w) X.A (truthy v) (TP X pins σ Q) X.xe s
def tOp (r : R2) (ta tb : TE) : TE := fun σ H Q => ta σ H fun x H1 => tb σ H1 fun y H2 => r x y H2 Q
def tUn (r : V → Hp → VK → Prop) (ta : TE) : TE := fun σ H Q => ta σ H fun x H1 => r x H1 Q
/-- ints in, under C, and a value out -/
def rI (C : Int → Int → Prop) (g : Int → Int → V) : R2 := fun x y H Q => ∃ i j, x = .int i ∧ y = .int j ∧ C i j ∧ Q (g i j) H
def rI0 (g : Int → Int → V) : R2 := fun x y H Q => ∃ i j, x = .int i ∧ y = .int j ∧ Q (g i j) H
def rU (g : Int → V) : V → Hp → VK → Prop := fun x H Q => ∃ i, x = .int i ∧ Q (g i) H
section
variable {X : Cx} {a b c : Expr} {ta tb tc : TE} {pos : Pos}
theorem binT (ha : PE X a ta) (hb : PE X b tb) {pins : List (Addr × Obj)} {s : Shared} {σ : St} {H : Hp} {R : V → V → Hp → Prop} (I : Inv X pins σ H s)
    (h : ta σ H fun x H1 => tb σ H1 fun y H2 => R x y H2) {Q : Value → Shared → Prop} {f : Value → Value → Sem Value}
    (hf : ∀ v u s2 x y H2, Inv X pins σ H2 s2 → RelV x v → RelV y u → R x y H2 → wpAny (model X.prog X.w) X.A (f v u) Q X.xe s2) :
    wpAny (model X.prog X.w) X.A (eval a X.env) (fun v s₁ => wpAny (model X.prog X.w) X.A (eval b X.env) (fun u s₂ => wpAny (model X.prog X.w) X.A (f v u) Q X.xe s₂) X.xe s₁) X.xe s := by
  refine thn (ha pins s σ H _ I h) fun v s1 ⟨x, H1, I1, r1, q1⟩ => ?_
  refine thn (hb pins s1 σ H1 _ I1 q1) fun u s2 ⟨y, H2, I2, r2, q2⟩ => ?_
  exact hf v u s2 x y H2 I2 r1 r2 q2
theorem pe_op {op : Operator} {r : R2} (ho : OpR X (binaryOp op) r) (ha : PE X a ta) (hb : PE X b tb) : PE X (.BinOp a op b pos) (tOp r ta tb) := by
  intro pins s σ H Q I h
  exact wpAny_BinOp (binT ha hb I h fun v u s2 x y H2 I2 rx ry q => ho pins s2 σ H2 x y v u Q I2 rx ry q)
/-! ### ints -/
theorem opI {f : Value → Value → Sem Value} {C : Int → Int → Prop} {g : Int → Int → Int}
    (rule : ∀ (i j : Int) (t u : Tok) (s : Shared) (Q : Value → Shared → Prop) (E : Value → Shared → Prop), C i j → Q (.int (g i j) s.toks) { s with toks := s.toks + 1 } → wpAny (model X.prog X.w) X.A (f (.int i t) (.int j u)) Q E s) :
    OpR X f (rI C fun i j => .int (g i j)) := by
  intro pins s σ H x y v u Q I rx ry h
  obtain ⟨i, j, rfl, rfl, hc, q⟩ := h
  obtain ⟨t, rfl⟩ := rx
  obtain ⟨t', rfl⟩ := ry
  exact rule i j t t' s _ _ hc ⟨.int (g i j), H, I.tok _, ⟨_, rfl⟩, q⟩
theorem opI0 {f : Value → Value → Sem Value} {g : Int → Int → Int}
    (rule : ∀ (i j : Int) (t u : Tok) (s : Shared) (Q : Value → Shared → Prop) (E : Value → Shared → Prop), Q (.int (g i j) s.toks) { s with toks := s.toks + 1 } → wpAny (model X.prog X.w) X.A (f (.int i t) (.int j u)) Q E s) :
    OpR X f (rI0 fun i j => .int (g i j)) := by
  intro pins s σ H x y v u Q I rx ry h
  obtain ⟨i, j, rfl, rfl, q⟩ := h
  obtain ⟨t, rfl⟩ := rx
  obtain ⟨t', rfl⟩ := ry
  exact rule i j t t' s _ _ ⟨.int (g i j), H, I.tok _, ⟨_, rfl⟩, q⟩
theorem opB0 {f : Value → Value → Sem Value} {g : Int → Int → Bool}
    (rule : ∀ (i j : Int) (t u : Tok) (s : Shared) (Q : Value → Shared → Prop) (E : Value → Shared → Prop), Q (.bool (g i j)) s → wpAny (model X.prog X.w) X.A (f (.int i t) (.int j u)) Q E s) :
    OpR X f (rI0 fun i j => .bl (g i j)) := by
  intro pins s σ H x y v u Q I rx ry h
  obtain ⟨i, j, rfl, rfl, q⟩ := h
  obtain ⟨t, rfl⟩ := rx
  obtain ⟨t', rfl⟩ := ry
  exact rule i j t t' s _ _ ⟨.bl (g i j), H, I, rfl, q⟩
def CDiv (i j : Int) : Prop := 0 < j ∧ j < 1073741824
def CDivN (i j : Int) : Prop := j ≠ 0 ∧ j.natAbs < 1073741824
def CPow (i j : Int) : Prop := 0 ≤ j ∧ j ≤ 1000000 ∧ i.natAbs < 2 ^ 64
def CMul (i j : Int) : Prop := (-(2 ^ 64) < i ∧ i < 2 ^ 64) ∨ (-(2 ^ 64) < j ∧ j < 2 ^ 64)
theorem CMul.ok {i j : Int} (h : CMul i j) : IntMulOk i j := by
  rcases h with ⟨h1, h2⟩ | ⟨h1, h2⟩
  · exact .of_left (intBits_le_64 h1 h2)
  · exact .of_right (intBits_le_64 h1 h2)
theorem op_add : OpR X (binaryOp .Add) (rI0 fun i j => .int (i + j)) := opI0 fun _ _ _ _ _ _ _ q => add_int q
theorem op_sub : OpR X (binaryOp .Sub) (rI0 fun i j => .int (i - j)) := opI0 fun _ _ _ _ _ _ _ q => sub_int q
theorem op_mul : OpR X (binaryOp .Mult) (rI CMul fun i j => .int (i * j)) := opI fun _ _ _ _ _ _ _ hc q => mul_int q hc.ok
/-- % by a positive divisor of any size -/
theorem op_mod : OpR X (binaryOp .Mod) (rI (fun _ j => 0 < j) fun i j => .int (i % j)) := opI fun i j _ _ _ _ _ hc q => by
  have h1 : (0 : Int) < j := hc
  exact mod_int' (by omega) (by rw [Int.fmod_eq_emod_of_nonneg i (by omega)]; exact q)
/-! ### bools among ints: n += (a < b) -/
end
/-! ### comparisons -/
/-- the scalars that == tells apart as data does -/
def scal : V → V → Bool
  | .non, .non => true | .non, .int _ => true | .int _, .non => true | .non, .bl _ => true | .bl _, .non => true | .non, .str _ => true | .str _, .non => true
  | .int _, .int _ => true | .bl _, .bl _ => true | .str _, .str _ => true | .byt _, .byt _ => true
  | .int _, .str _ => true | .str _, .int _ => true | .bl _, .str _ => true | .str _, .bl _ => true
  | _, _ => false
def rEq : R2 := fun x y H Q => scal x y = true ∧ Q (.bl (decide (x = y))) H
def rNe : R2 := fun x y H Q => scal x y = true ∧ Q (.bl (!decide (x = y))) H
section
variable {X : Cx} {a b c : Expr} {ta tb tc : TE} {pos : Pos}
theorem fin_bl {pins : List (Addr × Obj)} {σ : St} {H : Hp} {s : Shared} {Q : VK} {k k' : Bool} (I : Inv X pins σ H s) (q : Q (.bl k) H) (e : k = k') : EP X pins σ Q (.bool k') s := by
  subst e
  exact ⟨.bl k, H, I, rfl, q⟩
theorem op_lt : OpR X (compareOp .Lt) (rI0 fun i j => .bl (decide (i < j))) := opB0 fun _ _ _ _ _ _ _ q => lt_int q
theorem op_gt : OpR X (compareOp .Gt) (rI0 fun i j => .bl (decide (j < i))) := opB0 fun _ _ _ _ _ _ _ q => gt_int q
/-- is None, is not None: the right side a value none -/
theorem op_isN : OpR X (compareOp .Is) (fun x y H Q => y = .non ∧ Q (.bl (decide (x = .non))) H) := by
  intro pins s σ H x y v u Q I rx ry h
  obtain ⟨rfl, q⟩ := h
  cases ry
  refine is_none_gen (fin_bl I q ?_)
  cases x <;> first
    | (cases rx; rfl)
    | (obtain ⟨t, rfl⟩ := rx; rfl)
/-- is, is not of two objects that are tracked lists or instances -/
def isObj : HO → Bool
  | .lst _ => true
  | .ins _ _ _ => true
  | _ => false
/-- two rules for one operation: by cases -/
theorem OpR.or {f : Value → Value → Sem Value} {r r' : R2} (h : OpR X f r) (h' : OpR X f r') : OpR X f (fun x y H Q => r x y H Q ∨ r' x y H Q) := by
  intro pins s σ H x y v u Q I rx ry q
  rcases q with q | q
  · exact h pins s σ H x y v u Q I rx ry q
  · exact h' pins s σ H x y v u Q I rx ry q
theorem nomark (b : Expr) {op : CmpOp} (h : op ≠ .In := by decide) (h2 : op ≠ .NotIn := by decide) : behindInMarks op b = false := by
  have e1 : (op == CmpOp.In) = false := by cases op <;> first | rfl | exact absurd rfl h
  have e2 : (op == CmpOp.NotIn) = false := by cases op <;> first | rfl | exact absurd rfl h2
  cases b <;> simp [behindInMarks, e1, e2]
/-- a comparison as a value; hm: nomark b, or (for in, not in) by with_unfolding_all rfl -/
theorem pe_cmpR {op : CmpOp} {r : R2} (ho : OpR X (compareOp op) r) (ha : PE X a ta) (hb : PE X b tb) (hm : behindInMarks op b = false) : PE X (.Compare a [op] [b] pos) (tOp r ta tb) := by
  intro pins s σ H Q I h
  exact wpAny_Compare1 (binT ha hb I h fun v u s2 x y H2 I2 rx ry q => ho pins s2 σ H2 x y v u Q I2 rx ry q) hm
/-- a reading of a value as a test -/
def tTest (t : TE) : TT := fun σ H Q => t σ H fun x H' => ∃ k, x = .bl k ∧ Q k H'
theorem pt_cmpR {op : CmpOp} {r : R2} (ho : OpR X (compareOp op) r) (ha : PE X a ta) (hb : PE X b tb) (hm : behindInMarks op b = false) : PT X (.Compare a [op] [b] pos) (tTest (tOp r ta tb)) := by
  intro pins s σ H Q I h
  refine wpAny_isTrue_Compare1 (thn (ha pins s σ H _ I h) fun v s1 ⟨x, H1, I1, r1, q1⟩ => thn (hb pins s1 σ H1 _ I1 q1) fun u s2 ⟨y, H2, I2, r2, q2⟩ =>
    thn (ho pins s2 σ H2 x y v u _ I2 r1 r2 q2) fun c s3 ⟨z, H3, I3, r3, k, e, q3⟩ => ?_) hm
  subst e
  cases r3
  exact wpAny_truthy_bool ⟨H3, I3, q3⟩
/-- a op1 b op2 c -/
def tChain (r r' : R2) (ta tb tc : TE) : TE := fun σ H Q => ta σ H fun x H1 => tb σ H1 fun y H2 => r x y H2 fun z H3 => ∃ k, z = .bl k ∧
  (if k = true then tc σ H3 fun w' H4 => r' y w' H4 Q else Q (.bl false) H3)
/-! ### truth -/
/-- a value's truth by the abstract heap -/
def TruV (K : PySem.W.Frag) (x : V) (H : Hp) (k : Bool) : Prop :=
  match x with
  | .non => k = false
  | .bl b => k = b
  | .int i => k = (i != 0)
  | .str y => y.length ≤ sizeLine ∧ k = ((y.length : Int) != 0)
  | .byt y => y.size ≤ sizeLine ∧ k = ((y.size : Int) != 0)
  | .ref p => (∃ xs, SqL K H p xs ∧ k = !xs.isEmpty) ∨ (∃ xs, SqT K H p xs ∧ k = !xs.isEmpty) ∨ ∃ kvs, H p = some (.dK kvs) ∧ k = !kvs.isEmpty
  | _ => False
theorem isEmpty_kv {κ : Type} {kvs : List (κ × V)} {vs : List (κ × Value)} (r : KV kvs vs) : (!vs.isEmpty) = !kvs.isEmpty := by
  cases r <;> rfl
theorem isEmpty_of {xs : List V} {its : List Value} (r : Vals xs its) : (!its.toArray.isEmpty) = !xs.isEmpty := by
  cases r <;> simp
theorem line63 : (sizeLine : Nat) < 2 ^ 63 := by rw [sizeLine_eq]; decide
theorem tru_ok : TruR X (fun x H Q => ∃ k, TruV X.K x H k ∧ Q k H) := by
  intro pins s σ H x v Q I rx h
  obtain ⟨k, e, q⟩ := h
  have hl := line63
  have hs : sizeLine = 16777216 := sizeLine_eq
  cases x with
  | non =>
    cases rx
    have e' : k = false := e
    subst e'
    exact truthy_none ⟨H, I, q⟩
  | bl b =>
    cases rx
    have e' : k = b := e
    subst e'
    exact wpAny_truthy_bool ⟨H, I, q⟩
  | int i =>
    obtain ⟨t, rfl⟩ := rx
    have e' : k = (i != 0) := e
    subst e'
    exact PySem.P.truthy_int ⟨H, I, q⟩
  | str y =>
    obtain ⟨t, rfl⟩ := rx
    obtain ⟨hy, e'⟩ : y.length ≤ sizeLine ∧ k = ((y.length : Int) != 0) := e
    subst e'
    exact PySem.P.truthy_str (by omega) ⟨H, I.tok _, q⟩
  | byt y =>
    obtain ⟨t, rfl⟩ := rx
    obtain ⟨hy, e'⟩ : y.size ≤ sizeLine ∧ k = ((y.size : Int) != 0) := e
    subst e'
    exact PySem.W.truthy_bytes (by omega) ⟨H, I.tok _, q⟩
  | ref p =>
    cases rx
    have e' : (∃ xs, SqL X.K H p xs ∧ k = !xs.isEmpty) ∨ (∃ xs, SqT X.K H p xs ∧ k = !xs.isEmpty) ∨ ∃ kvs, H p = some (.dK kvs) ∧ k = !kvs.isEmpty := e
    rcases e' with ⟨xs, hx, e'⟩ | ⟨xs, hx, e'⟩ | ⟨kvs, hx, e'⟩
    · subst e'
      obtain ⟨its, r, pl, hz⟩ := I.list hx
      have hlen := r.length
      exact wpAny_truthy_list pl.isList (by simp only [List.size_toArray]; omega) ⟨H, I.tok _, by rw [isEmpty_of r]; exact q⟩
    · subst e'
      obtain ⟨its, r, pl, hz⟩ := I.tuple hx
      have hlen := r.length
      exact truthy_tuple pl (by simp only [List.size_toArray]; omega) ⟨H, I.tok _, by rw [isEmpty_of r]; exact q⟩
    · subst e'
      obtain ⟨hz, hS, vs, r, m⟩ : kvs.length ≤ sizeLine ∧ (p == sysModules) = false ∧ ∃ vs, KV kvs vs ∧ s.heap.DictOf (mixKind X.prog X.w) p vs := I.hok p _ hx
      have hlen : kvs.length = vs.length := Paired.length r
      exact wpAny_truthy_dict hS m (by omega) ⟨H, I.tok _, by rw [isEmpty_kv r]; exact q⟩
  | _ => exact (show False from e).elim
/-- any expression whose test is its value's truth (a name, a call, a subscript, a field ..: he by fun _ => rfl) -/
theorem pt_truth (ha : PE X a ta) (he : ∀ whole, isTrue a X.env whole = (do let v ← whole; standAt a.pos; holding [v] (truthy v))) :
    PT X a (fun σ H Q => ta σ H fun x H' => ∃ k, TruV X.K x H' k ∧ Q k H') := by
  intro pins s σ H Q I h
  exact isTrue_plain (thn (ha pins s σ H _ I h) fun v s1 ⟨x, H1, I1, r1, q1⟩ => tru_ok pins s1 σ H1 x v Q I1 r1 q1) (he _)
/-! ### strs and bytes -/
theorem op_add_str : OpR X (binaryOp .Add) (fun x y H Q => ∃ i j, x = .str i ∧ y = .str j ∧ i.length + j.length ≤ sizeLine ∧ Q (.str (i ++ j)) H) := by
  intro pins s σ H x y v u Q I rx ry h
  obtain ⟨i, j, rfl, rfl, hz, q⟩ := h
  obtain ⟨t, rfl⟩ := rx
  obtain ⟨t', rfl⟩ := ry
  exact add_str (fun t' tk => ⟨.str (i ++ j), H, I.tok _, ⟨_, rfl⟩, q⟩) hz
def PlainIxT (b : Expr) : Prop := ∀ o i, subscripted b false o i = operate [o, i] (getItem o i)
/-! ### scalar builtins, by CallR -/
theorem vals1 {x : V} {us : List Value} (r : Vals [x] us) : ∃ u, us = [u] ∧ RelV x u := by
  cases r with
  | cons r1 r2 => cases r2; exact ⟨_, rfl, r1⟩
theorem vals2 {x y : V} {us : List Value} (r : Vals [x, y] us) : ∃ u w', us = [u, w'] ∧ RelV x u ∧ RelV y w' := by
  cases r with
  | cons r1 r2 =>
    cases r2 with
    | cons r3 r4 => cases r4; exact ⟨_, _, rfl, r1, r3⟩
theorem call_int1 : CallR X (.type "int") (fun xs H Q => (∃ i, xs = [.int i] ∧ Q (.int i) H) ∨ ∃ k, xs = [.bl k] ∧ Q (.int (if k then 1 else 0)) H) := by
  intro pins s σ H xs us Q I r h
  rcases h with ⟨i, rfl, q⟩ | ⟨k, rfl, q⟩
  · obtain ⟨u, rfl, t, rfl⟩ := vals1 r
    exact call_int_int ⟨.int i, H, I, ⟨_, rfl⟩, q⟩
  · obtain ⟨u, rfl, r1⟩ := vals1 r
    cases r1
    exact call_int_bool ⟨.int (if k then 1 else 0), H, I.tok _, ⟨_, rfl⟩, q⟩
/-- len of a str, a bytes, a list, a tuple -/
def LenV (K : PySem.W.Frag) (x : V) (H : Hp) (n : Nat) : Prop :=
  match x with
  | .str y => y.length ≤ sizeLine ∧ n = y.length
  | .byt y => y.size ≤ sizeLine ∧ n = y.size
  | .ref p => (∃ xs, SqL K H p xs ∧ n = xs.length) ∨ ∃ xs, SqT K H p xs ∧ n = xs.length
  | _ => False
end
end L2
namespace L2
open PySem PySem.Spec PyProof.Rows
/-! ### an instance, its attributes a map -/
structure ObjM (h : Heap) (x dx C : Addr) (mA : Str → Option Value) : Prop where
  obj : h.get? x = some (PySem.W.instObj C dx)
  ns : h.Ns1 dx mA
  ne : dx ≠ x
theorem lookIn_ns {h : Heap} {dx : Addr} {mA : Str → Option Value} (n : h.Ns1 dx mA) : ∃ od, h.get? dx = some od ∧ ∀ name, PySem.W.lookIn name od = some (mA name) := by
  obtain ⟨o, es, ep, ho, hd, hk, _, hm⟩ := n
  refine ⟨o, ho, fun name => ?_⟩
  have e := hm name
  unfold nsFind findBy at e
  rw [← Array.find?_toList] at e
  unfold PySem.W.lookIn
  rw [hd]
  dsimp only
  split
  · rename_i y q
    rw [q] at e
    exact congrArg some e
  · rename_i q
    rw [q] at e
    have a : es.toList.any (·.refKey) = false := by
      rw [List.any_eq_false]
      intro y hy
      obtain ⟨z, t, hkey⟩ := hk y (Array.mem_toList_iff.mp hy)
      simp [DictEntry.refKey, hkey]
    have a' : ¬ es.toList.any (·.refKey) = true := by rw [a]; exact Bool.false_ne_true
    rw [if_neg a']
    exact congrArg some e
theorem ObjM.look {h : Heap} {x dx C : Addr} {mA : Str → Option Value} (I : ObjM h x dx C mA) : ∃ od, PySem.W.InstAt h x (PySem.W.instObj C dx) C (some od) ∧ ∀ name, PySem.W.lookIn name od = some (mA name) :=
  let ⟨od, ho, hl⟩ := lookIn_ns I.ns
  ⟨od, ⟨I.obj, rfl, rfl, ho⟩, hl⟩
section
variable {prog : Program} {w : World} {A : Around} {E : Value → Shared → Prop} {s : Shared} {K : PySem.W.Frag} {x dx C f : Addr} {mA : Str → Option Value} {name : Str} {v : Value}
end
/-! ### the attributes as a list of pairs -/
def putF (f : Str) (v : V) : List (Str × V) → List (Str × V)
  | [] => [(f, v)]
  | (g, x) :: r => if g = f then (g, v) :: r else (g, x) :: putF f v r
theorem RelO.some_of {v : V} {o : Option Value} (r : RelO (some v) o) : ∃ u, o = some u ∧ RelV v u := by
  cases o with
  | none => exact (show False from r).elim
  | some u => exact ⟨u, rfl, r⟩
section
variable {P : Program} {w : World} {H H' : Hp} {h h' : Heap} {a C dx : Addr} {fs fs' : List (Str × V)}
theorem ins_get (hok : HOk P w H h) (e : H a = some (.ins C dx fs)) : ∃ mA, ObjM h a dx C mA ∧ (∀ f, RelO (fs.lookup f) (mA f)) ∧ PySem.Within mA (fs.map (·.1)) ∧ fs.length ≤ 1000 ∧ H dx = some (.own a) := by
  obtain ⟨d, z, ne, ob, mA, n, r, q⟩ := (show ObjOk P w H h a (.ins C dx fs) from hok a _ e)
  exact ⟨mA, ⟨ob, n, ne⟩, r, q, z, d⟩
end
/-! ### what of the text a class must have -/
structure Cls (K : PySem.W.Frag) (C : Addr) : Prop where
  pg : PySem.W.plainGet K C Str.empty = true
  hd : PySem.W.hasDictIn K C = true
  po : PySem.W.plainOver K C = true
  sa : PySem.W.findIn K (.ref C) "__setattr__" = some (some (.builtin "object.__setattr__"))
theorem Cls.get {K : PySem.W.Frag} {C : Addr} (c : Cls K C) (f : Str) : PySem.W.plainGet K C f = true := c.pg
/-- no class of it has the name -/
def NoAttr (K : PySem.W.Frag) (C : Addr) (f : Str) : Prop := PySem.W.findIn K (.ref C) f = some none
/-- a constant of the class -/
structure Con (K : PySem.W.Frag) (C : Addr) (f : Str) (v : V) (u : Value) : Prop where
  at_ : PySem.W.findIn K (.ref C) f = some (some u)
  rel : RelV v u
  get : PySem.W.specialIn K u "__get__" = some none
  cp : PySem.W.copiedNames.contains f = false
/-- a method: a plain def of the class or of one above it -/
structure Meth (K : PySem.W.Frag) (C : Addr) (m : Str) (f : Addr) : Prop where
  at_ : PySem.W.findIn K (.ref C) m = some (some (.ref f))
  fn : PySem.W.isFn K (.ref f) = true
  kp : PySem.W.keepIn K (.ref f) = true
section
variable {X : Cx} {pins : List (Addr × Obj)} {σ : St} {H : Hp} {s : Shared} {a C dx : Addr} {fs : List (Str × V)} {f : Str} {v : V} {A : Around} {E : Value → Shared → Prop}
end
/-! ### readings and rules -/
/-- e.f, an attribute of the instance -/
def tFld (K : PySem.W.Frag) (ta : TE) (f : Str) : TE := fun σ H Q => ta σ H fun x H1 => ∃ a C dx fs v, x = .ref a ∧ H1 a = some (.ins C dx fs) ∧ Cls K C ∧ NoAttr K C f ∧ fs.lookup f = some v ∧ Q v H1
/-- e.f, a constant of the class -/
def tCon (K : PySem.W.Frag) (ta : TE) (f : Str) : TE := fun σ H Q => ta σ H fun x H1 => ∃ a C dx fs v u, x = .ref a ∧ H1 a = some (.ins C dx fs) ∧ Cls K C ∧ Con K C f v u ∧ fs.lookup f = none ∧ Q v H1
/-- e.f = value -/
def sFld (K : PySem.W.Frag) (ta tv : TE) (f : Str) : TS := fun D σ H => tv σ H fun y H1 => ta σ H1 fun x H2 => ∃ a C dx fs, x = .ref a ∧ H2 a = some (.ins C dx fs) ∧ Cls K C ∧ NoAttr K C f ∧ fs.length < 1000 ∧
  D.nx σ (upd H2 a (.ins C dx (putF f y fs)))
/-- an augmented operator on two values -/
def InOp (X : Cx) (op : Operator) (rd : V → V → Hp → VK → Prop) : Prop :=
  ∀ (pins : List (Addr × Obj)) (s : Shared) (σ : St) (H : Hp) (x y : V) (u v : Value) (Q : VK), Inv X pins σ H s → RelV x u → RelV y v → rd x y H Q → wpAny (model X.prog X.w) X.A (inplaceOp op u v) (EP X pins σ Q) X.xe s
/-- e.f op= value -/
def sFldAug (K : PySem.W.Frag) (ta tv : TE) (rd : V → V → Hp → VK → Prop) (f : Str) : TS := fun D σ H => ta σ H fun x H1 => ∃ a C dx fs v, x = .ref a ∧ H1 a = some (.ins C dx fs) ∧ Cls K C ∧ NoAttr K C f ∧ fs.lookup f = some v ∧
  tv σ H1 fun y H2 => rd v y H2 fun z H3 => ∃ dx' fs', H3 a = some (.ins C dx' fs') ∧ fs'.length < 1000 ∧ D.nx σ (upd H3 a (.ins C dx' (putF f z fs')))
section
variable {X : Cx} {o e value : Expr} {f : Str} {pos pos' tpos : Pos} {ta tv : TE}
def rAdd : V → V → Hp → VK → Prop := fun x y H Q => ∃ i j, x = .int i ∧ y = .int j ∧ Q (.int (i + j)) H
def rSub : V → V → Hp → VK → Prop := fun x y H Q => ∃ i j, x = .int i ∧ y = .int j ∧ Q (.int (i - j)) H
end
/-! ### isinstance -/
section
variable {X : Cx} {pins : List (Addr × Obj)} {σ : St} {H : Hp} {s : Shared} {A : Around} {E : Value → Shared → Prop} {Q : Value → Shared → Prop} {c : Value} {b : Bool}
/-- the type of a value, as the fragment's deciders take it; for an instance its class -/
inductive TyOf (K : PySem.W.Frag) (H : Hp) : V → Value → Prop where
  | non : TyOf K H .non (.type "NoneType")
  | bl (x : Bool) : TyOf K H (.bl x) (.type "bool")
  | int (i : Int) : TyOf K H (.int i) (.type "int")
  | str (x : Str) : TyOf K H (.str x) (.type "str")
  | flt (x : UInt64) : TyOf K H (.flt x) (.type "float")
  | lst {a : Addr} {xs : List V} (e : H a = some (.lst xs)) : TyOf K H (.ref a) (.type "list")
  | frz {a : Addr} {o : Obj} {xs : List V} (e : H a = some (.frz o (.lst xs))) : TyOf K H (.ref a) (.type "list")
  | tup {a : Addr} {xs : List V} (e : H a = some (.tup xs)) : TyOf K H (.ref a) (.type "tuple")
  | dK {a : Addr} {kvs : List (Key × V)} (e : H a = some (.dK kvs)) : TyOf K H (.ref a) (.type "dict")
  | dT {a : Addr} {kvs : List (List Key × V)} (e : H a = some (.dT kvs)) : TyOf K H (.ref a) (.type "dict")
  | ins {a C dx : Addr} {fs : List (Str × V)} (e : H a = some (.ins C dx fs)) (cl : Cls K C) (ha : PySem.W.findIn K (.ref C) "__class__" = some (some (.builtin "object.__class__")))
      (hn : PySem.W.specialIn K (.builtin "object.__class__") "__get__" = some (some (.builtin "getset_descriptor.__get__"))) (htk : PySem.W.takesIn K (.builtin "object.__class__") = some true)
      (hm : PySem.W.mroIn K C (.type "object") = some true) : TyOf K H (.ref a) (.ref C)
/-- isinstance(x, c) for one class c, a built-in or an own one: kitOne's answer -/
theorem isinst_ok {x : V} {u t : Value} (I : Inv X pins σ H s) (rx : RelV x u) (ty : TyOf X.K H x t) (e : PySem.W.kitOne X.K t c = some b) (h : ∀ tk, Q (.bool b) { s with toks := tk }) :
    wpAny (model X.prog X.w) A (call (.builtin "isinstance") [u, c]) Q E s := by
  cases ty with
  | non => cases (show u = Value.none from rx); exact PySem.W.kia_one PySem.W.kitx_none I.kIn True.intro e (fun z => nomatch z) h
  | bl y => cases (show u = Value.bool y from rx); exact PySem.W.kia_one PySem.W.kitx_bool I.kIn True.intro e (fun z => nomatch z) h
  | int i => obtain ⟨t, q⟩ := (show ∃ t, u = Value.int i t from rx); cases q; exact PySem.W.kia_one PySem.W.kitx_int I.kIn True.intro e (fun z => nomatch z) h
  | str y => obtain ⟨t, q⟩ := (show ∃ t, u = Value.str y t from rx); cases q; exact PySem.W.kia_one PySem.W.kitx_str I.kIn True.intro e (fun z => nomatch z) h
  | flt y => obtain ⟨t, q⟩ := (show ∃ t, u = Value.float y t from rx); cases q; exact PySem.W.kia_one PySem.W.kitx_float I.kIn True.intro e (fun z => nomatch z) h
  | @lst a xs ea =>
    cases (show u = Value.ref a from rx)
    obtain ⟨_, _, n, _, h1⟩ := (show ObjOk X.prog X.w H s.heap a (.lst xs) from I.hok a _ ea)
    exact PySem.W.kia_one PySem.W.kitx_list I.kIn ⟨_, h1, rfl⟩ e (fun z => nomatch z) h
  | @frz a ob xs ea =>
    cases (show u = Value.ref a from rx)
    obtain ⟨_, _, _, n, _, h1⟩ := (show ObjOk X.prog X.w H s.heap a (.frz ob (.lst xs)) from I.hok a _ ea)
    exact PySem.W.kia_one PySem.W.kitx_list I.kIn ⟨_, h1, rfl⟩ e (fun z => nomatch z) h
  | @tup a xs ea =>
    cases (show u = Value.ref a from rx)
    obtain ⟨_, _, _, p⟩ := (show ObjOk X.prog X.w H s.heap a (.tup xs) from I.hok a _ ea)
    obtain ⟨o, h1, h2, _⟩ := p
    exact PySem.W.kia_one PySem.W.kitx_tuple I.kIn ⟨o, h1, h2⟩ e (fun z => nomatch z) h
  | @dK a kvs ea =>
    cases (show u = Value.ref a from rx)
    obtain ⟨_, _, vs, _, p⟩ := (show ObjOk X.prog X.w H s.heap a (.dK kvs) from I.hok a _ ea)
    obtain ⟨o, es, ep, h1, h2, _⟩ := p
    exact PySem.W.kia_one PySem.W.kitx_dict I.kIn ⟨o, h1, h2.1⟩ e (fun z => nomatch z) h
  | @dT a kvs ea =>
    cases (show u = Value.ref a from rx)
    obtain ⟨_, _, xs, _, o, es, ep, h1, h2, _⟩ := (show ObjOk X.prog X.w H s.heap a (.dT kvs) from I.hok a _ ea)
    exact PySem.W.kia_one PySem.W.kitx_dict I.kIn ⟨o, h1, h2.1⟩ e (fun z => nomatch z) h
  | @ins a C dx fs ea cl ha hn htk hm =>
    cases (show u = Value.ref a from rx)
    obtain ⟨mA, O, _⟩ := ins_get I.hok ea
    obtain ⟨od, J, _⟩ := O.look
    exact PySem.W.kia_one (PySem.W.kitx_own (cl.get _) cl.hd ha hn htk hm) I.kIn J e (fun z => nomatch z) h
end
end L2
namespace L2
open PySem PySem.Spec PyProof.Rows
/-! ### room -/
structure Room (k : Nat) (A : Around) : Prop where
  hd : A.handled = none
  dp : A.depth + 3 * k + 5 < recursionLimit
  un : A.units + 16 * k + 200 < cLine
theorem Room.mono {j k : Nat} {A : Around} (r : Room k A) (h : j ≤ k) : Room j A := ⟨r.hd, by have := r.dp; omega, by have := r.un; omega⟩
theorem Room.deeper {k : Nat} {A : Around} (r : Room (k + 1) A) (env : Env) : Room k (A.deeper env) :=
  ⟨r.hd, by have := r.dp; show A.depth + 1 + 3 * k + 5 < _; omega, by have := r.un; show A.units + 3 + 16 * k + 200 < _; omega⟩
theorem Room.depth {k : Nat} {A : Around} (r : Room k A) : A.depth < recursionLimit := by have := r.dp; omega
theorem Room.units {k : Nat} {A : Around} (r : Room k A) : A.units + 64 < cLine := by have := r.un; omega
/-! ### argument lists and displays -/
def tNil : TA := fun _ H Q => Q [] H
def tCons (ta : TE) (tr : TA) : TA := fun σ H Q => ta σ H fun x H1 => tr σ H1 fun xs H2 => Q (x :: xs) H2
section
variable {X : Cx} {e : Expr} {es : List Expr} {te : TE} {t : TA} {pos : Pos}
theorem pa_nil : PA X [] tNil := fun _ _ _ _ H Q I h => Calls.spliced_nil ⟨[], H, I, .nil, h⟩
theorem pa_cons (ha : PE X e te) (hr : PA X es t) (hs : starEach (e :: es) X.env = (false, eval e X.env) :: starEach es X.env := by rfl) : PA X (e :: es) (tCons te t) := by
  intro pos pins s σ H Q I h
  rw [hs]
  show wpAny _ _ (spliced ((false, eval e X.env) :: backTo pos (starEach es X.env))) _ _ s
  refine Calls.spliced_cons (thn (ha pins s σ H _ I h) fun u s1 ⟨x, H1, I1, r1, q1⟩ => ?_)
  exact thn (hr pos pins s1 σ H1 _ I1 q1) fun us s2 ⟨xs, H2, I2, r2, q2⟩ => ⟨x :: xs, H2, I2, .cons r1 r2, q2⟩
/-- a tuple, a list of written items -/
def tTup (t : TA) : TE := fun σ H Q => t σ H fun xs H1 => xs.length ≤ sizeLine ∧ ∀ p, H1 p = none → Q (.ref p) (upd H1 p (.tup xs))
def tLst (t : TA) : TE := fun σ H Q => t σ H fun xs H1 => xs.length ≤ sizeLine ∧ ∀ p, H1 p = none → Q (.ref p) (upd H1 p (.lst xs))
theorem pe_tup {x1} (h : PA X es t) : PE X (.Tuple es x1 pos) (tTup t) := by
  intro pins s σ H Q I hq
  refine wpAny_Tuple_spliced (thn (h pos pins s σ H _ I hq) fun us s1 ⟨xs, H1, I1, r, z, q⟩ => ⟨by rw [← r.length]; exact z, ?_⟩)
  have hf : H1 s1.heap.objs.size = none := I1.hok.fresh (Nat.le_refl _)
  refine ⟨.ref s1.heap.objs.size, upd H1 s1.heap.objs.size (.tup xs), I1.laid (t' := s1.toks) (fun b u e => Heap.get?_push_of_some _ e) (Nat.le_refl _) ?_, rfl, q _ hf⟩
  exact ⟨z, us, r, ⟨_, Heap.get?_push_size _ rfl, rfl, _, rfl⟩⟩
theorem pe_lst (h : PA X es t) : PE X (.List es pos) (tLst t) := by
  intro pins s σ H Q I hq
  refine wpAny_List_spliced (thn (h pos pins s σ H _ I hq) fun us s1 ⟨xs, H1, I1, r, z, q⟩ => ⟨by rw [← r.length]; exact z, ?_⟩)
  have hf : H1 s1.heap.objs.size = none := I1.hok.fresh (Nat.le_refl _)
  refine ⟨.ref s1.heap.objs.size, upd H1 s1.heap.objs.size (.lst xs), I1.laid (t' := s1.toks) (fun b u e => Heap.get?_push_of_some _ e) (Nat.le_refl _) ?_, rfl, q _ hf⟩
  exact ⟨z, us, 0, r, Heap.get?_push_size _ rfl⟩
end
/-! ### what a def promises -/
/-- a def's promise: the bound arguments in the parameters' order, the heap, the wanted end, the wanted exception -/
abbrev Sp := List V → Hp → VK → XK → Prop
/-- how an exception lies behind a call (file 08 gives it): the callers' frames, abstract heap and state ahead of the call, the wish, the exception, the state -/
abbrev CXT := List Env → Hp → Shared → XK → Value → Shared → Prop
/-- the state at a call -/
structure Env0 (P : Program) (w : World) (K : PySem.W.Frag) (mg : Str → Option Value) (base : Heap) (A : Around) (outer : List Env) (s : Shared) (H : Hp) : Prop where
  frames : A.frames = some outer
  mod : Mod K mg base
  bs : ∀ b o, base.get? b = some o → s.heap.get? b = some o ∧ H b = none
  bsz : base.objs.size ≤ s.heap.objs.size
  funs : s.heap.FunFrames base outer
  frf : ∀ b ∈ frs outer, H b = none
  hok : HOk P w H s.heap
  bare : AllBare s.gens
/-- a call's end -/
def CE (outer : List Env) (P : Program) (w : World) (H : Hp) (s : Shared) (Q : VK) (u : Value) (s' : Shared) : Prop :=
  ∃ v H', s'.os = s.os ∧ AllBare s'.gens ∧ Un (frs outer) [] H H' s.heap s'.heap ∧ HOk P w H' s'.heap ∧ RelV v u ∧ Q v H'
def CR (CX : CXT) (outer : List Env) (P : Program) (w : World) (H : Hp) (s : Shared) (Q : VK) (E : XK) (r : Result) (s' : Shared) : Prop :=
  match r with
  | .ok (.ret u) => CE outer P w H s Q u s'
  | .ok _ => False
  | .error e => CX outer H s E e s'
structure FnOk (P : Program) (w : World) (K : PySem.W.Frag) (mg : Str → Option Value) (base : Heap) (CX : CXT) (k : Nat) (f : Addr) (fd : FuncData) (ps : List Str) (sp : Sp) : Prop where
  len : ∀ vs H Q E, sp vs H Q E → vs.length = ps.length
  run : ∀ (A : Around) (outer : List Env) (s : Shared) (H : Hp) (args : Args) (us : List Value) (vs : List V) (Q : VK) (E : XK), Room k A → Env0 P w K mg base A outer s H → BindsTo s fd args (ps.zip us) → Vals vs us → sp vs H Q E →
    codeAny (model P w) A (.call (.ref f) args) (CR CX outer P w H s Q E) s
theorem FnOk.mono {P : Program} {w : World} {K : PySem.W.Frag} {mg : Str → Option Value} {base : Heap} {CX : CXT} {j k : Nat} {f : Addr} {fd : FuncData} {ps : List Str} {sp : Sp} (F : FnOk P w K mg base CX j f fd ps sp) (h : j ≤ k) :
    FnOk P w K mg base CX k f fd ps sp := ⟨F.len, fun A outer s H args us vs Q E hr => F.run A outer s H args us vs Q E (hr.mono h)⟩
/-- a weaker promise -/
theorem FnOk.imp {P : Program} {w : World} {K : PySem.W.Frag} {mg : Str → Option Value} {base : Heap} {CX : CXT} {k : Nat} {f : Addr} {fd : FuncData} {ps : List Str} {sp sp' : Sp} (F : FnOk P w K mg base CX k f fd ps sp)
    (h : ∀ vs H Q E, sp' vs H Q E → sp vs H Q E) : FnOk P w K mg base CX k f fd ps sp' :=
  ⟨fun vs H Q E q => F.len vs H Q E (h _ _ _ _ q), fun A outer s H args us vs Q E hr he hb hv hs => F.run A outer s H args us vs Q E hr he hb hv (h _ _ _ _ hs)⟩
section
variable {X : Cx} {pins : List (Addr × Obj)} {σ : St} {H : Hp} {s s' : Shared}
/-- from a body: what a callee wants -/
theorem Inv.env0 (I : Inv X pins σ H s) : Env0 X.prog X.w X.K X.mg X.base X.A X.stack s H :=
  ⟨I.ok.frames, I.ok.mod, I.bs, Nat.le_trans I.ok.bsz I.sz, I.stack, I.stkFree, I.hok, I.bare⟩
/-- behind a call -/
theorem Inv.after {Q : VK} {u : Value} (I : Inv X pins σ H s) (h : CE X.stack X.prog X.w H s Q u s') : EP X pins σ Q u s' := by
  obtain ⟨v, H', os, bare, un, hok, r, q⟩ := h
  obtain ⟨hh, g, d, t, os'⟩ := s'
  obtain rfl : os' = s.os := os
  exact ⟨v, H', I.call (h' := hh) (g' := g) (d' := d) (t' := t) (ch := []) un hok bare (fun b z => absurd z (by simp)), r, q⟩
end
/-! ### calls -/
/-- f(..): the written arguments, then the defaults dvs; E: what is wanted of an exception -/
def tCall (sp : Sp) (dvs : List V) (E : XK) (t : TA) : TE := fun σ H Q => t σ H fun vs H1 => sp (vs ++ dvs) H1 Q E
/-- o.m(..) of an instance of the class at C -/
def tMeth (C : Addr) (m : Str) (sp : Sp) (dvs : List V) (E : XK) (ta : TE) (t : TA) : TE := fun σ H Q => ta σ H fun x H1 => ∃ a dx fs, x = .ref a ∧ H1 a = some (.ins C dx fs) ∧ fs.lookup m = none ∧
  t σ H1 fun vs H2 => sp (x :: (vs ++ dvs)) H2 Q E
/-- C(..): a new instance and its dict, then __init__ -/
def tMake (C : Addr) (sp : Sp) (dvs : List V) (E : XK) (t : TA) : TE := fun σ H Q => t σ H fun vs H1 => ∀ x dx, H1 x = none → H1 dx = none → dx ≠ x →
  sp (.ref x :: (vs ++ dvs)) (upd (upd H1 dx (.own x)) x (.ins C dx [])) (fun v H2 => v = .non ∧ Q (.ref x) H2) E
/-- how the parameters are bound: us the positional arguments, kw the keywords' values by name, ds the defaults that fill up -/
def Binds (K : PySem.W.Frag) (fd : FuncData) (ps : List Str) (ds : List Value) : Prop :=
  ∀ (s : Shared) (us : List Value), K.In s.heap → (us ++ ds).length = ps.length → BindsTo s fd ⟨us, []⟩ (ps.zip (us ++ ds))
/-- every parameter is given -/
theorem Binds.all {K : PySem.W.Frag} {fd : FuncData} {ps : List Str} (h : ∀ us : List Value, us.length = ps.length → bindArgs fd ⟨us, []⟩ = pure (ps.zip us)) : Binds K fd ps [] := fun s us _ hl => by
  rw [List.append_nil] at hl ⊢
  exact .of_eq (h us hl)
/-- an exception of a callee reaches what this body wants of exceptions -/
def Passes (CX : CXT) (X : Cx) (E : XK) : Prop := ∀ (pins : List (Addr × Obj)) (σ : St) (H : Hp) (s : Shared) (e : Value) (s' : Shared), Inv X pins σ H s → CX X.stack H s E e s' → X.xe e s'
section
variable {X : Cx} {CX : CXT} {k : Nat} {f C : Addr} {fd : FuncData} {ps : List Str} {sp : Sp} {dvs : List V} {ds : List Value} {E : XK} {x m : Str} {p pos apos : Pos} {e o : Expr} {es : List Expr} {ta : TE} {t : TA}
/-- the callee runs -/
theorem run_fn {pins : List (Addr × Obj)} {σ : St} {H : Hp} {s : Shared} {Q : VK} {us : List Value} {vs : List V} (F : FnOk X.prog X.w X.K X.mg X.base CX k f fd ps sp) (hr : Room k X.A) (hb : Binds X.K fd ps ds) (hd : Vals dvs ds) (hx : Passes CX X E)
    (I : Inv X pins σ H s) (r : Vals vs us) (h : sp (vs ++ dvs) H Q E) : wpAny (model X.prog X.w) X.A (call (.ref f) us) (EP X pins σ Q) X.xe s := by
  have r2 : Vals (vs ++ dvs) (us ++ ds) := r.append hd
  have hl : (us ++ ds).length = ps.length := by rw [← r2.length]; exact F.len _ _ _ _ h
  refine wpAny_call (codeAny_mono (F.run X.A X.stack s H ⟨us, []⟩ (us ++ ds) (vs ++ dvs) Q E hr I.env0 (hb s us I.kIn hl) r2 h) fun r s' hq => ?_)
  cases r with
  | error e => exact hx pins σ H s e s' I hq
  | ok fl =>
    cases fl with
    | ret u => exact I.after hq
    | next => exact False.elim hq
    | brk => exact False.elim hq
    | cont => exact False.elim hq
theorem pe_call (F : FnOk X.prog X.w X.K X.mg X.base CX k f fd ps sp) (hr : Room k X.A) (hg : Gl X x) (hm : X.mg x = some (.ref f)) (hk : PySem.W.keepIn X.K (.ref f) = true) (hb : Binds X.K fd ps ds) (hd : Vals dvs ds) (hx : Passes CX X E)
    (ha : PA X (e :: es) t) (hdb : (x == ("__debug__" : Str)) = false := by decide) (he : starEach (e :: es) X.env = (false, eval e X.env) :: starEach es X.env := by rfl) (hpl : (backTo pos (starEach es X.env)).any (·.1) = false := by rfl) :
    PE X (.Call (.Name x p) (e :: es) [] pos) (tCall sp dvs E t) := by
  intro pins s σ H Q I h
  refine wpAny_Call_Name_kw (ld_glob I hg hm ?_ hdb)
  refine PySem.W.callWith_K (h₀ := X.base) I.ok.mod.kin hk (thn (ha pos pins s σ H _ I h) fun us s1 ⟨vs, H1, I1, r, q⟩ => ⟨I1.kIn, ?_⟩) he hpl
  exact run_fn F hr hb hd hx I1 r q
theorem pe_call0 (F : FnOk X.prog X.w X.K X.mg X.base CX k f fd ps sp) (hr : Room k X.A) (hg : Gl X x) (hm : X.mg x = some (.ref f)) (hk : PySem.W.keepIn X.K (.ref f) = true) (hb : Binds X.K fd ps ds) (hd : Vals dvs ds) (hx : Passes CX X E)
    (hdb : (x == ("__debug__" : Str)) = false := by decide) : PE X (.Call (.Name x p) [] [] pos) (tCall sp dvs E tNil) := by
  intro pins s σ H Q I h
  refine wpAny_Call_Name_kw (ld_glob I hg hm ?_ hdb)
  exact PySem.W.callWith_K0 I.kIn hk (run_fn (us := []) F hr hb hd hx I .nil h)
/-- what a class must have to be made -/
structure Mk (K : PySem.W.Frag) (C f : Addr) : Prop where
  makes : PySem.W.makesIn K C = true
  init : PySem.W.findIn K (.ref C) "__init__" = some (some (.ref f))
  fn : PySem.W.isFn K (.ref f) = true
  kp : PySem.W.keepIn K (.ref C) = true
end
/-! ### keywords -/
/-- the values of the keywords, from the left -/
def PK (X : Cx) (kws : List Keyword) (t : TA) : Prop :=
  ∀ (pos : Pos) (pins : List (Addr × Obj)) (s : Shared) (σ : St) (H : Hp) (Q : List V → Hp → Prop), Inv X pins σ H s → t σ H Q → wpAny (model X.prog X.w) X.A (evalAll ((backToKw pos (keywordEach kws X.env)).map (·.2))) (AP X pins σ Q) X.xe s
section
variable {X : Cx} {CX : CXT} {k : Nat} {f C : Addr} {fd : FuncData} {ps ks : List Str} {sp : Sp} {E : XK} {x m : Str} {p pos apos kpos : Pos} {e o : Expr} {es : List Expr} {kws : List Keyword} {te ta : TE} {t tk : TA} {nm : Option Str}
/-- how a call with keywords binds: g puts the positional values us and the keywords' values ws (names ks) in the parameters' order, defaults among them -/
structure KBinds (K : PySem.W.Frag) (fd : FuncData) (ps ks : List Str) (g : List Value → List Value → List Value) (gV : List V → List V → List V) : Prop where
  to : ∀ (s : Shared) (us ws : List Value), K.In s.heap → (g us ws).length = ps.length → BindsTo s fd ⟨us, ks.zip ws⟩ (ps.zip (g us ws))
  rel : ∀ {vs : List V} {us : List Value} {zs : List V} {ws : List Value}, Vals vs us → Vals zs ws → Vals (gV vs zs) (g us ws)
def tCallK (sp : Sp) (gV : List V → List V → List V) (E : XK) (t tk : TA) : TE := fun σ H Q => t σ H fun vs H1 => tk σ H1 fun zs H2 => sp (gV vs zs) H2 Q E
variable {g : List Value → List Value → List Value} {gV : List V → List V → List V}
end
/-! ### a def's body keeps its promise -/
/-- names: the parameters first -/
structure FnScope (N P : List Str) (sc : Scope) : Prop where
  kind : sc.kind = .function
  co : sc.isCoroutine = false
  gen : sc.isGenerator = false
  nd : N.Nodup
  pre : N.take P.length = P
  par : ∀ x ∈ P, sc.names.lookup x = some .local ∨ sc.names.lookup x = some .cell
  nofree : ∀ y ∈ sc.names, y.2 ≠ .free
theorem bindL_out {kindOf : Str → Option NameKind} {x : Str} : ∀ {binds : List (Str × Value)} {m : Str → Option Value}, (∀ v, (x, v) ∉ binds) → bindL kindOf binds m x = m x
  | [], _, _ => rfl
  | (n, v) :: r, m, h => by
    unfold bindL
    rw [bindL_out fun w hw => h w (List.mem_cons_of_mem _ hw)]
    split
    · have : x ≠ n := by rintro rfl; exact h v List.mem_cons_self
      simp [this]
    · rfl
theorem bindC_out {kindOf : Str → Option NameKind} {x : Str} : ∀ {binds : List (Str × Value)} {m : Str → Option Value}, (∀ v, (x, v) ∉ binds) → bindC kindOf binds m x = m x
  | [], _, _ => rfl
  | (n, v) :: r, m, h => by
    unfold bindC
    rw [bindC_out fun w hw => h w (List.mem_cons_of_mem _ hw)]
    split
    · rfl
    · have : x ≠ n := by rintro rfl; exact h v List.mem_cons_self
      simp [this]
theorem bindL_get {kindOf : Str → Option NameKind} {x : Str} {v : Value} : ∀ {P : List Str} {vs : List Value} {i : Nat} {m : Str → Option Value}, P.Nodup → P[i]? = some x → vs[i]? = some v → kindOf x = some .local →
    bindL kindOf (P.zip vs) m x = some v
  | [], _, _, _, _, h, _, _ => by simp at h
  | _ :: _, [], _, _, _, _, h, _ => by simp at h
  | p :: P, w :: vs, 0, m, nd, h1, h2, hk => by
    simp at h1 h2; subst h1; subst h2
    show bindL kindOf ((p, w) :: P.zip vs) m p = _
    unfold bindL
    rw [bindL_out fun v hv => (List.nodup_cons.mp nd).1 (List.of_mem_zip hv).1, if_pos hk]
    simp
  | p :: P, w :: vs, i + 1, m, nd, h1, h2, hk => by
    show bindL kindOf ((p, w) :: P.zip vs) m x = _
    unfold bindL
    exact bindL_get (i := i) (List.nodup_cons.mp nd).2 (by simpa using h1) (by simpa using h2) hk
theorem bindC_get {kindOf : Str → Option NameKind} {x : Str} {v : Value} : ∀ {P : List Str} {vs : List Value} {i : Nat} {m : Str → Option Value}, P.Nodup → P[i]? = some x → vs[i]? = some v → kindOf x ≠ some .local →
    bindC kindOf (P.zip vs) m x = some v
  | [], _, _, _, _, h, _, _ => by simp at h
  | _ :: _, [], _, _, _, _, h, _ => by simp at h
  | p :: P, w :: vs, 0, m, nd, h1, h2, hk => by
    simp at h1 h2; subst h1; subst h2
    show bindC kindOf ((p, w) :: P.zip vs) m p = _
    unfold bindC
    rw [bindC_out fun v hv => (List.nodup_cons.mp nd).1 (List.of_mem_zip hv).1, if_neg hk]
    simp
  | p :: P, w :: vs, i + 1, m, nd, h1, h2, hk => by
    show bindC kindOf ((p, w) :: P.zip vs) m x = _
    unfold bindC
    exact bindC_get (i := i) (List.nodup_cons.mp nd).2 (by simpa using h1) (by simpa using h2) hk
/-- the names' values at the entry -/
def start (N : List Str) (vs : List V) : St := vs.map some ++ List.replicate (N.length - vs.length) none
/-- the context of a def's body, at its entry; an exception leaves the frame, then lies as CX says -/
def cxOf (CX : CXT) (P : Program) (w : World) (K : PySem.W.Frag) (mg : Str → Option Value) (base : Heap) (N : List Str) (qual : Str) (scope : Scope) (f : Addr) (cd : Value) (A : Around) (outer : List Env) (s : Shared) (H : Hp) (E : XK) : Cx where
  prog := P
  w := w
  K := K
  mg := mg
  base := base
  A := A.deeper (envOfC qual scope s.heap.objs.size f cd)
  N := N
  s₀ := s
  H₀ := H
  env := envOfC qual scope s.heap.objs.size f cd
  outer := outer
  stack := envOfC qual scope s.heap.objs.size f cd :: outer
  ex := []
  calm := true
  fn := fun _ => true
  pn := []
  xe := fun e s' => wpAny (model P w) (A.deeper (envOfC qual scope s.heap.objs.size f cd)) (leaving (envOfC qual scope s.heap.objs.size f cd) e) (fun _ s'' => CX outer H s E e s'') (fun e' s'' => CX outer H s E e' s'') s'
theorem cell_has {sc : Scope} {n : Nat} {x : Str} (h : sc.names.lookup x = some .cell) : ∃ c, (cellsFrom n sc.names []).lookup x = some c := by
  have q := PySem.W.cellsFrom_some sc.names n [] (.inl h)
  exact Option.isSome_iff_exists.mp q
theorem inv_start {CX : CXT} {P : Program} {w : World} {K : PySem.W.Frag} {mg : Str → Option Value} {base : Heap} {N ps : List Str} {qual : Str} {scope : Scope} {f : Addr} {cd : Value} {A : Around} {outer : List Env} {s s1 : Shared} {H : Hp} {E : XK} {us : List Value} {vs : List V}
    (S : FnScope N ps scope) (hd : A.handled = none) (e0 : Env0 P w K mg base A outer s H) (hl : vs.length = ps.length) (r : Vals vs us)
    (x : InCallC s s.heap.objs.size (bindL (envOfC qual scope s.heap.objs.size f cd).kindOf (ps.zip us) fun _ => none) (cellsFrom (s.heap.objs.size + 1) scope.names []) (bindC (envOfC qual scope s.heap.objs.size f cd).kindOf (ps.zip us) fun _ => none) s1) :
    Inv (cxOf CX P w K mg base N qual scope f cd A outer s H E) [] (start N vs) H s1 := by
  have hpl : ps.length ≤ N.length := by have := congrArg List.length S.pre; rw [List.length_take] at this; omega
  obtain ⟨h1, tk, rfl, hk⟩ := x.done
  have noA : ∀ b : Addr, b ∉ (cxOf CX P w K mg base N qual scope f cd A outer s H E).ex := fun b z => absurd (show b ∈ ([] : List Addr) from z) (by simp)
  refine ⟨⟨e0.mod, S.kind, rfl, rfl, Nat.le_refl _, fun y z c h1 h2 => ?_, fun y hy => ?_, fun y c _ h => ?_, fun _ => hd, Around.frames_deeper e0.frames, .inr ⟨rfl, rfl⟩, fun b z => absurd z (noA b), e0.bs, e0.bsz, fun b _ _ => noA b, fun b z => absurd z (noA b), e0.funs, e0.frf⟩,
    rfl, e0.bare, Un.kept hk, ⟨_, x.toInCall.ns, fun i y v h1 h2 h3 => ?_⟩, fun y c h => ⟨_, x.cell y c h⟩, e0.hok.fresh (Nat.le_refl _), fun y c h => ?_, fun p hp => absurd (show p ∈ ([] : List (Addr × Obj)) from hp) (by simp), e0.hok.kept hk, ?_⟩
  · exact name_of_addr x.apart (PySem.mem_of_lookup h1) (PySem.mem_of_lookup h2)
  · have hy : scope.names.lookup y = some .cell ∨ scope.names.lookup y = some .free := hy
    rcases hy with hy | hy
    · exact cell_has hy
    · exact absurd rfl (S.nofree _ (PySem.mem_of_lookup hy))
  · exact Nat.le_of_lt (x.above y c (PySem.mem_of_lookup h))
  · have hi : i < vs.length := by
      unfold start at h2
      by_cases hi : i < vs.length
      · exact hi
      · rw [List.getElem?_append_right (by simpa using hi)] at h2
        rw [List.getElem?_replicate] at h2
        split at h2 <;> cases h2
    have ha : vs[i]? = some v := by
      unfold start at h2
      rw [List.getElem?_append_left (by simpa using hi), List.getElem?_map] at h2
      cases e : vs[i]? with
      | none => rw [e] at h2; cases h2
      | some a => rw [e] at h2; cases h2; rfl
    obtain ⟨u, hu, rv⟩ := r.get ha
    have hp : ps[i]? = some y := by
      rw [← S.pre, List.getElem?_take_of_lt (by omega)]; exact h1
    have ndP : ps.Nodup := by rw [← S.pre]; exact S.nd.sublist (List.take_sublist _ _)
    refine ⟨u, rv, ?_⟩
    rcases S.par y (List.mem_of_getElem? hp) with k | k
    · exact .inl ⟨k, bindL_get ndP hp hu k⟩
    · obtain ⟨c, e⟩ := cell_has (n := s.heap.objs.size + 1) k
      refine .inr ⟨.inl k, c, e, ?_⟩
      have q := x.cell y c e
      rw [bindC_get ndP hp hu (by show scope.names.lookup y ≠ _; rw [k]; decide)] at q
      exact q
  · exact e0.hok.fresh (Nat.le_of_lt (x.above y c (PySem.mem_of_lookup h)))
  · unfold start
    show _ = N.length
    rw [List.length_append, List.length_map, List.length_replicate]
    omega
/-- THE RULE: a def (or a method) of the text, by its body. The body's reading t is chosen for each entry; it is run at the parameters' values -/
theorem fn_of {CX : CXT} {P : Program} {w : World} {K : PySem.W.Frag} {mg : Str → Option Value} {base : Heap} {k : Nat} {f : Addr} {name qual : Str} {params : Arguments} {body : List Stmt} {scope : Scope} {dV kV doc pm cdv ct oc : Value} {an od : Option Addr}
    {osl : Array (Option Value)} {N ps : List Str} {sp : Sp} (lk : K.lookup f = some ⟨oc, od, .func (PySem.W.fnOf name qual params body scope dV kV doc pm an cdv ct), osl⟩) (hcd : PySem.W.codeIn K cdv qual = true) (S : FnScope N ps scope)
    (len : ∀ vs H Q E, sp vs H Q E → vs.length = ps.length)
    (hbody : ∀ (A : Around) (outer : List Env) (s : Shared) (H : Hp) (vs : List V) (Q : VK) (E : XK), Room k (A.deeper (envOfC qual scope s.heap.objs.size f cdv)) → sp vs H Q E →
      ∃ t, PSs (cxOf CX P w K mg base N qual scope f cdv A outer s H E) body t ∧ t { nx := fun _ H' => Q .non H', rt := Q } (start N vs) H) :
    FnOk P w K mg base CX (k + 1) f (PySem.W.fnOf name qual params body scope dV kV doc pm an cdv ct) ps sp := by
  refine ⟨len, fun A outer s H args us vs Q E hr e0 hb r hsp => ?_⟩
  have hl := len _ _ _ _ hsp
  have KX : K.In s.heap := e0.mod.kin.keeps fun b o e => (e0.bs b o e).1
  have lim : s.heap.NoLimit := e0.mod.nolimit.keeps fun b o e => (e0.bs b o e).1
  have hkind : ∀ y ∈ ps.zip us, scope.names.lookup y.1 = some .local ∨ (scope.names.lookup y.1 = some .cell ∧ ((cellsFrom (s.heap.objs.size + 1) scope.names []).lookup y.1).isSome = true) := fun ⟨n, v⟩ hy => by
    rcases S.par n (List.of_mem_zip hy).1 with q | q
    · exact .inl q
    · exact .inr ⟨q, PySem.W.cellsFrom_some _ _ _ (.inl q)⟩
  refine codeAny_call_function hr.depth (KX _ _ lk) rfl S.co S.gen rfl (PySem.W.codeRec_of KX hcd) (hb _ _ _ _ ?_)
  refine wpAny_newFunctionEnv_cells S.kind hkind fun env he s1 x => ?_
  subst he
  refine ⟨lim.keeps x.toInCall.keep, codeAny_func ?_⟩
  obtain ⟨t, ht, hq⟩ := hbody A outer s H vs Q E (hr.deeper _) hsp
  have I : Inv (cxOf CX P w K mg base N qual scope f cdv A outer s H E) [] (start N vs) H s1 := inv_start S hr.hd e0 hl r x
  refine wpAny_mono (ht [] s1 (start N vs) H _ I hq) (fun fl s' hs => ?_) fun e s' hs => hs
  have fin : ∀ {σ' : St} {H' : Hp} {v : V} {u : Value}, Inv (cxOf CX P w K mg base N qual scope f cdv A outer s H E) [] σ' H' s' → RelV v u → Q v H' → CE outer P w H s Q u s' :=
    fun {σ' H' v u} J rv q => ⟨v, H', J.os, J.bare, J.base, J.hok, rv, q⟩
  cases fl with
  | ret u =>
    obtain ⟨v, σ', H', J, rv, q⟩ := hs
    exact fin J rv q
  | next =>
    obtain ⟨σ', H', J, q⟩ := hs
    exact fin (v := V.non) (u := Value.none) J rfl q
  | brk =>
    obtain ⟨_, _, _, q⟩ := hs
    exact False.elim q
  | cont =>
    obtain ⟨_, _, _, q⟩ := hs
    exact False.elim q
end L2
namespace L2
open PySem PySem.Spec PyProof.Rows
section
variable {X : Cx} {x : Str} {p pos : Pos} {e : Expr} {es : List Expr} {t : TA} {id T : String} {r : List V → Hp → VK → Prop}
def tCB (r : List V → Hp → VK → Prop) (t : TA) : TE := fun σ H Q => t σ H fun vs H1 => r vs H1 Q
/-- f(e, ..), f a built-in function -/
theorem pe_callB (hc : CallR X (.builtin id) r) (hg : Gl X x) (hm : X.mg x = none) (hv : bootBuiltins x = some (.builtin id)) (ha : PA X (e :: es) t) (hn : x ≠ "__name__" := by decide) (hdb : (x == ("__debug__" : Str)) = false := by decide)
    (he : starEach (e :: es) X.env = (false, eval e X.env) :: starEach es X.env := by rfl) (hpl : (backTo pos (starEach es X.env)).any (·.1) = false := by rfl) : PE X (.Call (.Name x p) (e :: es) [] pos) (tCB r t) := by
  intro pins s σ H Q I h
  refine wpAny_Call_Name_kw (ld_blt I hg hm hv ?_ hn hdb)
  exact PyProof.Rows.callWith_builtin1 (thn (ha pos pins s σ H _ I h) fun us s1 ⟨vs, H1, I1, r1, q1⟩ => hc pins s1 σ H1 vs us Q I1 r1 q1) he hpl
/-- T(e, ..), T a built-in type -/
theorem pe_callTy (hc : CallR X (.type T) r) (hg : Gl X x) (hm : X.mg x = none) (hv : bootBuiltins x = some (.type T)) (ha : PA X (e :: es) t) (hn : x ≠ "__name__" := by decide) (hdb : (x == ("__debug__" : Str)) = false := by decide)
    (he : starEach (e :: es) X.env = (false, eval e X.env) :: starEach es X.env := by rfl) (hpl : (backTo pos (starEach es X.env)).any (·.1) = false := by rfl) : PE X (.Call (.Name x p) (e :: es) [] pos) (tCB r t) := by
  intro pins s σ H Q I h
  refine wpAny_Call_Name_kw (ld_blt I hg hm hv ?_ hn hdb)
  exact PyProof.Rows.callWith_type1 (thn (ha pos pins s σ H _ I h) fun us s1 ⟨vs, H1, I1, r1, q1⟩ => hc pins s1 σ H1 vs us Q I1 r1 q1) he hpl
end
end L2
namespace HT
open PySem PyProof.Rows
/-- t < u of tuples of ints -/
def lexLt : List Int → List Int → Bool
  | [], [] => false
  | [], _ :: _ => true
  | _ :: _, [] => false
  | x :: xs, y :: ys => if x = y then lexLt xs ys else decide (x < y)
section
open PySem.SeqAt
open PySem.AutoSeq1 (wpAny_loadPart')
open PySem.MeetsSeq PySem.MeetsSeq2 PySem.MeetsSeq3
end
section
variable {prog : Program} {w : World} {A : Around} {E : Value → Shared → Prop} {s : Shared}
/-- t + u, t not empty -/
theorem cat_tup {t b : Addr} {vs ws : List Value} {Q : Value → Shared → Prop} (ht : IsTup s.heap t vs.toArray) (hb : IsTup s.heap b ws.toArray) (hv : vs ≠ [])
    (h1 : ws = [] → Q (.ref t) s) (h2 : ws ≠ [] → Q (.ref s.heap.objs.size) { s with heap := s.heap.push { cls := .type "tuple", data := .seq (vs ++ ws).toArray } })
    (hsz : vs.length + ws.length ≤ sizeLine) : wpAny (model prog w) A (binaryOp .Add (.ref t) (.ref b)) Q E s := by
  obtain ⟨⟨cls, dd, data, sl⟩, ho, hc, n, hd⟩ := id ht
  obtain ⟨⟨cls2, dd2, data2, sl2⟩, ho2, hc2, n2, hd2⟩ := id hb
  simp only at hc hd hc2 hd2
  subst hc hd hc2 hd2
  have e : vs.toArray ++ ws.toArray = (vs ++ ws).toArray := by simp
  by_cases hw : ws = []
  · exact concat_meets ⟨_, ho, rfl⟩ ⟨_, ho2, rfl⟩ noFill_tuple_add seq_tuple_add PySem.F.slot_tuple_add PySem.F.entry_tuple_add (PySem.F.args_tuple_add_2 _ _)
      (tuple_addW1 t b vs.toArray ws.toArray n n2 dd dd2 sl sl2 (by simpa using hv) (by simp [hw])) ⟨ho, ho2, h1 hw⟩
  · refine concat_meets ⟨_, ho, rfl⟩ ⟨_, ho2, rfl⟩ noFill_tuple_add seq_tuple_add PySem.F.slot_tuple_add PySem.F.entry_tuple_add (PySem.F.args_tuple_add_2 _ _)
      (tuple_addW2 t b vs.toArray ws.toArray n n2 dd dd2 sl sl2 (by simpa using hv) (by simpa using hw) (by rw [List.size_toArray, List.size_toArray]; exact hsz)) ⟨ho, ho2, ?_⟩
    rw [e]
    exact h2 hw
/-! ### t[a:b], not the whole -/
/-- a slice's bound as a place among n (d where it is left out) -/
def sIx (n d : Nat) : Option Int → Nat
  | none => d
  | some v => if v < 0 then (v + (n : Int)).toNat else min v.toNat n
theorem sIx_nat (n d k : Nat) : sIx n d (some (k : Int)) = min k n := by
  show (if (k : Int) < 0 then ((k : Int) + (n : Int)).toNat else min (k : Int).toNat n) = min k n
  rw [if_neg (by omega), Int.toNat_natCast]
theorem sIx_le (n d : Nat) (hd : d ≤ n) (o : Option Int) : sIx n d o ≤ n := by
  cases o with
  | none => exact hd
  | some v =>
    show (if v < 0 then (v + (n : Int)).toNat else min v.toNat n) ≤ n
    by_cases hv : v < 0
    · rw [if_pos hv]; omega
    · rw [if_neg hv]; exact Nat.min_le_right _ _
theorem clip_eq (v : Int) (n d : Nat) : (if v < 0 then max (v + (n : Int)) 0 else min v (n : Int)) = ((sIx n d (some v) : Nat) : Int) := by
  show (if v < 0 then max (v + (n : Int)) 0 else min v (n : Int)) = (((if v < 0 then (v + (n : Int)).toNat else min v.toNat n) : Nat) : Int)
  by_cases hv : v < 0
  · simp only [if_pos hv]; omega
  · simp only [if_neg hv]; omega
theorem adjust_gen (lo hi : Option Int) (n : Nat) : Builtin.Slice.sliceAdjust lo hi 1 (n : Int) = (((sIx n 0 lo : Nat) : Int), ((sIx n n hi : Nat) : Int)) := by
  have h1 : ¬ ((1 : Int) < 0) := by omega
  unfold Builtin.Slice.sliceAdjust
  simp only [h1, if_false]
  refine Prod.ext ?_ ?_
  · cases lo with
    | none => rfl
    | some v => exact clip_eq v n 0
  · cases hi with
    | none => rfl
    | some v => exact clip_eq v n n
theorem places_gen (i j : Nat) : Builtin.Slice.slicePlaces (i : Int) (j : Int) 1 = j - i := by
  unfold Builtin.Slice.slicePlaces
  have h1 : (1 : Int) > 0 := by omega
  simp only [h1, if_true, Int.ediv_one]
  split <;> omega
theorem slicePart_ {v : Value} {o : Option Int} {Q : Option Int → Shared → Prop} (p : IsPart v o) (h : Q o s) : wpAny (model prog w) A (Builtin.Slice.slicePartIndex v) Q E s := by
  cases p with
  | none => exact slicePart_none h
  | int i t => exact slicePart_int h
theorem sliceApplied_gen {sl : Addr} {vl vu : Value} {lo hi : Option Int} {n : Nat} {Q : Int × Int × Nat → Shared → Prop} (hs : s.heap.IsSliceOf sl vl vu .none) (pl : IsPart vl lo) (pu : IsPart vu hi)
    (h : Q (((sIx n 0 lo : Nat) : Int), 1, sIx n n hi - sIx n 0 lo) s) : wpAny (model prog w) A (Builtin.Slice.sliceApplied (.ref sl) (pure (n : Int))) Q E s := by
  obtain ⟨os, hos, hcs, hds⟩ := id hs
  unfold Builtin.Slice.sliceApplied Builtin.Slice.sliceFields
  refine wpAny_bind (wpAny_bind (wpAny_field hos hds (x := vl) rfl (wpAny_bind (wpAny_field hos hds (x := vu) rfl (wpAny_bind (wpAny_field hos hds (x := .none) rfl (wpAny_pure ?_)))))))
  refine wpAny_bind (slicePart_none ?_)
  show wpAny _ _ (if ((1 : Int) == 0) = true then _ else _) _ _ s
  rw [if_neg (by decide)]
  refine wpAny_bind (slicePart_ pl (wpAny_bind (slicePart_ pu (wpAny_bind (wpAny_pure ?_)))))
  show wpAny _ _ (match Builtin.Slice.sliceAdjust lo hi 1 (n : Int) with | (lo, hi) => pure (lo, (1 : Int), Builtin.Slice.slicePlaces lo hi 1)) _ _ s
  rw [adjust_gen lo hi n]
  show wpAny _ _ (pure (((sIx n 0 lo : Nat) : Int), (1 : Int), Builtin.Slice.slicePlaces ((sIx n 0 lo : Nat) : Int) ((sIx n n hi : Nat) : Int) 1)) _ _ s
  rw [places_gen]
  exact wpAny_pure h
theorem pick_gen (xs : Array Value) (i k : Nat) : ((List.range k).filterMap fun (m : Nat) => xs[((i : Int) + (m : Int) * 1).toNat]?).toArray = ((xs.toList.drop i).take k).toArray := by
  have e : (fun (m : Nat) => xs[((i : Int) + (m : Int) * 1).toNat]?) = fun m => xs[i + m]? := by
    funext m
    have : ((i : Int) + (m : Int) * 1).toNat = i + m := by omega
    rw [this]
  rw [e]
  have := pick_run xs i k
  rw [List.filterMap_map] at this
  have e2 : ((fun x => xs[x]?) ∘ fun x => i + x) = fun m => xs[i + m]? := rfl
  rw [e2] at this
  rw [this]
theorem getItem_tuple_cut {t sl : Addr} {items : Array Value} {vl vu : Value} {lo hi : Option Int} {Q : Value → Shared → Prop} (ht : IsTup s.heap t items) (hs : s.heap.IsSliceOf sl vl vu .none) (pl : IsPart vl lo) (pu : IsPart vu hi)
    (hw : ¬ (sIx items.size 0 lo = 0 ∧ sIx items.size items.size hi = items.size))
    (h : Q (.ref s.heap.objs.size) { s with heap := s.heap.push { cls := .type "tuple", data := .seq ((items.toList.drop (sIx items.size 0 lo)).take (sIx items.size items.size hi - sIx items.size 0 lo)).toArray } })
    (hsz : items.size ≤ sizeLine) : wpAny (model prog w) A (getItem (.ref t) (.ref sl)) Q E s := by
  have htake : sizeOk (.seq ((items.toList.drop (sIx items.size 0 lo)).take (sIx items.size items.size hi - sIx items.size 0 lo)).toArray) := by
    show ((items.toList.drop (sIx items.size 0 lo)).take (sIx items.size items.size hi - sIx items.size 0 lo)).toArray.size ≤ sizeLine
    rw [List.size_toArray, List.length_take, List.length_drop, Array.length_toList]
    omega
  have hj : sIx items.size items.size hi ≤ items.size := sIx_le _ _ (Nat.le_refl _) hi
  obtain ⟨os, hos, hcs, hds⟩ := id hs
  have hTs : s.TypeIs (.ref sl) "slice" := ⟨os, hos, hcs⟩
  unfold getItem
  try with_reducible refine wpAny_holding ?_
  first | refine wpAny_bind (wpAny_pure ?_) | skip
  refine wpAny_bind (wpAny_sequenceKey ht.typeIs (by decide) ?_)
  refine wpAny_bind (wpAny_callSpecial?_slot (name := Str.ofString "__getitem__") ht.typeIs PyProof.Rows.slot_tuple_getitem
    (wpAny_call_entry PyProof.Rows.slot_tuple_getitem ht.typeIs entry_tuple_getitem ?_ (args_tuple_getitem _ _)))
  show wpAny _ _ (Builtin.Tuple.tupleItemsOf (.ref t) >>= _) _ _ s
  refine wpAny_bind (tupleItemsOf_ ht ?_)
  refine wpAny_bind (wpAny_typeOf hTs ?_)
  rw [if_pos (by decide)]
  refine wpAny_bind (sliceApplied_gen hs pl pu ?_)
  have hno : ¬ ((((sIx items.size 0 lo : Nat) : Int) == 0 && (1 : Int) == 1 && (sIx items.size items.size hi - sIx items.size 0 lo) == items.size) = true) := by
    intro q
    rw [Bool.and_eq_true, Bool.and_eq_true] at q
    have q1 : ((sIx items.size 0 lo : Nat) : Int) = 0 := eq_of_beq q.1.1
    have q2 : sIx items.size items.size hi - sIx items.size 0 lo = items.size := eq_of_beq q.2
    exact hw ⟨by omega, by omega⟩
  show wpAny _ _ (if (((sIx items.size 0 lo : Nat) : Int) == 0 && (1 : Int) == 1 && (sIx items.size items.size hi - sIx items.size 0 lo) == items.size) = true then _ else _) _ _ s
  rw [if_neg hno, pick_gen]
  first
    | exact wpAny_bind (m := Builtin.Tuple.tupleExact _) (wpAny_newObj_type (wpAny_pure ⟨_, rfl, wpAny_pure h⟩) htake)
    | exact wpAny_bind (m := Builtin.Tuple.tupleExact _) (wpAny_newObj_type (wpAny_bind (wpAny_pure (wpAny_pure ⟨_, rfl, wpAny_pure h⟩))) htake)
    | exact wpAny_bind (wpAny_bind (m := Builtin.Tuple.tupleExact _) (wpAny_newObj_type (wpAny_pure (wpAny_pure ⟨_, rfl, wpAny_pure h⟩)) htake))
    | exact wpAny_bind (wpAny_bind (m := Builtin.Tuple.tupleExact _) (wpAny_newObj_type (wpAny_pure ⟨_, rfl, wpAny_pure h⟩) htake))
end
end HT
namespace L2
open PySem PySem.Spec PyProof.Rows
/-! ### the parts of a slice -/
abbrev TO := St → Hp → (Option Int → Hp → Prop) → Prop
/-- a slice's part (left out, or an int) -/
def PO (X : Cx) (e : Option Expr) (t : TO) : Prop :=
  ∀ (pins : List (Addr × Obj)) (s : Shared) (σ : St) (H : Hp) (Q : Option Int → Hp → Prop), Inv X pins σ H s → t σ H Q →
    wpAny (model X.prog X.w) X.A (evalPart e X.env) (fun u s' => ∃ o H', Inv X pins σ H' s' ∧ IsPart u o ∧ Q o H') X.xe s
def tNoPart : TO := fun _ H Q => Q none H
def tPart (t : TE) : TO := fun σ H Q => t σ H fun x H1 => ∃ i, x = .int i ∧ Q (some i) H1
section
variable {X : Cx} {e : Expr} {te : TE} {lo hi : Option Expr} {tl th : TO} {pos p2 : Pos}
theorem po_some (h : PE X e te) : PO X (some e) (tPart te) := by
  intro pins s σ H Q I hw
  rw [evalPart_some]
  refine thn (h pins s σ H _ I hw) fun u s1 ⟨x, H1, I1, r1, q1⟩ => ?_
  obtain ⟨i, rfl, q⟩ := q1
  obtain ⟨t, rfl⟩ := r1
  exact ⟨some i, H1, I1, .int i t, q⟩
/-- what a slice of a value is, by values: the slice object stands at sl -/
def SlR (X : Cx) (r : V → Option Int → Option Int → Hp → VK → Prop) : Prop :=
  ∀ (pins : List (Addr × Obj)) (s : Shared) (σ : St) (H : Hp) (x : V) (v vl vu : Value) (lo hi : Option Int) (sl : Addr) (Q : VK), Inv X pins σ H s → RelV x v → s.heap.IsSliceOf sl vl vu .none → IsPart vl lo → IsPart vu hi → r x lo hi H Q →
    ∃ T id, typeLookup (.type T) "__getitem__" = pure (some (.builtin id)) ∧ s.TypeIs v T ∧ wpAny (model X.prog X.w) X.A (getItem v (.ref sl)) (EP X pins σ Q) X.xe s
theorem SlR.or {r r' : V → Option Int → Option Int → Hp → VK → Prop} (h : SlR X r) (h' : SlR X r') : SlR X (fun x lo hi H Q => r x lo hi H Q ∨ r' x lo hi H Q) := by
  intro pins s σ H x v vl vu lo hi sl Q I rx hs pl pu q
  rcases q with q | q
  · exact h pins s σ H x v vl vu lo hi sl Q I rx hs pl pu q
  · exact h' pins s σ H x v vl vu lo hi sl Q I rx hs pl pu q
def tSl (r : V → Option Int → Option Int → Hp → VK → Prop) (te : TE) (tl th : TO) : TE := fun σ H Q => te σ H fun x H1 => tl σ H1 fun l H2 => th σ H2 fun u H3 => r x l u H3 Q
/-- a[lo:hi], any a -/
theorem pe_slice {r : V → Option Int → Option Int → Hp → VK → Prop} (hr : SlR X r) (he : PE X e te) (hl : PO X lo tl) (hu : PO X hi th) : PE X (.Subscript e (.Slice lo hi none p2) pos) (tSl r te tl th) := by
  intro pins s σ H Q I h
  refine Subscript_ (thn (he pins s σ H _ I h) fun v s1 ⟨x, H1, I1, r1, q1⟩ => ?_)
  refine wpAny_Slice (thn (hl pins s1 σ H1 _ I1 q1) fun vl s2 ⟨l, H2, I2, pl, q2⟩ => thn (hu pins s2 σ H2 _ I2 q2) fun vu s3 ⟨u, H3, I3, pu, q3⟩ => ?_)
  rw [evalPart_none]
  refine wpAny_pure ?_
  have I4 : Inv X pins σ H3 { s3 with heap := s3.heap.push { cls := .type "slice", data := .fields #[vl, vu, .none] } } := I3.kept (t' := s3.toks) fun b ob q => Heap.get?_push_of_some _ q
  obtain ⟨T, id, hT, ht, hg⟩ := hr pins { s3 with heap := s3.heap.push { cls := .type "slice", data := .fields #[vl, vu, .none] } } σ H3 x v vl vu l u s3.heap.objs.size Q I4 r1 (Heap.IsSliceOf.new ..) pl pu q3
  show wpAny (model X.prog X.w) X.A (subscriptTail e (.Slice lo hi none p2) v (.ref s3.heap.objs.size)) (EP X pins σ Q) X.xe { s3 with heap := s3.heap.push { cls := .type "slice", data := .fields #[vl, vu, .none] } }
  exact tail_any (ops := [.ref s3.heap.objs.size, v]) ht hT hg (by with_unfolding_all rfl)
/-- the items of xs[lo:hi] -/
def cutV (xs : List V) (lo hi : Option Int) : List V := (xs.drop (HT.sIx xs.length 0 lo)).take (HT.sIx xs.length xs.length hi - HT.sIx xs.length 0 lo)
theorem cutV_length (xs : List V) (lo hi : Option Int) : (cutV xs lo hi).length ≤ xs.length := by
  unfold cutV
  rw [List.length_take, List.length_drop]
  omega
/-- t[lo:hi], not the whole of it (the whole would be t itself) -/
def rSlT (K : PySem.W.Frag) : V → Option Int → Option Int → Hp → VK → Prop := fun x lo hi H Q => ∃ a xs, x = .ref a ∧ SqT K H a xs ∧
  ¬ (HT.sIx xs.length 0 lo = 0 ∧ HT.sIx xs.length xs.length hi = xs.length) ∧ ∀ p, H p = none → Q (.ref p) (upd H p (.tup (cutV xs lo hi)))
theorem sl_tup : SlR X (rSlT X.K) := by
  intro pins s σ H x v vl vu lo hi sl Q I rx hs pl pu h
  obtain ⟨a, xs, rfl, hx, hw, q⟩ := h
  cases rx
  obtain ⟨its, r, ht, hz⟩ := I.tuple hx
  have hlen : its.toArray.size = xs.length := by rw [List.size_toArray]; exact r.length.symm
  refine ⟨"tuple", _, PyProof.Rows.slot_tuple_getitem.lookup, ht.typeIs, ?_⟩
  refine HT.getItem_tuple_cut ht hs pl pu (by rw [hlen]; exact hw) ?_ (by rw [hlen]; exact hz)
  rw [hlen]
  refine ⟨.ref s.heap.objs.size, _, I.laid (t' := s.toks) (o := .tup (cutV xs lo hi)) (fun b ob q => Heap.get?_push_of_some _ q) (Nat.le_refl _) ?_, rfl, q _ (I.hok.fresh (Nat.le_refl _))⟩
  exact ⟨Nat.le_trans (cutV_length xs lo hi) hz, _, (r.drop (HT.sIx xs.length 0 lo)).take (HT.sIx xs.length xs.length hi - HT.sIx xs.length 0 lo), IsTup.new _ _⟩
/-! ### t < u, t + u -/
def rLtT (K : PySem.W.Frag) : R2 := fun x y H Q => ∃ a b ns ms, x = .ref a ∧ y = .ref b ∧ SqT K H a (ns.map V.int) ∧ SqT K H b (ms.map V.int) ∧ Q (.bl (HT.lexLt ns ms)) H
/-- t + u, t not empty: u empty gives t itself -/
def rCatT (K : PySem.W.Frag) : R2 := fun x y H Q => ∃ a b xs ys, x = .ref a ∧ y = .ref b ∧ SqT K H a xs ∧ SqT K H b ys ∧ xs ≠ [] ∧ xs.length + ys.length ≤ sizeLine ∧
  (ys = [] → Q (.ref a) H) ∧ (ys ≠ [] → ∀ p, H p = none → Q (.ref p) (upd H p (.tup (xs ++ ys))))
theorem Vals.nil_iff {xs : List V} {us : List Value} (r : Vals xs us) : us = [] ↔ xs = [] := by
  cases r with
  | nil => simp
  | cons _ _ => simp
theorem op_catT : OpR X (binaryOp .Add) (rCatT X.K) := by
  intro pins s σ H x y v u Q I rx ry h
  obtain ⟨a, b, xs, ys, rfl, rfl, ha, hb, hx, hz, q1, q2⟩ := h
  cases rx
  cases ry
  obtain ⟨its, r1, p1, _⟩ := I.tuple ha
  obtain ⟨its2, r2, p2, _⟩ := I.tuple hb
  refine HT.cat_tup p1 p2 (fun z => hx (r1.nil_iff.mp z)) (fun z => ⟨.ref a, H, I, rfl, q1 (r2.nil_iff.mp z)⟩) (fun z => ?_) (by rw [← r1.length, ← r2.length]; exact hz)
  refine ⟨.ref s.heap.objs.size, _, I.laid (t' := s.toks) (o := .tup (xs ++ ys)) (fun b ob q => Heap.get?_push_of_some _ q) (Nat.le_refl _) ?_, rfl, q2 (fun w => z (r2.nil_iff.mpr w)) _ (I.hok.fresh (Nat.le_refl _))⟩
  exact ⟨by rw [List.length_append]; exact hz, _, r1.append r2, IsTup.new _ _⟩
end
end L2
namespace L2
open PySem PySem.Spec PyProof.Rows
/-! ### places -/
/-- the place that an index of any sign means -/
def ixN (n : Nat) (i : Int) : Option Nat := if 0 ≤ i then (if i < n then some i.toNat else none) else if -(n : Int) ≤ i then some (i + n).toNat else none
def atI {α : Type} (xs : List α) (i : Int) : Option α := (ixN xs.length i).bind fun j => xs[j]?
theorem ixN_seq {n : Nat} {i : Int} {j : Nat} (h : ixN n i = some j) : seqIndex? i n = some j ∧ j < n ∧ -(n : Int) ≤ i ∧ i < n := by
  unfold ixN at h
  by_cases h0 : 0 ≤ i
  · rw [if_pos h0] at h
    by_cases h1 : i < n
    · rw [if_pos h1] at h
      have e : i.toNat = j := Option.some.inj h
      exact ⟨by rw [seqIndex_of h0 h1, e], by omega, by omega, h1⟩
    · rw [if_neg h1] at h; cases h
  · rw [if_neg h0] at h
    by_cases h1 : -(n : Int) ≤ i
    · rw [if_pos h1] at h
      have e : (i + n).toNat = j := Option.some.inj h
      exact ⟨by rw [seqIndex_neg (by omega) h1, e], by omega, h1, by omega⟩
    · rw [if_neg h1] at h; cases h
theorem atI_get {α : Type} {xs : List α} {i : Int} {v : α} (h : atI xs i = some v) : ∃ j, seqIndex? i xs.length = some j ∧ xs[j]? = some v ∧ j < xs.length ∧ -(xs.length : Int) ≤ i ∧ i < xs.length := by
  unfold atI at h
  cases e : ixN xs.length i with
  | none => rw [e] at h; cases h
  | some j =>
    rw [e] at h
    obtain ⟨h1, h2, h3, h4⟩ := ixN_seq e
    exact ⟨j, h1, h, h2, h3, h4⟩
/-! ### what may be subscripted -/
/-- what stands as an index of a plain subscript -/
def PlainIx (b : Expr) : Prop := ∀ o i, subscripted b false o i = operate [o, i] (getItem o i)
/-- a subscript by values -/
def IxR (X : Cx) (r : R2) : Prop :=
  ∀ (value slice : Expr) (pins : List (Addr × Obj)) (s : Shared) (σ : St) (H : Hp) (x y : V) (v u : Value) (Q : VK), Inv X pins σ H s → RelV x v → RelV y u → r x y H Q →
    subscripted slice false v u = operate [v, u] (getItem v u) → wpAny (model X.prog X.w) X.A (subscriptTail value slice v u) (EP X pins σ Q) X.xe s
/-- a call of a builtin's method by values: the receiver, the arguments -/
def MtR (X : Cx) (id : String) (r : V → List V → Hp → VK → Prop) : Prop :=
  ∀ (pins : List (Addr × Obj)) (s : Shared) (σ : St) (H : Hp) (x : V) (xs : List V) (v : Value) (us : List Value) (Q : VK), Inv X pins σ H s → RelV x v → Vals xs us → r x xs H Q →
    wpAny (model X.prog X.w) X.A (call (.builtin id) (v :: us)) (EP X pins σ Q) X.xe s
section
variable {X : Cx} {a b : Expr} {ta tb : TE} {pos : Pos}
theorem IxR.or {r r' : R2} (h : IxR X r) (h' : IxR X r') : IxR X (fun x y H Q => r x y H Q ∨ r' x y H Q) := by
  intro value slice pins s σ H x y v u Q I rx ry q hs
  rcases q with q | q
  · exact h value slice pins s σ H x y v u Q I rx ry q hs
  · exact h' value slice pins s σ H x y v u Q I rx ry q hs
/-- a[b] -/
theorem pe_ix {r : R2} (hr : IxR X r) (ha : PE X a ta) (hb : PE X b tb) (hs : PlainIx b) : PE X (.Subscript a b pos) (tOp r ta tb) := by
  intro pins s σ H Q I h
  exact Subscript_ (binT ha hb I h fun v u s2 x y H2 I2 rx ry q => hr a b pins s2 σ H2 x y v u Q I2 rx ry q (hs _ _))
def rIxL (K : PySem.W.Frag) : R2 := fun x y H Q => ∃ p xs i v, x = .ref p ∧ y = .int i ∧ SqL K H p xs ∧ atI xs i = some v ∧ Q v H
def rIxT (K : PySem.W.Frag) : R2 := fun x y H Q => ∃ p xs i v, x = .ref p ∧ y = .int i ∧ SqT K H p xs ∧ atI xs i = some v ∧ Q v H
def rIxS : R2 := fun x y H Q => ∃ z i c, x = .str z ∧ y = .int i ∧ z.length ≤ sizeLine ∧ atI z.cps.toList i = some c ∧ Q (.str ⟨#[c]⟩) H
theorem ix_list : IxR X (rIxL X.K) := by
  intro value slice pins s σ H x y v u Q I rx ry h hs
  obtain ⟨p, xs, i, z, rfl, rfl, hq, he, q⟩ := h
  cases rx
  obtain ⟨t, rfl⟩ := ry
  obtain ⟨its, r, pl, hz⟩ := I.list hq
  obtain ⟨j, h1, h2, h3, h4, h5⟩ := atI_get he
  obtain ⟨w, ew, rw'⟩ := r.get h2
  have hl := r.length
  have hn := line63
  have fin : EP X pins σ Q w s := ⟨z, H, I, rw', q⟩
  by_cases h0 : 0 ≤ i
  · have hj : i.toNat = j := by
      rw [seqIndex_of h0 h5] at h1
      exact Option.some.inj h1
    exact item_listR pl.isList h0 (by omega) (by rw [hj]; simpa using ew) fin hs
  · have hj : (i + (its.toArray.size : Int)).toNat = j := by
      rw [seqIndex_neg (by omega) h4] at h1
      rw [List.size_toArray, ← hl]
      exact Option.some.inj h1
    exact subscriptTail_builtinR (x := w) pl.isList.typeIs slot_list_getitem.lookup
      (wpAny_getItem_list_neg (Q := fun r s' => r = w ∧ EP X pins σ Q r s') pl.isList (by omega) (by rw [List.size_toArray] <;> omega) (by omega) (by rw [hj]; simpa using ew) ⟨rfl, fin⟩) hs
theorem ix_tup : IxR X (rIxT X.K) := by
  intro value slice pins s σ H x y v u Q I rx ry h hs
  obtain ⟨p, xs, i, z, rfl, rfl, hq, he, q⟩ := h
  cases rx
  obtain ⟨t, rfl⟩ := ry
  obtain ⟨its, r, pl, hz⟩ := I.tuple hq
  obtain ⟨j, h1, h2, h3, h4, h5⟩ := atI_get he
  obtain ⟨w, ew, rw'⟩ := r.get h2
  have hl := r.length
  have hn := line63
  have fin : EP X pins σ Q w s := ⟨z, H, I, rw', q⟩
  exact subscriptTail_builtinR (x := w) pl.typeIs slot_tuple_getitem.lookup
    (getItem_tuple (j := j) (Q := fun r s' => r = w ∧ EP X pins σ Q r s') pl (by omega) (by omega) (by rw [List.size_toArray, ← hl]; exact h1) (by simpa using ew) ⟨rfl, fin⟩) hs
theorem ix_str : IxR X rIxS := by
  intro value slice pins s σ H x y v u Q I rx ry h hs
  obtain ⟨z, i, c, rfl, rfl, hz, he, q⟩ := h
  obtain ⟨t, rfl⟩ := rx
  obtain ⟨t', rfl⟩ := ry
  obtain ⟨j, h1, h2, h3, h4, h5⟩ := atI_get he
  have hl : z.cps.toList.length = z.length := by simp [Str.length]
  rw [hl] at h1 h4 h5
  have hn := line63
  exact tail_any (typeIs_str s z t) slot_str_getitem.lookup (getItem_str (c := c) (by
    have e1 : decide (i < -(2 ^ 63 : Int)) = false := decide_eq_false (by omega)
    have e2 : decide (i ≥ 2 ^ 63) = false := decide_eq_false (by omega)
    rw [e1, e2, Bool.or_false]) (by rw [h1]; simpa using h2) ⟨.str ⟨#[c]⟩, H, I.tok _, ⟨_, rfl⟩, q⟩) hs
/-- list, tuple or str -/
def rIx (K : PySem.W.Frag) : R2 := fun x y H Q => rIxL K x y H Q ∨ rIxT K x y H Q ∨ rIxS x y H Q
theorem ix_seq : IxR X (rIx X.K) := ix_list.or (ix_tup.or ix_str)
/-! ### xs[i] = v, any sign -/
def rSetL : V → V → V → Hp → (Hp → Prop) → Prop := fun o i v H Q => ∃ p xs k j, o = .ref p ∧ i = .int k ∧ H p = some (.lst xs) ∧ ixN xs.length k = some j ∧ Q (upd H p (.lst (xs.set j v)))
/-! ### slices -/
theorem slice_bounds (lo hi : Option Int) (n : Nat) : (sliceBounds lo hi none n).1 = ((HT.sIx n 0 lo : Nat) : Int) ∧ (sliceBounds lo hi none n).2.1 = ((HT.sIx n n hi : Nat) : Int) ∧ (sliceBounds lo hi none n).2.2 = 1 := by
  refine ⟨?_, ?_, rfl⟩
  · cases lo with
    | none => simp [sliceBounds, HT.sIx]
    | some i =>
      simp only [sliceBounds, HT.sIx, Option.getD_none, show (1 : Int) > 0 by decide, if_true]
      by_cases h : i < 0
      · simp only [h, if_true] <;> omega
      · simp only [h, if_false] <;> omega
  · cases hi with
    | none => simp [sliceBounds, HT.sIx]
    | some i =>
      simp only [sliceBounds, HT.sIx, Option.getD_none, show (1 : Int) > 0 by decide, if_true]
      by_cases h : i < 0
      · simp only [h, if_true] <;> omega
      · simp only [h, if_false] <;> omega
theorem slicePick_cut (its : List Value) (lo hi : Option Int) : slicePick its.toArray lo hi none = ((its.drop (HT.sIx its.length 0 lo)).take (HT.sIx its.length its.length hi - HT.sIx its.length 0 lo)).toArray := by
  obtain ⟨h1, h2, h3⟩ := slice_bounds lo hi its.toArray.size
  unfold slicePick
  rw [h1, h2, h3]
  simp only [sliceRange_one, pick_run, List.size_toArray] <;> rfl
/-- xs[lo:hi] of a list: a new list -/
def rSlL (K : PySem.W.Frag) : V → Option Int → Option Int → Hp → VK → Prop := fun x lo hi H Q => ∃ a xs, x = .ref a ∧ SqL K H a xs ∧ ∀ p, H p = none → Q (.ref p) (upd H p (.lst (cutV xs lo hi)))
theorem sl_list : SlR X (rSlL X.K) := by
  intro pins s σ H x v vl vu lo hi sl Q I rx hs pl pu h
  obtain ⟨a, xs, rfl, hx, q⟩ := h
  cases rx
  obtain ⟨its, r, ht, hz⟩ := I.list hx
  have hlen := r.length
  refine ⟨"list", _, slot_list_getitem.lookup, ht.isList.typeIs, ?_⟩
  refine wpAny_getItem_list_slice ht.isList hs pl pu .none (by simp) ?_ (by rw [List.size_toArray] <;> omega)
  rw [slicePick_cut, ← hlen]
  refine ⟨.ref s.heap.objs.size, _, I.laid (t' := s.toks) (o := .lst (cutV xs lo hi)) (fun b ob q => Heap.get?_push_of_some _ q) (Nat.le_refl _) ?_, rfl, q _ (I.hok.fresh (Nat.le_refl _))⟩
  exact ⟨Nat.le_trans (cutV_length xs lo hi) hz, _, 0, (r.drop (HT.sIx xs.length 0 lo)).take (HT.sIx xs.length xs.length hi - HT.sIx xs.length 0 lo), Heap.get?_push_size _ rfl⟩
/-! ### in, not in: flat items -/
def flatV : V → Bool
  | .non => true
  | .bl _ => true
  | .int _ => true
  | .str _ => true
  | _ => false
/-- == of flat values -/
def eqV : V → V → Bool
  | .non, .non => true
  | .bl a, .bl b => a == b
  | .bl a, .int b => (if a then 1 else 0) == b
  | .int a, .bl b => a == (if b then 1 else 0)
  | .int a, .int b => a == b
  | .str a, .str b => a == b
  | _, _ => false
/-- the items' answers, read off the values (a value's own answer does not lean on its token) -/
def eqU (x : V) (u : Value) : Bool := match u with
  | .none => eqV .non x
  | .bool b => eqV (.bl b) x
  | .int i _ => eqV (.int i) x
  | .str z _ => eqV (.str z) x
  | _ => false
def inV (x : V) (xs : List V) : Bool := xs.any fun y => eqV y x
/-- x in a list or tuple of flat items -/
def rIn (K : PySem.W.Frag) (neg : Bool) : R2 := fun x y H Q => ∃ p xs, y = .ref p ∧ (SqL K H p xs ∨ SqT K H p xs) ∧ flatV x = true ∧ xs.all flatV = true ∧ Q (.bl (if neg then !inV x xs else inV x xs)) H
/-! ### len, list(x), tuple(x) of any list or tuple that is read -/
theorem call_len_seq : CallR X (.builtin "len") (fun xs H Q => ∃ p ys, xs = [.ref p] ∧ (SqL X.K H p ys ∨ SqT X.K H p ys) ∧ Q (.int ys.length) H) := by
  intro pins s σ H xs us Q I r h
  obtain ⟨p, ys, rfl, hq, q⟩ := h
  obtain ⟨u, rfl, rx⟩ := vals1 r
  cases rx
  have hn := line63
  rcases hq with hq | hq
  · obtain ⟨its, r', pl, hz⟩ := I.list hq
    have hlen := r'.length
    exact Calls.call_len_list pl.isList (by simp only [List.size_toArray] <;> omega) ⟨.int ys.length, H, I.tok _, ⟨s.toks + 1, by rw [List.size_toArray, hlen]⟩, q⟩
  · obtain ⟨its, r', pl, hz⟩ := I.tuple hq
    have hlen := r'.length
    exact len_tuple pl (by simp only [List.size_toArray] <;> omega) ⟨.int ys.length, H, I.tok _, ⟨s.toks + 1, by rw [List.size_toArray, hlen]⟩, q⟩
theorem call_len_str : CallR X (.builtin "len") (fun xs H Q => ∃ z, xs = [.str z] ∧ z.length ≤ sizeLine ∧ Q (.int z.length) H) := by
  intro pins s σ H xs us Q I r h
  obtain ⟨z, rfl, hz, q⟩ := h
  obtain ⟨u, rfl, t, rfl⟩ := vals1 r
  have hn := line63
  exact len_str (by omega) ⟨.int z.length, H, I.tok _, ⟨_, rfl⟩, q⟩
theorem CallR.or {f : Value} {r r' : List V → Hp → VK → Prop} (h : CallR X f r) (h' : CallR X f r') : CallR X f (fun xs H Q => r xs H Q ∨ r' xs H Q) := by
  intro pins s σ H xs us Q I rs q
  rcases q with q | q
  · exact h pins s σ H xs us Q I rs q
  · exact h' pins s σ H xs us Q I rs q
/-! ### the call of a builtin's method: o.m(..) -/
/-- the value is of that builtin type -/
def tyV (K : PySem.W.Frag) (T : String) (x : V) (H : Hp) : Prop := match x with
  | .str _ => T = "str"
  | .int _ => T = "int"
  | .ref p => (T = "list" ∧ ∃ xs, SqL K H p xs) ∨ (T = "tuple" ∧ ∃ o, K.lookup p = some o ∧ o.cls = .type "tuple" ∧ o.dict = none) ∨
      (T = "dict" ∧ ((∃ kvs, H p = some (.dK kvs)) ∨ ∃ kvs, H p = some (.dT kvs))) ∨ (T = "set" ∧ ∃ S n, H p = some (.set S n))
  | _ => False
theorem tyV_is {pins : List (Addr × Obj)} {σ : St} {H : Hp} {s : Shared} {T : String} {x : V} {v : Value} (I : Inv X pins σ H s) (r : RelV x v) (ty : tyV X.K T x H) :
    s.TypeIs v T ∧ ∀ a, v = .ref a → ∃ ob, s.heap.get? a = some ob ∧ ob.dict = none := by
  cases x with
  | str z =>
    obtain ⟨t, rfl⟩ := r
    cases (show T = "str" from ty)
    exact ⟨typeIs_str s z t, fun _ e => nomatch e⟩
  | int i =>
    obtain ⟨t, rfl⟩ := r
    cases (show T = "int" from ty)
    exact ⟨typeIs_int s i t, fun _ e => nomatch e⟩
  | ref p =>
    cases r
    rcases ty with ⟨rfl, xs, hq⟩ | ⟨rfl, o, hk, hc, hd⟩ | ⟨rfl, hk⟩ | ⟨rfl, S, n, hk⟩
    · obtain ⟨its, _, pl, _⟩ := I.list hq
      refine ⟨pl.isList.typeIs, fun a e => ?_⟩
      cases e
      obtain ⟨o, n, e, c, hd, _⟩ := pl
      exact ⟨o, e, hd⟩
    · refine ⟨⟨o, I.kIn p o hk, hc⟩, fun a e => ?_⟩
      cases e
      exact ⟨o, I.kIn _ o hk, hd⟩
    · have z : ∃ o, s.heap.get? p = some o ∧ o.ExactDict := by
        rcases hk with ⟨kvs, hk⟩ | ⟨kvs, hk⟩
        · obtain ⟨_, _, _, _, o, _, _, e, ex, _⟩ := I.hok p _ hk
          exact ⟨o, e, ex⟩
        · obtain ⟨_, _, _, _, o, _, _, e, ex, _⟩ := I.hok p _ hk
          exact ⟨o, e, ex⟩
      obtain ⟨o, e, ex⟩ := z
      refine ⟨⟨o, e, ex.1⟩, fun a e2 => ?_⟩
      cases e2
      exact ⟨o, e, ex.2.1⟩
    · obtain ⟨o, _, _, _, e, ex, _⟩ := I.hok p _ hk
      refine ⟨⟨o, e, ex.1⟩, fun a e2 => ?_⟩
      cases e2
      exact ⟨o, e, ex.2.1⟩
  | _ => exact False.elim ty
def tBM0 (K : PySem.W.Frag) (T : String) (r : V → List V → Hp → VK → Prop) (to : TE) : TE := fun σ H Q => to σ H fun x H1 => tyV K T x H1 ∧ r x [] H1 Q
def tBM (K : PySem.W.Frag) (T : String) (r : V → List V → Hp → VK → Prop) (to : TE) (t : TA) : TE := fun σ H Q => to σ H fun x H1 => tyV K T x H1 ∧ t σ H1 fun xs H2 => r x xs H2 Q
variable {o e : Expr} {es : List Expr} {to : TE} {t : TA} {name : Str} {apos cpos : Pos} {T id : String} {r : V → List V → Hp → VK → Prop}
theorem pe_bm0 (pa : PlainAttrs T) (slot : Slot T name id) (hty : typeOf (.builtin id) = pure (.type "method_descriptor")) (hm : MtR X id r) (ho : PE X o to)
    (hbase : attributeBase o name X.env (eval o X.env) = eval o X.env := by rfl) (hline : (apos.endLine == cpos.line) = true := by rfl) : PE X (.Call (.Attribute o name apos) [] [] cpos) (tBM0 X.K T r to) := by
  intro pins s σ H Q I h
  refine wpAny_Call_method0_late hbase hline (thn (ho pins s σ H _ I h) fun v s1 ⟨x, H1, I1, r1, ty, q1⟩ => ?_)
  obtain ⟨h1, h2⟩ := tyV_is I1 r1 ty
  exact ⟨T, id, pa, slot, hty, h1, h2, Calls.callWith_builtin rfl (PySem.evalArgs_none (hm pins s1 σ H1 x [] v [] Q I1 r1 .nil q1))⟩
theorem pe_bm (pa : PlainAttrs T) (slot : Slot T name id) (hty : typeOf (.builtin id) = pure (.type "method_descriptor")) (hm : MtR X id r) (ho : PE X o to) (ha : PA X (e :: es) t)
    (hbase : attributeBase o name X.env (eval o X.env) = eval o X.env := by rfl)
    (hfew : ((backTo cpos (starEach (e :: es) X.env)).all (fun x => !x.1) && (backToKw cpos (keywordEach [] X.env)).all (fun x => x.1.isSome)
      && decide ((e :: es).length + ([] : List Keyword).length + (if ([] : List Keyword).isEmpty then 0 else 1) < 30)) = true := by rfl)
    (hline : (apos.endLine == cpos.line) = true := by rfl) (hs : starEach (e :: es) X.env = (false, eval e X.env) :: starEach es X.env := by rfl) (hplain : (backTo cpos (starEach es X.env)).any (·.1) = false := by rfl) :
    PE X (.Call (.Attribute o name apos) (e :: es) [] cpos) (tBM X.K T r to t) := by
  intro pins s σ H Q I h
  refine wpAny_Call_method_late hbase hfew hline rfl (thn (ho pins s σ H _ I h) fun v s1 ⟨x, H1, I1, r1, ty, q1⟩ => ?_)
  obtain ⟨h1, h2⟩ := tyV_is I1 r1 ty
  refine ⟨T, id, pa, slot, hty, h1, h2, ?_⟩
  have hA := ha cpos pins s1 σ H1 _ I1 q1
  rw [hs] at hA ⊢
  refine Calls.callWith_builtin (by show (false || (backTo cpos (starEach es X.env)).any (·.1)) = false; rw [hplain] <;> rfl) (Calls.evalArgs_plain ?_)
  exact thn hA fun us s2 ⟨vs, H2, I2, r2, q2⟩ => hm pins s2 σ H2 x vs v us Q I2 r1 r2 q2
/- xs.append(e), list.index on a module's tuple .. are MtR facts of 06m -/
end
end L2
namespace L2
open PySem PySem.Spec PyProof.Rows
def MtM (X : Cx) (id : String) (r : V → List V → Hp → VK → Prop) : Prop :=
  ∀ (pins : List (Addr × Obj)) (s : Shared) (σ : St) (H : Hp) (x : V) (xs : List V) (v : Value) (us : List Value) (Q : VK), Inv X pins σ H s → RelV x v → Vals xs us → r x xs H Q →
    wpAny (model X.prog X.w) X.A (call (.builtin id) (v :: us)) (EP X pins σ Q) X.xe s
/-! ### lists of values -/
theorem Vals.one : ∀ {x : V} {us : List Value}, Vals [x] us → ∃ u, us = [u] ∧ RelV x u
  | _, _, .cons r .nil => ⟨_, rfl, r⟩
theorem Vals.zero : ∀ {us : List Value}, Vals [] us → us = []
  | _, .nil => rfl
theorem Vals.dropLast {xs : List V} {us : List Value} (h : Vals xs us) : Vals xs.dropLast us.dropLast := by
  induction h with
  | nil => exact .nil
  | cons r t ih =>
    cases t with
    | nil => exact .nil
    | cons q t' => exact .cons r ih
theorem erase_last {α : Type} (l : List α) : l.eraseIdx (l.length - 1) = l.dropLast := by
  induction l with
  | nil => rfl
  | cons a r ih =>
    cases r with
    | nil => rfl
    | cons b r =>
      have e : (a :: b :: r).length - 1 = ((b :: r).length - 1) + 1 := by
        have h1 : (a :: b :: r).length = r.length + 2 := rfl
        have h2 : (b :: r).length = r.length + 1 := rfl
        omega
      rw [e, List.eraseIdx_cons_succ, ih]
      all_goals rfl
section
variable {X : Cx} {pins : List (Addr × Obj)} {σ : St} {H : Hp} {s : Shared} {l b : Addr} {xs ys zs : List V}
/-! ### the two steps: a tracked list is rewritten, a new list is laid -/
theorem Inv.lset {its its' : List Value} {n : Nat} {f : Array Value → Array Value} {t' : Nat} (I : Inv X pins σ H s) (hH : H l = some (.lst xs))
    (e : s.heap.get? l = some { cls := .type "list", data := .seq its.toArray n }) (hf : f its.toArray = its'.toArray) (hv : Vals ys its') (hz : ys.length ≤ sizeLine) :
    Inv X pins σ (upd H l (.lst ys)) { s with heap := s.heap.update l (Obj.mapSeq f), toks := t' } := by
  have q := PySem.IsL.update e f
  rw [hf] at q
  refine I.write (x := l) (e := l) (by rw [hH]; exact trivial) (.inl rfl) (fun b' u hb hu => (Heap.get?_update_other s.heap (Obj.mapSeq f) (Ne.symm hb)).trans hu) ⟨_, q⟩ ?_
  exact ⟨hz, its', _, hv, q⟩
theorem Inv.lnew {its : List Value} {t' : Nat} (I : Inv X pins σ H s) (hv : Vals ys its) (hz : ys.length ≤ sizeLine) :
    Inv X pins σ (upd H s.heap.objs.size (.lst ys)) { s with heap := s.heap.push { cls := .type "list", data := .seq its.toArray }, toks := t' } :=
  I.laid (fun _ _ q => Heap.get?_push_of_some _ q) (Nat.le_refl _) ⟨hz, its, 0, hv, Heap.get?_push_size _ rfl⟩
theorem Inv.fresh (I : Inv X pins σ H s) : H s.heap.objs.size = none := I.hok.fresh (Nat.le_refl _)
theorem Inv.lstM (I : Inv X pins σ H s) (hH : H l = some (.lst xs)) : xs.length ≤ sizeLine ∧ ∃ (its : List Value) (n : Nat), Vals xs its ∧ xs.length = its.length ∧ s.heap.get? l = some { cls := .type "list", data := .seq its.toArray n } := by
  obtain ⟨z, its, n, r, e⟩ := I.hok l _ hH
  exact ⟨z, its, n, r, r.length, e⟩
theorem notLongL {n : Nat} (h : n ≤ sizeLine) : Builtin.List.listTooLong n = false := by
  unfold Builtin.List.listTooLong
  exact decide_eq_false (by omega)
end
section
variable {X : Cx}
/-! ### methods -/
def rAppend : V → List V → Hp → VK → Prop := fun x vs H Q => ∃ l xs y, x = .ref l ∧ vs = [y] ∧ H l = some (.lst xs) ∧ xs.length < sizeLine ∧ Q .non (upd H l (.lst (xs ++ [y])))
theorem mt_append : MtM X "list.append" rAppend := by
  intro pins s σ H x vs v us Q I rx rv h
  obtain ⟨l, xs, y, rfl, rfl, hH, hz, q⟩ := h
  cases rx
  obtain ⟨u, rfl, ru⟩ := rv.one
  obtain ⟨z, its, n, r, hl, e⟩ := I.lstM hH
  refine call_meets F.slot_list_append ⟨_, e, rfl⟩ F.entry_list_append (F.args_list_append_2 _ _) (PySem.list_append l its.toArray n u (by rw [List.size_toArray]; omega)) ⟨e, ?_⟩
  refine ⟨.non, _, I.lset (its' := its ++ [u]) hH e (by simp) (r.append (.cons ru .nil)) ?_, rfl, q⟩
  rw [List.length_append, List.length_singleton]
  omega
def rExtend : V → List V → Hp → VK → Prop := fun x vs H Q => ∃ l b xs zs, x = .ref l ∧ vs = [.ref b] ∧ H l = some (.lst xs) ∧ H b = some (.lst zs) ∧ xs.length + zs.length ≤ sizeLine ∧ Q .non (upd H l (.lst (xs ++ zs)))
def rPop : V → List V → Hp → VK → Prop := fun x vs H Q => ∃ l xs y, x = .ref l ∧ vs = [] ∧ H l = some (.lst xs) ∧ xs[xs.length - 1]? = some y ∧ Q y (upd H l (.lst xs.dropLast))
theorem mt_pop : MtM X "list.pop" rPop := by
  intro pins s σ H x vs v us Q I rx rv h
  obtain ⟨l, xs, y, rfl, rfl, hH, hy, q⟩ := h
  cases rx
  have hus := rv.zero
  subst hus
  obtain ⟨z, its, n, r, hl, e⟩ := I.lstM hH
  obtain ⟨u, hu, ru⟩ := r.get hy
  have hy' : its.toArray[its.toArray.size - 1]? = some u := by
    show its.toArray[its.length - 1]? = some u
    rw [← Array.getElem?_toList, ← hl]
    exact hu
  refine call_meets F.slot_list_pop ⟨_, e, rfl⟩ F.entry_list_pop (F.args_list_pop_1 _) (MeetsSeq.list_pop_last l its.toArray n u hy' (by rw [List.size_toArray]; omega)) ⟨e, ?_⟩
  refine ⟨y, _, I.lset (its' := its.dropLast) hH e ?_ r.dropLast ?_, ru, q⟩
  · show its.toArray.eraseIdxIfInBounds (its.toArray.size - 1) = its.dropLast.toArray
    rw [List.size_toArray, List.eraseIdxIfInBounds_toArray, erase_last]
  · rw [List.length_dropLast]
    omega
def rPopAt : V → List V → Hp → VK → Prop := fun x vs H Q => ∃ l xs i k y, x = .ref l ∧ vs = [.int i] ∧ H l = some (.lst xs) ∧ -(2 ^ 63) ≤ i ∧ i < 2 ^ 63 ∧ seqIndex? i xs.length = some k ∧ xs[k]? = some y ∧ Q y (upd H l (.lst (xs.eraseIdx k)))
def rReverse : V → List V → Hp → VK → Prop := fun x vs H Q => ∃ l xs, x = .ref l ∧ vs = [] ∧ H l = some (.lst xs) ∧ Q .non (upd H l (.lst xs.reverse))
def rClear : V → List V → Hp → VK → Prop := fun x vs H Q => ∃ l xs, x = .ref l ∧ vs = [] ∧ H l = some (.lst xs) ∧ Q .non (upd H l (.lst []))
/-! ### list + list, list += list, list * int -/
def rCat : R2 := fun x y H Q => ∃ l b xs zs, x = .ref l ∧ y = .ref b ∧ H l = some (.lst xs) ∧ H b = some (.lst zs) ∧ xs.length + zs.length ≤ sizeLine ∧ ∀ p, H p = none → Q (.ref p) (upd H p (.lst (xs ++ zs)))
theorem op_cat : OpR X (binaryOp .Add) rCat := by
  intro pins s σ H x y v u Q I rx ry h
  obtain ⟨l, b, xs, zs, rfl, rfl, hH, hB, hz, q⟩ := h
  cases rx
  cases ry
  obtain ⟨z, its, n, r, hl, e⟩ := I.lstM hH
  obtain ⟨z2, its2, n2, r2, hl2, e2⟩ := I.lstM hB
  refine PySem.P.add_list e e2 ?_ (by rw [List.size_toArray, List.size_toArray]; omega)
  have ea : its.toArray ++ its2.toArray = (its ++ its2).toArray := by simp
  rw [ea]
  exact ⟨.ref _, _, I.lnew (t' := s.toks) (r.append r2) (by rw [List.length_append]; omega), rfl, q _ I.fresh⟩
/-- a list times an int (a negative one is nothing) -/
def rRep : R2 := fun x y H Q => ∃ l k xs, x = .ref l ∧ y = .int k ∧ H l = some (.lst xs) ∧ -(2 ^ 63) ≤ k ∧ k < 2 ^ 63 ∧ xs.length * k.toNat ≤ sizeLine ∧
  ∀ p, H p = none → Q (.ref p) (upd H p (.lst (List.replicate k.toNat xs).flatten))
/-! ### del xs[i] -/
end
/-! ### xs[a:b] = ys -/
section
variable {prog : Program} {w : World} {A : Around} {E : Value → Shared → Prop} {s : Shared}
set_option maxRecDepth 100000 in
end
section
variable {X : Cx}
end
end L2
namespace Att
open PySem PySem.W PySem.Calls PyProof.Rows
/-! ### the script -/
theorem ints_of_wellAll {P : Params} {h : Heap} : ∀ (ns : List Int) (vs : List Value), WellAll P h vs (ns.map WData.int) → IntsAre vs ns := by
  intro ns
  induction ns with
  | nil =>
    intro vs w
    rw [List.map_nil] at w
    cases w
    exact .nil
  | cons n ns ih =>
    intro vs w
    rw [List.map_cons] at w
    cases w with
    | cons a b =>
      cases a
      exact .cons _ _ (ih _ b)
theorem script_of {l : OpenLaw} {n : Nat} (hn : l.most = some n) {P : Params} {h : Heap} {args : List WData} {vals : List Value}
    (hpre : l.row.toRowW.claim.pre args = true) (hwl : WellAll P h vals args) :
    ∃ a vs ns, vals = [Value.ref a] ∧ args = [WData.list (ns.map WData.int)] ∧ h.get? a = some { cls := .type "list", data := .seq vs.toArray } ∧ IntsAre vs ns ∧ ns.length ≤ n := by
  have hsh : WShape.hasAll [] args [.list .int] = true := (pre_splitW hpre).1
  have hc : l.pre.holds [] { args := args } = true := (pre_splitW hpre).2
  obtain ⟨d, r, rfl, h1, h2⟩ := hasAllW_cons hsh
  obtain rfl := hasAllW_nil h2
  obtain ⟨xs, rfl, h3⟩ := hasW_list h1
  obtain ⟨ns, rfl⟩ := items_int h3
  have hlen : ns.length ≤ n := by
    unfold OpenLaw.pre at hc
    have h4 : (WTm.not (.lt (.lit (.int (n : Int))) (.len (.arg 0)))).holds [] { args := [.list (ns.map .int)] } = true := by
      have h4 := (holds_andW hc).1
      rw [hn] at h4
      exact h4
    have h5 := condW_of h4 (w_not (w_lt w_lit (w_len_list (w_arg rfl))))
    rw [List.length_map] at h5
    refine Nat.le_of_not_lt fun q => ?_
    have q' : (n : Int) < ((ns.length : Nat) : Int) := by omega
    first
      | (rw [decide_eq_true q'] at h5; exact absurd h5 (by decide))
      | (simp at h5; omega)
  cases hwl with
  | cons w1 w2 =>
    cases w2
    cases w1 with
    | list ho hall => exact ⟨_, _, ns, rfl, rfl, ho, ints_of_wellAll ns _ hall, hlen⟩
theorem post_true (l : OpenLaw) (args : List WData) : l.row.toRowW.claim.post args (.bool true) args = true :=
  postW_of (r := l.row.toRowW) (X := (true == true))
    (show WShape.has [] (.bool true) .bool = true by first | rfl | decide | simp [WShape.has, WShape.arms, WShape.armsAll])
    (show (WTm.eq .res (.lit (.bool true))).value [] { args := args, res := some (.bool true), after := args } = some (.bool (true == true)) from w_eq_bool (w_res rfl) w_lit) rfl
/-! ### the attachment: holds_open's last premise (the goal 'hc' behind k_head) from a wpAny of the law's body -/
/-- the same from a codeAny of the CALL (for a layer whose function contracts speak of calls) -/
theorem attach_call {l : OpenLaw} {n : Nat} {q : Program} {loose : List Str} {XP : (Str → Option Value) → Heap → Prop} {YP : World → Heap → Prop} {d : DefRec}
    (hn : l.most = some n) (hdf : d.params.defaults = [])
    (call : ∀ (w : World) (s₀ s₁ : Shared) (mg mb : Str → Option Value) (fa : Addr) (o : Obj) (pm cd doc : Value) (a : Addr) (vs : List Value) (ns : List Int),
      Ground q loose [] XP w s₀ mg mb s₁.heap → YP w s₁.heap →
      s₁.heap.get? fa = some o → o.data = .func (docDef d.name d.params d.body d.scope pm cd doc) → s₁.heap.CodeRec cd d.name → mg d.name = some (.ref fa) →
      s₁.heap.get? a = some { cls := .type "list", data := .seq vs.toArray } → IntsAre vs ns → ns.length ≤ n → s₁.gens = #[] →
      codeAny (model l.prog w) callerA (.call (.ref fa) ⟨[.ref a], []⟩) (fun r s' => r = .ok (.ret (.bool true)) ∧ OldK s₁.heap s'.heap ∧ s'.os = s₁.os ∧ AllBare s'.gens) s₁) :
    WalkO q loose XP YP l.row.toRowW d [] (fun f vs => PySem.call f vs) := by
  intro w s₀ s₁ mg mb G Y fa o pm cd doc dV kV ho hd hcd hD hmg hg args vals as hpre hlay hrd hwl hlo
  obtain rfl : dV = .none := Dflts.none hD hdf
  obtain rfl : kV = .none := Dflts.noKw hD
  obtain ⟨a, vs, ns, rfl, rfl, hobj, hints, hlen⟩ := script_of hn hpre hwl
  refine enter_call (codeAny_mono (call w s₀ s₁ mg mb fa o pm cd doc a vs ns G Y ho (fd_plain hd) hcd hmg hobj hints hlen hg) fun r s' hq => ?_)
  obtain ⟨rfl, h2, h3, h4⟩ := hq
  exact ⟨.inl ⟨.bool true, .bool true, [], rfl, fun _ => rfl, .bool true, post_true l _, fun _ => ⟨List.Pairwise.nil, fun _ hm => (nomatch hm)⟩⟩, h2, h3, h4⟩
/-! ### rules over ANY heap (no ledger) from facts about the written part K: the library's own take a ledger (News) for what they write -/
section
variable {prog : Program} {w : World} {A : Around} {E : Value → Shared → Prop} {s : Shared} {K : Frag}
/-! the whole heap as the ledger: makes every rule that writes through a ledger a rule over any heap -/
def noObjs (h : Heap) : Heap := { h with objs := #[] }
def ledger (h : Heap) (L d : Addr) : List (Addr × Obj) := (List.range h.objs.size).filterMap fun a => if a = L ∨ a = d then none else (h.get? a).map fun o => (a, o)
end
end Att
namespace L2
open PySem PySem.Spec PyProof.Rows
theorem vals_ints : ∀ {vs : List Value} {ns : List Int}, IntsAre vs ns → Vals (ns.map V.int) vs
  | _, _, .nil => .nil
  | _, _, .cons n t h => .cons ⟨t, rfl⟩ (vals_ints h)
/-- nothing is tracked but the script, known to the object (or it is an object of the module) -/
def Only (H : Hp) : Prop := ∀ b, H b = none ∨ ∃ o xs, H b = some (.frz o (.lst xs))
/-- THE HEAD: the law's promise, at the heap behind the top. F, the promise of the law's def, may use that base is part of the heap (so K.In base, base.Ns mainGlobals mg stand in Mod) -/
theorem law_call {P : Program} {w : World} {K : PySem.W.Frag} {mg mb : Str → Option Value} {CX : CXT} {k : Nat} {fa a : Addr} {fd : FuncData} {x : Str} {sp : Sp} {s₁ : Shared} {vs : List Value} {ns : List Int}
    (KX : K.In s₁.heap) (hns : s₁.heap.Ns mainGlobals mg) (hb : s₁.heap.Ns builtinsNs mb) (hbb : ∀ x : Str, x ≠ "__name__" → mb x = bootBuiltins x) (hlim : s₁.heap.NoLimit) (hg : s₁.gens = #[])
    (ha : s₁.heap.get? a = some { cls := .type "list", data := .seq vs.toArray }) (hi : IntsAre vs ns) (hl : ns.length ≤ sizeLine) (hr : Room k callerA)
    (F : ∀ base : Heap, K.In base → base.Ns mainGlobals mg → FnOk P w K mg base CX k fa fd [x] sp) (hbind : ∀ (s : Shared) (u : Value), BindsTo s fd ⟨[u], []⟩ [(x, u)])
    (hsp : ∀ H : Hp, Only H → SqL K H a (ns.map V.int) → sp [.ref a] H (fun v _ => v = .bl true) fun _ _ _ => False)
    (hCX : ∀ H e s', CX [] H s₁ (fun _ _ _ => False) e s' → False) :
    codeAny (model P w) callerA (.call (.ref fa) ⟨[.ref a], []⟩) (fun r s' => r = .ok (.ret (.bool true)) ∧ OldK s₁.heap s'.heap ∧ s'.os = s₁.os ∧ AllBare s'.gens) s₁ := by
  have rv := vals_ints hi
  have lenV := hi.length
  -- from an abstract heap in which nothing but the script may be tracked
  have core : ∀ H : Hp, Only H → SqL K H a (ns.map V.int) → HOk P w H s₁.heap → (∀ b, H b ≠ none → b = a) → (H a ≠ none → K.lookup a = none) →
      codeAny (model P w) callerA (.call (.ref fa) ⟨[.ref a], []⟩) (fun r s' => r = .ok (.ret (.bool true)) ∧ OldK s₁.heap s'.heap ∧ s'.os = s₁.os ∧ AllBare s'.gens) s₁ := by
    intro H hO hS hok hA hK
    have base_of : ∀ {b : Addr} {o : Obj}, s₁.heap.get? b = some o → H b = none → (hidT s₁.heap H).get? b = some o := fun e n => hidT_get e n
    have noA : ∀ {b : Addr} {o : Obj} {es : Array DictEntry} {ep : Nat}, s₁.heap.get? b = some o → o.data = .dict es ep → H b = none := fun {b o es ep} e d => by
      cases q : H b with
      | none => rfl
      | some u =>
        have e' : b = a := hA b (by rw [q]; simp)
        subst e'
        rw [ha] at e; cases e
        have d' : Data.seq vs.toArray _ = Data.dict es ep := d
        cases d'
    have nsK : ∀ {b : Addr} {m : Str → Option Value}, s₁.heap.Ns b m → (hidT s₁.heap H).Ns b m := fun {b m} ⟨o, es, ep, e, d, r⟩ => ⟨o, es, ep, base_of e (noA e d), d, r⟩
    have hKb : K.In (hidT s₁.heap H) := fun b o e => base_of (KX b o e) (by
      cases q : H b with
      | none => rfl
      | some u =>
        have e' : b = a := hA b (by rw [q]; simp)
        subst e'
        rw [hK (by rw [q]; simp)] at e; cases e)
    have hM : Mod K mg (hidT s₁.heap H) := ⟨hKb, nsK hns, ⟨mb, nsK hb, hbb⟩, let ⟨mc, h1, h2⟩ := hlim; ⟨mc, nsK h1, h2⟩⟩
    have e0 : Env0 P w K mg (hidT s₁.heap H) callerA [] s₁ H := ⟨rfl, hM, fun b o e => of_hidT e, Nat.le_of_eq (hidT_size _ _), trivial, fun b hb => absurd (show b ∈ ([] : List Addr) from hb) (by simp), hok, .of_eq hg⟩
    refine codeAny_mono ((F _ hKb (nsK hns)).run callerA [] s₁ H ⟨[.ref a], []⟩ [.ref a] [.ref a] _ _ hr e0 (hbind s₁ (.ref a)) (.cons rfl .nil) (hsp H hO hS)) fun r s' h => ?_
    cases r with
    | error e => exact (hCX H e s' h).elim
    | ok fl =>
      cases fl with
      | next => exact False.elim h
      | brk => exact False.elim h
      | cont => exact False.elim h
      | ret u =>
        obtain ⟨v, H', os, bare, un, hok', r', q⟩ := h
        have q' : v = .bl true := q
        subst q'
        obtain rfl : u = Value.bool true := r'
        refine ⟨rfl, OldK.of_keep fun b o e => ?_, os, bare⟩
        cases q : H b with
        | none => exact un.keep b o e q (by intro z; exact absurd (show b ∈ ([] : List Addr) from z) (by simp)) (by simp)
        | some u =>
          rcases hO b with z | ⟨ob, xs, z⟩
          · rw [q] at z; cases z
          · have z2 := un.frzs b ob _ z
            obtain ⟨e1, _⟩ := hok b _ z
            obtain ⟨e2, _⟩ := hok' b _ z2
            rw [e] at e1; cases e1
            exact e2
  cases hk : K.lookup a with
  | some o =>
    -- the script is one of the module's own objects
    have e := KX a o hk
    rw [ha] at e
    cases e
    refine core (fun _ => none) (fun _ => .inl rfl) (.inr ⟨_, vs.toArray, _, hk, rfl, rfl, rfl, by rw [List.size_toArray, lenV]; exact hl, by simpa using rv⟩) (fun b u z => by have z' : (none : Option HO) = some u := z; cases z') (fun b z => absurd rfl z) fun z => absurd rfl z
  | none =>
    refine core (fun b => if b = a then some (.frz { cls := .type "list", data := .seq vs.toArray } (.lst (ns.map V.int))) else none) (fun b => ?_) (.inl (.inr ⟨{ cls := .type "list", data := .seq vs.toArray }, if_pos rfl⟩)) (fun b u z => ?_) (fun b z => ?_) fun _ => hk
    · by_cases hb : b = a
      · exact .inr ⟨_, _, if_pos hb⟩
      · exact .inl (if_neg hb)
    · by_cases hb : b = a
      · have z' := (if_pos hb).symm.trans z
        cases z'
        subst hb
        exact ⟨ha, by rw [List.length_map]; exact hl, vs, _, rv, ha⟩
      · have z' := (if_neg hb).symm.trans z
        cases z'
    · by_cases hb : b = a
      · exact hb
      · exact absurd (if_neg hb) z
end L2
namespace L2
open PySem PySem.Spec PyProof.Rows
abbrev KOf {K : PySem.W.Frag} {h : Heap} (_ : K.In h) : PySem.W.Frag := K
/-- the goal that k_head leaves (case hc), from the law's promise. F gives the function object fd (K's own) once, then the promise over every base -/
theorem walk_of {l : PySem.W.OpenLaw} {n k : Nat} {q : Program} {loose : List Str} {XP : (Str → Option Value) → Heap → Prop} {YP : World → Heap → Prop} {d : DefRec} {K : Params → PySem.W.Frag} {CX : World → CXT} {sp : World → Sp} {x : Str}
    (hn : l.most = some n) (hn2 : n ≤ sizeLine) (hdf : d.params.defaults = []) (hr : Room k callerA)
    (hY : ∀ (w : World) (h : Heap), YP w h → (K w.params).In h)
    (F : ∀ (w : World) (mg : Str → Option Value) (fa : Addr) (h : Heap), (K w.params).In h → h.Ns mainGlobals mg → mg d.name = some (.ref fa) →
      ∃ fd : FuncData, (∀ (s : Shared) (u : Value), BindsTo s fd ⟨[u], []⟩ [(x, u)]) ∧
        ∀ base : Heap, (K w.params).In base → base.Ns mainGlobals mg → FnOk l.prog w (K w.params) mg base (CX w) k fa fd [x] (sp w))
    (hsp : ∀ (w : World) (H : Hp) (a : Addr) (ns : List Int), ns.length ≤ n → Only H → SqL (K w.params) H a (ns.map V.int) → sp w [.ref a] H (fun v _ => v = .bl true) fun _ _ _ => False)
    (hCX : ∀ (w : World) (H : Hp) (s : Shared) (e : Value) (s' : Shared), CX w [] H s (fun _ _ _ => False) e s' → False) :
    PySem.W.WalkO q loose XP YP l.row.toRowW d [] (fun f vs => PySem.call f vs) := by
  refine Att.attach_call hn hdf fun w s₀ s₁ mg mb fa o pm cd doc a vs ns G Y ho hd hcd hmg hobj hints hlen hg => ?_
  have KX := hY w _ Y
  obtain ⟨fd, hb, hF⟩ := F w mg fa _ KX G.T.g hmg
  exact law_call KX G.T.g G.T.b G.T.builtins G.T.nolimit hg hobj hints (Nat.le_trans hlen hn2) hr hF hb (fun H hO hS => hsp w H a ns hlen hO hS) fun H e s' => hCX w H s₁ e s'
end L2
/- THE LAST THEOREM (shape; LID, My.* are yours):
   My.Adr: a structure of the addresses that your layer names (classes, functions); My.Txt K t: a structure (Prop) of the equations over K;
   My.txt_mk : {K} {implicit addresses ..} (e1 : nsIn K mainGlobals "law" = some (some (.ref f))) (e2 : K.lookup f = some ⟨oc, od, .func (fnOf "law" "law" params body scope dV kV doc pm an cdv ct), sl⟩) (e3 : codeIn K cdv "law" = true) .. : ∃ t, My.Txt K t
set_option maxRecDepth 100000 in
set_option maxHeartbeats 0 in
theorem PySem.Challenge.cw_LID_holds : PySem.Challenge.rw_LID.Holds := by
  w_on; o_law; k_head; (case hw => w_witness2)
  k_fill
  refine L2.walk_of (l := PySem.Challenge.rw_LID) (n := 63) (k := 40) (x := "script") (CX := fun w => ..) (sp := fun _ => My.sp_law) rfl (by decide) rfl ⟨rfl, by decide, by decide⟩ (fun w h Y => PySem.W.kIn_of Y) ?F ?S ?C
  case F =>
    intro w mg fa h KX G hmg
    have T : ∃ t, My.Txt (L2.KOf KX) t := by
      dsimp only [L2.KOf]                          -- K must stand as «<heap const> w.params» for k_is
      refine' My.txt_mk ?e1 ?e2 ?e3 ..
      (case e1 => PySem.W.k_is)                    -- in the order: a name -> its address -> its object -> its parts
      (case e2 => PySem.W.k_is)
      ..
    obtain ⟨t, T⟩ := T
    have e0 := hmg.symm.trans (PySem.W.mg_of KX G T.law)
    cases e0                                       -- fa is the law's own address
    exact ⟨_, fun s u => .of_eq rfl, fun base kb nb => My.law_fn T kb nb⟩     -- if «.of_eq rfl» comes too early: refine' ⟨_, ?b, fun base kb nb => My.law_fn T kb nb⟩; exact fun s u => .of_eq rfl
  case S => exact fun w H a ns hl hO hS => ..
  case C => exact ..
(the tactic k_is has no namespace: write k_is) -/
/-! SHORT WORDS over the layer: a def of the text, its body, what a loop and a test want. -/
namespace L2
open PySem PySem.Spec PyProof.Rows
/-! ### the text by places -/
/-- the j-th statement of a class's body -/
def inClass (s : Stmt) (j : Nat) : Stmt := match s with
  | .ClassDef _ _ _ body _ _ _ _ _ _ _ => body.getD j (.Pass ⟨0, 0, 0, 0⟩)
  | _ => .Pass ⟨0, 0, 0, 0⟩
def defArgs (s : Stmt) : Arguments := match s with
  | .FunctionDef _ a _ _ _ _ _ _ _ _ => a
  | _ => { posonlyargs := [], args := [], vararg := none, kwonlyargs := [], kw_defaults := [], kwarg := none, defaults := [] }
def defBody (s : Stmt) : List Stmt := match s with
  | .FunctionDef _ _ b _ _ _ _ _ _ _ => b
  | _ => []
def defScope (s : Stmt) : Scope := match s with
  | .FunctionDef _ _ _ _ _ _ sc _ _ _ => sc
  | _ => { kind := .function, names := [], isGenerator := false, isCoroutine := false }
/-! ### no exception leaves a def -/
abbrev CX0 : CXT := fun _ _ _ _ _ _ => False
abbrev E0 : XK := fun _ _ _ => False
theorem pass0 {X : Cx} : Passes CX0 X E0 := fun _ _ _ _ _ _ _ h => h.elim
/-! ### a def (or method) of the text as it stands behind the top -/
structure Fun (K : PySem.W.Frag) (x qual : Str) (st : Stmt) (f : Addr) (fd : FuncData) : Prop where
  ex : ∃ (oc : Value) (od : Option Addr) (kV doc pm : Value) (an : Option Addr) (cdv ct : Value) (osl : Array (Option Value)),
    fd = PySem.W.fnOf x qual (defArgs st) (defBody st) (defScope st) .none kV doc pm an cdv ct ∧ K.lookup f = some ⟨oc, od, .func fd, osl⟩ ∧ PySem.W.codeIn K cdv qual = true
  kp : PySem.W.keepIn K (.ref f) = true
section
variable {P : Program} {w : World} {K : PySem.W.Frag} {mg : Str → Option Value} {base : Heap}
/-- THE RULE for a def: its body as a term of rules, and the reading of that term -/
theorem Fun.ok {x qual : Str} {st : Stmt} {f : Addr} {fd : FuncData} {N ps : List Str} {k : Nat} {sp : Sp} (F : Fun K x qual st f fd) (S : FnScope N ps (defScope st)) (len : ∀ vs H Q E, sp vs H Q E → vs.length = ps.length)
    (hbody : ∀ (cdv : Value) (A : Around) (outer : List Env) (s : Shared) (H : Hp) (vs : List V) (Q : VK) (E : XK), Room k (A.deeper (envOfC qual (defScope st) s.heap.objs.size f cdv)) → sp vs H Q E →
      ∃ t, PSs (cxOf CX0 P w K mg base N qual (defScope st) f cdv A outer s H E).nox (defBody st) t ∧ t { nx := fun _ H' => Q .non H', rt := Q } (start N vs) H) : FnOk P w K mg base CX0 (k + 1) f fd ps sp := by
  obtain ⟨oc, od, kV, doc, pm, an, cdv, ct, osl, rfl, lk, hcd⟩ := F.ex
  refine fn_of lk hcd S len fun A outer s H vs Q E hr hsp => ?_
  obtain ⟨t, h, q⟩ := hbody cdv A outer s H vs Q E hr hsp
  exact ⟨t, h.nox, q⟩
/-- how its arguments bind (no defaults): h is «fun _ _ _ _ _ _ us hl => match us, hl with | [_, _], _ => rfl», one _ a parameter -/
theorem Fun.binds {x qual : Str} {st : Stmt} {f : Addr} {fd : FuncData} {ps : List Str} (F : Fun K x qual st f fd)
    (h : ∀ (kV doc pm : Value) (an : Option Addr) (cdv ct : Value) (us : List Value), us.length = ps.length → bindArgs (PySem.W.fnOf x qual (defArgs st) (defBody st) (defScope st) .none kV doc pm an cdv ct) ⟨us, []⟩ = pure (ps.zip us)) : Binds K fd ps [] := by
  obtain ⟨oc, od, kV, doc, pm, an, cdv, ct, osl, rfl, lk, hcd⟩ := F.ex
  exact .all (h kV doc pm an cdv ct)
theorem fun_mk {x qual : Str} {st : Stmt} {f : Addr} {oc : Value} {od an : Option Addr} {osl : Array (Option Value)} {kV doc pm cdv ct : Value} (l : K.lookup f = some ⟨oc, od, .func (PySem.W.fnOf x qual (defArgs st) (defBody st) (defScope st) .none kV doc pm an cdv ct), osl⟩)
    (c : PySem.W.codeIn K cdv qual = true) (k : PySem.W.keepIn K (.ref f) = true) : Fun K x qual st f (PySem.W.fnOf x qual (defArgs st) (defBody st) (defScope st) .none kV doc pm an cdv ct) := ⟨⟨oc, od, kV, doc, pm, an, cdv, ct, osl, rfl, l, c⟩, k⟩
end
theorem hu_of {A : Around} {k : Nat} (hr : Room k A) : A.units + 1 < cLine := Nat.lt_of_le_of_lt (Nat.add_le_add_left (by decide : 1 ≤ 64) _) hr.units
/-! ### expressions in short: the name that stands in the i-th slot -/
section
variable {X : Cx}
end
/-! ### tests -/
theorem iteF {A B : Prop} (h : B) : if false = true then A else B := by
  rw [if_neg Bool.false_ne_true]
  exact h
theorem iteT {A B : Prop} (h : A) : if true = true then A else B := by
  rw [if_pos rfl]
  exact h
/-! ### heaps -/
/-- all that was tracked is as it was -/
def Same (H H' : Hp) : Prop := ∀ b o, H b = some o → H' b = some o
end L2
namespace L2
open PySem PySem.Spec PyProof.Rows
section
variable {X : Cx}
/-- // by a positive divisor below 2^64 -/
theorem op_fdivW : OpR X (binaryOp .FloorDiv) (rI (fun _ j => 0 < j ∧ j < 2 ^ 64) fun i j => .int (i / j)) := by
  refine opI fun i j t u s Q E hc h => ?_
  obtain ⟨h0, h1⟩ := hc
  have e : i.fdiv j = i / j := Int.fdiv_eq_ediv_of_nonneg i (Int.le_of_lt h0)
  refine floordiv_int (by omega) (by rw [e]; exact h) (.inl (PyProof.noPylong_of_log2 ?_))
  have h2 : j.natAbs < 2 ^ 64 := by omega
  have h3 : j.natAbs ≠ 0 := by omega
  have := (Nat.log2_lt h3).mpr h2
  omega
/-- t + u of tuples, whatever -/
theorem cat_tup0 {prog : Program} {w : World} {A : Around} {E : Value → Shared → Prop} {s : Shared} {t b : Addr} {ws : List Value} {Q : Value → Shared → Prop} (ht : IsTup s.heap t #[]) (hb : IsTup s.heap b ws.toArray)
    (h1 : Q (.ref b) s) : wpAny (model prog w) A (binaryOp .Add (.ref t) (.ref b)) Q E s := by
  obtain ⟨⟨cls, dd, data, sl⟩, ho, hc, n, hd⟩ := id ht
  obtain ⟨⟨cls2, dd2, data2, sl2⟩, ho2, hc2, n2, hd2⟩ := id hb
  simp only at hc hd hc2 hd2
  subst hc hd hc2 hd2
  exact concat_meets ⟨_, ho, rfl⟩ ⟨_, ho2, rfl⟩ noFill_tuple_add seq_tuple_add PySem.F.slot_tuple_add PySem.F.entry_tuple_add (PySem.F.args_tuple_add_2 _ _)
      (tuple_addW0 t b #[] ws.toArray n n2 dd dd2 sl sl2 (by simp)) ⟨ho, ho2, h1⟩
def rCatT0 (K : PySem.W.Frag) : R2 := fun x y H Q => ∃ a b ys, x = .ref a ∧ y = .ref b ∧ SqT K H a [] ∧ SqT K H b ys ∧ Q (.ref b) H
theorem op_catT0 : OpR X (binaryOp .Add) (rCatT0 X.K) := by
  intro pins s σ H x y v u Q I rx ry h
  obtain ⟨a, b, ys, rfl, rfl, ha, hb, q⟩ := h
  cases rx
  cases ry
  obtain ⟨its, r1, p1, _⟩ := I.tuple ha
  obtain ⟨its2, r2, p2, _⟩ := I.tuple hb
  cases r1
  exact cat_tup0 p1 p2 ⟨.ref b, H, I, rfl, q⟩
end
end L2
namespace HT
open PySem PyProof.Rows
section
variable {prog : Program} {w : World} {A : Around} {E : Value → Shared → Prop} {s : Shared}
theorem getItem_tuple_whole {t sl : Addr} {items : Array Value} {vl vu : Value} {lo hi : Option Int} {Q : Value → Shared → Prop} (ht : IsTup s.heap t items) (hs : s.heap.IsSliceOf sl vl vu .none) (pl : IsPart vl lo) (pu : IsPart vu hi)
    (hw : sIx items.size 0 lo = 0 ∧ sIx items.size items.size hi = items.size)
    (h : Q (.ref t) s) : wpAny (model prog w) A (getItem (.ref t) (.ref sl)) Q E s := by
  obtain ⟨os, hos, hcs, hds⟩ := id hs
  have hTs : s.TypeIs (.ref sl) "slice" := ⟨os, hos, hcs⟩
  unfold getItem
  try with_reducible refine wpAny_holding ?_
  first | refine wpAny_bind (wpAny_pure ?_) | skip
  refine wpAny_bind (wpAny_sequenceKey ht.typeIs (by decide) ?_)
  refine wpAny_bind (wpAny_callSpecial?_slot (name := Str.ofString "__getitem__") ht.typeIs PyProof.Rows.slot_tuple_getitem
    (wpAny_call_entry PyProof.Rows.slot_tuple_getitem ht.typeIs entry_tuple_getitem ?_ (args_tuple_getitem _ _)))
  show wpAny _ _ (Builtin.Tuple.tupleItemsOf (.ref t) >>= _) _ _ s
  refine wpAny_bind (tupleItemsOf_ ht ?_)
  refine wpAny_bind (wpAny_typeOf hTs ?_)
  rw [if_pos (by decide)]
  refine wpAny_bind (sliceApplied_gen hs pl pu ?_)
  have hno : ((((sIx items.size 0 lo : Nat) : Int) == 0 && (1 : Int) == 1 && (sIx items.size items.size hi - sIx items.size 0 lo) == items.size) = true) := by
    rw [hw.1, hw.2]; simp
  show wpAny _ _ (if (((sIx items.size 0 lo : Nat) : Int) == 0 && (1 : Int) == 1 && (sIx items.size items.size hi - sIx items.size 0 lo) == items.size) = true then _ else _) _ _ s
  rw [if_pos hno]
  unfold Builtin.Tuple.tupleIsExact
  refine wpAny_bind (wpAny_bind (wpAny_typeOf ht.typeIs ?_))
  refine wpAny_pure ?_
  rw [if_pos (by decide)]
  exact wpAny_bind (wpAny_rule (wpAny_pure ⟨_, rfl, wpAny_pure h⟩))
end
end HT
namespace L2
open PySem PySem.Spec PyProof.Rows
section
variable {X : Cx}
/-- t[lo:hi], the whole of it: t itself -/
def rSlTW (K : PySem.W.Frag) : V → Option Int → Option Int → Hp → VK → Prop := fun x lo hi H Q => ∃ a xs, x = .ref a ∧ SqT K H a xs ∧
  (HT.sIx xs.length 0 lo = 0 ∧ HT.sIx xs.length xs.length hi = xs.length) ∧ Q (.ref a) H
theorem sl_tupW : SlR X (rSlTW X.K) := by
  intro pins s σ H x v vl vu lo hi sl Q I rx hs pl pu h
  obtain ⟨a, xs, rfl, hx, hw, q⟩ := h
  cases rx
  obtain ⟨its, r, ht, hz⟩ := I.tuple hx
  have hlen : its.toArray.size = xs.length := by rw [List.size_toArray]; exact r.length.symm
  refine ⟨"tuple", _, PyProof.Rows.slot_tuple_getitem.lookup, ht.typeIs, ?_⟩
  exact HT.getItem_tuple_whole ht hs pl pu (by rw [hlen]; exact hw) ⟨.ref a, H, I, rfl, q⟩
end
end L2
namespace L2
open PySem PySem.Spec PyProof.Rows
section
variable {X : Cx} {pins : List (Addr × Obj)} {σ : St} {H : Hp} {s : Shared} {h' : Heap} {t' : Nat}
end
/-! ### enumerate(list) -/
def Ite (K : PySem.W.Frag) (a : Addr) : It :=
  ⟨fun i H => ∃ xs x, SqL K H a xs ∧ xs[i]? = some x,
   fun i H y H' => ∃ p x, H p = none ∧ y = .ref p ∧ H' = upd H p (.tup [.int i, x]) ∧ ∀ xs, SqL K H a xs → xs[i]? = some x,
   fun i H => ∃ xs, SqL K H a xs ∧ xs.length ≤ i⟩
def iEnum (K : PySem.W.Frag) (ta : TA) : TI := fun σ H R => ta σ H fun vs H1 => ∃ a, vs = [.ref a] ∧ (∃ xs, SqL K H1 a xs) ∧ R (Ite K a) H1
/-! ### reversed(list) -/
def Itv (K : PySem.W.Frag) (a : Addr) (n : Nat) : It :=
  ⟨fun i H => ∃ xs x, SqL K H a xs ∧ xs.length = n ∧ i < n ∧ xs[n - 1 - i]? = some x, fun i H x H' => H' = H ∧ ∀ xs, SqL K H a xs → xs[n - 1 - i]? = some x, fun i H => (∃ xs, SqL K H a xs ∧ xs.length = n) ∧ i = n⟩
theorem turn_rev {P : Program} {w : World} {K : PySem.W.Frag} {tg : Expr} (a it : Addr) (n : Nat) : Turn P w K tg (Itv K a n) [it] it (fun i h => h.IsRevIter it a ((n : Int) - 1 - (i : Nat))) where
  mem := by simp
  obj := fun i h st b hb => by
    have e : b = it := by simpa using hb
    subst e
    obtain ⟨o, e, c, d⟩ := st
    exact ⟨o, e, fun v z => by rw [d] at z; cases z⟩
  keep := fun i h h' st k => st.at fun o e => k it (by simp) o e
  item := by
    intro X hP hw hK hc i pins s σ H E I hf st hg
    subst hP hw hK
    obtain ⟨xs, x, hq, hn, hi, hx⟩ := hg
    obtain ⟨its, rv, p, hz⟩ := I.list hq
    obtain ⟨u, hu, ru⟩ := rv.get hx
    obtain ⟨f0, f1, f2, f3, f4, f5⟩ := hf it (by simp)
    have ei : (n : Int) - 1 - (i : Nat) = ((n - 1 - i : Nat) : Int) := by omega
    rw [ei] at st
    refine wpAny_pyNext_rev_item st p.isList (x := u) (by simpa using hu) fun h' st' sb => ?_
    have I1 : Inv X pins σ H { s with heap := h' } := I.turned (t' := s.toks) (fun b o hb e => (sb.2 b hb).trans e) f0 f1 f3 f4 f5
    obtain ⟨o, e, c, d⟩ := id st'
    refine ⟨u, rfl, go_of (s := { s with heap := h' }) e c d (by decide) ⟨x, H, I1, ru, ⟨rfl, fun ys hy => by rw [I.list_inj hy hq]; exact hx⟩, ?_, fun b hb => (hf b hb).1⟩⟩
    have e2 : (n : Int) - 1 - ((i + 1 : Nat)) = ((n - 1 - i : Nat) : Int) - 1 := by omega
    rw [e2]; exact st'
  done := by
    intro X hP hw hK hc i pins s σ H E I hf st hg
    subst hP hw hK
    obtain ⟨⟨xs, hq, hn⟩, hi⟩ := hg
    obtain ⟨f0, f1, f2, f3, f4, f5⟩ := hf it (by simp)
    have ei : (n : Int) - 1 - (i : Nat) = -1 := by omega
    rw [ei] at st
    exact wpAny_pyNext_rev_end (I.ok.hd hc) st fun h' eb => ⟨rfl, I.turned (t' := s.toks) (fun b o hb e => eb b o hb e) f0 f1 f3 f4 f5⟩
  self := fun _ _ _ _ _ st h => wpAny_pyIter_revIter st h
def iRev (K : PySem.W.Frag) (ta : TA) : TI := fun σ H R => ta σ H fun vs H1 => ∃ a xs, vs = [.ref a] ∧ SqL K H1 a xs ∧ R (Itv K a xs.length) H1
theorem boot_rev : bootBuiltins "reversed" = some (.type "reversed") := by decide +kernel
theorem pi_rev {X : Cx} {tg a : Expr} {ta : TA} {p pos : Pos} (hg : Gl X "reversed") (hm : X.mg "reversed" = none) (ha : PA X [a] ta) (hs : starEach [a] X.env = [(false, eval a X.env)] := by rfl) :
    PI X tg (.Call (.Name "reversed" p) [a] [] pos) (iRev X.K ta) := by
  intro pins s σ H R I h
  refine Call_ (ld_blt I hg hm boot_rev (PyProof.Rows.callWith_type1 (thn (ha pos pins s σ H _ I h) fun us s1 ⟨vs, H1, I1, r1, q1⟩ => ?_) hs rfl))
  obtain ⟨l, xs, e, hq, q⟩ := q1
  subst e
  cases r1 with
  | cons r rr =>
    cases rr
    cases r
    obtain ⟨its, rv, pl, hz⟩ := I1.list hq
    refine call_reversed_list pl.isList ?_
    have st : (s1.heap.push (revObj l ((its.toArray.size : Int) - 1))).IsRevIter s1.heap.objs.size l ((xs.length : Int) - 1 - ((0 : Nat) : Int)) := by
      refine ⟨_, Heap.get?_push_size _ rfl, rfl, ?_⟩
      have e1 : (its.toArray.size : Int) - 1 = (xs.length : Int) - 1 - ((0 : Nat) : Int) := by rw [List.size_toArray, ← rv.length]; omega
      rw [← e1]; rfl
    refine wpAny_pyIter_revIter st ?_
    refine ⟨s1.heap.objs.size, [s1.heap.objs.size], _, _, H1, rfl, I1.kept (t' := s1.toks) fun b o e => Heap.get?_push_of_some _ e, turn_rev l _ xs.length, st, fun b hb => ?_, q⟩
    have e : b = s1.heap.objs.size := by simpa using hb
    subst e
    exact I1.fpOk (Nat.le_refl _) (I1.hok.fresh (Nat.le_refl _))
/-! ### zip(list, list) -/
def Itz (K : PySem.W.Frag) (a b : Addr) : It :=
  ⟨fun i H => ∃ xs ys x y, SqL K H a xs ∧ SqL K H b ys ∧ xs[i]? = some x ∧ ys[i]? = some y,
   fun i H z H' => ∃ p x y, H p = none ∧ z = .ref p ∧ H' = upd H p (.tup [x, y]) ∧ (∀ xs, SqL K H a xs → xs[i]? = some x) ∧ ∀ ys, SqL K H b ys → ys[i]? = some y,
   fun i H => ∃ xs ys, SqL K H a xs ∧ SqL K H b ys ∧ min xs.length ys.length ≤ i⟩
def iZip (K : PySem.W.Frag) (ta : TA) : TI := fun σ H R => ta σ H fun vs H1 => ∃ a b, vs = [.ref a, .ref b] ∧ (∃ xs, SqL K H1 a xs) ∧ (∃ ys, SqL K H1 b ys) ∧ R (Itz K a b) H1
end L2
namespace L2
open PySem PySem.Spec PyProof.Rows
/-! ### [e for t in it if c] -/
def rlab (env : Env) (p : Str × NameKind) : Str × NameKind := if (p.2 == .free && env.scope.kind == .function && env.kindOf p.1 == some .cell) = true then (p.1, .cell) else (p.1, p.2)
/-- the block's context: its own names N (its targets, and what it takes from around), the iterator's records fp -/
def compCx (X : Cx) (N : List Str) (scope : Scope) (cl : List (Str × Addr)) (C : Addr) (fp : List Addr) (s : Shared) (H : Hp) : Cx :=
  { X with N := N, s₀ := s, H₀ := H, env := compEnvC scope cl C X.env, outer := X.stack, stack := X.stack, ex := fp, fn := fun _ => false, pn := [], xe := fun _ _ => False }
/-- what of the text a block must have -/
structure CompScope (scope : Scope) : Prop where
  kind : scope.kind = .function
  cell : ∀ y ∈ scope.names, y.2 ≠ .cell
  names : ∀ y ∈ scope.names, y.2 = .local → scope.names.lookup y.1 = some .local
/-- which of the names stand around it, and where -/
def Capt (X : Cx) (scope : Scope) : List (Option Nat) → List Str → Prop
  | [], [] => True
  | none :: r, _ :: xs => Capt X scope r xs
  | some j :: r, x :: xs => (X.N[j]? = some x ∧ (X.env.kindOf x = some .cell ∨ X.env.kindOf x = some .free) ∧ scope.names.lookup x = some .free) ∧ Capt X scope r xs
  | _, _ => False
def captSt (capt : List (Option Nat)) (σ : St) : St := capt.map fun o => o.bind fun j => (σ[j]?).join
section
variable {X : Cx} {pins : List (Addr × Obj)} {σ : St} {H : Hp} {s : Shared} {N : List Str} {scope : Scope} {cl : List (Str × Addr)} {C : Addr} {fp : List Addr} {capt : List (Option Nat)}
end
end L2
namespace L2
open PySem PySem.Spec PyProof.Rows
abbrev testsOf (ifs : List Expr) (env : Env) : Sem Bool := forIn ifs true fun c r => if r = true then do let ok ← isTrue c env (eval c env); pure (ForInStep.yield ok) else pure (ForInStep.yield r)
/-- the tests of a block -/
def PTs (X : Cx) (ifs : List Expr) (t : TT) : Prop :=
  ∀ (pins : List (Addr × Obj)) (s : Shared) (σ : St) (H : Hp) (Q : Bool → Hp → Prop), Inv X pins σ H s → t σ H Q → wpAny (model X.prog X.w) X.A (testsOf ifs X.env) (TP X pins σ Q) X.xe s
/-- the reading of a block -/
def tComp (capt : List (Option Nat)) (wi : TI) (g : TG) (tt : TT) (te : TE) : TE := fun σ H Q => wi σ H fun J H1 => ∀ D, H1 D = none → ∃ W : Nat → Nat → St → Hp → Prop, (∃ m, W 0 m (captSt capt σ) (upd H1 D (.lst []))) ∧
  ∀ i m σ' H', W i m σ' H' → (J.stop i H' ∧ Q (.ref D) H') ∨ (J.go i H' ∧ ∃ N : St → Hp → Prop, (∀ σ2 H2, N σ2 H2 → ∃ m', m' < m ∧ W (i + 1) m' σ2 H2) ∧
    ∀ x H2, J.yld i H' x H2 → g x σ' H2 fun σ3 H3 => tt σ3 H3 fun ok H4 => if ok = true then te σ3 H4 fun y H5 => ∃ xs, H5 D = some (.lst xs) ∧ xs.length < sizeLine ∧ N σ3 (upd H5 D (.lst (xs ++ [y]))) else N σ3 H4)
section
variable {X : Cx} {elt tg iter : Expr} {ifs : List Expr} {scope : Scope} {pos : Pos} {N : List Str} {capt : List (Option Nat)} {wi : TI} {g : TG} {tt : TT} {te : TE}
end
end L2
namespace M
open PySem PySem.Spec L2
/-! ### data, store, results -/
/-- data: texts are their codes, tuples are trees, a list or dict is a place of the store -/
inductive D where
  | non | bl (b : Bool) | int (i : Int) | str (cs : List Nat) | tup (xs : List D) | loc (n : Nat)
instance : Inhabited D := ⟨.non⟩
/-- a lambda's text: its qualified name, its parts, the names that it takes from around -/
structure LamS where
  qual : Str
  params : Arguments
  body : Expr
  scope : Scope
  caps : List Str
inductive MO where
  | lst (xs : List D) | frz (xs : List D) | dic (kvs : List (List Key × D)) | dkc (kvs : List (Key × D))
  /-- a dict with plain keys that is only read -/
  | dkf (kvs : List (Key × D))
  /-- an instance of a class of the module -/
  | ins (c : Str) (fs : List (Str × D))
  /-- the table of the code of a def of the module that makes lambdas -/
  | tab (x : Str)
  /-- a lambda, the j-th of the text, and what it took from around -/
  | clo (j : Nat) (l : LamS) (ds : List D)
  /-- a place of which nothing is told -/
  | hid
abbrev Stor := List MO
abbrev MEnv := List (Option D)
/-- an exception: its class's name and its field -/
structure Xc where
  cls : String
  fld : D
inductive R (α : Type) where
  | ok (a : α) (st : Stor) | err (x : Xc) (st : Stor) | bad
/-- so that the simplifier rewrites by it, and leaves nothing for the kernel to unfold -/
theorem by_rfl {α : Sort u} {a b : α} (h : a = b) : a = b := h
def R.bind {α β : Type} (r : R α) (f : α → Stor → R β) : R β := match r with
  | .ok a st => f a st
  | .err x st => .err x st
  | .bad => .bad
@[simp] theorem R.bind_ok {α β : Type} (a : α) (st : Stor) (f : α → Stor → R β) : (R.ok a st).bind f = f a st := by_rfl rfl
@[simp] theorem R.bind_err {α β : Type} (x : Xc) (st : Stor) (f : α → Stor → R β) : (R.err x st : R α).bind f = .err x st := by_rfl rfl
@[simp] theorem R.bind_bad {α β : Type} (f : α → Stor → R β) : (R.bad : R α).bind f = .bad := by_rfl rfl
abbrev strOf (cs : List Nat) : Str := ⟨cs.toArray⟩
/-! ### how the abstract heap bears them -/
/-- a made tuple may stand where a tuple is asked -/
instance sqTOf {K : PySem.W.Frag} {H : Hp} {a : Addr} {xs : List V} : CoeTail (H a = some (.tup xs)) (SqT K H a xs) := ⟨SqT.of⟩
/-- items that make no key of a dict -/
def noKey : List D → Bool
  | [] => false
  | .int _ :: r => noKey r
  | .str _ :: r => noKey r
  | _ :: _ => true
/-- a tuple: a made one, or, where it is no key, one of the module -/
def TupA (K : PySem.W.Frag) (H : Hp) (a : Addr) (xs : List V) (ds : List D) : Prop :=
  H a = some (.tup xs) ∨ (noKey ds = true ∧ ∃ (o : Obj) (its : Array Value) (n : Nat), K.lookup a = some o ∧ o.cls = .type "tuple" ∧ o.data = .seq its n ∧ its.size ≤ sizeLine ∧ Vals xs its.toList)
theorem TupA.sqT {K : PySem.W.Frag} {H : Hp} {a : Addr} {xs : List V} {ds : List D} (h : TupA K H a xs ds) : SqT K H a xs := by
  rcases h with h | ⟨_, h⟩
  · exact SqT.of h
  · exact .inr h
mutual
def RepV (K : PySem.W.Frag) (μ : List Addr) (H : Hp) : D → V → Prop
  | .non, v => v = .non
  | .bl b, v => v = .bl b
  | .int i, v => v = .int i
  | .str cs, v => v = .str (strOf cs)
  | .tup ds, v => ∃ a xs, v = .ref a ∧ TupA K H a xs ds ∧ RepVs K μ H ds xs
  | .loc n, v => ∃ a, μ[n]? = some a ∧ v = .ref a
def RepVs (K : PySem.W.Frag) (μ : List Addr) (H : Hp) : List D → List V → Prop
  | [], vs => vs = []
  | d :: ds, vs => ∃ v r, vs = v :: r ∧ RepV K μ H d v ∧ RepVs K μ H ds r
end
/-- tuples and known things stay -/
structure Ext (H H' : Hp) : Prop where
  tup : ∀ b xs, H b = some (.tup xs) → H' b = some (.tup xs)
  frz : ∀ b o u, H b = some (.frz o u) → H' b = some (.frz o u)
theorem Ext.refl (H : Hp) : Ext H H := ⟨fun _ _ h => h, fun _ _ _ h => h⟩
theorem Ext.trans {H H1 H2 : Hp} (a : Ext H H1) (b : Ext H1 H2) : Ext H H2 := ⟨fun c xs h => b.tup c xs (a.tup c xs h), fun c o u h => b.frz c o u (a.frz c o u h)⟩
theorem Ext.sqT {K : PySem.W.Frag} {H H' : Hp} {a : Addr} {xs : List V} (e : Ext H H') (h : SqT K H a xs) : SqT K H' a xs := by
  rcases h with (h | ⟨o, h⟩) | h
  · exact .inl (.inl (e.tup _ _ h))
  · exact .inl (.inr ⟨o, e.frz _ _ _ h⟩)
  · exact .inr h
theorem Ext.tupA {K : PySem.W.Frag} {H H' : Hp} {a : Addr} {xs : List V} {ds : List D} (e : Ext H H') (h : TupA K H a xs ds) : TupA K H' a xs ds := by
  rcases h with h | h
  · exact .inl (e.tup _ _ h)
  · exact .inr h
theorem Ext.new {H : Hp} {p : Addr} {o : HO} (h : H p = none) : Ext H (upd H p o) :=
  ⟨fun b xs q => by rw [upd_ne (ne_of_none q h)]; exact q, fun b o' u q => by rw [upd_ne (ne_of_none q h)]; exact q⟩
structure Grow (μ : List Addr) (H : Hp) (μ' : List Addr) (H' : Hp) : Prop where
  pre : ∃ ν, μ' = μ ++ ν
  ext : Ext H H'
theorem Grow.refl (μ : List Addr) (H : Hp) : Grow μ H μ H := ⟨⟨[], by simp⟩, .refl H⟩
theorem Grow.trans {μ μ1 μ2 : List Addr} {H H1 H2 : Hp} (a : Grow μ H μ1 H1) (b : Grow μ1 H1 μ2 H2) : Grow μ H μ2 H2 := by
  obtain ⟨ν1, rfl⟩ := a.pre
  obtain ⟨ν2, rfl⟩ := b.pre
  exact ⟨⟨ν1 ++ ν2, by simp⟩, a.ext.trans b.ext⟩
theorem Grow.get {μ μ' : List Addr} {H H' : Hp} (g : Grow μ H μ' H') {n : Nat} {a : Addr} (h : μ[n]? = some a) : μ'[n]? = some a := by
  obtain ⟨ν, rfl⟩ := g.pre
  rw [List.getElem?_append_left (List.getElem?_eq_some_iff.mp h).1]; exact h
mutual
theorem RepV.mono {K : PySem.W.Frag} {μ μ' : List Addr} {H H' : Hp} (g : Grow μ H μ' H') : ∀ (d : D) {v : V}, RepV K μ H d v → RepV K μ' H' d v
  | .non, _, h => by simpa [RepV] using h
  | .bl _, _, h => by simpa [RepV] using h
  | .int _, _, h => by simpa [RepV] using h
  | .str _, _, h => by simpa [RepV] using h
  | .tup ds, _, h => by
    rw [RepV] at h ⊢
    obtain ⟨a, xs, rfl, h1, h2⟩ := h
    exact ⟨a, xs, rfl, g.ext.tupA h1, RepVs.mono g ds h2⟩
  | .loc n, _, h => by
    rw [RepV] at h ⊢
    obtain ⟨a, h1, rfl⟩ := h
    exact ⟨a, g.get h1, rfl⟩
theorem RepVs.mono {K : PySem.W.Frag} {μ μ' : List Addr} {H H' : Hp} (g : Grow μ H μ' H') : ∀ (ds : List D) {vs : List V}, RepVs K μ H ds vs → RepVs K μ' H' ds vs
  | [], _, h => by simpa [RepVs] using h
  | d :: ds, _, h => by
    rw [RepVs] at h ⊢
    obtain ⟨v, r, rfl, h1, h2⟩ := h
    exact ⟨v, r, rfl, RepV.mono g d h1, RepVs.mono g ds h2⟩
end
section
variable {K : PySem.W.Frag} {μ : List Addr} {H : Hp}
theorem RepVs.length : ∀ {ds : List D} {vs : List V}, RepVs K μ H ds vs → ds.length = vs.length
  | [], _, h => by rw [RepVs] at h; subst h; rfl
  | d :: ds, _, h => by
    rw [RepVs] at h
    obtain ⟨v, r, rfl, _, h2⟩ := h
    rw [List.length_cons, List.length_cons, RepVs.length h2]
theorem RepVs.get : ∀ {ds : List D} {vs : List V} {i : Nat} {d : D}, RepVs K μ H ds vs → ds[i]? = some d → ∃ v, vs[i]? = some v ∧ RepV K μ H d v
  | [], _, _, _, _, e => by simp at e
  | d :: ds, _, 0, _, h, e => by
    rw [RepVs] at h
    obtain ⟨v, r, rfl, h1, _⟩ := h
    simp at e; subst e
    exact ⟨v, rfl, h1⟩
  | d :: ds, _, i + 1, x, h, e => by
    rw [RepVs] at h
    obtain ⟨v, r, rfl, _, h2⟩ := h
    obtain ⟨u, h3, h4⟩ := RepVs.get (i := i) h2 (by simpa using e)
    exact ⟨u, by simpa using h3, h4⟩
theorem RepVs.append : ∀ {ds es : List D} {vs ws : List V}, RepVs K μ H ds vs → RepVs K μ H es ws → RepVs K μ H (ds ++ es) (vs ++ ws)
  | [], _, _, _, h, k => by rw [RepVs] at h; subst h; exact k
  | d :: ds, es, _, ws, h, k => by
    rw [RepVs] at h
    obtain ⟨v, r, rfl, h1, h2⟩ := h
    show RepVs K μ H (d :: (ds ++ es)) (v :: (r ++ ws))
    rw [RepVs]
    exact ⟨v, r ++ ws, rfl, h1, RepVs.append h2 k⟩
theorem RepVs.nil : RepVs K μ H [] [] := by rw [RepVs]
theorem RepVs.cons {d : D} {ds : List D} {v : V} {vs : List V} (h : RepV K μ H d v) (k : RepVs K μ H ds vs) : RepVs K μ H (d :: ds) (v :: vs) := by rw [RepVs]; exact ⟨v, vs, rfl, h, k⟩
theorem RepVs.take : ∀ {ds : List D} {vs : List V} (n : Nat), RepVs K μ H ds vs → RepVs K μ H (ds.take n) (vs.take n)
  | _, _, 0, _ => by simp [RepVs]
  | [], _, n + 1, h => by rw [RepVs] at h; subst h; simp [RepVs]
  | d :: ds, _, n + 1, h => by
    rw [RepVs] at h
    obtain ⟨v, r, rfl, h1, h2⟩ := h
    exact RepVs.cons h1 (RepVs.take n h2)
theorem RepVs.drop : ∀ {ds : List D} {vs : List V} (n : Nat), RepVs K μ H ds vs → RepVs K μ H (ds.drop n) (vs.drop n)
  | _, _, 0, h => h
  | [], _, n + 1, h => by rw [RepVs] at h; subst h; simp [RepVs]
  | d :: ds, _, n + 1, h => by
    rw [RepVs] at h
    obtain ⟨v, r, rfl, h1, h2⟩ := h
    exact RepVs.drop n h2
theorem RepV.int_iff {i : Int} {v : V} : RepV K μ H (.int i) v ↔ v = .int i := by rw [RepV]
theorem RepV.bl_iff {b : Bool} {v : V} : RepV K μ H (.bl b) v ↔ v = .bl b := by rw [RepV]
theorem RepV.non_iff {v : V} : RepV K μ H .non v ↔ v = .non := by rw [RepV]
theorem RepV.str_iff {cs : List Nat} {v : V} : RepV K μ H (.str cs) v ↔ v = .str (strOf cs) := by rw [RepV]
theorem RepV.tup_iff {ds : List D} {v : V} : RepV K μ H (.tup ds) v ↔ ∃ a xs, v = .ref a ∧ TupA K H a xs ds ∧ RepVs K μ H ds xs := by rw [RepV]
theorem RepV.loc_iff {n : Nat} {v : V} : RepV K μ H (.loc n) v ↔ ∃ a, μ[n]? = some a ∧ v = .ref a := by rw [RepV]
end
/-! ### the store -/
/-- pairs of a dict -/
def RepKV {κ : Type} (K : PySem.W.Frag) (μ : List Addr) (H : Hp) : List (κ × D) → List (κ × V) → Prop
  | [], vs => vs = []
  | (k, d) :: ds, vs => ∃ v r, vs = (k, v) :: r ∧ RepV K μ H d v ∧ RepKV K μ H ds r
theorem RepKV.mono {κ : Type} {K : PySem.W.Frag} {μ μ' : List Addr} {H H' : Hp} (g : Grow μ H μ' H') : ∀ {ds : List (κ × D)} {vs : List (κ × V)}, RepKV K μ H ds vs → RepKV K μ' H' ds vs
  | [], _, h => h
  | (k, d) :: ds, _, ⟨v, r, e, h1, h2⟩ => ⟨v, r, e, h1.mono g d, RepKV.mono g h2⟩
/-- a list that is only read: known to the object, or the module's own -/
def FrzL (K : PySem.W.Frag) (H : Hp) (a : Addr) (xs : List V) : Prop :=
  (∃ o, H a = some (.frz o (.lst xs))) ∨ ∃ (o : Obj) (its : Array Value) (n : Nat), K.lookup a = some o ∧ o.cls = .type "list" ∧ o.dict = none ∧ o.data = .seq its n ∧ its.size ≤ sizeLine ∧ Vals xs its.toList
theorem FrzL.sqL {K : PySem.W.Frag} {H : Hp} {a : Addr} {xs : List V} (h : FrzL K H a xs) : SqL K H a xs := by
  rcases h with h | h
  · exact .inl (.inr h)
  · exact .inr h
theorem FrzL.ext {K : PySem.W.Frag} {H H' : Hp} {a : Addr} {xs : List V} (e : Ext H H') (h : FrzL K H a xs) : FrzL K H' a xs := by
  rcases h with ⟨o, h⟩ | h
  · exact .inl ⟨o, e.frz _ _ _ h⟩
  · exact .inr h
def MO.mut : MO → Bool
  | .frz _ => false
  | .clo _ _ _ => false
  | .hid => false
  | .dkf _ => false
  | _ => true
/-- a code object that is known -/
def CodeF (H : Hp) (c : Addr) (q : Str) : Prop := ∃ oc vs t, H c = some (.frz oc (.own 0)) ∧ oc.data = .fields vs ∧ vs[1]? = some (.str q t)
/-- cells that are known, and what they hold -/
def CellsF (H : Hp) : List (Str × Addr) → List V → Prop
  | [], vs => vs = []
  | (_, c) :: cl, vs => ∃ v r o u, vs = v :: r ∧ H c = some (.frz o (.own 0)) ∧ o.data = .cell (some u) ∧ RelV v u ∧ CellsF H cl r
theorem CodeF.ext {H H' : Hp} {c : Addr} {q : Str} (e : Ext H H') (h : CodeF H c q) : CodeF H' c q :=
  let ⟨oc, vs, t, h1, h2⟩ := h; ⟨oc, vs, t, e.frz _ _ _ h1, h2⟩
theorem CellsF.ext {H H' : Hp} (e : Ext H H') : ∀ {cl : List (Str × Addr)} {vs : List V}, CellsF H cl vs → CellsF H' cl vs
  | [], _, h => h
  | (_, c) :: cl, _, ⟨v, r, o, u, h1, h2, h3, h4, h5⟩ => ⟨v, r, o, u, h1, e.frz _ _ _ h2, h3, h4, CellsF.ext e h5⟩
def lamQual (x : Str) : Str := x ++ ".<locals>." ++ "<lambda>"
def RepO (K : PySem.W.Frag) (μ : List Addr) (H : Hp) (a : Addr) : MO → Prop
  | .lst ds => ∃ xs, H a = some (.lst xs) ∧ RepVs K μ H ds xs
  | .frz ds => ∃ xs, FrzL K H a xs ∧ RepVs K μ H ds xs
  | .dic kvs => ∃ ws, H a = some (.dT ws) ∧ RepKV K μ H kvs ws
  | .dkc kvs => ∃ ws, H a = some (.dK ws) ∧ RepKV K μ H kvs ws
  | .dkf kvs => ∃ ws o, H a = some (.frz o (.dK ws)) ∧ RepKV K μ H kvs ws
  | .ins c fs => ∃ C dx ws, PySem.W.nsIn K mainGlobals c = some (some (.ref C)) ∧ H a = some (.ins C dx ws) ∧ RepKV K μ H fs ws
  | .tab x => (∃ (fa : Addr) (o : Obj) (fd : FuncData) (c : Addr), PySem.W.nsIn K mainGlobals x = some (some (.ref fa)) ∧ K.lookup fa = some o ∧ o.data = .func fd ∧ fd.code = .ref c ∧ PySem.W.codeHdIn K c a = true) ∧
      ∃ ps : Array Value, H a = some (.tbl ps) ∧ TriplesOk ps.toList ∧ ∀ pos cv, codeAmong pos ps.toList = some cv → ∃ c', cv = .ref c' ∧ CodeF H c' (lamQual x)
  | .clo _ l ds => ∃ (cl : List (Str × Addr)) (pm : Value) (c' : Addr) (ctv : Value) (vs : List V), H a = some (.frz (PySem.W.kla_obj "<lambda>" l.qual l.params l.body l.scope cl pm c' ctv) (.own 0)) ∧ CodeF H c' l.qual ∧
      cl.map (·.1) = l.caps ∧ (cl.map (·.2)).Nodup ∧ CellsF H cl vs ∧ RepVs K μ H ds vs
  | .hid => True
structure RepS (K : PySem.W.Frag) (μ : List Addr) (H : Hp) (st : Stor) : Prop where
  len : μ.length = st.length
  at_ : ∀ (n : Nat) (o : MO), st[n]? = some o → ∃ a, μ[n]? = some a ∧ RepO K μ H a o
  uniq : ∀ (i j : Nat) (a : Addr) (oi oj : MO), st[i]? = some oi → st[j]? = some oj → oi.mut = true → oj.mut = true → μ[i]? = some a → μ[j]? = some a → i = j
structure RepE (K : PySem.W.Frag) (μ : List Addr) (H : Hp) (env : MEnv) (σ : St) : Prop where
  len : env.length = σ.length
  at_ : ∀ (i : Nat) (d : D), env[i]? = some (some d) → ∃ v, σ[i]? = some (some v) ∧ RepV K μ H d v
theorem RepE.mono {K : PySem.W.Frag} {μ μ' : List Addr} {H H' : Hp} {env : MEnv} {σ : St} (g : Grow μ H μ' H') (h : RepE K μ H env σ) : RepE K μ' H' env σ :=
  ⟨h.len, fun i d e => let ⟨v, h1, h2⟩ := h.at_ i d e; ⟨v, h1, h2.mono g d⟩⟩
theorem RepE.set {K : PySem.W.Frag} {μ : List Addr} {H : Hp} {env : MEnv} {σ : St} {i : Nat} {d : D} {v : V} (h : RepE K μ H env σ) (r : RepV K μ H d v) : RepE K μ H (env.set i (some d)) (σ.set i (some v)) := by
  refine ⟨by simp [h.len], fun j e hj => ?_⟩
  by_cases hij : i = j
  · subst hij
    have hl : i < env.length := by
      have := (List.getElem?_eq_some_iff.mp hj).1; simpa using this
    rw [List.getElem?_set_self hl] at hj
    cases hj
    exact ⟨v, by rw [List.getElem?_set_self (by rw [← h.len]; exact hl)], r⟩
  · rw [List.getElem?_set_ne hij] at hj
    rw [List.getElem?_set_ne hij]
    exact h.at_ j e hj
/-- a new object of the store -/
theorem RepO.some_of {K : PySem.W.Frag} {μ : List Addr} {H : Hp} {a : Addr} {o : MO} (h : RepO K μ H a o) (hm : o.mut = true) : ∃ u, H a = some u := by
  cases o with
  | lst ds => obtain ⟨xs, h1, _⟩ := h; exact ⟨_, h1⟩
  | frz ds => cases hm
  | dic kvs => obtain ⟨xs, h1, _⟩ := h; exact ⟨_, h1⟩
  | dkc kvs => obtain ⟨xs, h1, _⟩ := h; exact ⟨_, h1⟩
  | dkf kvs => cases hm
  | ins c fs => obtain ⟨_, _, _, _, h1, _⟩ := h; exact ⟨_, h1⟩
  | tab x => obtain ⟨_, _, h1, _⟩ := h; exact ⟨_, h1⟩
  | clo j l ds => cases hm
  | hid => cases hm
theorem RepO.keep {K : PySem.W.Frag} {μ μ' : List Addr} {H H' : Hp} {a : Addr} {o : MO} (g : Grow μ H μ' H') (hk : o.mut = true → ∀ u, H a = some u → H' a = some u) (h : RepO K μ H a o) : RepO K μ' H' a o := by
  cases o with
  | lst ds => obtain ⟨xs, h1, h2⟩ := h; exact ⟨xs, hk rfl _ h1, h2.mono g ds⟩
  | frz ds => obtain ⟨xs, h1, h2⟩ := h; exact ⟨xs, h1.ext g.ext, h2.mono g ds⟩
  | dic kvs => obtain ⟨ws, h1, h2⟩ := h; exact ⟨ws, hk rfl _ h1, h2.mono g⟩
  | dkc kvs => obtain ⟨ws, h1, h2⟩ := h; exact ⟨ws, hk rfl _ h1, h2.mono g⟩
  | dkf kvs => obtain ⟨ws, o, h1, h2⟩ := h; exact ⟨ws, o, g.ext.frz _ _ _ h1, h2.mono g⟩
  | ins c fs => obtain ⟨C, dx, ws, h0, h1, h2⟩ := h; exact ⟨C, dx, ws, h0, hk rfl _ h1, h2.mono g⟩
  | tab x => obtain ⟨h0, ps, h1, h2, h3⟩ := h; exact ⟨h0, ps, hk rfl _ h1, h2, fun pos cv e => let ⟨c', e1, e2⟩ := h3 pos cv e; ⟨c', e1, e2.ext g.ext⟩⟩
  | clo j l ds => obtain ⟨cl, pm, c', ctv, vs, h1, h2, h3, h4, h5, h6⟩ := h; exact ⟨cl, pm, c', ctv, vs, g.ext.frz _ _ _ h1, h2.ext g.ext, h3, h4, h5.ext g.ext, h6.mono g ds⟩
  | hid => trivial
section
variable {K : PySem.W.Frag} {μ : List Addr} {H : Hp} {st : Stor} {p a : Addr} {xs : List V} {n : Nat} {mo mo' : MO} {o o' : HO}
/-- an object that the store does not name is laid (a tuple) -/
theorem RepS.lay (h : RepS K μ H st) (hp : H p = none) : RepS K μ (upd H p o) st :=
  ⟨h.len, fun n mo e => let ⟨a, h1, h2⟩ := h.at_ n mo e; ⟨a, h1, h2.keep ⟨⟨[], by simp⟩, .new hp⟩ fun _ u q => by rw [upd_ne (ne_of_none q hp)]; exact q⟩, h.uniq⟩
theorem Grow.lay (hp : H p = none) : Grow μ H μ (upd H p o) := ⟨⟨[], by simp⟩, .new hp⟩
theorem Grow.new (hp : H p = none) : Grow μ H (μ ++ [p]) (upd H p o) := ⟨⟨[p], rfl⟩, .new hp⟩
/-- a new object of the store -/
theorem RepS.new (h : RepS K μ H st) (hp : H p = none) (hn : RepO K (μ ++ [p]) (upd H p o) p mo) : RepS K (μ ++ [p]) (upd H p o) (st ++ [mo]) := by
  refine ⟨by simp [h.len], fun n mo1 e => ?_, fun i j b oi oj ei ej mi mj hi hj => ?_⟩
  · by_cases hl : n < st.length
    · rw [List.getElem?_append_left hl] at e
      obtain ⟨b, h1, h2⟩ := h.at_ n mo1 e
      exact ⟨b, by rw [List.getElem?_append_left (by rw [h.len]; exact hl)]; exact h1, h2.keep (Grow.new hp) fun _ u q => by rw [upd_ne (ne_of_none q hp)]; exact q⟩
    · have hl2 := (List.getElem?_eq_some_iff.mp e).1
      rw [List.length_append, List.length_singleton] at hl2
      have e2 : n = st.length := by omega
      subst e2
      rw [List.getElem?_append_right (Nat.le_refl _)] at e
      simp at e; subst e
      exact ⟨p, by rw [← h.len]; simp, hn⟩
  · have key : ∀ (k : Nat) (ok : MO), (st ++ [mo])[k]? = some ok → ok.mut = true → (μ ++ [p])[k]? = some b → (k < st.length ∧ st[k]? = some ok ∧ μ[k]? = some b ∧ b ≠ p) ∨ (k = st.length ∧ b = p) := fun k ok ek mk hk => by
      by_cases hl : k < st.length
      · rw [List.getElem?_append_left hl] at ek
        rw [List.getElem?_append_left (by rw [h.len]; exact hl)] at hk
        obtain ⟨c, h1, h2⟩ := h.at_ k ok ek
        rw [hk] at h1; cases h1
        obtain ⟨u, hu⟩ := h2.some_of mk
        exact .inl ⟨hl, ek, hk, ne_of_none hu hp⟩
      · have hl2 := (List.getElem?_eq_some_iff.mp ek).1
        rw [List.length_append, List.length_singleton] at hl2
        have e2 : k = st.length := by omega
        subst e2
        rw [← h.len] at hk
        simp at hk
        exact .inr ⟨rfl, hk.symm⟩
    rcases key i oi ei mi hi with ⟨_, a1, a2, a3⟩ | ⟨a1, a2⟩
    · rcases key j oj ej mj hj with ⟨_, b1, b2, b3⟩ | ⟨b1, b2⟩
      · exact h.uniq i j b oi oj a1 b1 mi mj a2 b2
      · exact absurd b2 a3
    · rcases key j oj ej mj hj with ⟨_, b1, b2, b3⟩ | ⟨b1, b2⟩
      · exact absurd a2 b3
      · rw [a1, b1]
theorem Ext.mut (h : H a = some o) (ht : ∀ ys, o ≠ .tup ys) (hf : ∀ w u, o ≠ .frz w u) : Ext H (upd H a o') :=
  ⟨fun b ys q => by rw [upd_ne (fun e => by subst e; rw [h] at q; exact ht _ (Option.some.inj q))]; exact q,
   fun b w u q => by rw [upd_ne (fun e => by subst e; rw [h] at q; exact hf _ _ (Option.some.inj q))]; exact q⟩
/-- an object of the store is written -/
theorem RepS.put (h : RepS K μ H st) (hn : st[n]? = some mo) (hm : mo.mut = true) (hm' : mo'.mut = true) (ha : μ[n]? = some a) (g : Ext H (upd H a o')) (new : RepO K μ (upd H a o') a mo') : RepS K μ (upd H a o') (st.set n mo') := by
  have hl := (List.getElem?_eq_some_iff.mp hn).1
  refine ⟨by simp [h.len], fun k ok e => ?_, fun i j b oi oj ei ej mi mj hi hj => ?_⟩
  · by_cases hk : n = k
    · subst hk
      rw [List.getElem?_set_self hl] at e; cases e
      exact ⟨a, ha, new⟩
    · rw [List.getElem?_set_ne hk] at e
      obtain ⟨b, h1, h2⟩ := h.at_ k ok e
      refine ⟨b, h1, h2.keep ⟨⟨[], by simp⟩, g⟩ fun hmk u q => ?_⟩
      rw [upd_ne (fun e2 => ?_)]
      · exact q
      · subst e2; exact hk (h.uniq n k b mo ok hn e hm hmk ha h1)
  · have key : ∀ (k : Nat) (ok : MO), (st.set n mo')[k]? = some ok → ok.mut = true → ∃ ok', st[k]? = some ok' ∧ ok'.mut = true := fun k ok ek mk => by
      by_cases hk : n = k
      · subst hk; exact ⟨mo, hn, hm⟩
      · rw [List.getElem?_set_ne hk] at ek; exact ⟨ok, ek, mk⟩
    obtain ⟨oi', ei', mi'⟩ := key i oi ei mi
    obtain ⟨oj', ej', mj'⟩ := key j oj ej mj
    exact h.uniq i j b oi' oj' ei' ej' mi' mj' hi hj
end
end M
namespace M
open PySem PySem.Spec L2
/-! ### what is wanted behind a denotation -/
/-- how an exception lies there (none yet) -/
def ExcAt (X : Cx) (μ : List Addr) (H : Hp) (x : Xc) (e : Value) (s : Shared) : Prop := False
def ErrOK (X : Cx) (μ : List Addr) (H : Hp) (x : Xc) (st : Stor) : Prop :=
  ∀ (pins : List (Addr × Obj)) (σ' : L2.St) (H' : Hp) (μ' : List Addr) (e : Value) (s' : Shared), Grow μ H μ' H' → RepS X.K μ' H' st → Inv X pins σ' H' s' → ExcAt X μ' H' x e s' → X.xe e s'
theorem ErrOK.mono {X : Cx} {μ μ1 : List Addr} {H H1 : Hp} {x : Xc} {st : Stor} (g : Grow μ H μ1 H1) (h : ErrOK X μ H x st) : ErrOK X μ1 H1 x st :=
  fun pins σ' H' μ' e s' g' => h pins σ' H' μ' e s' (g.trans g')
abbrev Rel (α β : Type) := List Addr → Hp → α → β → Prop
def Post {α β : Type} (X : Cx) (μ : List Addr) (H : Hp) (rel : Rel α β) (Q : β → Hp → Prop) (r : R α) : Prop := match r with
  | .ok a st => ∀ (b : β) (H' : Hp) (μ' : List Addr), Grow μ H μ' H' → RepS X.K μ' H' st → rel μ' H' a b → Q b H'
  | .err x st => ErrOK X μ H x st
  | .bad => False
section
variable {α β γ δ : Type} {X : Cx} {μ μ1 : List Addr} {H H1 : Hp} {rel : Rel α β} {rel2 : Rel γ δ} {Q Q' : β → Hp → Prop} {r : R α}
theorem Post.mono (g : Grow μ H μ1 H1) (h : Post X μ H rel Q r) : Post X μ1 H1 rel Q r := by
  cases r with
  | ok a st => exact fun b H' μ' g' => h b H' μ' (g.trans g')
  | err x st => exact ErrOK.mono g h
  | bad => exact h
theorem Post.imp (h : Post X μ H rel Q r) (k : ∀ b H', Q b H' → Q' b H') : Post X μ H rel Q' r := by
  cases r with
  | ok a st => exact fun b H' μ' g' h1 h2 => k b H' (h b H' μ' g' h1 h2)
  | err x st => exact h
  | bad => exact h
/-- the first of two: what it hands on -/
def Then (X : Cx) (μ : List Addr) (H : Hp) (rel : Rel α β) (rel2 : Rel γ δ) (Q2 : δ → Hp → Prop) (f : α → Stor → R γ) : β → Hp → Prop :=
  fun b H1 => ∃ μ1 st1 a, Grow μ H μ1 H1 ∧ RepS X.K μ1 H1 st1 ∧ rel μ1 H1 a b ∧ Post X μ1 H1 rel2 Q2 (f a st1)
theorem Post.bind {Q2 : δ → Hp → Prop} {f : α → Stor → R γ} (h : Post X μ H rel2 Q2 (r.bind f)) : Post X μ H rel (Then X μ H rel rel2 Q2 f) r := by
  cases r with
  | ok a st => exact fun b H' μ' g h1 h2 => ⟨μ', st, a, g, h1, h2, Post.mono g h⟩
  | err x st => exact h
  | bad => exact h
/-- a result that changes nothing -/
theorem Post.ret {a : α} {b : β} {st : Stor} (h : Post X μ H rel Q (.ok a st)) (hs : RepS X.K μ H st) (hr : rel μ H a b) : Q b H := h b H μ (.refl _ _) hs hr
end
abbrev relV (X : Cx) : Rel D V := fun μ H d v => RepV X.K μ H d v
abbrev relA (X : Cx) : Rel (List D) (List V) := fun μ H d v => RepVs X.K μ H d v
abbrev relB : Rel Bool Bool := fun _ _ a b => a = b
abbrev relO : Rel (Option Int) (Option Int) := fun _ _ a b => a = b
abbrev ME := MEnv → Stor → R D
abbrev MA := MEnv → Stor → R (List D)
abbrev MT := MEnv → Stor → R Bool
abbrev MP := MEnv → Stor → R (Option Int)
def tM (X : Cx) (m : ME) : TE := fun σ H Q => ∃ μ env st, RepE X.K μ H env σ ∧ RepS X.K μ H st ∧ Post X μ H (relV X) Q (m env st)
def tMA (X : Cx) (m : MA) : TA := fun σ H Q => ∃ μ env st, RepE X.K μ H env σ ∧ RepS X.K μ H st ∧ Post X μ H (relA X) Q (m env st)
def tMT (X : Cx) (m : MT) : TT := fun σ H Q => ∃ μ env st, RepE X.K μ H env σ ∧ RepS X.K μ H st ∧ Post X μ H relB Q (m env st)
def tMP (X : Cx) (m : MP) : TO := fun σ H Q => ∃ μ env st, RepE X.K μ H env σ ∧ RepS X.K μ H st ∧ Post X μ H relO Q (m env st)
def JE (X : Cx) (e : Expr) (m : ME) : Prop := PE X e (tM X m)
def JT (X : Cx) (e : Expr) (m : MT) : Prop := PT X e (tMT X m)
def JA (X : Cx) (es : List Expr) (m : MA) : Prop := PA X es (tMA X m)
def JP (X : Cx) (e : Option Expr) (m : MP) : Prop := PO X e (tMP X m)
section
variable {X : Cx} {e a b c : Expr} {es : List Expr} {t : TE} {ma mb mc : ME} {mA : MA} {pos : Pos}
theorem JE.of {m : ME} (h : PE X e t) (k : ∀ σ H Q, tM X m σ H Q → t σ H Q) : JE X e m := fun pins s σ H Q I q => h pins s σ H Q I (k σ H Q q)
theorem JT.of {t : TT} {m : MT} (h : PT X e t) (k : ∀ σ H Q, tMT X m σ H Q → t σ H Q) : JT X e m := fun pins s σ H Q I q => h pins s σ H Q I (k σ H Q q)
theorem JA.of {t : TA} {m : MA} (h : PA X es t) (k : ∀ σ H Q, tMA X m σ H Q → t σ H Q) : JA X es m := fun pos pins s σ H Q I q => h pos pins s σ H Q I (k σ H Q q)
theorem JP.of {o : Option Expr} {t : TO} {m : MP} (h : PO X o t) (k : ∀ σ H Q, tMP X m σ H Q → t σ H Q) : JP X o m := fun pins s σ H Q I q => h pins s σ H Q I (k σ H Q q)
/-! ### names and constants -/
def vr (i : Nat) : ME := fun env st => match env[i]? with | some (some d) => .ok d st | _ => .bad
def ct (d : D) : ME := fun _ st => .ok d st
theorem je_var (i : Nat) {x : Str} {pos : Pos} (hN : X.N[i]? = some x := by rfl) (hv : Vis X.env.scope x := by first | exact Or.inl rfl | exact Or.inr (Or.inl rfl) | exact Or.inr (Or.inr rfl)) (hd : (x == ("__debug__" : Str)) = false := by decide)
    (hcd : (x == ("__classdict__" : Str)) = false := by decide) : JE X (.Name x pos) (vr i) := JE.of (pe_var hN hv hd hcd) fun σ H Q ⟨μ, env, st, he, hs, hp⟩ => by
  unfold vr at hp
  split at hp
  · rename_i d e
    obtain ⟨v, h1, h2⟩ := he.at_ i d e
    exact ⟨v, h1, hp.ret hs h2⟩
  · exact hp.elim
theorem je_int {i j pos} : JE X (.Constant (.int i) j pos) (ct (.int i)) := JE.of pe_int fun σ H Q ⟨μ, env, st, he, hs, hp⟩ => hp.ret hs (RepV.int_iff.mpr rfl)
theorem je_bl {b j pos} : JE X (.Constant (.bool b) j pos) (ct (.bl b)) := JE.of pe_bl fun σ H Q ⟨μ, env, st, he, hs, hp⟩ => hp.ret hs (RepV.bl_iff.mpr rfl)
theorem je_non {j pos} : JE X (.Constant .none j pos) (ct .non) := JE.of pe_non fun σ H Q ⟨μ, env, st, he, hs, hp⟩ => hp.ret hs (RepV.non_iff.mpr rfl)
theorem je_str {x : Str} {j pos} (cs : List Nat) (h : x = strOf cs := by decide +kernel) : JE X (.Constant (.str x) j pos) (ct (.str cs)) := JE.of pe_str fun σ H Q ⟨μ, env, st, he, hs, hp⟩ => hp.ret hs (RepV.str_iff.mpr (by rw [h]))
/-! ### operations on values -/
def op2 (g : D → D → Stor → R D) (a b : ME) : ME := fun env st => (a env st).bind fun x st1 => (b env st1).bind fun y st2 => g x y st2
def op1 (g : D → Stor → R D) (a : ME) : ME := fun env st => (a env st).bind fun x st1 => g x st1
def rM (X : Cx) (g : D → D → Stor → R D) : R2 := fun x y H Q => ∃ μ st dx dy, RepS X.K μ H st ∧ RepV X.K μ H dx x ∧ RepV X.K μ H dy y ∧ Post X μ H (relV X) Q (g dx dy st)
def rM1 (X : Cx) (g : D → Stor → R D) : V → Hp → VK → Prop := fun x H Q => ∃ μ st dx, RepS X.K μ H st ∧ RepV X.K μ H dx x ∧ Post X μ H (relV X) Q (g dx st)
def rMC (X : Cx) (g : List D → Stor → R D) : List V → Hp → VK → Prop := fun xs H Q => ∃ μ st ds, RepS X.K μ H st ∧ RepVs X.K μ H ds xs ∧ Post X μ H (relV X) Q (g ds st)
def rMM (X : Cx) (g : D → List D → Stor → R D) : V → List V → Hp → VK → Prop := fun x xs H Q => ∃ μ st d ds, RepS X.K μ H st ∧ RepV X.K μ H d x ∧ RepVs X.K μ H ds xs ∧ Post X μ H (relV X) Q (g d ds st)
theorem OpR.weak {f : Value → Value → Sem Value} {r r' : R2} (h : OpR X f r) (k : ∀ x y H Q, r' x y H Q → r x y H Q) : OpR X f r' := fun pins s σ H x y v u Q I rx ry q => h pins s σ H x y v u Q I rx ry (k x y H Q q)
theorem CallR.weak {f : Value} {r r' : List V → Hp → VK → Prop} (h : CallR X f r) (k : ∀ x H Q, r' x H Q → r x H Q) : CallR X f r' := fun pins s σ H x v Q I rx q => h pins s σ H x v Q I rx (k x H Q q)
theorem MtR.weak {id : String} {r r' : V → List V → Hp → VK → Prop} (h : MtR X id r) (k : ∀ x xs H Q, r' x xs H Q → r x xs H Q) : MtR X id r' := fun pins s σ H x xs v us Q I rx rs q => h pins s σ H x xs v us Q I rx rs (k x xs H Q q)
theorem IxR.weak {r r' : R2} (h : IxR X r) (k : ∀ x y H Q, r' x y H Q → r x y H Q) : IxR X r' := fun va sl pins s σ H x y v u Q I rx ry q => h va sl pins s σ H x y v u Q I rx ry (k x y H Q q)
theorem SlR.weak {r r' : V → Option Int → Option Int → Hp → VK → Prop} (h : SlR X r) (k : ∀ x l u H Q, r' x l u H Q → r x l u H Q) : SlR X r' := fun pins s σ H x v vl vu lo hi sl Q I rx hs pl pu q => h pins s σ H x v vl vu lo hi sl Q I rx hs pl pu (k x lo hi H Q q)
theorem tM_two {g : D → D → Stor → R D} {σ : L2.St} {H : Hp} {Q : VK} (h : tM X (op2 g ma mb) σ H Q) : tM X ma σ H fun x H1 => tM X mb σ H1 fun y H2 => rM X g x y H2 Q := by
  obtain ⟨μ, env, st, he, hs, hp⟩ := h
  refine ⟨μ, env, st, he, hs, hp.bind.imp ?_⟩
  rintro x H1 ⟨μ1, st1, d, g1, hs1, hx, hp1⟩
  refine ⟨μ1, env, st1, he.mono g1, hs1, hp1.bind.imp ?_⟩
  rintro y H2 ⟨μ2, st2, d2, g2, hs2, hy, hp2⟩
  exact ⟨μ2, st2, d, d2, hs2, hx.mono g2 _, hy, hp2⟩
theorem je_op {op : Operator} {g : D → D → Stor → R D} (ho : OpR X (binaryOp op) (rM X g)) (ha : JE X a ma) (hb : JE X b mb) : JE X (.BinOp a op b pos) (op2 g ma mb) :=
  JE.of (pe_op ho ha hb) fun σ H Q h => tM_two h
theorem je_cmp {op : CmpOp} {g : D → D → Stor → R D} (ho : OpR X (compareOp op) (rM X g)) (ha : JE X a ma) (hb : JE X b mb) (hm : behindInMarks op b = false) : JE X (.Compare a [op] [b] pos) (op2 g ma mb) :=
  JE.of (pe_cmpR ho ha hb hm) fun σ H Q h => tM_two h
/-! ### tests -/
/-- a bool -/
def tB1 (a : ME) : MT := fun env st => (a env st).bind fun x st1 => match x with | .bl b => .ok b st1 | _ => .bad
theorem jt_cmp {op : CmpOp} {g : D → D → Stor → R D} (ho : OpR X (compareOp op) (rM X g)) (ha : JE X a ma) (hb : JE X b mb) (hm : behindInMarks op b = false) : JT X (.Compare a [op] [b] pos) (tB1 (op2 g ma mb)) := by
  refine JT.of (pt_cmpR ho ha hb hm) fun σ H Q ⟨μ, env, st, he, hs, hp⟩ => ?_
  refine tM_two ⟨μ, env, st, he, hs, hp.bind.imp ?_⟩
  rintro x H1 ⟨μ1, st1, d, g1, hs1, hx, hp1⟩
  cases d with
  | bl b => exact ⟨b, RepV.bl_iff.mp hx, hp1.ret hs1 rfl⟩
  | _ => exact hp1.elim
/-- truth -/
def truV : D → Stor → Option Bool
  | .non, _ => some false
  | .bl b, _ => some b
  | .int i, _ => some (i != 0)
  | .str cs, _ => if cs.length ≤ 1000000 then some (!cs.isEmpty) else none
  | .tup ds, _ => some (!ds.isEmpty)
  | .loc n, st => match st[n]? with
    | some (.lst ds) => some (!ds.isEmpty)
    | some (.frz ds) => some (!ds.isEmpty)
    | _ => none
def tru (a : ME) : MT := fun env st => (a env st).bind fun x st1 => match truV x st1 with | some b => .ok b st1 | none => .bad
theorem lim_ok {n : Nat} (h : n ≤ 1000000) : n ≤ sizeLine := Nat.le_trans h (by decide)
theorem RepS.lst {K : PySem.W.Frag} {μ : List Addr} {H : Hp} {st : Stor} {n : Nat} {ds : List D} (h : RepS K μ H st) (e : st[n]? = some (.lst ds)) : ∃ p xs, μ[n]? = some p ∧ H p = some (.lst xs) ∧ RepVs K μ H ds xs := by
  obtain ⟨p, h1, xs, h2, h3⟩ := h.at_ n _ e
  exact ⟨p, xs, h1, h2, h3⟩
/-- the items of a list that is read -/
def itemsAt (st : Stor) (n : Nat) : Option (List D) := match st[n]? with
  | some (.lst ds) => some ds
  | some (.frz ds) => some ds
  | _ => none
theorem RepS.items {K : PySem.W.Frag} {μ : List Addr} {H : Hp} {st : Stor} {n : Nat} {ds : List D} (h : RepS K μ H st) (e : itemsAt st n = some ds) : ∃ p xs, μ[n]? = some p ∧ SqL K H p xs ∧ RepVs K μ H ds xs := by
  unfold itemsAt at e
  split at e
  · rename_i es q
    cases e
    obtain ⟨p, xs, h1, h2, h3⟩ := h.lst q
    exact ⟨p, xs, h1, SqL.of h2, h3⟩
  · rename_i es q
    cases e
    obtain ⟨p, h1, xs, h2, h3⟩ := h.at_ n _ q
    exact ⟨p, xs, h1, h2.sqL, h3⟩
  · cases e
theorem RepVs.isEmpty {K : PySem.W.Frag} {μ : List Addr} {H : Hp} {ds : List D} {xs : List V} (h : RepVs K μ H ds xs) : ds.isEmpty = xs.isEmpty := by
  have := h.length
  cases ds <;> cases xs <;> simp_all
theorem truV_ok {d : D} {st : Stor} {b : Bool} {μ : List Addr} {H : Hp} {v : V} (h : truV d st = some b) (hs : RepS X.K μ H st) (hv : RepV X.K μ H d v) : TruV X.K v H b := by
  cases d with
  | non => rw [RepV.non_iff] at hv; subst hv; cases h; rfl
  | bl c => rw [RepV.bl_iff] at hv; subst hv; cases h; rfl
  | int i => rw [RepV.int_iff] at hv; subst hv; cases h; rfl
  | str cs =>
    rw [RepV.str_iff] at hv; subst hv
    simp only [truV] at h
    split at h
    · rename_i hl
      cases h
      have e : (strOf cs).length = cs.length := by simp [Str.length, strOf]
      refine ⟨by rw [e]; exact lim_ok hl, ?_⟩
      rw [e]
      cases cs <;> simp
      omega
    · cases h
  | tup ds =>
    rw [RepV.tup_iff] at hv
    obtain ⟨a, xs, rfl, h1, h2⟩ := hv
    cases h
    exact .inr (.inl ⟨xs, h1.sqT, by rw [h2.isEmpty]⟩)
  | loc n =>
    rw [RepV.loc_iff] at hv
    obtain ⟨a, h1, rfl⟩ := hv
    have key : ∃ ds, itemsAt st n = some ds ∧ b = !ds.isEmpty := by
      unfold itemsAt
      simp only [truV] at h
      split at h
      · rename_i q; cases h; exact ⟨_, rfl, rfl⟩
      · rename_i q; cases h; exact ⟨_, rfl, rfl⟩
      · cases h
    obtain ⟨ds, q, rfl⟩ := key
    obtain ⟨p, xs, h3, h4, h5⟩ := hs.items q
    rw [h1] at h3; cases h3
    exact .inl ⟨xs, h4, by rw [h5.isEmpty]⟩
theorem jt_truth (ha : JE X a ma) (he : ∀ whole, isTrue a X.env whole = (do let v ← whole; standAt a.pos; holding [v] (truthy v)) := by intro _; rfl) : JT X a (tru ma) := by
  refine JT.of (pt_truth ha he) fun σ H Q ⟨μ, env, st, hE, hs, hp⟩ => ⟨μ, env, st, hE, hs, hp.bind.imp ?_⟩
  rintro x H1 ⟨μ1, st1, d, g1, hs1, hx, hp1⟩
  cases e : truV d st1 with
  | none => simp only [e] at hp1; exact hp1.elim
  | some b => simp only [e] at hp1; exact ⟨b, truV_ok e hs1 hx, hp1.ret hs1 rfl⟩
def JW (X : Cx) (e : Expr) (m : MT) : Prop := PW X e (tMT X m)
theorem JW.jt {m : MT} (h : JW X e m) : JT X e m := PW.pt h
theorem JW.of {t : TT} {m : MT} (h : PW X e t) (k : ∀ σ H Q, tMT X m σ H Q → t σ H Q) : JW X e m := fun w pins s σ H Q I q => h w pins s σ H Q I (k σ H Q q)
def andT (a b : MT) : MT := fun env st => (a env st).bind fun x st1 => if x then b env st1 else .ok false st1
def orT (a b : MT) : MT := fun env st => (a env st).bind fun x st1 => if x then .ok true st1 else b env st1
def notT (a : MT) : MT := fun env st => (a env st).bind fun x st1 => .ok (!x) st1
variable {ta tb tc : MT} {rest : List Expr}
theorem jw_and1 (ha : JT X a ta) : JW X (.BoolOp .And [a] pos) ta := pw_and1 ha
theorem jw_or1 (ha : JT X a ta) : JW X (.BoolOp .Or [a] pos) ta := pw_or1 ha
theorem jw_and (ha : JT X a ta) (hb : JW X (.BoolOp .And (b :: rest) pos) tb) : JW X (.BoolOp .And (a :: b :: rest) pos) (andT ta tb) := by
  refine JW.of (pw_and ha hb) fun σ H Q ⟨μ, env, st, hE, hs, hp⟩ => ⟨μ, env, st, hE, hs, hp.bind.imp ?_⟩
  rintro x H1 ⟨μ1, st1, d, g1, hs1, rfl, hp1⟩
  cases d with
  | true => exact iteT ⟨μ1, env, st1, hE.mono g1, hs1, hp1⟩
  | false => exact iteF (hp1.ret hs1 rfl)
theorem jw_or (ha : JT X a ta) (hb : JW X (.BoolOp .Or (b :: rest) pos) tb) : JW X (.BoolOp .Or (a :: b :: rest) pos) (orT ta tb) := by
  refine JW.of (pw_or ha hb) fun σ H Q ⟨μ, env, st, hE, hs, hp⟩ => ⟨μ, env, st, hE, hs, hp.bind.imp ?_⟩
  rintro x H1 ⟨μ1, st1, d, g1, hs1, rfl, hp1⟩
  cases d with
  | true => exact iteT (hp1.ret hs1 rfl)
  | false => exact iteF ⟨μ1, env, st1, hE.mono g1, hs1, hp1⟩
theorem jt_not (ha : JT X a ta) : JT X (.UnaryOp .Not a pos) (notT ta) := by
  refine JT.of (pt_not ha) fun σ H Q ⟨μ, env, st, hE, hs, hp⟩ => ⟨μ, env, st, hE, hs, hp.bind.imp ?_⟩
  rintro x H1 ⟨μ1, st1, d, g1, hs1, rfl, hp1⟩
  exact hp1.ret hs1 rfl
/-! ### and, or, not as values: bools -/
def andV (a b : ME) : ME := fun env st => (a env st).bind fun x st1 => match x with | .bl true => b env st1 | .bl false => .ok (.bl false) st1 | _ => .bad
def orV (a b : ME) : ME := fun env st => (a env st).bind fun x st1 => match x with | .bl true => .ok (.bl true) st1 | .bl false => b env st1 | _ => .bad
def notV (a : ME) : ME := fun env st => (a env st).bind fun x st1 => match x with | .bl c => .ok (.bl (!c)) st1 | _ => .bad
theorem je_one {op} {m : ME} (h : JE X a m) : JE X (.BoolOp op [a] pos) m := pe_one h
theorem je_and (ha : JE X a ma) (hb : JE X (.BoolOp .And (b :: rest) pos) mb) : JE X (.BoolOp .And (a :: b :: rest) pos) (andV ma mb) := by
  refine JE.of (pe_and ha hb) fun σ H Q ⟨μ, env, st, hE, hs, hp⟩ => ⟨μ, env, st, hE, hs, hp.bind.imp ?_⟩
  rintro x H1 ⟨μ1, st1, d, g1, hs1, hx, hp1⟩
  cases d with
  | bl c =>
    refine ⟨c, RepV.bl_iff.mp hx, ?_⟩
    cases c with
    | true => exact iteT ⟨μ1, env, st1, hE.mono g1, hs1, hp1⟩
    | false => exact iteF (hp1.ret hs1 (RepV.bl_iff.mpr rfl))
  | _ => exact hp1.elim
theorem je_or (ha : JE X a ma) (hb : JE X (.BoolOp .Or (b :: rest) pos) mb) : JE X (.BoolOp .Or (a :: b :: rest) pos) (orV ma mb) := by
  refine JE.of (pe_or ha hb) fun σ H Q ⟨μ, env, st, hE, hs, hp⟩ => ⟨μ, env, st, hE, hs, hp.bind.imp ?_⟩
  rintro x H1 ⟨μ1, st1, d, g1, hs1, hx, hp1⟩
  cases d with
  | bl c =>
    refine ⟨c, RepV.bl_iff.mp hx, ?_⟩
    cases c with
    | true => exact iteT (hp1.ret hs1 (RepV.bl_iff.mpr rfl))
    | false => exact iteF ⟨μ1, env, st1, hE.mono g1, hs1, hp1⟩
  | _ => exact hp1.elim
theorem je_not (ha : JE X a ma) : JE X (.UnaryOp .Not a pos) (notV ma) := by
  refine JE.of (pe_not ha) fun σ H Q ⟨μ, env, st, hE, hs, hp⟩ => ⟨μ, env, st, hE, hs, hp.bind.imp ?_⟩
  rintro x H1 ⟨μ1, st1, d, g1, hs1, hx, hp1⟩
  cases d with
  | bl c => exact ⟨c, RepV.bl_iff.mp hx, hp1.ret hs1 (RepV.bl_iff.mpr rfl)⟩
  | _ => exact hp1.elim
def ifE (c : MT) (a b : ME) : ME := fun env st => (c env st).bind fun x st1 => if x then a env st1 else b env st1
theorem je_if (hc : JT X c tc) (ha : JE X a ma) (hb : JE X b mb) : JE X (.IfExp c a b pos) (ifE tc ma mb) := by
  refine JE.of (pe_ifExp hc ha hb) fun σ H Q ⟨μ, env, st, hE, hs, hp⟩ => ⟨μ, env, st, hE, hs, hp.bind.imp ?_⟩
  rintro x H1 ⟨μ1, st1, d, g1, hs1, rfl, hp1⟩
  cases d with
  | true => exact iteT ⟨μ1, env, st1, hE.mono g1, hs1, hp1⟩
  | false => exact iteF ⟨μ1, env, st1, hE.mono g1, hs1, hp1⟩
/-! ### argument lists, displays -/
def nilA : MA := fun _ st => .ok [] st
def consA (a : ME) (r : MA) : MA := fun env st => (a env st).bind fun x st1 => (r env st1).bind fun xs st2 => .ok (x :: xs) st2
theorem ja_nil : JA X [] nilA := JA.of pa_nil fun σ H Q ⟨μ, env, st, hE, hs, hp⟩ => hp.ret hs RepVs.nil
theorem ja_cons {e : Expr} {es : List Expr} {m : ME} {mA : MA} (h : JE X e m) (hr : JA X es mA) (hs : starEach (e :: es) X.env = (false, eval e X.env) :: starEach es X.env := by rfl) : JA X (e :: es) (consA m mA) := by
  refine JA.of (pa_cons h hr hs) fun σ H Q ⟨μ, env, st, hE, hs, hp⟩ => ⟨μ, env, st, hE, hs, hp.bind.imp ?_⟩
  rintro x H1 ⟨μ1, st1, d, g1, hs1, hx, hp1⟩
  refine ⟨μ1, env, st1, hE.mono g1, hs1, hp1.bind.imp ?_⟩
  rintro xs H2 ⟨μ2, st2, ds, g2, hs2, hxs, hp2⟩
  exact hp2.ret hs2 (RepVs.cons (hx.mono g2 _) hxs)
def tupE (m : MA) : ME := fun env st => (m env st).bind fun ds st1 => if ds.length ≤ 1000000 then .ok (.tup ds) st1 else .bad
def lstE (m : MA) : ME := fun env st => (m env st).bind fun ds st1 => if ds.length ≤ 1000000 then .ok (.loc st1.length) (st1 ++ [.lst ds]) else .bad
theorem je_tup {es : List Expr} {mA : MA} {x1} (h : JA X es mA) : JE X (.Tuple es x1 pos) (tupE mA) := by
  refine JE.of (pe_tup h) fun σ H Q ⟨μ, env, st, hE, hs, hp⟩ => ⟨μ, env, st, hE, hs, hp.bind.imp ?_⟩
  rintro xs H1 ⟨μ1, st1, ds, g1, hs1, hxs, hp1⟩
  dsimp only at hp1
  split at hp1
  · rename_i hl
    refine ⟨by rw [← hxs.length]; exact lim_ok hl, fun p hn => ?_⟩
    exact hp1 _ _ μ1 (Grow.lay hn) (hs1.lay hn) (RepV.tup_iff.mpr ⟨p, xs, rfl, .inl upd_same, hxs.mono (Grow.lay hn) _⟩)
  · exact hp1.elim
/-- a new list -/
theorem Post.newList {μ : List Addr} {H : Hp} {st : Stor} {ds : List D} {xs : List V} {p : Addr} {Q : VK} (h : Post X μ H (relV X) Q (.ok (.loc st.length) (st ++ [.lst ds]))) (hs : RepS X.K μ H st) (hx : RepVs X.K μ H ds xs) (hn : H p = none) :
    Q (.ref p) (upd H p (.lst xs)) := by
  have g : Grow μ H (μ ++ [p]) (upd H p (.lst xs)) := Grow.new hn
  refine h _ _ (μ ++ [p]) g (hs.new hn ⟨xs, upd_same, hx.mono g _⟩) (RepV.loc_iff.mpr ⟨p, ?_, rfl⟩)
  rw [← hs.len]; simp
theorem je_lst {es : List Expr} {mA : MA} (h : JA X es mA) : JE X (.List es pos) (lstE mA) := by
  refine JE.of (pe_lst h) fun σ H Q ⟨μ, env, st, hE, hs, hp⟩ => ⟨μ, env, st, hE, hs, hp.bind.imp ?_⟩
  rintro xs H1 ⟨μ1, st1, ds, g1, hs1, hxs, hp1⟩
  dsimp only at hp1
  split at hp1
  · rename_i hl
    exact ⟨by rw [← hxs.length]; exact lim_ok hl, fun p hn => hp1.newList hs1 hxs hn⟩
  · exact hp1.elim
end
end M
namespace M
open PySem PySem.Spec L2
section
variable {X : Cx} {e a b c : Expr} {es : List Expr} {t : TE} {ma mb mc : ME} {mA : MA} {pos : Pos}
theorem strOf_len (cs : List Nat) : (strOf cs).length = cs.length := by simp [Str.length, strOf]
theorem strOf_app (a b : List Nat) : strOf a ++ strOf b = strOf (a ++ b) := by
  show Str.append _ _ = _
  simp [Str.append, strOf]
theorem strOf_inj {a b : List Nat} : strOf a = strOf b ↔ a = b := by
  constructor
  · intro h
    have := congrArg (fun s : Str => s.cps.toList) h
    simpa [strOf] using this
  · intro h; rw [h]
/-! ### + - * // % ** -/
def addV : D → D → Stor → R D
  | .int i, .int j, st => .ok (.int (i + j)) st
  | .str a, .str b, st => if a.length + b.length ≤ 1000000 then .ok (.str (a ++ b)) st else .bad
  | .tup a, .tup b, st => if a.length + b.length ≤ 1000000 then .ok (.tup (a ++ b)) st else .bad
  | .loc m, .loc n, st => match st[m]?, st[n]? with
    | some (.lst a), some (.lst b) => if a.length + b.length ≤ 1000000 then .ok (.loc st.length) (st ++ [.lst (a ++ b)]) else .bad
    | _, _ => .bad
  | _, _, _ => .bad
theorem op_addV : OpR X (binaryOp .Add) (rM X addV) := by
  refine OpR.weak (OpR.or op_add (OpR.or op_add_str (OpR.or op_catT (OpR.or op_catT0 op_cat)))) ?_
  rintro x y H Q ⟨μ, st, dx, dy, hs, hx, hy, hp⟩
  cases dx with
  | int i =>
    cases dy with
    | int j =>
      rw [RepV.int_iff] at hx hy; subst hx hy
      exact .inl ⟨i, j, rfl, rfl, hp.ret hs (RepV.int_iff.mpr rfl)⟩
    | _ => exact hp.elim
  | str i =>
    cases dy with
    | str j =>
      rw [RepV.str_iff] at hx hy; subst hx hy
      simp only [addV] at hp
      split at hp
      · rename_i hl
        refine .inr (.inl ⟨_, _, rfl, rfl, ?_, ?_⟩)
        · rw [strOf_len, strOf_len]; exact lim_ok hl
        · rw [strOf_app]; exact hp.ret hs (RepV.str_iff.mpr rfl)
      · exact hp.elim
    | _ => exact hp.elim
  | tup i =>
    cases dy with
    | tup j =>
      rw [RepV.tup_iff] at hx hy
      obtain ⟨p, xs, rfl, h1, h2⟩ := hx
      obtain ⟨q, ys, rfl, h3, h4⟩ := hy
      simp only [addV] at hp
      split at hp
      · rename_i hl
        by_cases hx0 : xs = []
        · subst hx0
          have hi : i = [] := by have := h2.length; simpa using this
          subst hi
          exact .inr (.inr (.inr (.inl ⟨p, q, ys, rfl, rfl, h1.sqT, h3.sqT, hp.ret hs (RepV.tup_iff.mpr ⟨q, ys, rfl, h3, h4⟩)⟩)))
        · refine .inr (.inr (.inl ⟨p, q, xs, ys, rfl, rfl, h1.sqT, h3.sqT, hx0, by rw [← h2.length, ← h4.length]; exact lim_ok hl, fun hy0 => ?_, fun _ r hr => ?_⟩))
          · subst hy0
            have hj : j = [] := by have := h4.length; simpa using this
            subst hj
            exact hp.ret hs (RepV.tup_iff.mpr ⟨p, xs, rfl, by rw [List.append_nil]; exact h1, by rw [List.append_nil]; exact h2⟩)
          · exact hp _ _ μ (Grow.lay hr) (hs.lay hr) (RepV.tup_iff.mpr ⟨r, _, rfl, .inl upd_same, (h2.append h4).mono (Grow.lay hr) _⟩)
      · exact hp.elim
    | _ => exact hp.elim
  | loc m =>
    cases dy with
    | loc n =>
      rw [RepV.loc_iff] at hx hy
      obtain ⟨p, h1, rfl⟩ := hx
      obtain ⟨q, h2, rfl⟩ := hy
      simp only [addV] at hp
      split at hp
      · rename_i da db e1 e2
        split at hp
        · rename_i hl
          obtain ⟨p', xs, h3, h4, h5⟩ := hs.lst e1
          obtain ⟨q', ys, h6, h7, h8⟩ := hs.lst e2
          rw [h1] at h3; cases h3
          rw [h2] at h6; cases h6
          exact .inr (.inr (.inr (.inr ⟨p, q, xs, ys, rfl, rfl, h4, h7, by rw [← h5.length, ← h8.length]; exact lim_ok hl, fun r hr => hp.newList hs (h5.append h8) hr⟩)))
        · exact hp.elim
      · exact hp.elim
    | _ => exact hp.elim
  | _ => exact hp.elim
/-- two ints -/
def intV (C : Int → Int → Prop) [∀ i j, Decidable (C i j)] (g : Int → Int → D) : D → D → Stor → R D
  | .int i, .int j, st => if C i j then .ok (g i j) st else .bad
  | _, _, _ => .bad
theorem op_intV {f : Value → Value → Sem Value} {C : Int → Int → Prop} [∀ i j, Decidable (C i j)] {g : Int → Int → D} {gv : Int → Int → V} (h : OpR X f (rI C gv)) (hg : ∀ i j μ H, RepV X.K μ H (g i j) (gv i j)) : OpR X f (rM X (intV C g)) := by
  refine OpR.weak h ?_
  rintro x y H Q ⟨μ, st, dx, dy, hs, hx, hy, hp⟩
  cases dx with
  | int i =>
    cases dy with
    | int j =>
      rw [RepV.int_iff] at hx hy; subst hx hy
      simp only [intV] at hp
      split at hp
      · rename_i hc
        exact ⟨i, j, rfl, rfl, hc, hp.ret hs (hg i j μ H)⟩
      · exact hp.elim
    | _ => exact hp.elim
  | _ => exact hp.elim
theorem OpR.top {f : Value → Value → Sem Value} {gv : Int → Int → V} (h : OpR X f (rI0 gv)) : OpR X f (rI (fun _ _ => True) gv) := OpR.weak h fun x y H Q ⟨i, j, a, b, _, q⟩ => ⟨i, j, a, b, q⟩
def subV : D → D → Stor → R D := intV (fun _ _ => True) fun i j => .int (i - j)
theorem op_subV : OpR X (binaryOp .Sub) (rM X subV) := op_intV (OpR.top op_sub) fun i j μ H => RepV.int_iff.mpr rfl
def mulV : D → D → Stor → R D := intV (fun i j => (-(2 ^ 64) < i ∧ i < 2 ^ 64) ∨ (-(2 ^ 64) < j ∧ j < 2 ^ 64)) fun i j => .int (i * j)
theorem op_mulV : OpR X (binaryOp .Mult) (rM X mulV) := op_intV (OpR.weak op_mul fun x y H Q h => h) fun i j μ H => RepV.int_iff.mpr rfl
def fdivV : D → D → Stor → R D := intV (fun _ j => 0 < j ∧ j < 2 ^ 64) fun i j => .int (i / j)
theorem op_fdivV : OpR X (binaryOp .FloorDiv) (rM X fdivV) := op_intV op_fdivW fun i j μ H => RepV.int_iff.mpr rfl
def modV : D → D → Stor → R D := intV (fun _ j => 0 < j) fun i j => .int (i % j)
theorem op_modV : OpR X (binaryOp .Mod) (rM X modV) := op_intV op_mod fun i j μ H => RepV.int_iff.mpr rfl
def powV : D → D → Stor → R D := intV (fun i j => 0 ≤ j ∧ j ≤ 1000000 ∧ i.natAbs < 2 ^ 64) fun i j => .int (i ^ j.toNat)
def ltV : D → D → Stor → R D := intV (fun _ _ => True) fun i j => .bl (decide (i < j))
theorem op_ltV : OpR X (compareOp .Lt) (rM X ltV) := op_intV (OpR.top op_lt) fun i j μ H => RepV.bl_iff.mpr rfl
def leV : D → D → Stor → R D := intV (fun _ _ => True) fun i j => .bl (decide (i ≤ j))
def gtV : D → D → Stor → R D := intV (fun _ _ => True) fun i j => .bl (decide (j < i))
theorem op_gtV : OpR X (compareOp .Gt) (rM X gtV) := op_intV (OpR.top op_gt) fun i j μ H => RepV.bl_iff.mpr rfl
def geV : D → D → Stor → R D := intV (fun _ _ => True) fun i j => .bl (decide (j ≤ i))
def negV : D → Stor → R D
  | .int i, st => .ok (.int (-i)) st
  | _, _ => .bad
/-- is None, is not None -/
def isNoneV : D → D → Stor → R D
  | .non, .non, st => .ok (.bl true) st
  | _, .non, st => .ok (.bl false) st
  | _, _, _ => .bad
def notNoneV : D → D → Stor → R D
  | .non, .non, st => .ok (.bl false) st
  | _, .non, st => .ok (.bl true) st
  | _, _, _ => .bad
theorem RepV.none_iff' {K : PySem.W.Frag} {μ : List Addr} {H : Hp} {d : D} {v : V} (h : RepV K μ H d v) : decide (v = .non) = (match d with | .non => true | _ => false) := by
  cases d with
  | non => rw [RepV.non_iff] at h; subst h; rfl
  | bl b => rw [RepV.bl_iff] at h; subst h; rfl
  | int b => rw [RepV.int_iff] at h; subst h; rfl
  | str b => rw [RepV.str_iff] at h; subst h; rfl
  | tup b => rw [RepV.tup_iff] at h; obtain ⟨_, _, rfl, _⟩ := h; rfl
  | loc b => rw [RepV.loc_iff] at h; obtain ⟨_, _, rfl⟩ := h; rfl
theorem op_isNoneV : OpR X (compareOp .Is) (rM X isNoneV) := by
  refine OpR.weak op_isN ?_
  rintro x y H Q ⟨μ, st, dx, dy, hs, hx, hy, hp⟩
  cases dy with
  | non =>
    rw [RepV.non_iff] at hy
    refine ⟨hy, ?_⟩
    rw [hx.none_iff']
    cases dx <;> exact hp.ret hs (RepV.bl_iff.mpr rfl)
  | _ => cases dx <;> exact hp.elim
/-! ### a[b] -/
def ixV : D → D → Stor → R D
  | .loc n, .int i, st => match (itemsAt st n).bind fun ds => atI ds i with | some d => .ok d st | none => .bad
  | .tup ds, .int i, st => match atI ds i with | some d => .ok d st | none => .bad
  | .str cs, .int i, st => if cs.length ≤ 1000000 then (match atI cs i with | some c => .ok (.str [c]) st | none => .bad) else .bad
  | _, _, _ => .bad
theorem RepVs.atI {K : PySem.W.Frag} {μ : List Addr} {H : Hp} {ds : List D} {xs : List V} {i : Int} {d : D} (h : RepVs K μ H ds xs) (e : L2.atI ds i = some d) : ∃ v, L2.atI xs i = some v ∧ RepV K μ H d v := by
  unfold L2.atI at e ⊢
  rw [← h.length]
  cases q : ixN ds.length i with
  | none => rw [q] at e; cases e
  | some j =>
    rw [q] at e
    exact h.get (by simpa using e)
theorem ix_V : IxR X (rM X ixV) := by
  refine IxR.weak ix_seq ?_
  rintro x y H Q ⟨μ, st, dx, dy, hs, hx, hy, hp⟩
  cases dy with
  | int i =>
    rw [RepV.int_iff] at hy; subst hy
    cases dx with
    | loc n =>
      rw [RepV.loc_iff] at hx
      obtain ⟨p, h1, rfl⟩ := hx
      simp only [ixV] at hp
      cases e : itemsAt st n with
      | none => rw [e] at hp; exact hp.elim
      | some ds =>
        rw [e] at hp
        cases e2 : L2.atI ds i with
        | none => simp only [Option.bind_some, e2] at hp; exact hp.elim
        | some d =>
          simp only [Option.bind_some, e2] at hp
          obtain ⟨p', xs, h3, h4, h5⟩ := hs.items e
          rw [h1] at h3; cases h3
          obtain ⟨v, h6, h7⟩ := h5.atI e2
          exact .inl ⟨p, xs, i, v, rfl, rfl, h4, h6, hp.ret hs h7⟩
    | tup ds =>
      rw [RepV.tup_iff] at hx
      obtain ⟨p, xs, rfl, h1, h2⟩ := hx
      simp only [ixV] at hp
      cases e2 : L2.atI ds i with
      | none => simp only [e2] at hp; exact hp.elim
      | some d =>
        simp only [e2] at hp
        obtain ⟨v, h6, h7⟩ := h2.atI e2
        exact .inr (.inl ⟨p, xs, i, v, rfl, rfl, h1.sqT, h6, hp.ret hs h7⟩)
    | str cs =>
      rw [RepV.str_iff] at hx; subst hx
      simp only [ixV] at hp
      split at hp
      · rename_i hl
        cases e2 : L2.atI cs i with
        | none => simp only [e2] at hp; exact hp.elim
        | some c =>
          simp only [e2] at hp
          exact .inr (.inr ⟨_, i, c, rfl, rfl, by rw [strOf_len]; exact lim_ok hl, by simpa [strOf] using e2, hp.ret hs (RepV.str_iff.mpr rfl)⟩)
      · exact hp.elim
    | _ => exact hp.elim
  | _ => cases dx <;> exact hp.elim
theorem je_ix (ha : JE X a ma) (hb : JE X b mb) (hs : PlainIx b := by exact fun _ _ => rfl) : JE X (.Subscript a b pos) (op2 ixV ma mb) :=
  JE.of (pe_ix ix_V ha hb hs) fun σ H Q h => tM_two h
end
end M
namespace M
open PySem PySem.Spec L2
section
variable {X : Cx} {e a b c : Expr} {es : List Expr} {t : TE} {ma mb mc : ME} {mA : MA} {pos p2 : Pos}
/-! ### slices -/
def cut {α : Type} (xs : List α) (lo hi : Option Int) : List α := (xs.drop (HT.sIx xs.length 0 lo)).take (HT.sIx xs.length xs.length hi - HT.sIx xs.length 0 lo)
theorem RepVs.cut {K : PySem.W.Frag} {μ : List Addr} {H : Hp} {ds : List D} {xs : List V} (h : RepVs K μ H ds xs) (lo hi : Option Int) : RepVs K μ H (M.cut ds lo hi) (cutV xs lo hi) := by
  unfold M.cut cutV
  rw [← h.length]
  exact (h.drop _).take _
theorem cut_whole {α : Type} {xs : List α} {lo hi : Option Int} (h : HT.sIx xs.length 0 lo = 0 ∧ HT.sIx xs.length xs.length hi = xs.length) : cut xs lo hi = xs := by
  unfold cut
  rw [h.1, h.2]
  simp
theorem sRange_eq (i j : Nat) : sliceRange (i : Int) (j : Int) 1 = (List.range (j - i)).map fun k => i + k := by
  unfold sliceRange
  simp only [show (1 : Int) > 0 by decide, if_true]
  have e : (if (i : Int) < (j : Int) then ((j : Int) - (i : Int) + 1 - 1) / 1 else 0).toNat = j - i := by
    split
    · rw [Int.ediv_one]; omega
    · omega
  rw [e]
  refine List.map_congr_left fun k _ => ?_
  omega
theorem sIdx_eq (lo hi : Option Int) (n : Nat) : Builtin.Str.strSliceIndices lo hi 1 n = (List.range (HT.sIx n n hi - HT.sIx n 0 lo)).map fun k => HT.sIx n 0 lo + k := by
  rw [← sRange_eq]
  unfold Builtin.Str.strSliceIndices
  simp only [show (1 : Int) > 0 by decide, if_true]
  congr 1
  · cases lo with
    | none => rfl
    | some v =>
      show max 0 (min (if v < 0 then v + (n : Int) else v) (n : Int)) = ((if v < 0 then (v + (n : Int)).toNat else min v.toNat n : Nat) : Int)
      split <;> omega
  · cases hi with
    | none => rfl
    | some v =>
      show max 0 (min (if v < 0 then v + (n : Int) else v) (n : Int)) = ((if v < 0 then (v + (n : Int)).toNat else min v.toNat n : Nat) : Int)
      split <;> omega
theorem pick_cut (cs : List Nat) (i k : Nat) : ((List.range k).map fun m => i + m).filterMap (fun m => cs[m]?) = (cs.drop i).take k := by
  induction k generalizing i with
  | zero => simp
  | succ k ih =>
    rw [List.range_succ_eq_map, List.map_cons, List.filterMap_cons, List.map_map]
    have e : ((fun m => i + m) ∘ Nat.succ) = fun m => (i + 1) + m := by funext m; simp; omega
    rw [e, ih (i + 1)]
    cases q : cs[i]? with
    | none =>
      have hl : cs.length ≤ i := List.getElem?_eq_none_iff.mp q
      simp [q, List.drop_eq_nil_of_le hl, List.drop_eq_nil_of_le (Nat.le_succ_of_le hl)]
    | some c =>
      have hl := (List.getElem?_eq_some_iff.mp q).1
      have hc := (List.getElem?_eq_some_iff.mp q).2
      simp [q, List.drop_eq_getElem_cons hl, hc]
theorem slice_str (cs : List Nat) (lo hi : Option Int) : Txt.slice (strOf cs) lo hi = strOf (cut cs lo hi) := by
  have e : (strOf cs).length = cs.length := by simp [Str.length, strOf]
  unfold Txt.slice
  rw [e, sIdx_eq]
  have hj : HT.sIx cs.length cs.length hi ≤ cs.length := HT.sIx_le _ _ (Nat.le_refl _) hi
  have q : ((List.range (HT.sIx cs.length cs.length hi - HT.sIx cs.length 0 lo)).map fun k => HT.sIx cs.length 0 lo + k).filterMap (fun m => (strOf cs).cps[m]?) = cut cs lo hi := by
    have : (fun (m : Nat) => (strOf cs).cps[m]?) = fun (m : Nat) => cs[m]? := by funext m; simp [strOf]
    rw [this, pick_cut]; rfl
  split
  · rename_i h
    rw [Bool.and_eq_true] at h
    have h2 : HT.sIx cs.length cs.length hi - HT.sIx cs.length 0 lo = cs.length := by simpa using h.2
    have h3 : cut cs lo hi = cs := by
      unfold cut
      rw [h2]
      by_cases hz : cs.length = 0
      · have : cs = [] := List.length_eq_zero_iff.mp hz
        subst this; simp
      · have : HT.sIx cs.length 0 lo = 0 := by omega
        rw [this]; simp
    rw [h3]
  · rw [q]
def slV : D → Option Int → Option Int → Stor → R D
  | .loc n, lo, hi, st => match itemsAt st n with | some ds => .ok (.loc st.length) (st ++ [.lst (cut ds lo hi)]) | none => .bad
  | .tup ds, lo, hi, st => .ok (.tup (cut ds lo hi)) st
  | .str cs, lo, hi, st => if cs.length ≤ 1000000 then .ok (.str (cut cs lo hi)) st else .bad
  | _, _, _, _ => .bad
def rMS (X : Cx) (g : D → Option Int → Option Int → Stor → R D) : V → Option Int → Option Int → Hp → VK → Prop := fun x lo hi H Q => ∃ μ st dx, RepS X.K μ H st ∧ RepV X.K μ H dx x ∧ Post X μ H (relV X) Q (g dx lo hi st)
def rSlS : V → Option Int → Option Int → Hp → VK → Prop := fun x lo hi H Q => ∃ cs, x = .str (strOf cs) ∧ cs.length ≤ sizeLine ∧ Q (.str (strOf (cut cs lo hi))) H
theorem sl_str : SlR X rSlS := by
  intro pins s σ H x v vl vu lo hi sl Q I rx hs pl pu h
  obtain ⟨cs, rfl, hz, q⟩ := h
  obtain ⟨t, rfl⟩ := rx
  obtain ⟨l, el, ml⟩ : ∃ l : Option (Int × Tok), vl = partValue l ∧ l.map (·.1) = lo := by
    cases pl with
    | none => exact ⟨none, rfl, rfl⟩
    | int i u => exact ⟨some (i, u), rfl, rfl⟩
  obtain ⟨u, eu, mu⟩ : ∃ l : Option (Int × Tok), vu = partValue l ∧ l.map (·.1) = hi := by
    cases pu with
    | none => exact ⟨none, rfl, rfl⟩
    | int i u => exact ⟨some (i, u), rfl, rfl⟩
  subst el eu
  have hs' : s.heap.IsSlice sl l u none := hs
  refine ⟨"str", _, F.slot_str_getitem.lookup, typeIs_str _ _ _, wpAny_getItem_str_slice (l := l) (u := u) (st := none) hs' rfl ?_⟩
  have e : Txt.slice (strOf cs) lo hi = strOf (cut cs lo hi) := slice_str cs lo hi
  unfold Txt.slice at e
  unfold sliceMade slicePicked
  rw [ml, mu]
  split
  · rename_i h
    have h' : ((1 : Int) == 1 && (Builtin.Str.strSliceIndices lo hi 1 (strOf cs).length).length == (strOf cs).length) = true := h
    rw [if_pos h'] at e
    exact ⟨.str (strOf cs), H, I, ⟨t, rfl⟩, by rw [← e] at q; exact q⟩
  · rename_i h
    have h' : ¬ ((1 : Int) == 1 && (Builtin.Str.strSliceIndices lo hi 1 (strOf cs).length).length == (strOf cs).length) = true := h
    rw [if_neg h'] at e
    have e' : ({ cps := ((Builtin.Str.strSliceIndices lo hi ((Option.map (·.1) (none : Option (Int × Tok))).getD 1) (strOf cs).length).filterMap fun x => (strOf cs).cps[x]?).toArray } : Str) = strOf (cut cs lo hi) := e
    rw [e']
    refine ⟨?_, .str (strOf (cut cs lo hi)), H, I.tok _, ⟨_, rfl⟩, q⟩
    have : (strOf (cut cs lo hi)).length = (cut cs lo hi).length := by simp [Str.length, strOf]
    rw [this]
    refine Nat.le_trans ?_ hz
    unfold cut
    rw [List.length_take, List.length_drop]
    omega
theorem sl_V : SlR X (rMS X slV) := by
  refine SlR.weak (SlR.or sl_list (SlR.or sl_tup (SlR.or sl_tupW sl_str))) ?_
  rintro x lo hi H Q ⟨μ, st, dx, hs, hx, hp⟩
  cases dx with
  | loc n =>
    rw [RepV.loc_iff] at hx
    obtain ⟨p, h1, rfl⟩ := hx
    simp only [slV] at hp
    cases e : itemsAt st n with
    | none => rw [e] at hp; exact hp.elim
    | some ds =>
      rw [e] at hp
      obtain ⟨p', xs, h3, h4, h5⟩ := hs.items e
      rw [h1] at h3; cases h3
      exact .inl ⟨p, xs, rfl, h4, fun q hq => hp.newList hs (h5.cut lo hi) hq⟩
  | tup ds =>
    rw [RepV.tup_iff] at hx
    obtain ⟨p, xs, rfl, h1, h2⟩ := hx
    by_cases hw : HT.sIx xs.length 0 lo = 0 ∧ HT.sIx xs.length xs.length hi = xs.length
    · refine .inr (.inr (.inl ⟨p, xs, rfl, h1.sqT, hw, hp.ret hs ?_⟩))
      rw [← h2.length] at hw
      rw [cut_whole hw]; exact RepV.tup_iff.mpr ⟨p, xs, rfl, h1, h2⟩
    · exact .inr (.inl ⟨p, xs, rfl, h1.sqT, hw, fun q hq => hp _ _ μ (Grow.lay hq) (hs.lay hq) (RepV.tup_iff.mpr ⟨q, _, rfl, .inl upd_same, (h2.cut lo hi).mono (Grow.lay hq) _⟩)⟩)
  | str cs =>
    rw [RepV.str_iff] at hx; subst hx
    simp only [slV] at hp
    split at hp
    · rename_i hl
      exact .inr (.inr (.inr ⟨cs, rfl, lim_ok hl, hp.ret hs (RepV.str_iff.mpr rfl)⟩))
    · exact hp.elim
  | _ => exact hp.elim
def noP : MP := fun _ st => .ok none st
def inP (m : ME) : MP := fun env st => (m env st).bind fun x st1 => match x with | .int i => .ok (some i) st1 | _ => .bad
theorem jp_some {m : ME} (h : JE X e m) : JP X (some e) (inP m) := by
  refine JP.of (po_some h) fun σ H Q ⟨μ, env, st, hE, hs, hp⟩ => ⟨μ, env, st, hE, hs, hp.bind.imp ?_⟩
  rintro x H1 ⟨μ1, st1, d, g1, hs1, hx, hp1⟩
  cases d with
  | int i => exact ⟨i, RepV.int_iff.mp hx, hp1.ret hs1 rfl⟩
  | _ => exact hp1.elim
def slE (a : ME) (l h : MP) : ME := fun env st => (a env st).bind fun x st1 => (l env st1).bind fun lo st2 => (h env st2).bind fun hi st3 => slV x lo hi st3
theorem je_slice {lo hi : Option Expr} {ml mh : MP} (he : JE X e ma) (hl : JP X lo ml) (hu : JP X hi mh) : JE X (.Subscript e (.Slice lo hi none p2) pos) (slE ma ml mh) := by
  refine JE.of (pe_slice sl_V he hl hu) fun σ H Q ⟨μ, env, st, hE, hs, hp⟩ => ⟨μ, env, st, hE, hs, hp.bind.imp ?_⟩
  rintro x H1 ⟨μ1, st1, d, g1, hs1, hx, hp1⟩
  refine ⟨μ1, env, st1, hE.mono g1, hs1, hp1.bind.imp ?_⟩
  rintro l H2 ⟨μ2, st2, l', g2, hs2, rfl, hp2⟩
  refine ⟨μ2, env, st2, (hE.mono g1).mono g2, hs2, hp2.bind.imp ?_⟩
  rintro u H3 ⟨μ3, st3, u', g3, hs3, rfl, hp3⟩
  exact ⟨μ3, st3, d, hs3, hx.mono (g2.trans g3) _, hp3⟩
/-! ### calls of built-ins and their methods -/
def callE (g : List D → Stor → R D) (mA : MA) : ME := fun env st => (mA env st).bind fun ds st1 => g ds st1
theorem tMA_call {g : List D → Stor → R D} {σ : L2.St} {H : Hp} {Q : VK} (h : tM X (callE g mA) σ H Q) : tMA X mA σ H fun vs H1 => rMC X g vs H1 Q := by
  obtain ⟨μ, env, st, hE, hs, hp⟩ := h
  refine ⟨μ, env, st, hE, hs, hp.bind.imp ?_⟩
  rintro xs H1 ⟨μ1, st1, ds, g1, hs1, hx, hp1⟩
  exact ⟨μ1, st1, ds, hs1, hx, hp1⟩
theorem je_callB {x : Str} {p : Pos} {id : String} {g : List D → Stor → R D} (hc : CallR X (.builtin id) (rMC X g)) (hg : Gl X x) (hm : X.mg x = none) (hv : bootBuiltins x = some (.builtin id)) (ha : JA X (e :: es) mA) (hn : x ≠ "__name__" := by decide) (hdb : (x == ("__debug__" : Str)) = false := by decide)
    (he : starEach (e :: es) X.env = (false, eval e X.env) :: starEach es X.env := by rfl) (hpl : (backTo pos (starEach es X.env)).any (·.1) = false := by rfl) : JE X (.Call (.Name x p) (e :: es) [] pos) (callE g mA) :=
  JE.of (pe_callB hc hg hm hv ha hn hdb he hpl) fun σ H Q h => tMA_call h
theorem je_callTy {x : Str} {p : Pos} {T : String} {g : List D → Stor → R D} (hc : CallR X (.type T) (rMC X g)) (hg : Gl X x) (hm : X.mg x = none) (hv : bootBuiltins x = some (.type T)) (ha : JA X (e :: es) mA) (hn : x ≠ "__name__" := by decide) (hdb : (x == ("__debug__" : Str)) = false := by decide)
    (he : starEach (e :: es) X.env = (false, eval e X.env) :: starEach es X.env := by rfl) (hpl : (backTo pos (starEach es X.env)).any (·.1) = false := by rfl) : JE X (.Call (.Name x p) (e :: es) [] pos) (callE g mA) :=
  JE.of (pe_callTy hc hg hm hv ha hn hdb he hpl) fun σ H Q h => tMA_call h
end
end M
namespace M
open PySem PySem.Spec L2
/-! ### statements -/
inductive Out where
  | nx (env : MEnv) | rt (d : D) | bk (env : MEnv) | cn (env : MEnv)
abbrev MS := MEnv → Stor → R Out
def PostS (X : Cx) (μ : List Addr) (H : Hp) (E : Ends) (r : R Out) : Prop := match r with
  | .ok (.nx env) st => ∀ (σ' : L2.St) (H' : Hp) (μ' : List Addr), Grow μ H μ' H' → RepS X.K μ' H' st → RepE X.K μ' H' env σ' → E.nx σ' H'
  | .ok (.rt d) st => ∀ (v : V) (H' : Hp) (μ' : List Addr), Grow μ H μ' H' → RepS X.K μ' H' st → RepV X.K μ' H' d v → E.rt v H'
  | .ok (.bk env) st => ∀ (σ' : L2.St) (H' : Hp) (μ' : List Addr), Grow μ H μ' H' → RepS X.K μ' H' st → RepE X.K μ' H' env σ' → E.bk σ' H'
  | .ok (.cn env) st => ∀ (σ' : L2.St) (H' : Hp) (μ' : List Addr), Grow μ H μ' H' → RepS X.K μ' H' st → RepE X.K μ' H' env σ' → E.ct σ' H'
  | .err x st => ErrOK X μ H x st
  | .bad => False
def tMS (X : Cx) (m : MS) : TS := fun E σ H => ∃ μ env st, RepE X.K μ H env σ ∧ RepS X.K μ H st ∧ PostS X μ H E (m env st)
def JS (X : Cx) (s : Stmt) (m : MS) : Prop := PS X s (tMS X m)
def JSs (X : Cx) (s : List Stmt) (m : MS) : Prop := PSs X s (tMS X m)
section
variable {X : Cx} {e a b c : Expr} {es : List Expr} {t : TE} {ma mb mc : ME} {mA : MA} {pos p2 : Pos} {s : Stmt} {ss : List Stmt} {m m1 m2 : MS} {μ μ1 : List Addr} {H H1 : Hp} {E E' : Ends} {r : R Out}
theorem PostS.mono (g : Grow μ H μ1 H1) (h : PostS X μ H E r) : PostS X μ1 H1 E r := by
  match r, h with
  | .ok (.nx _) _, h => exact fun σ' H' μ' g' => h σ' H' μ' (g.trans g')
  | .ok (.rt _) _, h => exact fun σ' H' μ' g' => h σ' H' μ' (g.trans g')
  | .ok (.bk _) _, h => exact fun σ' H' μ' g' => h σ' H' μ' (g.trans g')
  | .ok (.cn _) _, h => exact fun σ' H' μ' g' => h σ' H' μ' (g.trans g')
  | .err _ _, h => exact ErrOK.mono g h
  | .bad, h => exact h
theorem JS.of {t : TS} (h : PS X s t) (k : ∀ E σ H, tMS X m E σ H → t E σ H) : JS X s m := fun pins s σ H D I q => h pins s σ H D I (k D σ H q)
theorem JSs.of {t : TS} (h : PSs X ss t) (k : ∀ E σ H, tMS X m E σ H → t E σ H) : JSs X ss m := fun pins s σ H D I q => h pins s σ H D I (k D σ H q)
theorem PostS.nx {env : MEnv} {st : Stor} {σ : L2.St} (h : PostS X μ H E (.ok (.nx env) st)) (hs : RepS X.K μ H st) (hE : RepE X.K μ H env σ) : E.nx σ H := h σ H μ (.refl _ _) hs hE
def skipS : MS := fun env st => .ok (.nx env) st
def seqS (a b : MS) : MS := fun env st => (a env st).bind fun o st1 => match o with | .nx env1 => b env1 st1 | o => .ok o st1
def retS (m : ME) : MS := fun env st => (m env st).bind fun d st1 => .ok (.rt d) st1
def retN : MS := fun _ st => .ok (.rt .non) st
def exprS (m : ME) : MS := fun env st => (m env st).bind fun _ st1 => .ok (.nx env) st1
def ifS (c : MT) (a b : MS) : MS := fun env st => (c env st).bind fun x st1 => if x then a env st1 else b env st1
def brkS : MS := fun env st => .ok (.bk env) st
def cntS : MS := fun env st => .ok (.cn env) st
theorem js_nil : JSs X [] skipS := JSs.of pss_nil fun E σ H ⟨μ, env, st, hE, hs, hp⟩ => hp.nx hs hE
theorem js_break : JS X (.Break pos) brkS := JS.of ps_break fun E σ H ⟨μ, env, st, hE, hs, hp⟩ => hp σ H μ (.refl _ _) hs hE
theorem js_one (h : JS X s m) : JSs X [s] m := pss_one h
theorem PostS.seq (h : PostS X μ H E (r.bind fun o st1 => match o with | .nx env1 => m2 env1 st1 | o => .ok o st1)) : PostS X μ H { E with nx := tMS X m2 E } r := by
  match r, h with
  | .ok (.nx env1) st1, h => exact fun σ' H' μ' g hs hE => ⟨μ', env1, st1, hE, hs, PostS.mono g h⟩
  | .ok (.rt _) _, h => exact h
  | .ok (.bk _) _, h => exact h
  | .ok (.cn _) _, h => exact h
  | .err _ _, h => exact h
  | .bad, h => exact h
theorem js_cons (h1 : JS X s m1) (h2 : JSs X ss m2) : JSs X (s :: ss) (seqS m1 m2) :=
  JSs.of (pss_cons h1 h2) fun E σ H ⟨μ, env, st, hE, hs, hp⟩ => ⟨μ, env, st, hE, hs, PostS.seq hp⟩
/-- an expression's value handed to a statement's rest -/
theorem PostS.val {α β : Type} {rel : Rel α β} {r : R α} {f : α → Stor → R Out} (h : PostS X μ H E (r.bind f)) : Post X μ H rel (fun b H1 => ∃ μ1 st1 a, Grow μ H μ1 H1 ∧ RepS X.K μ1 H1 st1 ∧ rel μ1 H1 a b ∧ PostS X μ1 H1 E (f a st1)) r := by
  cases r with
  | ok a st => exact fun b H' μ' g h1 h2 => ⟨μ', st, a, g, h1, h2, PostS.mono g h⟩
  | err x st => exact h
  | bad => exact h
theorem js_ret (h : JE X e ma) : JS X (.Return (some e) pos) (retS ma) := by
  refine JS.of (ps_ret h) fun E σ H ⟨μ, env, st, hE, hs, hp⟩ => ⟨μ, env, st, hE, hs, hp.val.imp ?_⟩
  rintro v H1 ⟨μ1, st1, d, g1, hs1, hv, hp1⟩
  exact hp1 v H1 μ1 (.refl _ _) hs1 hv
theorem js_expr (h : JE X e ma) (hs : swapsWith e none pos.line X.env = pure false := by rfl) : JS X (.Expr e pos) (exprS ma) := by
  refine JS.of (ps_expr h hs) fun E σ H ⟨μ, env, st, hE, hs, hp⟩ => ⟨μ, env, st, hE, hs, hp.val.imp ?_⟩
  rintro v H1 ⟨μ1, st1, d, g1, hs1, hv, hp1⟩
  exact hp1.nx hs1 (hE.mono g1)
theorem js_if {sa sb : List Stmt} {tc : MT} (hc : JT X c tc) (ha : JSs X sa m1) (hb : JSs X sb m2) : JS X (.If c sa sb pos) (ifS tc m1 m2) := by
  refine JS.of (ps_if hc ha hb) fun E σ H ⟨μ, env, st, hE, hs, hp⟩ => ⟨μ, env, st, hE, hs, hp.val.imp ?_⟩
  rintro v H1 ⟨μ1, st1, d, g1, hs1, rfl, hp1⟩
  cases d with
  | true => exact iteT ⟨μ1, env, st1, hE.mono g1, hs1, hp1⟩
  | false => exact iteF ⟨μ1, env, st1, hE.mono g1, hs1, hp1⟩
/-! ### targets -/
abbrev MG := D → MEnv → Stor → R MEnv
abbrev MGs := List D → MEnv → Stor → R MEnv
abbrev relE (X : Cx) : Rel MEnv L2.St := fun μ H env σ => RepE X.K μ H env σ
def tMG (X : Cx) (m : MG) : TG := fun v σ H Q => ∃ μ env st d, RepE X.K μ H env σ ∧ RepS X.K μ H st ∧ RepV X.K μ H d v ∧ Post X μ H (relE X) Q (m d env st)
def tMGs (X : Cx) (m : MGs) : TGs := fun vs σ H Q => ∃ μ env st ds, RepE X.K μ H env σ ∧ RepS X.K μ H st ∧ RepVs X.K μ H ds vs ∧ Post X μ H (relE X) Q (m ds env st)
def JG (X : Cx) (t : Expr) (m : MG) : Prop := PG X t (tMG X m)
def JGs (X : Cx) (ts : List Expr) (m : MGs) : Prop := PGs X ts (tMGs X m)
theorem JG.of {g : TG} {m : MG} (h : PG X e g) (k : ∀ v σ H Q, tMG X m v σ H Q → g v σ H Q) : JG X e m := fun pins s σ H v u Q I r q => h pins s σ H v u Q I r (k v σ H Q q)
def nameG (i : Nat) : MG := fun d env st => .ok (env.set i (some d)) st
theorem jg_name (i : Nat) {x : Str} (hN : X.N.Nodup) (hi : X.N[i]? = some x := by rfl) (hx : Loc X.env.scope x := by first | exact Or.inl rfl | exact Or.inr rfl) (hf : X.fn x = true ∨ X.env.scope.names.lookup x = some .local := by first | exact .inl rfl | exact .inr rfl | assumption) : JG X (.Name x pos) (nameG i) :=
  JG.of (pg_name hN hi hx hf) fun v σ H Q ⟨μ, env, st, d, hE, hs, hv, hp⟩ => hp.ret hs (hE.set hv)
def nilG : MGs := fun ds env st => match ds with | [] => .ok env st | _ => .bad
def consG (g : MG) (r : MGs) : MGs := fun ds env st => match ds with | d :: ds => (g d env st).bind fun env1 st1 => r ds env1 st1 | _ => .bad
def tupG (n : Nat) (g : MGs) : MG := fun d env st => match d with | .tup ds => if ds.length = n then g ds env st else .bad | _ => .bad
/-- o[i] = v of a list -/
def setV : D → D → D → Stor → R Unit
  | .loc n, .int i, d, st => match st[n]? with
    | some (.lst ds) => (match ixN ds.length i with | some j => .ok () (st.set n (.lst (ds.set j d))) | none => .bad)
    | _ => .bad
  | _, _, _, _ => .bad
abbrev relU : Rel Unit Unit := fun _ _ _ _ => True
def rMSet (X : Cx) (g : D → D → D → Stor → R Unit) : TSet := fun o i v H Q => ∃ μ st d1 d2 d3, RepS X.K μ H st ∧ RepV X.K μ H d1 o ∧ RepV X.K μ H d2 i ∧ RepV X.K μ H d3 v ∧ Post X μ H relU (fun _ => Q) (g d1 d2 d3 st)
/-- a list of the store is written -/
theorem putLst {st : Stor} {n : Nat} {ds ds' : List D} {p : Addr} {xs ys : List V} (hs : RepS X.K μ H st) (e : st[n]? = some (.lst ds)) (hp : μ[n]? = some p) (hx : H p = some (.lst xs)) (hy : RepVs X.K μ H ds' ys) :
    Grow μ H μ (upd H p (.lst ys)) ∧ RepS X.K μ (upd H p (.lst ys)) (st.set n (.lst ds')) := by
  have g : Ext H (upd H p (.lst ys)) := Ext.mut hx (fun _ z => nomatch z) (fun _ _ z => nomatch z)
  have g' : Grow μ H μ (upd H p (.lst ys)) := ⟨⟨[], by simp⟩, g⟩
  exact ⟨g', hs.put e rfl rfl hp g ⟨ys, upd_same, hy.mono g' _⟩⟩
def subG (g : D → D → D → Stor → R Unit) (o i : ME) : MG := fun d env st => (o env st).bind fun x st1 => (i env st1).bind fun y st2 => (g x y d st2).bind fun _ st3 => .ok env st3
theorem jg_sub {o i : Expr} {mo mi : ME} {g : D → D → D → Stor → R Unit} (hset : PSet X (rMSet X g)) (ho : JE X o mo) (hi : JE X i mi)
    (ha : ∀ v, assign (.Subscript o i pos) X.env v = (do
      let ov ← holding [v] (eval o X.env)
      let iv ← holding [v, ov] (eval i X.env)
      standAt pos
      holding [v, ov, iv] (setItem ov iv v)
      release [v, ov, iv] []) := by intro _; rfl) : JG X (.Subscript o i pos) (subG g mo mi) := by
  refine JG.of (pg_sub ho hi hset ha) fun v σ H Q ⟨μ, env, st, d, hE, hs, hv, hp⟩ => ⟨μ, env, st, hE, hs, (Post.bind hp).imp ?_⟩
  rintro x H1 ⟨μ1, st1, dx, g1, hs1, hx, hp1⟩
  refine ⟨μ1, env, st1, hE.mono g1, hs1, (Post.bind hp1).imp ?_⟩
  rintro y H2 ⟨μ2, st2, dy, g2, hs2, hy, hp2⟩
  refine ⟨μ2, st2, dx, dy, d, hs2, hx.mono g2 _, hy, (hv.mono g1 _).mono g2 _, (Post.bind hp2).imp ?_⟩
  rintro _ H3 ⟨μ3, st3, _, g3, hs3, _, hp3⟩
  exact hp3.ret hs3 (((hE.mono g1).mono g2).mono g3)
def asgS (m : ME) (g : MG) : MS := fun env st => (m env st).bind fun d st1 => (g d env st1).bind fun env1 st2 => .ok (.nx env1) st2
theorem js_asg {tg : Expr} {g : MG} (he : JE X e ma) (hg : JG X tg g) (hs : swapsWithSole [tg] e pos.line X.env = pure false := by rfl) (hw : swappedStores [tg] e X.env = pure none := by rfl) (h1 : (assignEach [tg] X.env).map (·.2) = [assign tg X.env] := by rfl) : JS X (.Assign [tg] e pos) (asgS ma g) := by
  refine JS.of (ps_asg he hg hs hw h1) fun E σ H ⟨μ, env, st, hE, hs, hp⟩ => ⟨μ, env, st, hE, hs, hp.val.imp ?_⟩
  rintro x H1 ⟨μ1, st1, d, g1, hs1, hx, hp1⟩
  refine ⟨μ1, env, st1, d, hE.mono g1, hs1, hx, hp1.val.imp ?_⟩
  rintro σ2 H2 ⟨μ2, st2, env2, g2, hs2, hE2, hp2⟩
  exact hp2.nx hs2 hE2
def setS (i : Nat) (m : ME) : MS := asgS m (nameG i)
/-- name = value -/
theorem js_set (i : Nat) {x : Str} {pos' : Pos} (he : JE X e ma) (hN : X.N.Nodup) (hi : X.N[i]? = some x := by rfl) (hx : Loc X.env.scope x := by first | exact Or.inl rfl | exact Or.inr rfl) (hs : swapsWith e (some (.Name x pos')) pos.line X.env = pure false := by rfl)
    (hf : X.fn x = true ∨ X.env.scope.names.lookup x = some .local := by first | exact .inl rfl | exact .inr rfl | assumption) : JS X (.Assign [.Name x pos'] e pos) (setS i ma) := by
  refine JS.of (ps_set hN hi hx he hs hf) fun E σ H ⟨μ, env, st, hE, hs, hp⟩ => ⟨μ, env, st, hE, hs, hp.val.imp ?_⟩
  rintro x H1 ⟨μ1, st1, d, g1, hs1, hx, hp1⟩
  exact hp1.nx hs1 ((hE.mono g1).set hx)
end
end M
namespace M
open PySem PySem.Spec L2
/-! ### while -/
def whileS (c : MT) (b : MS) : Nat → MS
  | 0, _, _ => .bad
  | n + 1, env, st => (c env st).bind fun x st1 => if x then (b env st1).bind fun o st2 => (match o with
      | .nx env2 => whileS c b n env2 st2
      | .cn env2 => whileS c b n env2 st2
      | .bk env2 => .ok (.nx env2) st2
      | .rt d => .ok (.rt d) st2) else .ok (.nx env) st1
section
variable {X : Cx} {e a b c : Expr} {es : List Expr} {t : TE} {ma mb mc : ME} {mA : MA} {pos p2 : Pos} {s : Stmt} {ss body : List Stmt} {m m1 m2 mb : MS} {μ μ1 : List Addr} {H H1 : Hp} {E E' : Ends} {r : R Out} {tc : MT}
/-- what a loop's body hands on -/
theorem PostS.loop {nxt : MEnv → Stor → R Out} {N : L2.St → Hp → Prop}
    (h : PostS X μ H E (r.bind fun o st2 => (match o with
      | .nx env2 => nxt env2 st2
      | .cn env2 => nxt env2 st2
      | .bk env2 => .ok (.nx env2) st2
      | .rt d => .ok (.rt d) st2)))
    (hN : ∀ env2 st2 σ' H' μ', Grow μ H μ' H' → RepS X.K μ' H' st2 → RepE X.K μ' H' env2 σ' → PostS X μ' H' E (nxt env2 st2) → N σ' H') :
    PostS X μ H { E with nx := N, ct := N, bk := E.nx } r := by
  match r, h with
  | .ok (.nx env1) st1, h => exact fun σ' H' μ' g hs hE => hN env1 st1 σ' H' μ' g hs hE (PostS.mono g h)
  | .ok (.cn env1) st1, h => exact fun σ' H' μ' g hs hE => hN env1 st1 σ' H' μ' g hs hE (PostS.mono g h)
  | .ok (.rt _) _, h => exact h
  | .ok (.bk _) _, h => exact h
  | .err _ _, h => exact h
  | .bad, h => exact h
theorem js_while (n : Nat) (hc : JT X c tc) (hb : JSs X body mb) (hp : PassesOwn (model X.prog X.w) X.A X.env X.xe) : JS X (.While c body [] pos) (whileS tc mb n) := by
  refine JS.of (ps_while hp hc hb) fun E σ H h => ?_
  refine ⟨fun k σ H => tMS X (whileS tc mb k) E σ H, ⟨n, h⟩, ?_⟩
  rintro k σ H ⟨μ, env, st, hE, hs, hp⟩
  cases k with
  | zero => exact hp.elim
  | succ k =>
    refine ⟨μ, env, st, hE, hs, (PostS.val hp).imp ?_⟩
    rintro v H1 ⟨μ1, st1, d, g1, hs1, rfl, hp1⟩
    cases d with
    | false => exact iteF (hp1.nx hs1 (hE.mono g1))
    | true =>
      refine iteT ⟨fun σ' H' => tMS X (whileS tc mb k) E σ' H', fun σ' H' q => ⟨k, Nat.lt_succ_self _, q⟩, μ1, env, st1, hE.mono g1, hs1, ?_⟩
      exact PostS.loop (nxt := whileS tc mb k) hp1 fun env2 st2 σ' H' μ' g hs2 hE2 q => ⟨μ', env2, st2, hE2, hs2, q⟩
/-! ### what is walked -/
/-- the items, and the objects of the store that must stay as they are meanwhile -/
abbrev Src := List D × List (Nat × MO)
abbrev MI := MEnv → Stor → R Src
def okG (gs : List (Nat × MO)) (st : Stor) : Prop := ∀ g ∈ gs, st[g.1]? = some g.2
@[simp] theorem okG_nil (st : Stor) : okG [] st := fun _ h => nomatch h
@[simp] theorem okG_cons (g : Nat × MO) (gs : List (Nat × MO)) (st : Stor) : okG (g :: gs) st ↔ st[g.1]? = some g.2 ∧ okG gs st := by simp [okG]
def ItRep (X : Cx) (μ : List Addr) (H : Hp) (J : It) (s : Src) : Prop := ∀ (H' : Hp) (μ' : List Addr) (st' : Stor), Grow μ H μ' H' → RepS X.K μ' H' st' → okG s.2 st' →
  (∀ (i : Nat) (d : D), s.1[i]? = some d → J.go i H' ∧ ∀ x H'', J.yld i H' x H'' → Grow μ' H' μ' H'' ∧ RepS X.K μ' H'' st' ∧ RepV X.K μ' H'' d x) ∧ J.stop s.1.length H'
abbrev relI (X : Cx) : Rel Src It := fun μ H s J => ItRep X μ H J s
def tMI (X : Cx) (m : MI) : TI := fun σ H Q => ∃ μ env st, RepE X.K μ H env σ ∧ RepS X.K μ H st ∧ Post X μ H (relI X) (fun J H' => Q J H') (m env st)
def JI (X : Cx) (tg iter : Expr) (m : MI) : Prop := PI X tg iter (tMI X m)
theorem JI.of {tg iter : Expr} {wi : TI} {m : MI} (h : PI X tg iter wi) (k : ∀ σ H Q, tMI X m σ H Q → wi σ H Q) : JI X tg iter m := fun pins s σ H R I q => h pins s σ H R I (k σ H R q)
open Classical in
noncomputable def forGo (g : MG) (b : MS) (gs : List (Nat × MO)) : List D → MS
  | [], env, st => if okG gs st then .ok (.nx env) st else .bad
  | d :: r, env, st => if okG gs st then (g d env st).bind fun env1 st1 => (b env1 st1).bind fun o st2 => (match o with
      | .nx env2 => forGo g b gs r env2 st2
      | .cn env2 => forGo g b gs r env2 st2
      | .bk env2 => .ok (.nx env2) st2
      | .rt d => .ok (.rt d) st2) else .bad
noncomputable def forS (mi : MI) (g : MG) (b : MS) : MS := fun env st => (mi env st).bind fun s st1 => forGo g b s.2 s.1 env st1
theorem js_for {tg iter : Expr} {mi : MI} {g : MG} (hi : JI X tg iter mi) (hg : JG X tg g) (hb : JSs X body mb) (hp : PassesOwn (model X.prog X.w) X.A X.env X.xe) (hc : X.calm = true)
    (hs : ∀ x, foldedSetIterable iter X.env x = pure x := by intro _; rfl) : JS X (.For tg iter body [] pos) (forS mi g mb) := by
  refine JS.of (ps_for hp hc hi hg hb hs) fun E σ H ⟨μ, env, st, hE, hs, hp⟩ => ⟨μ, env, st, hE, hs, (PostS.val hp).imp ?_⟩
  rintro J H1 ⟨μ1, st1, s, g1, hs1, hJ, hp1⟩
  refine ⟨fun i k σ H => ∃ μ2 env2 st2, Grow μ1 H1 μ2 H ∧ RepE X.K μ2 H env2 σ ∧ RepS X.K μ2 H st2 ∧ PostS X μ2 H E (forGo g mb s.2 (s.1.drop i) env2 st2) ∧ i ≤ s.1.length ∧ k = s.1.length - i,
    ⟨_, μ1, env, st1, .refl _ _, hE.mono g1, hs1, by simpa using hp1, Nat.zero_le _, rfl⟩, ?_⟩
  rintro i k σ2 H2 ⟨μ2, env2, st2, g2, hE2, hs2, hp2, hi, rfl⟩
  by_cases hlt : i < s.1.length
  · have e1 : s.1.drop i = s.1[i] :: s.1.drop (i + 1) := List.drop_eq_getElem_cons hlt
    rw [e1, forGo] at hp2
    by_cases ok : okG s.2 st2
    · rw [if_pos ok] at hp2
      obtain ⟨q1, q2⟩ := (hJ H2 μ2 st2 g2 hs2 ok).1 i s.1[i] (List.getElem?_eq_getElem hlt)
      refine .inr ⟨q1, fun σ' H' => ∃ μ3 env3 st3, Grow μ1 H1 μ3 H' ∧ RepE X.K μ3 H' env3 σ' ∧ RepS X.K μ3 H' st3 ∧ PostS X μ3 H' E (forGo g mb s.2 (s.1.drop (i + 1)) env3 st3), ?_, ?_⟩
      · rintro σ' H' ⟨μ3, env3, st3, g3, hE3, hs3, hp3⟩
        exact ⟨s.1.length - (i + 1), by omega, μ3, env3, st3, g3, hE3, hs3, hp3, by omega, rfl⟩
      · intro x H3 hx
        obtain ⟨g3, hs3, hd⟩ := q2 x H3 hx
        refine ⟨μ2, env2, st2, s.1[i], hE2.mono g3, hs3, hd, (PostS.val (PostS.mono g3 hp2)).imp ?_⟩
        rintro σ4 H4 ⟨μ4, st4, env4, g4, hs4, hE4, hp4⟩
        refine ⟨μ4, env4, st4, hE4, hs4, ?_⟩
        exact PostS.loop (nxt := forGo g mb s.2 (s.1.drop (i + 1))) hp4 fun env5 st5 σ' H' μ' g5 hs5 hE5 q => ⟨μ', env5, st5, ((g2.trans g3).trans g4).trans g5, hE5, hs5, q⟩
    · rw [if_neg ok] at hp2; exact hp2.elim
  · have e1 : s.1.drop i = [] := List.drop_eq_nil_of_le (by omega)
    rw [e1, forGo] at hp2
    have e2 : i = s.1.length := by omega
    by_cases ok : okG s.2 st2
    · rw [if_pos ok] at hp2
      refine .inl ⟨by rw [e2]; exact (hJ H2 μ2 st2 g2 hs2 ok).2, hp2.nx hs2 hE2⟩
    · rw [if_neg ok] at hp2; exact hp2.elim
/-! ### lists, tuples, ranges walked -/
def seqI (m : ME) : MI := fun env st => (m env st).bind fun d st1 => match d with
  | .loc n => (match st1[n]? with
    | some (.lst ds) => .ok (ds, [(n, .lst ds)]) st1
    | some (.frz ds) => .ok (ds, [(n, .frz ds)]) st1
    | _ => .bad)
  | .tup ds => .ok (ds, []) st1
  | _ => .bad
theorem PI.or {tg l : Expr} {w1 w2 : TI} (h1 : PI X tg l w1) (h2 : PI X tg l w2) : PI X tg l (fun σ H R => w1 σ H R ∨ w2 σ H R) := fun pins s σ H R I h => h.elim (h1 pins s σ H R I) (h2 pins s σ H R I)
theorem itl_rep {n : Nat} {ds : List D} {p : Addr} {o : MO} {st : Stor} (ho : o = .lst ds ∨ o = .frz ds) (hp : μ[n]? = some p) : ItRep X μ H (Itl X.K p) (ds, [(n, o)]) := by
  intro H' μ' st' g hs ok
  have e : st'[n]? = some o := (ok (n, o) (by simp))
  have e2 : itemsAt st' n = some ds := by
    unfold itemsAt
    rcases ho with rfl | rfl <;> rw [e]
  obtain ⟨p', xs, q1, q2, q3⟩ := hs.items e2
  rw [g.get hp] at q1; cases q1
  refine ⟨fun i d hd => ?_, xs, q2, Nat.le_of_eq q3.length.symm⟩
  obtain ⟨v, h1, h2⟩ := q3.get hd
  refine ⟨⟨xs, v, q2, h1⟩, ?_⟩
  rintro x H'' ⟨rfl, hx⟩
  have := hx xs q2
  rw [h1] at this; cases this
  exact ⟨.refl _ _, hs, h2⟩
theorem itt_rep {ds : List D} {p : Addr} {xs : List V} (hq : SqT X.K H p xs) (hd : RepVs X.K μ H ds xs) : ItRep X μ H (Itt X.K p) (ds, []) := by
  intro H' μ' st' g hs ok
  have hq' := g.ext.sqT hq
  have hd' := hd.mono g ds
  refine ⟨fun i d e => ?_, xs, hq', Nat.le_of_eq hd.length.symm⟩
  obtain ⟨v, h1, h2⟩ := hd'.get e
  refine ⟨⟨xs, v, hq', h1⟩, ?_⟩
  rintro x H'' ⟨rfl, hx⟩
  have := hx xs hq'
  rw [h1] at this; cases this
  exact ⟨.refl _ _, hs, h2⟩
theorem ji_seq {tg l : Expr} (h : JE X l ma) : JI X tg l (seqI ma) := by
  refine JI.of (PI.or (pi_list h) (pi_tup h)) fun σ H R hh => ?_
  -- which of the two is decided by the value
  obtain ⟨μ, env, st, hE, hs, hp⟩ := hh
  unfold seqI at hp
  cases hr : ma env st with
  | bad => rw [hr] at hp; exact hp.elim
  | err x st1 =>
    rw [hr] at hp
    refine .inl ⟨μ, env, st, hE, hs, ?_⟩
    rw [hr]; exact hp
  | ok d st1 =>
    rw [hr, M.R.bind_ok] at hp
    cases d with
    | loc n =>
      simp only at hp
      refine .inl ⟨μ, env, st, hE, hs, ?_⟩
      rw [hr]
      intro v H1 μ1 g1 hs1 hv
      obtain ⟨p, q1, rfl⟩ := RepV.loc_iff.mp hv
      cases e : st1[n]? with
      | none => rw [e] at hp; exact hp.elim
      | some mo =>
        cases mo with
        | lst ds =>
          rw [e] at hp
          obtain ⟨p', xs, r1, r2, r3⟩ := hs1.lst e
          rw [q1] at r1; cases r1
          exact ⟨p, rfl, ⟨xs, SqL.of r2⟩, hp _ _ _ g1 hs1 (itl_rep (st := st1) (.inl rfl) q1)⟩
        | frz ds =>
          rw [e] at hp
          obtain ⟨p', r1, xs, r2, r3⟩ := hs1.at_ n _ e
          rw [q1] at r1; cases r1
          exact ⟨p, rfl, ⟨xs, r2.sqL⟩, hp _ _ _ g1 hs1 (itl_rep (st := st1) (.inr rfl) q1)⟩
        | _ => rw [e] at hp; exact hp.elim
    | tup ds =>
      refine .inr ⟨μ, env, st, hE, hs, ?_⟩
      rw [hr]
      intro v H1 μ1 g1 hs1 hv
      obtain ⟨p, xs, rfl, q1, q2⟩ := RepV.tup_iff.mp hv
      exact ⟨p, rfl, ⟨xs, q1.sqT⟩, hp _ _ _ g1 hs1 (itt_rep q1.sqT q2)⟩
    | _ => exact hp.elim
/-- lo, lo + 1, .. (n of them) -/
def upto (lo : Int) (n : Nat) : List D := (List.range n).map fun (k : Nat) => .int (lo + k)
def range1I (mA : MA) : MI := fun env st => (mA env st).bind fun ds st1 => match ds with
  | [.int j] => if -(2 ^ 62) ≤ j ∧ j < 2 ^ 62 then .ok (upto 0 j.toNat, []) st1 else .bad
  | _ => .bad
def range2I (mA : MA) : MI := fun env st => (mA env st).bind fun ds st1 => match ds with
  | [.int i, .int j] => if -(2 ^ 62) ≤ i ∧ i < 2 ^ 62 ∧ -(2 ^ 62) ≤ j ∧ j < 2 ^ 62 then .ok (upto i (j - i).toNat, []) st1 else .bad
  | _ => .bad
theorem itr_rep (lo : Int) (n : Nat) : ItRep X μ H (Itr lo n) (upto lo n, []) := by
  intro H' μ' st' g hs ok
  refine ⟨fun i d e => ?_, by show n ≤ _; simp [upto]⟩
  have hi : i < n := by have := (List.getElem?_eq_some_iff.mp e).1; simpa [upto] using this
  simp [upto, hi] at e
  subst e
  refine ⟨hi, ?_⟩
  rintro x H'' ⟨rfl, rfl⟩
  exact ⟨.refl _ _, hs, RepV.int_iff.mpr rfl⟩
theorem RepVs.one {K : PySem.W.Frag} {μ : List Addr} {H : Hp} {d : D} {vs : List V} (h : RepVs K μ H [d] vs) : ∃ v, vs = [v] ∧ RepV K μ H d v := by
  rw [RepVs] at h
  obtain ⟨v, r, rfl, q1, q2⟩ := h
  rw [RepVs] at q2; subst q2
  exact ⟨v, rfl, q1⟩
theorem ji_range1 {tg : Expr} {p : Pos} (ha : JA X [a] mA) (hg : Gl X "range") (hm : X.mg "range" = none) (hs : starEach [a] X.env = [(false, eval a X.env)] := by rfl) : JI X tg (.Call (.Name "range" p) [a] [] pos) (range1I mA) := by
  refine JI.of (pi_range1 hg hm ha hs) fun σ H R ⟨μ, env, st, hE, hs, hp⟩ => ⟨μ, env, st, hE, hs, (Post.bind hp).imp ?_⟩
  rintro vs H1 ⟨μ1, st1, ds, g1, hs1, hv, hp1⟩
  dsimp only at hp1
  split at hp1
  · split at hp1
    · rename_i hc
      obtain ⟨v, rfl, q1⟩ := RepVs.one hv
      rw [RepV.int_iff] at q1; subst q1
      exact ⟨_, rfl, hc.1, hc.2, hp1 _ _ _ (.refl _ _) hs1 (itr_rep 0 _)⟩
    · exact hp1.elim
  · exact hp1.elim
end
/-! ### defs -/
abbrev FD := List D → Stor → R D
def PostF (K : PySem.W.Frag) (μ : List Addr) (H : Hp) (Q : VK) (r : R D) : Prop := match r with
  | .ok d st => ∀ (v : V) (H' : Hp) (μ' : List Addr), Grow μ H μ' H' → RepS K μ' H' st → RepV K μ' H' d v → Q v H'
  | _ => False
/-- what a def promises -/
def spM (K : PySem.W.Frag) (n : Nat) (fd : FD) : Sp := fun vs H Q _ => vs.length = n ∧ ∃ μ ds st, RepVs K μ H ds vs ∧ RepS K μ H st ∧ PostF K μ H Q (fd ds st)
def startM (n : Nat) (ds : List D) : MEnv := ds.map some ++ List.replicate (n - ds.length) none
/-- a def's body run: n names -/
def fnM (n : Nat) (m : MS) : FD := fun ds st => (m (startM n ds) st).bind fun o st1 => match o with
  | .rt d => .ok d st1
  | .nx _ => .ok .non st1
  | _ => .bad
theorem RepVs.start {K : PySem.W.Frag} {μ : List Addr} {H : Hp} {ds : List D} {vs : List V} (N : List Str) (h : RepVs K μ H ds vs) : RepE K μ H (startM N.length ds) (L2.start N vs) := by
  unfold startM L2.start
  refine ⟨by simp [h.length], fun i d e => ?_⟩
  rw [← h.length]
  by_cases hi : i < ds.length
  · rw [List.getElem?_append_left (by simpa using hi)] at e
    rw [List.getElem?_append_left (by rw [List.length_map, ← h.length]; exact hi)]
    rw [List.getElem?_map] at e ⊢
    cases q : ds[i]? with
    | none => rw [q] at e; cases e
    | some d' =>
      rw [q] at e; cases e
      obtain ⟨v, q1, q2⟩ := h.get q
      exact ⟨v, by rw [q1]; rfl, q2⟩
  · rw [List.getElem?_append_right (by simpa using hi)] at e
    rw [List.getElem?_replicate] at e
    split at e <;> cases e
section
variable {P : Program} {w : World} {K : PySem.W.Frag} {mg : Str → Option Value} {base : Heap}
/-- THE RULE for a def without exceptions: its body's denotation -/
theorem fn_ok {x qual : Str} {st : Stmt} {f : Addr} {fd : FuncData} {N ps : List Str} {k : Nat} {m : MS} (F : Fun K x qual st f fd) (S : FnScope N ps (defScope st))
    (hbody : ∀ (cdv : Value) (A : Around) (outer : List Env) (s : Shared) (H : Hp), Room k (A.deeper (PyProof.Rows.envOfC qual (defScope st) s.heap.objs.size f cdv)) →
      JSs (cxOf CX0 P w K mg base N qual (defScope st) f cdv A outer s H E0).nox (defBody st) m) : FnOk P w K mg base CX0 (k + 1) f fd ps (spM K ps.length (fnM N.length m)) := by
  refine F.ok S (fun vs H Q E h => h.1) (fun cdv A outer s H vs Q E hr h => ?_)
  obtain ⟨hl, μ, ds, sto, hv, hs, hp⟩ := h
  refine ⟨_, hbody cdv A outer s H hr, μ, startM N.length ds, sto, RepVs.start N hv, hs, ?_⟩
  unfold fnM at hp
  cases hr : m (startM N.length ds) sto with
  | bad => rw [hr] at hp; exact hp.elim
  | err x st1 => rw [hr] at hp; exact hp.elim
  | ok o st1 =>
    rw [hr] at hp
    cases o with
    | rt d => exact hp
    | nx env => exact fun σ' H' μ' g hs' _ => hp .non H' μ' g hs' (RepV.non_iff.mpr rfl)
    | bk env => exact hp.elim
    | cn env => exact hp.elim
end
section
variable {X : Cx} {e : Expr} {es : List Expr} {mA : MA} {pos p : Pos} {x : Str} {k : Nat} {f : Addr} {fd : FuncData} {ps : List Str} {F : FD} {dvs : List V} {ds : List Value} {dd : List D}
/-- f(e, ..): the written arguments, then the defaults -/
def R.sure {α : Type} (r : R α) : R α := match r with
  | .ok a st => .ok a st
  | _ => .bad
@[simp] theorem R.sure_ok {α : Type} (a : α) (st : Stor) : (R.ok a st).sure = .ok a st := by_rfl rfl
def callF (F : FD) (dd : List D) (mA : MA) : ME := fun env st => (mA env st).bind fun as st1 => (F (as ++ dd) st1).sure
theorem je_call (G : FnOk X.prog X.w X.K X.mg X.base CX0 k f fd ps (spM X.K ps.length F)) (hr : Room k X.A) (hm : X.mg x = some (.ref f)) (hk : PySem.W.keepIn X.K (.ref f) = true) (hb : Binds X.K fd ps ds) (hd : Vals dvs ds)
    (hdd : ∀ μ H, RepVs X.K μ H dd dvs) (ha : JA X (e :: es) mA) (hlen : (e :: es).length + dvs.length = ps.length := by rfl) (hg : Gl X x := by rfl) (hdb : (x == ("__debug__" : Str)) = false := by decide) (he : starEach (e :: es) X.env = (false, eval e X.env) :: starEach es X.env := by rfl) (hpl : (backTo pos (starEach es X.env)).any (·.1) = false := by rfl)
    (hA : ∀ env st as st1, mA env st = .ok as st1 → as.length = (e :: es).length := by intros; rfl) :
    JE X (.Call (.Name x p) (e :: es) [] pos) (callF F dd mA) := by
  refine JE.of (pe_call G hr hg hm hk hb hd pass0 ha hdb he hpl) fun σ H Q ⟨μ, env, st, hE, hs, hp⟩ => ⟨μ, env, st, hE, hs, ?_⟩
  cases hr : mA env st with
  | bad => unfold callF at hp; rw [hr] at hp; exact hp
  | err y st1 => unfold callF at hp; rw [hr] at hp; exact hp
  | ok as st1 =>
    unfold callF at hp
    rw [hr] at hp
    intro vs H1 μ1 g1 hs1 hv
    have hv' : RepVs X.K μ1 H1 (as ++ dd) (vs ++ dvs) := hv.append (hdd μ1 H1)
    refine ⟨?_, μ1, as ++ dd, st1, hv', hs1, ?_⟩
    · rw [List.length_append, ← hv.length, hA env st as st1 hr]; exact hlen
    · have hp2 := Post.mono g1 (show Post X μ H (relV X) Q (F (as ++ dd) st1).sure from hp)
      cases hF : F (as ++ dd) st1 with
      | ok d st2 => rw [hF] at hp2; exact hp2
      | err y st2 => rw [hF] at hp2; exact hp2.elim
      | bad => rw [hF] at hp2; exact hp2.elim
end
end M
namespace M
open PySem PySem.Spec L2
/-! ### what a call leaves behind: garbage is forgotten -/
mutual
def under (n : Nat) : D → Prop
  | .loc k => k < n
  | .tup ds => unders n ds
  | _ => True
def unders (n : Nat) : List D → Prop
  | [] => True
  | d :: ds => under n d ∧ unders n ds
end
@[simp] theorem under_non (n : Nat) : under n .non = True := by simp [under]
@[simp] theorem under_bl (n : Nat) (b : Bool) : under n (.bl b) = True := by simp [under]
@[simp] theorem under_int (n : Nat) (i : Int) : under n (.int i) = True := by simp [under]
@[simp] theorem under_str (n : Nat) (c : List Nat) : under n (.str c) = True := by simp [under]
@[simp] theorem under_tup (n : Nat) (ds : List D) : under n (.tup ds) = unders n ds := by simp [under]
@[simp] theorem under_loc (n k : Nat) : under n (.loc k) = (k < n) := by simp [under]
@[simp] theorem unders_nil (n : Nat) : unders n [] = True := by simp [unders]
@[simp] theorem unders_cons (n : Nat) (d : D) (ds : List D) : unders n (d :: ds) = (under n d ∧ unders n ds) := by simp [unders]
def underO (n : Nat) : MO → Prop
  | .lst ds => unders n ds
  | .frz ds => unders n ds
  | .dic kvs => ∀ p ∈ kvs, under n p.2
  | .dkc kvs => ∀ p ∈ kvs, under n p.2
  | .dkf kvs => ∀ p ∈ kvs, under n p.2
  | .ins _ fs => ∀ p ∈ fs, under n p.2
  | .tab _ => True
  | .clo _ _ ds => unders n ds
  | .hid => True
mutual
theorem RepV.under {K : PySem.W.Frag} {μ : List Addr} {H : Hp} : ∀ (d : D) {v : V}, RepV K μ H d v → M.under μ.length d
  | .non, _, _ => by simp
  | .bl _, _, _ => by simp
  | .int _, _, _ => by simp
  | .str _, _, _ => by simp
  | .tup ds, _, h => by
    obtain ⟨a, xs, _, _, h2⟩ := RepV.tup_iff.mp h
    rw [under_tup]; exact RepVs.unders ds h2
  | .loc n, _, h => by
    obtain ⟨a, h1, _⟩ := RepV.loc_iff.mp h
    rw [under_loc]; exact (List.getElem?_eq_some_iff.mp h1).1
theorem RepVs.unders {K : PySem.W.Frag} {μ : List Addr} {H : Hp} : ∀ (ds : List D) {vs : List V}, RepVs K μ H ds vs → M.unders μ.length ds
  | [], _, _ => by simp
  | d :: ds, _, h => by
    rw [RepVs] at h
    obtain ⟨v, r, _, h1, h2⟩ := h
    rw [unders_cons]; exact ⟨RepV.under d h1, RepVs.unders ds h2⟩
end
mutual
theorem RepV.down {K : PySem.W.Frag} {μ ν : List Addr} {H : Hp} : ∀ (d : D) {v : V}, RepV K (μ ++ ν) H d v → M.under μ.length d → RepV K μ H d v
  | .non, _, h, _ => by simpa [RepV] using h
  | .bl _, _, h, _ => by simpa [RepV] using h
  | .int _, _, h, _ => by simpa [RepV] using h
  | .str _, _, h, _ => by simpa [RepV] using h
  | .tup ds, _, h, u => by
    obtain ⟨a, xs, e, h1, h2⟩ := RepV.tup_iff.mp h
    rw [under_tup] at u
    exact RepV.tup_iff.mpr ⟨a, xs, e, h1, RepVs.down ds h2 u⟩
  | .loc n, _, h, u => by
    obtain ⟨a, h1, e⟩ := RepV.loc_iff.mp h
    rw [under_loc] at u
    rw [List.getElem?_append_left u] at h1
    exact RepV.loc_iff.mpr ⟨a, h1, e⟩
theorem RepVs.down {K : PySem.W.Frag} {μ ν : List Addr} {H : Hp} : ∀ (ds : List D) {vs : List V}, RepVs K (μ ++ ν) H ds vs → M.unders μ.length ds → RepVs K μ H ds vs
  | [], _, h, _ => by simpa [RepVs] using h
  | d :: ds, _, h, u => by
    rw [RepVs] at h ⊢
    obtain ⟨v, r, e, h1, h2⟩ := h
    rw [unders_cons] at u
    exact ⟨v, r, e, RepV.down d h1 u.1, RepVs.down ds h2 u.2⟩
end
theorem RepKV.under {κ : Type} {K : PySem.W.Frag} {μ : List Addr} {H : Hp} : ∀ {ds : List (κ × D)} {vs : List (κ × V)}, RepKV K μ H ds vs → ∀ p ∈ ds, M.under μ.length p.2
  | [], _, _, _, hp => nomatch hp
  | (k, d) :: ds, _, ⟨v, r, e, h1, h2⟩, p, hp => by
    rcases List.mem_cons.mp hp with rfl | hp
    · exact RepV.under d h1
    · exact RepKV.under h2 p hp
theorem RepKV.down {κ : Type} {K : PySem.W.Frag} {μ ν : List Addr} {H : Hp} : ∀ {ds : List (κ × D)} {vs : List (κ × V)}, RepKV K (μ ++ ν) H ds vs → (∀ p ∈ ds, M.under μ.length p.2) → RepKV K μ H ds vs
  | [], _, h, _ => h
  | (k, d) :: ds, _, ⟨v, r, e, h1, h2⟩, u => ⟨v, r, e, RepV.down d h1 (u (k, d) (by simp)), RepKV.down h2 fun p hp => u p (List.mem_cons_of_mem _ hp)⟩
theorem RepO.under {K : PySem.W.Frag} {μ : List Addr} {H : Hp} {a : Addr} {o : MO} (h : RepO K μ H a o) : underO μ.length o := by
  cases o with
  | lst ds => obtain ⟨xs, _, h2⟩ := h; exact RepVs.unders ds h2
  | frz ds => obtain ⟨xs, _, h2⟩ := h; exact RepVs.unders ds h2
  | dic ds => obtain ⟨xs, _, h2⟩ := h; exact h2.under
  | dkc ds => obtain ⟨xs, _, h2⟩ := h; exact h2.under
  | dkf ds => obtain ⟨xs, _, _, h2⟩ := h; exact h2.under
  | ins c ds => obtain ⟨_, _, xs, _, _, h2⟩ := h; exact h2.under
  | tab x => trivial
  | clo j l ds => obtain ⟨_, _, _, _, xs, _, _, _, _, _, h2⟩ := h; exact RepVs.unders ds h2
  | hid => trivial
theorem RepO.down {K : PySem.W.Frag} {μ ν : List Addr} {H : Hp} {a : Addr} {o : MO} (h : RepO K (μ ++ ν) H a o) (u : underO μ.length o) : RepO K μ H a o := by
  cases o with
  | lst ds => obtain ⟨xs, h1, h2⟩ := h; exact ⟨xs, h1, RepVs.down ds h2 u⟩
  | frz ds => obtain ⟨xs, h1, h2⟩ := h; exact ⟨xs, h1, RepVs.down ds h2 u⟩
  | dic ds => obtain ⟨xs, h1, h2⟩ := h; exact ⟨xs, h1, h2.down u⟩
  | dkc ds => obtain ⟨xs, h1, h2⟩ := h; exact ⟨xs, h1, h2.down u⟩
  | dkf ds => obtain ⟨xs, o, h1, h2⟩ := h; exact ⟨xs, o, h1, h2.down u⟩
  | ins c ds => obtain ⟨C, dx, xs, h0, h1, h2⟩ := h; exact ⟨C, dx, xs, h0, h1, h2.down u⟩
  | tab x => exact h
  | clo j l ds => obtain ⟨cl, pm, c', ctv, vs, h1, h2, h3, h4, h5, h6⟩ := h; exact ⟨cl, pm, c', ctv, vs, h1, h2, h3, h4, h5, RepVs.down ds h6 u⟩
  | hid => trivial
theorem RepO.up {K : PySem.W.Frag} {μ : List Addr} {H : Hp} {a : Addr} {o : MO} (ν : List Addr) (h : RepO K μ H a o) : RepO K (μ ++ ν) H a o := h.keep ⟨⟨ν, rfl⟩, .refl H⟩ fun _ _ q => q
theorem take_get {α : Type} {l l' : List α} (h : l'.take l.length = l) {n : Nat} {o : α} (e : l[n]? = some o) : l'[n]? = some o := by
  have hl := (List.getElem?_eq_some_iff.mp e).1
  rw [← h, List.getElem?_take] at e
  rw [if_pos hl] at e; exact e
/-- the old part of the store again -/
theorem RepS.back {K : PySem.W.Frag} {μ ν : List Addr} {H H' : Hp} {st st' : Stor} (h0 : RepS K μ H st) (h : RepS K (μ ++ ν) H' st') (ht : st'.take st.length = st) : RepS K μ H' st := by
  refine ⟨h0.len, fun n o e => ?_, fun i j a oi oj ei ej mi mj hi hj => ?_⟩
  · obtain ⟨a, h1, h2⟩ := h.at_ n o (take_get ht e)
    obtain ⟨a0, h3, h4⟩ := h0.at_ n o e
    have hn : n < μ.length := by rw [h0.len]; exact (List.getElem?_eq_some_iff.mp e).1
    rw [List.getElem?_append_left hn] at h1
    exact ⟨a, h1, h2.down h4.under⟩
  · have up : ∀ k, μ[k]? = some a → (μ ++ ν)[k]? = some a := fun k hk => by rw [List.getElem?_append_left (List.getElem?_eq_some_iff.mp hk).1]; exact hk
    exact h.uniq i j a oi oj (take_get ht ei) (take_get ht ej) mi mj (up i hi) (up j hj)
theorem RepS.back1 {K : PySem.W.Frag} {μ ν : List Addr} {H H' : Hp} {st st' : Stor} {k : Nat} {o : MO} {a : Addr} (h0 : RepS K μ H st) (h : RepS K (μ ++ ν) H' st') (ht : st'.take st.length = st) (hk : st.length ≤ k) (e : st'[k]? = some o) (u : underO st.length o) (ha : (μ ++ ν)[k]? = some a) :
    RepS K (μ ++ [a]) H' (st ++ [o]) := by
  have hb := h0.back h ht
  obtain ⟨a', q1, q2⟩ := h.at_ k o e
  rw [ha] at q1; cases q1
  have key : ∀ (n : Nat) (on : MO) (c : Addr), (st ++ [o])[n]? = some on → (μ ++ [a])[n]? = some c → (n < st.length ∧ st[n]? = some on ∧ μ[n]? = some c) ∨ (n = st.length ∧ on = o ∧ c = a) := fun n on c e1 e2 => by
    by_cases hn : n < st.length
    · rw [List.getElem?_append_left hn] at e1
      rw [List.getElem?_append_left (by rw [h0.len]; exact hn)] at e2
      exact .inl ⟨hn, e1, e2⟩
    · have hl := (List.getElem?_eq_some_iff.mp e1).1
      rw [List.length_append, List.length_singleton] at hl
      have en : n = st.length := by omega
      subst en
      rw [List.getElem?_append_right (Nat.le_refl _)] at e1
      rw [← h0.len, List.getElem?_append_right (Nat.le_refl _)] at e2
      simp at e1 e2
      exact .inr ⟨rfl, e1.symm, e2.symm⟩
  refine ⟨by simp [h0.len], fun n on e1 => ?_, fun i j c oi oj ei ej mi mj hi hj => ?_⟩
  · have hn : n < (μ ++ [a]).length := by
      have := (List.getElem?_eq_some_iff.mp e1).1
      simpa [h0.len] using this
    obtain ⟨c, hc⟩ : ∃ c, (μ ++ [a])[n]? = some c := ⟨_, List.getElem?_eq_getElem hn⟩
    rcases key n on c e1 hc with ⟨h1, h2, h3⟩ | ⟨h1, rfl, rfl⟩
    · obtain ⟨c', h4, h5⟩ := hb.at_ n on h2
      rw [h3] at h4; cases h4
      exact ⟨c, hc, h5.up _⟩
    · exact ⟨c, hc, (q2.down (by rw [h0.len]; exact u)).up _⟩
  · have up : ∀ k, μ[k]? = some c → (μ ++ ν)[k]? = some c := fun k hk => by rw [List.getElem?_append_left (List.getElem?_eq_some_iff.mp hk).1]; exact hk
    rcases key i oi c ei hi with ⟨h1, h2, h3⟩ | ⟨h1, rfl, rfl⟩
    · rcases key j oj c ej hj with ⟨g1, g2, g3⟩ | ⟨g1, rfl, rfl⟩
      · exact hb.uniq i j c oi oj h2 g2 mi mj h3 g3
      · have := h.uniq i k c oi oj (take_get ht h2) e mi mj (up i h3) ha
        omega
    · rcases key j oj c ej hj with ⟨g1, g2, g3⟩ | ⟨g1, _, _⟩
      · have := h.uniq j k c oj oi (take_get ht g2) e mj mi (up j g3) ha
        omega
      · rw [h1, g1]
open Classical in
/-- a result without what was made on the way: plain data, or one new object at the store's end -/
noncomputable def gc (st : Stor) (r : R D) : R D := match r with
  | .ok d st' => if st'.take st.length = st ∧ under st.length d then .ok d st else (match d with
    | .loc k => (match st'[k]? with
      | some o => if st'.take st.length = st ∧ st.length ≤ k ∧ underO st.length o then .ok (.loc st.length) (st ++ [o]) else .ok d st'
      | none => .ok d st')
    | d => .ok d st')
  | r => r
noncomputable def gcF (F : FD) : FD := fun ds st => gc st (F ds st)
theorem gc_post {K : PySem.W.Frag} {μ : List Addr} {H : Hp} {Q : VK} {st : Stor} {r : R D} (hs : RepS K μ H st) (h : PostF K μ H Q (gc st r)) : PostF K μ H Q r := by
  cases r with
  | bad => exact h
  | err x st' => exact h
  | ok d st' =>
    unfold gc at h
    dsimp only at h
    by_cases c1 : st'.take st.length = st ∧ under st.length d
    · rw [if_pos c1] at h
      intro v H' μ' g hs' hv
      obtain ⟨ν, rfl⟩ := g.pre
      exact h v H' μ ⟨⟨[], by simp⟩, g.ext⟩ (hs.back hs' c1.1) (RepV.down d hv (by rw [hs.len]; exact c1.2))
    · rw [if_neg c1] at h
      cases d with
      | loc k =>
        dsimp only at h
        cases e : st'[k]? with
        | none => rw [e] at h; exact h
        | some o =>
          rw [e] at h
          dsimp only at h
          by_cases c2 : st'.take st.length = st ∧ st.length ≤ k ∧ underO st.length o
          · rw [if_pos c2] at h
            intro v H' μ' g hs' hv
            obtain ⟨ν, rfl⟩ := g.pre
            obtain ⟨a, h1, rfl⟩ := RepV.loc_iff.mp hv
            refine h _ H' (μ ++ [a]) ⟨⟨[a], rfl⟩, g.ext⟩ (hs.back1 hs' c2.1 c2.2.1 e c2.2.2 h1) (RepV.loc_iff.mpr ⟨a, ?_, rfl⟩)
            rw [← hs.len]; simp
          · rw [if_neg c2] at h; exact h
      | _ => exact h
theorem sp_gc {K : PySem.W.Frag} {n : Nat} {F : FD} {vs : List V} {H : Hp} {Q : VK} {E : XK} (h : spM K n (gcF F) vs H Q E) : spM K n F vs H Q E := by
  obtain ⟨hl, μ, ds, st, h1, h2, h3⟩ := h
  exact ⟨hl, μ, ds, st, h1, h2, gc_post h2 h3⟩
/-- .. as the simplifier wants it -/
theorem gc_flat {st : Stor} {g : List MO} {d : D} (h : under st.length d) : gc st (.ok d (st ++ g)) = .ok d st := by
  unfold gc
  dsimp only
  rw [if_pos ⟨by simp, h⟩]
theorem gc_new {st : Stor} {g g' : List MO} {o : MO} (h : underO st.length o) : gc st (.ok (.loc (st.length + g.length)) (st ++ g ++ o :: g')) = .ok (.loc st.length) (st ++ [o]) := by
  unfold gc
  dsimp only
  rw [if_neg (by simp)]
  have e : (st ++ g ++ o :: g')[st.length + g.length]? = some o := by
    rw [List.getElem?_append_right (by simp)]; simp
  rw [e]
  dsimp only
  rw [if_pos ⟨by simp, by omega, h⟩]
end M
namespace M
open PySem PySem.Spec L2
section
variable {X : Cx} {e a b c : Expr} {es : List Expr} {ma mb mc : ME} {mA : MA} {pos p2 p : Pos}
/-! ### len, int, list, tuple, min, max -/
def lenV : List D → Stor → R D
  | [.str cs], st => if cs.length ≤ 1000000 then .ok (.int cs.length) st else .bad
  | [.tup ds], st => .ok (.int ds.length) st
  | [.loc n], st => match itemsAt st n with | some ds => .ok (.int ds.length) st | none => .bad
  | _, _ => .bad
theorem call_lenV : CallR X (.builtin "len") (rMC X lenV) := by
  refine CallR.weak (CallR.or call_len_str call_len_seq) ?_
  rintro xs H Q ⟨μ, st, ds, hs, hv, hp⟩
  unfold lenV at hp
  split at hp
  · rename_i cs
    split at hp
    · rename_i hl
      obtain ⟨v, rfl, q⟩ := RepVs.one hv
      rw [RepV.str_iff] at q; subst q
      exact .inl ⟨_, rfl, by rw [strOf_len]; exact lim_ok hl, by rw [strOf_len]; exact hp.ret hs (RepV.int_iff.mpr rfl)⟩
    · exact hp.elim
  · obtain ⟨v, rfl, q⟩ := RepVs.one hv
    obtain ⟨p, ys, rfl, q1, q2⟩ := RepV.tup_iff.mp q
    exact .inr ⟨p, ys, rfl, .inr q1.sqT, by rw [← q2.length]; exact hp.ret hs (RepV.int_iff.mpr rfl)⟩
  · rename_i n
    cases e : itemsAt st n with
    | none => rw [e] at hp; exact hp.elim
    | some ds =>
      rw [e] at hp
      obtain ⟨v, rfl, q⟩ := RepVs.one hv
      obtain ⟨p, q1, rfl⟩ := RepV.loc_iff.mp q
      obtain ⟨p', ys, r1, r2, r3⟩ := hs.items e
      rw [q1] at r1; cases r1
      exact .inr ⟨p, ys, rfl, .inl r2, by rw [← r3.length]; exact hp.ret hs (RepV.int_iff.mpr rfl)⟩
  · exact hp.elim
def intC : List D → Stor → R D
  | [.int i], st => .ok (.int i) st
  | [.bl k], st => .ok (.int (if k then 1 else 0)) st
  | _, _ => .bad
theorem call_intC : CallR X (.type "int") (rMC X intC) := by
  refine CallR.weak call_int1 ?_
  rintro xs H Q ⟨μ, st, ds, hs, hv, hp⟩
  unfold intC at hp
  split at hp
  · obtain ⟨v, rfl, q⟩ := RepVs.one hv
    rw [RepV.int_iff] at q; subst q
    exact .inl ⟨_, rfl, hp.ret hs (RepV.int_iff.mpr rfl)⟩
  · obtain ⟨v, rfl, q⟩ := RepVs.one hv
    rw [RepV.bl_iff] at q; subst q
    exact .inr ⟨_, rfl, hp.ret hs (RepV.int_iff.mpr rfl)⟩
  · exact hp.elim
def min2V : List D → Stor → R D
  | [.int i, .int j], st => .ok (.int (if j < i then j else i)) st
  | _, _ => .bad
def max2V : List D → Stor → R D
  | [.int i, .int j], st => .ok (.int (if j > i then j else i)) st
  | _, _ => .bad
/-- list(x), tuple(x) of a list or a tuple -/
def listC : List D → Stor → R D
  | [.tup ds], st => .ok (.loc st.length) (st ++ [.lst ds])
  | [.loc n], st => match itemsAt st n with | some ds => .ok (.loc st.length) (st ++ [.lst ds]) | none => .bad
  | _, _ => .bad
def tupleC : List D → Stor → R D
  | [.tup ds], st => .ok (.tup ds) st
  | [.loc n], st => match itemsAt st n with | some ds => .ok (.tup ds) st | none => .bad
  | _, _ => .bad
/-! ### isinstance -/
def tyD : D → Stor → Option String
  | .non, _ => some "NoneType"
  | .bl _, _ => some "bool"
  | .int _, _ => some "int"
  | .str _, _ => some "str"
  | .tup _, _ => some "tuple"
  | .loc n, st => match st[n]? with
    | some (.lst _) => some "list"
    | some (.frz _) => some "list"
    | some (.dic _) => some "dict"
    | some (.dkc _) => some "dict"
    | _ => none
theorem isinst_D {pins : List (Addr × Obj)} {σ : L2.St} {μ : List Addr} {H : Hp} {s : Shared} {A : Around} {E : Value → Shared → Prop} {Q : Value → Shared → Prop} {cv : Value} {k : Bool} {d : D} {st : Stor} {x : V} {u : Value} {T : String}
    (I : Inv X pins σ H s) (hs : RepS X.K μ H st) (hd : RepV X.K μ H d x) (rx : RelV x u) (ht : tyD d st = some T) (e : PySem.W.kitOne X.K (.type T) cv = some k) (h : ∀ tk, Q (.bool k) { s with toks := tk }) :
    wpAny (model X.prog X.w) A (call (.builtin "isinstance") [u, cv]) Q E s := by
  cases d with
  | non => rw [RepV.non_iff] at hd; subst hd; cases ht; exact isinst_ok I rx (.non) e h
  | bl y => rw [RepV.bl_iff] at hd; subst hd; cases ht; exact isinst_ok I rx (.bl y) e h
  | int y => rw [RepV.int_iff] at hd; subst hd; cases ht; exact isinst_ok I rx (.int y) e h
  | str y => rw [RepV.str_iff] at hd; subst hd; cases ht; exact isinst_ok I rx (.str _) e h
  | tup ds =>
    obtain ⟨a, xs, rfl, q1, q2⟩ := RepV.tup_iff.mp hd
    cases ht
    obtain ⟨its, _, p, _⟩ := I.tuple (q1.sqT)
    obtain ⟨o, h1, h2, _⟩ := p
    cases (show u = Value.ref a from rx)
    exact PySem.W.kia_one PySem.W.kitx_tuple I.kIn ⟨o, h1, h2⟩ e (fun z => nomatch z) h
  | loc n =>
    obtain ⟨a, q1, rfl⟩ := RepV.loc_iff.mp hd
    simp only [tyD] at ht
    have lst : ∀ ds, itemsAt st n = some ds → PySem.W.kitOne X.K (.type "list") cv = some k → wpAny (model X.prog X.w) A (call (.builtin "isinstance") [u, cv]) Q E s := fun ds e1 e2 => by
      obtain ⟨p', ys, r1, r2, r3⟩ := hs.items e1
      rw [q1] at r1; cases r1
      obtain ⟨its, _, p, _⟩ := I.list r2
      cases (show u = Value.ref a from rx)
      exact PySem.W.kia_one PySem.W.kitx_list I.kIn p.isList.typeIs e2 (fun z => nomatch z) h
    cases e1 : st[n]? with
    | none => rw [e1] at ht; cases ht
    | some mo =>
      rw [e1] at ht
      cases mo with
      | lst ds => cases ht; exact lst ds (by unfold itemsAt; rw [e1]) e
      | frz ds => cases ht; exact lst ds (by unfold itemsAt; rw [e1]) e
      | dic kvs =>
        cases ht
        obtain ⟨p', r1, ws, r2, _⟩ := hs.at_ n _ e1
        rw [q1] at r1; cases r1
        exact isinst_ok I rx (.dT r2) e h
      | dkc kvs =>
        cases ht
        obtain ⟨p', r1, ws, r2, _⟩ := hs.at_ n _ e1
        rw [q1] at r1; cases r1
        exact isinst_ok I rx (.dK r2) e h
      | _ => cases ht
/-- what a built-in type is under -/
def subTy (t T : String) : Bool := t == T || (t == "bool" && T == "int")
def isV (T : String) : D → Stor → R D := fun d st => match tyD d st with | some t => .ok (.bl (subTy t T)) st | none => .bad
def tysD : List String := ["NoneType", "bool", "int", "str", "tuple", "list", "dict"]
theorem tyD_mem {d : D} {st : Stor} {t : String} (h : tyD d st = some t) : t ∈ tysD := by
  cases d with
  | loc n =>
    simp only [tyD] at h
    split at h <;> cases h <;> decide
  | _ => cases h; decide
def rIs (X : Cx) (T : String) : List V → Hp → VK → Prop := fun xs H Q => ∃ μ st d x, xs = [x, .ty T] ∧ RepS X.K μ H st ∧ RepV X.K μ H d x ∧ Post X μ H (relV X) Q (isV T d st)
theorem call_isV {T : String} (hT : ∀ t ∈ tysD, PySem.W.kitOne X.K (.type t) (.type T) = some (subTy t T)) : CallR X (.builtin "isinstance") (rIs X T) := by
  rintro pins s σ H xs us Q I hr ⟨μ, st, d, x, rfl, hs, hd, hp⟩
  obtain ⟨u, w', rfl, r1, r2⟩ := vals2 hr
  cases (show w' = Value.type T from r2)
  unfold isV at hp
  cases e : tyD d st with
  | none => rw [e] at hp; exact hp.elim
  | some t =>
    rw [e] at hp
    exact isinst_D I hs hd r1 e (hT t (tyD_mem e)) fun tk => ⟨.bl (subTy t T), H, I.tok tk, rfl, hp.ret hs (RepV.bl_iff.mpr rfl)⟩
theorem kit_str {K : PySem.W.Frag} : ∀ t ∈ tysD, PySem.W.kitOne K (.type t) (.type "str") = some (subTy t "str") := by
  intro t ht
  simp only [tysD, List.mem_cons, List.not_mem_nil, or_false] at ht
  rcases ht with rfl | rfl | rfl | rfl | rfl | rfl | rfl <;> rfl
/-- isinstance(e, T) -/
theorem je_isV {T : String} {xT : Str} (hT : ∀ t ∈ tysD, PySem.W.kitOne X.K (.type t) (.type T) = some (subTy t T)) (h : JE X e ma) (hg : Gl X "isinstance") (hm : X.mg "isinstance" = none) (hgT : Gl X xT) (hmT : X.mg xT = none)
    (hv : bootBuiltins xT = some (.type T)) (hb : bootBuiltins "isinstance" = some (.builtin "isinstance")) (hnT : xT ≠ "__name__" := by decide) (hdT : (xT == ("__debug__" : Str)) = false := by decide)
    (hs1 : starEach [e, .Name xT p2] X.env = [(false, eval e X.env), (false, eval (.Name xT p2) X.env)] := by rfl) (hs2 : starEach [.Name xT p2] X.env = [(false, eval (.Name xT p2) X.env)] := by rfl) (hpl : (backTo pos (starEach [.Name xT p2] X.env)).any (·.1) = false := by rfl) :
    JE X (.Call (.Name "isinstance" p) [e, .Name xT p2] [] pos) (op1 (isV T) ma) := by
  refine JE.of (pe_callB (call_isV hT) hg hm hb (pa_cons h (pa_cons (pe_bltn (v := .ty T) hgT hmT hv rfl hnT hdT) pa_nil hs2) hs1) (by decide) (by decide) hs1 hpl) fun σ H Q ⟨μ, env, st, hE, hs, hp⟩ => ⟨μ, env, st, hE, hs, (Post.bind hp).imp ?_⟩
  rintro x H1 ⟨μ1, st1, d, g1, hs1, hx, hp1⟩
  exact ⟨μ1, st1, d, x, rfl, hs1, hx, hp1⟩
end
end M
namespace M
open PySem PySem.Spec PySem.SeqAt L2
/-! ### == of data: tuples part by part -/
mutual
def eqD : D → D → Bool
  | .non, .non => true
  | .bl a, .bl b => a == b
  | .bl a, .int b => (if a then 1 else 0) == b
  | .int a, .bl b => a == (if b then 1 else 0)
  | .int a, .int b => a == b
  | .str a, .str b => a == b
  | .tup a, .tup b => eqDs a b
  | _, _ => false
def eqDs : List D → List D → Bool
  | [], [] => true
  | a :: as, b :: bs => eqD a b && eqDs as bs
  | _, _ => false
end
/-! no list within; how deep tuples lie in one another -/
mutual
def flat : D → Bool
  | .loc _ => false
  | .tup ds => flats ds
  | _ => true
def flats : List D → Bool
  | [] => true
  | d :: ds => flat d && flats ds
end
mutual
def dep : D → Nat
  | .tup ds => deps ds + 1
  | _ => 0
def deps : List D → Nat
  | [] => 0
  | d :: ds => max (dep d) (deps ds)
end
/-! how deep == goes into both -/
mutual
def cdep : D → D → Nat
  | .tup a, .tup b => cdeps a b + 1
  | _, _ => 0
def cdeps : List D → List D → Nat
  | a :: as, b :: bs => max (cdep a b) (cdeps as bs)
  | _, _ => 0
end
@[simp] theorem cdep_tup (a b : List D) : cdep (.tup a) (.tup b) = cdeps a b + 1 := by simp [cdep]
@[simp] theorem cdep_non (d : D) : cdep .non d = 0 := by simp [cdep]
@[simp] theorem cdep_bl (b : Bool) (d : D) : cdep (.bl b) d = 0 := by simp [cdep]
@[simp] theorem cdep_int (b : Int) (d : D) : cdep (.int b) d = 0 := by simp [cdep]
@[simp] theorem cdep_str (b : List Nat) (d : D) : cdep (.str b) d = 0 := by simp [cdep]
@[simp] theorem cdep_loc (b : Nat) (d : D) : cdep (.loc b) d = 0 := by simp [cdep]
@[simp] theorem cdep_non' (d : D) : cdep d .non = 0 := by cases d <;> simp [cdep]
@[simp] theorem cdep_bl' (b : Bool) (d : D) : cdep d (.bl b) = 0 := by cases d <;> simp [cdep]
@[simp] theorem cdep_int' (b : Int) (d : D) : cdep d (.int b) = 0 := by cases d <;> simp [cdep]
@[simp] theorem cdep_str' (b : List Nat) (d : D) : cdep d (.str b) = 0 := by cases d <;> simp [cdep]
@[simp] theorem cdeps_nil (bs : List D) : cdeps [] bs = 0 := by simp [cdeps]
@[simp] theorem cdeps_nil' (as : List D) : cdeps as [] = 0 := by cases as <;> simp [cdeps]
@[simp] theorem cdeps_cons (a b : D) (as bs : List D) : cdeps (a :: as) (b :: bs) = max (cdep a b) (cdeps as bs) := by simp [cdeps]
@[simp] theorem flat_bl (b : Bool) : flat (.bl b) = true := by simp [flat]
@[simp] theorem flat_int (b : Int) : flat (.int b) = true := by simp [flat]
@[simp] theorem flat_str (b : List Nat) : flat (.str b) = true := by simp [flat]
@[simp] theorem flat_tup (b : List D) : flat (.tup b) = flats b := by simp [flat]
@[simp] theorem flats_nil : flats [] = true := by simp [flats]
@[simp] theorem flats_cons (d : D) (ds : List D) : flats (d :: ds) = (flat d && flats ds) := by simp [flats]
@[simp] theorem dep_non : dep .non = 0 := by simp [dep]
@[simp] theorem dep_bl (b : Bool) : dep (.bl b) = 0 := by simp [dep]
@[simp] theorem dep_int (b : Int) : dep (.int b) = 0 := by simp [dep]
@[simp] theorem dep_str (b : List Nat) : dep (.str b) = 0 := by simp [dep]
@[simp] theorem dep_tup (b : List D) : dep (.tup b) = deps b + 1 := by simp [dep]
@[simp] theorem deps_nil : deps [] = 0 := by simp [deps]
@[simp] theorem deps_cons (d : D) (ds : List D) : deps (d :: ds) = max (dep d) (deps ds) := by simp [deps]
mutual
theorem cdep_le : ∀ (a b : D), cdep a b ≤ dep a
  | .tup a, .tup b => by rw [cdep_tup, dep_tup]; exact Nat.succ_le_succ (cdeps_le a b)
  | .tup a, .non => by simp
  | .tup a, .bl _ => by simp
  | .tup a, .int _ => by simp
  | .tup a, .str _ => by simp
  | .tup a, .loc _ => by simp [cdep]
  | .non, _ => by simp
  | .bl _, _ => by simp
  | .int _, _ => by simp
  | .str _, _ => by simp
  | .loc _, _ => by simp
theorem cdeps_le : ∀ (a b : List D), cdeps a b ≤ deps a
  | [], b => by simp
  | a :: as, [] => by simp
  | a :: as, b :: bs => by
    rw [cdeps_cons, deps_cons]
    have h1 := cdep_le a b
    have h2 := cdeps_le as bs
    omega
end
/-- the answer at a place -/
def eqJ (as bs : List D) (j : Nat) : Bool := match as[j]?, bs[j]? with | some a, some b => eqD a b | _, _ => true
theorem eqDs_all : ∀ (as bs : List D), eqDs as bs = ((List.range (min as.length bs.length)).all (eqJ as bs) && as.length == bs.length)
  | [], [] => by simp [eqDs]
  | [], b :: bs => by simp [eqDs]
  | a :: as, [] => by simp [eqDs]
  | a :: as, b :: bs => by
    rw [eqDs, eqDs_all as bs]
    have e1 : min (a :: as).length (b :: bs).length = min as.length bs.length + 1 := by simp
    rw [e1, List.range_succ_eq_map, List.all_cons, List.all_map]
    have e2 : ((a :: as).length == (b :: bs).length) = (as.length == bs.length) := by
      rw [Bool.eq_iff_iff]; simp
    rw [e2]
    have e3 : eqJ (a :: as) (b :: bs) 0 = eqD a b := rfl
    rw [e3, Bool.and_assoc]
    rfl
mutual
theorem eqD_refl : ∀ (d : D), flat d = true → eqD d d = true
  | .non, _ => by simp [eqD]
  | .bl _, _ => by simp [eqD]
  | .int _, _ => by simp [eqD]
  | .str _, _ => by simp [eqD]
  | .tup ds, h => by rw [eqD]; exact eqDs_refl ds (by simpa using h)
  | .loc _, h => by simp [flat] at h
theorem eqDs_refl : ∀ (ds : List D), flats ds = true → eqDs ds ds = true
  | [], _ => by simp [eqDs]
  | d :: ds, h => by
    rw [flats_cons, Bool.and_eq_true] at h
    rw [eqDs, eqD_refl d h.1, eqDs_refl ds h.2]; rfl
end
section
variable {X : Cx} {pins : List (Addr × Obj)} {σ : L2.St} {μ : List Addr} {H : Hp} {s : Shared}
mutual
theorem rep_same (I : Inv X pins σ H s) : ∀ (d1 d2 : D) {v : V}, flat d1 = true → flat d2 = true → RepV X.K μ H d1 v → RepV X.K μ H d2 v → d1 = d2
  | .non, d2, _, _, f2, h1, h2 => by
    rw [RepV.non_iff] at h1; subst h1
    cases d2 with
    | non => rfl
    | bl _ => rw [RepV.bl_iff] at h2; cases h2
    | int _ => rw [RepV.int_iff] at h2; cases h2
    | str _ => rw [RepV.str_iff] at h2; cases h2
    | tup _ => obtain ⟨_, _, q, _⟩ := RepV.tup_iff.mp h2; cases q
    | loc _ => simp [flat] at f2
  | .bl b, d2, _, _, f2, h1, h2 => by
    rw [RepV.bl_iff] at h1; subst h1
    cases d2 with
    | bl _ => rw [RepV.bl_iff] at h2; cases h2; rfl
    | non => rw [RepV.non_iff] at h2; cases h2
    | int _ => rw [RepV.int_iff] at h2; cases h2
    | str _ => rw [RepV.str_iff] at h2; cases h2
    | tup _ => obtain ⟨_, _, q, _⟩ := RepV.tup_iff.mp h2; cases q
    | loc _ => simp [flat] at f2
  | .int b, d2, _, _, f2, h1, h2 => by
    rw [RepV.int_iff] at h1; subst h1
    cases d2 with
    | int _ => rw [RepV.int_iff] at h2; cases h2; rfl
    | non => rw [RepV.non_iff] at h2; cases h2
    | bl _ => rw [RepV.bl_iff] at h2; cases h2
    | str _ => rw [RepV.str_iff] at h2; cases h2
    | tup _ => obtain ⟨_, _, q, _⟩ := RepV.tup_iff.mp h2; cases q
    | loc _ => simp [flat] at f2
  | .str b, d2, _, _, f2, h1, h2 => by
    rw [RepV.str_iff] at h1; subst h1
    cases d2 with
    | str _ => rw [RepV.str_iff] at h2; injection h2 with h3; rw [strOf_inj.mp h3]
    | non => rw [RepV.non_iff] at h2; cases h2
    | bl _ => rw [RepV.bl_iff] at h2; cases h2
    | int _ => rw [RepV.int_iff] at h2; cases h2
    | tup _ => obtain ⟨_, _, q, _⟩ := RepV.tup_iff.mp h2; cases q
    | loc _ => simp [flat] at f2
  | .tup as, d2, _, f1, f2, h1, h2 => by
    obtain ⟨a, xs, rfl, q1, q2⟩ := RepV.tup_iff.mp h1
    cases d2 with
    | tup bs =>
      obtain ⟨b, ys, e, r1, r2⟩ := RepV.tup_iff.mp h2
      cases e
      rw [I.tuple_inj (r1.sqT) (q1.sqT)] at r2
      rw [reps_same I as bs (by simpa using f1) (by simpa using f2) q2 r2]
    | non => rw [RepV.non_iff] at h2; cases h2
    | bl _ => rw [RepV.bl_iff] at h2; cases h2
    | int _ => rw [RepV.int_iff] at h2; cases h2
    | str _ => rw [RepV.str_iff] at h2; cases h2
    | loc _ => simp [flat] at f2
  | .loc _, _, _, f1, _, _, _ => by simp [flat] at f1
theorem reps_same (I : Inv X pins σ H s) : ∀ (as bs : List D) {vs : List V}, flats as = true → flats bs = true → RepVs X.K μ H as vs → RepVs X.K μ H bs vs → as = bs
  | [], bs, _, _, _, h1, h2 => by
    rw [RepVs] at h1; subst h1
    cases bs with
    | nil => rfl
    | cons _ _ => rw [RepVs] at h2; obtain ⟨_, _, q, _⟩ := h2; cases q
  | a :: as, bs, _, f1, f2, h1, h2 => by
    rw [RepVs] at h1
    obtain ⟨v, r, rfl, q1, q2⟩ := h1
    cases bs with
    | nil => rw [RepVs] at h2; cases h2
    | cons b bs =>
      rw [RepVs] at h2
      obtain ⟨v', r', e, r1, r2⟩ := h2
      cases e
      rw [flats_cons, Bool.and_eq_true] at f1 f2
      rw [rep_same I a b f1.1 f2.1 q1 r1, reps_same I as bs f1.2 f2.2 q2 r2]
end
/-! the two readings at once: the items' answer, and == itself -/
mutual
theorem eq_at (I : Inv X pins σ H s) : ∀ (d1 d2 : D) {A : Around} {x y : V} {u w : Value}, flat d1 = true → flat d2 = true → A.units + cdep d1 d2 < cLine → RepV X.K μ H d1 x → RepV X.K μ H d2 y → RelV x u → RelV y w →
    EqAt A s u w (eqD d1 d2) ∧ RcAt A s u w (eqD d1 d2) ∧ RcNeAt A s u w (!eqD d1 d2)
  | d1, d2, A, x, y, u, w, f1, f2, hu, h1, h2, r1, r2 => by
    cases d1 with
    | loc _ => simp [flat] at f1
    | non =>
      rw [RepV.non_iff] at h1; subst h1
      cases (show u = Value.none from r1)
      cases d2 with
      | loc _ => simp [flat] at f2
      | non => rw [RepV.non_iff] at h2; subst h2; cases (show w = Value.none from r2); exact ⟨EqAt.same _, RcAt.none_none, RcNeAt.none_none⟩
      | bl b => rw [RepV.bl_iff] at h2; subst h2; cases (show w = Value.bool b from r2); exact ⟨EqAt.none_bool b, RcAt.none_bool b, RcNeAt.none_bool b⟩
      | int b => rw [RepV.int_iff] at h2; subst h2; obtain ⟨t, rfl⟩ := r2; exact ⟨EqAt.none_int b t, RcAt.none_int b t, RcNeAt.none_int b t⟩
      | str b => rw [RepV.str_iff] at h2; subst h2; obtain ⟨t, rfl⟩ := r2; exact ⟨EqAt.none_str _ t, RcAt.none_str _ t, RcNeAt.none_str _ t⟩
      | tup bs =>
        obtain ⟨b, ys, rfl, q1, q2⟩ := RepV.tup_iff.mp h2
        cases (show w = Value.ref b from r2)
        obtain ⟨its, _, p, _⟩ := I.tuple (q1.sqT)
        exact ⟨EqAt.none_tuple p (by omega), RcAt.none_tuple p (by omega), RcNeAt.none_tuple p (by omega)⟩
    | bl a =>
      rw [RepV.bl_iff] at h1; subst h1
      cases (show u = Value.bool a from r1)
      cases d2 with
      | loc _ => simp [flat] at f2
      | non => rw [RepV.non_iff] at h2; subst h2; cases (show w = Value.none from r2); exact ⟨EqAt.bool_none a, RcAt.bool_none a, RcNeAt.bool_none a⟩
      | bl b => rw [RepV.bl_iff] at h2; subst h2; cases (show w = Value.bool b from r2); simp only [eqD]; exact ⟨EqAt.bool_bool a b, RcAt.bool_bool a b, RcNeAt.bool_bool a b⟩
      | int b => rw [RepV.int_iff] at h2; subst h2; obtain ⟨t, rfl⟩ := r2; simp only [eqD]; exact ⟨EqAt.bool_int a b t, RcAt.bool_int a b t, RcNeAt.bool_int a b t⟩
      | str b => rw [RepV.str_iff] at h2; subst h2; obtain ⟨t, rfl⟩ := r2; exact ⟨EqAt.bool_str a _ t, RcAt.bool_str a _ t, RcNeAt.bool_str a _ t⟩
      | tup bs =>
        obtain ⟨b, ys, rfl, q1, q2⟩ := RepV.tup_iff.mp h2
        cases (show w = Value.ref b from r2)
        obtain ⟨its, _, p, _⟩ := I.tuple (q1.sqT)
        exact ⟨EqAt.bool_tuple a p (by omega), RcAt.bool_tuple a p (by omega), RcNeAt.bool_tuple a p (by omega)⟩
    | int a =>
      rw [RepV.int_iff] at h1; subst h1
      obtain ⟨ta, rfl⟩ := r1
      cases d2 with
      | loc _ => simp [flat] at f2
      | non => rw [RepV.non_iff] at h2; subst h2; cases (show w = Value.none from r2); exact ⟨EqAt.int_none a ta, RcAt.int_none a ta, RcNeAt.int_none a ta⟩
      | bl b => rw [RepV.bl_iff] at h2; subst h2; cases (show w = Value.bool b from r2); simp only [eqD]; exact ⟨EqAt.int_bool a ta b, RcAt.int_bool a ta b, RcNeAt.int_bool a ta b⟩
      | int b => rw [RepV.int_iff] at h2; subst h2; obtain ⟨t, rfl⟩ := r2; simp only [eqD]; exact ⟨EqAt.int_int a ta b t, RcAt.int_int a ta b t, RcNeAt.int_int a ta b t⟩
      | str b => rw [RepV.str_iff] at h2; subst h2; obtain ⟨t, rfl⟩ := r2; exact ⟨EqAt.int_str a ta _ t, RcAt.int_str a ta _ t, RcNeAt.int_str a ta _ t⟩
      | tup bs =>
        obtain ⟨b, ys, rfl, q1, q2⟩ := RepV.tup_iff.mp h2
        cases (show w = Value.ref b from r2)
        obtain ⟨its, _, p, _⟩ := I.tuple (q1.sqT)
        exact ⟨EqAt.int_tuple a ta p (by omega), RcAt.int_tuple a ta p (by omega), RcNeAt.int_tuple a ta p (by omega)⟩
    | str a =>
      rw [RepV.str_iff] at h1; subst h1
      obtain ⟨ta, rfl⟩ := r1
      cases d2 with
      | loc _ => simp [flat] at f2
      | non => rw [RepV.non_iff] at h2; subst h2; cases (show w = Value.none from r2); exact ⟨EqAt.str_none _ ta, RcAt.str_none _ ta, RcNeAt.str_none _ ta⟩
      | bl b => rw [RepV.bl_iff] at h2; subst h2; cases (show w = Value.bool b from r2); exact ⟨EqAt.str_bool _ ta b, RcAt.str_bool _ ta b, RcNeAt.str_bool _ ta b⟩
      | int b => rw [RepV.int_iff] at h2; subst h2; obtain ⟨t, rfl⟩ := r2; exact ⟨EqAt.str_int _ ta b t, RcAt.str_int _ ta b t, RcNeAt.str_int _ ta b t⟩
      | str b =>
        rw [RepV.str_iff] at h2; subst h2; obtain ⟨t, rfl⟩ := r2
        have e : (strOf a == strOf b) = eqD (.str a) (.str b) := by
          rw [eqD, Bool.eq_iff_iff, beq_iff_eq, beq_iff_eq]; exact strOf_inj
        rw [← e]
        exact ⟨EqAt.str_str _ ta _ t, RcAt.str_str _ ta _ t, RcNeAt.str_str _ ta _ t⟩
      | tup bs =>
        obtain ⟨b, ys, rfl, q1, q2⟩ := RepV.tup_iff.mp h2
        cases (show w = Value.ref b from r2)
        obtain ⟨its, _, p, _⟩ := I.tuple (q1.sqT)
        exact ⟨EqAt.str_tuple _ ta p (by omega), RcAt.str_tuple _ ta p (by omega), RcNeAt.str_tuple _ ta p (by omega)⟩
    | tup as =>
      have h1' := h1
      have h2' := h2
      obtain ⟨a, xs, rfl, q1, q2⟩ := RepV.tup_iff.mp h1
      cases (show u = Value.ref a from r1)
      obtain ⟨its, ra, p, _⟩ := I.tuple (q1.sqT)
      cases d2 with
      | loc _ => simp [flat] at f2
      | non => rw [RepV.non_iff] at h2; subst h2; cases (show w = Value.none from r2); exact ⟨EqAt.tuple_none p (by omega), RcAt.tuple_none p (by omega), RcNeAt.tuple_none p (by omega)⟩
      | bl b => rw [RepV.bl_iff] at h2; subst h2; cases (show w = Value.bool b from r2); exact ⟨EqAt.tuple_bool b p (by omega), RcAt.tuple_bool b p (by omega), RcNeAt.tuple_bool b p (by omega)⟩
      | int b => rw [RepV.int_iff] at h2; subst h2; obtain ⟨t, rfl⟩ := r2; exact ⟨EqAt.tuple_int b t p (by omega), RcAt.tuple_int b t p (by omega), RcNeAt.tuple_int b t p (by omega)⟩
      | str b => rw [RepV.str_iff] at h2; subst h2; obtain ⟨t, rfl⟩ := r2; exact ⟨EqAt.tuple_str _ t p (by omega), RcAt.tuple_str _ t p (by omega), RcNeAt.tuple_str _ t p (by omega)⟩
      | tup bs =>
        obtain ⟨b, ys, rfl, g1, g2⟩ := RepV.tup_iff.mp h2
        cases (show w = Value.ref b from r2)
        obtain ⟨its2, rb, p2, _⟩ := I.tuple (g1.sqT)
        rw [cdep_tup] at hu
        rw [flat_tup] at f1 f2
        have items := eqs_at I as bs (A := A.in1) f1 f2 (by show A.units + 1 + cdeps as bs < cLine; omega) q2 g2 ra rb
        have la : as.length = its.toArray.size := by rw [List.size_toArray, q2.length, ra.length]
        have lb : bs.length = its2.toArray.size := by rw [List.size_toArray, g2.length, rb.length]
        have e : ((List.range (min its.toArray.size its2.toArray.size)).all (eqJ as bs) && its.toArray.size == its2.toArray.size) = eqD (.tup as) (.tup bs) := by
          rw [eqD, eqDs_all, la, lb]
        have rc : RcAt A s (.ref a) (.ref b) (eqD (.tup as) (.tup bs)) := by
          rw [← e]
          exact RcAt.tuples p p2 (by omega) fun j j1 j2 => items j (by simpa using j1) (by simpa using j2)
        have ne : RcNeAt A s (.ref a) (.ref b) (!eqD (.tup as) (.tup bs)) := by
          rw [← e]
          exact RcNeAt.tuples p p2 (by omega) fun j j1 j2 => items j (by simpa using j1) (by simpa using j2)
        refine ⟨?_, rc, ne⟩
        by_cases hab : a = b
        · subst hab
          have : (D.tup as) = .tup bs := rep_same I _ _ (by simpa using f1) (by simpa using f2) h1' h2'
          rw [← this, eqD_refl _ (by simpa using f1)]
          exact EqAt.same _
        · exact EqAt.of_refs hab rc
theorem eqs_at (I : Inv X pins σ H s) : ∀ (as bs : List D) {A : Around} {xs ys : List V} {us ws : List Value}, flats as = true → flats bs = true → A.units + cdeps as bs < cLine → RepVs X.K μ H as xs → RepVs X.K μ H bs ys → Vals xs us → Vals ys ws →
    ∀ (j : Nat) (h1 : j < us.length) (h2 : j < ws.length), EqAt A s us[j] ws[j] (eqJ as bs j)
  | [], bs, A, xs, ys, us, ws, _, _, _, h1, _, r1, _, j, j1, _ => by
    rw [RepVs] at h1; subst h1; cases r1; simp at j1
  | a :: as, [], A, xs, ys, us, ws, _, _, _, _, h2, _, r2, j, _, j2 => by
    rw [RepVs] at h2; subst h2; cases r2; simp at j2
  | a :: as, b :: bs, A, xs, ys, us, ws, f1, f2, hu, h1, h2, r1, r2, j, j1, j2 => by
    rw [RepVs] at h1 h2
    obtain ⟨v, r, rfl, q1, q2⟩ := h1
    obtain ⟨v', r', rfl, g1, g2⟩ := h2
    cases r1 with
    | cons r1 t1 =>
    cases r2 with
    | cons r2 t2 =>
    rw [flats_cons, Bool.and_eq_true] at f1 f2
    rw [cdeps_cons] at hu
    cases j with
    | zero => exact (eq_at I a b f1.1 f2.1 (by omega) q1 g1 r1 r2).1
    | succ j => exact eqs_at I as bs f1.2 f2.2 (by omega) q2 g2 t1 t2 j (by simpa using j1) (by simpa using j2)
end
end
end M
namespace M
open PySem PySem.Spec PySem.SeqAt L2
/-- == by the store; L: how deep tuples may lie -/
def eqR (L : Nat) : D → D → Stor → Option Bool
  | .loc m, .loc n, st => match itemsAt st m, itemsAt st n with
    | some a, some b => if flats a = true ∧ flats b = true ∧ cdeps a b + 1 < L then some (eqDs a b) else none
    | _, _ => none
  | .loc m, .non, st => (itemsAt st m).map fun _ => false
  | .loc m, .tup b, st => if 0 < L then (itemsAt st m).map fun _ => false else none
  | .non, .loc n, st => (itemsAt st n).map fun _ => false
  | .tup a, .loc n, st => if 0 < L then (itemsAt st n).map fun _ => false else none
  | d1, d2, _ => if flat d1 = true ∧ flat d2 = true ∧ cdep d1 d2 < L then some (eqD d1 d2) else none
section
variable {X : Cx} {pins : List (Addr × Obj)} {σ : L2.St} {μ : List Addr} {H : Hp} {s : Shared} {L : Nat}
theorem eqs_lists {as bs : List D} {A : Around} {xs ys : List V} {a b : Addr} (I : Inv X pins σ H s) (f1 : flats as = true) (f2 : flats bs = true) (hu : A.units + 1 + cdeps as bs < cLine) (h1 : RepVs X.K μ H as xs) (h2 : RepVs X.K μ H bs ys)
    (q1 : SqL X.K H a xs) (q2 : SqL X.K H b ys) : RcAt A s (.ref a) (.ref b) (eqDs as bs) ∧ RcNeAt A s (.ref a) (.ref b) (!eqDs as bs) := by
  obtain ⟨its, ra, p, _⟩ := I.list q1
  obtain ⟨its2, rb, p2, _⟩ := I.list q2
  have la : as.length = its.toArray.size := by rw [List.size_toArray, h1.length, ra.length]
  have lb : bs.length = its2.toArray.size := by rw [List.size_toArray, h2.length, rb.length]
  by_cases hl : its.toArray.size = its2.toArray.size
  · have items := eqs_at I as bs (A := A.in1) f1 f2 hu h1 h2 ra rb
    have e : ((List.range its.toArray.size).all (eqJ as bs)) = eqDs as bs := by
      rw [eqDs_all, la, lb, ← hl, Nat.min_self]; simp
    rw [← e]
    exact ⟨RcAt.lists p.isList p2.isList hl (by omega) fun j j1 j2 => items j (by simpa using j1) (by simpa using j2), RcNeAt.lists p.isList p2.isList hl (by omega) fun j j1 j2 => items j (by simpa using j1) (by simpa using j2)⟩
  · have e : eqDs as bs = false := by
      rw [eqDs_all, la, lb, Bool.and_eq_false_iff]
      exact .inr (by simpa using hl)
    have hl' : (its.toArray.size != its2.toArray.size) = true := by simpa using hl
    rw [e]
    exact ⟨RcAt.lists_lengths p.isList p2.isList hl' (by omega), RcNeAt.lists_lengths p.isList p2.isList hl' (by omega)⟩
theorem eqR_at {d1 d2 : D} {st : Stor} {k : Bool} {A : Around} {x y : V} {u w : Value} (I : Inv X pins σ H s) (hs : RepS X.K μ H st) (e : eqR L d1 d2 st = some k) (hu : A.units + L < cLine) (h1 : RepV X.K μ H d1 x) (h2 : RepV X.K μ H d2 y) (r1 : RelV x u) (r2 : RelV y w) :
    RcAt A s u w k ∧ RcNeAt A s u w (!k) := by
  have plain : ∀ {d1 d2 : D}, RepV X.K μ H d1 x → RepV X.K μ H d2 y → (if flat d1 = true ∧ flat d2 = true ∧ cdep d1 d2 < L then some (eqD d1 d2) else none) = some k → RcAt A s u w k ∧ RcNeAt A s u w (!k) := fun {d1 d2} h1 h2 e => by
    split at e
    · rename_i c
      cases e
      exact (eq_at I d1 d2 c.1 c.2.1 (by omega) h1 h2 r1 r2).2
    · cases e
  have list : ∀ {n : Nat} {v : V} {z : Value} {ds : List D}, RepV X.K μ H (.loc n) v → RelV v z → itemsAt st n = some ds → ∃ p its, z = .ref p ∧ s.heap.IsList p its := fun {n v z ds} h r q => by
    obtain ⟨p, q1, rfl⟩ := RepV.loc_iff.mp h
    obtain ⟨p', xs, g1, g2, g3⟩ := hs.items q
    rw [q1] at g1; cases g1
    cases (show z = Value.ref p from r)
    obtain ⟨its, _, pl, _⟩ := I.list g2
    exact ⟨p, _, rfl, pl.isList⟩
  have tuple : ∀ {bs : List D} {v : V} {z : Value}, RepV X.K μ H (.tup bs) v → RelV v z → ∃ p its, z = .ref p ∧ s.heap.IsTuple p its := fun {bs v z} h r => by
    obtain ⟨p, xs, rfl, q1, _⟩ := RepV.tup_iff.mp h
    cases (show z = Value.ref p from r)
    obtain ⟨its, _, pl, _⟩ := I.tuple (q1.sqT)
    exact ⟨p, _, rfl, pl⟩
  match d1, d2, e, h1, h2 with
  | .loc m, .loc n, e, h1, h2 =>
    simp only [eqR] at e
    cases e1 : itemsAt st m with
    | none => rw [e1] at e; cases e
    | some as =>
      cases e2 : itemsAt st n with
      | none => rw [e1, e2] at e; cases e
      | some bs =>
        rw [e1, e2] at e
        dsimp only at e
        split at e
        · rename_i c
          cases e
          obtain ⟨p, q1, rfl⟩ := RepV.loc_iff.mp h1
          obtain ⟨p', xs, g1, g2, g3⟩ := hs.items e1
          rw [q1] at g1; cases g1
          obtain ⟨q, q2, rfl⟩ := RepV.loc_iff.mp h2
          obtain ⟨q', ys, k1, k2, k3⟩ := hs.items e2
          rw [q2] at k1; cases k1
          cases (show u = Value.ref p from r1)
          cases (show w = Value.ref q from r2)
          exact eqs_lists I c.1 c.2.1 (by omega) g3 k3 g2 k2
        · cases e
  | .loc m, .non, e, h1, h2 =>
    simp only [eqR] at e
    cases e1 : itemsAt st m with
    | none => rw [e1] at e; cases e
    | some as =>
      rw [e1] at e; cases e
      obtain ⟨p, its, rfl, pl⟩ := list h1 r1 e1
      rw [RepV.non_iff] at h2; subst h2; cases (show w = Value.none from r2)
      exact ⟨RcAt.list_none pl (by omega), RcNeAt.list_none pl (by omega)⟩
  | .non, .loc n, e, h1, h2 =>
    simp only [eqR] at e
    cases e1 : itemsAt st n with
    | none => rw [e1] at e; cases e
    | some as =>
      rw [e1] at e; cases e
      obtain ⟨p, its, rfl, pl⟩ := list h2 r2 e1
      rw [RepV.non_iff] at h1; subst h1; cases (show u = Value.none from r1)
      exact ⟨RcAt.none_list pl (by omega), RcNeAt.none_list pl (by omega)⟩
  | .loc m, .tup bs, e, h1, h2 =>
    simp only [eqR] at e
    split at e
    · cases e1 : itemsAt st m with
      | none => rw [e1] at e; cases e
      | some as =>
        rw [e1] at e; cases e
        obtain ⟨p, its, rfl, pl⟩ := list h1 r1 e1
        obtain ⟨q, its2, rfl, pt⟩ := tuple h2 r2
        exact ⟨RcAt.list_tuple pl pt (by omega), RcNeAt.list_tuple pl pt (by omega)⟩
    · cases e
  | .tup as, .loc n, e, h1, h2 =>
    simp only [eqR] at e
    split at e
    · cases e1 : itemsAt st n with
      | none => rw [e1] at e; cases e
      | some as =>
        rw [e1] at e; cases e
        obtain ⟨p, its, rfl, pl⟩ := list h2 r2 e1
        obtain ⟨q, its2, rfl, pt⟩ := tuple h1 r1
        exact ⟨RcAt.tuple_list pt pl (by omega), RcNeAt.tuple_list pt pl (by omega)⟩
    · cases e
  | .non, .non, e, h1, h2 => exact plain h1 h2 (by simpa only [eqR] using e)
  | .non, .bl _, e, h1, h2 => exact plain h1 h2 (by simpa only [eqR] using e)
  | .non, .int _, e, h1, h2 => exact plain h1 h2 (by simpa only [eqR] using e)
  | .non, .str _, e, h1, h2 => exact plain h1 h2 (by simpa only [eqR] using e)
  | .non, .tup _, e, h1, h2 => exact plain h1 h2 (by simpa only [eqR] using e)
  | .bl _, d2, e, h1, h2 => exact plain h1 h2 (by simpa only [eqR] using e)
  | .int _, d2, e, h1, h2 => exact plain h1 h2 (by simpa only [eqR] using e)
  | .str _, d2, e, h1, h2 => exact plain h1 h2 (by simpa only [eqR] using e)
  | .tup _, .non, e, h1, h2 => exact plain h1 h2 (by simpa only [eqR] using e)
  | .tup _, .bl _, e, h1, h2 => exact plain h1 h2 (by simpa only [eqR] using e)
  | .tup _, .int _, e, h1, h2 => exact plain h1 h2 (by simpa only [eqR] using e)
  | .tup _, .str _, e, h1, h2 => exact plain h1 h2 (by simpa only [eqR] using e)
  | .tup _, .tup _, e, h1, h2 => exact plain h1 h2 (by simpa only [eqR] using e)
  | .loc _, .bl _, e, h1, h2 => simp [eqR, flat] at e
  | .loc _, .int _, e, h1, h2 => simp [eqR, flat] at e
  | .loc _, .str _, e, h1, h2 => simp [eqR, flat] at e
def eqV (L : Nat) : D → D → Stor → R D := fun d1 d2 st => match eqR L d1 d2 st with | some k => .ok (.bl k) st | none => .bad
def neV (L : Nat) : D → D → Stor → R D := fun d1 d2 st => match eqR L d1 d2 st with | some k => .ok (.bl (!k)) st | none => .bad
theorem op_eqV (hu : X.A.units + L < cLine) : OpR X (compareOp .Eq) (rM X (eqV L)) := by
  rintro pins s σ H x y v u Q I rx ry ⟨μ, st, dx, dy, hs, hx, hy, hp⟩
  unfold eqV at hp
  cases e : eqR L dx dy st with
  | none => rw [e] at hp; exact hp.elim
  | some k =>
    rw [e] at hp
    exact (eqR_at I hs e hu hx hy rx ry).1 X.prog X.w X.xe _ ⟨.bl k, H, I, rfl, hp.ret hs (RepV.bl_iff.mpr rfl)⟩
theorem op_neV (hu : X.A.units + L < cLine) : OpR X (compareOp .NotEq) (rM X (neV L)) := by
  rintro pins s σ H x y v u Q I rx ry ⟨μ, st, dx, dy, hs, hx, hy, hp⟩
  unfold neV at hp
  cases e : eqR L dx dy st with
  | none => rw [e] at hp; exact hp.elim
  | some k =>
    rw [e] at hp
    exact (eqR_at I hs e hu hx hy rx ry).2 X.prog X.w X.xe _ ⟨.bl (!k), H, I, rfl, hp.ret hs (RepV.bl_iff.mpr rfl)⟩
end
end M
namespace M
open PySem PySem.Spec L2
/-! ### methods of lists and texts -/
def isTy (T : String) (d : D) (st : Stor) : Bool := match d with
  | .str _ => T == "str"
  | .loc n => (match st[n]? with
    | some (.lst _) => T == "list"
    | some (.frz _) => T == "list"
    | some (.dic _) => T == "dict"
    | some (.dkc _) => T == "dict"
    | _ => false)
  | _ => false
section
variable {X : Cx} {e a b c o : Expr} {es : List Expr} {ma mb mc mo : ME} {mA : MA} {pos p2 p apos cpos : Pos} {T id : String} {name : Str} {g : D → List D → Stor → R D}
theorem isTy_ok {μ : List Addr} {H : Hp} {d : D} {st : Stor} {v : V} (h : isTy T d st = true) (hs : RepS X.K μ H st) (hv : RepV X.K μ H d v) : tyV X.K T v H := by
  cases d with
  | str cs => rw [RepV.str_iff] at hv; subst hv; exact eq_of_beq h
  | loc n =>
    obtain ⟨p, q1, rfl⟩ := RepV.loc_iff.mp hv
    simp only [isTy] at h
    cases e : st[n]? with
    | none => rw [e] at h; cases h
    | some o =>
      rw [e] at h
      obtain ⟨p', r1, r2⟩ := hs.at_ n o e
      rw [q1] at r1; cases r1
      cases o with
      | lst ds => obtain ⟨xs, r3, _⟩ := r2; exact .inl ⟨eq_of_beq h, xs, SqL.of r3⟩
      | frz ds => obtain ⟨xs, r3, _⟩ := r2; exact .inl ⟨eq_of_beq h, xs, r3.sqL⟩
      | dic ds => obtain ⟨xs, r3, _⟩ := r2; exact .inr (.inr (.inl ⟨eq_of_beq h, .inr ⟨xs, r3⟩⟩))
      | dkc ds => obtain ⟨xs, r3, _⟩ := r2; exact .inr (.inr (.inl ⟨eq_of_beq h, .inl ⟨xs, r3⟩⟩))
      | _ => cases h
  | _ => simp [isTy] at h
def methE (T : String) (g : D → List D → Stor → R D) (mo : ME) (mA : MA) : ME := fun env st => (mo env st).bind fun x st1 => if isTy T x st1 = true then (mA env st1).bind fun xs st2 => g x xs st2 else .bad
def meth0E (T : String) (g : D → List D → Stor → R D) (mo : ME) : ME := fun env st => (mo env st).bind fun x st1 => if isTy T x st1 = true then g x [] st1 else .bad
theorem je_meth (pa : PlainAttrs T) (slot : Slot T name id) (hty : typeOf (.builtin id) = pure (.type "method_descriptor")) (hm : MtR X id (rMM X g)) (ho : JE X o mo) (ha : JA X (e :: es) mA)
    (hbase : attributeBase o name X.env (eval o X.env) = eval o X.env := by rfl)
    (hfew : ((backTo cpos (starEach (e :: es) X.env)).all (fun x => !x.1) && (backToKw cpos (keywordEach [] X.env)).all (fun x => x.1.isSome)
      && decide ((e :: es).length + ([] : List Keyword).length + (if ([] : List Keyword).isEmpty then 0 else 1) < 30)) = true := by rfl)
    (hline : (apos.endLine == cpos.line) = true := by rfl) (hs : starEach (e :: es) X.env = (false, eval e X.env) :: starEach es X.env := by rfl) (hplain : (backTo cpos (starEach es X.env)).any (·.1) = false := by rfl) : JE X (.Call (.Attribute o name apos) (e :: es) [] cpos) (methE T g mo mA) := by
  refine JE.of (pe_bm pa slot hty hm ho ha hbase hfew hline hs hplain) fun σ H Q ⟨μ, env, st, hE, hs, hp⟩ => ⟨μ, env, st, hE, hs, (Post.bind hp).imp ?_⟩
  rintro x H1 ⟨μ1, st1, d, g1, hs1, hx, hp1⟩
  dsimp only at hp1
  split at hp1
  · rename_i hT
    refine ⟨isTy_ok hT hs1 hx, μ1, env, st1, hE.mono g1, hs1, (Post.bind hp1).imp ?_⟩
    rintro xs H2 ⟨μ2, st2, ds, g2, hs2, hxs, hp2⟩
    exact ⟨μ2, st2, d, ds, hs2, hx.mono g2 _, hxs, hp2⟩
  · exact hp1.elim
theorem je_meth0 (pa : PlainAttrs T) (slot : Slot T name id) (hty : typeOf (.builtin id) = pure (.type "method_descriptor")) (hm : MtR X id (rMM X g)) (ho : JE X o mo)
    (hbase : attributeBase o name X.env (eval o X.env) = eval o X.env := by rfl) (hline : (apos.endLine == cpos.line) = true := by rfl) : JE X (.Call (.Attribute o name apos) [] [] cpos) (meth0E T g mo) := by
  refine JE.of (pe_bm0 pa slot hty hm ho hbase hline) fun σ H Q ⟨μ, env, st, hE, hs, hp⟩ => ⟨μ, env, st, hE, hs, (Post.bind hp).imp ?_⟩
  rintro x H1 ⟨μ1, st1, d, g1, hs1, hx, hp1⟩
  dsimp only at hp1
  split at hp1
  · rename_i hT
    exact ⟨isTy_ok hT hs1 hx, μ1, st1, d, [], hs1, hx, RepVs.nil, hp1⟩
  · exact hp1.elim
/-! lists -/
def appendV : D → List D → Stor → R D
  | .loc n, [d], st => match st[n]? with
    | some (.lst ds) => if ds.length < 1000000 then .ok .non (st.set n (.lst (ds ++ [d]))) else .bad
    | _ => .bad
  | _, _, _ => .bad
/-- a method that rewrites a list and hands back None -/
theorem wr_lst {μ : List Addr} {H : Hp} {st : Stor} {n : Nat} {ds ds' : List D} {p : Addr} {xs ys : List V} {Q : VK} (hp : Post X μ H (relV X) Q (.ok .non (st.set n (.lst ds')))) (hs : RepS X.K μ H st) (e : st[n]? = some (.lst ds)) (hq : μ[n]? = some p) (hx : H p = some (.lst xs)) (hy : RepVs X.K μ H ds' ys) :
    Q .non (upd H p (.lst ys)) := by
  obtain ⟨g, hs'⟩ := putLst hs e hq hx hy
  exact hp _ _ μ g hs' (RepV.non_iff.mpr rfl)
theorem mt_appendV : MtR X "list.append" (rMM X appendV) := by
  refine MtR.weak mt_append ?_
  rintro x xs H Q ⟨μ, st, d, ds, hs, hx, hxs, hp⟩
  unfold appendV at hp
  split at hp
  · rename_i n d' 
    cases e : st[n]? with
    | none => rw [e] at hp; exact hp.elim
    | some mo =>
      cases mo with
      | lst l =>
        rw [e] at hp
        dsimp only at hp
        split at hp
        · rename_i hl
          obtain ⟨p, q1, rfl⟩ := RepV.loc_iff.mp hx
          obtain ⟨y, rfl, q2⟩ := RepVs.one hxs
          obtain ⟨p', ys, r1, r2, r3⟩ := hs.lst e
          rw [q1] at r1; cases r1
          refine ⟨p, ys, y, rfl, rfl, r2, by rw [← r3.length]; exact Nat.lt_of_lt_of_le hl (by decide), wr_lst hp hs e q1 r2 (r3.append (RepVs.cons q2 RepVs.nil))⟩
        · exact hp.elim
      | _ => rw [e] at hp; exact hp.elim
  · exact hp.elim
def clearV : D → List D → Stor → R D
  | .loc n, [], st => match st[n]? with
    | some (.lst ds) => .ok .non (st.set n (.lst []))
    | _ => .bad
  | _, _, _ => .bad
/-! all, any of a list of bools -/
def boolsOf : List D → Option (List Bool)
  | [] => some []
  | .bl b :: r => (boolsOf r).map (b :: ·)
  | _ :: _ => none
def allV (f : List Bool → Bool) : List D → Stor → R D
  | [.loc n], st => match (itemsAt st n).bind boolsOf with | some bs => .ok (.bl (f bs)) st | none => .bad
  | _, _ => .bad
end
end M
namespace M
open PySem PySem.Spec L2
section
variable {X : Cx} {e a b c l : Expr} {es : List Expr} {ma mb mc : ME} {mA : MA} {pos p2 p tpos : Pos} {μ : List Addr} {H : Hp}
/-! ### enumerate, reversed, zip of lists -/
/-- the list at a place, as a guard -/
def lstG (st : Stor) (n : Nat) : Option (List D × MO) := match st[n]? with
  | some (.lst ds) => some (ds, .lst ds)
  | some (.frz ds) => some (ds, .frz ds)
  | _ => none
theorem lstG_items {st : Stor} {n : Nat} {ds : List D} {o : MO} (h : lstG st n = some (ds, o)) : itemsAt st n = some ds ∧ st[n]? = some o ∧ (o = .lst ds ∨ o = .frz ds) := by
  unfold lstG at h
  unfold itemsAt
  split at h
  · rename_i q; cases h; rw [q]; exact ⟨rfl, rfl, .inl rfl⟩
  · rename_i q; cases h; rw [q]; exact ⟨rfl, rfl, .inr rfl⟩
  · cases h
theorem lstG_later {K : PySem.W.Frag} {st' : Stor} {n : Nat} {ds : List D} {o : MO} {μ' : List Addr} {H' : Hp} (ho : o = .lst ds ∨ o = .frz ds) (hs : RepS K μ' H' st') (e : st'[n]? = some o) : ∃ p xs, μ'[n]? = some p ∧ SqL K H' p xs ∧ RepVs K μ' H' ds xs := by
  refine hs.items ?_
  unfold itemsAt
  rcases ho with rfl | rfl <;> rw [e]
def enumL : Nat → List D → List D
  | _, [] => []
  | k, d :: ds => .tup [.int k, d] :: enumL (k + 1) ds
def enumI (mA : MA) : MI := fun env st => (mA env st).bind fun ds st1 => match ds with
  | [.loc n] => (match lstG st1 n with | some (xs, o) => .ok (enumL 0 xs, [(n, o)]) st1 | none => .bad)
  | _ => .bad
def revI (mA : MA) : MI := fun env st => (mA env st).bind fun ds st1 => match ds with
  | [.loc n] => (match lstG st1 n with | some (xs, o) => .ok (xs.reverse, [(n, o)]) st1 | none => .bad)
  | _ => .bad
theorem itv_rep {n : Nat} {ds : List D} {q : Addr} {o : MO} (ho : o = .lst ds ∨ o = .frz ds) (hp : μ[n]? = some q) : ItRep X μ H (Itv X.K q ds.length) (ds.reverse, [(n, o)]) := by
  intro H' μ' st' g hs ok
  have e : st'[n]? = some o := (ok (n, o) (by simp))
  obtain ⟨p', xs, q1, q2, q3⟩ := lstG_later ho hs e
  rw [g.get hp] at q1; cases q1
  refine ⟨fun i d hd => ?_, ⟨xs, q2, q3.length.symm⟩, by simp⟩
  have hd' : ds.reverse[i]? = some d := hd
  have hi : i < ds.length := by have := (List.getElem?_eq_some_iff.mp hd').1; simpa using this
  rw [List.getElem?_reverse hi] at hd'
  obtain ⟨v, h1, h2⟩ := q3.get hd'
  refine ⟨⟨xs, v, q2, q3.length.symm, hi, h1⟩, ?_⟩
  rintro x H'' ⟨rfl, hy⟩
  have := hy xs q2
  rw [h1] at this; cases this
  exact ⟨.refl _ _, hs, h2⟩
theorem ji_rev {tg : Expr} (ha : JA X [a] mA) (hg : Gl X "reversed") (hm : X.mg "reversed" = none) (hs : starEach [a] X.env = [(false, eval a X.env)] := by rfl) : JI X tg (.Call (.Name "reversed" p) [a] [] pos) (revI mA) := by
  refine JI.of (pi_rev hg hm ha hs) fun σ H R ⟨μ, env, st, hE, hs, hp⟩ => ⟨μ, env, st, hE, hs, (Post.bind hp).imp ?_⟩
  rintro vs H1 ⟨μ1, st1, ds, g1, hs1, hv, hp1⟩
  dsimp only at hp1
  split at hp1
  · rename_i n
    cases e : lstG st1 n with
    | none => rw [e] at hp1; exact hp1.elim
    | some y =>
      obtain ⟨xs, o⟩ := y
      rw [e] at hp1
      obtain ⟨k1, k2, k3⟩ := lstG_items e
      obtain ⟨v, rfl, q1⟩ := RepVs.one hv
      obtain ⟨q, q2, rfl⟩ := RepV.loc_iff.mp q1
      obtain ⟨q', zs, r1, r2, r3⟩ := hs1.items k1
      rw [q2] at r1; cases r1
      exact ⟨q, zs, rfl, r2, by rw [← r3.length]; exact hp1 _ _ _ (.refl _ _) hs1 (itv_rep k3 q2)⟩
  · exact hp1.elim
def zipI (mA : MA) : MI := fun env st => (mA env st).bind fun ds st1 => match ds with
  | [.loc m, .loc n] => (match lstG st1 m, lstG st1 n with | some (xs, o), some (ys, u) => .ok (List.zipWith (fun x y => .tup [x, y]) xs ys, [(m, o), (n, u)]) st1 | _, _ => .bad)
  | _ => .bad
end
end M
namespace M
open PySem PySem.Spec L2
/-! ### [e for t in it if c] -/
def PostK {α β : Type} (K : PySem.W.Frag) (μ : List Addr) (H : Hp) (rel : Rel α β) (Q : β → Hp → Prop) (r : R α) : Prop := match r with
  | .ok a st => ∀ (b : β) (H' : Hp) (μ' : List Addr), Grow μ H μ' H' → RepS K μ' H' st → rel μ' H' a b → Q b H'
  | _ => False
def tK {α β : Type} (K : PySem.W.Frag) (rel : Rel α β) (m : MEnv → Stor → R α) : L2.St → Hp → (β → Hp → Prop) → Prop := fun σ H Q => ∃ μ env st, RepE K μ H env σ ∧ RepS K μ H st ∧ PostK K μ H rel Q (m env st)
def tKG (K : PySem.W.Frag) (m : MG) : TG := fun v σ H Q => ∃ μ env st d, RepE K μ H env σ ∧ RepS K μ H st ∧ RepV K μ H d v ∧ PostK K μ H (fun μ H env σ => RepE K μ H env σ) Q (m d env st)
/-- the block's names: what is taken from around, and its own -/
def captE (capt : List (Option Nat)) (env : MEnv) : MEnv := capt.map fun o => o.bind fun j => (env[j]?).join
open Classical in
noncomputable def compGo (g : MG) (t : MT) (e : ME) (gs : List (Nat × MO)) (n : Nat) : List D → MEnv → Stor → R D
  | [], _, st => if okG gs st then .ok (.loc n) st else .bad
  | d :: r, env, st => if okG gs st then (g d env st).bind fun env1 st1 => (t env1 st1).bind fun ok st2 => if ok then (e env1 st2).bind fun y st3 => (match st3[n]? with
      | some (.lst xs) => if xs.length < 1000000 then compGo g t e gs n r env1 (st3.set n (.lst (xs ++ [y]))) else .bad
      | _ => .bad) else compGo g t e gs n r env1 st2 else .bad
noncomputable def compE (capt : List (Option Nat)) (mi : MI) (g : MG) (t : MT) (e : ME) : ME := fun env st => (mi env st).bind fun s st1 => (compGo g t e s.2 st1.length s.1 (captE capt env) (st1 ++ [.lst []])).sure
def yesT : MT := fun _ st => .ok true st
section
variable {X : Cx} {elt tg iter c : Expr} {ifs : List Expr} {scope : Scope} {pos : Pos} {N : List Str} {capt : List (Option Nat)} {mi : MI} {g : MG} {t : MT} {me : ME}
/-- what is wanted behind the block -/
def EndG (X : Cx) (Q : VK) : List Addr → Hp → R D → Prop := fun μ H r => PostK X.K μ H (relV X) Q r
def JTs (X : Cx) (ifs : List Expr) (m : MT) : Prop := PTs X ifs (tK X.K relB m)
/-- what a block takes from around stands in cells there -/
def FreeOk (sc sc0 : Scope) : Prop := ∀ x ∈ sc.names, x.2 = .free → sc0.names.lookup x.1 = some .cell ∨ sc0.names.lookup x.1 = some .free
instance (sc sc0 : Scope) : Decidable (FreeOk sc sc0) := inferInstanceAs (Decidable (∀ x ∈ sc.names, x.2 = .free → sc0.names.lookup x.1 = some .cell ∨ sc0.names.lookup x.1 = some .free))
end
end M
namespace M
open PySem PySem.Spec L2
theorem lenA_nil : ∀ (env : MEnv) (st : Stor) (as : List D) (st1 : Stor), nilA env st = .ok as st1 → as.length = ([] : List Expr).length := by
  intro env st as st1 h
  cases h; rfl
theorem lenA_cons {e : Expr} {es : List Expr} {a : ME} {r : MA} (h : ∀ (env : MEnv) (st : Stor) (as : List D) (st1 : Stor), r env st = .ok as st1 → as.length = es.length) :
    ∀ (env : MEnv) (st : Stor) (as : List D) (st1 : Stor), consA a r env st = .ok as st1 → as.length = (e :: es).length := by
  intro env st as st1 q
  unfold consA at q
  cases h1 : a env st with
  | bad => rw [h1] at q; cases q
  | err x s => rw [h1] at q; cases q
  | ok x s =>
    rw [h1, R.bind_ok] at q
    cases h2 : r env s with
    | bad => rw [h2] at q; cases q
    | err x s => rw [h2] at q; cases q
    | ok xs s2 =>
      rw [h2, R.bind_ok] at q
      cases q
      rw [List.length_cons, List.length_cons, h env s xs _ h2]
/-- enough for any while -/
def fuel : Nat := 1000000
/-- the script as the law finds it -/
theorem script_rep {K : PySem.W.Frag} {H : Hp} {a : Addr} {ns : List Int} (hO : Only H) (hS : SqL K H a (ns.map V.int)) : RepS K [a] H [.frz (ns.map D.int)] := by
  have hv : ∀ (μ : List Addr) (l : List Int), RepVs K μ H (l.map D.int) (l.map V.int) := fun μ l => by
    induction l with
    | nil => exact RepVs.nil
    | cons i l ih => exact RepVs.cons (RepV.int_iff.mpr rfl) ih
  refine ⟨rfl, fun n o e => ?_, fun i j b oi oj ei ej mi mj _ _ => ?_⟩
  · match n, e with
    | 0, e =>
      simp at e; subst e
      refine ⟨a, rfl, _, ?_, hv _ ns⟩
      rcases hS with (h | ⟨o, h⟩) | h
      · rcases hO a with z | ⟨o, xs, z⟩
        · rw [z] at h; cases h
        · rw [z] at h; cases h
      · exact .inl ⟨o, h⟩
      · exact .inr h
    | n + 1, e => simp at e
  · match i, ei with
    | 0, ei => simp at ei; subst ei; cases mi
    | i + 1, ei => simp at ei
theorem holds_of {l : PySem.W.OpenLaw} {k : Nat} {q : Program} {loose : List Str} {XP : (Str → Option Value) → Heap → Prop} {YP : World → Heap → Prop} {d : DefRec} {K : Params → PySem.W.Frag} {F : FD} {x : Str}
    (hn : l.most = some 63) (hdf : d.params.defaults = []) (hr : Room k callerA)
    (hY : ∀ (w : World) (h : Heap), YP w h → (K w.params).In h)
    (G : ∀ (w : World) (mg : Str → Option Value) (fa : Addr) (h : Heap), (K w.params).In h → h.Ns mainGlobals mg → mg d.name = some (.ref fa) →
      ∃ fd : FuncData, (∀ (s : Shared) (u : Value), BindsTo s fd ⟨[u], []⟩ [(x, u)]) ∧ ∀ base : Heap, (K w.params).In base → base.Ns mainGlobals mg → FnOk l.prog w (K w.params) mg base CX0 k fa fd [x] (spM (K w.params) 1 F))
    (hF : ∀ ns : List Int, ns.length ≤ 63 → ∃ st, F [.loc 0] [.frz (ns.map D.int)] = .ok (.bl true) st) :
    PySem.W.WalkO q loose XP YP l.row.toRowW d [] (fun f vs => PySem.call f vs) :=
  L2.walk_of (n := 63) (k := k) (x := x) (CX := fun _ => CX0) (sp := fun w => spM (K w.params) 1 F) hn (by decide) hdf hr hY G
    (fun w H a ns hl hO hS => by
      obtain ⟨st, e⟩ := hF ns hl
      refine ⟨rfl, [a], [.loc 0], _, RepVs.cons (RepV.loc_iff.mpr ⟨a, rfl, rfl⟩) RepVs.nil, script_rep hO hS, ?_⟩
      rw [e]
      exact fun v H' μ' _ _ hv => RepV.bl_iff.mp hv) fun _ _ _ _ _ z => z
end M
namespace M
open L2
/-! ### running a denotation by the simplifier -/
theorem gc_same {st : Stor} {d : D} (h : under st.length d) : gc st (.ok d st) = .ok d st := by
  have := gc_flat (st := st) (g := []) h
  simpa using this
theorem gc_new0 {st : Stor} {o : MO} (h : underO st.length o) : gc st (.ok (.loc st.length) (st ++ [o])) = .ok (.loc st.length) (st ++ [o]) := by
  have := gc_new (st := st) (g := []) (g' := []) h
  simpa using this
theorem get_app {st l : Stor} {n : Nat} {o : MO} (h : st[n]? = some o) : (st ++ l)[n]? = some o := by rw [List.getElem?_append_left (List.getElem?_eq_some_iff.mp h).1]; exact h
@[simp] theorem get_app0 {st l : Stor} : (st ++ l)[st.length]? = l[0]? := by rw [List.getElem?_append_right (Nat.le_refl _)]; simp
@[simp] theorem get_appk {st l : Stor} {k : Nat} : (st ++ l)[st.length + k]? = l[k]? := by rw [List.getElem?_append_right (Nat.le_add_right _ _)]; simp
@[simp] theorem items_app0 {st l : Stor} : itemsAt (st ++ l) st.length = itemsAt l 0 := by unfold itemsAt; rw [get_app0]
@[simp] theorem items_appk {st l : Stor} {k : Nat} : itemsAt (st ++ l) (st.length + k) = itemsAt l k := by unfold itemsAt; rw [get_appk]
@[simp] theorem items_cons0 {o : MO} {l : Stor} : itemsAt (o :: l) 0 = (match o with | .lst ds => some ds | .frz ds => some ds | _ => none) := by
  unfold itemsAt; cases o <;> rfl
@[simp] theorem items_consS {o : MO} {l : Stor} {n : Nat} : itemsAt (o :: l) (n + 1) = itemsAt l n := by unfold itemsAt; simp
theorem atI_ofNat {α : Type} (xs : List α) (k : Nat) : atI xs (k : Int) = xs[k]? := by
  unfold atI ixN
  rw [if_pos (by omega)]
  by_cases h : k < xs.length
  · rw [if_pos (by omega)]; simp
  · rw [if_neg (by omega)]; simp; omega
/-! loops -/
theorem forGo_all {g : MG} {b : MS} {gs : List (Nat × MO)} {items : List D} (I : List D → MEnv → Stor → Prop) {env : MEnv} {st : Stor} (h0 : I [] env st)
    (step : ∀ pre d post env st, items = pre ++ d :: post → I pre env st → okG gs st ∧ ∃ env1 st1, g d env st = .ok env1 st1 ∧ ∃ env2 st2, (b env1 st1 = .ok (.nx env2) st2 ∨ b env1 st1 = .ok (.cn env2) st2) ∧ I (pre ++ [d]) env2 st2)
    (hend : ∀ env st, I items env st → okG gs st) : ∃ env' st', forGo g b gs items env st = .ok (.nx env') st' ∧ I items env' st' := by
  have key : ∀ (post pre : List D) (env : MEnv) (st : Stor), items = pre ++ post → I pre env st → ∃ env' st', forGo g b gs post env st = .ok (.nx env') st' ∧ I items env' st' := by
    intro post
    induction post with
    | nil =>
      intro pre env st e hI
      have : items = pre := by simpa using e
      subst this
      exact ⟨env, st, by rw [forGo, if_pos (hend env st hI)], hI⟩
    | cons d post ih =>
      intro pre env st e hI
      obtain ⟨ok, env1, st1, h1, env2, st2, h2, hI2⟩ := step pre d post env st e hI
      obtain ⟨env', st', h3, h4⟩ := ih (pre ++ [d]) env2 st2 (by simp [e]) hI2
      refine ⟨env', st', ?_, h4⟩
      rw [forGo, if_pos ok, h1, R.bind_ok]
      rcases h2 with h2 | h2 <;> (rw [h2, R.bind_ok]; exact h3)
  exact key items [] env st rfl h0
/-! all the words for the simplifier -/
section
variable (env : MEnv) (st : Stor) (a b : ME) (x y : D) (mA : MA) (tc ta tb : MT) (m1 m2 : MS)
@[simp] theorem r_vr (i : Nat) : vr i env st = match env[i]? with | some (some d) => .ok d st | _ => .bad := by_rfl rfl
@[simp] theorem r_ct (d : D) : ct d env st = .ok d st := by_rfl rfl
@[simp] theorem r_op2 (g : D → D → Stor → R D) : op2 g a b env st = (a env st).bind fun x st1 => (b env st1).bind fun y st2 => g x y st2 := by_rfl rfl
@[simp] theorem r_op1 (g : D → Stor → R D) : op1 g a env st = (a env st).bind fun x st1 => g x st1 := by_rfl rfl
@[simp] theorem r_tB1  : tB1 a env st = (a env st).bind fun x st1 => match x with | .bl b => .ok b st1 | _ => .bad := by_rfl rfl
@[simp] theorem r_tru  : tru a env st = (a env st).bind fun x st1 => match truV x st1 with | some b => .ok b st1 | none => .bad := by_rfl rfl
@[simp] theorem r_andT  : andT ta tb env st = (ta env st).bind fun x st1 => if x then tb env st1 else .ok false st1 := by_rfl rfl
@[simp] theorem r_orT  : orT ta tb env st = (ta env st).bind fun x st1 => if x then .ok true st1 else tb env st1 := by_rfl rfl
@[simp] theorem r_notT  : notT ta env st = (ta env st).bind fun x st1 => .ok (!x) st1 := by_rfl rfl
@[simp] theorem r_andV  : andV a b env st = (a env st).bind fun x st1 => match x with | .bl true => b env st1 | .bl false => .ok (.bl false) st1 | _ => .bad := by_rfl rfl
@[simp] theorem r_orV  : orV a b env st = (a env st).bind fun x st1 => match x with | .bl true => .ok (.bl true) st1 | .bl false => b env st1 | _ => .bad := by_rfl rfl
@[simp] theorem r_notV  : notV a env st = (a env st).bind fun x st1 => match x with | .bl c => .ok (.bl (!c)) st1 | _ => .bad := by_rfl rfl
@[simp] theorem r_ifE  : ifE tc a b env st = (tc env st).bind fun x st1 => if x then a env st1 else b env st1 := by_rfl rfl
@[simp] theorem r_nilA  : nilA env st = .ok [] st := by_rfl rfl
@[simp] theorem r_consA  : consA a mA env st = (a env st).bind fun x st1 => (mA env st1).bind fun xs st2 => .ok (x :: xs) st2 := by_rfl rfl
@[simp] theorem r_tupE  : tupE mA env st = (mA env st).bind fun ds st1 => if ds.length ≤ 1000000 then .ok (.tup ds) st1 else .bad := by_rfl rfl
@[simp] theorem r_lstE  : lstE mA env st = (mA env st).bind fun ds st1 => if ds.length ≤ 1000000 then .ok (.loc st1.length) (st1 ++ [.lst ds]) else .bad := by_rfl rfl
@[simp] theorem r_inP  : inP a env st = (a env st).bind fun x st1 => match x with | .int i => .ok (some i) st1 | _ => .bad := by_rfl rfl
@[simp] theorem r_slE (l h : MP) : slE a l h env st = (a env st).bind fun x st1 => (l env st1).bind fun lo st2 => (h env st2).bind fun hi st3 => slV x lo hi st3 := by_rfl rfl
@[simp] theorem r_callE (g : List D → Stor → R D) : callE g mA env st = (mA env st).bind fun ds st1 => g ds st1 := by_rfl rfl
@[simp] theorem r_skipS  : skipS env st = .ok (.nx env) st := by_rfl rfl
@[simp] theorem r_seqS  : seqS m1 m2 env st = (m1 env st).bind fun o st1 => match o with | .nx env1 => m2 env1 st1 | o => .ok o st1 := by_rfl rfl
@[simp] theorem r_retS  : retS a env st = (a env st).bind fun d st1 => .ok (.rt d) st1 := by_rfl rfl
@[simp] theorem r_exprS  : exprS a env st = (a env st).bind fun _ st1 => .ok (.nx env) st1 := by_rfl rfl
@[simp] theorem r_ifS  : ifS tc m1 m2 env st = (tc env st).bind fun x st1 => if x then m1 env st1 else m2 env st1 := by_rfl rfl
@[simp] theorem r_brkS  : brkS env st = .ok (.bk env) st := by_rfl rfl
@[simp] theorem r_nameG (i : Nat) : nameG i x env st = .ok (env.set i (some x)) st := by_rfl rfl
@[simp] theorem r_asgS (g : MG) : asgS a g env st = (a env st).bind fun d st1 => (g d env st1).bind fun env1 st2 => .ok (.nx env1) st2 := by_rfl rfl
@[simp] theorem r_setS (i : Nat) : setS i a env st = (a env st).bind fun d st1 => .ok (.nx (env.set i (some d))) st1 := by_rfl rfl
@[simp] theorem r_subG (g : D → D → D → Stor → R Unit) (d : D) : subG g a b d env st = (a env st).bind fun x st1 => (b env st1).bind fun y st2 => (g x y d st2).bind fun _ st3 => .ok env st3 := by_rfl rfl
@[simp] theorem r_callF (F : FD) (dd : List D) : callF F dd mA env st = (mA env st).bind fun as st1 => (F (as ++ dd) st1).sure := by_rfl rfl
@[simp] theorem r_methE (T : String) (g : D → List D → Stor → R D) : methE T g a mA env st = (a env st).bind fun x st1 => if isTy T x st1 = true then (mA env st1).bind fun xs st2 => g x xs st2 else .bad := by_rfl rfl
@[simp] theorem r_meth0E (T : String) (g : D → List D → Stor → R D) : meth0E T g a env st = (a env st).bind fun x st1 => if isTy T x st1 = true then g x [] st1 else .bad := by_rfl rfl
@[simp] theorem r_forS (mi : MI) (g : MG) : forS mi g m1 env st = (mi env st).bind fun s st1 => forGo g m1 s.2 s.1 env st1 := by_rfl rfl
@[simp] theorem r_seqI  : seqI a env st = (a env st).bind fun d st1 => match d with
  | .loc n => (match st1[n]? with
    | some (.lst ds) => .ok (ds, [(n, .lst ds)]) st1
    | some (.frz ds) => .ok (ds, [(n, .frz ds)]) st1
    | _ => .bad)
  | .tup ds => .ok (ds, []) st1
  | _ => .bad := by_rfl rfl
@[simp] theorem r_range1I  : range1I mA env st = (mA env st).bind fun ds st1 => match ds with
  | [.int j] => if -(2 ^ 62) ≤ j ∧ j < 2 ^ 62 then .ok (upto 0 j.toNat, []) st1 else .bad
  | _ => .bad := by_rfl rfl
@[simp] theorem r_revI  : revI mA env st = (mA env st).bind fun ds st1 => match ds with
  | [.loc n] => (match lstG st1 n with | some (xs, o) => .ok (xs.reverse, [(n, o)]) st1 | none => .bad)
  | _ => .bad := by_rfl rfl
@[simp] theorem r_add_int (i j : Int) : addV (.int i) (.int j) st = .ok (.int (i + j)) st := by_rfl rfl
@[simp] theorem r_sub_int (i j : Int) : subV (.int i) (.int j) st = .ok (.int (i - j)) st := by simp [subV, intV]
theorem r_mul_int (i j : Int) (h : (-(2 ^ 64) < i ∧ i < 2 ^ 64) ∨ (-(2 ^ 64) < j ∧ j < 2 ^ 64)) : mulV (.int i) (.int j) st = .ok (.int (i * j)) st := by
  unfold mulV intV; dsimp only; rw [if_pos h]
theorem r_fdiv_int (i j : Int) (h : 0 < j ∧ j < 2 ^ 64) : fdivV (.int i) (.int j) st = .ok (.int (i / j)) st := by
  unfold fdivV intV; dsimp only; rw [if_pos h]
theorem r_mod_int (i j : Int) (h : 0 < j) : modV (.int i) (.int j) st = .ok (.int (i % j)) st := by
  unfold modV intV; dsimp only; rw [if_pos h]
@[simp] theorem r_lt_int (i j : Int) : ltV (.int i) (.int j) st = .ok (.bl (decide (i < j))) st := by simp [ltV, intV]
@[simp] theorem r_gt_int (i j : Int) : gtV (.int i) (.int j) st = .ok (.bl (decide (j < i))) st := by simp [gtV, intV]
@[simp] theorem r_eq_int (L : Nat) (i j : Int) : eqV (L + 1) (.int i) (.int j) st = .ok (.bl (decide (i = j))) st := by
  have e : (i == j) = decide (i = j) := by rw [Bool.eq_iff_iff]; simp
  simp only [eqV, eqR, eqD, e, flat_int, cdep_int]
  rw [if_pos ⟨trivial, trivial, Nat.succ_pos L⟩]
@[simp] theorem r_eq_str (L : Nat) (i j : List Nat) : eqV (L + 1) (.str i) (.str j) st = .ok (.bl (decide (i = j))) st := by
  have e : (i == j) = decide (i = j) := by rw [Bool.eq_iff_iff]; simp
  simp only [eqV, eqR, eqD, e, flat_str, cdep_str]
  rw [if_pos ⟨trivial, trivial, Nat.succ_pos L⟩]
theorem r_ix_loc (n : Nat) (i : Int) (ds : List D) (d : D) (h : itemsAt st n = some ds) (hi : atI ds i = some d) : ixV (.loc n) (.int i) st = .ok d st := by
  simp [ixV, h, hi]
theorem r_ix_tup (i : Int) (ds : List D) (d : D) (hi : atI ds i = some d) : ixV (.tup ds) (.int i) st = .ok d st := by
  simp [ixV, hi]
@[simp] theorem r_int_bool (b : Bool) : intC [.bl b] st = .ok (.int (if b then 1 else 0)) st := by_rfl rfl
theorem r_len_loc (n : Nat) (ds : List D) (h : itemsAt st n = some ds) : lenV [.loc n] st = .ok (.int ds.length) st := by simp [lenV, h]
@[simp] theorem r_is_str (T : String) (i : List Nat) : isV T (.str i) st = .ok (.bl (subTy "str" T)) st := by_rfl rfl
@[simp] theorem r_is_tup (T : String) (i : List D) : isV T (.tup i) st = .ok (.bl (subTy "tuple" T)) st := by_rfl rfl
@[simp] theorem r_none_non : isNoneV .non .non st = .ok (.bl true) st := by_rfl rfl
@[simp] theorem r_none_tup (ds : List D) : isNoneV (.tup ds) .non st = .ok (.bl false) st := by_rfl rfl
end
end M
namespace L2
open PySem PySem.Spec PyProof.Rows
/-! ### lists of pairs as tables -/
section
variable {κ : Type} [DecidableEq κ]
def valV (kvs : List (κ × V)) (k : κ) : Option V := (kvs.find? fun kv => decide (kv.1 = k)).map (·.2)
/-- in its place, or at the end -/
def putK (kvs : List (κ × V)) (k : κ) (v : V) : List (κ × V) :=
  if (kvs.any fun kv => decide (kv.1 = k)) = true then kvs.map (fun kv => if kv.1 = k then (kv.1, v) else kv) else kvs ++ [(k, v)]
def dropK (kvs : List (κ × V)) (k : κ) : List (κ × V) := kvs.filter fun kv => decide (kv.1 ≠ k)
theorem valV_pos {p : κ × V} {r : List (κ × V)} {k : κ} (e : p.1 = k) : valV (p :: r) k = some p.2 := by simp [valV, List.find?_cons, e]
theorem valV_neg {p : κ × V} {r : List (κ × V)} {k : κ} (e : ¬ p.1 = k) : valV (p :: r) k = valV r k := by simp [valV, List.find?_cons, e]
theorem valV_any (k : κ) : ∀ kvs : List (κ × V), (kvs.any fun kv => decide (kv.1 = k)) = (valV kvs k).isSome
  | [] => rfl
  | p :: r => by
    rw [List.any_cons]
    by_cases e : p.1 = k
    · simp only [valV_pos e, decide_eq_true e, Bool.true_or, Option.isSome_some]
    · rw [valV_neg e, decide_eq_false e, Bool.false_or]; exact valV_any k r
theorem length_putK (kvs : List (κ × V)) (k : κ) (v : V) : (putK kvs k v).length ≤ kvs.length + 1 := by
  unfold putK
  split
  · rw [List.length_map]; omega
  · rw [List.length_append, List.length_cons, List.length_nil]; omega
theorem RelO.isSome_eq {o : Option V} {u : Option Value} (r : RelO o u) : o.isSome = u.isSome := by
  cases o with
  | none => cases u with
    | none => rfl
    | some _ => exact (show False from r).elim
  | some _ => cases u with
    | none => exact (show False from r).elim
    | some _ => rfl
/-- raw tables of the same keys -/
theorem KV.val {kvs : List (κ × V)} {vs : List (κ × Value)} (r : KV kvs vs) (k : κ) : RelO (valV kvs k) (valueAt vs k) := by
  unfold KV at r
  induction r with
  | nil => exact True.intro
  | @cons p q ps qs h t ih =>
    obtain ⟨h1, h2⟩ := h
    by_cases e : p.1 = k
    · have e' : q.1 = k := h1.symm.trans e
      have b : valueAt (q :: qs) k = some q.2 := by simp [valueAt, List.find?_cons, e']
      rw [valV_pos e, b]; exact h2
    · have e' : ¬ q.1 = k := fun z => e (h1.trans z)
      have b : valueAt (q :: qs) k = valueAt qs k := by simp [valueAt, List.find?_cons, e']
      rw [valV_neg e, b]; exact ih
theorem KV.any {kvs : List (κ × V)} {vs : List (κ × Value)} (r : KV kvs vs) (k : κ) : (kvs.any fun kv => decide (kv.1 = k)) = vs.any fun kv => decide (kv.1 = k) := by
  unfold KV at r
  induction r with
  | nil => rfl
  | cons h t ih => rw [List.any_cons, List.any_cons, ih, h.1]
theorem KV.repl {kvs : List (κ × V)} {vs : List (κ × Value)} (r : KV kvs vs) (k : κ) {y : V} {u : Value} (ry : RelV y u) :
    KV (kvs.map fun kv => if kv.1 = k then (kv.1, y) else kv) (vs.map fun kv => if kv.1 = k then (kv.1, u) else kv) := by
  unfold KV at r ⊢
  induction r with
  | nil => exact .nil
  | @cons p q ps qs h t ih =>
    rw [List.map_cons, List.map_cons]
    refine .cons ?_ ih
    obtain ⟨h1, h2⟩ := h
    by_cases e : p.1 = k
    · rw [if_pos e, if_pos (h1.symm.trans e)]; exact ⟨h1, ry⟩
    · rw [if_neg e, if_neg (fun z => e (h1.trans z))]; exact ⟨h1, h2⟩
theorem KV.put {kvs : List (κ × V)} {vs : List (κ × Value)} (r : KV kvs vs) (k : κ) {y : V} {u : Value} (ry : RelV y u) : KV (putK kvs k y) (stored vs k u) := by
  unfold putK stored
  rw [r.any k]
  by_cases e : (vs.any fun kv => decide (kv.1 = k)) = true
  · rw [if_pos e, if_pos e]; exact r.repl k ry
  · rw [if_neg e, if_neg e]; exact Paired.snoc r ⟨rfl, ry⟩
theorem KV.length {kvs : List (κ × V)} {vs : List (κ × Value)} (r : KV kvs vs) : kvs.length = vs.length := Paired.length r
end
/-! ### a tracked dict, its keys ints and texts or tuples of these -/
theorem kV_is {P : Program} {w : World} {k : Key} {u : Value} (r : RelV (kV k) u) : (mixKind P w).is k u = true := by
  cases k with
  | inl i => obtain ⟨t, e⟩ := (show ∃ t, u = Value.int i t from r); subst e; exact mixKind_int P w i t
  | inr x => obtain ⟨t, e⟩ := (show ∃ t, u = Value.str x t from r); subst e; exact mixKind_str P w x t
theorem items_are {P : Program} {w : World} : ∀ {ks : List Key} {us : List Value}, Vals (ks.map kV) us → ItemsAre (mixKind P w) ks us
  | [], _, r => by rw [List.map_nil] at r; cases r; exact .nil
  | k :: ks, _, r => by
    rw [List.map_cons] at r
    cases r with
    | cons h t => exact .cons (kV_is h) (items_are t)
/-- raw entries of a dict with tuple keys -/
abbrev KT (H : Hp) : List (List Key × V) → List (List Key × Addr × Value) → Prop := Paired fun p q => p.1 = q.1 ∧ H q.2.1 = some (.tup (p.1.map kV)) ∧ RelV p.2 q.2.2
theorem KT.val {H : Hp} {kvs : List (List Key × V)} {xs : List (List Key × Addr × Value)} (r : KT H kvs xs) (k : List Key) : RelO (valV kvs k) ((atKey xs k).map (·.2)) := by
  induction r with
  | nil => exact True.intro
  | @cons p q ps qs h t ih =>
    obtain ⟨h1, _, h2⟩ := h
    by_cases e : p.1 = k
    · have e' : q.1 = k := h1.symm.trans e
      have b : atKey (q :: qs) k = some q.2 := by simp [atKey, List.find?_cons, e']
      rw [valV_pos e, b]; exact h2
    · have e' : ¬ q.1 = k := fun z => e (h1.trans z)
      have b : atKey (q :: qs) k = atKey qs k := by simp [atKey, List.find?_cons, e']
      rw [valV_neg e, b]; exact ih
theorem KT.repl {H : Hp} {kvs : List (List Key × V)} {xs : List (List Key × Addr × Value)} (r : KT H kvs xs) (k : List Key) {y : V} {u : Value} (ry : RelV y u) :
    KT H (kvs.map fun kv => if kv.1 = k then (kv.1, y) else kv) (xs.map (putAt k u)) := by
  induction r with
  | nil => exact .nil
  | @cons p q ps qs h t ih =>
    rw [List.map_cons, List.map_cons]
    refine .cons ?_ ih
    obtain ⟨h1, h2, h3⟩ := h
    unfold putAt
    by_cases e : p.1 = k
    · rw [if_pos e, if_pos (h1.symm.trans e)]; exact ⟨h1, h2, ry⟩
    · rw [if_neg e, if_neg (fun z => e (h1.trans z))]; exact ⟨h1, h2, h3⟩
theorem KT.put {H : Hp} {kvs : List (List Key × V)} {xs : List (List Key × Addr × Value)} (r : KT H kvs xs) (k : List Key) {b : Addr} {y : V} {u : Value} (hb : H b = some (.tup (k.map kV))) (ry : RelV y u) :
    KT H (putK kvs k y) (storedH xs k b u) := by
  have e : (kvs.any fun kv => decide (kv.1 = k)) = (atKey xs k).isSome := by
    rw [valV_any, (r.val k).isSome_eq, Option.isSome_map]
  unfold putK storedH
  rw [e]
  by_cases q : (atKey xs k).isSome = true
  · rw [if_pos q, if_pos q]; exact r.repl k ry
  · rw [if_neg q, if_neg q]; exact Paired.snoc r ⟨rfl, hb, ry⟩
theorem KT.keeps {H H' : Hp} {kvs : List (List Key × V)} {xs : List (List Key × Addr × Value)} (r : KT H kvs xs) (ht : ∀ b ys, H b = some (.tup ys) → H' b = some (.tup ys)) : KT H' kvs xs :=
  Paired.mapP r fun _ _ z => ⟨z.1, ht _ _ z.2.1, z.2.2⟩
section
variable {P : Program} {w : World} {H : Hp} {h : Heap} {a : Addr}
theorem rd_of {u : HO} (ok : HOk P w H h) (e : Rd H a u) : ObjOk P w H h a u := e.ok ok
theorem dk_rd {kvs : List (Key × V)} (ok : HOk P w H h) (e : Rd H a (.dK kvs)) : kvs.length ≤ sizeLine ∧ (a == sysModules) = false ∧ ∃ vs, KV kvs vs ∧ h.DictOf (mixKind P w) a vs :=
  show ObjOk P w H h a (.dK kvs) from rd_of ok e
theorem dk_of {kvs : List (Key × V)} (ok : HOk P w H h) (e : H a = some (.dK kvs)) : kvs.length ≤ sizeLine ∧ (a == sysModules) = false ∧ ∃ vs, KV kvs vs ∧ h.DictOf (mixKind P w) a vs := dk_rd ok (.inl e)
/-- a tracked tuple of ints and texts is a key -/
theorem key_of {ks : List Key} (ok : HOk P w H h) (e : H a = some (.tup (ks.map kV))) : (tupleKind (mixKind P w)).is h ks a := by
  obtain ⟨_, its, r, o, h1, h2, n, h3⟩ := (show ObjOk P w H h a (.tup (ks.map kV)) from ok a _ e)
  exact ⟨o, its.toArray, n, h1, h2, h3, by simpa using items_are r⟩
theorem dt_rd {kvs : List (List Key × V)} (ok : HOk P w H h) (e : Rd H a (.dT kvs)) : kvs.length ≤ sizeLine ∧ (a == sysModules) = false ∧
    ∃ xs, KT H kvs xs ∧ h.DictOfH (tupleKind (mixKind P w)) a xs := by
  obtain ⟨z, y, xs, r, o, es, ep, h1, h2, h3, h4, h5⟩ := (show ObjOk P w H h a (.dT kvs) from rd_of ok e)
  refine ⟨z, y, xs, r, o, es, ep, h1, h2, h3, h4, fun x hx => ?_, h5⟩
  have all : ∀ {l : List (List Key × V)} {m : List (List Key × Addr × Value)}, KT H l m → ∀ x ∈ m, (tupleKind (mixKind P w)).is h x.1 x.2.1 := by
    intro l m q
    induction q with
    | nil => intro x hx; exact nomatch hx
    | @cons p q ps qs hq t ih =>
      intro x hx
      rcases List.mem_cons.mp hx with e | hx
      · subst e
        exact key_of ok (by rw [← hq.1]; exact hq.2.1)
      · exact ih x hx
  exact all r x hx
theorem dt_of {kvs : List (List Key × V)} (ok : HOk P w H h) (e : H a = some (.dT kvs)) : kvs.length ≤ sizeLine ∧ (a == sysModules) = false ∧
    ∃ xs, KT H kvs xs ∧ h.DictOfH (tupleKind (mixKind P w)) a xs := dt_rd ok (.inl e)
end
/-- what the dict at a holds at the key y -/
def DGet (H : Hp) (a : Addr) (y : V) (r : Option V) : Prop :=
  (∃ kvs k, Rd H a (.dK kvs) ∧ y = kV k ∧ r = valV kvs k) ∨ ∃ kvs k b, Rd H a (.dT kvs) ∧ y = .ref b ∧ H b = some (.tup (k.map kV)) ∧ r = valV kvs k
/-- the heap behind a[y] = v -/
def DPut (H : Hp) (a : Addr) (y v : V) (H' : Hp) : Prop :=
  (∃ kvs k, H a = some (.dK kvs) ∧ y = kV k ∧ kvs.length < sizeLine ∧ H' = upd H a (.dK (putK kvs k v))) ∨
  ∃ kvs k b, H a = some (.dT kvs) ∧ y = .ref b ∧ H b = some (.tup (k.map kV)) ∧ kvs.length < sizeLine ∧ H' = upd H a (.dT (putK kvs k v))
theorem DGet.k {H : Hp} {a : Addr} {kvs : List (Key × V)} {k : Key} (e : H a = some (.dK kvs)) : DGet H a (kV k) (valV kvs k) := .inl ⟨kvs, k, .inl e, rfl, rfl⟩
theorem DPut.k {H : Hp} {a : Addr} {kvs : List (Key × V)} {k : Key} {v : V} (e : H a = some (.dK kvs)) (hl : kvs.length < sizeLine) : DPut H a (kV k) v (upd H a (.dK (putK kvs k v))) := .inl ⟨kvs, k, e, rfl, hl, rfl⟩
section
variable {X : Cx} {pins : List (Addr × Obj)} {σ : St} {H : Hp} {s : Shared} {a : Addr} {y v : V} {u r : Value} {o : Option V} {A : Around} {E : Value → Shared → Prop}
theorem Inv.big (I : Inv X pins σ H s) : sysModules < s.heap.objs.size := by
  have h : mainGlobals < s.heap.objs.size := (I.mod.glob.keeps I.bk).lt
  exact Nat.lt_trans (by decide) h
/-- d[y], there -/
theorem d_getItem {Q : Value → Shared → Prop} (hu : A.units + 1 < cLine) (I : Inv X pins σ H s) (g : DGet H a y (some v)) (ry : RelV y u) (h : ∀ w' s', Inv X pins σ H s' → RelV v w' → Q w' s') :
    wpAny (model X.prog X.w) A (getItem (.ref a) u) Q E s := by
  rcases g with ⟨kvs, k, e, ey, l⟩ | ⟨kvs, k, b, e, ey, eb, l⟩
  · subst ey
    obtain ⟨z, hd, vs, rel, dd⟩ := dk_rd I.hok e
    obtain ⟨w', hw, rw'⟩ := RelO.some_of (v := v) (o := valueAt vs k) (by rw [l]; exact rel.val k)
    exact wpAny_getItem_of (kV_is ry) dd.mapOf hw (h w' _ (I.tok _) rw')
  · subst ey
    cases (show u = Value.ref b from ry)
    obtain ⟨z, hd, xs, rel, dd⟩ := dt_rd I.hok e
    obtain ⟨w', hw, rw'⟩ := RelO.some_of (v := v) (o := (atKey xs k).map (·.2)) (by rw [l]; exact rel.val k)
    obtain ⟨p, hp, hp2⟩ := Option.map_eq_some_iff.mp hw
    refine wpAny_getItem_heap (tupleKind_room_in1 hu) (key_of I.hok eb) dd hp ?_
    rw [hp2]
    exact h w' _ (I.tok _) rw'
/-- a dict's object is replaced -/
theorem d_write {h' : Heap} {t' : Nat} {ob : HO} (I : Inv X pins σ H s) (mu : Mut (H a)) (hs : Heap.SameBut a s.heap h') (he : ∃ q, h'.get? a = some q) (new : ObjOk X.prog X.w (upd H a ob) h' a ob) :
    Inv X pins σ (upd H a ob) { s with heap := h', toks := t' } :=
  I.write (x := a) (e := a) mu (.inl rfl) (fun b q hb z => (hs.2 b hb).trans z) he new
theorem dk_new {P : Program} {w : World} {H' : Hp} {h' : Heap} {kvs : List (Key × V)} {vs : List (Key × Value)} (z : kvs.length ≤ sizeLine) (hd : (a == sysModules) = false) (rel : KV kvs vs) (dd : h'.DictOf (mixKind P w) a vs) :
    ObjOk P w H' h' a (.dK kvs) := ⟨z, hd, vs, rel, dd⟩
/-- d[y] = v -/
theorem d_setItem {H' : Hp} {Q : Unit → Shared → Prop} (hu : A.units + 1 < cLine) (I : Inv X pins σ H s) (g : DPut H a y v H') (ry : RelV y u) (rv : RelV v r) (h : ∀ s', Inv X pins σ H' s' → Q () s') :
    wpAny (model X.prog X.w) A (setItem (.ref a) u r) Q E s := by
  rcases g with ⟨kvs, k, e, ey, l, eH⟩ | ⟨kvs, k, b, e, ey, eb, l, eH⟩
  · subst ey eH
    obtain ⟨z, hd, vs, rel, dd⟩ := dk_of I.hok e
    have hz : vs.length ≤ sizeLine := by rw [← rel.length]; exact z
    have hl : (putK kvs k v).length ≤ sizeLine := by have := length_putK kvs k v; omega
    refine wpAny_setItem_pairs (hsz := hz) (kV_is ry) dd fun h' dd' hs => h _ ?_
    have he : ∃ q, h'.get? a = some q := let ⟨q, _, _, hq, _⟩ := dd'; ⟨q, hq⟩
    exact d_write I (by rw [e]; exact True.intro) hs he (dk_new hl hd (rel.put k rv) dd')
  · subst ey eH
    cases (show u = Value.ref b from ry)
    obtain ⟨z, hd, xs, rel, dd⟩ := dt_of I.hok e
    have hz : xs.length ≤ sizeLine := by rw [← Paired.length rel]; exact z
    have hl : (putK kvs k v).length ≤ sizeLine := by have := length_putK kvs k v; omega
    refine wpAny_setItem_heap (hsz := hz) (tupleKind_room_in1 hu) (key_of I.hok eb) dd fun h' dd' hs => h _ ?_
    obtain ⟨q, es, ep, hq, h2, h3, h4, _, h5⟩ := dd'
    refine d_write I (by rw [e]; exact True.intro) hs ⟨q, hq⟩ ⟨hl, hd, _, (rel.put k eb rv).keeps fun c ys ec => ?_, q, es, ep, hq, h2, h3, h4, h5⟩
    rw [upd_ne (ne_of ec e (fun z => nomatch z))]
    exact ec
end
section
variable {X : Cx} {pins : List (Addr × Obj)} {σ : St} {H : Hp} {s : Shared} {a : Addr} {kvs : List (Key × V)} {k : Key} {u : Value} {A : Around} {E : Value → Shared → Prop}
end
/-! ### readings and rules -/
/-- the element of a subscription, not a slice -/
def NoSl (i : Expr) : Prop := ∀ ov iv, subscripted i false ov iv = operate [ov, iv] (getItem ov iv)
theorem subD_of {prog : Program} {w : World} {A : Around} {E : Value → Shared → Prop} {s : Shared} {env : Env} {value slice : Expr} {pos : Pos} {T id : String} {Q : Value → Shared → Prop}
    (hl : typeLookup (.type T) "__getitem__" = pure (some (.builtin id))) (hs : NoSl slice)
    (h : wpAny (model prog w) A (eval value env) (fun o s₁ => wpAny (model prog w) A (eval slice env) (fun i s₂ => s₂.TypeIs o T ∧ wpAny (model prog w) A (getItem o i) Q E s₂) E s₁) E s) :
    wpAny (model prog w) A (eval (.Subscript value slice pos) env) Q E s := by
  refine Subscript_ (wpAny_mono h (fun o s₁ h₁ => wpAny_mono h₁ (fun i s₂ h₂ => ?_) fun _ _ x => x) fun _ _ x => x)
  obtain ⟨hT, h₂⟩ := h₂
  unfold subscriptTail
  refine wpAny_bind ?_
  rw [getitemInPython_of_ne hT.not_modules]
  refine wpAny_bind (wpAny_specialOf hT hl ?_)
  have fin : wpAny (model prog w) A (subscripted slice false o i) (fun r s₃ => wpAny (model prog w) A (letTemporaryGo value o r >>= fun _ => pure r) Q E s₃) E s₂ := by
    rw [hs o i]
    exact wpAny_operating (wpAny_mono h₂ (fun r s₃ h₃ => wpAny_bind (wpAny_letTemporaryGo (wpAny_pure h₃))) fun _ _ x => x)
  first
    | exact wpAny_pure (wpAny_bind fin)
    | exact wpAny_bind (wpAny_pure (wpAny_bind fin))
    | exact wpAny_bind fin
theorem dict_typeIs {X : Cx} {pins : List (Addr × Obj)} {σ : St} {H : Hp} {s : Shared} {a : Addr} {y : V} {o : Option V} (I : Inv X pins σ H s) (g : DGet H a y o) : s.TypeIs (.ref a) "dict" := by
  rcases g with ⟨kvs, k, e, _, _⟩ | ⟨kvs, k, b, e, _, _, _⟩
  · obtain ⟨_, _, vs, _, dd⟩ := dk_rd I.hok e
    exact dd.typeIs
  · obtain ⟨_, _, xs, _, dd⟩ := dt_rd I.hok e
    exact dd.typeIs
/-- d[y] -/
def tDGet (td ty : TE) : TE := fun σ H Q => td σ H fun x H1 => ty σ H1 fun y H2 => ∃ a v, x = .ref a ∧ DGet H2 a y (some v) ∧ Q v H2
/-- y in d, y not in d -/
def tDIn (ty td : TE) : TE := fun σ H Q => ty σ H fun y H1 => td σ H1 fun x H2 => ∃ a o, x = .ref a ∧ DGet H2 a y o ∧ Q (.bl o.isSome) H2
def tDNotIn (ty td : TE) : TE := fun σ H Q => ty σ H fun y H1 => td σ H1 fun x H2 => ∃ a o, x = .ref a ∧ DGet H2 a y o ∧ Q (.bl (!o.isSome)) H2
/-- d[y] = v -/
def sDPut (td ty tv : TE) : TS := fun D σ H => tv σ H fun v H1 => td σ H1 fun x H2 => ty σ H2 fun y H3 => ∃ a H4, x = .ref a ∧ DPut H3 a y v H4 ∧ D.nx σ H4
/-- d[y] op= v -/
def sDAug (td ty tv : TE) (rd : V → V → Hp → VK → Prop) : TS := fun D σ H => td σ H fun x H1 => ty σ H1 fun y H2 => ∃ a v, x = .ref a ∧ DGet H2 a y (some v) ∧
  tv σ H2 fun y2 H3 => rd v y2 H3 fun z H4 => ∃ H5, DPut H4 a y z H5 ∧ D.nx σ H5
/-- del d[y] -/
def sDDel (td ty : TE) : TS := fun D σ H => td σ H fun x H1 => ty σ H1 fun y H2 => ∃ a kvs k, x = .ref a ∧ H2 a = some (.dK kvs) ∧ y = kV k ∧ (valV kvs k).isSome = true ∧ D.nx σ (upd H2 a (.dK (dropK kvs k)))
section
variable {X : Cx} {o i e value : Expr} {pos pos' tpos : Pos} {td ty tv : TE}
theorem pe_dget (hu : X.A.units + 1 < cLine) (ho : PE X o td) (hi : PE X i ty) (hs : NoSl i) : PE X (.Subscript o i pos) (tDGet td ty) := by
  intro pins s σ H Q I h
  refine subD_of PySem.F.slot_dict_getitem.lookup hs (thn (ho pins s σ H _ I h) fun u s1 ⟨x, H1, I1, rx, q1⟩ => thn (hi pins s1 σ H1 _ I1 q1) fun iv s2 ⟨y, H2, I2, ry, a, v, ex, g, q2⟩ => ?_)
  subst ex
  obtain rfl : u = Value.ref a := rx
  exact ⟨dict_typeIs I2 g, d_getItem hu I2 g ry fun w' s3 I3 rw' => ⟨v, H2, I3, rw', q2⟩⟩
end
/-! ### displays -/
theorem dk_empty {P : Program} {w : World} {H : Hp} (h : Heap) (hb : sysModules < h.objs.size) : ObjOk P w H (h.push { cls := .type "dict", data := .dict #[] }) h.objs.size (.dK []) :=
  ⟨Nat.zero_le _, beq_eq_false_iff_ne.mpr (Ne.symm (Nat.ne_of_lt hb)), [], .nil, Heap.DictOf.new h⟩
/-- {}, to be a dict of the kind that is wanted -/
def tDNewK : TE := fun _ H Q => ∀ p, H p = none → Q (.ref p) (upd H p (.dK []))
def tDNewT : TE := fun _ H Q => ∀ p, H p = none → Q (.ref p) (upd H p (.dT []))
section
variable {X : Cx} {pos : Pos}
theorem pe_dnewK : PE X (.Dict [] [] pos) tDNewK := fun pins s σ H Q I h =>
  wpAny_Dict_empty ⟨.ref s.heap.objs.size, _, I.laid (a := s.heap.objs.size) (o := .dK []) (t' := s.toks) (fun _ _ q => Heap.get?_push_of_some _ q) (Nat.le_refl _) (dk_empty s.heap I.big), rfl, h _ (I.hok.fresh (Nat.le_refl _))⟩
end
/-- the pairs of a display, from the left -/
def tPairs : List (TE × TE) → St → Hp → (List (V × V) → Hp → Prop) → Prop
  | [], _, H, Q => Q [] H
  | (tk, tv) :: r, σ, H, Q => tk σ H fun x H1 => tv σ H1 fun y H2 => tPairs r σ H2 fun ps H3 => Q ((x, y) :: ps) H3
abbrev VV : List (V × V) → List (Value × Value) → Prop := Paired fun p q => RelV p.1 q.1 ∧ RelV p.2 q.2
def PPs (X : Cx) (pos : Pos) (keys : List (Option Expr)) (values : List Expr) (trs : List (TE × TE)) : Prop :=
  ∀ (pins : List (Addr × Obj)) (s : Shared) (σ : St) (H : Hp) (Q : List (V × V) → Hp → Prop), Inv X pins σ H s → tPairs trs σ H Q →
    wpAny (model X.prog X.w) X.A (evalPairs (pairTrees keys values X.env pos)) (fun vs s' => ∃ ps H', Inv X pins σ H' s' ∧ VV ps vs ∧ Q ps H') X.xe s
def mergeK (kvs more : List (Key × V)) : List (Key × V) := more.foldl (fun acc kv => putK acc kv.1 kv.2) kvs
/-- {k: v, ..} with keys ints and texts; the new dict stands empty while the pairs are made -/
def tDisp (trs : List (TE × TE)) : TE := fun σ H Q => ∀ p, H p = none → tPairs trs σ (upd H p (.dK [])) fun ps H2 => H2 p = some (.dK []) ∧ ∃ kvs : List (Key × V), ps = kvs.map (fun kv => (kV kv.1, kv.2)) ∧ kvs.length ≤ 15 ∧ Q (.ref p) (upd H2 p (.dK (mergeK [] kvs)))
/-! ### methods -/
/-- a method call o.m(e) of a built-in, with one argument: what must be seen of the text -/
structure M1 (X : Cx) (o : Expr) (m : Str) (apos : Pos) (e : Expr) (cpos : Pos) : Prop where
  base : attributeBase o m X.env (eval o X.env) = eval o X.env
  few : ((backTo cpos (starEach [e] X.env)).all (fun x => !x.1) && (backToKw cpos (keywordEach [] X.env)).all (fun x => x.1.isSome)
    && decide (([e] : List Expr).length + ([] : List Keyword).length + (if ([] : List Keyword).isEmpty then 0 else 1) < 30)) = true
  line : (apos.endLine == cpos.line) = true
  trees : backTo cpos (starEach [e] X.env) = [(false, eval e X.env)]
structure M2 (X : Cx) (o : Expr) (m : Str) (apos : Pos) (e f : Expr) (cpos : Pos) : Prop where
  base : attributeBase o m X.env (eval o X.env) = eval o X.env
  few : ((backTo cpos (starEach [e, f] X.env)).all (fun x => !x.1) && (backToKw cpos (keywordEach [] X.env)).all (fun x => x.1.isSome)
    && decide (([e, f] : List Expr).length + ([] : List Keyword).length + (if ([] : List Keyword).isEmpty then 0 else 1) < 30)) = true
  line : (apos.endLine == cpos.line) = true
  trees : backTo cpos (starEach [e, f] X.env) = [(false, eval e X.env), (false, eval f X.env)]
/-- a is a dict, whatever its keys -/
def IsD (H : Hp) (a : Addr) : Prop := (∃ kvs, Rd H a (.dK kvs)) ∨ ∃ kvs, Rd H a (.dT kvs)
section
variable {X : Cx} {pins : List (Addr × Obj)} {σ : St} {H : Hp} {s : Shared} {a : Addr} {y d : V} {u r : Value} {o : Option V} {A : Around} {E : Value → Shared → Prop}
end
def tDGet1 (td ty : TE) : TE := fun σ H Q => td σ H fun x H1 => ∃ a, x = .ref a ∧ IsD H1 a ∧ ty σ H1 fun y H2 => ∃ o, DGet H2 a y o ∧ Q (o.getD .non) H2
def tDGet2 (td ty tx : TE) : TE := fun σ H Q => td σ H fun x H1 => ∃ a, x = .ref a ∧ IsD H1 a ∧ ty σ H1 fun y H2 => tx σ H2 fun z H3 => ∃ o, DGet H3 a y o ∧ Q (o.getD z) H3
/-- d.pop(k): there; d.pop(k, x): there or not -/
def tDPop1 (td ty : TE) : TE := fun σ H Q => td σ H fun x H1 => ∃ a, x = .ref a ∧ IsD H1 a ∧ ty σ H1 fun y H2 => ∃ kvs k v, H2 a = some (.dK kvs) ∧ y = kV k ∧ valV kvs k = some v ∧ Q v (upd H2 a (.dK (dropK kvs k)))
def tDPop2 (td ty tx : TE) : TE := fun σ H Q => td σ H fun x H1 => ∃ a, x = .ref a ∧ IsD H1 a ∧ ty σ H1 fun y H2 => tx σ H2 fun z H3 => ∃ kvs k, H3 a = some (.dK kvs) ∧ y = kV k ∧
  (∀ v, valV kvs k = some v → Q v (upd H3 a (.dK (dropK kvs k)))) ∧ (valV kvs k = none → Q z H3)
section
variable {X : Cx} {o e f : Expr} {apos cpos : Pos} {td ty tx : TE}
end
/-! ### dict(d): a copy -/
section
variable {X : Cx} {pins : List (Addr × Obj)} {σ : St} {H : Hp} {s : Shared} {a : Addr} {kvs : List (Key × V)} {A : Around} {E : Value → Shared → Prop}
end
section
variable {X : Cx} {pins : List (Addr × Obj)} {σ : St} {H : Hp} {s : Shared} {a : Addr} {y : V} {u : Value} {A : Around} {E : Value → Shared → Prop}
end
end L2
namespace L2
open PySem PySem.Spec PyProof.Rows
/-! ### d.setdefault(k, v), k a tuple -/
section
variable {X : Cx} {pins : List (Addr × Obj)} {σ : St} {H : Hp} {s : Shared} {a b : Addr} {v : V} {u r : Value} {A : Around} {E : Value → Shared → Prop} {kvs : List (List Key × V)} {k : List Key}
end
end L2
namespace M
open PySem PySem.Spec L2
/-! ### dicts whose keys are tuples of ints and texts -/
def keyOf : D → Option Key
  | .int i => some (.inl i)
  | .str cs => some (.inr (strOf cs))
  | _ => none
def keysOf : List D → Option (List Key)
  | [] => some []
  | d :: ds => (keyOf d).bind fun k => (keysOf ds).map fun ks => k :: ks
def valM (kvs : List (List Key × D)) (k : List Key) : Option D := (kvs.find? fun kv => decide (kv.1 = k)).map (·.2)
@[simp] theorem keyOf_str (cs : List Nat) : keyOf (.str cs) = some (.inr (strOf cs)) := by_rfl rfl
theorem RepKV.len {κ : Type} {K : PySem.W.Frag} {μ : List Addr} {H : Hp} : ∀ {kvs : List (κ × D)} {ws : List (κ × V)}, RepKV K μ H kvs ws → kvs.length = ws.length
  | [], ws, h => by rw [RepKV] at h; rw [h]; rfl
  | (j, d) :: r, ws, h => by
    obtain ⟨v, r', rfl, h1, h2⟩ := h
    rw [List.length_cons, List.length_cons, RepKV.len h2]
section
variable {X : Cx} {e a b c o : Expr} {es : List Expr} {ma mb mc mo : ME} {mA : MA} {pos p2 p apos cpos : Pos}
/-- {} -/
def dicE : ME := fun _ st => .ok (.loc st.length) (st ++ [.dic []])
/-- d.get(k) -/
def getV : D → List D → Stor → R D
  | .loc n, [.tup ks], st => match st[n]?, keysOf ks with
    | some (.dic kvs), some k => .ok ((valM kvs k).getD .non) st
    | _, _ => .bad
  | _, _, _ => .bad
/-- d.setdefault(k, v) -/
def setdefV : D → List D → Stor → R D
  | .loc n, [.tup ks, d], st => match st[n]?, keysOf ks with
    | some (.dic kvs), some k => if kvs.length < 1000000 then (match valM kvs k with
      | some d' => .ok d' st
      | none => .ok d (st.set n (.dic (kvs ++ [(k, d)])))) else .bad
    | _, _ => .bad
  | _, _, _ => .bad
end
end M
namespace L2
open PySem PySem.Spec PyProof.Rows
/-! ### for c in text (of signs below 128) -/
def Its (x : Str) : It := ⟨fun i _ => i < x.cps.size, fun i H y H' => H' = H ∧ ∃ c, x.cps[i]? = some c ∧ y = .str ⟨#[c]⟩, fun i _ => x.cps.size ≤ i⟩
def iStr (tl : TE) : TI := fun σ H R => tl σ H fun y H1 => ∃ x, y = .str x ∧ strIterType x = "str_ascii_iterator" ∧ R (Its x) H1
end L2
namespace M
open PySem PySem.Spec L2
section
variable {X : Cx} {tg l : Expr} {ml : ME} {μ : List Addr} {H : Hp}
def strI (m : ME) : MI := fun env st => (m env st).bind fun d st1 => match d with
  | .str cs => if cs.all (fun c => decide (c < 128)) = true then .ok (cs.map fun c => D.str [c], []) st1 else .bad
  | _ => .bad
end
end M
namespace L2
open PySem PySem.Spec PyProof.Rows
end L2
namespace M
open PySem PySem.Spec L2
def intsOf : List D → Option (List Int)
  | [] => some []
  | .int i :: r => (intsOf r).map (i :: ·)
  | _ :: _ => none
def sumV : List D → Stor → R D
  | [.loc n], st => match (itemsAt st n).bind intsOf with | some ns => .ok (.int ns.sum) st | none => .bad
  | _, _ => .bad
end M
namespace M
open L2
/-! ### more rules for running, and plain facts -/
theorem cut_map {α β : Type} (f : α → β) (l : List α) (lo hi : Option Int) : cut (l.map f) lo hi = (cut l lo hi).map f := by
  unfold cut
  rw [List.length_map, List.map_take, List.map_drop]
theorem unders_ints (n : Nat) (cs : List Int) : unders n (cs.map D.int) := by
  induction cs with
  | nil => simp
  | cons c cs ih => simp [ih]
theorem upto_len (lo : Int) (n : Nat) : (upto lo n).length = n := by simp [upto]
section
variable (st : Stor)
theorem r_ix_str (cs : List Nat) (i : Int) (c : Nat) (h : cs.length ≤ 1000000) (hi : atI cs i = some c) : ixV (.str cs) (.int i) st = .ok (.str [c]) st := by simp [ixV, h, hi]
end
end M
namespace M
open PySem PySem.Spec L2
section
variable {X : Cx}
/-! ### k in d, k not in d, d[k] = v, d[k] (keys that are tuples), l.pop() -/
def inDV (neg : Bool) : D → D → Stor → R D
  | .tup ks, .loc n, st => match st[n]?, keysOf ks with
    | some (.dic kvs), some k => .ok (.bl (if neg then !(valM kvs k).isSome else (valM kvs k).isSome)) st
    | _, _ => .bad
  | _, _, _ => .bad
/-- in its place, or at the end -/
def putM (kvs : List (List Key × D)) (k : List Key) (d : D) : List (List Key × D) :=
  if (kvs.any fun kv => decide (kv.1 = k)) = true then kvs.map (fun kv => if kv.1 = k then (kv.1, d) else kv) else kvs ++ [(k, d)]
def setDV : D → D → D → Stor → R Unit
  | .loc n, .tup ks, d, st => match st[n]?, keysOf ks with
    | some (.dic kvs), some k => if kvs.length < 1000000 then .ok () (st.set n (.dic (putM kvs k d))) else .bad
    | _, _ => .bad
  | _, _, _, _ => .bad
/-- l.pop() -/
def popV : D → List D → Stor → R D
  | .loc n, [], st => match st[n]? with
    | some (.lst ds) => (match ds[ds.length - 1]? with | some d => .ok d (st.set n (.lst ds.dropLast)) | none => .bad)
    | _ => .bad
  | _, _, _ => .bad
theorem RepVs.dropLast {K : PySem.W.Frag} {μ : List Addr} {H : Hp} : ∀ {ds : List D} {xs : List V}, RepVs K μ H ds xs → RepVs K μ H ds.dropLast xs.dropLast
  | [], xs, h => by rw [RepVs] at h; subst h; exact RepVs.nil
  | [d], xs, h => by obtain ⟨v, rfl, _⟩ := RepVs.one h; exact RepVs.nil
  | d :: e :: ds, xs, h => by
    rw [RepVs] at h
    obtain ⟨v, r, rfl, h1, h2⟩ := h
    obtain ⟨w, r', rfl, h3, h4⟩ := (by rw [RepVs] at h2; exact h2 : ∃ v r', r = v :: r' ∧ RepV K μ H e v ∧ RepVs K μ H ds r')
    rw [List.dropLast_cons_cons, List.dropLast_cons_cons]
    exact RepVs.cons h1 (RepVs.dropLast h2)
theorem mt_popV : MtR X "list.pop" (rMM X popV) := by
  refine MtR.weak mt_pop ?_
  rintro x xs H Q ⟨μ, st, d, ds, hs, hx, hxs, hp⟩
  unfold popV at hp
  split at hp
  · rename_i n
    cases e : st[n]? with
    | none => rw [e] at hp; exact hp.elim
    | some mo =>
      cases mo with
      | lst l =>
        rw [e] at hp
        dsimp only at hp
        cases e2 : l[l.length - 1]? with
        | none => rw [e2] at hp; exact hp.elim
        | some d =>
          rw [e2] at hp
          obtain ⟨p, q1, rfl⟩ := RepV.loc_iff.mp hx
          rw [RepVs] at hxs
          obtain ⟨p', ys, r1, r2, r3⟩ := hs.lst e
          rw [q1] at r1; cases r1
          obtain ⟨v, z1, z2⟩ := r3.get e2
          obtain ⟨g, hs'⟩ := putLst hs e q1 r2 r3.dropLast
          exact ⟨p, ys, v, rfl, hxs, r2, by rw [← r3.length]; exact z1, hp _ _ μ g hs' (z2.mono g _)⟩
      | _ => rw [e] at hp; exact hp.elim
  · exact hp.elim
end
end M
namespace L2
open PySem PySem.Spec PyProof.Rows
end L2
namespace M
open PySem PySem.Spec L2
section
variable {X : Cx}
def textsOf : List D → Option (List (List Nat))
  | [] => some []
  | .str cs :: r => (textsOf r).map (cs :: ·)
  | _ :: _ => none
def joinM (sep : List Nat) (ts : List (List Nat)) : List Nat := (Txt.join (strOf sep) (ts.map strOf)).cps.toList
def splitM (cs sep : List Nat) : List (List Nat) := (Txt.split (strOf cs) (strOf sep)).map fun y => y.cps.toList
def joinV : D → List D → Stor → R D
  | .str sep, [.loc n], st => match (itemsAt st n).bind textsOf with
    | some ts => if (ts.map List.length).sum + ts.length * sep.length ≤ 1000000 then .ok (.str (joinM sep ts)) st else .bad
    | none => .bad
  | _, _, _ => .bad
def splitV : D → List D → Stor → R D
  | .str cs, [.str sep], st => if sep.length ≠ 0 ∧ cs.length ≤ 1000000 then .ok (.loc st.length) (st ++ [.lst ((splitM cs sep).map D.str)]) else .bad
  | _, _, _ => .bad
end
end M
namespace M
open PySem PySem.Spec L2
/-! ### join and split are one another's way back -/
def joinL (sep : List Nat) : List (List Nat) → List Nat
  | [] => []
  | [t] => t
  | t :: u :: r => t ++ sep ++ joinL sep (u :: r)
end M
namespace L2
open PySem PySem.Spec PyProof.Rows
end L2
namespace M
open PySem PySem.Spec L2
/-! ### text * n -/
def mulSV : D → D → Stor → R D
  | .str cs, .int i, st => if 0 ≤ i ∧ i ≤ 1000000 ∧ cs.length * i.toNat ≤ 1000000 then .ok (.str (List.replicate i.toNat cs).flatten) st else .bad
  | _, _, _ => .bad
section
variable {X : Cx} {a b c : Expr} {ma mb mc : ME} {pos : Pos}
/-! ### a op1 b op2 c -/
def chainE (g g' : D → D → Stor → R D) (a b c : ME) : ME := fun env st => (a env st).bind fun x st1 => (b env st1).bind fun y st2 => (g x y st2).bind fun z st3 => match z with
  | .bl true => (c env st3).bind fun w st4 => g' y w st4
  | .bl false => .ok (.bl false) st3
  | _ => .bad
/-! ### str(i), str(text) -/
def strC : List D → Stor → R D
  | [.int i], st => if i.natAbs.log2 < 1920 then .ok (.str (toString i : Str).cps.toList) st else .bad
  | _, _ => .bad
end
end M
namespace M
open PySem PySem.Spec L2
section
variable {X : Cx} {pos : Pos} {x : Str}
/-! ### a module's constants; what is never reached -/
theorem je_globV {d : D} {v : V} {u : Value} (hg : Gl X x) (hm : X.mg x = some u) (r : RelV v u) (hv : ∀ μ H, RepV X.K μ H d v) (hd : (x == ("__debug__" : Str)) = false := by decide) : JE X (.Name x pos) (ct d) :=
  JE.of (pe_glob hg hm r hd) fun σ H Q ⟨μ, env, st, hE, hs, hp⟩ => hp.ret hs (hv μ H)
theorem je_globI {i : Int} (h : ∃ t, X.mg x = some (.int i t)) (hg : Gl X x := by rfl) (hd : (x == ("__debug__" : Str)) = false := by decide) : JE X (.Name x pos) (ct (.int i)) := by
  obtain ⟨t, h⟩ := h
  exact je_globV (v := .int i) hg h ⟨t, rfl⟩ (fun _ _ => RepV.int_iff.mpr rfl) hd
def badS : MS := fun _ _ => .bad
end
end M
namespace M
open L2
section
variable (st : Stor)
end
end M
namespace M
open L2
/-! split at one sign, plainly -/
def splitL (c : Nat) : List Nat → List (List Nat)
  | [] => [[]]
  | x :: xs => if x = c then [] :: splitL c xs else match splitL c xs with
    | [] => [[x]]
    | t :: ts => (x :: t) :: ts
end M
namespace M
open L2
/-- a loop without early leave, by the turn's number -/
theorem forGo_ix {g : MG} {b : MS} {gs : List (Nat × MO)} {items : List D} (I : Nat → MEnv → Stor → Prop) {env : MEnv} {st : Stor} (h0 : I 0 env st)
    (step : ∀ i d env st, items[i]? = some d → I i env st → okG gs st ∧ ∃ env1 st1, g d env st = .ok env1 st1 ∧ ∃ env2 st2, (b env1 st1 = .ok (.nx env2) st2 ∨ b env1 st1 = .ok (.cn env2) st2) ∧ I (i + 1) env2 st2)
    (hend : ∀ env st, I items.length env st → okG gs st) : ∃ env' st', forGo g b gs items env st = .ok (.nx env') st' ∧ I items.length env' st' := by
  refine forGo_all (fun pre env st => I pre.length env st) h0 (fun pre d post env st e hI => ?_) hend
  have := step pre.length d env st (by rw [e]; simp) hI
  simpa using this
theorem upto_get {lo : Int} {n i : Nat} {d : D} (h : (upto lo n)[i]? = some d) : i < n ∧ d = .int (lo + (i : Nat)) := by
  have h2 : i < n := by
    have := (List.getElem?_eq_some_iff.mp h).1
    rwa [upto_len] at this
  unfold upto at h
  rw [List.getElem?_map, List.getElem?_range h2] at h
  exact ⟨h2, (Option.some.inj h).symm⟩
theorem map_get {α : Type} {f : α → D} {xs : List α} {i : Nat} {d : D} (h : (xs.map f)[i]? = some d) : ∃ x, xs[i]? = some x ∧ d = f x := by
  rw [List.getElem?_map] at h
  cases e : xs[i]? with
  | none => rw [e] at h; cases h
  | some x => rw [e] at h; exact ⟨x, rfl, (Option.some.inj h).symm⟩
end M
namespace M
open L2
theorem pickS (cs : List Nat) (i : Int) (h0 : 0 ≤ i) (h1 : i < cs.length) (hl : cs.length ≤ 1000000) : ∃ c, c ∈ cs ∧ ∀ st, ixV (.str cs) (.int i) st = .ok (.str [c]) st := by
  obtain ⟨j, rfl⟩ := Int.eq_ofNat_of_zero_le h0
  have hj : j < cs.length := by omega
  exact ⟨cs[j], List.getElem_mem hj, fun st => r_ix_str st cs _ _ hl (by rw [atI_ofNat]; exact List.getElem?_eq_getElem hj)⟩
abbrev Asc (t : List Nat) : Prop := ∀ c ∈ t, c < 128
end M
namespace M
open L2
/-- a or b, a a text -/
def orS (a b : ME) : ME := fun env st => (a env st).bind fun x st1 => match x with
  | .str cs => if cs.length ≤ 1000000 then (if cs = [] then b env st1 else .ok x st1) else .bad
  | _ => .bad
/-- text * truth -/
def mulSBV : D → D → Stor → R D
  | .str cs, .bl b, st => if cs.length ≤ 1000000 then .ok (.str (if b then cs else [])) st else .bad
  | _, _, _ => .bad
end M
namespace M
open L2
/-! ### while, without fuel -/
theorem whileS_succ {c : MT} {b : MS} : ∀ (n : Nat) (env : MEnv) (st : Stor), whileS c b n env st ≠ .bad → whileS c b (n + 1) env st = whileS c b n env st
  | 0, env, st, h => absurd (by rw [whileS]) h
  | n + 1, env, st, h => by
    rw [whileS] at h
    rw [whileS, whileS]
    cases e : c env st with
    | bad => rfl
    | err x s => rfl
    | ok x st1 =>
      rw [e, R.bind_ok] at h
      rw [R.bind_ok, R.bind_ok]
      cases x with
      | false => rfl
      | true =>
        rw [if_pos rfl] at h ⊢
        rw [if_pos rfl]
        cases e2 : b env st1 with
        | bad => rfl
        | err x s => rfl
        | ok o st2 =>
          rw [e2, R.bind_ok] at h
          rw [R.bind_ok, R.bind_ok]
          cases o with
          | nx env2 => exact whileS_succ n env2 st2 h
          | cn env2 => exact whileS_succ n env2 st2 h
          | bk env2 => rfl
          | rt d => rfl
theorem whileS_add {c : MT} {b : MS} {n : Nat} {env : MEnv} {st : Stor} (h : whileS c b n env st ≠ .bad) : ∀ k, whileS c b (n + k) env st = whileS c b n env st
  | 0 => rfl
  | k + 1 => by
    have := whileS_add h k
    rw [← Nat.add_assoc, whileS_succ (n + k) env st (by rw [this]; exact h), this]
open Classical in
noncomputable def whileW (c : MT) (b : MS) : MS := fun env st => if h : ∃ n, whileS c b n env st ≠ .bad then whileS c b (Classical.choose h) env st else .bad
theorem whileW_of {c : MT} {b : MS} {n : Nat} {env : MEnv} {st : Stor} (h : whileS c b n env st ≠ .bad) : whileW c b env st = whileS c b n env st := by
  have hx : ∃ n, whileS c b n env st ≠ .bad := ⟨n, h⟩
  unfold whileW
  rw [dif_pos hx]
  have h2 := Classical.choose_spec hx
  generalize Classical.choose hx = m at h2 ⊢
  by_cases hmn : m ≤ n
  · obtain ⟨k, rfl⟩ := Nat.le.dest hmn
    exact (whileS_add h2 k).symm
  · obtain ⟨k, rfl⟩ := Nat.le.dest (show n ≤ m by omega)
    exact whileS_add h k
theorem whileW_ex {c : MT} {b : MS} {env : MEnv} {st : Stor} : whileW c b env st = .bad ∨ ∃ n, whileW c b env st = whileS c b n env st := by
  unfold whileW
  split
  · exact .inr ⟨_, rfl⟩
  · exact .inl rfl
/-- a turn of a while -/
theorem whileW_eq (c : MT) (b : MS) (env : MEnv) (st : Stor) : whileW c b env st = (c env st).bind fun x st1 => if x then (b env st1).bind fun o st2 => (match o with
      | .nx env2 => whileW c b env2 st2
      | .cn env2 => whileW c b env2 st2
      | .bk env2 => .ok (.nx env2) st2
      | .rt d => .ok (.rt d) st2) else .ok (.nx env) st1 := by
  have one : ∀ n, whileS c b (n + 1) env st = (c env st).bind fun x st1 => if x then (b env st1).bind fun o st2 => (match o with
      | .nx env2 => whileS c b n env2 st2
      | .cn env2 => whileS c b n env2 st2
      | .bk env2 => .ok (.nx env2) st2
      | .rt d => .ok (.rt d) st2) else .ok (.nx env) st1 := fun n => by rw [whileS] <;> rfl
  have bd : (∀ n, whileS c b (n + 1) env st = .bad) → whileW c b env st = .bad := fun h => by
    unfold whileW
    rw [dif_neg]
    rintro ⟨n, hn⟩
    cases n with
    | zero => exact hn (by rw [whileS])
    | succ n => exact hn (h n)
  have go : ∀ (env2 : MEnv) (st2 : Stor), (∀ n, whileS c b (n + 1) env st = whileS c b n env2 st2) → whileW c b env st = whileW c b env2 st2 := fun env2 st2 h => by
    by_cases hx : ∃ n, whileS c b n env2 st2 ≠ .bad
    · obtain ⟨n, hn⟩ := hx
      rw [whileW_of hn, ← h n, whileW_of (n := n + 1) (by rw [h n]; exact hn)]
    · have e2 : whileW c b env2 st2 = .bad := by unfold whileW; rw [dif_neg hx]
      rw [e2]
      refine bd fun n => ?_
      rw [h n]
      by_cases q : whileS c b n env2 st2 = .bad
      · exact q
      · exact absurd ⟨n, q⟩ hx
  cases e : c env st with
  | bad => rw [R.bind_bad]; exact bd fun n => by rw [one n, e, R.bind_bad]
  | err x s =>
    rw [R.bind_err]
    have : whileS c b 1 env st = .err x s := by rw [one 0, e, R.bind_err]
    rw [whileW_of (n := 1) (by rw [this]; exact fun z => nomatch z), this]
  | ok x st1 =>
    rw [R.bind_ok]
    cases x with
    | false =>
      have : whileS c b 1 env st = .ok (.nx env) st1 := by rw [one 0, e, R.bind_ok]; rfl
      rw [whileW_of (n := 1) (by rw [this]; exact fun z => nomatch z), this]; rfl
    | true =>
      rw [if_pos rfl]
      cases e2 : b env st1 with
      | bad => rw [R.bind_bad]; exact bd fun n => by rw [one n, e, R.bind_ok, if_pos rfl, e2, R.bind_bad]
      | err x s =>
        rw [R.bind_err]
        have : whileS c b 1 env st = .err x s := by rw [one 0, e, R.bind_ok, if_pos rfl, e2, R.bind_err]
        rw [whileW_of (n := 1) (by rw [this]; exact fun z => nomatch z), this]
      | ok o st2 =>
        rw [R.bind_ok]
        cases o with
        | nx env2 => exact go env2 st2 fun n => by rw [one n, e, R.bind_ok, if_pos rfl, e2, R.bind_ok]
        | cn env2 => exact go env2 st2 fun n => by rw [one n, e, R.bind_ok, if_pos rfl, e2, R.bind_ok]
        | bk env2 =>
          have : whileS c b 1 env st = .ok (.nx env2) st2 := by rw [one 0, e, R.bind_ok, if_pos rfl, e2, R.bind_ok]
          rw [whileW_of (n := 1) (by rw [this]; exact fun z => nomatch z), this]
        | rt d =>
          have : whileS c b 1 env st = .ok (.rt d) st2 := by rw [one 0, e, R.bind_ok, if_pos rfl, e2, R.bind_ok]
          rw [whileW_of (n := 1) (by rw [this]; exact fun z => nomatch z), this]
/-! ### more of texts -/
/-- t.rstrip(c), c one sign -/
def rstripL (c : Nat) (cs : List Nat) : List Nat := (cs.reverse.dropWhile (fun x => decide (x = c))).reverse
def rstripV : D → List D → Stor → R D
  | .str cs, [.str [c]], st => if cs.length ≤ 1000000 then .ok (.str (rstripL c cs)) st else .bad
  | _, _, _ => .bad
/-- c in t, c one sign -/
def inSV : D → D → Stor → R D
  | .str [c], .str cs, st => if cs.length ≤ 1000000 then .ok (.bl (decide (c ∈ cs))) st else .bad
  | _, _, _ => .bad
end M
namespace M
open L2
theorem rstripL_nil (c : Nat) : rstripL c [] = [] := rfl
end M
namespace L2
open PySem PySem.Spec PyProof.Rows
section
variable {X : Cx} {a b : Expr} {rest : List Expr} {pos : Pos} {ta tb : TE}
/-- a or b, by a's truth -/
def tOrG (K : PySem.W.Frag) (ta tb : TE) : TE := fun σ H Q => ta σ H fun x H1 => ∃ k, TruV K x H1 k ∧ if k = true then Q x H1 else tb σ H1 Q
end
end L2
namespace M
open PySem PySem.Spec L2
section
variable {X : Cx} {a b c : Expr} {ma mb mc : ME} {pos : Pos} {rest : List Expr}
/-! while -/
theorem js_whileW {body : List Stmt} {tc : MT} {mb : MS} (hc : JT X c tc) (hb : JSs X body mb) (hp : PassesOwn (model X.prog X.w) X.A X.env X.xe) : JS X (.While c body [] pos) (whileW tc mb) := by
  rintro pins s σ H D I ⟨μ, env, st, hE, hs, q⟩
  rcases whileW_ex (c := tc) (b := mb) (env := env) (st := st) with e | ⟨n, e⟩
  · rw [e] at q; exact q.elim
  · rw [e] at q
    exact js_while n hc hb hp pins s σ H D I ⟨μ, env, st, hE, hs, q⟩
/-! c in t, t.rstrip(c) -/
end
end M
namespace L2
open PySem PySem.Spec PyProof.Rows PySem.Builtin PySem.Builtin.Str
/-! ### text * truth -/
end L2
namespace M
open PySem PySem.Spec L2
/-! ### defs with a default -/
structure FunD (K : PySem.W.Frag) (x qual : Str) (st : Stmt) (f : Addr) (fd : FuncData) : Prop where
  ex : ∃ (oc : Value) (od : Option Addr) (dV kV doc pm : Value) (an : Option Addr) (cdv ct : Value) (osl : Array (Option Value)),
    fd = PySem.W.fnOf x qual (defArgs st) (defBody st) (defScope st) dV kV doc pm an cdv ct ∧ K.lookup f = some ⟨oc, od, .func fd, osl⟩ ∧ PySem.W.codeIn K cdv qual = true
  kp : PySem.W.keepIn K (.ref f) = true
section
variable {P : Program} {w : World} {K : PySem.W.Frag} {mg : Str → Option Value} {base : Heap}
theorem fn_okD {x qual : Str} {st : Stmt} {f : Addr} {fd : FuncData} {N ps : List Str} {k : Nat} {m : MS} (F : FunD K x qual st f fd) (S : FnScope N ps (defScope st))
    (hbody : ∀ (cdv : Value) (A : Around) (outer : List Env) (s : Shared) (H : Hp), Room k (A.deeper (PyProof.Rows.envOfC qual (defScope st) s.heap.objs.size f cdv)) →
      JSs (cxOf CX0 P w K mg base N qual (defScope st) f cdv A outer s H E0).nox (defBody st) m) : FnOk P w K mg base CX0 (k + 1) f fd ps (spM K ps.length (fnM N.length m)) := by
  obtain ⟨oc, od, dV, kV, doc, pm, an, cdv, ct, osl, rfl, lk, hcd⟩ := F.ex
  refine fn_of lk hcd S (fun vs H Q E h => h.1) fun A outer s H vs Q E hr h => ?_
  obtain ⟨hl, μ, ds, sto, hv, hs, hp⟩ := h
  have hb := hbody cdv A outer s H hr
  refine ⟨_, PSs.nox hb, μ, startM N.length ds, sto, RepVs.start N hv, hs, ?_⟩
  unfold fnM at hp
  cases hr : m (startM N.length ds) sto with
  | bad => rw [hr] at hp; exact hp.elim
  | err x st1 => rw [hr] at hp; exact hp.elim
  | ok o st1 =>
    rw [hr] at hp
    cases o with
    | rt d => exact hp
    | nx env => exact fun σ' H' μ' g hs' _ => hp .non H' μ' g hs' (RepV.non_iff.mpr rfl)
    | bk env => exact hp.elim
    | cn env => exact hp.elim
theorem fund_mk {x qual : Str} {st : Stmt} {f : Addr} {oc : Value} {od an : Option Addr} {osl : Array (Option Value)} {dV kV doc pm cdv ct : Value} (l : K.lookup f = some ⟨oc, od, .func (PySem.W.fnOf x qual (defArgs st) (defBody st) (defScope st) dV kV doc pm an cdv ct), osl⟩)
    (c : PySem.W.codeIn K cdv qual = true) (k : PySem.W.keepIn K (.ref f) = true) : FunD K x qual st f (PySem.W.fnOf x qual (defArgs st) (defBody st) (defScope st) dV kV doc pm an cdv ct) := ⟨⟨oc, od, dV, kV, doc, pm, an, cdv, ct, osl, rfl, l, c⟩, k⟩
/-- how the arguments of a def with one default bind: all given -/
theorem bindsD {x qual : Str} {st : Stmt} {ps : List Str} {T : Addr} {oc : Value} {od : Option Addr} {d : Value} {n : Nat} {osl : Array (Option Value)} {kV doc pm cdv ct : Value} {an : Option Addr} (l : K.lookup T = some ⟨oc, od, .seq #[d] n, osl⟩)
    (h : ∀ us : List Value, us.length = ps.length → ∃ k : Option (Array Value) → Sem (List (Str × Value)), bindArgs (PySem.W.fnOf x qual (defArgs st) (defBody st) (defScope st) (.ref T) kV doc pm an cdv ct) ⟨us, []⟩ = seqItems? (.ref T) >>= k ∧ k (some #[d]) = pure (ps.zip us)) :
    Binds K (PySem.W.fnOf x qual (defArgs st) (defBody st) (defScope st) (.ref T) kV doc pm an cdv ct) ps [] := fun s us hK hl => by
  rw [List.append_nil] at hl ⊢
  obtain ⟨k, h1, h2⟩ := h us hl
  exact BindsTo.of_defaults (T := T) rfl (hK _ _ l) rfl h1 h2
/-- .. the default taken -/
theorem bindsD1 {x qual : Str} {st : Stmt} {ps : List Str} {T : Addr} {oc : Value} {od : Option Addr} {d : Value} {n : Nat} {osl : Array (Option Value)} {kV doc pm cdv ct : Value} {an : Option Addr} (l : K.lookup T = some ⟨oc, od, .seq #[d] n, osl⟩)
    (h : ∀ us : List Value, us.length + 1 = ps.length → ∃ k : Option (Array Value) → Sem (List (Str × Value)), bindArgs (PySem.W.fnOf x qual (defArgs st) (defBody st) (defScope st) (.ref T) kV doc pm an cdv ct) ⟨us, []⟩ = seqItems? (.ref T) >>= k ∧ k (some #[d]) = pure (ps.zip (us ++ [d]))) :
    Binds K (PySem.W.fnOf x qual (defArgs st) (defBody st) (defScope st) (.ref T) kV doc pm an cdv ct) ps [d] := fun s us hK hl => by
  obtain ⟨k, h1, h2⟩ := h us (by simpa using hl)
  exact BindsTo.of_defaults (T := T) rfl (hK _ _ l) rfl h1 h2
end
section
variable {X : Cx} {e : Expr} {es : List Expr} {mA : MA} {pos p : Pos} {x : Str} {k : Nat} {f : Addr} {fd : FuncData} {ps : List Str} {F : FD} {i : Int}
end
end M
namespace M
open PySem PySem.Spec L2
/-- room for == of deeper things -/
theorem huL (L : Nat) {A : Around} {k : Nat} (hr : Room k A) (h : L ≤ 16 * k + 200) : A.units + L < cLine := by have := hr.un; omega
end M
namespace M
/-! ### trees -/
inductive Tr where
  | lf (s : List Nat) | jn (l r : Tr)
namespace Tr
def isSj : Tr → Bool
  | .jn (.lf s) _ => s == [83]
  | _ => false
def val : Tr → Bool
  | .lf _ => true
  | .jn l r => val r && (match l with
    | .lf s => s == [83] || s == [75]
    | .jn _ _ => isSj l && val l)
def lv : Tr → Nat
  | .lf _ => 1
  | .jn l r => lv l + lv r
def dp : Tr → Nat
  | .lf _ => 0
  | .jn l r => max (dp l) (dp r) + 1
theorem val_jn_leaf (s : List Nat) (r : Tr) : val (.jn (.lf s) r) = (val r && (s == [83] || s == [75])) := by rw [val]
theorem val_jn_jn (a b r : Tr) : val (.jn (.jn a b) r) = (val r && (isSj (.jn a b) && val (.jn a b))) := by rw [val]
theorem val_parts {l r : Tr} (h : val (.jn l r) = true) : val l = true ∧ val r = true := by
  cases l with
  | lf s => rw [val_jn_leaf, Bool.and_eq_true] at h; exact ⟨rfl, h.1⟩
  | jn a b => rw [val_jn_jn, Bool.and_eq_true, Bool.and_eq_true] at h; exact ⟨h.2.2, h.1⟩
theorem dp_lt_lv (t : Tr) : dp t < lv t := by
  induction t with
  | lf s => simp [dp, lv]
  | jn l r h1 h2 => rw [dp, lv]; omega
/-- what a joint of two values becomes that is itself none -/
def redex : Tr → Tr → Option Tr
  | .jn (.lf s) b, _ => if s = [75] then some b else none
  | .jn (.jn _ u) v, r => some (.jn (.jn u r) (.jn v r))
  | .lf _, _ => none
/-- one step -/
def step : Tr → Option Tr
  | .lf _ => none
  | .jn l r => if val l = false then (step l).map (fun x => .jn x r) else if val r = false then (step r).map (fun x => .jn l x) else if val (.jn l r) = true then none else redex l r
theorem step_val {t : Tr} (h : val t = true) : step t = none := by
  cases t with
  | lf s => rw [step]
  | jn l r =>
    obtain ⟨h1, h2⟩ := val_parts h
    rw [step, if_neg (by simp [h1]), if_neg (by simp [h2]), if_pos h]
theorem step_left {l r : Tr} (h : val l = false) : step (.jn l r) = (step l).map (fun x => .jn x r) := by rw [step, if_pos h]
theorem step_right {l r : Tr} (h1 : val l = true) (h : val r = false) : step (.jn l r) = (step r).map (fun x => .jn l x) := by rw [step, if_neg (by simp [h1]), if_pos h]
theorem step_here {l r : Tr} (h1 : val l = true) (h2 : val r = true) (h : val (.jn l r) = false) : step (.jn l r) = redex l r := by rw [step, if_neg (by simp [h1]), if_neg (by simp [h2]), if_neg (by simp [h])]
/-- a run of at most n steps -/
def run : Nat → Tr → Tr × Nat
  | 0, t => (t, 0)
  | n + 1, t => match step t with
    | none => (t, 0)
    | some u => ((run n u).1, (run n u).2 + 1)
theorem run_none {t : Tr} (h : step t = none) : ∀ n, run n t = (t, 0)
  | 0 => rfl
  | n + 1 => by rw [run, h]
theorem run_some {t u : Tr} (h : step t = some u) (n : Nat) : run (n + 1) t = ((run n u).1, (run n u).2 + 1) := by rw [run, h]
theorem run_le (n : Nat) : ∀ t, (run n t).2 ≤ n := by
  induction n with
  | zero => intro t; simp [run]
  | succ n ih =>
    intro t
    rw [run]
    cases step t with
    | none => simp
    | some u => have := ih u; simp; omega
theorem run_add (a b : Nat) : ∀ t, run (a + b) t = ((run b (run a t).1).1, (run a t).2 + (run b (run a t).1).2) := by
  induction a with
  | zero => intro t; simp [run]
  | succ a ih =>
    intro t
    rw [Nat.add_right_comm]
    cases h : step t with
    | none => rw [run_none h, run_none h, run_none h]; rfl
    | some u =>
      rw [run_some h, run_some h, ih u]
      simp only
      rw [Nat.add_right_comm]
/-- a run either uses all its steps, or comes to where there is none -/
theorem run_end (n : Nat) : ∀ t, (run n t).2 = n ∨ step (run n t).1 = none := by
  induction n with
  | zero => intro t; exact .inl rfl
  | succ n ih =>
    intro t
    cases h : step t with
    | none => rw [run_none h]; exact .inr h
    | some u =>
      rw [run_some h]
      rcases ih u with e | e
      · exact .inl (by simp [e])
      · exact .inr e
/-! frames: what waits above -/
inductive Fr where
  | fl (r : Tr) | fr (l : Tr)
def fill : Fr → Tr → Tr
  | .fl r, t => .jn t r
  | .fr l, t => .jn l t
def plug (fs : List Fr) (t : Tr) : Tr := fs.foldr fill t
def good (fs : List Fr) : Prop := ∀ f ∈ fs, ∀ l, f = .fr l → val l = true
theorem plug_snoc (fs : List Fr) (f : Fr) (t : Tr) : plug (fs ++ [f]) t = plug fs (fill f t) := by simp [plug]
theorem plug_cons (fs : List Fr) (f : Fr) (t : Tr) : plug (f :: fs) t = fill f (plug fs t) := rfl
theorem fill_val {f : Fr} {t : Tr} (h : val t = false) : val (fill f t) = false := by
  cases hv : val (fill f t) with
  | false => rfl
  | true =>
    cases f with
    | fl r => rw [(val_parts hv).1] at h; exact h
    | fr l => rw [(val_parts hv).2] at h; exact h
theorem plug_val {fs : List Fr} {t : Tr} (h : val t = false) : val (plug fs t) = false := by
  induction fs with
  | nil => exact h
  | cons f fs ih => exact fill_val ih
theorem step_plug {fs : List Fr} {t : Tr} (hg : good fs) (h : val t = false) : step (plug fs t) = (step t).map (plug fs) := by
  induction fs with
  | nil => show step t = _; cases step t <;> rfl
  | cons f fs ih =>
    have ih := ih fun f hf => hg f (List.mem_cons_of_mem _ hf)
    have hv := plug_val (fs := fs) h
    rw [plug_cons]
    cases f with
    | fl r =>
      show step (.jn (plug fs t) r) = _
      rw [step_left hv, ih]
      cases step t <;> rfl
    | fr l =>
      show step (.jn l (plug fs t)) = _
      rw [step_right (hg (.fr l) (by simp) l rfl) hv, ih]
      cases step t <;> rfl
theorem plug_dp (fs : List Fr) (t : Tr) : fs.length + dp t ≤ dp (plug fs t) := by
  induction fs with
  | nil => simp [plug]
  | cons f fs ih =>
    rw [plug_cons, List.length_cons]
    cases f with
    | fl r => show _ ≤ dp (.jn (plug fs t) r); rw [dp]; omega
    | fr l => show _ ≤ dp (.jn l (plug fs t)); rw [dp]; omega
theorem redex_dp {l r u : Tr} (h : redex l r = some u) : dp u ≤ dp (.jn l r) + 1 := by
  cases l with
  | lf s => rw [redex] at h; cases h
  | jn a b =>
    cases a with
    | lf s =>
      rw [redex] at h
      split at h
      · cases h
        rw [dp, dp]; omega
      · cases h
    | jn a c =>
      rw [redex] at h
      cases h
      simp only [dp]; omega
theorem step_dp : ∀ {t u : Tr}, step t = some u → dp u ≤ dp t + 1
  | .lf _, _, h => by rw [step] at h; cases h
  | .jn l r, u, h => by
    rw [step] at h
    split at h
    · cases e : step l with
      | none => rw [e] at h; cases h
      | some x =>
        rw [e] at h; cases h
        have := step_dp e
        rw [dp, dp]; omega
    · split at h
      · cases e : step r with
        | none => rw [e] at h; cases h
        | some x =>
          rw [e] at h; cases h
          have := step_dp e
          rw [dp, dp]; omega
      · split at h
        · cases h
        · exact redex_dp h
theorem run_dp (n : Nat) : ∀ t, dp (run n t).1 ≤ dp t + n := by
  induction n with
  | zero => intro t; simp [run]
  | succ n ih =>
    intro t
    cases h : step t with
    | none => rw [run_none h]; simp
    | some u =>
      rw [run_some h]
      have h1 := ih u
      have h2 := step_dp h
      simp only; omega
/-! trees of `S` and `K` alone are never stuck -/
def sk : Tr → Prop
  | .lf s => s = [83] ∨ s = [75]
  | .jn l r => sk l ∧ sk r
theorem sk_redex {l r u : Tr} (h : sk (.jn l r)) (e : redex l r = some u) : sk u := by
  cases l with
  | lf s => rw [redex] at e; cases e
  | jn a b =>
    cases a with
    | lf s =>
      rw [redex] at e
      split at e
      · cases e; exact h.1.2
      · cases e
    | jn a c =>
      rw [redex] at e
      cases e
      exact ⟨⟨h.1.1.2, h.2⟩, h.1.2, h.2⟩
theorem sk_step : ∀ {t u : Tr}, sk t → step t = some u → sk u
  | .lf _, _, _, h => by rw [step] at h; cases h
  | .jn l r, u, k, h => by
    rw [step] at h
    split at h
    · cases e : step l with
      | none => rw [e] at h; cases h
      | some x => rw [e] at h; cases h; exact ⟨sk_step k.1 e, k.2⟩
    · split at h
      · cases e : step r with
        | none => rw [e] at h; cases h
        | some x => rw [e] at h; cases h; exact ⟨k.1, sk_step k.2 e⟩
      · split at h
        · cases h
        · exact sk_redex k h
theorem sk_run (n : Nat) : ∀ {t : Tr}, sk t → sk (run n t).1 := by
  induction n with
  | zero => intro t h; exact h
  | succ n ih =>
    intro t h
    cases e : step t with
    | none => rw [run_none e]; exact h
    | some u => rw [run_some e]; exact ih (sk_step h e)
theorem sk_none : ∀ {t : Tr}, sk t → step t = none → val t = true
  | .lf _, _, _ => rfl
  | .jn l r, k, h => by
    rw [step] at h
    split at h
    · rename_i hl
      cases e : step l with
      | none => rw [sk_none k.1 e] at hl; cases hl
      | some x => rw [e] at h; cases h
    · rename_i hl
      split at h
      · rename_i hr
        cases e : step r with
        | none => rw [sk_none k.2 e] at hr; cases hr
        | some x => rw [e] at h; cases h
      · rename_i hr
        split at h
        · assumption
        · rename_i hv
          have hr' : val r = true := by simpa using hr
          have hl' : val l = true := by simpa using hl
          cases l with
          | lf s =>
            refine absurd ?_ hv
            rw [val_jn_leaf, hr']
            rcases (show s = [83] ∨ s = [75] from k.1) with e | e <;> simp [e]
          | jn a b =>
            cases a with
            | lf s =>
              rw [redex] at h
              split at h
              · cases h
              · rename_i hs
                rcases (show s = [83] ∨ s = [75] from k.1.1) with e | e
                · refine absurd ?_ hv
                  rw [val_jn_jn, hr', hl']; simp [isSj, e]
                · exact absurd e hs
            | jn a c => rw [redex] at h; cases h
end Tr
open Tr
/-- as the program holds it -/
def enc : Tr → D
  | .lf s => .str s
  | .jn l r => .tup [enc l, enc r, .int (lv (.jn l r) : Nat), .bl (val (.jn l r))]
theorem enc_flat (t : Tr) : flat (enc t) = true := by
  induction t with
  | lf s => simp [enc]
  | jn l r h1 h2 => simp [enc, h1, h2]
theorem enc_dep (t : Tr) : dep (enc t) = dp t := by
  induction t with
  | lf s => simp [enc, dp]
  | jn l r h1 h2 => simp [enc, dp, h1, h2]
theorem enc_under (n : Nat) (t : Tr) : under n (enc t) := by
  induction t with
  | lf s => simp [enc]
  | jn l r h1 h2 => simp [enc, h1, h2]
/-- a tree held against a text -/
theorem r_eq_enc (L : Nat) (t : Tr) (s : List Nat) (st : Stor) : eqV (L + 1) (enc t) (.str s) st = .ok (.bl (match t with | .lf c => decide (c = s) | .jn _ _ => false)) st := by
  cases t with
  | lf c => exact r_eq_str st L c s
  | jn l r =>
    have hf := enc_flat (.jn l r)
    unfold eqV
    have : eqR (L + 1) (enc (.jn l r)) (.str s) st = some false := by
      rw [enc] at hf ⊢
      simp only [eqR]
      rw [if_pos ⟨hf, by simp, by simp⟩]
      simp [eqD]
    rw [this]
theorem enc_is_str (t : Tr) (st : Stor) : isV "str" (enc t) st = .ok (.bl (match t with | .lf _ => true | .jn _ _ => false)) st := by
  cases t with
  | lf s => rw [enc]; simp [subTy]
  | jn l r => rw [enc]; simp [subTy]
theorem enc_none (t : Tr) (st : Stor) : isNoneV (enc t) .non st = .ok (.bl false) st := by
  cases t with
  | lf s => rfl
  | jn l r => rfl
end M
namespace M
open PySem PySem.Spec L2 PyProof.Rows
/-- x is True, x a truth -/
def isTrueV : D → D → Stor → R D
  | .bl b, .bl true, st => .ok (.bl b) st
  | _, _, _ => .bad
def notTrueV : D → D → Stor → R D
  | .bl b, .bl true, st => .ok (.bl (!b)) st
  | _, _, _ => .bad
end M
namespace M
open L2
/-! ### more of lists -/
/-- l.pop(0) -/
def pop0V : D → List D → Stor → R D
  | .loc n, [.int 0], st => match st[n]? with
    | some (.lst (d :: ds)) => .ok d (st.set n (.lst ds))
    | _ => .bad
  | _, _, _ => .bad
/-- l.extend(m) -/
def extendV : D → List D → Stor → R D
  | .loc n, [.loc m], st => match st[n]?, st[m]? with
    | some (.lst a), some (.lst b) => if a.length + b.length ≤ 1000000 then .ok .non (st.set n (.lst (a ++ b))) else .bad
    | _, _ => .bad
  | _, _, _ => .bad
/-- l.reverse() -/
def reverseV : D → List D → Stor → R D
  | .loc n, [], st => match st[n]? with
    | some (.lst a) => .ok .non (st.set n (.lst a.reverse))
    | _ => .bad
  | _, _, _ => .bad
end M
namespace M
open PySem PySem.Spec L2
section
variable {X : Cx}
/-- a def of which nothing is promised -/
theorem FnOk.never {P : Program} {w : World} {K : PySem.W.Frag} {mg : Str → Option Value} {base : Heap} {k n : Nat} {f : Addr} {fd : FuncData} {ps : List Str} (h : n = ps.length := by rfl) : FnOk P w K mg base CX0 k f fd ps (spM K n fun _ _ => .bad) :=
  ⟨fun vs H Q E q => q.1.trans h, fun A outer s H args us vs Q E hr he hb hv hs => by
    obtain ⟨_, _, _, _, _, _, hp⟩ := hs
    exact hp.elim⟩
end
end M
namespace M
open PySem PySem.Spec L2
section
variable {X : Cx} {pos p : Pos} {x : Str} {k : Nat} {f : Addr} {fd : FuncData} {F : FD}
/-- f() -/
theorem je_call0 (G : FnOk X.prog X.w X.K X.mg X.base CX0 k f fd [] (spM X.K 0 F)) (hr : Room k X.A) (hm : X.mg x = some (.ref f)) (hk : PySem.W.keepIn X.K (.ref f) = true) (hb : Binds X.K fd [] []) (hg : Gl X x := by rfl) (hdb : (x == ("__debug__" : Str)) = false := by decide) :
    JE X (.Call (.Name x p) [] [] pos) (callF F [] nilA) := by
  refine JE.of (pe_call0 G hr hg hm hk hb .nil pass0 hdb) fun σ H Q ⟨μ, env, st, hE, hs, hp⟩ => ?_
  refine ⟨rfl, μ, [], st, RepVs.nil, hs, ?_⟩
  have hp2 : Post X μ H (relV X) Q (F ([] ++ []) st).sure := hp
  rw [List.append_nil] at hp2
  cases hF : F [] st with
  | ok d st2 => rw [hF] at hp2; exact hp2
  | err y st2 => rw [hF] at hp2; exact hp2.elim
  | bad => rw [hF] at hp2; exact hp2.elim
end
end M
namespace L2
open PySem PySem.Spec PyProof.Rows
/-! ### cells put among what is known, for a call's time -/
def addC (L : List (Addr × Obj)) (H : Hp) : Hp := fun b => match L.lookup b with | some o => some (.frz o (.own 0)) | none => H b
def delC (L : List (Addr × Obj)) (H : Hp) : Hp := fun b => match L.lookup b with | some _ => none | none => H b
theorem addC_in {L : List (Addr × Obj)} {H : Hp} {b : Addr} {o : Obj} (h : L.lookup b = some o) : addC L H b = some (.frz o (.own 0)) := by unfold addC; rw [h]
theorem addC_out {L : List (Addr × Obj)} {H : Hp} {b : Addr} (h : L.lookup b = none) : addC L H b = H b := by unfold addC; rw [h]
theorem delC_in {L : List (Addr × Obj)} {H : Hp} {b : Addr} {o : Obj} (h : L.lookup b = some o) : delC L H b = none := by unfold delC; rw [h]
theorem delC_out {L : List (Addr × Obj)} {H : Hp} {b : Addr} (h : L.lookup b = none) : delC L H b = H b := by unfold delC; rw [h]
theorem addC_some {L : List (Addr × Obj)} {H : Hp} {b : Addr} {u : HO} (h : addC L H b = some u) : (∃ o, L.lookup b = some o ∧ u = .frz o (.own 0)) ∨ (L.lookup b = none ∧ H b = some u) := by
  unfold addC at h
  cases e : L.lookup b with
  | some o => rw [e] at h; cases h; exact .inl ⟨o, rfl, rfl⟩
  | none => rw [e] at h; exact .inr ⟨rfl, h⟩
theorem delC_some {L : List (Addr × Obj)} {H : Hp} {b : Addr} {u : HO} (h : delC L H b = some u) : L.lookup b = none ∧ H b = some u := by
  unfold delC at h
  cases e : L.lookup b with
  | some o => rw [e] at h; cases h
  | none => rw [e] at h; exact ⟨rfl, h⟩
section
variable {P : Program} {w : World} {H H' : Hp} {h h' : Heap} {L : List (Addr × Obj)}
theorem HOk.addC (x : HOk P w H h) (n : ∀ b o, L.lookup b = some o → H b = none) (k : ∀ b o, L.lookup b = some o → h.get? b = some o) : HOk P w (addC L H) h := fun a u e => by
  have up : ∀ b v, H b = some v → L2.addC L H b = some v := fun b v q => by
    cases z : L.lookup b with
    | some o => rw [n b o z] at q; cases q
    | none => rw [addC_out z]; exact q
  rcases addC_some e with ⟨o, e1, rfl⟩ | ⟨e1, e2⟩
  · exact ⟨k a o e1, o, k a o e1⟩
  · exact (x a u e2).stay (fun _ _ _ q => q) (fun b q => up b _ q) fun b xs q => up b _ q
theorem HOk.delC (x : HOk P w H h) (n : ∀ b o, L.lookup b = some o → ∃ o', H b = some (.frz o' (.own 0))) : HOk P w (delC L H) h := fun a u e => by
  have up : ∀ b v, H b = some v → (∀ o', v ≠ .frz o' (.own 0)) → L2.delC L H b = some v := fun b v q z => by
    cases y : L.lookup b with
    | some o =>
      obtain ⟨o', e'⟩ := n b o y
      rw [e'] at q; exact absurd (Option.some.inj q).symm (z o')
    | none => rw [delC_out y]; exact q
  obtain ⟨_, e2⟩ := delC_some e
  exact (x a u e2).stay (fun _ _ _ q => q) (fun b q => up b _ q fun _ z => nomatch z) fun b xs q => up b _ q fun _ z => nomatch z
end
section
variable {X : Cx} {k : Nat} {f : Addr} {fd : FuncData} {ps : List Str} {sp : Sp} {dvs : List V} {ds : List Value} {pins : List (Addr × Obj)} {σ : St} {H : Hp} {s : Shared} {Q : VK} {us : List Value} {vs : List V}
/-- the callee runs, cells of this frame among what is known -/
theorem run_fnL {L : List (Addr × Obj)} (F : FnOk X.prog X.w X.K X.mg X.base CX0 k f fd ps sp) (hr : Room k X.A) (hb : Binds X.K fd ps ds) (hd : Vals dvs ds) (I : Inv X pins σ H s)
    (hL : ∀ b o, L.lookup b = some o → s.heap.get? b = some o ∧ ∃ x, X.env.cells.lookup x = some b ∧ X.fn x = true)
    (r : Vals vs us) (h : sp (vs ++ dvs) (addC L H) (fun v H' => Q v (delC L H')) E0) : wpAny (model X.prog X.w) X.A (call (.ref f) us) (EP X pins σ Q) X.xe s := by
  have r2 : Vals (vs ++ dvs) (us ++ ds) := r.append hd
  have hl : (us ++ ds).length = ps.length := by rw [← r2.length]; exact F.len _ _ _ _ h
  have nL : ∀ b o, L.lookup b = some o → H b = none := fun b o e => let ⟨_, x, hx, _⟩ := hL b o e; I.freeC x b hx
  have e0 := I.env0
  have e1 : Env0 X.prog X.w X.K X.mg X.base X.A X.stack s (addC L H) := by
    refine ⟨e0.frames, e0.mod, fun b o e => ⟨(e0.bs b o e).1, ?_⟩, e0.bsz, e0.funs, fun b hb' => ?_, I.hok.addC nL fun b o e => (hL b o e).1, e0.bare⟩
    · cases z : L.lookup b with
      | none => rw [addC_out z]; exact (e0.bs b o e).2
      | some o' =>
        obtain ⟨_, x, hx, hf⟩ := hL b o' z
        have h1 := I.ok.cab x b hf hx
        exact absurd (Nat.lt_of_lt_of_le (Heap.lt_size e) (Nat.le_trans I.ok.bsz h1)) (Nat.lt_irrefl _)
    · cases z : L.lookup b with
      | none => rw [addC_out z]; exact e0.frf b hb'
      | some o' =>
        obtain ⟨_, x, hx, hf⟩ := hL b o' z
        rcases List.mem_cons.mp (I.stkSub b hb') with q | q
        · exact absurd q (I.cne x b hx)
        · have h1 := I.ok.cab x b hf hx
          obtain ⟨_, o2, ho2, _⟩ := I.ok.funs.mem q
          exact absurd (Nat.lt_of_lt_of_le (Heap.lt_size ho2) h1) (Nat.lt_irrefl _)
  refine wpAny_call (codeAny_mono (F.run X.A X.stack s (addC L H) ⟨us, []⟩ (us ++ ds) (vs ++ dvs) _ E0 hr e1 (hb s us I.kIn hl) r2 h) fun r s' hq => ?_)
  cases r with
  | error e => exact False.elim hq
  | ok fl =>
    cases fl with
    | ret u =>
      obtain ⟨v, H', os, bare, un, hok, rv, q⟩ := hq
      obtain ⟨hh, g, d, t, os'⟩ := s'
      obtain rfl : os' = s.os := os
      have kept : ∀ b o, L.lookup b = some o → H' b = some (.frz o (.own 0)) := fun b o e => un.frzs b o (.own 0) (addC_in e)
      have un' : Un (frs X.stack) [] H (delC L H') s.heap hh := by
        refine ⟨fun b o e n hb hx => ?_, fun b o e n hb hx => ?_, fun b o e n hx => ?_, un.there, fun b xs e => ?_, fun b o u e => ?_, fun b ps e => ?_⟩
        · cases z : L.lookup b with
          | none => exact un.keep b o e (by rw [addC_out z]; exact n) hb hx
          | some o' =>
            have e2 := (hL b o' z).1
            rw [e] at e2; cases e2
            exact (hok b _ (kept b o z)).1
        · cases z : L.lookup b with
          | none => exact un.slot b o e (by rw [addC_out z]; exact n) hb hx
          | some o' =>
            have e2 := (hL b o' z).1
            rw [e] at e2; cases e2
            exact ⟨o.slots, (hok b _ (kept b o z)).1⟩
        · cases z : L.lookup b with
          | none => rw [delC_out z]; exact un.free b o e (by rw [addC_out z]; exact n) hx
          | some o' => exact delC_in z
        · have z : L.lookup b = none := by
            cases z : L.lookup b with
            | none => rfl
            | some o' => rw [nL b o' z] at e; cases e
          rw [delC_out z]; exact un.tups b xs (by rw [addC_out z]; exact e)
        · have z : L.lookup b = none := by
            cases z : L.lookup b with
            | none => rfl
            | some o' => rw [nL b o' z] at e; cases e
          rw [delC_out z]; exact un.frzs b o u (by rw [addC_out z]; exact e)
        · have z : L.lookup b = none := by
            cases z : L.lookup b with
            | none => rfl
            | some o' => rw [nL b o' z] at e; cases e
          rw [delC_out z]; exact un.tbls b ps (by rw [addC_out z]; exact e)
      exact ⟨v, delC L H', I.call (h' := hh) (g' := g) (d' := d) (t' := t) (ch := []) un' (hok.delC fun b o e => ⟨o, kept b o e⟩) bare (fun b z => absurd z (by simp)), rv, q⟩
    | next => exact False.elim hq
    | brk => exact False.elim hq
    | cont => exact False.elim hq
end
end L2
namespace L2
open PySem PySem.Spec PyProof.Rows
/-- the module of the built-ins, of the base -/
def BMain (mg : Str → Option Value) (base : Heap) : Prop :=
  ∃ bm o, mg "__builtins__" = some (.ref bm) ∧ bm ≠ builtinsNs ∧ bm ≠ mainGlobals ∧ base.get? bm = some o ∧ o.cls = .type "module" ∧ o.dict = some builtinsNs ∧ o.data = .plain
def TabP (H : Hp) (P : Addr) (q : Str) : Prop := ∃ ps : Array Value, H P = some (.tbl ps) ∧ TriplesOk ps.toList ∧ ∀ pos cv, codeAmong pos ps.toList = some cv → ∃ c', cv = .ref c' ∧ M.CodeF H c' q
/-- a lambda was made -/
structure LamNew (H H' : Hp) (P f c' : Addr) (q : Str) (ob : Obj) : Prop where
  new : H' f = some (.frz ob (.own 0))
  nf : H f = none
  code : M.CodeF H' c' q
  tab : TabP H' P q
  same : ∀ b u, b ≠ P → H b = some u → H' b = some u
def tLam (P : Addr) (q : Str) (params : Arguments) (body : Expr) (scope : Scope) (clos : List (Str × Addr)) : TE := fun σ H Q => TabP H P q ∧
  ∀ f c' pm ctv H', LamNew H H' P f c' q (PySem.W.kla_obj "<lambda>" q params body scope clos pm c' ctv) → Q (.ref f) H'
theorem codeAmong_app {pos pos' : Pos} {c cv : Value} {l : List Value} (ht : TriplesOk l) (hn : codeAmong pos l = none) (h : codeAmong pos' (l ++ [rawInt pos.line, rawInt pos.col, c]) = some cv) : codeAmong pos' l = some cv ∨ cv = c := by
  clear hn
  fun_induction TriplesOk l with
  | case1 =>
    simp only [List.nil_append, codeAmong, rawInt] at h
    split at h
    · cases h; exact .inr rfl
    · cases h
  | case2 a t b u x rest ih =>
    simp only [List.cons_append, codeAmong] at h ⊢
    split at h
    · rename_i hc
      rw [if_pos hc]; exact .inl h
    · rename_i hc
      rw [if_neg hc]; exact ih ht h
  | case3 l h1 h2 => exact ht.elim
section
variable {X : Cx} {P c : Addr} {q : Str} {params : Arguments} {body : Expr} {scope : Scope} {clos : List (Str × Addr)} {pos : Pos}
theorem pe_lam (hB : BMain X.mg X.base) (hc : X.env.code = .ref c) (hh : PySem.W.codeHdIn X.K c P = true) (hq : X.env.qual ++ "<lambda>" = q) (hcl : closureFor scope X.env = pure clos) (hdef : defaultsOf params X.env = ([], []) := by rfl) :
    PE X (.Lambda params body scope pos) (tLam P q params body scope clos) := by
  rintro pins s σ H Q I ⟨⟨ps, hP, ht, hcodes⟩, h⟩
  refine PySem.W.kla_eval hdef ?_
  rw [hq]
  have oP : s.heap.get? P = some (PySem.W.tabObj ps) := I.hok P _ hP
  have hg : s.heap.Ns mainGlobals X.mg := I.mod.glob.keeps I.bk
  have CH : PySem.W.CodeHd s.heap c P := PySem.W.codeHd_of_K I.kIn hh
  have hgP : mainGlobals ≠ P := fun z => by
    obtain ⟨o, es, ep, e, d, _⟩ := hg
    rw [z, oP] at e; cases e; cases d
  have hb : s.heap.BuiltinsAt X.mg P := by
    obtain ⟨bm, o, b1, b2, b3, b4, b5, b6, b7⟩ := hB
    have e := I.bk bm o b4
    refine ⟨bm, o, b1, b2, b3, fun z => ?_, e, b5, b6, b7⟩
    rw [z, oP] at e; cases e; cases b7
  have hLP : X.env.locals ≠ P := fun z => by have := I.free; rw [z, hP] at this; cases this
  cases hca : codeAmong pos ps.toList with
  | none =>
    refine PySem.W.kla_makeFunction (mg := X.mg) hcl I.ok.glob hg hc CH oP ht hca hgP hb fun c' ctv h' tk hx hge hlt hrec htb => ?_
    obtain ⟨c2, oc, vs, t, e2, hoc, hd, hv⟩ := hrec
    cases e2
    have hsz : s.heap.objs.size ≤ h'.objs.size := Nat.le_trans hge (Nat.le_of_lt hlt)
    have nc : H c' = none := I.hok.fresh hge
    have nf : H h'.objs.size = none := I.hok.fresh hsz
    have cf : c' ≠ h'.objs.size := Nat.ne_of_lt hlt
    have cP : c' ≠ P := fun z => by rw [z, hP] at nc; cases nc
    have fP : h'.objs.size ≠ P := fun z => by rw [z, hP] at nf; cases nf
    let ob : Obj := PySem.W.kla_obj "<lambda>" q params body scope clos ((X.mg "__name__").getD .none) c' ctv
    let ps' : Array Value := ps ++ #[rawInt pos.line, rawInt pos.col, .ref c']
    let H1 : Hp := upd H P (.tbl ps')
    let H2 : Hp := upd H1 c' (.frz oc (.own 0))
    let H' : Hp := upd H2 h'.objs.size (.frz ob (.own 0))
    have s1 : ∀ b u, b ≠ P → H b = some u → H' b = some u := fun b u hbP e => by
      have n1 : b ≠ h'.objs.size := ne_of_none e nf
      have n2 : b ≠ c' := ne_of_none e nc
      show upd H2 h'.objs.size _ b = _
      rw [upd_ne n1]; show upd H1 c' _ b = _
      rw [upd_ne n2]; show upd H P _ b = _
      rw [upd_ne hbP]; exact e
    have atP : H' P = some (.tbl ps') := by
      show upd H2 h'.objs.size _ P = _
      rw [upd_ne (Ne.symm fP)]; show upd H1 c' _ P = _
      rw [upd_ne (Ne.symm cP)]; exact upd_same
    have atc : H' c' = some (.frz oc (.own 0)) := by
      show upd H2 h'.objs.size _ c' = _
      rw [upd_ne cf]; exact upd_same
    have atf : H' h'.objs.size = some (.frz ob (.own 0)) := upd_same
    have back : ∀ b u, H' b = some u → b = h'.objs.size ∨ b = c' ∨ b = P ∨ (b ≠ P ∧ H b = some u) := fun b u e => by
      by_cases n1 : b = h'.objs.size
      · exact .inl n1
      by_cases n2 : b = c'
      · exact .inr (.inl n2)
      by_cases n3 : b = P
      · exact .inr (.inr (.inl n3))
      · refine .inr (.inr (.inr ⟨n3, ?_⟩))
        have e : upd H2 h'.objs.size _ b = some u := e
        rw [upd_ne n1] at e
        have e : upd H1 c' _ b = some u := e
        rw [upd_ne n2] at e
        have e : upd H P _ b = some u := e
        rw [upd_ne n3] at e
        exact e
    have kp : ∀ b o, b ≠ P → s.heap.get? b = some o → (h'.push ob).get? b = some o := fun b o hbP e => Heap.get?_push_of_some _ (hx b o hbP e)
    have ext : M.Ext H H' := ⟨fun b xs e => s1 b _ (fun z => by rw [z, hP] at e; cases e) e, fun b o u e => s1 b _ (fun z => by rw [z, hP] at e; cases e) e⟩
    have new : LamNew H H' P h'.objs.size c' q ob := by
      refine ⟨atf, nf, ⟨oc, vs, t, atc, hd, hv⟩, ⟨ps', atP, ?_, fun pos' cv e => ?_⟩, s1⟩
      · show TriplesOk (ps ++ #[rawInt pos.line, rawInt pos.col, Value.ref c']).toList
        rw [Array.toList_append]; exact TriplesOk_snoc _ _ _ _ ht
      · have e' : codeAmong pos' (ps.toList ++ [rawInt pos.line, rawInt pos.col, Value.ref c']) = some cv := by
          rw [← Array.toList_append]; exact e
        rcases codeAmong_app ht hca e' with e1 | e1
        · obtain ⟨c2, q1, q2⟩ := hcodes pos' cv e1
          exact ⟨c2, q1, q2.ext ext⟩
        · exact ⟨c', e1, ⟨oc, vs, t, atc, hd, hv⟩⟩
    refine ⟨.ref h'.objs.size, H', ?_, rfl, h _ _ _ _ _ new⟩
    have nP : ∀ b, H b = none → b ≠ P := fun b n z => by rw [z, hP] at n; cases n
    refine I.step (g' := s.gens) (d' := s.drawn) (ch := []) (fun _ z => nomatch z) (fun b o _ _ _ e n => kp b o (nP b n) e) (fun b o _ _ _ e n => ⟨o.slots, kp b o (nP b n) e⟩) (fun b o _ e n => ?_) (fun b o _ e => ?_)
      (fun b xs e => ext.tup b xs e) (fun b o u e => ext.frz b o u e) (fun b ps2 e => ?_) (fun m hm => (hm.extBut hx hLP).push _) (fun b u e => ?_) I.bare
    · cases z : H' b with
      | none => rfl
      | some u =>
        have lt := Heap.lt_size e
        rcases back b u z with z1 | z1 | z1 | ⟨_, z1⟩
        · rw [z1] at lt; exact absurd (Nat.lt_of_lt_of_le lt hsz) (Nat.lt_irrefl _)
        · rw [z1] at lt; exact absurd (Nat.lt_of_lt_of_le lt hge) (Nat.lt_irrefl _)
        · exact absurd z1 (nP b n)
        · rw [n] at z1; cases z1
    · by_cases hbP : b = P
      · subst hbP; exact ⟨_, Heap.get?_push_of_some _ htb⟩
      · exact ⟨o, kp b o hbP e⟩
    · by_cases hbP : b = P
      · subst hbP
        rw [hP] at e; cases e
        exact ⟨_, atP⟩
      · exact ⟨#[], by rw [s1 b _ hbP e]; simp⟩
    · rcases back b u e with z1 | z1 | z1 | ⟨z0, z1⟩
      · subst z1
        rw [atf] at e; cases e
        exact ⟨Heap.get?_push_size _ rfl, ob, Heap.get?_push_size _ rfl⟩
      · subst z1
        rw [atc] at e; cases e
        exact ⟨Heap.get?_push_of_some _ hoc, oc, Heap.get?_push_of_some _ hoc⟩
      · subst z1
        rw [atP] at e; cases e
        exact Heap.get?_push_of_some _ htb
      · have nown : ∀ b2 u2, H b2 = some u2 → (∀ ps2, u2 ≠ .tbl ps2) → H' b2 = some u2 := fun b2 u2 q z => s1 b2 u2 (fun y => by rw [y, hP] at q; exact z _ (Option.some.inj q).symm) q
        refine (I.hok b u z1).stay (fun c2 v hc q => kp c2 v ?_ q) (fun c2 q => nown c2 _ q fun _ z => nomatch z) fun c2 xs q => nown c2 _ q fun _ z => nomatch z
        rcases hc with y | y
        · rw [y]; exact z0
        · exact fun y2 => by rw [y2, hP] at y; cases y
  | some cv =>
    obtain ⟨c', rfl, hcode⟩ := hcodes pos cv hca
    refine PySem.W.kla_makeFunctionHit (mg := X.mg) hcl I.ok.glob hg hc CH oP ht hca hb fun ctv h' tk hk hsz => ?_
    have nf : H h'.objs.size = none := I.hok.fresh hsz
    let ob : Obj := PySem.W.kla_obj "<lambda>" q params body scope clos ((X.mg "__name__").getD .none) c' ctv
    have kp : ∀ b o, s.heap.get? b = some o → (h'.push ob).get? b = some o := fun b o e => Heap.get?_push_of_some _ (hk b o e)
    have s1 : ∀ b u, H b = some u → upd H h'.objs.size (.frz ob (.own 0)) b = some u := fun b u e => by rw [upd_ne (ne_of_none e nf)]; exact e
    have ext : M.Ext H (upd H h'.objs.size (.frz ob (.own 0))) := ⟨fun b xs e => s1 b _ e, fun b o u e => s1 b _ e⟩
    refine ⟨.ref h'.objs.size, upd H h'.objs.size (.frz ob (.own 0)), I.laid (t' := tk) kp (by exact hsz) ⟨Heap.get?_push_size _ rfl, ob, Heap.get?_push_size _ rfl⟩, rfl, h _ c' _ _ _ ⟨upd_same, nf, hcode.ext ext, ⟨ps, s1 _ _ hP, ht, fun pos' cv e => ?_⟩, fun b u _ e => s1 b u e⟩⟩
    obtain ⟨c2, q1, q2⟩ := hcodes pos' cv e
    exact ⟨c2, q1, q2.ext ext⟩
end
end L2
namespace L2
open PySem PySem.Spec PyProof.Rows
/-! ### a lambda is called -/
theorem lookup_map_nd {cl : List (Str × Addr)} (nd : (cl.map (·.2)).Nodup) {x y : Str} {c : Addr} (h1 : cl.lookup x = some c) (h2 : cl.lookup y = some c) : x = y := by
  induction cl with
  | nil => cases h1
  | cons p cl ih =>
    obtain ⟨z, d⟩ := p
    rw [List.map_cons, List.nodup_cons] at nd
    have mem : ∀ w, cl.lookup w = some c → c ∈ cl.map (·.2) := fun w e => List.mem_map.mpr ⟨(w, c), PySem.mem_of_lookup e, rfl⟩
    rw [List.lookup_cons] at h1 h2
    by_cases e1 : (x == z) = true
    · simp only [e1] at h1
      cases h1
      by_cases e2 : (y == z) = true
      · rw [eq_of_beq e1, eq_of_beq e2]
      · simp only [show (y == z) = false by simpa using e2] at h2
        exact absurd (mem y h2) nd.1
    · simp only [show (x == z) = false by simpa using e1] at h1
      by_cases e2 : (y == z) = true
      · simp only [e2] at h2
        cases h2
        exact absurd (mem x h1) nd.1
      · simp only [show (y == z) = false by simpa using e2] at h2
        exact ih nd.2 h1 h2
theorem lookup_ex {β : Type} {cl : List (Str × β)} {x : Str} (h : x ∈ cl.map (·.1)) : ∃ c, cl.lookup x = some c := by
  induction cl with
  | nil => cases h
  | cons p cl ih =>
    rw [List.lookup_cons]
    by_cases e : (x == p.1) = true
    · simp only [e]; exact ⟨_, rfl⟩
    · simp only [show (x == p.1) = false by simpa using e]
      refine ih ?_
      rcases List.mem_cons.mp h with z | z
      · rw [z] at e; simp at e
      · exact z
theorem lookup_mem {β : Type} {l : List (Str × β)} {x : Str} {u : β} (nd : (l.map (·.1)).Nodup) (h : (x, u) ∈ l) : l.lookup x = some u := by
  induction l with
  | nil => cases h
  | cons p l ih =>
    rw [List.map_cons, List.nodup_cons] at nd
    rw [List.lookup_cons]
    rcases List.mem_cons.mp h with z | z
    · subst z; simp
    · have : (x == p.1) = false := by
        have hx : x ∈ l.map (·.1) := List.mem_map.mpr ⟨(x, u), z, rfl⟩
        have : x ≠ p.1 := fun y => nd.1 (y ▸ hx)
        simpa using this
      simp only [this]
      exact ih nd.2 z
/-- the cells as a list of addresses and objects -/
theorem cells_list {H : Hp} : ∀ {cl : List (Str × Addr)} {vs : List V}, M.CellsF H cl vs → (cl.map (·.2)).Nodup → ∃ L : List (Addr × Obj), (∀ b o, L.lookup b = some o → H b = some (.frz o (.own 0)) ∧ ∃ u, o.data = .cell (some u)) ∧
    (∀ (i : Nat) (x : Str) (c : Addr), cl[i]? = some (x, c) → ∃ v o u, vs[i]? = some v ∧ L.lookup c = some o ∧ o.data = .cell (some u) ∧ RelV v u) ∧ vs.length = cl.length
  | [], vs, h, _ => by
    have h : vs = [] := h
    subst h
    exact ⟨[], fun b o e => by simp at e, fun i x c e => by simp at e, rfl⟩
  | (x, c) :: cl, _, ⟨v, r, o, u, rfl, h2, h3, h4, h5⟩, nd => by
    rw [List.map_cons, List.nodup_cons] at nd
    obtain ⟨L, hL1, hL2, hlen⟩ := cells_list h5 nd.2
    refine ⟨(c, o) :: L, fun b o' e => ?_, fun i y d e => ?_, by simp [hlen]⟩
    · rw [List.lookup_cons] at e
      by_cases hb : (b == c) = true
      · simp only [hb] at e
        cases e
        rw [eq_of_beq hb]
        exact ⟨h2, u, h3⟩
      · simp only [show (b == c) = false by simpa using hb] at e
        exact hL1 b o' e
    · cases i with
      | zero =>
        simp at e
        obtain ⟨rfl, rfl⟩ := e
        exact ⟨v, o, u, rfl, by rw [List.lookup_cons]; simp, h3, h4⟩
      | succ i =>
        have e : cl[i]? = some (y, d) := by simpa using e
        obtain ⟨v', o', u', q1, q2, q3, q4⟩ := hL2 i y d e
        have hd : (d == c) = false := by
          have : d ∈ cl.map (·.2) := List.mem_map.mpr ⟨(y, d), List.mem_of_getElem? e, rfl⟩
          have : d ≠ c := fun z => nd.1 (z ▸ this)
          simpa using this
        exact ⟨v', o', u', by simpa using q1, by rw [List.lookup_cons]; simp only [hd]; exact q2, q3, q4⟩
/-- a lambda's scope: the names taken from around, then the parameters -/
structure LamScope (cn ps : List Str) (sc : Scope) : Prop where
  kind : sc.kind = .function
  co : sc.isCoroutine = false
  gen : sc.isGenerator = false
  nd : (cn ++ ps).Nodup
  free : ∀ y ∈ sc.names, y.2 = .free → y.1 ∈ cn
  nocell : ∀ y ∈ sc.names, y.2 ≠ .cell
  isfree : ∀ x ∈ cn, sc.names.lookup x = some .free
  par : ∀ x ∈ ps, sc.names.lookup x = some .local
/-- the context of a lambda's body -/
def lamCx (P : Program) (w : World) (K : PySem.W.Frag) (mg : Str → Option Value) (base : Heap) (N : List Str) (qual : Str) (scope : Scope) (f : Addr) (cd : Value) (cl : List (Str × Addr)) (A : Around) (outer : List Env) (s : Shared) (H : Hp) : Cx where
  prog := P
  w := w
  K := K
  mg := mg
  base := base
  A := A.deeper (PySem.W.envX qual scope s.heap.objs.size f cd cl)
  N := N
  s₀ := s
  H₀ := H
  env := PySem.W.envX qual scope s.heap.objs.size f cd cl
  outer := outer
  stack := PySem.W.envX qual scope s.heap.objs.size f cd cl :: outer
  ex := []
  calm := true
  fn := fun _ => false
  pn := []
  xe := fun _ _ => False
section
variable {P : Program} {w : World} {K : PySem.W.Frag} {mg : Str → Option Value} {base : Heap} {A : Around} {outer : List Env} {s : Shared} {H : Hp} {qual : Str} {params : Arguments} {body : Expr} {scope : Scope} {cl : List (Str × Addr)} {pm ctv : Value} {c' f : Addr} {k : Nat}
  {cn ps : List Str} {us : List Value} {vs vs0 : List V} {Q : VK} {t : TE}
theorem lam_run (e0 : Env0 P w K mg base A outer s H) (hr : Room (k + 1) A) (S : LamScope cn ps scope) (hf : H f = some (.frz (PySem.W.kla_obj "<lambda>" qual params body scope cl pm c' ctv) (.own 0))) (hcode : M.CodeF H c' qual)
    (hcn : cl.map (·.1) = cn) (hnd : (cl.map (·.2)).Nodup) (hcells : M.CellsF H cl vs0) (hb : bindArgs (PySem.W.kla_fn "<lambda>" qual params body scope cl pm (.ref c') ctv) ⟨us, []⟩ = pure (ps.zip us)) (hl : us.length = ps.length) (r : Vals vs us)
    (hbody : ∀ L : List (Addr × Obj), (∀ b o, L.lookup b = some o → H b = some (.frz o (.own 0)) ∧ ∃ u, o.data = .cell (some u)) → ∃ t, PE (lamCx P w K mg base (cn ++ ps) qual scope f (.ref c') cl A outer s (delC L H)) body t ∧ t ((vs0 ++ vs).map some) (delC L H) fun v H' => (∀ b o, L.lookup b = some o → H' b = none) → Q v (addC L H')) :
    codeAny (model P w) A (.call (.ref f) ⟨us, []⟩) (CR CX0 outer P w H s Q E0) s := by
  obtain ⟨L, hL1, hL2, hlen0⟩ := cells_list hcells hnd
  obtain ⟨t, hPE, ht⟩ := hbody L hL1
  have of := (e0.hok f _ hf).1
  obtain ⟨oc, cvs, ct, hc1, hc2, hc3⟩ := hcode
  have occ := (e0.hok c' _ hc1).1
  have lim : s.heap.NoLimit := e0.mod.nolimit.keeps fun b o e => (e0.bs b o e).1
  have cellIn : ∀ x c, cl.lookup x = some c → ∃ i, cl[i]? = some (x, c) := fun x c e => by
    obtain ⟨i, hi, e2⟩ := List.getElem_of_mem (PySem.mem_of_lookup e)
    exact ⟨i, by rw [List.getElem?_eq_getElem hi, e2]⟩
  have cellL : ∀ x c, cl.lookup x = some c → ∃ o, L.lookup c = some o := fun x c e => by
    obtain ⟨i, hi⟩ := cellIn x c e
    obtain ⟨_, o, _, _, q, _⟩ := hL2 i x c hi
    exact ⟨o, q⟩
  have hokD : HOk P w (delC L H) s.heap := e0.hok.delC fun b o e => ⟨o, (hL1 b o e).1⟩
  refine PySem.W.kla_callFunE hr.depth of rfl S.co S.gen rfl ⟨c', oc, cvs, ct, rfl, occ, hc2, hc3⟩ ?_
  rw [hb]
  have hloc : ∀ x ∈ ps.zip us, scope.names.lookup x.1 = some .local := fun ⟨n, v⟩ hy => S.par n (List.of_mem_zip hy).1
  refine wpAny_pure (wpAny_newFunctionEnv S.nocell hloc (fun h₁ hns hsb => ⟨lim.fresh _ hsb, ?_⟩) S.kind)
  have hk₁ : ∀ b o, s.heap.get? b = some o → h₁.get? b = some o := fun b o e => hsb.extBut b o (Nat.ne_of_lt (Heap.lt_size e)) (Heap.get?_push_of_some _ e)
  show codeAny _ _ (.expr body (PySem.W.envX qual scope s.heap.objs.size f (.ref c') cl)) _ _
  have noA : ∀ b : Addr, b ∉ (lamCx P w K mg base (cn ++ ps) qual scope f (.ref c') cl A outer s (delC L H)).ex := fun b z => absurd (show b ∈ ([] : List Addr) from z) (by simp)
  have dnone : ∀ b, H b = none → delC L H b = none := fun b n => by
    cases z : L.lookup b with
    | some o => exact delC_in z
    | none => rw [delC_out z]; exact n
  have I : Inv (lamCx P w K mg base (cn ++ ps) qual scope f (.ref c') cl A outer s (delC L H)) [] ((vs0 ++ vs).map some) (delC L H) { s with heap := h₁, toks := s.toks + (ps.zip us).length } := by
    refine ⟨⟨e0.mod, S.kind, rfl, rfl, Nat.le_refl _, fun y z c h1 h2 => lookup_map_nd hnd h1 h2, fun y hy => ?_, fun y c z _ => (by cases z), fun _ => hr.hd, Around.frames_deeper e0.frames, .inr ⟨rfl, rfl⟩, fun b z => absurd z (noA b), fun b o e => ⟨(e0.bs b o e).1, dnone b (e0.bs b o e).2⟩, e0.bsz, fun b _ _ => noA b, fun b z => absurd z (noA b), e0.funs, fun b hb' => dnone b (e0.frf b hb')⟩,
      rfl, e0.bare, Un.kept hk₁, ⟨_, hns, fun i y v h1 h2 h3 => ?_⟩, fun y c h => ?_, hokD.fresh (Nat.le_refl _), fun y c h => ?_, fun p hp => absurd (show p ∈ ([] : List (Addr × Obj)) from hp) (by simp), hokD.kept hk₁, ?_⟩
    · have hy : scope.names.lookup y = some .cell ∨ scope.names.lookup y = some .free := hy
      rcases hy with hy | hy
      · exact absurd rfl (S.nocell _ (PySem.mem_of_lookup hy))
      · have hm := S.free _ (PySem.mem_of_lookup hy) rfl
        rw [← hcn] at hm
        obtain ⟨p, hp, rfl⟩ := List.mem_map.mp hm
        exact lookup_ex (List.mem_map.mpr ⟨p, hp, rfl⟩)
    · have ndc : (cl.map (·.1)).Nodup := by rw [hcn]; exact (List.nodup_append.mp S.nd).1
      have ndp : ps.Nodup := (List.nodup_append.mp S.nd).2.1
      have hcl : cn.length = cl.length := by rw [← hcn, List.length_map]
      have h2 : (vs0 ++ vs)[i]? = some v := by
        rw [List.getElem?_map] at h2
        cases q : (vs0 ++ vs)[i]? with
        | none => rw [q] at h2; cases h2
        | some v' => rw [q] at h2; cases h2; rfl
      have h1 : (cn ++ ps)[i]? = some y := h1
      by_cases hi : i < cn.length
      · rw [List.getElem?_append_left hi] at h1
        rw [List.getElem?_append_left (by rw [hlen0, ← hcl]; exact hi)] at h2
        have hci : i < cl.length := by omega
        have ec : cl[i]? = some (y, (cl[i]).2) := by
          rw [List.getElem?_eq_getElem hci]
          have : (cl.map (·.1))[i]? = some y := by rw [hcn]; exact h1
          rw [List.getElem?_map, List.getElem?_eq_getElem hci] at this
          have e : cl[i].1 = y := Option.some.inj this
          rw [← e]
        obtain ⟨v', o, u, q1, q2, q3, q4⟩ := hL2 i y _ ec
        rw [h2] at q1; cases q1
        refine ⟨u, q4, .inr ⟨.inr (S.isfree y (List.mem_of_getElem? h1)), _, lookup_mem ndc (List.mem_of_getElem? ec), o, hk₁ _ _ (e0.hok _ _ (hL1 _ o q2).1).1, q3⟩⟩
      · rw [List.getElem?_append_right (by omega)] at h1
        rw [List.getElem?_append_right (by omega)] at h2
        have hij : i - vs0.length = i - cn.length := by omega
        rw [hij] at h2
        obtain ⟨u, hu, rv⟩ := r.get h2
        refine ⟨u, rv, .inl ⟨S.par y (List.mem_of_getElem? h1), ?_⟩⟩
        have hm : (y, u) ∈ (ps.zip us).reverse := by
          rw [List.mem_reverse]
          refine List.mem_of_getElem? (i := i - cn.length) ?_
          rw [List.getElem?_zip_eq_some]
          exact ⟨h1, hu⟩
        refine lookup_mem ?_ hm
        rw [List.map_reverse, List.map_fst_zip (by omega)]
        exact List.pairwise_reverse.mpr (ndp.imp fun h => Ne.symm h)
    · obtain ⟨i, hi⟩ := cellIn y c h
      obtain ⟨v, o, u, _, q2, q3, _⟩ := hL2 i y c hi
      exact ⟨some u, o, hk₁ _ _ (e0.hok c _ (hL1 c o q2).1).1, q3⟩
    · obtain ⟨o, q⟩ := cellL y c h
      exact delC_in q
    · show ((vs0 ++ vs).map some).length = (cn ++ ps).length
      rw [List.length_map, List.length_append, List.length_append, hlen0, ← hcn, List.length_map, r.length, hl]
  refine PySem.W.kla_codeExpr (wpAny_mono (hPE [] _ _ _ _ I ht) (fun v s' h => ?_) fun e s' h => h.elim)
  obtain ⟨x, H', J, rx, q⟩ := h
  obtain ⟨hh, g, d, tk, os'⟩ := s'
  have jb : Un (frs outer) [] (delC L H) H' s.heap hh := J.base
  have kc : ∀ b o, L.lookup b = some o → hh.get? b = some o ∧ H' b = none := fun b o e => by
    have e1 := (e0.hok b _ (hL1 b o e).1).1
    have nfr : b ∉ frs outer := fun z => by have := e0.frf b z; rw [(hL1 b o e).1] at this; cases this
    exact ⟨jb.keep b o e1 (delC_in e) nfr (by simp), jb.free b o e1 (delC_in e) (by simp)⟩
  refine ⟨x, addC L H', J.os, J.bare, ⟨fun b o e n hb' hx => ?_, fun b o e n hb' hx => ?_, fun b o e n hx => ?_, jb.there, fun b xs e => ?_, fun b o u e => ?_, fun b ps e => ?_⟩, J.hok.addC (fun b o e => (kc b o e).2) (fun b o e => (kc b o e).1), rx, q fun b o e => (kc b o e).2⟩
  · exact jb.keep b o e (dnone b n) hb' hx
  · exact jb.slot b o e (dnone b n) hb' hx
  · have z : L.lookup b = none := by
      cases z : L.lookup b with
      | none => rfl
      | some o' => rw [(hL1 b o' z).1] at n; cases n
    rw [addC_out z]; exact jb.free b o e (dnone b n) hx
  · have z : L.lookup b = none := by
      cases z : L.lookup b with
      | none => rfl
      | some o' => rw [(hL1 b o' z).1] at e; cases e
    rw [addC_out z]; exact jb.tups b xs (by rw [delC_out z]; exact e)
  · cases z : L.lookup b with
    | some o' =>
      rw [(hL1 b o' z).1] at e; cases e
      exact addC_in z
    | none => rw [addC_out z]; exact jb.frzs b o u (by rw [delC_out z]; exact e)
  · have z : L.lookup b = none := by
      cases z : L.lookup b with
      | none => rfl
      | some o' => rw [(hL1 b o' z).1] at e; cases e
    rw [addC_out z]; exact jb.tbls b ps (by rw [delC_out z]; exact e)
end
end L2
namespace M
open PySem PySem.Spec L2
/-! ### what is told of data needs but the tuples -/
mutual
theorem RepV.tupMono {K : PySem.W.Frag} {μ : List Addr} {H H' : Hp} (e : ∀ b xs, H b = some (.tup xs) → H' b = some (.tup xs)) : ∀ (d : D) {v : V}, RepV K μ H d v → RepV K μ H' d v
  | .non, _, h => by simpa [RepV] using h
  | .bl _, _, h => by simpa [RepV] using h
  | .int _, _, h => by simpa [RepV] using h
  | .str _, _, h => by simpa [RepV] using h
  | .tup ds, _, h => by
    rw [RepV] at h ⊢
    obtain ⟨a, xs, rfl, h1, h2⟩ := h
    exact ⟨a, xs, rfl, h1.elim (fun z => .inl (e _ _ z)) .inr, RepVs.tupMono e ds h2⟩
  | .loc n, _, h => by
    rw [RepV] at h ⊢
    exact h
theorem RepVs.tupMono {K : PySem.W.Frag} {μ : List Addr} {H H' : Hp} (e : ∀ b xs, H b = some (.tup xs) → H' b = some (.tup xs)) : ∀ (ds : List D) {vs : List V}, RepVs K μ H ds vs → RepVs K μ H' ds vs
  | [], _, h => by simpa [RepVs] using h
  | d :: ds, _, h => by
    rw [RepVs] at h ⊢
    obtain ⟨v, r, rfl, h1, h2⟩ := h
    exact ⟨v, r, rfl, RepV.tupMono e d h1, RepVs.tupMono e ds h2⟩
end
theorem RepKV.tupMono {κ : Type} {K : PySem.W.Frag} {μ : List Addr} {H H' : Hp} (e : ∀ b xs, H b = some (.tup xs) → H' b = some (.tup xs)) : ∀ {ds : List (κ × D)} {vs : List (κ × V)}, RepKV K μ H ds vs → RepKV K μ H' ds vs
  | [], _, h => h
  | (k, d) :: ds, _, ⟨v, r, e1, h1, h2⟩ => ⟨v, r, e1, h1.tupMono e d, RepKV.tupMono e h2⟩
def MO.isClo : MO → Bool
  | .clo _ _ _ => true
  | _ => false
/-- a list of cells that are known -/
def CellL (L : List (Addr × Obj)) (H : Hp) : Prop := ∀ b o, L.lookup b = some o → H b = some (.frz o (.own 0)) ∧ ∃ u, o.data = .cell (some u)
theorem CellL.del {L : List (Addr × Obj)} {H : Hp} (h : CellL L H) {b : Addr} {u : HO} (e : H b = some u) (n : ∀ o, u = .frz o (.own 0) → ∀ v, o.data ≠ .cell v) : delC L H b = some u := by
  cases z : L.lookup b with
  | none => rw [delC_out z]; exact e
  | some o =>
    obtain ⟨e1, v, hv⟩ := h b o z
    rw [e] at e1
    exact absurd hv (n o (Option.some.inj e1) _)
theorem RepO.del {K : PySem.W.Frag} {μ : List Addr} {H : Hp} {a : Addr} {o : MO} {L : List (Addr × Obj)} (hL : CellL L H) (hc : o.isClo = false) (h : RepO K μ H a o) : RepO K μ (delC L H) a o := by
  have ht : ∀ b xs, H b = some (.tup xs) → delC L H b = some (.tup xs) := fun b xs e => hL.del e fun _ z => nomatch z
  cases o with
  | lst ds => obtain ⟨xs, h1, h2⟩ := h; exact ⟨xs, hL.del h1 (fun _ z => nomatch z), h2.tupMono ht⟩
  | frz ds =>
    obtain ⟨xs, h1, h2⟩ := h
    refine ⟨xs, ?_, h2.tupMono ht⟩
    rcases h1 with ⟨o, h1⟩ | h1
    · exact .inl ⟨o, hL.del h1 fun _ z => (by cases z)⟩
    · exact .inr h1
  | dic kvs => obtain ⟨ws, h1, h2⟩ := h; exact ⟨ws, hL.del h1 (fun _ z => nomatch z), h2.tupMono ht⟩
  | dkc kvs => obtain ⟨ws, h1, h2⟩ := h; exact ⟨ws, hL.del h1 (fun _ z => nomatch z), h2.tupMono ht⟩
  | dkf kvs => obtain ⟨ws, o, h1, h2⟩ := h; exact ⟨ws, o, hL.del h1 (fun _ z => (by cases z)), h2.tupMono ht⟩
  | ins c fs => obtain ⟨C, dx, ws, h0, h1, h2⟩ := h; exact ⟨C, dx, ws, h0, hL.del h1 (fun _ z => nomatch z), h2.tupMono ht⟩
  | tab x =>
    obtain ⟨h0, ps, h1, h2, h3⟩ := h
    refine ⟨h0, ps, hL.del h1 (fun _ z => nomatch z), h2, fun pos cv e => ?_⟩
    obtain ⟨c', e1, oc, vs, t, e2, e3, e4⟩ := h3 pos cv e
    exact ⟨c', e1, oc, vs, t, hL.del e2 (fun o z v => by cases z; rw [e3]; exact fun y => nomatch y), e3, e4⟩
  | clo j l ds => cases hc
  | hid => trivial
/-- the store without its lambdas -/
def hideS (st : Stor) : Stor := st.map fun o => if o.isClo then .hid else o
theorem hideS_len (st : Stor) : (hideS st).length = st.length := by simp [hideS]
theorem hideS_get {st : Stor} {n : Nat} {o : MO} (h : (hideS st)[n]? = some o) : ∃ o', st[n]? = some o' ∧ ((o'.isClo = true ∧ o = .hid) ∨ (o'.isClo = false ∧ o = o')) := by
  unfold hideS at h
  rw [List.getElem?_map] at h
  cases e : st[n]? with
  | none => rw [e] at h; cases h
  | some o' =>
    rw [e] at h
    refine ⟨o', rfl, ?_⟩
    have h : (if o'.isClo = true then MO.hid else o') = o := Option.some.inj h
    by_cases hc : o'.isClo = true
    · rw [if_pos hc] at h; exact .inl ⟨hc, h.symm⟩
    · rw [if_neg hc] at h; exact .inr ⟨by simpa using hc, h.symm⟩
theorem hideS_of {st : Stor} {n : Nat} {o : MO} (h : st[n]? = some o) : (hideS st)[n]? = some (if o.isClo then .hid else o) := by
  unfold hideS
  rw [List.getElem?_map, h]; rfl
theorem RepS.hide {K : PySem.W.Frag} {μ : List Addr} {H : Hp} {st : Stor} {L : List (Addr × Obj)} (hL : CellL L H) (h : RepS K μ H st) : RepS K μ (delC L H) (hideS st) := by
  refine ⟨by rw [h.len, hideS_len], fun n o e => ?_, fun i j a oi oj ei ej mi mj hi hj => ?_⟩
  · obtain ⟨o', e1, e2⟩ := hideS_get e
    obtain ⟨a, h1, h2⟩ := h.at_ n o' e1
    rcases e2 with ⟨c, rfl⟩ | ⟨c, rfl⟩
    · exact ⟨a, h1, trivial⟩
    · exact ⟨a, h1, h2.del hL c⟩
  · obtain ⟨oi', e1, e2⟩ := hideS_get ei
    obtain ⟨oj', e3, e4⟩ := hideS_get ej
    rcases e2 with ⟨_, rfl⟩ | ⟨_, rfl⟩
    · cases mi
    · rcases e4 with ⟨_, rfl⟩ | ⟨_, rfl⟩
      · cases mj
      · exact h.uniq i j a oi oj e1 e3 mi mj hi hj
/-- the lambdas again, behind a call that left the others as they were -/
theorem RepS.unhide {K : PySem.W.Frag} {μ : List Addr} {H H' : Hp} {st : Stor} {L : List (Addr × Obj)} (h0 : RepS K μ H st) (h : RepS K μ H' (hideS st)) (hn : ∀ b o, L.lookup b = some o → H' b = none) (ext : Ext H (addC L H')) : RepS K μ (addC L H') st := by
  have up : ∀ b u, H' b = some u → addC L H' b = some u := fun b u e => by
    cases z : L.lookup b with
    | none => rw [addC_out z]; exact e
    | some o => rw [hn b o z] at e; cases e
  refine ⟨h0.len, fun n o e => ?_, h0.uniq⟩
  by_cases hc : o.isClo = true
  · obtain ⟨a, h1, h2⟩ := h0.at_ n o e
    refine ⟨a, h1, h2.keep ⟨⟨[], by simp⟩, ext⟩ fun hm => ?_⟩
    cases o <;> simp [MO.isClo, MO.mut] at hc hm
  · have e2 := hideS_of e
    rw [if_neg hc] at e2
    obtain ⟨a, h1, h2⟩ := h.at_ n o e2
    exact ⟨a, h1, h2.keep ⟨⟨[], by simp⟩, ⟨fun b xs q => up b _ q, fun b o u q => up b _ q⟩⟩ fun _ u q => up a u q⟩
/-! ### a lambda's promise -/
/-- a lambda's body: what it took from around, then its arguments -/
def lamM (m : ME) : FD := fun ds st => m (ds.map some) st
structure LamOk (P : Program) (w : World) (K : PySem.W.Frag) (mg : Str → Option Value) (base : Heap) (k : Nat) (l : LamS) (ps : List Str) (m : ME) : Prop where
  sc : LamScope l.caps ps l.scope
  bind : ∀ cl pm c' ctv (us : List Value), us.length = ps.length → bindArgs (PySem.W.kla_fn "<lambda>" l.qual l.params l.body l.scope cl pm (.ref c') ctv) ⟨us, []⟩ = pure (ps.zip us)
  body : ∀ (f : Addr) (cd : Value) (cl : List (Str × Addr)) (A : Around) (outer : List Env) (s : Shared) (H : Hp), Room k (A.deeper (PySem.W.envX l.qual l.scope s.heap.objs.size f cd cl)) →
    JE (lamCx P w K mg base (l.caps ++ ps) l.qual l.scope f cd cl A outer s H) l.body m
open Classical in
/-- what a lambda of the store tells; the store stays -/
noncomputable def callL (Λ : Nat → LamS) (G : Nat → FD) (n : Nat) (as : List D) (st : Stor) : R D := match st[n]? with
  | some (.clo j l ds) => if l = Λ j then (match gc (hideS st) (G j (ds ++ as) (hideS st)) with
    | .ok d st2 => if st2 = hideS st ∧ under st.length d then .ok d st else .bad
    | _ => .bad) else .bad
  | _ => .bad
end M
namespace M
open PySem PySem.Spec L2
/-! ### a name that holds a lambda is called -/
def lamN (n : Nat) (m : ME) : FD := fun ds st => if ds.length = n then m (ds.map some) st else .bad
def LamsOk (P : Program) (w : World) (K : PySem.W.Frag) (mg : Str → Option Value) (base : Heap) (k : Nat) (Λ : Nat → LamS) (G : Nat → FD) : Prop :=
  ∀ j, (∀ ds st, G j ds st = .bad) ∨ ∃ ps m, LamOk P w K mg base k (Λ j) ps m ∧ G j = lamN ((Λ j).caps.length + ps.length) m
theorem CellsF.len {H : Hp} : ∀ {cl : List (Str × Addr)} {vs : List V}, CellsF H cl vs → vs.length = cl.length
  | [], _, h => by have h : _ = [] := h; subst h; rfl
  | (_, c) :: cl, _, ⟨v, r, o, u, h1, _, _, _, h5⟩ => by subst h1; simp [CellsF.len h5]
theorem CellL.back {L : List (Addr × Obj)} {H H' : Hp} (hL : CellL L H) (e : Ext (delC L H) H') (hn : ∀ b o, L.lookup b = some o → H' b = none) : Ext H (addC L H') := by
  have up : ∀ b u, H' b = some u → addC L H' b = some u := fun b u e => by
    cases z : L.lookup b with
    | none => rw [addC_out z]; exact e
    | some o => rw [hn b o z] at e; cases e
  refine ⟨fun b xs q => up b _ (e.tup b xs (hL.del q fun _ z => nomatch z)), fun b o u q => ?_⟩
  cases z : L.lookup b with
  | none => exact up b _ (e.frz b o u (by rw [delC_out z]; exact q))
  | some o' =>
    have q2 := (hL b o' z).1
    rw [q] at q2; cases q2
    exact addC_in z
noncomputable def callC (Λ : Nat → LamS) (G : Nat → FD) (i : Nat) (mA : MA) : ME := fun env st => match env[i]? with
  | some (some (.loc n)) => (match st[n]? with
    | some (.clo _ _ _) => (mA env st).bind fun as st1 => callL Λ G n as st1
    | _ => .bad)
  | _ => .bad
section
variable {X : Cx} {e : Expr} {es : List Expr} {mA : MA} {pos p : Pos} {x : Str} {k : Nat} {Λ : Nat → LamS} {G : Nat → FD}
theorem je_callC (hΛ : LamsOk X.prog X.w X.K X.mg X.base k Λ G) (hr : Room (k + 1) X.A) (i : Nat) (ha : JA X (e :: es) mA) (hN : X.N[i]? = some x := by rfl) (hv : Vis X.env.scope x := by first | exact Or.inl rfl | exact Or.inr (Or.inl rfl) | exact Or.inr (Or.inr rfl))
    (hd : (x == ("__debug__" : Str)) = false := by decide) (hcd : (x == ("__classdict__" : Str)) = false := by decide) (he : starEach (e :: es) X.env = (false, eval e X.env) :: starEach es X.env := by rfl) (hpl : (backTo pos (starEach es X.env)).any (·.1) = false := by rfl) :
    JE X (.Call (.Name x p) (e :: es) [] pos) (callC Λ G i mA) := by
  rintro pins s σ H Q I ⟨μ, env, st, hE, hs, hp⟩
  unfold callC at hp
  split at hp
  case h_2 => exact hp.elim
  rename_i n hi
  split at hp
  case h_2 => exact hp.elim
  rename_i j0 l0 ds0 hn
  obtain ⟨v, h1, h2⟩ := hE.at_ i _ hi
  obtain ⟨a, q1, rfl⟩ := RepV.loc_iff.mp h2
  obtain ⟨a', r1, r2⟩ := hs.at_ n _ hn
  rw [q1] at r1; cases r1
  obtain ⟨cl0, pm0, c0, ctv0, vs00, w1, _⟩ := r2
  refine wpAny_Call_Name_kw (thn (pe_var hN hv hd hcd pins s σ H (fun v' H' => v' = .ref a ∧ H' = H) I ⟨.ref a, h1, rfl, rfl⟩) fun u s0 ⟨v', H', I0, r0, ev, eH⟩ => ?_)
  subst ev eH
  cases (show u = Value.ref a from r0)
  have fnAt : ∀ (s : Shared) (H : Hp) (o : Obj), Inv X pins σ H s → (∃ q ps b sc cl pm c' ctv, o = PySem.W.kla_obj "<lambda>" q ps b sc cl pm c' ctv) → H a = some (.frz o (.own 0)) → PySem.W.FnAt a s.heap := by
    rintro s H o I ⟨q, ps, b, sc, cl, pm, c', ctv, rfl⟩ h
    exact ⟨_, _, _, _, (I.hok a _ h).1⟩
  refine PySem.W.callWith_F (fnAt s0 H' _ I0 ⟨_, _, _, _, _, _, _, _, rfl⟩ w1) (thn (ha pos pins s0 σ H' _ I0 ⟨μ, env, st, hE, hs, Post.bind hp⟩) fun us s1 ⟨vs, H1, I1, r, μ1, st1, as, g1, hs1, hv1, hp1⟩ => ?_) he hpl
  have g2 := g1.get q1
  unfold callL at hp1
  dsimp only at hp1
  split at hp1
  case h_2 => exact hp1.elim
  rename_i j l ds hn1
  split at hp1
  case isFalse => exact hp1.elim
  rename_i hl
  subst hl
  obtain ⟨a', r1, cl, pm, c', ctv, vs0, hf, hcode, hcn, hnd, hcells, hds⟩ := hs1.at_ n _ hn1
  rw [g2] at r1; cases r1
  refine ⟨fnAt s1 H1 _ I1 ⟨_, _, _, _, _, _, _, _, rfl⟩ hf, ?_⟩
  rcases hΛ j with hbad | ⟨ps, m, LO, hG⟩
  · rw [hbad] at hp1
    exact hp1.elim
  have hlen : (ds ++ as).length = (Λ j).caps.length + ps.length := by
    refine Classical.byContradiction fun h => ?_
    rw [hG] at hp1
    unfold lamN at hp1
    rw [if_neg h] at hp1
    exact hp1.elim
  have e1 : ds.length = (Λ j).caps.length := by rw [hds.length, hcells.len, ← hcn, List.length_map]
  have hul : us.length = ps.length := by
    rw [← r.length, ← hv1.length]
    rw [List.length_append] at hlen; omega
  refine wpAny_call (codeAny_mono (lam_run (k := k) (Q := Q) (vs := vs) I1.env0 hr LO.sc hf hcode hcn hnd hcells (LO.bind cl pm c' ctv us hul) hul r ?_) fun r s' hq => ?_)
  · intro L hL
    have hL : CellL L H1 := hL
    refine ⟨_, LO.body a (.ref c') cl X.A X.stack s1 (delC L H1) (hr.deeper _), μ1, (ds ++ as).map some, hideS st1, ?_, hs1.hide hL, ?_⟩
    · have hv2 : RepVs X.K μ1 (delC L H1) (ds ++ as) (vs0 ++ vs) := (hds.append hv1).tupMono (fun b xs q => hL.del q fun _ z => nomatch z) _
      refine ⟨by rw [List.length_map, List.length_map, hv2.length], fun i d e => ?_⟩
      rw [List.getElem?_map] at e ⊢
      cases q : (ds ++ as)[i]? with
      | none => rw [q] at e; cases e
      | some d' =>
        rw [q] at e; cases e
        obtain ⟨v, q1, q2⟩ := hv2.get q
        exact ⟨v, by rw [q1]; rfl, q2⟩
    · have key : PostF X.K μ1 (delC L H1) (fun v H' => (∀ b o, L.lookup b = some o → H' b = none) → Q v (addC L H')) (G j (ds ++ as) (hideS st1)) := by
        refine gc_post (hs1.hide hL) ?_
        split at hp1
        case h_2 => exact hp1.elim
        rename_i d st2 hgc
        split at hp1
        case isFalse => exact hp1.elim
        rename_i hc
        rw [hgc]
        intro v H' μ' g hs' hv' hn'
        obtain ⟨rfl, _⟩ := hc
        obtain ⟨ν, rfl⟩ := g.pre
        have hν : ν = [] := by
          have := hs'.len
          rw [List.length_append, hs1.len, hideS_len] at this
          exact List.eq_nil_of_length_eq_zero (by omega)
        subst hν
        rw [List.append_nil] at hs' hv'
        have ext := hL.back g.ext hn'
        refine hp1 v (addC L H') μ1 ⟨⟨[], by simp⟩, ext⟩ (hs1.unhide hs' hn' ext) (hv'.tupMono (fun b xs q => ?_) d)
        cases z : L.lookup b with
        | none => rw [addC_out z]; exact q
        | some o => rw [hn' b o z] at q; cases q
      rw [hG] at key
      unfold lamN at key
      rw [if_pos hlen] at key
      cases hm : m ((ds ++ as).map some) (hideS st1) with
      | bad => rw [hm] at key; exact key.elim
      | err y st2 => rw [hm] at key; exact key.elim
      | ok d st2 => rw [hm] at key; exact key
  · cases r with
    | error e => exact False.elim hq
    | ok fl =>
      cases fl with
      | ret u => exact I1.after hq
      | next => exact False.elim hq
      | brk => exact False.elim hq
      | cont => exact False.elim hq
end
end M
namespace M
open PySem PySem.Spec L2
/-! ### arguments among which are lambdas -/
inductive LA where
  | v (d : D) | l (j : Nat) (cap : List Nat)
abbrev ML := MEnv → Stor → R (List LA)
def closOf (X : Cx) (l : LamS) : List (Str × Addr) := l.caps.map fun x => (x, (X.env.cells.lookup x).getD 0)
structure LamAtX (X : Cx) (l : LamS) (cap : List Nat) : Prop where
  nd : l.caps.Nodup
  cell : ∀ x ∈ l.caps, X.env.kindOf x = some .cell
  ix : cap.map (fun i => X.N[i]?) = l.caps.map some
def RepLA (X : Cx) (Λ : Nat → LamS) (μ : List Addr) (H : Hp) : LA → V → Prop
  | .v d, v => RepV X.K μ H d v
  | .l j cap, v => LamAtX X (Λ j) cap ∧ ∃ f pm c' ctv, v = .ref f ∧ H f = some (.frz (PySem.W.kla_obj "<lambda>" (Λ j).qual (Λ j).params (Λ j).body (Λ j).scope (closOf X (Λ j)) pm c' ctv) (.own 0)) ∧ CodeF H c' (Λ j).qual
def RepLAs (X : Cx) (Λ : Nat → LamS) (μ : List Addr) (H : Hp) : List LA → List V → Prop
  | [], vs => vs = []
  | a :: r, vs => ∃ v t, vs = v :: t ∧ RepLA X Λ μ H a v ∧ RepLAs X Λ μ H r t
abbrev relL (X : Cx) (Λ : Nat → LamS) : Rel (List LA) (List V) := fun μ H d v => RepLAs X Λ μ H d v
section
variable {X : Cx} {Λ : Nat → LamS} {μ μ' : List Addr} {H H' : Hp}
theorem RepLA.mono (g : Grow μ H μ' H') : ∀ {a : LA} {v : V}, RepLA X Λ μ H a v → RepLA X Λ μ' H' a v
  | .v d, _, h => RepV.mono g d h
  | .l j cap, _, ⟨h0, f, pm, c', ctv, h1, h2, h3⟩ => ⟨h0, f, pm, c', ctv, h1, g.ext.frz _ _ _ h2, h3.ext g.ext⟩
theorem RepLAs.mono (g : Grow μ H μ' H') : ∀ {a : List LA} {v : List V}, RepLAs X Λ μ H a v → RepLAs X Λ μ' H' a v
  | [], _, h => h
  | a :: r, _, ⟨v, t, e, h1, h2⟩ => ⟨v, t, e, h1.mono g, RepLAs.mono g h2⟩
theorem RepLAs.length : ∀ {a : List LA} {v : List V}, RepLAs X Λ μ H a v → a.length = v.length
  | [], _, h => by have h : _ = [] := h; subst h; rfl
  | a :: r, _, ⟨v, t, e, h1, h2⟩ => by subst e; simp [RepLAs.length h2]
end
def tML (X : Cx) (Λ : Nat → LamS) (m : ML) : TA := fun σ H Q => ∃ μ env st, RepE X.K μ H env σ ∧ RepS X.K μ H st ∧ Post X μ H (relL X Λ) Q (m env st)
def JL (X : Cx) (Λ : Nat → LamS) (es : List Expr) (m : ML) : Prop := PA X es (tML X Λ m)
def nilL : ML := fun _ st => .ok [] st
def consL (a : ME) (r : ML) : ML := fun env st => (a env st).bind fun x st1 => (r env st1).bind fun xs st2 => .ok (.v x :: xs) st2
/-- a lambda: its number, the places of what it takes, the store's place of the table of this def -/
def lamL (j : Nat) (cap : List Nat) (k : Nat) (x : Str) (r : ML) : ML := fun env st => match st[k]? with
  | some (.tab y) => if y = x then (r env st).bind fun xs st2 => .ok (.l j cap :: xs) st2 else .bad
  | _ => .bad
/-- this frame's code, and its table -/
def TabX (X : Cx) (x : Str) : Prop := X.env.qual = x ++ ".<locals>." ∧ ∃ (c fa : Addr) (o : Obj) (fd : FuncData), X.env.code = .ref c ∧ PySem.W.nsIn X.K mainGlobals x = some (some (.ref fa)) ∧ X.K.lookup fa = some o ∧ o.data = .func fd ∧ fd.code = .ref c
section
variable {X : Cx} {Λ : Nat → LamS} {μ : List Addr} {H H' : Hp} {st : Stor} {e : Expr} {es : List Expr} {ma : ME} {m : ML}
theorem jl_nil : JL X Λ [] nilL := fun pos pins s σ H Q I ⟨μ, env, st, hE, hs, hp⟩ => pa_nil pos pins s σ H Q I (hp.ret hs rfl)
theorem jl_cons (h : JE X e ma) (hr : JL X Λ es m) (hs : starEach (e :: es) X.env = (false, eval e X.env) :: starEach es X.env := by rfl) : JL X Λ (e :: es) (consL ma m) := by
  rintro pos pins s σ H Q I ⟨μ, env, st, hE, hs0, hp⟩
  refine pa_cons h hr hs pos pins s σ H Q I ⟨μ, env, st, hE, hs0, hp.bind.imp ?_⟩
  rintro x H1 ⟨μ1, st1, d, g1, hs1, hx, hp1⟩
  refine ⟨μ1, env, st1, hE.mono g1, hs1, hp1.bind.imp ?_⟩
  rintro xs H2 ⟨μ2, st2, ds, g2, hs2, hxs, hp2⟩
  exact hp2.ret hs2 ⟨x, xs, rfl, hx.mono g2 _, hxs⟩
theorem _root_.L2.LamNew.ext {P f c' : Addr} {q : Str} {ob : Obj} (n : LamNew H H' P f c' q ob) {ps : Array Value} (hP : H P = some (.tbl ps)) : Ext H H' :=
  ⟨fun b xs e => n.same b _ (fun z => by rw [z, hP] at e; cases e) e, fun b o u e => n.same b _ (fun z => by rw [z, hP] at e; cases e) e⟩
theorem RepS.lam {P f c' : Addr} {x : Str} {ob : Obj} {k : Nat} (hs : RepS X.K μ H st) (hk : st[k]? = some (.tab x)) (ha : μ[k]? = some P) (n : LamNew H H' P f c' (lamQual x) ob) : RepS X.K μ H' st := by
  obtain ⟨a, h1, h2⟩ := hs.at_ k _ hk
  rw [ha] at h1; cases h1
  obtain ⟨hst, ps, hP, _⟩ := h2
  have ext := n.ext hP
  refine ⟨hs.len, fun i o e => ?_, hs.uniq⟩
  obtain ⟨b, q1, q2⟩ := hs.at_ i o e
  refine ⟨b, q1, ?_⟩
  by_cases hm : o.mut = true
  · by_cases hb : b = P
    · subst hb
      have hik := hs.uniq i k b o (.tab x) e hk hm rfl q1 ha
      subst hik
      rw [hk] at e; cases e
      exact ⟨hst, n.tab⟩
    · exact q2.keep ⟨⟨[], by simp⟩, ext⟩ fun _ u q => n.same b u hb q
  · exact q2.keep ⟨⟨[], by simp⟩, ext⟩ fun z => absurd z hm
theorem jl_lam {x : Str} {j k : Nat} {cap : List Nat} {params : Arguments} {body : Expr} {scope : Scope} {pos : Pos} (hB : BMain X.mg X.base) (hT : TabX X x) (hat : LamAtX X (Λ j) cap) (hq : (Λ j).qual = lamQual x) (hp : (Λ j).params = params) (hb : (Λ j).body = body) (hsc : (Λ j).scope = scope)
    (hcl : closureFor scope X.env = pure (closOf X (Λ j))) (hr : JL X Λ es m) (hdef : defaultsOf params X.env = ([], []) := by rfl) (hs : starEach (.Lambda params body scope pos :: es) X.env = (false, eval (.Lambda params body scope pos) X.env) :: starEach es X.env := by rfl) :
    JL X Λ (.Lambda params body scope pos :: es) (lamL j cap k x m) := by
  subst hp hb hsc
  rintro pos2 pins s σ H Q I ⟨μ, env, st, hE, hs0, hp⟩
  unfold lamL at hp
  split at hp
  case h_2 => exact hp.elim
  rename_i y hk
  split at hp
  case isFalse => exact hp.elim
  rename_i hy
  subst hy
  obtain ⟨P, h1, h2⟩ := hs0.at_ k _ hk
  obtain ⟨⟨fa', o', fd', c', w1, w2, w3, w4, w5⟩, ps, w6, w7, w8⟩ := h2
  obtain ⟨hqual, c, fa, o, fd, t1, t2, t3, t4, t5⟩ := hT
  rw [t2] at w1; cases w1
  rw [t3] at w2; cases w2
  rw [t4] at w3; cases w3
  rw [t5] at w4; cases w4
  refine pa_cons (pe_lam (P := P) (c := c') (q := lamQual y) (clos := closOf X (Λ j)) hB t1 w5 (by rw [hqual]; rfl) hcl hdef) hr hs pos2 pins s σ H Q I ⟨⟨ps, w6, w7, w8⟩, fun f c' pm ctv H' n => ?_⟩
  have g : Grow μ H μ H' := ⟨⟨[], by simp⟩, n.ext w6⟩
  refine ⟨μ, env, st, hE.mono g, hs0.lam hk h1 n, (Post.mono g hp).bind.imp ?_⟩
  rintro xs H2 ⟨μ2, st2, ds, g2, hs2, hxs, hp2⟩
  refine hp2.ret hs2 ⟨.ref f, xs, rfl, ⟨hat, f, pm, c', ctv, rfl, ?_, ?_⟩, hxs⟩
  · rw [hq]; exact g2.ext.frz _ _ _ n.new
  · rw [hq]; exact n.code.ext g2.ext
end
/-! ### the cells of this frame -/
def cellAt (h : Heap) (c : Addr) : Option Obj := match h.get? c with
  | some o => (match o.data with | .cell (some _) => some o | _ => none)
  | none => none
theorem cellAt_some {h : Heap} {c : Addr} {o : Obj} (e : cellAt h c = some o) : h.get? c = some o ∧ ∃ u, o.data = .cell (some u) := by
  unfold cellAt at e
  split at e
  · rename_i o' h1
    split at e
    · rename_i u h2
      cases e; exact ⟨h1, u, h2⟩
    · cases e
  · cases e
theorem cellAt_of {h : Heap} {c : Addr} {o : Obj} {u : Value} (h1 : h.get? c = some o) (h2 : o.data = .cell (some u)) : cellAt h c = some o := by
  unfold cellAt
  rw [h1]; dsimp only; rw [h2]
def cellsL (cl : List (Str × Addr)) (h : Heap) : List Str → List (Addr × Obj)
  | [] => []
  | x :: r => match cl.lookup x with
    | some c => (match cellAt h c with | some o => (c, o) :: cellsL cl h r | none => cellsL cl h r)
    | none => cellsL cl h r
theorem cellsL_in {cl : List (Str × Addr)} {h : Heap} {b : Addr} {o : Obj} : ∀ {xs : List Str}, (cellsL cl h xs).lookup b = some o → cellAt h b = some o ∧ ∃ x, cl.lookup x = some b
  | [], e => by cases e
  | x :: r, e => by
    unfold cellsL at e
    split at e
    · rename_i c hc
      split at e
      · rename_i o' ho
        rw [List.lookup_cons] at e
        by_cases hb : (b == c) = true
        · simp only [hb] at e
          cases e
          obtain rfl := eq_of_beq hb
          exact ⟨ho, x, hc⟩
        · simp only [show (b == c) = false by simpa using hb] at e
          exact cellsL_in e
      · exact cellsL_in e
    · exact cellsL_in e
theorem cellsL_has {cl : List (Str × Addr)} {h : Heap} {b : Addr} {o : Obj} {x : Str} (hx : cl.lookup x = some b) (ho : cellAt h b = some o) : ∀ {xs : List Str}, x ∈ xs → (cellsL cl h xs).lookup b = some o
  | [], e => by cases e
  | y :: r, e => by
    unfold cellsL
    by_cases hy : x = y
    · subst hy
      rw [hx]; dsimp only; rw [ho]; dsimp only
      rw [List.lookup_cons]; simp
    · have e := cellsL_has hx ho (xs := r) (by simpa [hy] using e)
      split
      · rename_i c hc
        split
        · rename_i o' ho'
          rw [List.lookup_cons]
          by_cases hb : (b == c) = true
          · simp only [hb]
            obtain rfl := eq_of_beq hb
            rw [ho] at ho'; exact ho'.symm
          · simp only [show (b == c) = false by simpa using hb]
            exact e
        · exact e
      · exact e
def capD : List Nat → MEnv → Option (List D)
  | [], _ => some []
  | i :: r, env => match env[i]? with
    | some (some d) => (match capD r env with | some ds => some (d :: ds) | none => none)
    | _ => none
def placeL (Λ : Nat → LamS) (env : MEnv) : Nat → List LA → Option (List D × List MO)
  | _, [] => some ([], [])
  | n, .v d :: r => (match placeL Λ env n r with | some (ds, os) => some (d :: ds, os) | none => none)
  | n, .l j cap :: r => (match capD cap env with
    | some cs => (match placeL Λ env (n + 1) r with | some (ds, os) => some (.loc n :: ds, .clo j (Λ j) cs :: os) | none => none)
    | none => none)
def noClo (st : Stor) : Prop := ∀ o ∈ st, o.isClo = false
open Classical in
/-- f(.., lambda .., ..): the lambdas lie in the store for the call's time -/
noncomputable def callLm (Λ : Nat → LamS) (F : FD) (dd : List D) (m : ML) : ME := fun env st => (m env st).bind fun as st1 => if noClo st1 then (match placeL Λ env st1.length as with
  | some (ds, os) => (match gc st1 (F (ds ++ dd) (st1 ++ os)) with
    | .ok d st2 => if noClo st2 then .ok d st2 else .bad
    | _ => .bad)
  | none => .bad) else .bad
theorem RepS.snoc {K : PySem.W.Frag} {μ : List Addr} {H : Hp} {st : Stor} {a : Addr} {o : MO} (h : RepS K μ H st) (hm : o.mut = false) (ho : RepO K (μ ++ [a]) H a o) : RepS K (μ ++ [a]) H (st ++ [o]) := by
  have key : ∀ (n : Nat) (on : MO) (c : Addr), (st ++ [o])[n]? = some on → on.mut = true → (μ ++ [a])[n]? = some c → st[n]? = some on ∧ μ[n]? = some c := fun n on c e1 hmn e2 => by
    by_cases hn : n < st.length
    · rw [List.getElem?_append_left hn] at e1
      rw [List.getElem?_append_left (by rw [h.len]; exact hn)] at e2
      exact ⟨e1, e2⟩
    · rw [List.getElem?_append_right (by omega)] at e1
      have := List.mem_of_getElem? e1
      simp at this; subst this
      rw [hm] at hmn; cases hmn
  refine ⟨by simp [h.len], fun n on e1 => ?_, fun i j c oi oj ei ej mi mj hi hj => ?_⟩
  · by_cases hn : n < st.length
    · rw [List.getElem?_append_left hn] at e1
      obtain ⟨b, q1, q2⟩ := h.at_ n on e1
      exact ⟨b, by rw [List.getElem?_append_left (by rw [h.len]; exact hn)]; exact q1, q2.up _⟩
    · have hl := (List.getElem?_eq_some_iff.mp e1).1
      rw [List.length_append, List.length_singleton] at hl
      have en : n = st.length := by omega
      subst en
      rw [List.getElem?_append_right (Nat.le_refl _)] at e1
      simp at e1; subst e1
      exact ⟨a, by rw [← h.len]; simp, ho⟩
  · obtain ⟨a1, a2⟩ := key i oi c ei mi hi
    obtain ⟨b1, b2⟩ := key j oj c ej mj hj
    exact h.uniq i j c oi oj a1 b1 mi mj a2 b2
theorem RepS.del {K : PySem.W.Frag} {μ : List Addr} {H : Hp} {st : Stor} {L : List (Addr × Obj)} (hL : CellL L H) (hc : noClo st) (h : RepS K μ H st) : RepS K μ (delC L H) st :=
  ⟨h.len, fun n o e => let ⟨a, h1, h2⟩ := h.at_ n o e; ⟨a, h1, h2.del hL (hc o (List.mem_of_getElem? e))⟩, h.uniq⟩
section
variable {X : Cx} {Λ : Nat → LamS} {H : Hp} {env : MEnv}
theorem place_ok (hnd : ∀ l cap, LamAtX X l cap → ((closOf X l).map (·.2)).Nodup) : ∀ {as : List LA} {vs : List V} {μ : List Addr} {st : Stor} {n : Nat} {ds : List D} {os : List MO}, (∀ l cap, LamAtX X l cap → ∀ cs, capD cap env = some cs → ∃ vs, CellsF H (closOf X l) vs ∧ RepVs X.K μ H cs vs) → placeL Λ env n as = some (ds, os) → RepLAs X Λ μ H as vs → RepS X.K μ H st → n = st.length →
    ∃ ν, RepS X.K (μ ++ ν) H (st ++ os) ∧ RepVs X.K (μ ++ ν) H ds vs
  | [], vs, μ, st, n, ds, os, hc, e, h, hs, hn => by
    cases e
    have h : vs = [] := h
    subst h
    exact ⟨[], by simpa using hs, RepVs.nil⟩
  | .v d :: r, _, μ, st, n, ds, os, hc, e, ⟨v, t, rfl, h1, h2⟩, hs, hn => by
    unfold placeL at e
    split at e
    · rename_i ds' os' e'
      cases e
      obtain ⟨ν, q1, q2⟩ := place_ok hnd hc e' h2 hs hn
      exact ⟨ν, q1, RepVs.cons (RepV.mono ⟨⟨ν, rfl⟩, .refl H⟩ d h1) q2⟩
    · cases e
  | .l j cap :: r, _, μ, st, n, ds, os, hc, e, ⟨v, t, rfl, hla, h2⟩, hs, hn => by
    obtain ⟨h0, f, pm, c', ctv, rfl, h3, h4⟩ := hla
    unfold placeL at e
    split at e
    · rename_i cs ec
      split at e
      · rename_i ds' os' e'
        cases e
        obtain ⟨vs, q1, q2⟩ := hc _ cap h0 cs ec
        have g : Grow μ H (μ ++ [f]) H := ⟨⟨[f], rfl⟩, .refl H⟩
        have hs1 : RepS X.K (μ ++ [f]) H (st ++ [.clo j (Λ j) cs]) := hs.snoc rfl ⟨closOf X (Λ j), pm, c', ctv, vs, h3, h4, by simp [closOf, Function.comp_def], hnd _ cap h0, q1, q2.mono g _⟩
        obtain ⟨ν, r1, r2⟩ := place_ok hnd (μ := μ ++ [f]) (fun l cap hl cs ec => let ⟨vs, a1, a2⟩ := hc l cap hl cs ec; ⟨vs, a1, a2.mono g _⟩) e' (h2.mono g) hs1 (by simp [hn])
        refine ⟨f :: ν, by simpa using r1, RepVs.cons (RepV.loc_iff.mpr ⟨f, ?_, rfl⟩) (by simpa using r2)⟩
        rw [hn, ← hs.len]; simp
      · cases e
    · cases e
end
section
variable {X : Cx} {Λ : Nat → LamS} {e : Expr} {es : List Expr} {m : ML} {pos p : Pos} {x : Str} {k : Nat} {f : Addr} {fd : FuncData} {ps : List Str} {F : FD} {dvs : List V} {ds : List Value} {dd : List D}
theorem clos_nd {pins : List (Addr × Obj)} {σ : L2.St} {H : Hp} {s : Shared} (I : Inv X pins σ H s) {l : LamS} {cap : List Nat} (h : LamAtX X l cap) : ((closOf X l).map (·.2)).Nodup := by
  unfold closOf
  rw [List.map_map]
  have key : ∀ xs : List Str, xs.Nodup → (∀ x ∈ xs, X.env.kindOf x = some .cell) → (xs.map ((fun p : Str × Addr => p.2) ∘ fun x => (x, (X.env.cells.lookup x).getD 0))).Nodup := by
    intro xs
    induction xs with
    | nil => intros; simp
    | cons x xs ih =>
      intro nd hc
      rw [List.nodup_cons] at nd
      rw [List.map_cons, List.nodup_cons]
      refine ⟨fun hm => ?_, ih nd.2 fun y hy => hc y (by simp [hy])⟩
      obtain ⟨y, hy, e⟩ := List.mem_map.mp hm
      obtain ⟨c, h1⟩ := I.ok.has x (.inl (hc x (by simp)))
      obtain ⟨c2, h2⟩ := I.ok.has y (.inl (hc y (by simp [hy])))
      simp only [Function.comp, h1, h2, Option.getD_some] at e
      subst e
      have := I.ok.inj x y _ h1 h2
      subst this
      exact nd.1 hy
  exact key _ h.nd h.cell
theorem cells_ok {pins : List (Addr × Obj)} {σ : L2.St} {H H2 : Hp} {s : Shared} {μ : List Addr} {env : MEnv} (I : Inv X pins σ H s) (hE : RepE X.K μ H2 env σ) (hc : ∀ x b o, X.env.cells.lookup x = some b → cellAt s.heap b = some o → H2 b = some (.frz o (.own 0))) {l : LamS} {cap : List Nat} (h : LamAtX X l cap) {cs : List D} (e : capD cap env = some cs) :
    ∃ vs, CellsF H2 (closOf X l) vs ∧ RepVs X.K μ H2 cs vs := by
  obtain ⟨mm, hns, hl⟩ := I.loc
  have key : ∀ (xs : List Str) (cap : List Nat) (cs : List D), (∀ x ∈ xs, X.env.kindOf x = some .cell) → cap.map (fun i => X.N[i]?) = xs.map some → capD cap env = some cs → ∃ vs, CellsF H2 (xs.map fun x => (x, (X.env.cells.lookup x).getD 0)) vs ∧ RepVs X.K μ H2 cs vs := by
    intro xs
    induction xs with
    | nil =>
      intro cap cs _ hx e
      cases cap with
      | nil => cases e; exact ⟨[], rfl, RepVs.nil⟩
      | cons i cap => cases hx
    | cons x xs ih =>
      intro cap cs hk hx e
      cases cap with
      | nil => cases hx
      | cons i cap =>
        rw [List.map_cons, List.map_cons] at hx
        obtain ⟨hx1, hx2⟩ := List.cons.inj hx
        unfold capD at e
        split at e
        · rename_i d ed
          split at e
          · rename_i cs' ec
            cases e
            obtain ⟨vs, a1, a2⟩ := ih cap cs' (fun y hy => hk y (by simp [hy])) hx2 ec
            obtain ⟨v, b1, b2⟩ := hE.at_ i d ed
            have hkx := hk x (by simp)
            obtain ⟨u, r, lk⟩ := hl i x v hx1 b1 (.inr (.inl hkx))
            rcases lk with ⟨z, _⟩ | ⟨_, c, hcx, o, ho, hd⟩
            · rw [hkx] at z; cases z
            · refine ⟨v :: vs, ⟨v, vs, o, u, rfl, ?_, hd, r, a1⟩, RepVs.cons b2 a2⟩
              have : ((X.env.cells.lookup x).getD 0) = c := by rw [hcx]; rfl
              rw [this]
              exact hc x c o hcx (cellAt_of ho hd)
          · cases e
        · cases e
  exact key l.caps cap cs h.cell h.ix e
theorem je_callLm (G : FnOk X.prog X.w X.K X.mg X.base CX0 k f fd ps (spM X.K ps.length F)) (hr : Room k X.A) (hm : X.mg x = some (.ref f)) (hk : PySem.W.keepIn X.K (.ref f) = true) (hb : Binds X.K fd ps ds) (hd : Vals dvs ds)
    (hdd : ∀ μ H, RepVs X.K μ H dd dvs) (ha : JL X Λ (e :: es) m) (hfn : ∀ x, X.fn x = true) (hlen : (e :: es).length + dvs.length = ps.length := by rfl) (hg : Gl X x := by rfl) (hdb : (x == ("__debug__" : Str)) = false := by decide) (he : starEach (e :: es) X.env = (false, eval e X.env) :: starEach es X.env := by rfl) (hpl : (backTo pos (starEach es X.env)).any (·.1) = false := by rfl)
    (hA : ∀ env st as st1, m env st = .ok as st1 → as.length = (e :: es).length) :
    JE X (.Call (.Name x p) (e :: es) [] pos) (callLm Λ F dd m) := by
  rintro pins s σ H Q I ⟨μ, env, st, hE, hs, hp⟩
  refine wpAny_Call_Name_kw (ld_glob I hg hm ?_ hdb)
  unfold callLm at hp
  cases hmr : m env st with
  | bad => rw [hmr] at hp; exact hp.elim
  | err y st1 =>
    rw [hmr] at hp
    exact PySem.W.callWith_K (h₀ := X.base) I.ok.mod.kin hk (thn (ha pos pins s σ H (fun _ _ => False) I ⟨μ, env, st, hE, hs, by rw [hmr]; exact hp⟩) fun us s1 ⟨vs, H1, I1, r, q⟩ => q.elim) he hpl
  | ok as st1 =>
  have hal := hA env st as st1 hmr
  rw [hmr, R.bind_ok] at hp
  split at hp
  case isFalse => exact hp.elim
  rename_i hnc
  split at hp
  case h_2 => exact hp.elim
  rename_i as' os hpl'
  split at hp
  case h_2 => exact hp.elim
  rename_i d st2 hgc
  split at hp
  case isFalse => exact hp.elim
  rename_i hnc2
  refine PySem.W.callWith_K (h₀ := X.base) I.ok.mod.kin hk (thn (ha pos pins s σ H (fun vs H1 => ∃ μ1, Grow μ H μ1 H1 ∧ RepS X.K μ1 H1 st1 ∧ RepLAs X Λ μ1 H1 as vs) I ⟨μ, env, st, hE, hs, ?_⟩) fun us s1 ⟨vs, H1, I1, r, μ1, g1, hs1, hv1⟩ => ⟨I1.kIn, ?_⟩) he hpl
  · rw [hmr]
    exact fun vs H1 μ1 g1 hs1 hv1 => ⟨μ1, g1, hs1, hv1⟩
  · let L := cellsL X.env.cells s1.heap (X.env.cells.map (·.1))
    have lin : ∀ b o, L.lookup b = some o → cellAt s1.heap b = some o ∧ ∃ x, X.env.cells.lookup x = some b := fun b o e => cellsL_in e
    have nL : ∀ b o, L.lookup b = some o → H1 b = none := fun b o e => let ⟨_, x, hx⟩ := lin b o e; I1.freeC x b hx
    have outL : ∀ b u, H1 b = some u → L.lookup b = none := fun b u e => by
      cases z : L.lookup b with
      | none => rfl
      | some o => rw [nL b o z] at e; cases e
    have extA : Ext H1 (addC L H1) := ⟨fun b xs e => by rw [addC_out (outL b _ e)]; exact e, fun b o u e => by rw [addC_out (outL b _ e)]; exact e⟩
    have gA : Grow μ1 H1 μ1 (addC L H1) := ⟨⟨[], by simp⟩, extA⟩
    have hsA : RepS X.K μ1 (addC L H1) st1 := ⟨hs1.len, fun n o e => let ⟨a, h1, h2⟩ := hs1.at_ n o e; ⟨a, h1, h2.keep gA fun _ u q => by rw [addC_out (outL a u q)]; exact q⟩, hs1.uniq⟩
    have hcA : ∀ x b o, X.env.cells.lookup x = some b → cellAt s1.heap b = some o → addC L H1 b = some (.frz o (.own 0)) := fun x b o hx ho =>
      addC_in (cellsL_has hx ho (List.mem_map.mpr ⟨(x, b), PySem.mem_of_lookup hx, rfl⟩))
    obtain ⟨ν, hsN, hvN⟩ := place_ok (Λ := Λ) (H := addC L H1) (env := env) (fun l cap h => clos_nd I1 h) (fun l cap h cs ec => cells_ok I1 ((hE.mono g1).mono gA) hcA h ec) hpl' (hv1.mono gA) hsA rfl
    refine run_fnL (L := L) G hr hb hd I1 (fun b o e => ?_) r ⟨?_, μ1 ++ ν, as' ++ dd, st1 ++ os, hvN.append (hdd _ _), hsN, ?_⟩
    · obtain ⟨h1, x, h2⟩ := lin b o e
      exact ⟨(cellAt_some h1).1, x, h2, hfn x⟩
    · rw [List.length_append, ← hv1.length, hal]; exact hlen
    · have key : PostF X.K μ1 (addC L H1) (fun v H' => Q v (delC L H')) (F (as' ++ dd) (st1 ++ os)) := by
        refine gc_post hsA ?_
        rw [hgc]
        intro v H' μ' g hs' hv'
        have hL : CellL L H' := fun b o e => ⟨g.ext.frz b o _ (addC_in e), (cellAt_some (lin b o e).1).2⟩
        have ext : Ext H1 (delC L H') := ⟨fun b xs e => by rw [delC_out (outL b _ e)]; exact g.ext.tup b xs (extA.tup b xs e), fun b o u e => by rw [delC_out (outL b _ e)]; exact g.ext.frz b o u (extA.frz b o u e)⟩
        exact hp v (delC L H') μ' ⟨g1.trans ⟨g.pre, ext⟩ |>.pre, (g1.trans ⟨g.pre, ext⟩).ext⟩ (hs'.del hL hnc2) (hv'.tupMono (fun b xs q => hL.del q fun _ z => nomatch z) d)
      have gN : Grow μ1 (addC L H1) (μ1 ++ ν) (addC L H1) := ⟨⟨ν, rfl⟩, .refl _⟩
      cases hF : F (as' ++ dd) (st1 ++ os) with
      | bad => rw [hF] at key; exact key.elim
      | err y st3 => rw [hF] at key; exact key.elim
      | ok d3 st3 =>
        rw [hF] at key
        exact fun v H' μ' g hs' hv' => key v H' μ' (gN.trans g) hs' hv'
end
end M
namespace M
open PySem PySem.Spec L2 PyProof.Rows
/-! ### the head, with tables of code -/
structure TabK (K : PySem.W.Frag) (x : Str) (P : Addr) : Prop where
  code : ∃ (fa : Addr) (o : Obj) (fd : FuncData) (c : Addr), PySem.W.nsIn K mainGlobals x = some (some (.ref fa)) ∧ K.lookup fa = some o ∧ o.data = .func fd ∧ fd.code = .ref c ∧ PySem.W.codeHdIn K c P = true
  out : K.lookup P = none
theorem law_callT {P : Program} {w : World} {K : PySem.W.Frag} {mg mb : Str → Option Value} {k : Nat} {fa a : Addr} {fd : FuncData} {x : Str} {sp : Sp} {s₁ : Shared} {vs : List Value} {ns : List Int} {ts : List (Str × Addr)}
    (KX : K.In s₁.heap) (hns : s₁.heap.Ns mainGlobals mg) (hb : s₁.heap.Ns builtinsNs mb) (hbb : ∀ x : Str, x ≠ "__name__" → mb x = bootBuiltins x) (hlim : s₁.heap.NoLimit) (hg : s₁.gens = #[])
    (hbm : ∃ bm ob, mg "__builtins__" = some (.ref bm) ∧ bm ≠ builtinsNs ∧ s₁.heap.get? bm = some ob ∧ ob.cls = .type "module" ∧ ob.dict = some builtinsNs ∧ ob.data = .plain)
    (ht : ∀ p ∈ ts, s₁.heap.get? p.2 = some (PySem.W.tabObj #[])) (hk : ∀ p ∈ ts, TabK K p.1 p.2)
    (ha : s₁.heap.get? a = some { cls := .type "list", data := .seq vs.toArray }) (hi : IntsAre vs ns) (hl : ns.length ≤ sizeLine) (hr : Room k callerA)
    (F : ∀ base : Heap, K.In base → base.Ns mainGlobals mg → BMain mg base → FnOk P w K mg base CX0 k fa fd [x] sp) (hbind : ∀ (s : Shared) (u : Value), BindsTo s fd ⟨[u], []⟩ [(x, u)])
    (hsp : ∀ H : Hp, FrzL K H a (ns.map V.int) → (∀ p ∈ ts, H p.2 = some (.tbl #[])) → sp [.ref a] H (fun v _ => v = .bl true) fun _ _ _ => False) :
    codeAny (model P w) callerA (.call (.ref fa) ⟨[.ref a], []⟩) (fun r s' => r = .ok (.ret (.bool true)) ∧ OldK s₁.heap s'.heap ∧ s'.os = s₁.os ∧ AllBare s'.gens) s₁ := by
  have rv := vals_ints hi
  have lenV := hi.length
  have core : ∀ H : Hp, FrzL K H a (ns.map V.int) → (∀ p ∈ ts, H p.2 = some (.tbl #[])) → HOk P w H s₁.heap → (∀ b u, H b = some u → (b = a ∧ K.lookup a = none ∧ ∃ o xs, u = .frz o (.lst xs)) ∨ (∃ p ∈ ts, b = p.2 ∧ u = .tbl #[])) →
      codeAny (model P w) callerA (.call (.ref fa) ⟨[.ref a], []⟩) (fun r s' => r = .ok (.ret (.bool true)) ∧ OldK s₁.heap s'.heap ∧ s'.os = s₁.os ∧ AllBare s'.gens) s₁ := by
    intro H hS hT hok hA
    have base_of : ∀ {b : Addr} {o : Obj}, s₁.heap.get? b = some o → H b = none → (hidT s₁.heap H).get? b = some o := fun e n => hidT_get e n
    have noH : ∀ {b : Addr} {o : Obj}, s₁.heap.get? b = some o → o.cls ≠ .type "list" → (∀ vs, o.data ≠ .fields vs) → H b = none := fun {b o} e d1 d2 => by
      cases q : H b with
      | none => rfl
      | some u =>
        rcases hA b u q with ⟨rfl, _⟩ | ⟨p, hp, rfl, _⟩
        · rw [ha] at e; cases e; exact absurd rfl d1
        · rw [ht p hp] at e; cases e; exact absurd rfl (d2 _)
    have noA : ∀ {b : Addr} {o : Obj} {es : Array DictEntry} {ep : Nat}, s₁.heap.get? b = some o → o.data = .dict es ep → H b = none := fun {b o es ep} e d => by
      cases q : H b with
      | none => rfl
      | some u =>
        rcases hA b u q with ⟨rfl, _⟩ | ⟨p, hp, rfl, _⟩
        · rw [ha] at e; cases e
          have d' : Data.seq vs.toArray _ = Data.dict es ep := d
          cases d'
        · rw [ht p hp] at e; cases e
          have d' : Data.fields #[] = Data.dict es ep := d
          cases d'
    have nsK : ∀ {b : Addr} {m : Str → Option Value}, s₁.heap.Ns b m → (hidT s₁.heap H).Ns b m := fun {b m} ⟨o, es, ep, e, d, r⟩ => ⟨o, es, ep, base_of e (noA e d), d, r⟩
    have hKb : K.In (hidT s₁.heap H) := fun b o e => base_of (KX b o e) (by
      cases q : H b with
      | none => rfl
      | some u =>
        rcases hA b u q with ⟨rfl, z, _⟩ | ⟨p, hp, rfl, _⟩
        · rw [z] at e; cases e
        · rw [(hk p hp).out] at e; cases e)
    have hM : Mod K mg (hidT s₁.heap H) := ⟨hKb, nsK hns, ⟨mb, nsK hb, hbb⟩, let ⟨mc, h1, h2⟩ := hlim; ⟨mc, nsK h1, h2⟩⟩
    have e0 : Env0 P w K mg (hidT s₁.heap H) callerA [] s₁ H := ⟨rfl, hM, fun b o e => of_hidT e, Nat.le_of_eq (hidT_size _ _), trivial, fun b hb => absurd (show b ∈ ([] : List Addr) from hb) (by simp), hok, .of_eq hg⟩
    have hBM : BMain mg (hidT s₁.heap H) := by
      obtain ⟨bm, ob, b1, b2, b3, b4, b5, b6⟩ := hbm
      refine ⟨bm, ob, b1, b2, fun z => ?_, base_of b3 (noH b3 (by rw [b4]; simp) fun vs z => by rw [b6] at z; cases z), b4, b5, b6⟩
      obtain ⟨o, es, ep, e, d, _⟩ := hns
      rw [← z, b3] at e; cases e
      rw [b6] at d; cases d
    refine codeAny_mono ((F _ hKb (nsK hns) hBM).run callerA [] s₁ H ⟨[.ref a], []⟩ [.ref a] [.ref a] _ _ hr e0 (hbind s₁ (.ref a)) (.cons rfl .nil) (hsp H hS hT)) fun r s' h => ?_
    cases r with
    | error e => exact False.elim h
    | ok fl =>
      cases fl with
      | next => exact False.elim h
      | brk => exact False.elim h
      | cont => exact False.elim h
      | ret u =>
        obtain ⟨v, H', os, bare, un, hok', r', q⟩ := h
        have q' : v = .bl true := q
        subst q'
        obtain rfl : u = Value.bool true := r'
        refine ⟨rfl, ⟨fun b o e => ?_, fun b o e => un.there b o e (by simp)⟩, os, bare⟩
        cases q : H b with
        | none => exact .inl (un.keep b o e q (by intro z; exact absurd (show b ∈ ([] : List Addr) from z) (by simp)) (by simp))
        | some u =>
          rcases hA b u q with ⟨rfl, _, ob, xs, rfl⟩ | ⟨p, hp, rfl, rfl⟩
          · have z2 := un.frzs _ ob _ q
            obtain ⟨e1, _⟩ := hok _ _ q
            obtain ⟨e2, _⟩ := hok' _ _ z2
            rw [e] at e1; cases e1
            exact .inl e2
          · obtain ⟨more, z2⟩ := un.tbls p.2 #[] q
            have e2 : s'.heap.get? p.2 = some (PySem.W.tabObj (#[] ++ more)) := hok' _ _ z2
            obtain ⟨_, _, _, c, _, _, _, _, hcd⟩ := (hk p hp).code
            have hTA := (PySem.W.codeHd_of_K KX hcd).tab (ht p hp)
            rw [ht p hp] at e; cases e
            exact .inr (.inl ⟨hTA.isCodeTable, rfl, #[], more, rfl, e2⟩)
  have nt : ∀ p ∈ ts, p.2 ≠ a := fun p hp z => by
    have := ht p hp
    rw [z, ha] at this; cases this
  cases hka : K.lookup a with
  | some o =>
    have e := KX a o hka
    rw [ha] at e
    cases e
    let H : Hp := fun b => if (ts.map (·.2)).contains b = true then some (.tbl #[]) else none
    have hin : ∀ p ∈ ts, H p.2 = some (.tbl #[]) := fun p hp => if_pos (by simp; exact ⟨p.1, hp⟩)
    refine core H (.inr ⟨_, vs.toArray, _, hka, rfl, rfl, rfl, by rw [List.size_toArray, lenV]; exact hl, by simpa using rv⟩) hin (fun b u z => ?_) fun b u z => ?_
    · by_cases hb : (ts.map (·.2)).contains b = true
      · have z : (if (ts.map (·.2)).contains b = true then some (HO.tbl #[]) else none) = some u := z
        rw [if_pos hb] at z; cases z
        obtain ⟨p, hp, rfl⟩ := List.mem_map.mp (List.contains_iff_mem.mp hb)
        exact ht p hp
      · have z : (if (ts.map (·.2)).contains b = true then some (HO.tbl #[]) else none) = some u := z
        rw [if_neg hb] at z; cases z
    · by_cases hb : (ts.map (·.2)).contains b = true
      · have z : (if (ts.map (·.2)).contains b = true then some (HO.tbl #[]) else none) = some u := z
        rw [if_pos hb] at z; cases z
        obtain ⟨p, hp, rfl⟩ := List.mem_map.mp (List.contains_iff_mem.mp hb)
        exact .inr ⟨p, hp, rfl, rfl⟩
      · have z : (if (ts.map (·.2)).contains b = true then some (HO.tbl #[]) else none) = some u := z
        rw [if_neg hb] at z; cases z
  | none =>
    let H : Hp := fun b => if b = a then some (.frz { cls := .type "list", data := .seq vs.toArray } (.lst (ns.map V.int))) else if (ts.map (·.2)).contains b = true then some (.tbl #[]) else none
    have hin : ∀ p ∈ ts, H p.2 = some (.tbl #[]) := fun p hp => (if_neg (nt p hp)).trans (if_pos (by simp; exact ⟨p.1, hp⟩))
    have hat : H a = some (.frz { cls := .type "list", data := .seq vs.toArray } (.lst (ns.map V.int))) := if_pos rfl
    have hcase : ∀ b u, H b = some u → (b = a ∧ u = .frz { cls := .type "list", data := .seq vs.toArray } (.lst (ns.map V.int))) ∨ ∃ p ∈ ts, b = p.2 ∧ u = .tbl #[] := fun b u z => by
      by_cases hba : b = a
      · subst hba
        rw [hat] at z; cases z
        exact .inl ⟨rfl, rfl⟩
      · have z : (if b = a then some (HO.frz { cls := .type "list", data := .seq vs.toArray } (.lst (ns.map V.int))) else if (ts.map (·.2)).contains b = true then some (HO.tbl #[]) else none) = some u := z
        rw [if_neg hba] at z
        by_cases hb : (ts.map (·.2)).contains b = true
        · rw [if_pos hb] at z; cases z
          obtain ⟨p, hp, rfl⟩ := List.mem_map.mp (List.contains_iff_mem.mp hb)
          exact .inr ⟨p, hp, rfl, rfl⟩
        · rw [if_neg hb] at z; cases z
    refine core H (.inl ⟨_, hat⟩) hin (fun b u z => ?_) fun b u z => ?_
    · rcases hcase b u z with ⟨rfl, rfl⟩ | ⟨p, hp, rfl, rfl⟩
      · exact ⟨ha, by rw [List.length_map]; exact hl, vs, _, rv, ha⟩
      · exact ht p hp
    · rcases hcase b u z with ⟨rfl, rfl⟩ | h
      · exact .inl ⟨rfl, hka, _, _, rfl⟩
      · exact .inr h
/-- the script and the tables as the law finds them -/
theorem script_repT {K : PySem.W.Frag} {H : Hp} {a : Addr} {ns : List Int} {ts : List (Str × Addr)} (hnd : (ts.map (·.2)).Nodup) (hS : FrzL K H a (ns.map V.int)) (hT : ∀ p ∈ ts, H p.2 = some (.tbl #[])) (hk : ∀ p ∈ ts, TabK K p.1 p.2) :
    RepS K (a :: ts.map (·.2)) H (.frz (ns.map D.int) :: ts.map fun p => .tab p.1) := by
  have hv : ∀ (μ : List Addr) (l : List Int), RepVs K μ H (l.map D.int) (l.map V.int) := fun μ l => by
    induction l with
    | nil => exact RepVs.nil
    | cons i l ih => exact RepVs.cons (RepV.int_iff.mpr rfl) ih
  refine ⟨by simp, fun n o e => ?_, fun i j b oi oj ei ej mi mj hi hj => ?_⟩
  · match n, e with
    | 0, e =>
      simp at e; subst e
      exact ⟨a, rfl, _, hS, hv _ ns⟩
    | n + 1, e =>
      rw [List.getElem?_cons_succ, List.getElem?_map] at e
      cases q : ts[n]? with
      | none => rw [q] at e; cases e
      | some p =>
        rw [q] at e; cases e
        have hp := List.mem_of_getElem? q
        refine ⟨p.2, by rw [List.getElem?_cons_succ, List.getElem?_map, q]; rfl, (hk p hp).code, #[], hT p hp, trivial, fun pos cv z => by cases z⟩
  · match i, j, ei, ej, hi, hj with
    | 0, _, ei, _, _, _ => simp at ei; subst ei; cases mi
    | _ + 1, 0, _, ej, _, _ => simp at ej; subst ej; cases mj
    | i + 1, j + 1, _, _, hi, hj =>
      rw [List.getElem?_cons_succ] at hi hj
      have h1 := (List.getElem?_eq_some_iff.mp hi).1
      rw [(List.getElem?_inj h1 hnd).mp (hi.trans hj.symm)]
theorem holds_ofT (ts : List (Str × Addr)) {l : PySem.W.OpenLaw} {k : Nat} {q : Program} {loose : List Str} {XP : (Str → Option Value) → Heap → Prop} {YP : World → Heap → Prop} {d : DefRec} {K : Params → PySem.W.Frag} {F : FD} {x : Str}
    (hn : l.most = some 63) (hdf : d.params.defaults = []) (hr : Room k callerA) (hnd : (ts.map (·.2)).Nodup)
    (hY : ∀ (w : World) (h : Heap), YP w h → (K w.params).In h ∧ ∀ P ∈ ts.map (·.2), h.get? P = some (PySem.W.tabObj #[]))
    (G : ∀ (w : World) (mg : Str → Option Value) (fa : Addr) (h : Heap), (K w.params).In h → h.Ns mainGlobals mg → mg d.name = some (.ref fa) →
      ∃ fd : FuncData, (∀ (s : Shared) (u : Value), BindsTo s fd ⟨[u], []⟩ [(x, u)]) ∧ (∀ p ∈ ts, TabK (K w.params) p.1 p.2) ∧ ∀ base : Heap, (K w.params).In base → base.Ns mainGlobals mg → BMain mg base → FnOk l.prog w (K w.params) mg base CX0 k fa fd [x] (spM (K w.params) 1 F))
    (hF : ∀ ns : List Int, ns.length ≤ 63 → ∃ st, F [.loc 0] (.frz (ns.map D.int) :: ts.map fun p => .tab p.1) = .ok (.bl true) st) :
    PySem.W.WalkO q loose XP YP l.row.toRowW d [] (fun f vs => PySem.call f vs) := by
  refine Att.attach_call hn hdf fun w s₀ s₁ mg mb fa o pm cd doc a vs ns G0 Y ho hd hcd hmg hobj hints hlen hg => ?_
  obtain ⟨KX, hT⟩ := hY w _ Y
  obtain ⟨fd, hb, hk, hF'⟩ := G w mg fa _ KX G0.T.g hmg
  refine law_callT (ts := ts) KX G0.T.g G0.T.b G0.T.builtins G0.T.nolimit hg G0.T.bmain (fun p hp => hT p.2 (List.mem_map.mpr ⟨p, hp, rfl⟩)) hk hobj hints (Nat.le_trans hlen (by decide)) hr hF' hb fun H hS hTb => ?_
  obtain ⟨st, e⟩ := hF ns hlen
  refine ⟨rfl, a :: ts.map (·.2), [.loc 0], _, RepVs.cons (RepV.loc_iff.mpr ⟨a, rfl, rfl⟩) RepVs.nil, script_repT hnd hS hTb hk, ?_⟩
  rw [e]
  exact fun v H' μ' _ _ hv => RepV.bl_iff.mp hv
/-! ### a def that makes lambdas: it knows its own code -/
structure FunT (K : PySem.W.Frag) (x : Str) (st : Stmt) (f : Addr) (fd : FuncData) : Prop where
  ex : ∃ (oc : Value) (od : Option Addr) (dV kV doc pm : Value) (an : Option Addr) (c : Addr) (ct : Value) (osl : Array (Option Value)),
    fd = PySem.W.fnOf x x (defArgs st) (defBody st) (defScope st) dV kV doc pm an (.ref c) ct ∧ K.lookup f = some ⟨oc, od, .func fd, osl⟩ ∧ PySem.W.codeIn K (.ref c) x = true
  ns : PySem.W.nsIn K mainGlobals x = some (some (.ref f))
  kp : PySem.W.keepIn K (.ref f) = true
theorem fn_okT {P : Program} {w : World} {K : PySem.W.Frag} {mg : Str → Option Value} {base : Heap} {x : Str} {st : Stmt} {f : Addr} {fd : FuncData} {N ps : List Str} {k : Nat} {m : MS} (F : FunT K x st f fd) (S : FnScope N ps (defScope st))
    (hbody : ∀ (cdv : Value) (A : Around) (outer : List Env) (s : Shared) (H : Hp), Room k (A.deeper (PyProof.Rows.envOfC x (defScope st) s.heap.objs.size f cdv)) →
      TabX (cxOf CX0 P w K mg base N x (defScope st) f cdv A outer s H E0).nox x → JSs (cxOf CX0 P w K mg base N x (defScope st) f cdv A outer s H E0).nox (defBody st) m) : FnOk P w K mg base CX0 (k + 1) f fd ps (spM K ps.length (fnM N.length m)) := by
  obtain ⟨oc, od, dV, kV, doc, pm, an, c, ct, osl, rfl, lk, hcd⟩ := F.ex
  refine fn_of lk hcd S (fun vs H Q E h => h.1) fun A outer s H vs Q E hr h => ?_
  obtain ⟨hl, μ, ds, sto, hv, hs, hp⟩ := h
  have hb := hbody (.ref c) A outer s H hr ⟨rfl, c, f, _, _, rfl, F.ns, lk, rfl, rfl⟩
  refine ⟨_, PSs.nox hb, μ, startM N.length ds, sto, RepVs.start N hv, hs, ?_⟩
  unfold fnM at hp
  cases hr : m (startM N.length ds) sto with
  | bad => rw [hr] at hp; exact hp.elim
  | err x st1 => rw [hr] at hp; exact hp.elim
  | ok o st1 =>
    rw [hr] at hp
    cases o with
    | rt d => exact hp
    | nx env => exact fun σ' H' μ' g hs' _ => hp .non H' μ' g hs' (RepV.non_iff.mpr rfl)
    | bk env => exact hp.elim
    | cn env => exact hp.elim
theorem funt_mk {K : PySem.W.Frag} {x : Str} {st : Stmt} {f : Addr} {oc : Value} {od an : Option Addr} {osl : Array (Option Value)} {dV kV doc pm ct : Value} {c : Addr} (n : PySem.W.nsIn K mainGlobals x = some (some (.ref f))) (l : K.lookup f = some ⟨oc, od, .func (PySem.W.fnOf x x (defArgs st) (defBody st) (defScope st) dV kV doc pm an (.ref c) ct), osl⟩)
    (h : PySem.W.codeIn K (.ref c) x = true) (k : PySem.W.keepIn K (.ref f) = true) : FunT K x st f (PySem.W.fnOf x x (defArgs st) (defBody st) (defScope st) dV kV doc pm an (.ref c) ct) := ⟨⟨oc, od, dV, kV, doc, pm, an, c, ct, osl, rfl, l, h⟩, n, k⟩
theorem FunT.tabK {K : PySem.W.Frag} {x : Str} {f P : Addr} {oc : Value} {od an : Option Addr} {osl : Array (Option Value)} {name qual : Str} {params : Arguments} {body : List Stmt} {scope : Scope} {dV kV doc pm ct : Value} {c : Addr} (n : PySem.W.nsIn K mainGlobals x = some (some (.ref f))) (l : K.lookup f = some ⟨oc, od, .func (PySem.W.fnOf name qual params body scope dV kV doc pm an (.ref c) ct), osl⟩)
    (h : PySem.W.codeHdIn K c P = true) (o : K.lookup P = none) : TabK K x P := ⟨⟨f, _, _, c, n, l, rfl, rfl, h⟩, o⟩
/-- lengths of arguments with lambdas -/
theorem lenL_nil : ∀ (env : MEnv) (st : Stor) (as : List LA) (st1 : Stor), nilL env st = .ok as st1 → as.length = ([] : List Expr).length := by
  intro env st as st1 h
  cases h; rfl
theorem lenL_cons {e : Expr} {es : List Expr} {a : ME} {r : ML} (h : ∀ (env : MEnv) (st : Stor) (as : List LA) (st1 : Stor), r env st = .ok as st1 → as.length = es.length) :
    ∀ (env : MEnv) (st : Stor) (as : List LA) (st1 : Stor), consL a r env st = .ok as st1 → as.length = (e :: es).length := by
  intro env st as st1 q
  unfold consL at q
  cases h1 : a env st with
  | bad => rw [h1] at q; cases q
  | err x s => rw [h1] at q; cases q
  | ok x s =>
    rw [h1, R.bind_ok] at q
    cases h2 : r env s with
    | bad => rw [h2] at q; cases q
    | err x s => rw [h2] at q; cases q
    | ok xs s2 =>
      rw [h2, R.bind_ok] at q
      cases q
      rw [List.length_cons, List.length_cons, h env s xs _ h2]
theorem lenL_lam {e : Expr} {es : List Expr} {j k : Nat} {cap : List Nat} {x : Str} {r : ML} (h : ∀ (env : MEnv) (st : Stor) (as : List LA) (st1 : Stor), r env st = .ok as st1 → as.length = es.length) :
    ∀ (env : MEnv) (st : Stor) (as : List LA) (st1 : Stor), lamL j cap k x r env st = .ok as st1 → as.length = (e :: es).length := by
  intro env st as st1 q
  unfold lamL at q
  split at q
  · split at q
    · cases h2 : r env st with
      | bad => rw [h2] at q; cases q
      | err x s => rw [h2] at q; cases q
      | ok xs s2 =>
        rw [h2, R.bind_ok] at q
        cases q
        rw [List.length_cons, List.length_cons, h env st xs _ h2]
    · cases q
  · cases q
end M
namespace M
open PySem PySem.Spec L2
def argAt : Expr → Nat → Expr
  | .Call _ as _ _, i => as.getD i (.Constant .none 0 ⟨0, 0, 0, 0⟩)
  | e, _ => e
def valOfS : Stmt → Expr
  | .Return (some e) _ => e
  | .Assign _ e _ => e
  | _ => .Constant .none 0 ⟨0, 0, 0, 0⟩
def noLam : LamS := ⟨"", ⟨[], [], none, [], [], none, []⟩, .Constant .none 0 ⟨0, 0, 0, 0⟩, defScope (.Pass ⟨0, 0, 0, 0⟩), []⟩
def lamOf (x : Str) (caps : List Str) : Expr → LamS
  | .Lambda ps b sc _ => ⟨lamQual x, ps, b, sc, caps⟩
  | _ => noLam
theorem lamAt_mk {X : Cx} {l : LamS} {cap : List Nat} {sc0 : Scope} (h0 : X.env.scope = sc0) (nd : l.caps.Nodup) (hc : ∀ x ∈ l.caps, sc0.names.lookup x = some .cell) (ix : cap.map (fun i => X.N[i]?) = l.caps.map some) : LamAtX X l cap :=
  ⟨nd, fun x hx => by subst h0; exact hc x hx, ix⟩
end M
namespace M
open L2
/-! ### running lambdas -/
theorem get_hide {s : Stor} {n : Nat} {o : MO} (h : s[n]? = some o) (hc : o.isClo = false) : (hideS s)[n]? = some o := by
  rw [hideS_of h, hc]; rfl
theorem r_callL {Λ : Nat → LamS} {G : Nat → FD} {c j : Nat} {as ds : List D} {s : Stor} {d : D} (h : s[c]? = some (.clo j (Λ j) ds)) (hG : G j (ds ++ as) (hideS s) = .ok d (hideS s)) (hu : under s.length d) : callL Λ G c as s = .ok d s := by
  unfold callL
  rw [h]
  dsimp only
  rw [if_pos rfl, hG, gc_same (by rw [hideS_len]; exact hu)]
  dsimp only
  rw [if_pos ⟨rfl, hu⟩]
theorem r_callC {Λ : Nat → LamS} {G : Nat → FD} {i n j : Nat} {mA : MA} {env : MEnv} {st st1 : Stor} {as ds : List D} {d : D} (hi : env[i]? = some (some (.loc n))) (h0 : st[n]? = some (.clo j (Λ j) ds)) (hA : mA env st = .ok as st1) (h : st1[n]? = some (.clo j (Λ j) ds)) (hG : G j (ds ++ as) (hideS st1) = .ok d (hideS st1)) (hu : under st1.length d) :
    callC Λ G i mA env st = .ok d st1 := by
  unfold callC
  rw [hi]
  dsimp only
  rw [h0]
  dsimp only
  rw [hA, R.bind_ok]
  exact r_callL h hG hu
theorem r_callLm {Λ : Nat → LamS} {F : FD} {dd : List D} {m : ML} {env : MEnv} {st st1 st2 : Stor} {as : List LA} {ds : List D} {os : List MO} {d : D} (hm : m env st = .ok as st1) (hn : noClo st1) (hp : placeL Λ env st1.length as = some (ds, os)) (hF : gc st1 (F (ds ++ dd) (st1 ++ os)) = .ok d st2) (hn2 : noClo st2) :
    callLm Λ F dd m env st = .ok d st2 := by
  unfold callLm
  rw [hm, R.bind_ok, if_pos hn, hp]
  dsimp only
  rw [hF]
  dsimp only
  rw [if_pos hn2]
@[simp] theorem noClo_nil : noClo [] := fun _ h => nomatch h
@[simp] theorem noClo_cons (o : MO) (st : Stor) : noClo (o :: st) ↔ o.isClo = false ∧ noClo st := by simp [noClo]
@[simp] theorem noClo_app (a b : Stor) : noClo (a ++ b) ↔ noClo a ∧ noClo b := by
  simp only [noClo, List.mem_append]
  exact ⟨fun h => ⟨fun o ho => h o (.inl ho), fun o ho => h o (.inr ho)⟩, fun h o ho => ho.elim (h.1 o) (h.2 o)⟩
@[simp] theorem isClo_lst (l : List D) : (MO.lst l).isClo = false := rfl
@[simp] theorem isClo_frz (l : List D) : (MO.frz l).isClo = false := rfl
@[simp] theorem isClo_tab (x : PySem.Str) : (MO.tab x).isClo = false := rfl
@[simp] theorem isClo_dic (l : List (List Key × D)) : (MO.dic l).isClo = false := rfl
@[simp] theorem isClo_dkc (l : List (Key × D)) : (MO.dkc l).isClo = false := rfl
@[simp] theorem isClo_dkf (l : List (Key × D)) : (MO.dkf l).isClo = false := rfl
end M
namespace M
open PySem PySem.Spec L2
section
variable {X : Cx} {elt tg iter c : Expr} {ifs : List Expr} {scope : Scope} {pos : Pos} {N : List Str} {capt : List (Option Nat)} {mi : MI} {g : MG} {t : MT} {me : ME}
end
end M
namespace L2
open PySem PySem.Spec PyProof.Rows
/-! ### enumerate(text), of signs below 128 -/
def Ites (x : Str) : It :=
  ⟨fun i _ => i < x.cps.size,
   fun i H y H' => ∃ p c, H p = none ∧ y = .ref p ∧ x.cps[i]? = some c ∧ H' = upd H p (.tup [.int i, .str ⟨#[c]⟩]),
   fun i _ => x.cps.size ≤ i⟩
def iEnumS (ta : TA) : TI := fun σ H R => ta σ H fun vs H1 => ∃ x, vs = [.str x] ∧ strIterType x = "str_ascii_iterator" ∧ R (Ites x) H1
end L2
namespace M
open PySem PySem.Spec L2
section
variable {X : Cx} {a : Expr} {mA : MA} {μ : List Addr} {H : Hp} {p pos tpos : Pos}
def enumSI (mA : MA) : MI := fun env st => (mA env st).bind fun ds st1 => match ds with
  | [.str cs] => if cs.all (fun c => decide (c < 128)) = true then .ok (enumL 0 (cs.map fun c => D.str [c]), []) st1 else .bad
  | _ => .bad
end
end M
namespace M
open PySem PySem.Spec PySem.SeqAt L2
/-! ### tuples of the module's top -/
theorem RepV.kt {K : PySem.W.Frag} {a : Addr} {od : Option Addr} {its : Array Value} {n : Nat} {sl : Array (Option Value)} {ds : List D} (xs : List V) (l : K.lookup a = some ⟨.type "tuple", od, .seq its n, sl⟩) (hs : its.size ≤ sizeLine) (hv : Vals xs its.toList) (nk : noKey ds = true)
    (hr : ∀ μ H, RepVs K μ H ds xs) : ∀ μ H, RepV K μ H (.tup ds) (.ref a) := fun μ H => RepV.tup_iff.mpr ⟨a, xs, rfl, .inr ⟨nk, _, its, n, l, rfl, rfl, hs, hv⟩, hr μ H⟩
theorem RepVs.n {K : PySem.W.Frag} : ∀ μ H, RepVs K μ H [] [] := fun _ _ => RepVs.nil
theorem RepVs.c {K : PySem.W.Frag} {d : D} {ds : List D} {v : V} {vs : List V} (h : ∀ μ H, RepV K μ H d v) (k : ∀ μ H, RepVs K μ H ds vs) : ∀ μ H, RepVs K μ H (d :: ds) (v :: vs) := fun μ H => RepVs.cons (h μ H) (k μ H)
theorem RepV.ks {K : PySem.W.Frag} {cs : List Nat} {y : Str} (hy : y = strOf cs) : ∀ μ H, RepV K μ H (.str cs) (.str y) := fun _ _ => RepV.str_iff.mpr (by rw [hy])
theorem RepV.ki {K : PySem.W.Frag} {i : Int} : ∀ μ H, RepV K μ H (.int i) (.int i) := fun _ _ => RepV.int_iff.mpr rfl
theorem RepV.kb {K : PySem.W.Frag} {b : Bool} : ∀ μ H, RepV K μ H (.bl b) (.bl b) := fun _ _ => RepV.bl_iff.mpr rfl
section
variable {X : Cx} {pos : Pos} {x : Str} {L : Nat}
theorem je_globT {d : D} (h : ∃ a, X.mg x = some (.ref a) ∧ ∀ μ H, RepV X.K μ H d (.ref a)) (hg : Gl X x := by rfl) (hd : (x == ("__debug__" : Str)) = false := by decide) : JE X (.Name x pos) (ct d) := by
  obtain ⟨a, h, hv⟩ := h
  exact je_globV (v := .ref a) hg h rfl hv hd
/-! ### x in a list of flat things -/
def inLV (L : Nat) (neg : Bool) : D → D → Stor → R D
  | d, .loc n, st => match itemsAt st n with
    | some ds => if flat d = true ∧ flats ds = true ∧ (ds.all fun e => decide (cdep e d < L)) = true then .ok (.bl (if neg then !(ds.any fun e => eqD e d) else ds.any fun e => eqD e d)) st else .bad
    | none => .bad
  | _, _, _ => .bad
end
end M
namespace M
open PySem PySem.Spec L2
/-! ### a, b = a list -/
section
variable {prog : Program} {w : World} {A : Around} {E : Value → Shared → Prop} {s : Shared}
end
section
variable {X : Cx} {es : List Expr} {pos : Pos}
/-- (a, b, ..) = a tuple or a list of that length -/
def gSeq (K : PySem.W.Frag) (n : Nat) (t : TGs) : TG := fun v σ H Q => ∃ a xs, v = .ref a ∧ (SqT K H a xs ∨ SqL K H a xs) ∧ xs.length = n ∧ t xs σ H Q
def unpG (n : Nat) (g : MGs) : MG := fun d env st => match d with
  | .tup ds => if ds.length = n then g ds env st else .bad
  | .loc k => (match itemsAt st k with | some ds => if ds.length = n then g ds env st else .bad | none => .bad)
  | _ => .bad
end
end M
namespace M
namespace Tr
/-! ### just n steps; coming to a value -/
def stp : Nat → Tr → Option Tr
  | 0, t => some t
  | n + 1, t => (step t).bind (stp n)
theorem stp_succ {n : Nat} {t u : Tr} (h : step t = some u) : stp (n + 1) t = stp n u := by rw [stp, h]; rfl
theorem stp_add : ∀ {a b : Nat} {t u : Tr}, stp a t = some u → stp (a + b) t = stp b u
  | 0, b, t, u, h => by rw [stp] at h; cases h; rw [Nat.zero_add]
  | a + 1, b, t, u, h => by
    cases e : step t with
    | none => rw [stp, e] at h; cases h
    | some x =>
      rw [stp_succ e] at h
      rw [Nat.add_right_comm, stp_succ e]
      exact stp_add h
theorem step_nv {t u : Tr} (h : step t = some u) : val t = false := by
  cases e : val t with
  | false => rfl
  | true => rw [step_val e] at h; cases h
theorem stp_left {r : Tr} : ∀ {n : Nat} {l l' : Tr}, stp n l = some l' → stp n (.jn l r) = some (.jn l' r)
  | 0, l, l', h => by rw [stp] at h ⊢; cases h; rfl
  | n + 1, l, l', h => by
    cases e : step l with
    | none => rw [stp, e] at h; cases h
    | some x =>
      rw [stp_succ e] at h
      rw [stp_succ (u := .jn x r) (by rw [step_left (step_nv e), e]; rfl)]
      exact stp_left h
theorem stp_right {l : Tr} (hl : val l = true) : ∀ {n : Nat} {r r' : Tr}, stp n r = some r' → stp n (.jn l r) = some (.jn l r')
  | 0, l, l', h => by rw [stp] at h ⊢; cases h; rfl
  | n + 1, r, r', h => by
    cases e : step r with
    | none => rw [stp, e] at h; cases h
    | some x =>
      rw [stp_succ e] at h
      rw [stp_succ (u := .jn l x) (by rw [step_right hl (step_nv e), e]; rfl)]
      exact stp_right hl h
theorem run_stp : ∀ {n : Nat} {t u : Tr}, stp n t = some u → run n t = (u, n)
  | 0, t, u, h => by rw [stp] at h; cases h; rfl
  | n + 1, t, u, h => by
    cases e : step t with
    | none => rw [stp, e] at h; cases h
    | some x =>
      rw [stp_succ e] at h
      rw [run_some e, run_stp h]
theorem run_val {n m : Nat} {t v : Tr} (h : stp n t = some v) (hv : val v = true) (hm : n ≤ m) : run m t = (v, n) := by
  obtain ⟨k, rfl⟩ := Nat.exists_eq_add_of_le hm
  rw [run_add, run_stp h, run_none (step_val hv)]; rfl
/-- comes to a value in n steps -/
def Ev (t : Tr) (n : Nat) (v : Tr) : Prop := stp n t = some v ∧ val v = true
theorem Ev.v {v : Tr} (h : Tr.val v = true) : Ev v 0 v := ⟨rfl, h⟩
theorem Ev.to {t v : Tr} {n m : Nat} (h : Ev t n v) (e : n = m) : Ev t m v := e ▸ h
theorem Ev.run {t v : Tr} {n m : Nat} (h : Ev t n v) (hm : n ≤ m) : Tr.run m t = (v, n) := run_val h.1 h.2 hm
theorem Ev.both {l r a b : Tr} {n m : Nat} (h : Ev l n a) (k : Ev r m b) : stp (n + m) (.jn l r) = some (.jn a b) := by
  rw [stp_add (stp_left h.1)]
  exact stp_right h.2 k.1
theorem Ev.jv {l r a b : Tr} {n m : Nat} (h : Ev l n a) (k : Ev r m b) (hv : Tr.val (.jn a b) = true) : Ev (.jn l r) (n + m) (.jn a b) := ⟨h.both k, hv⟩
theorem Ev.red {l r a b u v : Tr} {n m k : Nat} (h : Ev l n a) (h2 : Ev r m b) (hn : Tr.val (.jn a b) = false) (hr : redex a b = some u) (h3 : Ev u k v) : Ev (.jn l r) (n + m + 1 + k) v := by
  refine ⟨?_, h3.2⟩
  rw [Nat.add_assoc (n + m), stp_add (h.both h2), Nat.add_comm 1 k, stp_succ (u := u) (by rw [step_here h.2 h2.2 hn, hr])]
  exact h3.1
abbrev tS : Tr := .lf [83]
abbrev tK : Tr := .lf [75]
abbrev tI : Tr := .jn (.jn tS tK) tK
theorem val_K (v : Tr) : val (.jn tK v) = val v := by rw [val_jn_leaf]; simp
theorem val_S (v : Tr) : val (.jn tS v) = val v := by rw [val_jn_leaf]; simp
theorem val_SS (u v : Tr) : val (.jn (.jn tS u) v) = (val v && val u) := by rw [val_jn_jn, val_S]; simp [isSj]
theorem val_KK (u v : Tr) : val (.jn (.jn tK u) v) = false := by rw [val_jn_jn]; simp [isSj]
theorem val_SSS (u v w : Tr) : val (.jn (.jn (.jn tS u) v) w) = false := by rw [val_jn_jn]; simp [isSj]
theorem val_I : val tI = true := by decide
theorem Ev.K {l r v w : Tr} {n m : Nat} (h : Ev l n (.jn tK v)) (h2 : Ev r m w) : Ev (.jn l r) (n + m + 1) v := by
  have hv : val v = true := by rw [← val_K]; exact h.2
  exact (h.red h2 (val_KK _ _) (by rw [redex, if_pos rfl]) (Ev.v hv)).to (by omega)
theorem Ev.S {l r u v w x : Tr} {n m k : Nat} (h : Ev l n (.jn (.jn tS u) v)) (h2 : Ev r m w) (h3 : Ev (.jn (.jn u w) (.jn v w)) k x) : Ev (.jn l r) (n + m + 1 + k) x :=
  h.red h2 (val_SSS _ _ _) rfl h3
/-- ((S K) K) hands on what it is handed -/
theorem Ev.I {r w : Tr} {m : Nat} (h : Ev r m w) : Ev (.jn tI r) (m + 2) w := by
  have hK : Ev tK 0 tK := Ev.v rfl
  have hw : Ev w 0 w := Ev.v h.2
  have h1 : Ev (.jn tK w) 0 (.jn tK w) := Ev.v (by rw [val_K]; exact h.2)
  exact ((Ev.v val_I).S h (h1.K h1)).to (by omega)
theorem Ev.det {t v w : Tr} {n m : Nat} (h : Ev t n v) (k : Ev t m w) : n = m ∧ v = w := by
  have a := h.run (Nat.le_add_right n m)
  have b := k.run (Nat.le_add_left m n)
  rw [a] at b
  exact ⟨congrArg Prod.snd b, congrArg Prod.fst b⟩
end Tr
end M
namespace M
namespace Tr
theorem Ev.comp {l r a b v : Tr} {n m k : Nat} (h : Ev l n a) (h2 : Ev r m b) (h3 : Ev (.jn a b) k v) : Ev (.jn l r) (n + m + k) v := by
  refine ⟨?_, h3.2⟩
  rw [stp_add (h.both h2)]; exact h3.1
/-- handed things one by one -/
inductive AppEv (p : Tr) : List Tr → Nat → Tr → Prop
  | nil (h : val p = true) : AppEv p [] 0 p
  | snoc (ts : List Tr) (t w v : Tr) (n m : Nat) (h : AppEv p ts n w) (ht : val t = true) (k : Ev (.jn w t) m v) : AppEv p (ts ++ [t]) (n + m) v
def apps (p : Tr) (ts : List Tr) : Tr := ts.foldl (fun w t => .jn w t) p
/-- what hands its things to whatever it is handed -/
def hold (ts : List Tr) : Tr := ts.foldl (fun w t => .jn (.jn tS w) (.jn tK t)) tI
theorem hold_snoc (ts : List Tr) (t : Tr) : hold (ts ++ [t]) = .jn (.jn tS (hold ts)) (.jn tK t) := by simp [hold]
theorem val_fold : ∀ (ts : List Tr) (w : Tr), val w = true → (∀ t ∈ ts, val t = true) → val (ts.foldl (fun w t => .jn (.jn tS w) (.jn tK t)) w) = true
  | [], w, h, _ => h
  | t :: ts, w, h, k => val_fold ts _ (by rw [val_SS, val_K, h, k t (by simp)]; rfl) fun x hx => k x (by simp [hx])
theorem val_hold {ts : List Tr} (h : ∀ t ∈ ts, val t = true) : val (hold ts) = true := val_fold ts tI val_I h
theorem Ev_hold {p v : Tr} {ts : List Tr} {n : Nat} (hp : Tr.val p = true) (h : AppEv p ts n v) : val (hold ts) = true ∧ Ev (.jn (hold ts) p) (n + 2 + 2 * ts.length) v := by
  induction h with
  | nil h => exact ⟨val_I, Ev.I (Ev.v h)⟩
  | snoc ts t w v n m h ht k ih =>
    obtain ⟨i1, i2⟩ := ih
    have hv : val (hold (ts ++ [t])) = true := by rw [hold_snoc, val_SS, val_K, ht, i1]; rfl
    refine ⟨hv, ?_⟩
    have e1 : Ev (.jn (.jn tK t) p) 1 t := ((Ev.v (v := .jn tK t) (by rw [val_K]; exact ht)).K (Ev.v hp)).to (by omega)
    have e2 := (Ev.v hv)
    rw [hold_snoc] at e2 ⊢
    refine (e2.S (Ev.v hp) (i2.comp e1 k)).to ?_
    rw [List.length_append, List.length_singleton]; omega
/-- names that do not stand there, and a value -/
def unas : Nat → Tr → Tr
  | 0, v => v
  | n + 1, v => .jn tK (unas n v)
theorem val_unas {v : Tr} (h : val v = true) : ∀ n, val (unas n v) = true
  | 0 => h
  | n + 1 => by rw [unas, val_K]; exact val_unas h n
/-- the name x taken out of m times (K ..) of x -/
def pkT : Nat → Tr
  | 0 => tI
  | 1 => tK
  | m + 2 => .jn (.jn tS (.jn tK tK)) (pkT (m + 1))
def pkC : Nat → Nat
  | 0 => 2
  | 1 => 0
  | m + 2 => 2 + pkC (m + 1)
theorem val_pkT : ∀ m, val (pkT m) = true
  | 0 => rfl
  | 1 => rfl
  | m + 2 => by rw [pkT, val_SS, val_pkT (m + 1)]; rfl
theorem Ev_pkT {a : Tr} (h : val a = true) : ∀ m, Ev (.jn (pkT m) a) (pkC m) (unas m a)
  | 0 => Ev.I (Ev.v h)
  | 1 => Ev.v (by rw [show (.jn (pkT 1) a : Tr) = .jn tK a from rfl, val_K]; exact h)
  | m + 2 => by
    have hv := val_pkT (m + 2)
    have ih := Ev_pkT h (m + 1)
    have e1 : Ev (.jn (.jn tK tK) a) 1 tK := ((Ev.v (v := .jn tK tK) rfl).K (Ev.v h)).to (by omega)
    rw [pkT] at hv ⊢
    exact ((Ev.v hv).S (Ev.v h) (e1.jv ih (by rw [val_K]; exact val_unas h _))).to (by rw [pkC]; omega)
def pickT (k many : Nat) : Tr := unas k (pkT (many - 1 - k))
theorem val_pickT (k many : Nat) : val (pickT k many) = true := val_unas (val_pkT _) _
theorem AppEv_drop {w : Tr} (hw : val w = true) : ∀ (ts : List Tr) (j : Nat), (∀ t ∈ ts, val t = true) → AppEv (unas (ts.length + j) w) ts ts.length (unas j w) := by
  intro ts
  induction hn : ts.length generalizing ts with
  | zero =>
    intro j h
    have : ts = [] := List.length_eq_zero_iff.mp hn
    subst this
    rw [Nat.zero_add]
    exact .nil (val_unas hw _)
  | succ n ih =>
    intro j h
    obtain ⟨us, t, rfl⟩ : ∃ us t, ts = us ++ [t] := by
      rcases List.eq_nil_or_concat ts with rfl | ⟨us, t, rfl⟩
      · cases hn
      · exact ⟨us, t, by rw [List.concat_eq_append]⟩
    have hl : us.length = n := by simpa using hn
    have h1 := ih us hl (j + 1) fun x hx => h x (by simp [hx])
    rw [show n + 1 + j = n + (j + 1) by omega]
    refine .snoc _ _ _ _ _ 1 h1 (h t (by simp)) ?_
    exact ((Ev.v (v := .jn tK (unas j w)) (by rw [val_K]; exact val_unas hw _)).K (Ev.v (h t (by simp)))).to (by omega)
theorem AppEv.trans {p w v : Tr} {ts us : List Tr} {n m : Nat} (h : AppEv p ts n w) (k : AppEv w us m v) : AppEv p (ts ++ us) (n + m) v := by
  induction k with
  | nil hw => simpa using h
  | snoc us t x v m k hk ht e ih =>
    rw [← List.append_assoc, ← Nat.add_assoc]
    exact .snoc _ _ _ _ _ _ ih ht e
/-- a pick comes to the k-th -/
theorem AppEv_pick {ts : List Tr} {k : Nat} {t : Tr} (hv : ∀ x ∈ ts, val x = true) (hk : ts[k]? = some t) : AppEv (pickT k ts.length) ts (k + pkC (ts.length - 1 - k) + (ts.length - 1 - k)) t := by
  have hl := (List.getElem?_eq_some_iff.mp hk).1
  have ht : val t = true := hv t (List.mem_of_getElem? hk)
  have e : ts = ts.take k ++ [t] ++ ts.drop (k + 1) := by
    rw [List.append_assoc]
    have h1 : ts.drop k = t :: ts.drop (k + 1) := by
      rw [List.drop_eq_getElem_cons hl]
      rw [List.getElem?_eq_getElem hl] at hk
      cases hk; rfl
    rw [List.singleton_append, ← h1, List.take_append_drop]
  have l1 : (ts.take k).length = k := by rw [List.length_take]; omega
  have l2 : (ts.drop (k + 1)).length = ts.length - 1 - k := by rw [List.length_drop]; omega
  have a1 := AppEv_drop (val_pkT (ts.length - 1 - k)) (ts.take k) 0 fun x hx => hv x (List.mem_of_mem_take hx)
  have a2 := AppEv_drop ht (ts.drop (k + 1)) 0 fun x hx => hv x (List.mem_of_mem_drop hx)
  rw [l1, Nat.add_zero] at a1
  rw [l2, Nat.add_zero] at a2
  have a3 : AppEv (pickT k ts.length) (ts.take k ++ [t]) (k + pkC (ts.length - 1 - k)) (unas (ts.length - 1 - k) t) := .snoc _ _ _ _ _ _ a1 ht (Ev_pkT ht _)
  have := a3.trans a2
  rw [← e] at this
  exact this
end Tr
end M
namespace M
open Tr
open Classical in
theorem eqD_enc : ∀ (t u : Tr), eqD (enc t) (enc u) = decide (t = u)
  | .lf a, .lf b => by
    rw [enc, enc, eqD, Bool.eq_iff_iff]; simp
  | .lf a, .jn l r => by rw [enc, enc]; simp [eqD]
  | .jn l r, .lf a => by rw [enc, enc]; simp [eqD]
  | .jn l r, .jn l' r' => by
    have h1 := eqD_enc l l'
    have h2 := eqD_enc r r'
    rw [enc, enc, eqD, eqDs, eqDs, h1, h2]
    by_cases e1 : l = l'
    · by_cases e2 : r = r'
      · subst e1 e2; simp [eqD, eqDs]
      · have : (Tr.jn l r = .jn l' r') = False := by simp [e2]
        simp [e2]
    · simp [e1]
open Classical in
theorem eq_encs (t u : Tr) (st : Stor) (h : dp t < 800) : eqV 800 (enc t) (enc u) st = .ok (.bl (decide (t = u))) st := by
  have hc := cdep_le (enc t) (enc u)
  rw [enc_dep] at hc
  have hr : eqR 800 (enc t) (enc u) st = some (decide (t = u)) := by
    have h1 := enc_flat t
    have h2 := enc_flat u
    have h3 := eqD_enc t u
    rw [← h3]
    have h4 : cdep (enc t) (enc u) < 800 := by omega
    cases t <;> cases u <;> (rw [enc, enc] at *; simp only [eqR]; rw [if_pos ⟨h1, h2, h4⟩])
  unfold eqV
  rw [hr]
open Classical in
theorem ne_encs (t u : Tr) (st : Stor) (h : dp t < 800) : neV 800 (enc t) (enc u) st = .ok (.bl (!decide (t = u))) st := by
  have hc := cdep_le (enc t) (enc u)
  rw [enc_dep] at hc
  have hr : eqR 800 (enc t) (enc u) st = some (decide (t = u)) := by
    have h1 := enc_flat t
    have h2 := enc_flat u
    have h3 := eqD_enc t u
    rw [← h3]
    have h4 : cdep (enc t) (enc u) < 800 := by omega
    cases t <;> cases u <;> (rw [enc, enc] at *; simp only [eqR]; rw [if_pos ⟨h1, h2, h4⟩])
  unfold neV
  rw [hr]
end M
namespace M
open L2
/-- l.pop(i), i from 0 on -/
def popAtV : D → List D → Stor → R D
  | .loc n, [.int i], st => match st[n]? with
    | some (.lst ds) => if 0 ≤ i ∧ i < 1000000 then (match ds[i.toNat]? with | some d => .ok d (st.set n (.lst (ds.eraseIdx i.toNat))) | none => .bad) else .bad
    | _ => .bad
  | _, _, _ => .bad
end M
namespace M
open PySem PySem.Spec L2
section
variable {X : Cx}
end
end M
namespace M
open L2
/-! ### dicts whose keys are ints and texts -/
def valN (kvs : List (Key × D)) (k : Key) : Option D := (kvs.find? fun kv => decide (kv.1 = k)).map (·.2)
theorem valN_cons (p : Key × D) (r : List (Key × D)) (k : Key) : valN (p :: r) k = if p.1 = k then some p.2 else valN r k := by
  unfold valN
  rw [List.find?_cons]
  by_cases h : p.1 = k
  · simp [h]
  · simp [h]
def putN (kvs : List (Key × D)) (k : Key) (d : D) : List (Key × D) :=
  if (kvs.any fun kv => decide (kv.1 = k)) = true then kvs.map (fun kv => if kv.1 = k then (kv.1, d) else kv) else kvs ++ [(k, d)]
def mergeN (kvs more : List (Key × D)) : List (Key × D) := more.foldl (fun acc kv => putN acc kv.1 kv.2) kvs
/-- {} -/
def dkE : ME := fun _ st => .ok (.loc st.length) (st ++ [.dkc []])
@[simp] theorem r_dkE (env : MEnv) (st : Stor) : dkE env st = .ok (.loc st.length) (st ++ [.dkc []]) := by_rfl rfl
/-- d.get(k, x) -/
def getK2 : D → List D → Stor → R D
  | .loc n, [k, d], st => match st[n]?, keyOf k with
    | some (.dkc kvs), some kk => .ok ((valN kvs kk).getD d) st
    | _, _ => .bad
  | _, _, _ => .bad
/-- d[k] -/
def ixK : D → D → Stor → R D
  | .loc n, k, st => match st[n]?, keyOf k with
    | some (.dkc kvs), some kk => (match valN kvs kk with | some d => .ok d st | none => .bad)
    | _, _ => .bad
  | _, _, _ => .bad
/-- d[k] = v -/
def setK : D → D → D → Stor → R Unit
  | .loc n, k, d, st => match st[n]?, keyOf k with
    | some (.dkc kvs), some kk => if kvs.length < 1000000 then .ok () (st.set n (.dkc (putN kvs kk d))) else .bad
    | _, _ => .bad
  | _, _, _, _ => .bad
/-- pairs of a display -/
abbrev MPs := MEnv → Stor → R (List (D × D))
def nilPs : MPs := fun _ st => .ok [] st
def consPs (a b : ME) (r : MPs) : MPs := fun env st => (a env st).bind fun x st1 => (b env st1).bind fun y st2 => (r env st2).bind fun ps st3 => .ok ((x, y) :: ps) st3
def keysP : List (D × D) → Option (List (Key × D))
  | [] => some []
  | (k, d) :: r => match keyOf k, keysP r with | some kk, some l => some ((kk, d) :: l) | _, _ => none
/-- {k: v, ..} -/
def dispE (m : MPs) : ME := fun env st => (m env (st ++ [.dkc []])).bind fun ps st1 => match keysP ps, st1[st.length]? with
  | some kvs, some (.dkc []) => if kvs.length ≤ 15 then .ok (.loc st.length) (st1.set st.length (.dkc (mergeN [] kvs))) else .bad
  | _, _ => .bad
end M
namespace M
open PySem PySem.Spec L2
section
variable {X : Cx} {K : PySem.W.Frag} {μ : List Addr} {H : Hp}
theorem RepKV.valN {k : Key} : ∀ {kvs : List (Key × D)} {ws : List (Key × V)}, RepKV K μ H kvs ws →
    (M.valN kvs k = none ∧ valV ws k = none) ∨ ∃ d v, M.valN kvs k = some d ∧ valV ws k = some v ∧ RepV K μ H d v
  | [], ws, h => .inl ⟨rfl, by rw [RepKV] at h; rw [h]; rfl⟩
  | (j, d) :: r, ws, h => by
    obtain ⟨v, r', rfl, h1, h2⟩ := h
    rw [valN_cons]
    by_cases e : j = k
    · rw [if_pos e]
      exact .inr ⟨d, v, rfl, valV_pos (p := (j, v)) e, h1⟩
    · rw [if_neg e, valV_neg (p := (j, v)) e]
      exact RepKV.valN h2
theorem RepKV.anyN {k : Key} : ∀ {kvs : List (Key × D)} {ws : List (Key × V)}, RepKV K μ H kvs ws → (kvs.any fun kv => decide (kv.1 = k)) = (ws.any fun kv => decide (kv.1 = k))
  | [], ws, h => by rw [RepKV] at h; rw [h]; rfl
  | (j, d) :: r, ws, h => by
    obtain ⟨v, r', rfl, h1, h2⟩ := h
    rw [List.any_cons, List.any_cons, RepKV.anyN h2]
theorem RepKV.replN {k : Key} {d : D} {v : V} (hv : RepV K μ H d v) : ∀ {kvs : List (Key × D)} {ws : List (Key × V)}, RepKV K μ H kvs ws → RepKV K μ H (kvs.map fun kv => if kv.1 = k then (kv.1, d) else kv) (ws.map fun kv => if kv.1 = k then (kv.1, v) else kv)
  | [], ws, h => by rw [RepKV] at h; subst h; exact rfl
  | (j, d') :: r, ws, h => by
    obtain ⟨v', r', rfl, h1, h2⟩ := h
    rw [List.map_cons, List.map_cons]
    by_cases e : j = k
    · rw [if_pos e, if_pos e]; exact ⟨v, _, rfl, hv, RepKV.replN hv h2⟩
    · rw [if_neg e, if_neg e]; exact ⟨v', _, rfl, h1, RepKV.replN hv h2⟩
theorem RepKV.snocN {k : Key} {d : D} {v : V} : ∀ {kvs : List (Key × D)} {ws : List (Key × V)}, RepKV K μ H kvs ws → RepV K μ H d v → RepKV K μ H (kvs ++ [(k, d)]) (ws ++ [(k, v)])
  | [], ws, h, hv => by rw [RepKV] at h; subst h; exact ⟨v, [], rfl, hv, rfl⟩
  | (j, d') :: r, ws, h, hv => by
    obtain ⟨v', r', rfl, h1, h2⟩ := h
    exact ⟨v', r' ++ [(k, v)], rfl, h1, RepKV.snocN h2 hv⟩
theorem RepKV.putN {k : Key} {d : D} {v : V} {kvs : List (Key × D)} {ws : List (Key × V)} (h : RepKV K μ H kvs ws) (hv : RepV K μ H d v) : RepKV K μ H (M.putN kvs k d) (putK ws k v) := by
  unfold M.putN putK
  rw [h.anyN]
  split
  · exact RepKV.replN hv h
  · exact h.snocN hv
theorem RepS.dkc {st : Stor} {n : Nat} {kvs : List (Key × D)} (h : RepS K μ H st) (e : st[n]? = some (.dkc kvs)) : ∃ p ws, μ[n]? = some p ∧ H p = some (.dK ws) ∧ RepKV K μ H kvs ws := by
  obtain ⟨p, h1, xs, h2, h3⟩ := h.at_ n _ e
  exact ⟨p, xs, h1, h2, h3⟩
theorem RepV.key {d : D} {v : V} {k : Key} (h : RepV K μ H d v) (e : keyOf d = some k) : v = kV k := by
  cases d with
  | int i => rw [RepV.int_iff] at h; cases e; exact h
  | str cs => rw [RepV.str_iff] at h; cases e; exact h
  | _ => cases e
end
section
variable {X : Cx} {a b o i : Expr} {ma mb : ME} {pos : Pos}
theorem je_dictK : JE X (.Dict [] [] pos) dkE := by
  refine JE.of pe_dnewK fun σ H Q ⟨μ, env, st, hE, hs, hp⟩ => fun p hn => ?_
  have hr : RepO X.K (μ ++ [p]) (upd H p (.dK [])) p (.dkc []) := ⟨[], upd_same, rfl⟩
  exact hp _ _ (μ ++ [p]) (Grow.new hn) (hs.new hn hr) (RepV.loc_iff.mpr ⟨p, by rw [← hs.len]; simp, rfl⟩)
theorem set_K (hu : X.A.units + 1 < cLine) : PSet X (rMSet X setK) := by
  rintro pins s σ H o i v ov iv u Q I ro ri rv ⟨μ, st, d1, d2, d3, hs, h1, h2, h3, hp⟩
  unfold setK at hp
  split at hp
  · rename_i n k d
    split at hp
    · rename_i kvs kk e1 e2
      split at hp
      · rename_i hl
        obtain ⟨p, q1, rfl⟩ := RepV.loc_iff.mp h1
        obtain rfl := h2.key e2
        obtain ⟨p', ws, r1, r2, r3⟩ := hs.dkc e1
        rw [q1] at r1; cases r1
        obtain rfl : ov = Value.ref p := ro
        refine d_setItem hu I (DPut.k r2 (by rw [← r3.len]; exact Nat.lt_of_lt_of_le hl (by decide))) ri rv fun s' I' => ⟨_, I', ?_⟩
        have g : Ext H (upd H p (.dK (putK ws kk v))) := Ext.mut r2 (fun _ z => nomatch z) (fun _ _ z => nomatch z)
        have g' : Grow μ H μ (upd H p (.dK (putK ws kk v))) := ⟨⟨[], by simp⟩, g⟩
        exact hp () _ μ g' (hs.put e1 rfl rfl q1 g ⟨_, upd_same, (r3.putN h3).mono g'⟩) trivial
      · exact hp.elim
    · exact hp.elim
  · exact hp.elim
/-! displays -/
def RepPs (K : PySem.W.Frag) (μ : List Addr) (H : Hp) : List (D × D) → List (V × V) → Prop
  | [], vs => vs = []
  | (k, d) :: r, vs => ∃ u v s, vs = (u, v) :: s ∧ RepV K μ H k u ∧ RepV K μ H d v ∧ RepPs K μ H r s
abbrev relPs (X : Cx) : Rel (List (D × D)) (List (V × V)) := fun μ H d v => RepPs X.K μ H d v
def JPs (X : Cx) (pos : Pos) (keys : List (Option Expr)) (values : List Expr) (m : MPs) : Prop :=
  ∃ trs, PPs X pos keys values trs ∧ ∀ (σ : L2.St) (H : Hp) (Q : List (V × V) → Hp → Prop) (μ : List Addr) (env : MEnv) (st : Stor), RepE X.K μ H env σ → RepS X.K μ H st → Post X μ H (relPs X) Q (m env st) → tPairs trs σ H Q
end
end M
namespace M
open PySem PySem.Spec PySem.SeqAt L2
/-- ==, where lists of different lengths may hold what they will -/
def eqNV (L : Nat) : D → D → Stor → R D
  | .loc m, .loc n, st => match itemsAt st m, itemsAt st n with
    | some a, some b => if a.length = b.length then eqV L (.loc m) (.loc n) st else if 1 < L then .ok (.bl false) st else .bad
    | _, _ => .bad
  | d1, d2, st => eqV L d1 d2 st
end M
namespace L2
open PySem PySem.Spec PyProof.Rows
/-! ### for k in d (a dict with plain keys) -/
theorem key_rel {P : Program} {w : World} {k : Key} {u : Value} (h : (mixKind P w).is k u = true) : RelV (kV k) u := by
  rw [mixKind_is] at h
  rcases keyIs_shape h with ⟨i, t, rfl, rfl⟩ | ⟨x, t, rfl, rfl⟩
  · exact ⟨t, rfl⟩
  · exact ⟨t, rfl⟩
theorem pair_get {α β : Type} {F : α → β → Prop} : ∀ {l₁ : List α} {l₂ : List β}, Paired F l₁ l₂ → ∀ (i : Nat) (a : α) (b : β), l₁[i]? = some a → l₂[i]? = some b → F a b
  | _, _, .nil, i, a, b, h, _ => by simp at h
  | _, _, .cons r t, 0, a, b, h1, h2 => by simp at h1 h2; subst h1; subst h2; exact r
  | _, _, .cons r t, i + 1, a, b, h1, h2 => pair_get t i a b (by simpa using h1) (by simpa using h2)
/-- the keys of the dict at d, whose object is o -/
def Itk (d : Addr) (o : Obj) (kvs : List (Key × V)) : It :=
  ⟨fun i H => i < kvs.length ∧ H d = some (.frz o (.dK kvs)), fun i H y H' => H' = H ∧ ∃ p, kvs[i]? = some p ∧ y = kV p.1, fun i H => kvs.length ≤ i ∧ H d = some (.frz o (.dK kvs))⟩
theorem dict_at {X : Cx} {pins : List (Addr × Obj)} {σ : St} {H : Hp} {s : Shared} {d : Addr} {o : Obj} {kvs : List (Key × V)} {es : Array DictEntry} {ep : Nat} (I : Inv X pins σ H s) (ho : o.data = .dict es ep) (e : H d = some (.frz o (.dK kvs))) :
    (d == sysModules) = false ∧ ∃ vs, KV kvs vs ∧ s.heap.DictAt (mixKind X.prog X.w) d vs ep := by
  obtain ⟨h1, z, hd, vs, rel, o', es', ep', h2, h3, h4, h5⟩ := (show ObjOk X.prog X.w H s.heap d (.frz o (.dK kvs)) from I.hok d _ e)
  rw [h1] at h2
  cases h2
  rw [ho] at h4
  cases h4
  exact ⟨hd, vs, rel, o, es, h1, h3, ho, h5⟩
theorem turn_dk {P : Program} {w : World} {K : PySem.W.Frag} {tg : Expr} (it d : Addr) (o : Obj) (es : Array DictEntry) (ep : Nat) (ho : o.data = .dict es ep) (kvs : List (Key × V)) : Turn P w K tg (Itk d o kvs) [it] it (fun i h => h.IsKeyIter it d i kvs.length ep) where
  mem := by simp
  obj := fun i h st b hb => by
    have e : b = it := by simpa using hb
    subst e
    obtain ⟨o, e, c, d⟩ := st
    exact ⟨o, e, fun v z => by rw [d] at z; cases z⟩
  keep := fun i h h' st k => by
    obtain ⟨o, e, c, d⟩ := st
    exact ⟨o, k it (by simp) o e, c, d⟩
  item := by
    intro X hP hw hK hc i pins s σ H E I hf st hg
    subst hP hw hK
    obtain ⟨f0, f1, f2, f3, f4, f5⟩ := hf it (by simp)
    obtain ⟨hi, e⟩ := hg
    obtain ⟨hd, vs, rel, da⟩ := dict_at I ho e
    have hl : kvs.length = vs.length := Paired.length rel
    obtain ⟨q, hq⟩ : ∃ q, vs[i]? = some q := ⟨_, List.getElem?_eq_getElem (by omega)⟩
    obtain ⟨p, hp⟩ : ∃ p, kvs[i]? = some p := ⟨_, List.getElem?_eq_getElem hi⟩
    have hk : p.1 = q.1 := (pair_get rel i p q hp hq).1
    rw [hl] at st
    refine wpAny_pyNext_dict_item (k := q.1) (v := q.2) st da hq fun key h' ik st' sb => ?_
    have I1 : Inv X pins σ H { s with heap := h' } := I.turned (t' := s.toks) (fun b o hb e => (sb.2 b hb).trans e) f0 f1 f3 f4 f5
    obtain ⟨o1, e1, c1, d1⟩ := id st'
    rw [← hl] at st'
    exact ⟨_, rfl, go_of (s := { s with heap := h' }) e1 c1 d1 (by decide) ⟨kV p.1, H, I1, by rw [hk]; exact key_rel ik, ⟨rfl, p, hp, rfl⟩, st', fun b hb => (hf b hb).1⟩⟩
  done := by
    intro X hP hw hK hc i pins s σ H E I hf st hg
    subst hP hw hK
    obtain ⟨f0, f1, f2, f3, f4, f5⟩ := hf it (by simp)
    obtain ⟨hi, e⟩ := hg
    obtain ⟨hd, vs, rel, da⟩ := dict_at I ho e
    have hl : kvs.length = vs.length := Paired.length rel
    rw [hl] at st
    exact wpAny_pyNext_dict_end (I.ok.hd hc) st da (List.getElem?_eq_none (by omega)) fun h' eb => ⟨rfl, I.turned (t' := s.toks) (fun b o hb e => eb b o hb e) f0 f1 f3 f4 f5⟩
  self := fun _ _ _ _ _ st h => wpAny_pyIter_keyiter st h
def iDk (tl : TE) : TI := fun σ H R => tl σ H fun y H1 => ∃ a kvs, y = .ref a ∧ ((∃ o, H1 a = some (.frz o (.dK kvs)) ∧ R (Itk a o kvs) H1) ∨ (H1 a = some (.dK kvs) ∧ ∀ o, R (Itk a o kvs) (upd H1 a (.frz o (.dK kvs)))))
theorem pi_dk {X : Cx} {tg l : Expr} {tl : TE} (hl : PE X l tl) : PI X tg l (iDk tl) := by
  intro pins s σ H R I h
  refine thn (hl pins s σ H _ I h) fun v s1 ⟨y, H1, I1, r1, q1⟩ => ?_
  obtain ⟨a, kvs, rfl, q⟩ := q1
  cases (show v = Value.ref a from r1)
  have key : ∀ (H2 : Hp) (o : Obj), Inv X pins σ H2 s1 → H2 a = some (.frz o (.dK kvs)) → R (Itk a o kvs) H2 → wpAny (model X.prog X.w) X.A (pyIter (.ref a)) (PIE X pins σ tg R) X.xe s1 := fun H2 o I2 e2 r2 => by
    obtain ⟨h1, z, hd, vs, rel, o', es, ep, h2, h3, h4, h5⟩ := (show ObjOk X.prog X.w H2 s1.heap a (.frz o (.dK kvs)) from I2.hok a _ e2)
    rw [h1] at h2
    cases h2
    have hl : kvs.length = vs.length := Paired.length rel
    refine wpAny_pyIter_dict (knd := mixKind X.prog X.w) (kvs := vs) (ep := ep) hd ⟨o, es, h1, h3, h4, h5⟩ ?_
    refine ⟨s1.heap.objs.size, [s1.heap.objs.size], _, _, H2, rfl, I2.kept (t' := s1.toks) fun b u e => Heap.get?_push_of_some _ e, turn_dk _ a o es ep h4 kvs, ⟨_, Heap.get?_push_size _ rfl, rfl, by rw [hl]; rfl⟩, fun b hb => ?_, r2⟩
    have e : b = s1.heap.objs.size := by simpa using hb
    subst e
    exact I2.fpOk (Nat.le_refl _) (I2.hok.fresh (Nat.le_refl _))
  rcases q with ⟨o, e, r⟩ | ⟨e, r⟩
  · exact key H1 o I1 e r
  · obtain ⟨z, hd, vs, rel, o, es, ep, h2, h3⟩ := (show ObjOk X.prog X.w H1 s1.heap a (.dK kvs) from I1.hok a _ e)
    have new : ObjOk X.prog X.w (upd H1 a (.frz o (.dK kvs))) s1.heap a (.frz o (.dK kvs)) := ⟨h2, z, hd, vs, rel, o, es, ep, h2, h3⟩
    exact key (upd H1 a (.frz o (.dK kvs))) o (I1.write (x := a) (e := a) (t' := s1.toks) (h' := s1.heap) (by rw [e]; trivial) (.inl rfl) (fun b u _ z => z) ⟨o, h2⟩ new) upd_same (r o)
end L2
namespace M
open PySem PySem.Spec L2
def keyD : Key → D
  | .inl i => .int i
  | .inr x => .str x.cps.toList
/-- for k in d -/
def dkI (m : ME) : MI := fun env st => (m env st).bind fun d st1 => match d with
  | .loc n => (match st1[n]? with
    | some (.dkc kvs) => .ok (kvs.map (fun p => keyD p.1), []) (st1.set n (.dkf kvs))
    | some (.dkf kvs) => .ok (kvs.map (fun p => keyD p.1), []) st1
    | _ => .bad)
  | _ => .bad
/-- d[k], also where d is only read -/
def ixA : D → D → Stor → R D
  | .loc n, k, st => match st[n]?, keyOf k with
    | some (.dkc kvs), some kk => (match valN kvs kk with | some d => .ok d st | none => .bad)
    | some (.dkf kvs), some kk => (match valN kvs kk with | some d => .ok d st | none => .bad)
    | _, _ => .bad
  | _, _, _ => .bad
section
variable {X : Cx} {tg l a b : Expr} {ml ma mb : ME} {μ : List Addr} {H : Hp} {K : PySem.W.Frag} {st : Stor} {pos : Pos}
theorem RepV.keyD (k : Key) : RepV K μ H (M.keyD k) (kV k) := by
  cases k with
  | inl i => exact RepV.int_iff.mpr rfl
  | inr x => exact RepV.str_iff.mpr (by show V.str x = V.str (strOf x.cps.toList); simp [strOf])
theorem RepKV.keyAt : ∀ {kvs : List (Key × D)} {ws : List (Key × V)}, RepKV K μ H kvs ws → kvs.length = ws.length ∧ ∀ (i : Nat) (p : Key × D) (q : Key × V), kvs[i]? = some p → ws[i]? = some q → p.1 = q.1
  | [], _, h => by cases h; exact ⟨rfl, fun i p q h1 => by simp at h1⟩
  | (k, d) :: r, _, ⟨v, s, rfl, h1, h2⟩ => by
    obtain ⟨l, hk⟩ := RepKV.keyAt h2
    refine ⟨by simp [l], fun i p q e1 e2 => ?_⟩
    cases i with
    | zero => simp at e1 e2; subst e1; subst e2; rfl
    | succ i => exact hk i p q (by simpa using e1) (by simpa using e2)
theorem itk_rep {a : Addr} {o : Obj} {kvs : List (Key × D)} {ws : List (Key × V)} (e : H a = some (.frz o (.dK ws))) (h : RepKV X.K μ H kvs ws) : ItRep X μ H (Itk a o ws) (kvs.map (fun p => M.keyD p.1), []) := by
  intro H' μ' st' g hs ok
  obtain ⟨hl, hk⟩ := h.keyAt
  have e' := g.ext.frz _ _ _ e
  refine ⟨fun i d ed => ?_, ⟨by simp [hl], e'⟩⟩
  rw [List.getElem?_map] at ed
  obtain ⟨p, e1, rfl⟩ := Option.map_eq_some_iff.mp ed
  have hi := (List.getElem?_eq_some_iff.mp e1).1
  refine ⟨⟨by omega, e'⟩, ?_⟩
  rintro x H'' ⟨rfl, q, hq, rfl⟩
  refine ⟨.refl _ _, hs, ?_⟩
  rw [hk i p q e1 hq]
  exact RepV.keyD _
theorem RepS.putF {n : Nat} {mo mo' : MO} {a : Addr} {o' : HO} (h : RepS K μ H st) (hn : st[n]? = some mo) (hm : mo.mut = true) (ha : μ[n]? = some a) (g : Ext H (upd H a o')) (new : RepO K μ (upd H a o') a mo') : RepS K μ (upd H a o') (st.set n mo') := by
  have hl := (List.getElem?_eq_some_iff.mp hn).1
  refine ⟨by simp [h.len], fun k ok e => ?_, fun i j b oi oj ei ej mi mj hi hj => ?_⟩
  · by_cases hk : n = k
    · subst hk
      rw [List.getElem?_set_self hl] at e; cases e
      exact ⟨a, ha, new⟩
    · rw [List.getElem?_set_ne hk] at e
      obtain ⟨b, h1, h2⟩ := h.at_ k ok e
      refine ⟨b, h1, h2.keep ⟨⟨[], by simp⟩, g⟩ fun hmk u q => ?_⟩
      rw [upd_ne (fun e2 => ?_)]
      · exact q
      · subst e2; exact hk (h.uniq n k b mo ok hn e hm hmk ha h1)
  · have key : ∀ (k : Nat) (ok : MO), (st.set n mo')[k]? = some ok → ok.mut = true → ∃ ok', st[k]? = some ok' ∧ ok'.mut = true := fun k ok ek mk => by
      by_cases hk : n = k
      · subst hk; exact ⟨mo, hn, hm⟩
      · rw [List.getElem?_set_ne hk] at ek; exact ⟨ok, ek, mk⟩
    obtain ⟨oi', ei', mi'⟩ := key i oi ei mi
    obtain ⟨oj', ej', mj'⟩ := key j oj ej mj
    exact h.uniq i j b oi' oj' ei' ej' mi' mj' hi hj
theorem ji_dk (hl : JE X l ml) : JI X tg l (dkI ml) := by
  refine JI.of (pi_dk hl) fun σ H R ⟨μ, env, st, hE, hs, hp⟩ => ⟨μ, env, st, hE, hs, (Post.bind hp).imp ?_⟩
  rintro v H1 ⟨μ1, st1, d, g1, hs1, hv, hp1⟩
  dsimp only at hp1
  split at hp1
  · rename_i n
    obtain ⟨a, q1, rfl⟩ := RepV.loc_iff.mp hv
    split at hp1
    · rename_i kvs e1
      obtain ⟨a', ws, r1, r2, r3⟩ := hs1.dkc e1
      rw [q1] at r1; cases r1
      refine ⟨a, ws, rfl, .inr ⟨r2, fun o => ?_⟩⟩
      have g : Ext H1 (upd H1 a (.frz o (.dK ws))) := Ext.mut r2 (fun _ z => nomatch z) (fun _ _ z => nomatch z)
      have g' : Grow μ1 H1 μ1 (upd H1 a (.frz o (.dK ws))) := ⟨⟨[], by simp⟩, g⟩
      exact hp1 _ _ μ1 g' (hs1.putF e1 rfl q1 g ⟨ws, o, upd_same, r3.mono g'⟩) (itk_rep upd_same (r3.mono g'))
    · rename_i kvs e1
      obtain ⟨a', r1, ws, o, r2, r3⟩ := hs1.at_ n _ e1
      rw [q1] at r1; cases r1
      exact ⟨a, ws, rfl, .inl ⟨o, r2, hp1 _ _ _ (.refl _ _) hs1 (itk_rep r2 r3)⟩⟩
    · exact hp1.elim
  · exact hp1.elim
theorem je_ixA (hu : X.A.units + 1 < cLine) (ha : JE X a ma) (hb : JE X b mb) (hs : NoSl b := by exact fun _ _ => rfl) : JE X (.Subscript a b pos) (op2 ixA ma mb) := by
  refine JE.of (pe_dget hu ha hb hs) fun σ H Q h => ?_
  obtain ⟨μ, env, st, hE, hs, hp⟩ := tM_two h
  refine ⟨μ, env, st, hE, hs, hp.imp ?_⟩
  rintro x H1 ⟨μ1, env1, st1, hE1, hs1, hp1⟩
  refine ⟨μ1, env1, st1, hE1, hs1, hp1.imp ?_⟩
  rintro y H2 ⟨μ2, st2, dx, dy, hs2, hx, hy, hp2⟩
  unfold ixA at hp2
  split at hp2
  · rename_i n k
    split at hp2
    · rename_i kvs kk e1 e2
      obtain ⟨p, q1, rfl⟩ := RepV.loc_iff.mp hx
      obtain rfl := hy.key e2
      obtain ⟨p', ws, r1, r2, r3⟩ := hs2.dkc e1
      rw [q1] at r1; cases r1
      rcases r3.valN (k := kk) with ⟨z1, z2⟩ | ⟨d', v', z1, z2, z3⟩
      · rw [z1] at hp2; exact hp2.elim
      · rw [z1] at hp2
        exact ⟨p, v', rfl, by rw [← z2]; exact DGet.k r2, hp2.ret hs2 z3⟩
    · rename_i kvs kk e1 e2
      obtain ⟨p, q1, rfl⟩ := RepV.loc_iff.mp hx
      obtain rfl := hy.key e2
      obtain ⟨p', r1, ws, o, r2, r3⟩ := hs2.at_ _ _ e1
      rw [q1] at r1; cases r1
      rcases r3.valN (k := kk) with ⟨z1, z2⟩ | ⟨d', v', z1, z2, z3⟩
      · rw [z1] at hp2; exact hp2.elim
      · rw [z1] at hp2
        exact ⟨p, v', rfl, .inl ⟨ws, kk, .inr ⟨o, r2⟩, rfl, z2.symm⟩, hp2.ret hs2 z3⟩
    · exact hp2.elim
  · exact hp2.elim
end
end M
namespace L2
open PySem PySem.Spec PyProof.Rows
/-! ### the module's dicts: their keys are walked -/
def ItN (ks : List V) : It :=
  ⟨fun i _ => i < ks.length, fun i H y H' => H' = H ∧ ks[i]? = some y, fun i _ => ks.length ≤ i⟩
theorem turn_dc {P : Program} {w : World} {K : PySem.W.Frag} {tg : Expr} (it d : Addr) (ep : Nat) (kvs : List (Key × V)) (vs : List (Key × Value)) (rel : KV kvs vs) (da : ∀ h : Heap, K.In h → h.DictAt (mixKind P w) d vs ep) : Turn P w K tg (ItN (kvs.map fun p => kV p.1)) [it] it (fun i h => h.IsKeyIter it d i kvs.length ep) where
  mem := by simp
  obj := fun i h st b hb => by
    have e : b = it := by simpa using hb
    subst e
    obtain ⟨o, e, c, d⟩ := st
    exact ⟨o, e, fun v z => by rw [d] at z; cases z⟩
  keep := fun i h h' st k => by
    obtain ⟨o, e, c, d⟩ := st
    exact ⟨o, k it (by simp) o e, c, d⟩
  item := by
    intro X hP hw hK hc i pins s σ H E I hf st hg
    subst hP hw hK
    obtain ⟨f0, f1, f2, f3, f4, f5⟩ := hf it (by simp)
    have hi : i < kvs.length := by simpa [ItN] using hg
    have da := da s.heap I.kIn
    have hl : kvs.length = vs.length := Paired.length rel
    obtain ⟨q, hq⟩ : ∃ q, vs[i]? = some q := ⟨_, List.getElem?_eq_getElem (by omega)⟩
    obtain ⟨p, hp⟩ : ∃ p, kvs[i]? = some p := ⟨_, List.getElem?_eq_getElem hi⟩
    have hk : p.1 = q.1 := (pair_get rel i p q hp hq).1
    rw [hl] at st
    refine wpAny_pyNext_dict_item (k := q.1) (v := q.2) st da hq fun key h' ik st' sb => ?_
    have I1 : Inv X pins σ H { s with heap := h' } := I.turned (t' := s.toks) (fun b o hb e => (sb.2 b hb).trans e) f0 f1 f3 f4 f5
    obtain ⟨o1, e1, c1, d1⟩ := id st'
    rw [← hl] at st'
    exact ⟨_, rfl, go_of (s := { s with heap := h' }) e1 c1 d1 (by decide) ⟨kV p.1, H, I1, by rw [hk]; exact key_rel ik, ⟨rfl, by rw [List.getElem?_map, hp]; rfl⟩, st', fun b hb => (hf b hb).1⟩⟩
  done := by
    intro X hP hw hK hc i pins s σ H E I hf st hg
    subst hP hw hK
    obtain ⟨f0, f1, f2, f3, f4, f5⟩ := hf it (by simp)
    have hi : kvs.length ≤ i := by simpa [ItN] using hg
    have da := da s.heap I.kIn
    have hl : kvs.length = vs.length := Paired.length rel
    rw [hl] at st
    exact wpAny_pyNext_dict_end (I.ok.hd hc) st da (List.getElem?_eq_none (by omega)) fun h' eb => ⟨rfl, I.turned (t' := s.toks) (fun b o hb e => eb b o hb e) f0 f1 f3 f4 f5⟩
  self := fun _ _ _ _ _ st h => wpAny_pyIter_keyiter st h
end L2
namespace L2
open PySem PySem.Spec PyProof.Rows
/-! ### l.extend(t), t a tuple -/
theorem extend_tup (l b : Addr) (xs ys : Array Value) (n m : Nat) (dk : Option Addr) (sl : Array (Option Value)) (h0 : ¬ (!xs.isEmpty && Builtin.List.listTooLong (xs.size + ys.size)) = true) (h1 : xs.size ≤ sizeLine) (h2 : xs.size + ys.size ≤ sizeLine + 1) :
    Meets (Builtin.«list.extend» ⟨[.ref l, .ref b], []⟩) (fun _ R s => s.heap.get? l = some { cls := .type "list", dict := none, data := .seq xs n, slots := #[] } ∧
      s.heap.get? b = some { cls := .type "tuple", dict := dk, data := .seq ys m, slots := sl } ∧ R (.ok (.ret Value.none)) { s with heap := s.heap.update l (Obj.mapSeq fun x => x ++ ys), toks := s.toks }) :=
  .of_wp fun prog w A R s h => by
    obtain ⟨hp, g, d, tk, os⟩ := s
    obtain ⟨hl, hb, h⟩ := h
    have f1 := AutoSeq1.idx_int
    have f2 := AutoSeq1.sub_tuple_tuple
    have f3 := AutoSeq1.sub_list_list
    have f4 := AutoSeq1.sub_tuple_list
    have f5 := AutoSeq1.sub_list_tuple
    have hz' : (xs ++ ys).size ≤ sizeLine + 1 := by rw [Array.size_append]; exact h2
    wp_walk using (wpAny_updateSeq hl rfl (hz := h1) (_hz' := hz')), AutoSeq1.wpAny_loadPart' hl, AutoSeq1.wpAny_loadPart' hb
    exact ⟨_, rfl, h⟩
def rExtT (K : PySem.W.Frag) : V → List V → Hp → VK → Prop := fun x vs H Q => ∃ l b xs zs, x = .ref l ∧ vs = [.ref b] ∧ H l = some (.lst xs) ∧ SqT K H b zs ∧ xs.length + zs.length ≤ sizeLine ∧ Q .non (upd H l (.lst (xs ++ zs)))
theorem mt_extT {X : Cx} : MtM X "list.extend" (rExtT X.K) := by
  intro pins s σ H x vs v us Q I rx rv h
  obtain ⟨l, b, xs, zs, rfl, rfl, hH, hB, hz, q⟩ := h
  cases rx
  obtain ⟨u, rfl, ru⟩ := rv.one
  cases ru
  obtain ⟨z, its, n, r, hl, e⟩ := I.lstM hH
  obtain ⟨its2, r2, ⟨⟨c2, d2, dt2, s2⟩, e2, hc2, m, hd2⟩, hl2⟩ := I.tuple hB
  have hc2 : c2 = _ := hc2
  have hd2 : dt2 = _ := hd2
  subst hc2 hd2
  have e3 := r.length
  have e4 := r2.length
  have hsz : its.toArray.size + its2.toArray.size ≤ sizeLine := by rw [List.size_toArray, List.size_toArray]; omega
  have hlong : ¬ (!its.toArray.isEmpty && Builtin.List.listTooLong (its.toArray.size + its2.toArray.size)) = true := by
    rw [notLongL hsz, Bool.and_false]
    exact Bool.false_ne_true
  refine call_meets F.slot_list_extend ⟨_, e, rfl⟩ F.entry_list_extend (F.args_list_extend_2 _ _) (extend_tup l b its.toArray its2.toArray n m d2 s2 hlong (by rw [List.size_toArray]; omega) (by omega)) ⟨e, e2, ?_⟩
  refine ⟨.non, _, I.lset (its' := its ++ its2) hH e (by simp) (r.append r2) ?_, rfl, q⟩
  rw [List.length_append]
  omega
end L2
namespace M
open PySem PySem.Spec L2
/-- l.extend(t) -/
def extendT : D → List D → Stor → R D
  | .loc n, [.tup b], st => match st[n]? with
    | some (.lst a) => if a.length + b.length ≤ 1000000 then .ok .non (st.set n (.lst (a ++ b))) else .bad
    | _ => .bad
  | _, _, _ => .bad
theorem mt_extendT {X : Cx} : MtR X "list.extend" (rMM X extendT) := by
  refine MtR.weak mt_extT ?_
  rintro x xs H Q ⟨μ, st, d, ds, hs, hx, hxs, hp⟩
  unfold extendT at hp
  split at hp
  · rename_i n b
    split at hp
    · rename_i a e1
      split at hp
      · rename_i hl
        obtain ⟨p, q1, rfl⟩ := RepV.loc_iff.mp hx
        obtain ⟨v, rfl, q⟩ := RepVs.one hxs
        obtain ⟨p2, zs, rfl, q2, q3⟩ := RepV.tup_iff.mp q
        obtain ⟨p', ys, r1, r2, r3⟩ := hs.lst e1
        rw [q1] at r1; cases r1
        obtain ⟨g, hs'⟩ := putLst hs e1 q1 r2 (r3.append q3)
        refine ⟨p, p2, ys, zs, rfl, rfl, r2, q2.sqT, ?_, hp _ _ μ g hs' (RepV.non_iff.mpr rfl)⟩
        rw [← r3.length, ← q3.length]; exact lim_ok hl
      · exact hp.elim
    · exact hp.elim
  · exact hp.elim
end M
namespace M
open PySem PySem.Spec L2
/-! ### the module's dicts, whose keys are texts -/
def keysI (tb : List (List Nat × D)) : MI := fun _ st => .ok (tb.map (fun p => D.str p.1), []) st
def lookT : List (List Nat × D) → List Nat → Option D
  | [], _ => none
  | (c, d) :: r, cs => if c = cs then some d else lookT r cs
def tabV (tb : List (List Nat × D)) : D → Stor → R D
  | .str cs, st => (match lookT tb cs with | some d => .ok d st | none => .bad)
  | _, _ => .bad
def tabE (tb : List (List Nat × D)) (m : ME) : ME := fun env st => (m env st).bind fun k st1 => tabV tb k st1
@[simp] theorem r_keysI (tb : List (List Nat × D)) (env : MEnv) (st : Stor) : keysI tb env st = .ok (tb.map (fun p => D.str p.1), []) st := by_rfl rfl
theorem r_tabV {tb : List (List Nat × D)} {cs : List Nat} {d : D} (st : Stor) (h : lookT tb cs = some d) : tabV tb (.str cs) st = .ok d st := by
  simp only [tabV, h]
@[simp] theorem r_tabE (tb : List (List Nat × D)) (m : ME) (env : MEnv) (st : Stor) : tabE tb m env st = (m env st).bind fun k st1 => tabV tb k st1 := by_rfl rfl
@[simp] theorem keyD_str (cs : List Nat) : keyD (.inr (strOf cs)) = .str cs := by
  show D.str (strOf cs).cps.toList = .str cs
  simp [strOf]
theorem r_dkI_c {m : ME} {env : MEnv} {st st1 : Stor} {n : Nat} {kvs : List (Key × D)} (h : m env st = .ok (.loc n) st1) (e : st1[n]? = some (.dkc kvs)) : dkI m env st = .ok (kvs.map (fun p => keyD p.1), []) (st1.set n (.dkf kvs)) := by
  unfold dkI; rw [h]; simp only [R.bind, e]
theorem r_dkI_f {m : ME} {env : MEnv} {st st1 : Stor} {n : Nat} {kvs : List (Key × D)} (h : m env st = .ok (.loc n) st1) (e : st1[n]? = some (.dkf kvs)) : dkI m env st = .ok (kvs.map (fun p => keyD p.1), []) st1 := by
  unfold dkI; rw [h]; simp only [R.bind, e]
theorem r_ixA_c {n : Nat} {k : D} {kk : Key} {st : Stor} {kvs : List (Key × D)} {d : D} (e : st[n]? = some (.dkc kvs)) (hk : keyOf k = some kk) (h : valN kvs kk = some d) : ixA (.loc n) k st = .ok d st := by
  simp only [ixA, e, hk, h]
theorem r_ixA_f {n : Nat} {k : D} {kk : Key} {st : Stor} {kvs : List (Key × D)} {d : D} (e : st[n]? = some (.dkf kvs)) (hk : keyOf k = some kk) (h : valN kvs kk = some d) : ixA (.loc n) k st = .ok d st := by
  simp only [ixA, e, hk, h]
theorem strOf_eqM {a b : List Nat} : (strOf a = strOf b) ↔ a = b := by
  constructor
  · intro h
    have := congrArg (fun s => s.cps.toList) h
    simpa [strOf] using this
  · rintro rfl; rfl
/-- the module's dict at a: its keys and values -/
def keyT (tb : List (List Nat × D)) : List (Key × D) := tb.map fun p => (Sum.inr (strOf p.1), p.2)
structure DictK (w : World) (K : PySem.W.Frag) (a : Addr) (tb : List (List Nat × D)) : Prop where
  low : (a == sysModules) = false
  at_ : ∀ P : Program, ∃ (kvs : List (Key × V)) (vs : List (Key × Value)) (ep : Nat), (∀ μ H, RepKV K μ H (keyT tb) kvs) ∧ KV kvs vs ∧ ∀ h : Heap, K.In h → h.DictAt (mixKind P w) a vs ep
/-- the rows of such a dict -/
inductive Rws (K : PySem.W.Frag) (w : World) : List DictEntry → List (List Nat × D) → Prop
  | nil : Rws K w [] []
  | i {h : Int} {x : Str} {t u : Tok} {cs : List Nat} {n : Int} {es : List DictEntry} {tb : List (List Nat × D)} (hx : x = strOf cs) (hh : h = keyH w (.inr x)) (r : Rws K w es tb) : Rws K w (⟨h, .str x t, .int n u⟩ :: es) ((cs, .int n) :: tb)
theorem Rws.all {K : PySem.W.Frag} {w : World} (P : Program) : ∀ {es : List DictEntry} {tb : List (List Nat × D)}, Rws K w es tb →
    ∃ (kvs : List (Key × V)) (vs : List (Key × Value)), (∀ μ H, RepKV K μ H (keyT tb) kvs) ∧ KV kvs vs ∧ (∀ e ∈ es, ∃ k, (mixKind P w).is k e.key = true ∧ e.hash = (mixKind P w).hash k) ∧ Pairs (mixKind P w) es vs ∧ vs.map (·.1) = (keyT tb).map (·.1)
  | _, _, .nil => ⟨[], [], fun _ _ => rfl, .nil, (fun _ h => nomatch h), .nil, rfl⟩
  | _, _, @Rws.i _ _ h x t u cs n es tb hx hh r => by
    obtain ⟨kvs, vs, h1, h2, h3, h4, h5⟩ := Rws.all P r
    refine ⟨(.inr x, .int n) :: kvs, (.inr x, .int n u) :: vs, fun μ H => ?_, .cons ⟨rfl, ⟨u, rfl⟩⟩ h2, fun e he => ?_, .cons (mixKind_str P w x t) rfl h4, ?_⟩
    · subst hx
      exact ⟨.int n, kvs, rfl, RepV.int_iff.mpr rfl, h1 μ H⟩
    · rcases List.mem_cons.mp he with rfl | he
      · exact ⟨.inr x, mixKind_str P w x t, hh⟩
      · exact h3 e he
    · subst hx
      show (.inr (strOf cs) : Key) :: vs.map (·.1) = .inr (strOf cs) :: (keyT tb).map (·.1)
      rw [h5]
theorem dictK_mk {w : World} {K : PySem.W.Frag} {a : Addr} {tb : List (List Nat × D)} {es : Array DictEntry} {ep : Nat} (hl : K.lookup a = some ⟨.type "dict", none, .dict es ep, #[]⟩) (h0 : (a == sysModules) = false) (hr : Rws K w es.toList tb) (hn : (tb.map (·.1)).Nodup) : DictK w K a tb := by
  refine ⟨h0, fun P => ?_⟩
  obtain ⟨kvs, vs, h1, h2, h3, h4, h5⟩ := Rws.all P hr
  refine ⟨kvs, vs, ep, h1, h2, fun h KI => ⟨_, es, KI a _ hl, ⟨rfl, rfl, rfl⟩, rfl, fun e he => h3 e (by simpa using he), h4, ?_⟩⟩
  rw [h5]
  have e : (keyT tb).map (·.1) = (tb.map (·.1)).map fun cs => (Sum.inr (strOf cs) : Key) := by simp [keyT]
  rw [e]
  exact List.Pairwise.map (fun cs => (Sum.inr (strOf cs) : Key)) (fun a b hne e => hne (strOf_eqM.mp (Sum.inr.inj e))) hn
theorem valN_keyT (cs : List Nat) : ∀ tb : List (List Nat × D), valN (keyT tb) (.inr (strOf cs)) = lookT tb cs
  | [] => rfl
  | (c, d) :: r => by
    show valN ((Sum.inr (strOf c), d) :: keyT r) _ = _
    rw [valN_cons, valN_keyT cs r]
    by_cases h : c = cs
    · subst h; simp [lookT]
    · rw [if_neg (fun z => h (strOf_eqM.mp (Sum.inr.inj z)))]; simp [lookT, h]
section
variable {X : Cx} {tg b : Expr} {mb : ME} {pos pos' : Pos} {x : Str} {tb : List (List Nat × D)}
theorem itN_rep {μ : List Addr} {H : Hp} {ws : List (Key × V)} (h : ∀ μ H, RepKV X.K μ H (keyT tb) ws) : ItRep X μ H (ItN (ws.map fun p => kV p.1)) (tb.map (fun p => D.str p.1), []) := by
  intro H' μ' st' g hs ok
  obtain ⟨hl, hk⟩ := (h μ' H').keyAt
  have hl2 : tb.length = ws.length := by rw [← hl]; simp [keyT]
  refine ⟨fun i d ed => ?_, by simp [ItN, hl2]⟩
  rw [List.getElem?_map] at ed
  obtain ⟨p, e1, rfl⟩ := Option.map_eq_some_iff.mp ed
  have hi := (List.getElem?_eq_some_iff.mp e1).1
  refine ⟨by simp [ItN]; omega, ?_⟩
  rintro y H'' ⟨rfl, hy⟩
  refine ⟨.refl _ _, hs, ?_⟩
  rw [List.getElem?_map] at hy
  obtain ⟨q, e2, rfl⟩ := Option.map_eq_some_iff.mp hy
  rw [← hk i (.inr (strOf p.1), p.2) q (by simp [keyT, e1]) e2]
  exact RepV.str_iff.mpr rfl
theorem ji_dc (h : ∃ a, X.mg x = some (.ref a) ∧ DictK X.w X.K a tb) (hg : Gl X x := by rfl) (hd : (x == ("__debug__" : Str)) = false := by decide) : JI X tg (.Name x pos) (keysI tb) := by
  obtain ⟨a, hm, dk⟩ := h
  obtain ⟨kvs, vs, ep, h1, rel, da⟩ := dk.at_ X.prog
  rintro pins s σ H R I ⟨μ, env, st, hE, hs, hp⟩
  refine ld_glob I hg hm ?_ hd
  have hl : kvs.length = vs.length := Paired.length rel
  refine wpAny_pyIter_dict (knd := mixKind X.prog X.w) (kvs := vs) (ep := ep) dk.low (da _ I.kIn) ?_
  refine ⟨s.heap.objs.size, [s.heap.objs.size], _, _, H, rfl, I.kept (t' := s.toks) fun b u e => Heap.get?_push_of_some _ e, turn_dc _ a ep kvs vs rel da, ⟨_, Heap.get?_push_size _ rfl, rfl, by rw [hl]; rfl⟩, fun b hb => ?_, hp _ _ μ (.refl _ _) hs (itN_rep h1)⟩
  have e : b = s.heap.objs.size := by simpa using hb
  subst e
  exact I.fpOk (Nat.le_refl _) (I.hok.fresh (Nat.le_refl _))
theorem je_tab (h : ∃ a, X.mg x = some (.ref a) ∧ DictK X.w X.K a tb) (hb : JE X b mb) (hs : NoSl b := by exact fun _ _ => rfl) (hg : Gl X x := by rfl) (hd : (x == ("__debug__" : Str)) = false := by decide) : JE X (.Subscript (.Name x pos') b pos) (tabE tb mb) := by
  obtain ⟨a, hm, dk⟩ := h
  obtain ⟨kvs, vs, ep, h1, rel, da⟩ := dk.at_ X.prog
  rintro pins s σ H Q I ⟨μ, env, st, hE, hsS, hp⟩
  refine subD_of PySem.F.slot_dict_getitem.lookup hs (ld_glob I hg hm (thn (hb pins s σ H _ I ⟨μ, env, st, hE, hsS, Post.bind hp⟩) fun iv s1 ⟨y, H1, I1, ry, μ1, st1, d, g1, hs1, hv, hp1⟩ => ?_) hd)
  dsimp only at hp1
  unfold tabV at hp1
  split at hp1
  · rename_i cs
    split at hp1
    · rename_i d' e
      obtain rfl := RepV.str_iff.mp hv
      have da := da _ I1.kIn
      rcases (h1 μ1 H1).valN (k := .inr (strOf cs)) with ⟨z1, z2⟩ | ⟨d2, v', z1, z2, z3⟩
      · rw [valN_keyT, e] at z1; cases z1
      · rw [valN_keyT, e] at z1; cases z1
        obtain ⟨w', hw, rw'⟩ := RelO.some_of (v := v') (o := valueAt vs (.inr (strOf cs))) (by rw [← z2]; exact rel.val _)
        exact ⟨da.dictOf.typeIs, wpAny_getItem_of (kV_is (k := .inr (strOf cs)) ry) da.dictOf.mapOf hw ⟨v', H1, I1.tok _, rw', hp1.ret hs1 z3⟩⟩
    · exact hp1.elim
  · exact hp1.elim
end
end M
set_option maxHeartbeats 0
namespace Law
open PySem PySem.Spec L2 M
def top (i : Nat) : Stmt := PySem.Challenge.pw_oneofall_k85_whole_plays_itself_playing.main.body.getD i (.Pass ⟨0, 0, 0, 0⟩)
abbrev s_p_joint : Stmt := top 2
abbrev s_p_is_done : Stmt := top 3
abbrev s_p_leaves : Stmt := top 4
abbrev s_p_is_value : Stmt := top 5
abbrev s_p_tree_run : Stmt := top 6
abbrev s_p_joined : Stmt := top 7
abbrev s_p_changed : Stmt := top 8
abbrev s_p_folded : Stmt := top 9
abbrev s_p_taken_out : Stmt := top 11
abbrev s_p_out_and_cost : Stmt := top 12
abbrev s_p_leaf_taken : Stmt := top 13
abbrev s_p_joint_taken : Stmt := top 14
abbrev s_p_or_constant : Stmt := top 15
abbrev s_p_pick : Stmt := top 17
abbrev s_p_unasked : Stmt := top 18
abbrev s_p_holder : Stmt := top 19
abbrev s_p_kept : Stmt := top 20
abbrev s_p_has_in_front : Stmt := top 21
abbrev s_p_text_of : Stmt := top 26
abbrev s_p_leaf_texts : Stmt := top 27
abbrev s_p_joint_head : Stmt := top 28
abbrev s_p_joint_text : Stmt := top 29
abbrev s_p_player : Stmt := top 30
abbrev s_p_player_of_all : Stmt := top 31
abbrev s_p_text_told : Stmt := top 32
abbrev s_p_leaf_told : Stmt := top 33
abbrev s_p_joint_parts : Stmt := top 34
abbrev s_p_tree_in_order : Stmt := top 35
abbrev s_l_cell_at : Stmt := top 37
abbrev s_l_draws : Stmt := top 38
abbrev s_l_tree : Stmt := top 39
abbrev s_l_few : Stmt := top 40
abbrev s_l_cost : Stmt := top 41
abbrev s_p_law : Stmt := top 42
abbrev l_0 : LamS := lamOf "out_and_cost" ["name"] (argAt (valOfS ((defBody s_p_out_and_cost).getD 0 (.Pass ⟨0, 0, 0, 0⟩))) 1)
abbrev l_1 : LamS := lamOf "out_and_cost" ["name"] (argAt (valOfS ((defBody s_p_out_and_cost).getD 0 (.Pass ⟨0, 0, 0, 0⟩))) 2)
abbrev l_2 : LamS := lamOf "text_of" ["texts"] (argAt (valOfS ((defBody s_p_text_of).getD 2 (.Pass ⟨0, 0, 0, 0⟩))) 1)
abbrev l_3 : LamS := lamOf "text_of" ["head"] (argAt (valOfS ((defBody s_p_text_of).getD 2 (.Pass ⟨0, 0, 0, 0⟩))) 2)
def Lam : Nat → LamS
  | 0 => l_0
  | 1 => l_1
  | 2 => l_2
  | 3 => l_3
  | _ => noLam
def tabs : List (Str × Addr) := [("out_and_cost", 82), ("text_of", 146)]
/-! ### the denotations -/
noncomputable def b_p_is_value : MS :=
    (retS (orV (op1 (isV "str") (vr 0)) (op2 ixV (vr 0) (ct (.int 3)))))
noncomputable def F_p_is_value : FD := gcF (fnM 1 b_p_is_value)
noncomputable def b_p_is_done : MS :=
    (seqS (ifS (notT (tru (callF F_p_is_value [] (consA (vr 1) nilA)))) (retS (ct (.bl false))) skipS)
    (seqS (ifS (tru (op1 (isV "str") (vr 0))) (retS (orV (op2 (eqV 800) (vr 0) (ct (.str [83]))) (op2 (eqV 800) (vr 0) (ct (.str [75]))))) skipS)
    (retS (andV (op2 (eqV 800) (op2 ixV (vr 0) (ct (.int 0))) (ct (.str [83]))) (op2 ixV (vr 0) (ct (.int 3)))))))
noncomputable def F_p_is_done : FD := gcF (fnM 2 b_p_is_done)
noncomputable def b_p_leaves : MS :=
    (seqS (ifS (tru (op1 (isV "str") (vr 0))) (retS (ct (.int 1))) skipS)
    (retS (op2 ixV (vr 0) (ct (.int 2)))))
noncomputable def F_p_leaves : FD := gcF (fnM 1 b_p_leaves)
noncomputable def b_p_joint : MS :=
    (retS (tupE (consA (vr 0) (consA (vr 1) (consA (op2 addV (callF F_p_leaves [] (consA (vr 0) nilA)) (callF F_p_leaves [] (consA (vr 1) nilA))) (consA (callF F_p_is_done [] (consA (vr 0) (consA (vr 1) nilA))) nilA))))))
noncomputable def F_p_joint : FD := gcF (fnM 2 b_p_joint)
noncomputable def b_p_joined : MS :=
    (seqS (ifS (tB1 (op2 isNoneV (op2 ixV (vr 0) (ct (.int 0))) (ct .non))) (retS (callF F_p_joint [] (consA (vr 1) (consA (op2 ixV (vr 0) (ct (.int 1))) nilA)))) skipS)
    (retS (callF F_p_joint [] (consA (op2 ixV (vr 0) (ct (.int 0))) (consA (vr 1) nilA)))))
noncomputable def F_p_joined : FD := gcF (fnM 2 b_p_joined)
noncomputable def b_p_changed : MS :=
    (seqS (ifS (tB1 (op2 (eqV 800) (op2 ixV (vr 0) (ct (.int 0))) (ct (.str [75])))) (retS (op2 ixV (vr 0) (ct (.int 1)))) skipS)
    (retS (callF F_p_joint [] (consA (callF F_p_joint [] (consA (op2 ixV (op2 ixV (vr 0) (ct (.int 0))) (ct (.int 1))) (consA (vr 1) nilA))) (consA (callF F_p_joint [] (consA (op2 ixV (vr 0) (ct (.int 1))) (consA (vr 1) nilA))) nilA)))))
noncomputable def F_p_changed : FD := gcF (fnM 2 b_p_changed)
noncomputable def b_p_tree_run : MS :=
    (seqS (setS 2 (vr 0))
    (seqS (setS 3 (lstE nilA))
    (seqS (setS 4 (ct (.int 0)))
    (seqS (whileW (andT (tB1 (op2 ltV (vr 4) (vr 1))) (orT (tru (vr 3)) (notT (tru (callF F_p_is_value [] (consA (vr 2) nilA)))))) (ifS (tru (callF F_p_is_value [] (consA (vr 2) nilA))) (setS 2 (callF F_p_joined [] (consA (meth0E "list" popV (vr 3)) (consA (vr 2) nilA)))) (ifS (notT (tru (callF F_p_is_value [] (consA (op2 ixV (vr 2) (ct (.int 0))) nilA)))) (seqS (exprS (methE "list" appendV (vr 3) (consA (tupE (consA (ct .non) (consA (op2 ixV (vr 2) (ct (.int 1))) nilA))) nilA)))
    (setS 2 (op2 ixV (vr 2) (ct (.int 0))))) (ifS (notT (tru (callF F_p_is_value [] (consA (op2 ixV (vr 2) (ct (.int 1))) nilA)))) (seqS (exprS (methE "list" appendV (vr 3) (consA (tupE (consA (op2 ixV (vr 2) (ct (.int 0))) (consA (ct .non) nilA))) nilA)))
    (setS 2 (op2 ixV (vr 2) (ct (.int 1))))) (ifS (tru (op1 (isV "str") (op2 ixV (vr 2) (ct (.int 0))))) brkS (seqS (setS 2 (callF F_p_changed [] (consA (op2 ixV (vr 2) (ct (.int 0))) (consA (op2 ixV (vr 2) (ct (.int 1))) nilA))))
    (setS 4 (op2 addV (vr 4) (ct (.int 1))))))))))
    (seqS (whileW (tru (vr 3)) (setS 2 (callF F_p_joined [] (consA (meth0E "list" popV (vr 3)) (consA (vr 2) nilA)))))
    (retS (tupE (consA (ifE (tru (callF F_p_is_value [] (consA (vr 2) nilA))) (ct (.str [118, 97, 108, 117, 101])) (ct (.str [111, 110]))) (consA (vr 2) (consA (vr 4) nilA))))))))))
noncomputable def F_p_tree_run : FD := gcF (fnM 5 b_p_tree_run)
noncomputable def b_p_leaf_taken : MS :=
    (seqS (ifS (tB1 (op2 (eqV 800) (vr 1) (vr 0))) (retS (tupE (consA (ct (.tup [.tup [.str [83], .str [75], .int 2, .bl true], .str [75], .int 3, .bl true])) (consA (ct (.int 2)) nilA)))) skipS)
    (retS (ct .non)))
noncomputable def F_p_leaf_taken : FD := gcF (fnM 2 b_p_leaf_taken)
noncomputable def b_p_or_constant : MS :=
    (seqS (ifS (tB1 (op2 isNoneV (vr 0) (ct .non))) (retS (tupE (consA (callF F_p_joint [] (consA (ct (.str [75])) (consA (vr 1) nilA))) (consA (ct (.int 1)) nilA)))) skipS)
    (retS (vr 0)))
noncomputable def F_p_or_constant : FD := gcF (fnM 2 b_p_or_constant)
noncomputable def b_p_joint_taken : MS :=
    (seqS (ifS (andT (tB1 (op2 isNoneV (vr 2) (ct .non))) (andT (tB1 (op2 isNoneV (vr 3) (ct .non))) (tru (callF F_p_is_value [] (consA (vr 1) nilA))))) (retS (ct .non)) skipS)
    (seqS (ifS (andT (tB1 (op2 isNoneV (vr 2) (ct .non))) (tB1 (op2 (eqV 800) (op2 ixV (vr 1) (ct (.int 1))) (vr 0)))) (retS (tupE (consA (op2 ixV (vr 1) (ct (.int 0))) (consA (ct (.int 0)) nilA)))) skipS)
    (seqS (setS 4 (callF F_p_or_constant [] (consA (vr 2) (consA (op2 ixV (vr 1) (ct (.int 0))) nilA))))
    (seqS (setS 5 (callF F_p_or_constant [] (consA (vr 3) (consA (op2 ixV (vr 1) (ct (.int 1))) nilA))))
    (retS (tupE (consA (callF F_p_joint [] (consA (callF F_p_joint [] (consA (ct (.str [83])) (consA (op2 ixV (vr 4) (ct (.int 0))) nilA))) (consA (op2 ixV (vr 5) (ct (.int 0))) nilA))) (consA (op2 addV (op2 addV (ct (.int 1)) (op2 ixV (vr 4) (ct (.int 1)))) (op2 ixV (vr 5) (ct (.int 1)))) nilA))))))))
noncomputable def F_p_joint_taken : FD := gcF (fnM 6 b_p_joint_taken)
noncomputable def b_p_joint_text : MS :=
    (retS (callF F_p_joint [] (consA (callF F_p_joint [] (consA (ct (.str [83])) (consA (callF F_p_joint [] (consA (callF F_p_joint [] (consA (ct (.str [83])) (consA (vr 0) nilA))) (consA (vr 1) nilA))) nilA))) (consA (vr 2) nilA))))
noncomputable def F_p_joint_text : FD := gcF (fnM 3 b_p_joint_text)
noncomputable def e_0 : ME :=
    (callF F_p_leaf_taken [] (consA (vr 0) (consA (vr 1) nilA)))
noncomputable def e_1 : ME :=
    (callF F_p_joint_taken [] (consA (vr 0) (consA (vr 1) (consA (vr 2) (consA (vr 3) nilA)))))
noncomputable def e_2 : ME :=
    (op2 ixA (vr 0) (vr 1))
noncomputable def e_3 : ME :=
    (callF F_p_joint_text [] (consA (vr 0) (consA (vr 2) (consA (vr 3) nilA))))
noncomputable def GL : Nat → FD
  | 0 => lamN 2 e_0
  | 1 => lamN 4 e_1
  | 2 => lamN 2 e_2
  | 3 => lamN 4 e_3
  | _ => fun _ _ => .bad
noncomputable def b_p_folded : MS :=
    (seqS (setS 3 (lstE nilA))
    (seqS (setS 4 (lstE (consA (vr 0) nilA)))
    (seqS (whileW (tru (vr 4)) (seqS (setS 5 (meth0E "list" popV (vr 4)))
    (seqS (exprS (methE "list" appendV (vr 3) (consA (vr 5) nilA)))
    (ifS (notT (tru (op1 (isV "str") (vr 5)))) (seqS (exprS (methE "list" appendV (vr 4) (consA (op2 ixV (vr 5) (ct (.int 0))) nilA)))
    (exprS (methE "list" appendV (vr 4) (consA (op2 ixV (vr 5) (ct (.int 1))) nilA)))) skipS))))
    (seqS (setS 6 (lstE nilA))
    (seqS (forS (revI (consA (vr 3) nilA)) (nameG 5) (ifS (tru (op1 (isV "str") (vr 5))) (exprS (methE "list" appendV (vr 6) (consA (callC Lam GL 1 (consA (vr 5) nilA)) nilA))) (seqS (setS 7 (meth0E "list" popV (vr 6)))
    (seqS (setS 8 (meth0E "list" popV (vr 6)))
    (exprS (methE "list" appendV (vr 6) (consA (callC Lam GL 2 (consA (vr 5) (consA (vr 8) (consA (vr 7) nilA)))) nilA)))))))
    (retS (op2 ixV (vr 6) (ct (.int 0)))))))))
noncomputable def F_p_folded : FD := gcF (fnM 9 b_p_folded)
noncomputable def b_p_out_and_cost : MS :=
    (seqS (setS 2 (callLm Lam F_p_folded [] (consL (vr 1) (lamL 0 [0] 1 "out_and_cost" (lamL 1 [0] 1 "out_and_cost" nilL)))))
    (retS (callF F_p_or_constant [] (consA (vr 2) (consA (vr 1) nilA)))))
noncomputable def F_p_out_and_cost : FD := gcF (fnM 3 b_p_out_and_cost)
noncomputable def b_p_taken_out : MS :=
    (retS (op2 ixV (callF F_p_out_and_cost [] (consA (vr 0) (consA (vr 1) nilA))) (ct (.int 0))))
noncomputable def F_p_taken_out : FD := gcF (fnM 2 b_p_taken_out)
noncomputable def b_p_unasked : MS :=
    (seqS (setS 2 (vr 1))
    (seqS (forS (range1I (consA (vr 0) nilA)) (nameG 3) (setS 2 (callF F_p_joint [] (consA (ct (.str [75])) (consA (vr 2) nilA)))))
    (retS (vr 2))))
noncomputable def F_p_unasked : FD := gcF (fnM 4 b_p_unasked)
noncomputable def b_p_pick : MS :=
    (retS (callF F_p_unasked [] (consA (vr 0) (consA (callF F_p_taken_out [] (consA (ct (.str [120])) (consA (callF F_p_unasked [] (consA (op2 subV (op2 subV (vr 1) (ct (.int 1))) (vr 0)) (consA (ct (.str [120])) nilA))) nilA))) nilA))))
noncomputable def F_p_pick : FD := gcF (fnM 2 b_p_pick)
noncomputable def b_p_kept : MS :=
    (seqS (ifS (tru (callF F_p_is_value [] (consA (vr 0) nilA))) (retS (callF F_p_joint [] (consA (ct (.str [75])) (consA (vr 0) nilA)))) skipS)
    (retS (callF F_p_taken_out [] (consA (ct (.str [112])) (consA (vr 0) nilA)))))
noncomputable def F_p_kept : FD := gcF (fnM 1 b_p_kept)
noncomputable def b_p_holder : MS :=
    (seqS (setS 1 (ct (.tup [.tup [.str [83], .str [75], .int 2, .bl true], .str [75], .int 3, .bl true])))
    (seqS (forS (seqI (vr 0)) (nameG 2) (setS 1 (callF F_p_joint [] (consA (callF F_p_joint [] (consA (ct (.str [83])) (consA (vr 1) nilA))) (consA (callF F_p_kept [] (consA (vr 2) nilA)) nilA)))))
    (retS (vr 1))))
noncomputable def F_p_holder : FD := gcF (fnM 3 b_p_holder)
noncomputable def b_p_has_in_front : MS :=
    (retS (andV (notV (op1 (isV "str") (vr 1))) (op2 (eqV 800) (op2 ixV (vr 1) (ct (.int 0))) (vr 0))))
noncomputable def F_p_has_in_front : FD := gcF (fnM 2 b_p_has_in_front)
noncomputable def b_p_joint_head : MS :=
    (retS (callF F_p_holder [] (consA (lstE (consA (callF F_p_pick [] (consA (ct (.int 2)) (consA (ct (.int 3)) nilA))) nilA)) nilA)))
noncomputable def F_p_joint_head : FD := gcF (fnM 0 b_p_joint_head)
noncomputable def b_p_leaf_texts : MS :=
    (seqS (setS 0 dkE)
    (seqS (forS (keysI [([83], .int 0), ([75], .int 1)]) (nameG 1) (asgS (callF F_p_holder [] (consA (lstE (consA (callF F_p_pick [] (consA (tabE [([83], .int 0), ([75], .int 1)] (vr 1)) (consA (ct (.int 3)) nilA))) nilA)) nilA)) (subG setK (vr 0) (vr 1))))
    (retS (vr 0))))
noncomputable def F_p_leaf_texts : FD := gcF (fnM 2 b_p_leaf_texts)
noncomputable def b_p_text_of : MS :=
    (seqS (setS 1 (callF F_p_leaf_texts [] nilA))
    (seqS (setS 2 (callF F_p_joint_head [] nilA))
    (retS (callLm Lam F_p_folded [] (consL (vr 0) (lamL 2 [1] 2 "text_of" (lamL 3 [2] 2 "text_of" nilL)))))))
noncomputable def F_p_text_of : FD := gcF (fnM 3 b_p_text_of)
noncomputable def b_p_player : MS :=
    (retS (callF F_p_holder [] (consA (lstE (consA (callF F_p_holder [] (consA (lstE (consA (vr 0) (consA (vr 1) (consA (ct (.tup [.tup [.str [83], .str [75], .int 2, .bl true], .str [75], .int 3, .bl true])) nilA)))) nilA)) nilA)) nilA)))
noncomputable def F_p_player : FD := gcF (fnM 2 b_p_player)
noncomputable def b_p_player_of_all : MS :=
    (retS (callF F_p_player [] (consA (ct (.str [83])) (consA (ct (.str [75])) nilA))))
noncomputable def F_p_player_of_all : FD := gcF (fnM 0 b_p_player_of_all)
noncomputable def b_p_tree_in_order : MS :=
    (seqS (setS 1 (lstE nilA))
    (seqS (forS (revI (consA (vr 0) nilA)) (nameG 2) (ifS (tB1 (op2 isNoneV (vr 2) (ct .non))) (seqS (setS 3 (meth0E "list" popV (vr 1)))
    (seqS (setS 4 (meth0E "list" popV (vr 1)))
    (exprS (methE "list" appendV (vr 1) (consA (callF F_p_joint [] (consA (vr 4) (consA (vr 3) nilA))) nilA))))) (exprS (methE "list" appendV (vr 1) (consA (vr 2) nilA)))))
    (retS (op2 ixV (vr 1) (ct (.int 0))))))
noncomputable def F_p_tree_in_order : FD := gcF (fnM 5 b_p_tree_in_order)
noncomputable def b_p_joint_parts : MS :=
    (seqS (ifS (orT (tru (op1 (isV "str") (vr 1))) (notT (tru (callF F_p_has_in_front [] (consA (ct (.str [83])) (consA (op2 ixV (vr 1) (ct (.int 0))) nilA)))))) (retS (ct .non)) skipS)
    (seqS (setS 2 (op2 ixV (op2 ixV (vr 1) (ct (.int 0))) (ct (.int 1))))
    (seqS (ifS (orT (tru (op1 (isV "str") (vr 2))) (orT (notT (tru (callF F_p_has_in_front [] (consA (ct (.str [83])) (consA (op2 ixV (vr 2) (ct (.int 0))) nilA))))) (tB1 (op2 (neV 800) (op2 ixV (op2 ixV (vr 2) (ct (.int 0))) (ct (.int 1))) (vr 0))))) (retS (ct .non)) skipS)
    (retS (tupE (consA (op2 ixV (vr 2) (ct (.int 1))) (consA (op2 ixV (vr 1) (ct (.int 1))) nilA)))))))
noncomputable def F_p_joint_parts : FD := gcF (fnM 3 b_p_joint_parts)
noncomputable def b_p_leaf_told : MS :=
    (seqS (forS (dkI (vr 0)) (nameG 2) (ifS (tB1 (op2 (eqV 800) (vr 1) (op2 ixA (vr 0) (vr 2)))) (retS (vr 2)) skipS))
    (retS (ct .non)))
noncomputable def F_p_leaf_told : FD := gcF (fnM 3 b_p_leaf_told)
noncomputable def b_p_text_told : MS :=
    (seqS (setS 1 (lstE nilA))
    (seqS (setS 2 (callF F_p_leaf_texts [] nilA))
    (seqS (setS 3 (callF F_p_joint_head [] nilA))
    (seqS (setS 4 (lstE (consA (vr 0) nilA)))
    (seqS (whileW (tru (vr 4)) (seqS (setS 5 (meth0E "list" popV (vr 4)))
    (seqS (setS 6 (callF F_p_leaf_told [] (consA (vr 2) (consA (vr 5) nilA))))
    (seqS (exprS (methE "list" appendV (vr 1) (consA (vr 6) nilA)))
    (ifS (tB1 (op2 isNoneV (vr 6) (ct .non))) (seqS (setS 7 (callF F_p_joint_parts [] (consA (vr 3) (consA (vr 5) nilA))))
    (seqS (ifS (tB1 (op2 isNoneV (vr 7) (ct .non))) (retS (ct .non)) skipS)
    (exprS (methE "list" extendT (vr 4) (consA (vr 7) nilA))))) skipS)))))
    (retS (callF F_p_tree_in_order [] (consA (vr 1) nilA))))))))
noncomputable def F_p_text_told : FD := gcF (fnM 8 b_p_text_told)
noncomputable def b_l_cell_at : MS :=
    (seqS (ifS (tB1 (op2 ltV (vr 1) (callE lenV (consA (vr 0) nilA)))) (retS (op2 ixV (vr 0) (vr 1))) skipS)
    (retS (ct (.int 0))))
noncomputable def F_l_cell_at : FD := gcF (fnM 2 b_l_cell_at)
noncomputable def b_l_draws : MS :=
    (seqS (setS 4 (op2 modV (op2 modV (op2 addV (op2 mulV (callF F_l_cell_at [] (consA (vr 0) (consA (ct (.int 0)) nilA))) (ct (.int 7919))) (ct (.int 13))) (ct (.int 10007))) (ct (.int 3))))
    (seqS (ifS (tB1 (op2 (eqV 800) (vr 4) (ct (.int 0)))) (retS (slE (vr 0) (inP (vr 1)) (inP (op2 addV (vr 1) (vr 2))))) skipS)
    (seqS (setS 5 (callF F_l_cell_at [] (consA (vr 0) (consA (vr 1) nilA))))
    (seqS (setS 6 (lstE nilA))
    (seqS (ifS (tB1 (op2 (eqV 800) (vr 4) (ct (.int 1)))) (seqS (forS (range1I (consA (vr 2) nilA)) (nameG 7) (seqS (exprS (methE "list" appendV (vr 6) (consA (op2 modV (vr 5) (vr 3)) nilA)))
    (setS 5 (op2 fdivV (vr 5) (vr 3)))))
    (retS (vr 6))) skipS)
    (seqS (setS 8 (op2 modV (vr 5) (ct (.int 2147483647))))
    (seqS (forS (range1I (consA (op2 addV (ct (.int 1)) (op2 modV (vr 5) (vr 2))) nilA)) (nameG 7) (seqS (setS 8 (op2 modV (op2 addV (op2 addV (op2 mulV (vr 8) (ct (.int 48271))) (ct (.int 11))) (vr 7)) (ct (.int 2147483647))))
    (exprS (methE "list" appendV (vr 6) (consA (op2 modV (op2 mulV (op2 fdivV (vr 8) (ct (.int 64))) (ct (.int 69621))) (ct (.int 1000003))) nilA)))))
    (retS (vr 6)))))))))
noncomputable def F_l_draws : FD := gcF (fnM 9 b_l_draws)
noncomputable def b_l_tree : MS :=
    (seqS (setS 1 (lstE nilA))
    (seqS (forS (seqI (vr 0)) (nameG 2) (ifS (andT (tB1 (op2 ltV (op2 modV (vr 2) (ct (.int 5))) (ct (.int 2)))) (tB1 (op2 gtV (callE lenV (consA (vr 1) nilA)) (ct (.int 1))))) (seqS (setS 3 (meth0E "list" popV (vr 1)))
    (exprS (methE "list" appendV (vr 1) (consA (callF F_p_joint [] (consA (meth0E "list" popV (vr 1)) (consA (vr 3) nilA))) nilA)))) (ifS (tB1 (op2 ltV (callE lenV (consA (vr 1) nilA)) (ct (.int 3)))) (exprS (methE "list" appendV (vr 1) (consA (op2 ixV (ct (.str [83, 75])) (op2 modV (op2 fdivV (vr 2) (ct (.int 5))) (ct (.int 2)))) nilA))) skipS)))
    (seqS (ifS (tB1 (op2 (eqV 800) (vr 1) (lstE nilA))) (exprS (methE "list" appendV (vr 1) (consA (ct (.str [75])) nilA))) skipS)
    (seqS (whileW (tB1 (op2 gtV (callE lenV (consA (vr 1) nilA)) (ct (.int 1)))) (seqS (setS 3 (meth0E "list" popV (vr 1)))
    (exprS (methE "list" appendV (vr 1) (consA (callF F_p_joint [] (consA (meth0E "list" popV (vr 1)) (consA (vr 3) nilA))) nilA)))))
    (retS (op2 ixV (vr 1) (ct (.int 0))))))))
noncomputable def F_l_tree : FD := gcF (fnM 4 b_l_tree)
noncomputable def b_l_few : MS :=
    (seqS (setS 1 (callF F_l_tree [] (consA (vr 0) nilA)))
    (seqS (whileW (tB1 (op2 gtV (callF F_p_leaves [] (consA (vr 1) nilA)) (ct (.int 3)))) (setS 1 (op2 ixV (vr 1) (ct (.int 1)))))
    (retS (vr 1))))
noncomputable def F_l_few : FD := gcF (fnM 2 b_l_few)
noncomputable def b_l_cost (Fself : FD) : MS :=
    (seqS (ifS (tru (op1 (isV "str") (vr 0))) (retS (op2 ixV (lstE (consA (ct (.int 16)) (consA (ct (.int 14)) nilA))) (callE intC (consA (op2 (eqV 800) (vr 0) (ct (.str [75]))) nilA)))) skipS)
    (retS (op2 addV (op2 addV (ct (.int 20)) (callF Fself [] (consA (op2 ixV (vr 0) (ct (.int 0))) nilA))) (callF Fself [] (consA (op2 ixV (vr 0) (ct (.int 1))) nilA)))))
noncomputable def F_l_cost : Nat → FD
  | 0 => fun _ _ => .bad
  | n + 1 => gcF (fnM 1 (b_l_cost (F_l_cost n)))
noncomputable def b_p_law : MS :=
    (seqS (setS 1 (callF F_l_few [] (consA (callF F_l_draws [] (consA (vr 0) (consA (ct (.int 1)) (consA (ct (.int 8)) (consA (ct (.int 10)) nilA))))) nilA)))
    (seqS (setS 2 (callF F_p_player_of_all [] nilA))
    (seqS (setS 3 (callF F_p_joint [] (consA (vr 2) (consA (callF F_p_text_of [] (consA (vr 1) nilA)) nilA))))
    (seqS (setS 4 (callF F_p_text_of [] (consA (vr 3) nilA)))
    (seqS (ifS (orT (notT (tru (callF F_p_is_value [] (consA (vr 2) nilA)))) (orT (notT (tru (callF F_p_is_value [] (consA (vr 4) nilA)))) (tB1 (op2 (neV 800) (callF F_p_text_told [] (consA (vr 4) nilA)) (vr 3))))) (retS (ct (.bl false))) skipS)
    (seqS (setS 5 (op2 modV (callF F_l_cell_at [] (consA (vr 0) (consA (ct (.int 0)) nilA))) (ct (.int 13))))
    (seqS (setS 6 (op2 addV (op2 addV (ct (.int 8)) (callF (F_l_cost 60) [] (consA (vr 1) nilA))) (callF (F_l_cost 60) [] (consA (vr 3) nilA))))
    (seqS (setS 7 (callF F_p_tree_run [] (consA (vr 1) (consA (vr 5) nilA))))
    (seqS (setS 8 (callF F_p_tree_run [] (consA (callF F_p_joint [] (consA (vr 2) (consA (vr 4) nilA))) (consA (op2 addV (vr 5) (vr 6)) nilA))))
    (seqS (ifS (tB1 (op2 (eqV 800) (op2 ixV (vr 7) (ct (.int 0))) (ct (.str [111, 110])))) (retS (andV (op2 (eqV 800) (op2 ixV (vr 8) (ct (.int 0))) (ct (.str [111, 110]))) (op2 (eqV 800) (op2 ixV (vr 8) (ct (.int 2))) (op2 addV (vr 5) (vr 6))))) skipS)
    (retS (andV (op2 (eqV 800) (op2 ixV (vr 8) (ct (.int 0))) (ct (.str [118, 97, 108, 117, 101]))) (andV (op2 (eqV 800) (op2 ixV (vr 8) (ct (.int 1))) (op2 ixV (vr 7) (ct (.int 1)))) (op2 (eqV 800) (op2 ixV (vr 8) (ct (.int 2))) (op2 addV (op2 ixV (vr 7) (ct (.int 2))) (vr 6))))))))))))))))
noncomputable def F_p_law : FD := gcF (fnM 9 b_p_law)
/-! ### the text as it stands behind the top -/
structure Adr where
  a_p_joint : Addr
  d_p_joint : FuncData
  a_p_is_done : Addr
  d_p_is_done : FuncData
  a_p_leaves : Addr
  d_p_leaves : FuncData
  a_p_is_value : Addr
  d_p_is_value : FuncData
  a_p_tree_run : Addr
  d_p_tree_run : FuncData
  a_p_joined : Addr
  d_p_joined : FuncData
  a_p_changed : Addr
  d_p_changed : FuncData
  a_p_folded : Addr
  d_p_folded : FuncData
  a_p_taken_out : Addr
  d_p_taken_out : FuncData
  a_p_out_and_cost : Addr
  d_p_out_and_cost : FuncData
  a_p_leaf_taken : Addr
  d_p_leaf_taken : FuncData
  a_p_joint_taken : Addr
  d_p_joint_taken : FuncData
  a_p_or_constant : Addr
  d_p_or_constant : FuncData
  a_p_pick : Addr
  d_p_pick : FuncData
  a_p_unasked : Addr
  d_p_unasked : FuncData
  a_p_holder : Addr
  d_p_holder : FuncData
  a_p_kept : Addr
  d_p_kept : FuncData
  a_p_has_in_front : Addr
  d_p_has_in_front : FuncData
  a_p_text_of : Addr
  d_p_text_of : FuncData
  a_p_leaf_texts : Addr
  d_p_leaf_texts : FuncData
  a_p_joint_head : Addr
  d_p_joint_head : FuncData
  a_p_joint_text : Addr
  d_p_joint_text : FuncData
  a_p_player : Addr
  d_p_player : FuncData
  a_p_player_of_all : Addr
  d_p_player_of_all : FuncData
  a_p_text_told : Addr
  d_p_text_told : FuncData
  a_p_leaf_told : Addr
  d_p_leaf_told : FuncData
  a_p_joint_parts : Addr
  d_p_joint_parts : FuncData
  a_p_tree_in_order : Addr
  d_p_tree_in_order : FuncData
  a_l_cell_at : Addr
  d_l_cell_at : FuncData
  a_l_draws : Addr
  d_l_draws : FuncData
  a_l_tree : Addr
  d_l_tree : FuncData
  a_l_few : Addr
  d_l_few : FuncData
  a_l_cost : Addr
  d_l_cost : FuncData
  a_p_law : Addr
  d_p_law : FuncData
structure Txt (w : World) (K : PySem.W.Frag) (mg : Str → Option Value) (base : Heap) (A : Adr) : Prop where
  hB : BMain mg base
  f_p_joint : Fun K "joint" "joint" s_p_joint A.a_p_joint A.d_p_joint
  m_p_joint : mg "joint" = some (.ref A.a_p_joint)
  b_p_joint : Binds K A.d_p_joint ["left", "right"] []
  f_p_is_done : Fun K "is_done" "is_done" s_p_is_done A.a_p_is_done A.d_p_is_done
  m_p_is_done : mg "is_done" = some (.ref A.a_p_is_done)
  b_p_is_done : Binds K A.d_p_is_done ["left", "right"] []
  f_p_leaves : Fun K "leaves" "leaves" s_p_leaves A.a_p_leaves A.d_p_leaves
  m_p_leaves : mg "leaves" = some (.ref A.a_p_leaves)
  b_p_leaves : Binds K A.d_p_leaves ["tree"] []
  f_p_is_value : Fun K "is_value" "is_value" s_p_is_value A.a_p_is_value A.d_p_is_value
  m_p_is_value : mg "is_value" = some (.ref A.a_p_is_value)
  b_p_is_value : Binds K A.d_p_is_value ["tree"] []
  f_p_tree_run : FunD K "tree_run" "tree_run" s_p_tree_run A.a_p_tree_run A.d_p_tree_run
  m_p_tree_run : mg "tree_run" = some (.ref A.a_p_tree_run)
  b_p_tree_run : Binds K A.d_p_tree_run ["tree", "most"] []
  bd_p_tree_run : ∃ t, Binds K A.d_p_tree_run ["tree", "most"] [.int 1000 t]
  f_p_joined : Fun K "joined" "joined" s_p_joined A.a_p_joined A.d_p_joined
  m_p_joined : mg "joined" = some (.ref A.a_p_joined)
  b_p_joined : Binds K A.d_p_joined ["waiting", "here"] []
  f_p_changed : Fun K "changed" "changed" s_p_changed A.a_p_changed A.d_p_changed
  m_p_changed : mg "changed" = some (.ref A.a_p_changed)
  b_p_changed : Binds K A.d_p_changed ["left", "right"] []
  f_p_folded : Fun K "folded" "folded" s_p_folded A.a_p_folded A.d_p_folded
  m_p_folded : mg "folded" = some (.ref A.a_p_folded)
  b_p_folded : Binds K A.d_p_folded ["tree", "of_leaf", "of_joint"] []
  f_p_taken_out : Fun K "taken_out" "taken_out" s_p_taken_out A.a_p_taken_out A.d_p_taken_out
  m_p_taken_out : mg "taken_out" = some (.ref A.a_p_taken_out)
  b_p_taken_out : Binds K A.d_p_taken_out ["name", "term"] []
  f_p_out_and_cost : FunT K "out_and_cost" s_p_out_and_cost A.a_p_out_and_cost A.d_p_out_and_cost
  m_p_out_and_cost : mg "out_and_cost" = some (.ref A.a_p_out_and_cost)
  b_p_out_and_cost : Binds K A.d_p_out_and_cost ["name", "term"] []
  f_p_leaf_taken : Fun K "leaf_taken" "leaf_taken" s_p_leaf_taken A.a_p_leaf_taken A.d_p_leaf_taken
  m_p_leaf_taken : mg "leaf_taken" = some (.ref A.a_p_leaf_taken)
  b_p_leaf_taken : Binds K A.d_p_leaf_taken ["name", "leaf"] []
  f_p_joint_taken : Fun K "joint_taken" "joint_taken" s_p_joint_taken A.a_p_joint_taken A.d_p_joint_taken
  m_p_joint_taken : mg "joint_taken" = some (.ref A.a_p_joint_taken)
  b_p_joint_taken : Binds K A.d_p_joint_taken ["name", "part", "left", "right"] []
  f_p_or_constant : Fun K "or_constant" "or_constant" s_p_or_constant A.a_p_or_constant A.d_p_or_constant
  m_p_or_constant : mg "or_constant" = some (.ref A.a_p_or_constant)
  b_p_or_constant : Binds K A.d_p_or_constant ["taken", "part"] []
  f_p_pick : Fun K "pick" "pick" s_p_pick A.a_p_pick A.d_p_pick
  m_p_pick : mg "pick" = some (.ref A.a_p_pick)
  b_p_pick : Binds K A.d_p_pick ["k", "many"] []
  f_p_unasked : Fun K "unasked" "unasked" s_p_unasked A.a_p_unasked A.d_p_unasked
  m_p_unasked : mg "unasked" = some (.ref A.a_p_unasked)
  b_p_unasked : Binds K A.d_p_unasked ["times", "value"] []
  f_p_holder : Fun K "holder" "holder" s_p_holder A.a_p_holder A.d_p_holder
  m_p_holder : mg "holder" = some (.ref A.a_p_holder)
  b_p_holder : Binds K A.d_p_holder ["things"] []
  f_p_kept : Fun K "kept" "kept" s_p_kept A.a_p_kept A.d_p_kept
  m_p_kept : mg "kept" = some (.ref A.a_p_kept)
  b_p_kept : Binds K A.d_p_kept ["thing"] []
  f_p_has_in_front : Fun K "has_in_front" "has_in_front" s_p_has_in_front A.a_p_has_in_front A.d_p_has_in_front
  m_p_has_in_front : mg "has_in_front" = some (.ref A.a_p_has_in_front)
  b_p_has_in_front : Binds K A.d_p_has_in_front ["leaf", "tree"] []
  f_p_text_of : FunT K "text_of" s_p_text_of A.a_p_text_of A.d_p_text_of
  m_p_text_of : mg "text_of" = some (.ref A.a_p_text_of)
  b_p_text_of : Binds K A.d_p_text_of ["tree"] []
  f_p_leaf_texts : Fun K "leaf_texts" "leaf_texts" s_p_leaf_texts A.a_p_leaf_texts A.d_p_leaf_texts
  m_p_leaf_texts : mg "leaf_texts" = some (.ref A.a_p_leaf_texts)
  b_p_leaf_texts : Binds K A.d_p_leaf_texts [] []
  f_p_joint_head : Fun K "joint_head" "joint_head" s_p_joint_head A.a_p_joint_head A.d_p_joint_head
  m_p_joint_head : mg "joint_head" = some (.ref A.a_p_joint_head)
  b_p_joint_head : Binds K A.d_p_joint_head [] []
  f_p_joint_text : Fun K "joint_text" "joint_text" s_p_joint_text A.a_p_joint_text A.d_p_joint_text
  m_p_joint_text : mg "joint_text" = some (.ref A.a_p_joint_text)
  b_p_joint_text : Binds K A.d_p_joint_text ["head", "left", "right"] []
  f_p_player : Fun K "player" "player" s_p_player A.a_p_player A.d_p_player
  m_p_player : mg "player" = some (.ref A.a_p_player)
  b_p_player : Binds K A.d_p_player ["one", "other"] []
  f_p_player_of_all : Fun K "player_of_all" "player_of_all" s_p_player_of_all A.a_p_player_of_all A.d_p_player_of_all
  m_p_player_of_all : mg "player_of_all" = some (.ref A.a_p_player_of_all)
  b_p_player_of_all : Binds K A.d_p_player_of_all [] []
  f_p_text_told : Fun K "text_told" "text_told" s_p_text_told A.a_p_text_told A.d_p_text_told
  m_p_text_told : mg "text_told" = some (.ref A.a_p_text_told)
  b_p_text_told : Binds K A.d_p_text_told ["tree"] []
  f_p_leaf_told : Fun K "leaf_told" "leaf_told" s_p_leaf_told A.a_p_leaf_told A.d_p_leaf_told
  m_p_leaf_told : mg "leaf_told" = some (.ref A.a_p_leaf_told)
  b_p_leaf_told : Binds K A.d_p_leaf_told ["texts", "text"] []
  f_p_joint_parts : Fun K "joint_parts" "joint_parts" s_p_joint_parts A.a_p_joint_parts A.d_p_joint_parts
  m_p_joint_parts : mg "joint_parts" = some (.ref A.a_p_joint_parts)
  b_p_joint_parts : Binds K A.d_p_joint_parts ["head", "text"] []
  f_p_tree_in_order : Fun K "tree_in_order" "tree_in_order" s_p_tree_in_order A.a_p_tree_in_order A.d_p_tree_in_order
  m_p_tree_in_order : mg "tree_in_order" = some (.ref A.a_p_tree_in_order)
  b_p_tree_in_order : Binds K A.d_p_tree_in_order ["order"] []
  f_l_cell_at : Fun K "_law_cell_at" "_law_cell_at" s_l_cell_at A.a_l_cell_at A.d_l_cell_at
  m_l_cell_at : mg "_law_cell_at" = some (.ref A.a_l_cell_at)
  b_l_cell_at : Binds K A.d_l_cell_at ["_law_script", "_law_k"] []
  f_l_draws : Fun K "_law_draws" "_law_draws" s_l_draws A.a_l_draws A.d_l_draws
  m_l_draws : mg "_law_draws" = some (.ref A.a_l_draws)
  b_l_draws : Binds K A.d_l_draws ["_law_script", "_law_at", "_law_many", "_law_base"] []
  f_l_tree : Fun K "_law_tree" "_law_tree" s_l_tree A.a_l_tree A.d_l_tree
  m_l_tree : mg "_law_tree" = some (.ref A.a_l_tree)
  b_l_tree : Binds K A.d_l_tree ["_law_cells"] []
  f_l_few : Fun K "_law_few" "_law_few" s_l_few A.a_l_few A.d_l_few
  m_l_few : mg "_law_few" = some (.ref A.a_l_few)
  b_l_few : Binds K A.d_l_few ["_law_cells"] []
  f_l_cost : Fun K "_law_cost" "_law_cost" s_l_cost A.a_l_cost A.d_l_cost
  m_l_cost : mg "_law_cost" = some (.ref A.a_l_cost)
  b_l_cost : Binds K A.d_l_cost ["_law_tree_here"] []
  f_p_law : Fun K "law" "law" s_p_law A.a_p_law A.d_p_law
  m_p_law : mg "law" = some (.ref A.a_p_law)
  b_p_law : Binds K A.d_p_law ["_law_script"] []
  v_PICK_OF_LEAF : ∃ a, mg "PICK_OF_LEAF" = some (.ref a) ∧ DictK w K a [([83], .int 0), ([75], .int 1)]
  v_PICKS : ∃ t, mg "PICKS" = some (.int 3 t)
  v_PICK_OF_JOINT : ∃ t, mg "PICK_OF_JOINT" = some (.int 2 t)
  v_IDENTITY : ∃ a, mg "IDENTITY" = some (.ref a) ∧ ∀ μ H, RepV K μ H (.tup [.tup [.str [83], .str [75], .int 2, .bl true], .str [75], .int 3, .bl true]) (.ref a)
  z_int : mg "int" = none
  z_isinstance : mg "isinstance" = none
  z_len : mg "len" = none
  z_range : mg "range" = none
  z_reversed : mg "reversed" = none
  z_str : mg "str" = none
section
variable {P : Program} {w : World} {K : PySem.W.Frag} {mg : Str → Option Value} {base : Heap} {Ad : Adr}
theorem sc_p_is_value : FnScope ["tree"] ["tree"] (defScope s_p_is_value) := ⟨rfl, rfl, rfl, by decide +kernel, rfl, by decide +kernel, by decide +kernel⟩
theorem ok_p_is_value (T : Txt w K mg base Ad) : FnOk P w K mg base CX0 41 Ad.a_p_is_value Ad.d_p_is_value ["tree"] (spM K 1 F_p_is_value) := by
  refine FnOk.imp (fn_ok (m := b_p_is_value) T.f_p_is_value sc_p_is_value fun cdv A outer s H hr => ?_) fun vs H Q E h => sp_gc h
  exact (js_one (js_ret (je_or (je_isV kit_str (je_var 0) rfl T.z_isinstance rfl T.z_str (by decide +kernel) (by decide +kernel)) (je_one (je_ix (je_var 0) je_int)))))
theorem sc_p_is_done : FnScope ["left", "right"] ["left", "right"] (defScope s_p_is_done) := ⟨rfl, rfl, rfl, by decide +kernel, rfl, by decide +kernel, by decide +kernel⟩
theorem ok_p_is_done (T : Txt w K mg base Ad) : FnOk P w K mg base CX0 42 Ad.a_p_is_done Ad.d_p_is_done ["left", "right"] (spM K 2 F_p_is_done) := by
  refine FnOk.imp (fn_ok (m := b_p_is_done) T.f_p_is_done sc_p_is_done fun cdv A outer s H hr => ?_) fun vs H Q E h => sp_gc h
  exact (js_cons (js_if (jt_not (jt_truth (je_call ((ok_p_is_value T).mono (by decide)) hr T.m_p_is_value T.f_p_is_value.kp T.b_p_is_value .nil (fun _ _ => RepVs.nil) (ja_cons (je_var 1) ja_nil) rfl rfl (by decide) rfl rfl (lenA_cons lenA_nil)))) (js_one (js_ret je_bl)) js_nil)
    (js_cons (js_if (jt_truth (je_isV kit_str (je_var 0) rfl T.z_isinstance rfl T.z_str (by decide +kernel) (by decide +kernel))) (js_one (js_ret (je_or (je_cmp (op_eqV (huL 800 hr (by omega))) (je_var 0) (je_str [83]) (nomark _)) (je_one (je_cmp (op_eqV (huL 800 hr (by omega))) (je_var 0) (je_str [75]) (nomark _)))))) js_nil)
    (js_one (js_ret (je_and (je_cmp (op_eqV (huL 800 hr (by omega))) (je_ix (je_var 0) je_int) (je_str [83]) (nomark _)) (je_one (je_ix (je_var 0) je_int)))))))
theorem sc_p_leaves : FnScope ["tree"] ["tree"] (defScope s_p_leaves) := ⟨rfl, rfl, rfl, by decide +kernel, rfl, by decide +kernel, by decide +kernel⟩
theorem ok_p_leaves (T : Txt w K mg base Ad) : FnOk P w K mg base CX0 41 Ad.a_p_leaves Ad.d_p_leaves ["tree"] (spM K 1 F_p_leaves) := by
  refine FnOk.imp (fn_ok (m := b_p_leaves) T.f_p_leaves sc_p_leaves fun cdv A outer s H hr => ?_) fun vs H Q E h => sp_gc h
  exact (js_cons (js_if (jt_truth (je_isV kit_str (je_var 0) rfl T.z_isinstance rfl T.z_str (by decide +kernel) (by decide +kernel))) (js_one (js_ret je_int)) js_nil)
    (js_one (js_ret (je_ix (je_var 0) je_int))))
theorem sc_p_joint : FnScope ["left", "right"] ["left", "right"] (defScope s_p_joint) := ⟨rfl, rfl, rfl, by decide +kernel, rfl, by decide +kernel, by decide +kernel⟩
theorem ok_p_joint (T : Txt w K mg base Ad) : FnOk P w K mg base CX0 43 Ad.a_p_joint Ad.d_p_joint ["left", "right"] (spM K 2 F_p_joint) := by
  refine FnOk.imp (fn_ok (m := b_p_joint) T.f_p_joint sc_p_joint fun cdv A outer s H hr => ?_) fun vs H Q E h => sp_gc h
  exact (js_one (js_ret (je_tup (ja_cons (je_var 0) (ja_cons (je_var 1) (ja_cons (je_op op_addV (je_call ((ok_p_leaves T).mono (by decide)) hr T.m_p_leaves T.f_p_leaves.kp T.b_p_leaves .nil (fun _ _ => RepVs.nil) (ja_cons (je_var 0) ja_nil) rfl rfl (by decide) rfl rfl (lenA_cons lenA_nil)) (je_call ((ok_p_leaves T).mono (by decide)) hr T.m_p_leaves T.f_p_leaves.kp T.b_p_leaves .nil (fun _ _ => RepVs.nil) (ja_cons (je_var 1) ja_nil) rfl rfl (by decide) rfl rfl (lenA_cons lenA_nil))) (ja_cons (je_call ((ok_p_is_done T).mono (by decide)) hr T.m_p_is_done T.f_p_is_done.kp T.b_p_is_done .nil (fun _ _ => RepVs.nil) (ja_cons (je_var 0) (ja_cons (je_var 1) ja_nil)) rfl rfl (by decide) rfl rfl (lenA_cons (lenA_cons lenA_nil))) ja_nil)))))))
theorem sc_p_joined : FnScope ["waiting", "here"] ["waiting", "here"] (defScope s_p_joined) := ⟨rfl, rfl, rfl, by decide +kernel, rfl, by decide +kernel, by decide +kernel⟩
theorem ok_p_joined (T : Txt w K mg base Ad) : FnOk P w K mg base CX0 44 Ad.a_p_joined Ad.d_p_joined ["waiting", "here"] (spM K 2 F_p_joined) := by
  refine FnOk.imp (fn_ok (m := b_p_joined) T.f_p_joined sc_p_joined fun cdv A outer s H hr => ?_) fun vs H Q E h => sp_gc h
  exact (js_cons (js_if (jt_cmp op_isNoneV (je_ix (je_var 0) je_int) je_non (nomark _)) (js_one (js_ret (je_call ((ok_p_joint T).mono (by decide)) hr T.m_p_joint T.f_p_joint.kp T.b_p_joint .nil (fun _ _ => RepVs.nil) (ja_cons (je_var 1) (ja_cons (je_ix (je_var 0) je_int) ja_nil)) rfl rfl (by decide) rfl rfl (lenA_cons (lenA_cons lenA_nil))))) js_nil)
    (js_one (js_ret (je_call ((ok_p_joint T).mono (by decide)) hr T.m_p_joint T.f_p_joint.kp T.b_p_joint .nil (fun _ _ => RepVs.nil) (ja_cons (je_ix (je_var 0) je_int) (ja_cons (je_var 1) ja_nil)) rfl rfl (by decide) rfl rfl (lenA_cons (lenA_cons lenA_nil))))))
theorem sc_p_changed : FnScope ["left", "right"] ["left", "right"] (defScope s_p_changed) := ⟨rfl, rfl, rfl, by decide +kernel, rfl, by decide +kernel, by decide +kernel⟩
theorem ok_p_changed (T : Txt w K mg base Ad) : FnOk P w K mg base CX0 44 Ad.a_p_changed Ad.d_p_changed ["left", "right"] (spM K 2 F_p_changed) := by
  refine FnOk.imp (fn_ok (m := b_p_changed) T.f_p_changed sc_p_changed fun cdv A outer s H hr => ?_) fun vs H Q E h => sp_gc h
  exact (js_cons (js_if (jt_cmp (op_eqV (huL 800 hr (by omega))) (je_ix (je_var 0) je_int) (je_str [75]) (nomark _)) (js_one (js_ret (je_ix (je_var 0) je_int))) js_nil)
    (js_one (js_ret (je_call ((ok_p_joint T).mono (by decide)) hr T.m_p_joint T.f_p_joint.kp T.b_p_joint .nil (fun _ _ => RepVs.nil) (ja_cons (je_call ((ok_p_joint T).mono (by decide)) hr T.m_p_joint T.f_p_joint.kp T.b_p_joint .nil (fun _ _ => RepVs.nil) (ja_cons (je_ix (je_ix (je_var 0) je_int) je_int) (ja_cons (je_var 1) ja_nil)) rfl rfl (by decide) rfl rfl (lenA_cons (lenA_cons lenA_nil))) (ja_cons (je_call ((ok_p_joint T).mono (by decide)) hr T.m_p_joint T.f_p_joint.kp T.b_p_joint .nil (fun _ _ => RepVs.nil) (ja_cons (je_ix (je_var 0) je_int) (ja_cons (je_var 1) ja_nil)) rfl rfl (by decide) rfl rfl (lenA_cons (lenA_cons lenA_nil))) ja_nil)) rfl rfl (by decide) rfl rfl (lenA_cons (lenA_cons lenA_nil))))))
theorem sc_p_tree_run : FnScope ["tree", "most", "here", "above", "steps"] ["tree", "most"] (defScope s_p_tree_run) := ⟨rfl, rfl, rfl, by decide +kernel, rfl, by decide +kernel, by decide +kernel⟩
theorem ok_p_tree_run (T : Txt w K mg base Ad) : FnOk P w K mg base CX0 45 Ad.a_p_tree_run Ad.d_p_tree_run ["tree", "most"] (spM K 2 F_p_tree_run) := by
  refine FnOk.imp (fn_okD (m := b_p_tree_run) T.f_p_tree_run sc_p_tree_run fun cdv A outer s H hr => ?_) fun vs H Q E h => sp_gc h
  exact (js_cons (js_set 2 (je_var 0) sc_p_tree_run.nd)
    (js_cons (js_set 3 (je_lst ja_nil) sc_p_tree_run.nd)
    (js_cons (js_set 4 je_int sc_p_tree_run.nd)
    (js_cons (js_whileW (JW.jt (jw_and (jt_cmp op_ltV (je_var 4) (je_var 1) (nomark _)) (jw_and1 (JW.jt (jw_or (jt_truth (je_var 3)) (jw_or1 (jt_not (jt_truth (je_call ((ok_p_is_value T).mono (by decide)) hr T.m_p_is_value T.f_p_is_value.kp T.b_p_is_value .nil (fun _ _ => RepVs.nil) (ja_cons (je_var 2) ja_nil) rfl rfl (by decide) rfl rfl (lenA_cons lenA_nil)))))))))) (js_one (js_if (jt_truth (je_call ((ok_p_is_value T).mono (by decide)) hr T.m_p_is_value T.f_p_is_value.kp T.b_p_is_value .nil (fun _ _ => RepVs.nil) (ja_cons (je_var 2) ja_nil) rfl rfl (by decide) rfl rfl (lenA_cons lenA_nil))) (js_one (js_set 2 (je_call ((ok_p_joined T).mono (by decide)) hr T.m_p_joined T.f_p_joined.kp T.b_p_joined .nil (fun _ _ => RepVs.nil) (ja_cons (je_meth0 PySem.F.plainAttrs_list PySem.F.slot_list_pop PySem.F.type_list_pop mt_popV (je_var 3)) (ja_cons (je_var 2) ja_nil)) rfl rfl (by decide) rfl rfl (lenA_cons (lenA_cons lenA_nil))) sc_p_tree_run.nd)) (js_one (js_if (jt_not (jt_truth (je_call ((ok_p_is_value T).mono (by decide)) hr T.m_p_is_value T.f_p_is_value.kp T.b_p_is_value .nil (fun _ _ => RepVs.nil) (ja_cons (je_ix (je_var 2) je_int) ja_nil) rfl rfl (by decide) rfl rfl (lenA_cons lenA_nil)))) (js_cons (js_expr (je_meth PySem.F.plainAttrs_list PySem.F.slot_list_append PySem.F.type_list_append mt_appendV (je_var 3) (ja_cons (je_tup (ja_cons je_non (ja_cons (je_ix (je_var 2) je_int) ja_nil))) ja_nil)))
    (js_one (js_set 2 (je_ix (je_var 2) je_int) sc_p_tree_run.nd))) (js_one (js_if (jt_not (jt_truth (je_call ((ok_p_is_value T).mono (by decide)) hr T.m_p_is_value T.f_p_is_value.kp T.b_p_is_value .nil (fun _ _ => RepVs.nil) (ja_cons (je_ix (je_var 2) je_int) ja_nil) rfl rfl (by decide) rfl rfl (lenA_cons lenA_nil)))) (js_cons (js_expr (je_meth PySem.F.plainAttrs_list PySem.F.slot_list_append PySem.F.type_list_append mt_appendV (je_var 3) (ja_cons (je_tup (ja_cons (je_ix (je_var 2) je_int) (ja_cons je_non ja_nil))) ja_nil)))
    (js_one (js_set 2 (je_ix (je_var 2) je_int) sc_p_tree_run.nd))) (js_one (js_if (jt_truth (je_isV kit_str (je_ix (je_var 2) je_int) rfl T.z_isinstance rfl T.z_str (by decide +kernel) (by decide +kernel))) (js_one js_break) (js_cons (js_set 2 (je_call ((ok_p_changed T).mono (by decide)) hr T.m_p_changed T.f_p_changed.kp T.b_p_changed .nil (fun _ _ => RepVs.nil) (ja_cons (je_ix (je_var 2) je_int) (ja_cons (je_ix (je_var 2) je_int) ja_nil)) rfl rfl (by decide) rfl rfl (lenA_cons (lenA_cons lenA_nil))) sc_p_tree_run.nd)
    (js_one (js_set 4 (je_op op_addV (je_var 4) je_int) sc_p_tree_run.nd))))))))))) PassesOwn.never)
    (js_cons (js_whileW (jt_truth (je_var 3)) (js_one (js_set 2 (je_call ((ok_p_joined T).mono (by decide)) hr T.m_p_joined T.f_p_joined.kp T.b_p_joined .nil (fun _ _ => RepVs.nil) (ja_cons (je_meth0 PySem.F.plainAttrs_list PySem.F.slot_list_pop PySem.F.type_list_pop mt_popV (je_var 3)) (ja_cons (je_var 2) ja_nil)) rfl rfl (by decide) rfl rfl (lenA_cons (lenA_cons lenA_nil))) sc_p_tree_run.nd)) PassesOwn.never)
    (js_one (js_ret (je_tup (ja_cons (je_if (jt_truth (je_call ((ok_p_is_value T).mono (by decide)) hr T.m_p_is_value T.f_p_is_value.kp T.b_p_is_value .nil (fun _ _ => RepVs.nil) (ja_cons (je_var 2) ja_nil) rfl rfl (by decide) rfl rfl (lenA_cons lenA_nil))) (je_str [118, 97, 108, 117, 101]) (je_str [111, 110])) (ja_cons (je_var 2) (ja_cons (je_var 4) ja_nil)))))))))))
theorem sc_p_leaf_taken : FnScope ["name", "leaf"] ["name", "leaf"] (defScope s_p_leaf_taken) := ⟨rfl, rfl, rfl, by decide +kernel, rfl, by decide +kernel, by decide +kernel⟩
theorem ok_p_leaf_taken (T : Txt w K mg base Ad) : FnOk P w K mg base CX0 41 Ad.a_p_leaf_taken Ad.d_p_leaf_taken ["name", "leaf"] (spM K 2 F_p_leaf_taken) := by
  refine FnOk.imp (fn_ok (m := b_p_leaf_taken) T.f_p_leaf_taken sc_p_leaf_taken fun cdv A outer s H hr => ?_) fun vs H Q E h => sp_gc h
  exact (js_cons (js_if (jt_cmp (op_eqV (huL 800 hr (by omega))) (je_var 1) (je_var 0) (nomark _)) (js_one (js_ret (je_tup (ja_cons (je_globT T.v_IDENTITY) (ja_cons je_int ja_nil))))) js_nil)
    (js_one (js_ret je_non)))
theorem sc_p_or_constant : FnScope ["taken", "part"] ["taken", "part"] (defScope s_p_or_constant) := ⟨rfl, rfl, rfl, by decide +kernel, rfl, by decide +kernel, by decide +kernel⟩
theorem ok_p_or_constant (T : Txt w K mg base Ad) : FnOk P w K mg base CX0 44 Ad.a_p_or_constant Ad.d_p_or_constant ["taken", "part"] (spM K 2 F_p_or_constant) := by
  refine FnOk.imp (fn_ok (m := b_p_or_constant) T.f_p_or_constant sc_p_or_constant fun cdv A outer s H hr => ?_) fun vs H Q E h => sp_gc h
  exact (js_cons (js_if (jt_cmp op_isNoneV (je_var 0) je_non (nomark _)) (js_one (js_ret (je_tup (ja_cons (je_call ((ok_p_joint T).mono (by decide)) hr T.m_p_joint T.f_p_joint.kp T.b_p_joint .nil (fun _ _ => RepVs.nil) (ja_cons (je_str [75]) (ja_cons (je_var 1) ja_nil)) rfl rfl (by decide) rfl rfl (lenA_cons (lenA_cons lenA_nil))) (ja_cons je_int ja_nil))))) js_nil)
    (js_one (js_ret (je_var 0))))
theorem sc_p_joint_taken : FnScope ["name", "part", "left", "right", "one", "other"] ["name", "part", "left", "right"] (defScope s_p_joint_taken) := ⟨rfl, rfl, rfl, by decide +kernel, rfl, by decide +kernel, by decide +kernel⟩
theorem ok_p_joint_taken (T : Txt w K mg base Ad) : FnOk P w K mg base CX0 45 Ad.a_p_joint_taken Ad.d_p_joint_taken ["name", "part", "left", "right"] (spM K 4 F_p_joint_taken) := by
  refine FnOk.imp (fn_ok (m := b_p_joint_taken) T.f_p_joint_taken sc_p_joint_taken fun cdv A outer s H hr => ?_) fun vs H Q E h => sp_gc h
  exact (js_cons (js_if (JW.jt (jw_and (jt_cmp op_isNoneV (je_var 2) je_non (nomark _)) (jw_and (jt_cmp op_isNoneV (je_var 3) je_non (nomark _)) (jw_and1 (jt_truth (je_call ((ok_p_is_value T).mono (by decide)) hr T.m_p_is_value T.f_p_is_value.kp T.b_p_is_value .nil (fun _ _ => RepVs.nil) (ja_cons (je_var 1) ja_nil) rfl rfl (by decide) rfl rfl (lenA_cons lenA_nil))))))) (js_one (js_ret je_non)) js_nil)
    (js_cons (js_if (JW.jt (jw_and (jt_cmp op_isNoneV (je_var 2) je_non (nomark _)) (jw_and1 (jt_cmp (op_eqV (huL 800 hr (by omega))) (je_ix (je_var 1) je_int) (je_var 0) (nomark _))))) (js_one (js_ret (je_tup (ja_cons (je_ix (je_var 1) je_int) (ja_cons je_int ja_nil))))) js_nil)
    (js_cons (js_set 4 (je_call ((ok_p_or_constant T).mono (by decide)) hr T.m_p_or_constant T.f_p_or_constant.kp T.b_p_or_constant .nil (fun _ _ => RepVs.nil) (ja_cons (je_var 2) (ja_cons (je_ix (je_var 1) je_int) ja_nil)) rfl rfl (by decide) rfl rfl (lenA_cons (lenA_cons lenA_nil))) sc_p_joint_taken.nd)
    (js_cons (js_set 5 (je_call ((ok_p_or_constant T).mono (by decide)) hr T.m_p_or_constant T.f_p_or_constant.kp T.b_p_or_constant .nil (fun _ _ => RepVs.nil) (ja_cons (je_var 3) (ja_cons (je_ix (je_var 1) je_int) ja_nil)) rfl rfl (by decide) rfl rfl (lenA_cons (lenA_cons lenA_nil))) sc_p_joint_taken.nd)
    (js_one (js_ret (je_tup (ja_cons (je_call ((ok_p_joint T).mono (by decide)) hr T.m_p_joint T.f_p_joint.kp T.b_p_joint .nil (fun _ _ => RepVs.nil) (ja_cons (je_call ((ok_p_joint T).mono (by decide)) hr T.m_p_joint T.f_p_joint.kp T.b_p_joint .nil (fun _ _ => RepVs.nil) (ja_cons (je_str [83]) (ja_cons (je_ix (je_var 4) je_int) ja_nil)) rfl rfl (by decide) rfl rfl (lenA_cons (lenA_cons lenA_nil))) (ja_cons (je_ix (je_var 5) je_int) ja_nil)) rfl rfl (by decide) rfl rfl (lenA_cons (lenA_cons lenA_nil))) (ja_cons (je_op op_addV (je_op op_addV je_int (je_ix (je_var 4) je_int)) (je_ix (je_var 5) je_int)) ja_nil)))))))))
theorem sc_p_joint_text : FnScope ["head", "left", "right"] ["head", "left", "right"] (defScope s_p_joint_text) := ⟨rfl, rfl, rfl, by decide +kernel, rfl, by decide +kernel, by decide +kernel⟩
theorem ok_p_joint_text (T : Txt w K mg base Ad) : FnOk P w K mg base CX0 44 Ad.a_p_joint_text Ad.d_p_joint_text ["head", "left", "right"] (spM K 3 F_p_joint_text) := by
  refine FnOk.imp (fn_ok (m := b_p_joint_text) T.f_p_joint_text sc_p_joint_text fun cdv A outer s H hr => ?_) fun vs H Q E h => sp_gc h
  exact (js_one (js_ret (je_call ((ok_p_joint T).mono (by decide)) hr T.m_p_joint T.f_p_joint.kp T.b_p_joint .nil (fun _ _ => RepVs.nil) (ja_cons (je_call ((ok_p_joint T).mono (by decide)) hr T.m_p_joint T.f_p_joint.kp T.b_p_joint .nil (fun _ _ => RepVs.nil) (ja_cons (je_str [83]) (ja_cons (je_call ((ok_p_joint T).mono (by decide)) hr T.m_p_joint T.f_p_joint.kp T.b_p_joint .nil (fun _ _ => RepVs.nil) (ja_cons (je_call ((ok_p_joint T).mono (by decide)) hr T.m_p_joint T.f_p_joint.kp T.b_p_joint .nil (fun _ _ => RepVs.nil) (ja_cons (je_str [83]) (ja_cons (je_var 0) ja_nil)) rfl rfl (by decide) rfl rfl (lenA_cons (lenA_cons lenA_nil))) (ja_cons (je_var 1) ja_nil)) rfl rfl (by decide) rfl rfl (lenA_cons (lenA_cons lenA_nil))) ja_nil)) rfl rfl (by decide) rfl rfl (lenA_cons (lenA_cons lenA_nil))) (ja_cons (je_var 2) ja_nil)) rfl rfl (by decide) rfl rfl (lenA_cons (lenA_cons lenA_nil)))))
theorem lam_ok_0 (T : Txt w K mg base Ad) : LamOk P w K mg base 45 (Lam 0) ["leaf"] e_0 :=
  ⟨⟨rfl, rfl, rfl, by decide +kernel, by decide +kernel, by decide +kernel, by decide +kernel, by decide +kernel⟩, fun _ _ _ _ us hl => match us, hl with | [_], _ => rfl, fun f cd cl A outer s H hr => (je_call ((ok_p_leaf_taken T).mono (by decide)) hr T.m_p_leaf_taken T.f_p_leaf_taken.kp T.b_p_leaf_taken .nil (fun _ _ => RepVs.nil) (ja_cons (je_var 0) (ja_cons (je_var 1) ja_nil)) rfl rfl (by decide) rfl rfl (lenA_cons (lenA_cons lenA_nil)))⟩
theorem lam_ok_1 (T : Txt w K mg base Ad) : LamOk P w K mg base 45 (Lam 1) ["part", "left", "right"] e_1 :=
  ⟨⟨rfl, rfl, rfl, by decide +kernel, by decide +kernel, by decide +kernel, by decide +kernel, by decide +kernel⟩, fun _ _ _ _ us hl => match us, hl with | [_, _, _], _ => rfl, fun f cd cl A outer s H hr => (je_call ((ok_p_joint_taken T).mono (by decide)) hr T.m_p_joint_taken T.f_p_joint_taken.kp T.b_p_joint_taken .nil (fun _ _ => RepVs.nil) (ja_cons (je_var 0) (ja_cons (je_var 1) (ja_cons (je_var 2) (ja_cons (je_var 3) ja_nil)))) rfl rfl (by decide) rfl rfl (lenA_cons (lenA_cons (lenA_cons (lenA_cons lenA_nil)))))⟩
theorem lam_ok_2 (T : Txt w K mg base Ad) : LamOk P w K mg base 45 (Lam 2) ["leaf"] e_2 :=
  ⟨⟨rfl, rfl, rfl, by decide +kernel, by decide +kernel, by decide +kernel, by decide +kernel, by decide +kernel⟩, fun _ _ _ _ us hl => match us, hl with | [_], _ => rfl, fun f cd cl A outer s H hr => (je_ixA (hu_of hr) (je_var 0) (je_var 1))⟩
theorem lam_ok_3 (T : Txt w K mg base Ad) : LamOk P w K mg base 45 (Lam 3) ["part", "left", "right"] e_3 :=
  ⟨⟨rfl, rfl, rfl, by decide +kernel, by decide +kernel, by decide +kernel, by decide +kernel, by decide +kernel⟩, fun _ _ _ _ us hl => match us, hl with | [_, _, _], _ => rfl, fun f cd cl A outer s H hr => (je_call ((ok_p_joint_text T).mono (by decide)) hr T.m_p_joint_text T.f_p_joint_text.kp T.b_p_joint_text .nil (fun _ _ => RepVs.nil) (ja_cons (je_var 0) (ja_cons (je_var 2) (ja_cons (je_var 3) ja_nil))) rfl rfl (by decide) rfl rfl (lenA_cons (lenA_cons (lenA_cons lenA_nil))))⟩
theorem lams_ok (T : Txt w K mg base Ad) : LamsOk P w K mg base 45 Lam GL
  | 0 => .inr ⟨["leaf"], _, lam_ok_0 T, rfl⟩
  | 1 => .inr ⟨["part", "left", "right"], _, lam_ok_1 T, rfl⟩
  | 2 => .inr ⟨["leaf"], _, lam_ok_2 T, rfl⟩
  | 3 => .inr ⟨["part", "left", "right"], _, lam_ok_3 T, rfl⟩
  | _ + 4 => .inl fun _ _ => rfl
theorem sc_p_folded : FnScope ["tree", "of_leaf", "of_joint", "order", "waiting", "part", "told", "right", "left"] ["tree", "of_leaf", "of_joint"] (defScope s_p_folded) := ⟨rfl, rfl, rfl, by decide +kernel, rfl, by decide +kernel, by decide +kernel⟩
theorem ok_p_folded (T : Txt w K mg base Ad) : FnOk P w K mg base CX0 47 Ad.a_p_folded Ad.d_p_folded ["tree", "of_leaf", "of_joint"] (spM K 3 F_p_folded) := by
  refine FnOk.imp (fn_ok (m := b_p_folded) T.f_p_folded sc_p_folded fun cdv A outer s H hr => ?_) fun vs H Q E h => sp_gc h
  exact (js_cons (js_set 3 (je_lst ja_nil) sc_p_folded.nd)
    (js_cons (js_set 4 (je_lst (ja_cons (je_var 0) ja_nil)) sc_p_folded.nd)
    (js_cons (js_whileW (jt_truth (je_var 4)) (js_cons (js_set 5 (je_meth0 PySem.F.plainAttrs_list PySem.F.slot_list_pop PySem.F.type_list_pop mt_popV (je_var 4)) sc_p_folded.nd)
    (js_cons (js_expr (je_meth PySem.F.plainAttrs_list PySem.F.slot_list_append PySem.F.type_list_append mt_appendV (je_var 3) (ja_cons (je_var 5) ja_nil)))
    (js_one (js_if (jt_not (jt_truth (je_isV kit_str (je_var 5) rfl T.z_isinstance rfl T.z_str (by decide +kernel) (by decide +kernel)))) (js_cons (js_expr (je_meth PySem.F.plainAttrs_list PySem.F.slot_list_append PySem.F.type_list_append mt_appendV (je_var 4) (ja_cons (je_ix (je_var 5) je_int) ja_nil)))
    (js_one (js_expr (je_meth PySem.F.plainAttrs_list PySem.F.slot_list_append PySem.F.type_list_append mt_appendV (je_var 4) (ja_cons (je_ix (je_var 5) je_int) ja_nil))))) js_nil)))) PassesOwn.never)
    (js_cons (js_set 6 (je_lst ja_nil) sc_p_folded.nd)
    (js_cons (js_for (ji_rev (ja_cons (je_var 3) ja_nil) rfl T.z_reversed) (jg_name 5 sc_p_folded.nd) (js_one (js_if (jt_truth (je_isV kit_str (je_var 5) rfl T.z_isinstance rfl T.z_str (by decide +kernel) (by decide +kernel))) (js_one (js_expr (je_meth PySem.F.plainAttrs_list PySem.F.slot_list_append PySem.F.type_list_append mt_appendV (je_var 6) (ja_cons (je_callC (lams_ok T) (hr.mono (by decide)) 1 (ja_cons (je_var 5) ja_nil)) ja_nil)))) (js_cons (js_set 7 (je_meth0 PySem.F.plainAttrs_list PySem.F.slot_list_pop PySem.F.type_list_pop mt_popV (je_var 6)) sc_p_folded.nd)
    (js_cons (js_set 8 (je_meth0 PySem.F.plainAttrs_list PySem.F.slot_list_pop PySem.F.type_list_pop mt_popV (je_var 6)) sc_p_folded.nd)
    (js_one (js_expr (je_meth PySem.F.plainAttrs_list PySem.F.slot_list_append PySem.F.type_list_append mt_appendV (je_var 6) (ja_cons (je_callC (lams_ok T) (hr.mono (by decide)) 2 (ja_cons (je_var 5) (ja_cons (je_var 8) (ja_cons (je_var 7) ja_nil)))) ja_nil)))))))) PassesOwn.never rfl)
    (js_one (js_ret (je_ix (je_var 6) je_int))))))))
theorem sc_p_out_and_cost : FnScope ["name", "term", "taken"] ["name", "term"] (defScope s_p_out_and_cost) := ⟨rfl, rfl, rfl, by decide +kernel, rfl, by decide +kernel, by decide +kernel⟩
theorem ok_p_out_and_cost (T : Txt w K mg base Ad) : FnOk P w K mg base CX0 48 Ad.a_p_out_and_cost Ad.d_p_out_and_cost ["name", "term"] (spM K 2 F_p_out_and_cost) := by
  refine FnOk.imp (fn_okT (m := b_p_out_and_cost) T.f_p_out_and_cost sc_p_out_and_cost fun cdv A outer s H hr hT => ?_) fun vs H Q E h => sp_gc h
  exact (js_cons (js_set 2 (je_callLm ((ok_p_folded T).mono (by decide)) hr T.m_p_folded T.f_p_folded.kp T.b_p_folded .nil (fun _ _ => RepVs.nil) (jl_cons (je_var 1) (jl_lam (Λ := Lam) (x := "out_and_cost") (j := 0) (k := 1) (cap := [0]) T.hB hT (lamAt_mk (sc0 := defScope s_p_out_and_cost) rfl (by decide +kernel) (by decide +kernel) rfl) rfl rfl rfl rfl rfl (jl_lam (Λ := Lam) (x := "out_and_cost") (j := 1) (k := 1) (cap := [0]) T.hB hT (lamAt_mk (sc0 := defScope s_p_out_and_cost) rfl (by decide +kernel) (by decide +kernel) rfl) rfl rfl rfl rfl rfl jl_nil))) (fun _ => rfl) rfl rfl (by decide) rfl rfl (lenL_cons (lenL_lam (lenL_lam lenL_nil)))) sc_p_out_and_cost.nd)
    (js_one (js_ret (je_call ((ok_p_or_constant T).mono (by decide)) hr T.m_p_or_constant T.f_p_or_constant.kp T.b_p_or_constant .nil (fun _ _ => RepVs.nil) (ja_cons (je_var 2) (ja_cons (je_var 1) ja_nil)) rfl rfl (by decide) rfl rfl (lenA_cons (lenA_cons lenA_nil))))))
theorem sc_p_taken_out : FnScope ["name", "term"] ["name", "term"] (defScope s_p_taken_out) := ⟨rfl, rfl, rfl, by decide +kernel, rfl, by decide +kernel, by decide +kernel⟩
theorem ok_p_taken_out (T : Txt w K mg base Ad) : FnOk P w K mg base CX0 49 Ad.a_p_taken_out Ad.d_p_taken_out ["name", "term"] (spM K 2 F_p_taken_out) := by
  refine FnOk.imp (fn_ok (m := b_p_taken_out) T.f_p_taken_out sc_p_taken_out fun cdv A outer s H hr => ?_) fun vs H Q E h => sp_gc h
  exact (js_one (js_ret (je_ix (je_call ((ok_p_out_and_cost T).mono (by decide)) hr T.m_p_out_and_cost T.f_p_out_and_cost.kp T.b_p_out_and_cost .nil (fun _ _ => RepVs.nil) (ja_cons (je_var 0) (ja_cons (je_var 1) ja_nil)) rfl rfl (by decide) rfl rfl (lenA_cons (lenA_cons lenA_nil))) je_int)))
theorem sc_p_unasked : FnScope ["times", "value", "whole", "turn"] ["times", "value"] (defScope s_p_unasked) := ⟨rfl, rfl, rfl, by decide +kernel, rfl, by decide +kernel, by decide +kernel⟩
theorem ok_p_unasked (T : Txt w K mg base Ad) : FnOk P w K mg base CX0 44 Ad.a_p_unasked Ad.d_p_unasked ["times", "value"] (spM K 2 F_p_unasked) := by
  refine FnOk.imp (fn_ok (m := b_p_unasked) T.f_p_unasked sc_p_unasked fun cdv A outer s H hr => ?_) fun vs H Q E h => sp_gc h
  exact (js_cons (js_set 2 (je_var 1) sc_p_unasked.nd)
    (js_cons (js_for (ji_range1 (ja_cons (je_var 0) ja_nil) rfl T.z_range) (jg_name 3 sc_p_unasked.nd) (js_one (js_set 2 (je_call ((ok_p_joint T).mono (by decide)) hr T.m_p_joint T.f_p_joint.kp T.b_p_joint .nil (fun _ _ => RepVs.nil) (ja_cons (je_str [75]) (ja_cons (je_var 2) ja_nil)) rfl rfl (by decide) rfl rfl (lenA_cons (lenA_cons lenA_nil))) sc_p_unasked.nd)) PassesOwn.never rfl)
    (js_one (js_ret (je_var 2)))))
theorem sc_p_pick : FnScope ["k", "many"] ["k", "many"] (defScope s_p_pick) := ⟨rfl, rfl, rfl, by decide +kernel, rfl, by decide +kernel, by decide +kernel⟩
theorem ok_p_pick (T : Txt w K mg base Ad) : FnOk P w K mg base CX0 50 Ad.a_p_pick Ad.d_p_pick ["k", "many"] (spM K 2 F_p_pick) := by
  refine FnOk.imp (fn_ok (m := b_p_pick) T.f_p_pick sc_p_pick fun cdv A outer s H hr => ?_) fun vs H Q E h => sp_gc h
  exact (js_one (js_ret (je_call ((ok_p_unasked T).mono (by decide)) hr T.m_p_unasked T.f_p_unasked.kp T.b_p_unasked .nil (fun _ _ => RepVs.nil) (ja_cons (je_var 0) (ja_cons (je_call ((ok_p_taken_out T).mono (by decide)) hr T.m_p_taken_out T.f_p_taken_out.kp T.b_p_taken_out .nil (fun _ _ => RepVs.nil) (ja_cons (je_str [120]) (ja_cons (je_call ((ok_p_unasked T).mono (by decide)) hr T.m_p_unasked T.f_p_unasked.kp T.b_p_unasked .nil (fun _ _ => RepVs.nil) (ja_cons (je_op op_subV (je_op op_subV (je_var 1) je_int) (je_var 0)) (ja_cons (je_str [120]) ja_nil)) rfl rfl (by decide) rfl rfl (lenA_cons (lenA_cons lenA_nil))) ja_nil)) rfl rfl (by decide) rfl rfl (lenA_cons (lenA_cons lenA_nil))) ja_nil)) rfl rfl (by decide) rfl rfl (lenA_cons (lenA_cons lenA_nil)))))
theorem sc_p_kept : FnScope ["thing"] ["thing"] (defScope s_p_kept) := ⟨rfl, rfl, rfl, by decide +kernel, rfl, by decide +kernel, by decide +kernel⟩
theorem ok_p_kept (T : Txt w K mg base Ad) : FnOk P w K mg base CX0 50 Ad.a_p_kept Ad.d_p_kept ["thing"] (spM K 1 F_p_kept) := by
  refine FnOk.imp (fn_ok (m := b_p_kept) T.f_p_kept sc_p_kept fun cdv A outer s H hr => ?_) fun vs H Q E h => sp_gc h
  exact (js_cons (js_if (jt_truth (je_call ((ok_p_is_value T).mono (by decide)) hr T.m_p_is_value T.f_p_is_value.kp T.b_p_is_value .nil (fun _ _ => RepVs.nil) (ja_cons (je_var 0) ja_nil) rfl rfl (by decide) rfl rfl (lenA_cons lenA_nil))) (js_one (js_ret (je_call ((ok_p_joint T).mono (by decide)) hr T.m_p_joint T.f_p_joint.kp T.b_p_joint .nil (fun _ _ => RepVs.nil) (ja_cons (je_str [75]) (ja_cons (je_var 0) ja_nil)) rfl rfl (by decide) rfl rfl (lenA_cons (lenA_cons lenA_nil))))) js_nil)
    (js_one (js_ret (je_call ((ok_p_taken_out T).mono (by decide)) hr T.m_p_taken_out T.f_p_taken_out.kp T.b_p_taken_out .nil (fun _ _ => RepVs.nil) (ja_cons (je_str [112]) (ja_cons (je_var 0) ja_nil)) rfl rfl (by decide) rfl rfl (lenA_cons (lenA_cons lenA_nil))))))
theorem sc_p_holder : FnScope ["things", "whole", "thing"] ["things"] (defScope s_p_holder) := ⟨rfl, rfl, rfl, by decide +kernel, rfl, by decide +kernel, by decide +kernel⟩
theorem ok_p_holder (T : Txt w K mg base Ad) : FnOk P w K mg base CX0 51 Ad.a_p_holder Ad.d_p_holder ["things"] (spM K 1 F_p_holder) := by
  refine FnOk.imp (fn_ok (m := b_p_holder) T.f_p_holder sc_p_holder fun cdv A outer s H hr => ?_) fun vs H Q E h => sp_gc h
  exact (js_cons (js_set 1 (je_globT T.v_IDENTITY) sc_p_holder.nd)
    (js_cons (js_for (ji_seq (je_var 0)) (jg_name 2 sc_p_holder.nd) (js_one (js_set 1 (je_call ((ok_p_joint T).mono (by decide)) hr T.m_p_joint T.f_p_joint.kp T.b_p_joint .nil (fun _ _ => RepVs.nil) (ja_cons (je_call ((ok_p_joint T).mono (by decide)) hr T.m_p_joint T.f_p_joint.kp T.b_p_joint .nil (fun _ _ => RepVs.nil) (ja_cons (je_str [83]) (ja_cons (je_var 1) ja_nil)) rfl rfl (by decide) rfl rfl (lenA_cons (lenA_cons lenA_nil))) (ja_cons (je_call ((ok_p_kept T).mono (by decide)) hr T.m_p_kept T.f_p_kept.kp T.b_p_kept .nil (fun _ _ => RepVs.nil) (ja_cons (je_var 2) ja_nil) rfl rfl (by decide) rfl rfl (lenA_cons lenA_nil)) ja_nil)) rfl rfl (by decide) rfl rfl (lenA_cons (lenA_cons lenA_nil))) sc_p_holder.nd)) PassesOwn.never rfl)
    (js_one (js_ret (je_var 1)))))
theorem sc_p_has_in_front : FnScope ["leaf", "tree"] ["leaf", "tree"] (defScope s_p_has_in_front) := ⟨rfl, rfl, rfl, by decide +kernel, rfl, by decide +kernel, by decide +kernel⟩
theorem ok_p_has_in_front (T : Txt w K mg base Ad) : FnOk P w K mg base CX0 41 Ad.a_p_has_in_front Ad.d_p_has_in_front ["leaf", "tree"] (spM K 2 F_p_has_in_front) := by
  refine FnOk.imp (fn_ok (m := b_p_has_in_front) T.f_p_has_in_front sc_p_has_in_front fun cdv A outer s H hr => ?_) fun vs H Q E h => sp_gc h
  exact (js_one (js_ret (je_and (je_not (je_isV kit_str (je_var 1) rfl T.z_isinstance rfl T.z_str (by decide +kernel) (by decide +kernel))) (je_one (je_cmp (op_eqV (huL 800 hr (by omega))) (je_ix (je_var 1) je_int) (je_var 0) (nomark _))))))
theorem sc_p_joint_head : FnScope [] [] (defScope s_p_joint_head) := ⟨rfl, rfl, rfl, by decide +kernel, rfl, by decide +kernel, by decide +kernel⟩
theorem ok_p_joint_head (T : Txt w K mg base Ad) : FnOk P w K mg base CX0 52 Ad.a_p_joint_head Ad.d_p_joint_head [] (spM K 0 F_p_joint_head) := by
  refine FnOk.imp (fn_ok (m := b_p_joint_head) T.f_p_joint_head sc_p_joint_head fun cdv A outer s H hr => ?_) fun vs H Q E h => sp_gc h
  exact (js_one (js_ret (je_call ((ok_p_holder T).mono (by decide)) hr T.m_p_holder T.f_p_holder.kp T.b_p_holder .nil (fun _ _ => RepVs.nil) (ja_cons (je_lst (ja_cons (je_call ((ok_p_pick T).mono (by decide)) hr T.m_p_pick T.f_p_pick.kp T.b_p_pick .nil (fun _ _ => RepVs.nil) (ja_cons (je_globI T.v_PICK_OF_JOINT) (ja_cons (je_globI T.v_PICKS) ja_nil)) rfl rfl (by decide) rfl rfl (lenA_cons (lenA_cons lenA_nil))) ja_nil)) ja_nil) rfl rfl (by decide) rfl rfl (lenA_cons lenA_nil))))
theorem sc_p_leaf_texts : FnScope ["texts", "leaf"] [] (defScope s_p_leaf_texts) := ⟨rfl, rfl, rfl, by decide +kernel, rfl, by decide +kernel, by decide +kernel⟩
theorem ok_p_leaf_texts (T : Txt w K mg base Ad) : FnOk P w K mg base CX0 52 Ad.a_p_leaf_texts Ad.d_p_leaf_texts [] (spM K 0 F_p_leaf_texts) := by
  refine FnOk.imp (fn_ok (m := b_p_leaf_texts) T.f_p_leaf_texts sc_p_leaf_texts fun cdv A outer s H hr => ?_) fun vs H Q E h => sp_gc h
  exact (js_cons (js_set 0 je_dictK sc_p_leaf_texts.nd)
    (js_cons (js_for (ji_dc T.v_PICK_OF_LEAF) (jg_name 1 sc_p_leaf_texts.nd) (js_one (js_asg (je_call ((ok_p_holder T).mono (by decide)) hr T.m_p_holder T.f_p_holder.kp T.b_p_holder .nil (fun _ _ => RepVs.nil) (ja_cons (je_lst (ja_cons (je_call ((ok_p_pick T).mono (by decide)) hr T.m_p_pick T.f_p_pick.kp T.b_p_pick .nil (fun _ _ => RepVs.nil) (ja_cons (je_tab T.v_PICK_OF_LEAF (je_var 1)) (ja_cons (je_globI T.v_PICKS) ja_nil)) rfl rfl (by decide) rfl rfl (lenA_cons (lenA_cons lenA_nil))) ja_nil)) ja_nil) rfl rfl (by decide) rfl rfl (lenA_cons lenA_nil)) (jg_sub (set_K (hu_of hr)) (je_var 0) (je_var 1)))) PassesOwn.never rfl)
    (js_one (js_ret (je_var 0)))))
theorem sc_p_text_of : FnScope ["tree", "texts", "head"] ["tree"] (defScope s_p_text_of) := ⟨rfl, rfl, rfl, by decide +kernel, rfl, by decide +kernel, by decide +kernel⟩
theorem ok_p_text_of (T : Txt w K mg base Ad) : FnOk P w K mg base CX0 53 Ad.a_p_text_of Ad.d_p_text_of ["tree"] (spM K 1 F_p_text_of) := by
  refine FnOk.imp (fn_okT (m := b_p_text_of) T.f_p_text_of sc_p_text_of fun cdv A outer s H hr hT => ?_) fun vs H Q E h => sp_gc h
  exact (js_cons (js_set 1 (je_call0 ((ok_p_leaf_texts T).mono (by decide)) hr T.m_p_leaf_texts T.f_p_leaf_texts.kp T.b_p_leaf_texts) sc_p_text_of.nd)
    (js_cons (js_set 2 (je_call0 ((ok_p_joint_head T).mono (by decide)) hr T.m_p_joint_head T.f_p_joint_head.kp T.b_p_joint_head) sc_p_text_of.nd)
    (js_one (js_ret (je_callLm ((ok_p_folded T).mono (by decide)) hr T.m_p_folded T.f_p_folded.kp T.b_p_folded .nil (fun _ _ => RepVs.nil) (jl_cons (je_var 0) (jl_lam (Λ := Lam) (x := "text_of") (j := 2) (k := 2) (cap := [1]) T.hB hT (lamAt_mk (sc0 := defScope s_p_text_of) rfl (by decide +kernel) (by decide +kernel) rfl) rfl rfl rfl rfl rfl (jl_lam (Λ := Lam) (x := "text_of") (j := 3) (k := 2) (cap := [2]) T.hB hT (lamAt_mk (sc0 := defScope s_p_text_of) rfl (by decide +kernel) (by decide +kernel) rfl) rfl rfl rfl rfl rfl jl_nil))) (fun _ => rfl) rfl rfl (by decide) rfl rfl (lenL_cons (lenL_lam (lenL_lam lenL_nil))))))))
theorem sc_p_player : FnScope ["one", "other"] ["one", "other"] (defScope s_p_player) := ⟨rfl, rfl, rfl, by decide +kernel, rfl, by decide +kernel, by decide +kernel⟩
theorem ok_p_player (T : Txt w K mg base Ad) : FnOk P w K mg base CX0 52 Ad.a_p_player Ad.d_p_player ["one", "other"] (spM K 2 F_p_player) := by
  refine FnOk.imp (fn_ok (m := b_p_player) T.f_p_player sc_p_player fun cdv A outer s H hr => ?_) fun vs H Q E h => sp_gc h
  exact (js_one (js_ret (je_call ((ok_p_holder T).mono (by decide)) hr T.m_p_holder T.f_p_holder.kp T.b_p_holder .nil (fun _ _ => RepVs.nil) (ja_cons (je_lst (ja_cons (je_call ((ok_p_holder T).mono (by decide)) hr T.m_p_holder T.f_p_holder.kp T.b_p_holder .nil (fun _ _ => RepVs.nil) (ja_cons (je_lst (ja_cons (je_var 0) (ja_cons (je_var 1) (ja_cons (je_globT T.v_IDENTITY) ja_nil)))) ja_nil) rfl rfl (by decide) rfl rfl (lenA_cons lenA_nil)) ja_nil)) ja_nil) rfl rfl (by decide) rfl rfl (lenA_cons lenA_nil))))
theorem sc_p_player_of_all : FnScope [] [] (defScope s_p_player_of_all) := ⟨rfl, rfl, rfl, by decide +kernel, rfl, by decide +kernel, by decide +kernel⟩
theorem ok_p_player_of_all (T : Txt w K mg base Ad) : FnOk P w K mg base CX0 53 Ad.a_p_player_of_all Ad.d_p_player_of_all [] (spM K 0 F_p_player_of_all) := by
  refine FnOk.imp (fn_ok (m := b_p_player_of_all) T.f_p_player_of_all sc_p_player_of_all fun cdv A outer s H hr => ?_) fun vs H Q E h => sp_gc h
  exact (js_one (js_ret (je_call ((ok_p_player T).mono (by decide)) hr T.m_p_player T.f_p_player.kp T.b_p_player .nil (fun _ _ => RepVs.nil) (ja_cons (je_str [83]) (ja_cons (je_str [75]) ja_nil)) rfl rfl (by decide) rfl rfl (lenA_cons (lenA_cons lenA_nil)))))
theorem sc_p_tree_in_order : FnScope ["order", "told", "leaf", "right", "left"] ["order"] (defScope s_p_tree_in_order) := ⟨rfl, rfl, rfl, by decide +kernel, rfl, by decide +kernel, by decide +kernel⟩
theorem ok_p_tree_in_order (T : Txt w K mg base Ad) : FnOk P w K mg base CX0 44 Ad.a_p_tree_in_order Ad.d_p_tree_in_order ["order"] (spM K 1 F_p_tree_in_order) := by
  refine FnOk.imp (fn_ok (m := b_p_tree_in_order) T.f_p_tree_in_order sc_p_tree_in_order fun cdv A outer s H hr => ?_) fun vs H Q E h => sp_gc h
  exact (js_cons (js_set 1 (je_lst ja_nil) sc_p_tree_in_order.nd)
    (js_cons (js_for (ji_rev (ja_cons (je_var 0) ja_nil) rfl T.z_reversed) (jg_name 2 sc_p_tree_in_order.nd) (js_one (js_if (jt_cmp op_isNoneV (je_var 2) je_non (nomark _)) (js_cons (js_set 3 (je_meth0 PySem.F.plainAttrs_list PySem.F.slot_list_pop PySem.F.type_list_pop mt_popV (je_var 1)) sc_p_tree_in_order.nd)
    (js_cons (js_set 4 (je_meth0 PySem.F.plainAttrs_list PySem.F.slot_list_pop PySem.F.type_list_pop mt_popV (je_var 1)) sc_p_tree_in_order.nd)
    (js_one (js_expr (je_meth PySem.F.plainAttrs_list PySem.F.slot_list_append PySem.F.type_list_append mt_appendV (je_var 1) (ja_cons (je_call ((ok_p_joint T).mono (by decide)) hr T.m_p_joint T.f_p_joint.kp T.b_p_joint .nil (fun _ _ => RepVs.nil) (ja_cons (je_var 4) (ja_cons (je_var 3) ja_nil)) rfl rfl (by decide) rfl rfl (lenA_cons (lenA_cons lenA_nil))) ja_nil)))))) (js_one (js_expr (je_meth PySem.F.plainAttrs_list PySem.F.slot_list_append PySem.F.type_list_append mt_appendV (je_var 1) (ja_cons (je_var 2) ja_nil)))))) PassesOwn.never rfl)
    (js_one (js_ret (je_ix (je_var 1) je_int)))))
theorem sc_p_joint_parts : FnScope ["head", "text", "front"] ["head", "text"] (defScope s_p_joint_parts) := ⟨rfl, rfl, rfl, by decide +kernel, rfl, by decide +kernel, by decide +kernel⟩
theorem ok_p_joint_parts (T : Txt w K mg base Ad) : FnOk P w K mg base CX0 42 Ad.a_p_joint_parts Ad.d_p_joint_parts ["head", "text"] (spM K 2 F_p_joint_parts) := by
  refine FnOk.imp (fn_ok (m := b_p_joint_parts) T.f_p_joint_parts sc_p_joint_parts fun cdv A outer s H hr => ?_) fun vs H Q E h => sp_gc h
  exact (js_cons (js_if (JW.jt (jw_or (jt_truth (je_isV kit_str (je_var 1) rfl T.z_isinstance rfl T.z_str (by decide +kernel) (by decide +kernel))) (jw_or1 (jt_not (jt_truth (je_call ((ok_p_has_in_front T).mono (by decide)) hr T.m_p_has_in_front T.f_p_has_in_front.kp T.b_p_has_in_front .nil (fun _ _ => RepVs.nil) (ja_cons (je_str [83]) (ja_cons (je_ix (je_var 1) je_int) ja_nil)) rfl rfl (by decide) rfl rfl (lenA_cons (lenA_cons lenA_nil)))))))) (js_one (js_ret je_non)) js_nil)
    (js_cons (js_set 2 (je_ix (je_ix (je_var 1) je_int) je_int) sc_p_joint_parts.nd)
    (js_cons (js_if (JW.jt (jw_or (jt_truth (je_isV kit_str (je_var 2) rfl T.z_isinstance rfl T.z_str (by decide +kernel) (by decide +kernel))) (jw_or (jt_not (jt_truth (je_call ((ok_p_has_in_front T).mono (by decide)) hr T.m_p_has_in_front T.f_p_has_in_front.kp T.b_p_has_in_front .nil (fun _ _ => RepVs.nil) (ja_cons (je_str [83]) (ja_cons (je_ix (je_var 2) je_int) ja_nil)) rfl rfl (by decide) rfl rfl (lenA_cons (lenA_cons lenA_nil))))) (jw_or1 (jt_cmp (op_neV (huL 800 hr (by omega))) (je_ix (je_ix (je_var 2) je_int) je_int) (je_var 0) (nomark _)))))) (js_one (js_ret je_non)) js_nil)
    (js_one (js_ret (je_tup (ja_cons (je_ix (je_var 2) je_int) (ja_cons (je_ix (je_var 1) je_int) ja_nil))))))))
theorem sc_p_leaf_told : FnScope ["texts", "text", "leaf"] ["texts", "text"] (defScope s_p_leaf_told) := ⟨rfl, rfl, rfl, by decide +kernel, rfl, by decide +kernel, by decide +kernel⟩
theorem ok_p_leaf_told (T : Txt w K mg base Ad) : FnOk P w K mg base CX0 41 Ad.a_p_leaf_told Ad.d_p_leaf_told ["texts", "text"] (spM K 2 F_p_leaf_told) := by
  refine FnOk.imp (fn_ok (m := b_p_leaf_told) T.f_p_leaf_told sc_p_leaf_told fun cdv A outer s H hr => ?_) fun vs H Q E h => sp_gc h
  exact (js_cons (js_for (ji_dk (je_var 0)) (jg_name 2 sc_p_leaf_told.nd) (js_one (js_if (jt_cmp (op_eqV (huL 800 hr (by omega))) (je_var 1) (je_ixA (hu_of hr) (je_var 0) (je_var 2)) (nomark _)) (js_one (js_ret (je_var 2))) js_nil)) PassesOwn.never rfl)
    (js_one (js_ret je_non)))
theorem sc_p_text_told : FnScope ["tree", "order", "texts", "head", "waiting", "text", "leaf", "parts"] ["tree"] (defScope s_p_text_told) := ⟨rfl, rfl, rfl, by decide +kernel, rfl, by decide +kernel, by decide +kernel⟩
theorem ok_p_text_told (T : Txt w K mg base Ad) : FnOk P w K mg base CX0 53 Ad.a_p_text_told Ad.d_p_text_told ["tree"] (spM K 1 F_p_text_told) := by
  refine FnOk.imp (fn_ok (m := b_p_text_told) T.f_p_text_told sc_p_text_told fun cdv A outer s H hr => ?_) fun vs H Q E h => sp_gc h
  exact (js_cons (js_set 1 (je_lst ja_nil) sc_p_text_told.nd)
    (js_cons (js_set 2 (je_call0 ((ok_p_leaf_texts T).mono (by decide)) hr T.m_p_leaf_texts T.f_p_leaf_texts.kp T.b_p_leaf_texts) sc_p_text_told.nd)
    (js_cons (js_set 3 (je_call0 ((ok_p_joint_head T).mono (by decide)) hr T.m_p_joint_head T.f_p_joint_head.kp T.b_p_joint_head) sc_p_text_told.nd)
    (js_cons (js_set 4 (je_lst (ja_cons (je_var 0) ja_nil)) sc_p_text_told.nd)
    (js_cons (js_whileW (jt_truth (je_var 4)) (js_cons (js_set 5 (je_meth0 PySem.F.plainAttrs_list PySem.F.slot_list_pop PySem.F.type_list_pop mt_popV (je_var 4)) sc_p_text_told.nd)
    (js_cons (js_set 6 (je_call ((ok_p_leaf_told T).mono (by decide)) hr T.m_p_leaf_told T.f_p_leaf_told.kp T.b_p_leaf_told .nil (fun _ _ => RepVs.nil) (ja_cons (je_var 2) (ja_cons (je_var 5) ja_nil)) rfl rfl (by decide) rfl rfl (lenA_cons (lenA_cons lenA_nil))) sc_p_text_told.nd)
    (js_cons (js_expr (je_meth PySem.F.plainAttrs_list PySem.F.slot_list_append PySem.F.type_list_append mt_appendV (je_var 1) (ja_cons (je_var 6) ja_nil)))
    (js_one (js_if (jt_cmp op_isNoneV (je_var 6) je_non (nomark _)) (js_cons (js_set 7 (je_call ((ok_p_joint_parts T).mono (by decide)) hr T.m_p_joint_parts T.f_p_joint_parts.kp T.b_p_joint_parts .nil (fun _ _ => RepVs.nil) (ja_cons (je_var 3) (ja_cons (je_var 5) ja_nil)) rfl rfl (by decide) rfl rfl (lenA_cons (lenA_cons lenA_nil))) sc_p_text_told.nd)
    (js_cons (js_if (jt_cmp op_isNoneV (je_var 7) je_non (nomark _)) (js_one (js_ret je_non)) js_nil)
    (js_one (js_expr (je_meth PySem.F.plainAttrs_list PySem.F.slot_list_extend PySem.F.type_list_extend mt_extendT (je_var 4) (ja_cons (je_var 7) ja_nil)))))) js_nil))))) PassesOwn.never)
    (js_one (js_ret (je_call ((ok_p_tree_in_order T).mono (by decide)) hr T.m_p_tree_in_order T.f_p_tree_in_order.kp T.b_p_tree_in_order .nil (fun _ _ => RepVs.nil) (ja_cons (je_var 1) ja_nil) rfl rfl (by decide) rfl rfl (lenA_cons lenA_nil)))))))))
theorem sc_l_cell_at : FnScope ["_law_script", "_law_k"] ["_law_script", "_law_k"] (defScope s_l_cell_at) := ⟨rfl, rfl, rfl, by decide +kernel, rfl, by decide +kernel, by decide +kernel⟩
theorem ok_l_cell_at (T : Txt w K mg base Ad) : FnOk P w K mg base CX0 41 Ad.a_l_cell_at Ad.d_l_cell_at ["_law_script", "_law_k"] (spM K 2 F_l_cell_at) := by
  refine FnOk.imp (fn_ok (m := b_l_cell_at) T.f_l_cell_at sc_l_cell_at fun cdv A outer s H hr => ?_) fun vs H Q E h => sp_gc h
  exact (js_cons (js_if (jt_cmp op_ltV (je_var 1) (je_callB call_lenV rfl T.z_len (by decide +kernel) (ja_cons (je_var 0) ja_nil)) (nomark _)) (js_one (js_ret (je_ix (je_var 0) (je_var 1)))) js_nil)
    (js_one (js_ret je_int)))
theorem sc_l_draws : FnScope ["_law_script", "_law_at", "_law_many", "_law_base", "_law_way", "_law_cell", "_law_draws_here", "_law_k", "_law_state"] ["_law_script", "_law_at", "_law_many", "_law_base"] (defScope s_l_draws) := ⟨rfl, rfl, rfl, by decide +kernel, rfl, by decide +kernel, by decide +kernel⟩
theorem ok_l_draws (T : Txt w K mg base Ad) : FnOk P w K mg base CX0 42 Ad.a_l_draws Ad.d_l_draws ["_law_script", "_law_at", "_law_many", "_law_base"] (spM K 4 F_l_draws) := by
  refine FnOk.imp (fn_ok (m := b_l_draws) T.f_l_draws sc_l_draws fun cdv A outer s H hr => ?_) fun vs H Q E h => sp_gc h
  exact (js_cons (js_set 4 (je_op op_modV (je_op op_modV (je_op op_addV (je_op op_mulV (je_call ((ok_l_cell_at T).mono (by decide)) hr T.m_l_cell_at T.f_l_cell_at.kp T.b_l_cell_at .nil (fun _ _ => RepVs.nil) (ja_cons (je_var 0) (ja_cons je_int ja_nil)) rfl rfl (by decide) rfl rfl (lenA_cons (lenA_cons lenA_nil))) je_int) je_int) je_int) je_int) sc_l_draws.nd)
    (js_cons (js_if (jt_cmp (op_eqV (huL 800 hr (by omega))) (je_var 4) je_int (nomark _)) (js_one (js_ret (je_slice (je_var 0) (jp_some (je_var 1)) (jp_some (je_op op_addV (je_var 1) (je_var 2)))))) js_nil)
    (js_cons (js_set 5 (je_call ((ok_l_cell_at T).mono (by decide)) hr T.m_l_cell_at T.f_l_cell_at.kp T.b_l_cell_at .nil (fun _ _ => RepVs.nil) (ja_cons (je_var 0) (ja_cons (je_var 1) ja_nil)) rfl rfl (by decide) rfl rfl (lenA_cons (lenA_cons lenA_nil))) sc_l_draws.nd)
    (js_cons (js_set 6 (je_lst ja_nil) sc_l_draws.nd)
    (js_cons (js_if (jt_cmp (op_eqV (huL 800 hr (by omega))) (je_var 4) je_int (nomark _)) (js_cons (js_for (ji_range1 (ja_cons (je_var 2) ja_nil) rfl T.z_range) (jg_name 7 sc_l_draws.nd) (js_cons (js_expr (je_meth PySem.F.plainAttrs_list PySem.F.slot_list_append PySem.F.type_list_append mt_appendV (je_var 6) (ja_cons (je_op op_modV (je_var 5) (je_var 3)) ja_nil)))
    (js_one (js_set 5 (je_op op_fdivV (je_var 5) (je_var 3)) sc_l_draws.nd))) PassesOwn.never rfl)
    (js_one (js_ret (je_var 6)))) js_nil)
    (js_cons (js_set 8 (je_op op_modV (je_var 5) je_int) sc_l_draws.nd)
    (js_cons (js_for (ji_range1 (ja_cons (je_op op_addV je_int (je_op op_modV (je_var 5) (je_var 2))) ja_nil) rfl T.z_range) (jg_name 7 sc_l_draws.nd) (js_cons (js_set 8 (je_op op_modV (je_op op_addV (je_op op_addV (je_op op_mulV (je_var 8) je_int) je_int) (je_var 7)) je_int) sc_l_draws.nd)
    (js_one (js_expr (je_meth PySem.F.plainAttrs_list PySem.F.slot_list_append PySem.F.type_list_append mt_appendV (je_var 6) (ja_cons (je_op op_modV (je_op op_mulV (je_op op_fdivV (je_var 8) je_int) je_int) je_int) ja_nil))))) PassesOwn.never rfl)
    (js_one (js_ret (je_var 6))))))))))
theorem sc_l_tree : FnScope ["_law_cells", "_law_stack", "_law_cell", "_law_right"] ["_law_cells"] (defScope s_l_tree) := ⟨rfl, rfl, rfl, by decide +kernel, rfl, by decide +kernel, by decide +kernel⟩
theorem ok_l_tree (T : Txt w K mg base Ad) : FnOk P w K mg base CX0 44 Ad.a_l_tree Ad.d_l_tree ["_law_cells"] (spM K 1 F_l_tree) := by
  refine FnOk.imp (fn_ok (m := b_l_tree) T.f_l_tree sc_l_tree fun cdv A outer s H hr => ?_) fun vs H Q E h => sp_gc h
  exact (js_cons (js_set 1 (je_lst ja_nil) sc_l_tree.nd)
    (js_cons (js_for (ji_seq (je_var 0)) (jg_name 2 sc_l_tree.nd) (js_one (js_if (JW.jt (jw_and (jt_cmp op_ltV (je_op op_modV (je_var 2) je_int) je_int (nomark _)) (jw_and1 (jt_cmp op_gtV (je_callB call_lenV rfl T.z_len (by decide +kernel) (ja_cons (je_var 1) ja_nil)) je_int (nomark _))))) (js_cons (js_set 3 (je_meth0 PySem.F.plainAttrs_list PySem.F.slot_list_pop PySem.F.type_list_pop mt_popV (je_var 1)) sc_l_tree.nd)
    (js_one (js_expr (je_meth PySem.F.plainAttrs_list PySem.F.slot_list_append PySem.F.type_list_append mt_appendV (je_var 1) (ja_cons (je_call ((ok_p_joint T).mono (by decide)) hr T.m_p_joint T.f_p_joint.kp T.b_p_joint .nil (fun _ _ => RepVs.nil) (ja_cons (je_meth0 PySem.F.plainAttrs_list PySem.F.slot_list_pop PySem.F.type_list_pop mt_popV (je_var 1)) (ja_cons (je_var 3) ja_nil)) rfl rfl (by decide) rfl rfl (lenA_cons (lenA_cons lenA_nil))) ja_nil))))) (js_one (js_if (jt_cmp op_ltV (je_callB call_lenV rfl T.z_len (by decide +kernel) (ja_cons (je_var 1) ja_nil)) je_int (nomark _)) (js_one (js_expr (je_meth PySem.F.plainAttrs_list PySem.F.slot_list_append PySem.F.type_list_append mt_appendV (je_var 1) (ja_cons (je_ix (je_str [83, 75]) (je_op op_modV (je_op op_fdivV (je_var 2) je_int) je_int)) ja_nil)))) js_nil)))) PassesOwn.never rfl)
    (js_cons (js_if (jt_cmp (op_eqV (huL 800 hr (by omega))) (je_var 1) (je_lst ja_nil) (nomark _)) (js_one (js_expr (je_meth PySem.F.plainAttrs_list PySem.F.slot_list_append PySem.F.type_list_append mt_appendV (je_var 1) (ja_cons (je_str [75]) ja_nil)))) js_nil)
    (js_cons (js_whileW (jt_cmp op_gtV (je_callB call_lenV rfl T.z_len (by decide +kernel) (ja_cons (je_var 1) ja_nil)) je_int (nomark _)) (js_cons (js_set 3 (je_meth0 PySem.F.plainAttrs_list PySem.F.slot_list_pop PySem.F.type_list_pop mt_popV (je_var 1)) sc_l_tree.nd)
    (js_one (js_expr (je_meth PySem.F.plainAttrs_list PySem.F.slot_list_append PySem.F.type_list_append mt_appendV (je_var 1) (ja_cons (je_call ((ok_p_joint T).mono (by decide)) hr T.m_p_joint T.f_p_joint.kp T.b_p_joint .nil (fun _ _ => RepVs.nil) (ja_cons (je_meth0 PySem.F.plainAttrs_list PySem.F.slot_list_pop PySem.F.type_list_pop mt_popV (je_var 1)) (ja_cons (je_var 3) ja_nil)) rfl rfl (by decide) rfl rfl (lenA_cons (lenA_cons lenA_nil))) ja_nil))))) PassesOwn.never)
    (js_one (js_ret (je_ix (je_var 1) je_int)))))))
theorem sc_l_few : FnScope ["_law_cells", "_law_tree_here"] ["_law_cells"] (defScope s_l_few) := ⟨rfl, rfl, rfl, by decide +kernel, rfl, by decide +kernel, by decide +kernel⟩
theorem ok_l_few (T : Txt w K mg base Ad) : FnOk P w K mg base CX0 45 Ad.a_l_few Ad.d_l_few ["_law_cells"] (spM K 1 F_l_few) := by
  refine FnOk.imp (fn_ok (m := b_l_few) T.f_l_few sc_l_few fun cdv A outer s H hr => ?_) fun vs H Q E h => sp_gc h
  exact (js_cons (js_set 1 (je_call ((ok_l_tree T).mono (by decide)) hr T.m_l_tree T.f_l_tree.kp T.b_l_tree .nil (fun _ _ => RepVs.nil) (ja_cons (je_var 0) ja_nil) rfl rfl (by decide) rfl rfl (lenA_cons lenA_nil)) sc_l_few.nd)
    (js_cons (js_whileW (jt_cmp op_gtV (je_call ((ok_p_leaves T).mono (by decide)) hr T.m_p_leaves T.f_p_leaves.kp T.b_p_leaves .nil (fun _ _ => RepVs.nil) (ja_cons (je_var 1) ja_nil) rfl rfl (by decide) rfl rfl (lenA_cons lenA_nil)) je_int (nomark _)) (js_one (js_set 1 (je_ix (je_var 1) je_int) sc_l_few.nd)) PassesOwn.never)
    (js_one (js_ret (je_var 1)))))
theorem sc_l_cost : FnScope ["_law_tree_here"] ["_law_tree_here"] (defScope s_l_cost) := ⟨rfl, rfl, rfl, by decide +kernel, rfl, by decide +kernel, by decide +kernel⟩
theorem ok_l_cost (T : Txt w K mg base Ad) : ∀ n : Nat, FnOk P w K mg base CX0 (41 + n) Ad.a_l_cost Ad.d_l_cost ["_law_tree_here"] (spM K 1 (F_l_cost n))
  | 0 => FnOk.never
  | n + 1 => by
    have IH := ok_l_cost T n
    refine FnOk.imp (fn_ok (k := 41 + n) (m := b_l_cost (F_l_cost n)) T.f_l_cost sc_l_cost fun cdv A outer s H hr => ?_) fun vs H Q E h => sp_gc h
    exact (js_cons (js_if (jt_truth (je_isV kit_str (je_var 0) rfl T.z_isinstance rfl T.z_str (by decide +kernel) (by decide +kernel))) (js_one (js_ret (je_ix (je_lst (ja_cons je_int (ja_cons je_int ja_nil))) (je_callTy call_intC rfl T.z_int (by decide +kernel) (ja_cons (je_cmp (op_eqV (huL 800 hr (by omega))) (je_var 0) (je_str [75]) (nomark _)) ja_nil))))) js_nil)
    (js_one (js_ret (je_op op_addV (je_op op_addV je_int (je_call IH hr T.m_l_cost T.f_l_cost.kp T.b_l_cost .nil (fun _ _ => RepVs.nil) (ja_cons (je_ix (je_var 0) je_int) ja_nil) rfl rfl (by decide) rfl rfl (lenA_cons lenA_nil))) (je_call IH hr T.m_l_cost T.f_l_cost.kp T.b_l_cost .nil (fun _ _ => RepVs.nil) (ja_cons (je_ix (je_var 0) je_int) ja_nil) rfl rfl (by decide) rfl rfl (lenA_cons lenA_nil))))))
theorem sc_p_law : FnScope ["_law_script", "_law_tree_here", "_law_plays", "_law_first", "_law_second", "_law_most", "_law_cost_here", "_law_due", "_law_found"] ["_law_script"] (defScope s_p_law) := ⟨rfl, rfl, rfl, by decide +kernel, rfl, by decide +kernel, by decide +kernel⟩
theorem ok_p_law (T : Txt w K mg base Ad) : FnOk P w K mg base CX0 102 Ad.a_p_law Ad.d_p_law ["_law_script"] (spM K 1 F_p_law) := by
  refine FnOk.imp (fn_ok (m := b_p_law) T.f_p_law sc_p_law fun cdv A outer s H hr => ?_) fun vs H Q E h => sp_gc h
  exact (js_cons (js_set 1 (je_call ((ok_l_few T).mono (by decide)) hr T.m_l_few T.f_l_few.kp T.b_l_few .nil (fun _ _ => RepVs.nil) (ja_cons (je_call ((ok_l_draws T).mono (by decide)) hr T.m_l_draws T.f_l_draws.kp T.b_l_draws .nil (fun _ _ => RepVs.nil) (ja_cons (je_var 0) (ja_cons je_int (ja_cons je_int (ja_cons je_int ja_nil)))) rfl rfl (by decide) rfl rfl (lenA_cons (lenA_cons (lenA_cons (lenA_cons lenA_nil))))) ja_nil) rfl rfl (by decide) rfl rfl (lenA_cons lenA_nil)) sc_p_law.nd)
    (js_cons (js_set 2 (je_call0 ((ok_p_player_of_all T).mono (by decide)) hr T.m_p_player_of_all T.f_p_player_of_all.kp T.b_p_player_of_all) sc_p_law.nd)
    (js_cons (js_set 3 (je_call ((ok_p_joint T).mono (by decide)) hr T.m_p_joint T.f_p_joint.kp T.b_p_joint .nil (fun _ _ => RepVs.nil) (ja_cons (je_var 2) (ja_cons (je_call ((ok_p_text_of T).mono (by decide)) hr T.m_p_text_of T.f_p_text_of.kp T.b_p_text_of .nil (fun _ _ => RepVs.nil) (ja_cons (je_var 1) ja_nil) rfl rfl (by decide) rfl rfl (lenA_cons lenA_nil)) ja_nil)) rfl rfl (by decide) rfl rfl (lenA_cons (lenA_cons lenA_nil))) sc_p_law.nd)
    (js_cons (js_set 4 (je_call ((ok_p_text_of T).mono (by decide)) hr T.m_p_text_of T.f_p_text_of.kp T.b_p_text_of .nil (fun _ _ => RepVs.nil) (ja_cons (je_var 3) ja_nil) rfl rfl (by decide) rfl rfl (lenA_cons lenA_nil)) sc_p_law.nd)
    (js_cons (js_if (JW.jt (jw_or (jt_not (jt_truth (je_call ((ok_p_is_value T).mono (by decide)) hr T.m_p_is_value T.f_p_is_value.kp T.b_p_is_value .nil (fun _ _ => RepVs.nil) (ja_cons (je_var 2) ja_nil) rfl rfl (by decide) rfl rfl (lenA_cons lenA_nil)))) (jw_or (jt_not (jt_truth (je_call ((ok_p_is_value T).mono (by decide)) hr T.m_p_is_value T.f_p_is_value.kp T.b_p_is_value .nil (fun _ _ => RepVs.nil) (ja_cons (je_var 4) ja_nil) rfl rfl (by decide) rfl rfl (lenA_cons lenA_nil)))) (jw_or1 (jt_cmp (op_neV (huL 800 hr (by omega))) (je_call ((ok_p_text_told T).mono (by decide)) hr T.m_p_text_told T.f_p_text_told.kp T.b_p_text_told .nil (fun _ _ => RepVs.nil) (ja_cons (je_var 4) ja_nil) rfl rfl (by decide) rfl rfl (lenA_cons lenA_nil)) (je_var 3) (nomark _)))))) (js_one (js_ret je_bl)) js_nil)
    (js_cons (js_set 5 (je_op op_modV (je_call ((ok_l_cell_at T).mono (by decide)) hr T.m_l_cell_at T.f_l_cell_at.kp T.b_l_cell_at .nil (fun _ _ => RepVs.nil) (ja_cons (je_var 0) (ja_cons je_int ja_nil)) rfl rfl (by decide) rfl rfl (lenA_cons (lenA_cons lenA_nil))) je_int) sc_p_law.nd)
    (js_cons (js_set 6 (je_op op_addV (je_op op_addV je_int (je_call ((ok_l_cost T 60).mono (by decide)) hr T.m_l_cost T.f_l_cost.kp T.b_l_cost .nil (fun _ _ => RepVs.nil) (ja_cons (je_var 1) ja_nil) rfl rfl (by decide) rfl rfl (lenA_cons lenA_nil))) (je_call ((ok_l_cost T 60).mono (by decide)) hr T.m_l_cost T.f_l_cost.kp T.b_l_cost .nil (fun _ _ => RepVs.nil) (ja_cons (je_var 3) ja_nil) rfl rfl (by decide) rfl rfl (lenA_cons lenA_nil))) sc_p_law.nd)
    (js_cons (js_set 7 (je_call ((ok_p_tree_run T).mono (by decide)) hr T.m_p_tree_run T.f_p_tree_run.kp T.b_p_tree_run .nil (fun _ _ => RepVs.nil) (ja_cons (je_var 1) (ja_cons (je_var 5) ja_nil)) rfl rfl (by decide) rfl rfl (lenA_cons (lenA_cons lenA_nil))) sc_p_law.nd)
    (js_cons (js_set 8 (je_call ((ok_p_tree_run T).mono (by decide)) hr T.m_p_tree_run T.f_p_tree_run.kp T.b_p_tree_run .nil (fun _ _ => RepVs.nil) (ja_cons (je_call ((ok_p_joint T).mono (by decide)) hr T.m_p_joint T.f_p_joint.kp T.b_p_joint .nil (fun _ _ => RepVs.nil) (ja_cons (je_var 2) (ja_cons (je_var 4) ja_nil)) rfl rfl (by decide) rfl rfl (lenA_cons (lenA_cons lenA_nil))) (ja_cons (je_op op_addV (je_var 5) (je_var 6)) ja_nil)) rfl rfl (by decide) rfl rfl (lenA_cons (lenA_cons lenA_nil))) sc_p_law.nd)
    (js_cons (js_if (jt_cmp (op_eqV (huL 800 hr (by omega))) (je_ix (je_var 7) je_int) (je_str [111, 110]) (nomark _)) (js_one (js_ret (je_and (je_cmp (op_eqV (huL 800 hr (by omega))) (je_ix (je_var 8) je_int) (je_str [111, 110]) (nomark _)) (je_one (je_cmp (op_eqV (huL 800 hr (by omega))) (je_ix (je_var 8) je_int) (je_op op_addV (je_var 5) (je_var 6)) (nomark _)))))) js_nil)
    (js_one (js_ret (je_and (je_cmp (op_eqV (huL 800 hr (by omega))) (je_ix (je_var 8) je_int) (je_str [118, 97, 108, 117, 101]) (nomark _)) (je_and (je_cmp (op_eqV (huL 800 hr (by omega))) (je_ix (je_var 8) je_int) (je_ix (je_var 7) je_int) (nomark _)) (je_one (je_cmp (op_eqV (huL 800 hr (by omega))) (je_ix (je_var 8) je_int) (je_op op_addV (je_ix (je_var 7) je_int) (je_var 6)) (nomark _)))))))))))))))))
end
theorem all_mk {l : PySem.W.OpenLaw} {w : World} {K : PySem.W.Frag} {h : Heap} {mg : Str → Option Value} {fa f0 f1 f2 f3 f4 f5 f6 f7 f8 f9 f10 f11 f12 f13 f14 f15 f16 f17 f18 f19 f20 f21 f22 f23 f24 f25 f26 f27 f28 f29 f30 f31 f32 f33 : Addr} (X : K.In h) (G : h.Ns mainGlobals mg) (hfa : mg "law" = some (.ref fa))
    {od0 an0 : Option Addr} {sl0 : Array (Option Value)} {oc0 kV0 dc0 pm0 cd0 ct0 : Value}
    {od1 an1 : Option Addr} {sl1 : Array (Option Value)} {oc1 kV1 dc1 pm1 cd1 ct1 : Value}
    {od2 an2 : Option Addr} {sl2 : Array (Option Value)} {oc2 kV2 dc2 pm2 cd2 ct2 : Value}
    {od3 an3 : Option Addr} {sl3 : Array (Option Value)} {oc3 kV3 dc3 pm3 cd3 ct3 : Value}
    {od4 an4 : Option Addr} {sl4 : Array (Option Value)} {oc4 kV4 dc4 pm4 cd4 ct4 : Value}
    {od5 an5 : Option Addr} {sl5 : Array (Option Value)} {oc5 kV5 dc5 pm5 cd5 ct5 : Value}
    {od6 an6 : Option Addr} {sl6 : Array (Option Value)} {oc6 kV6 dc6 pm6 cd6 ct6 : Value}
    {od7 an7 : Option Addr} {sl7 : Array (Option Value)} {oc7 kV7 dc7 pm7 cd7 ct7 : Value}
    {od8 an8 : Option Addr} {sl8 : Array (Option Value)} {oc8 kV8 dc8 pm8 cd8 ct8 : Value}
    {od9 an9 : Option Addr} {sl9 : Array (Option Value)} {oc9 kV9 dc9 pm9 ct9 : Value}
    {od10 an10 : Option Addr} {sl10 : Array (Option Value)} {oc10 kV10 dc10 pm10 cd10 ct10 : Value}
    {od11 an11 : Option Addr} {sl11 : Array (Option Value)} {oc11 kV11 dc11 pm11 cd11 ct11 : Value}
    {od12 an12 : Option Addr} {sl12 : Array (Option Value)} {oc12 kV12 dc12 pm12 cd12 ct12 : Value}
    {od13 an13 : Option Addr} {sl13 : Array (Option Value)} {oc13 kV13 dc13 pm13 cd13 ct13 : Value}
    {od14 an14 : Option Addr} {sl14 : Array (Option Value)} {oc14 kV14 dc14 pm14 cd14 ct14 : Value}
    {od15 an15 : Option Addr} {sl15 : Array (Option Value)} {oc15 kV15 dc15 pm15 cd15 ct15 : Value}
    {od16 an16 : Option Addr} {sl16 : Array (Option Value)} {oc16 kV16 dc16 pm16 cd16 ct16 : Value}
    {od17 an17 : Option Addr} {sl17 : Array (Option Value)} {oc17 kV17 dc17 pm17 cd17 ct17 : Value}
    {od18 an18 : Option Addr} {sl18 : Array (Option Value)} {oc18 kV18 dc18 pm18 ct18 : Value}
    {od19 an19 : Option Addr} {sl19 : Array (Option Value)} {oc19 kV19 dc19 pm19 cd19 ct19 : Value}
    {od20 an20 : Option Addr} {sl20 : Array (Option Value)} {oc20 kV20 dc20 pm20 cd20 ct20 : Value}
    {od21 an21 : Option Addr} {sl21 : Array (Option Value)} {oc21 kV21 dc21 pm21 cd21 ct21 : Value}
    {od22 an22 : Option Addr} {sl22 : Array (Option Value)} {oc22 kV22 dc22 pm22 cd22 ct22 : Value}
    {od23 an23 : Option Addr} {sl23 : Array (Option Value)} {oc23 kV23 dc23 pm23 cd23 ct23 : Value}
    {od24 an24 : Option Addr} {sl24 : Array (Option Value)} {oc24 kV24 dc24 pm24 cd24 ct24 : Value}
    {od25 an25 : Option Addr} {sl25 : Array (Option Value)} {oc25 kV25 dc25 pm25 cd25 ct25 : Value}
    {od26 an26 : Option Addr} {sl26 : Array (Option Value)} {oc26 kV26 dc26 pm26 cd26 ct26 : Value}
    {od27 an27 : Option Addr} {sl27 : Array (Option Value)} {oc27 kV27 dc27 pm27 cd27 ct27 : Value}
    {od28 an28 : Option Addr} {sl28 : Array (Option Value)} {oc28 kV28 dc28 pm28 cd28 ct28 : Value}
    {od29 an29 : Option Addr} {sl29 : Array (Option Value)} {oc29 kV29 dc29 pm29 cd29 ct29 : Value}
    {od30 an30 : Option Addr} {sl30 : Array (Option Value)} {oc30 kV30 dc30 pm30 cd30 ct30 : Value}
    {od31 an31 : Option Addr} {sl31 : Array (Option Value)} {oc31 kV31 dc31 pm31 cd31 ct31 : Value}
    {od32 an32 : Option Addr} {sl32 : Array (Option Value)} {oc32 kV32 dc32 pm32 cd32 ct32 : Value}
    {od33 an33 : Option Addr} {sl33 : Array (Option Value)} {oc33 kV33 dc33 pm33 cd33 ct33 : Value}
    (a0 : PySem.W.nsIn K mainGlobals "joint" = some (some (.ref f0))) (l0 : K.lookup f0 = some ⟨oc0, od0, .func (PySem.W.fnOf "joint" "joint" (defArgs s_p_joint) (defBody s_p_joint) (defScope s_p_joint) .none kV0 dc0 pm0 an0 cd0 ct0), sl0⟩) (c0 : PySem.W.codeIn K cd0 "joint" = true) (k0 : PySem.W.keepIn K (.ref f0) = true)
    (a1 : PySem.W.nsIn K mainGlobals "is_done" = some (some (.ref f1))) (l1 : K.lookup f1 = some ⟨oc1, od1, .func (PySem.W.fnOf "is_done" "is_done" (defArgs s_p_is_done) (defBody s_p_is_done) (defScope s_p_is_done) .none kV1 dc1 pm1 an1 cd1 ct1), sl1⟩) (c1 : PySem.W.codeIn K cd1 "is_done" = true) (k1 : PySem.W.keepIn K (.ref f1) = true)
    (a2 : PySem.W.nsIn K mainGlobals "leaves" = some (some (.ref f2))) (l2 : K.lookup f2 = some ⟨oc2, od2, .func (PySem.W.fnOf "leaves" "leaves" (defArgs s_p_leaves) (defBody s_p_leaves) (defScope s_p_leaves) .none kV2 dc2 pm2 an2 cd2 ct2), sl2⟩) (c2 : PySem.W.codeIn K cd2 "leaves" = true) (k2 : PySem.W.keepIn K (.ref f2) = true)
    (a3 : PySem.W.nsIn K mainGlobals "is_value" = some (some (.ref f3))) (l3 : K.lookup f3 = some ⟨oc3, od3, .func (PySem.W.fnOf "is_value" "is_value" (defArgs s_p_is_value) (defBody s_p_is_value) (defScope s_p_is_value) .none kV3 dc3 pm3 an3 cd3 ct3), sl3⟩) (c3 : PySem.W.codeIn K cd3 "is_value" = true) (k3 : PySem.W.keepIn K (.ref f3) = true)
    {dT4 : Addr} {doc4 : Value} {dod4 : Option Addr} {dn4 : Nat} {dtk4 : Tok} {dsl4 : Array (Option Value)}
    (a4 : PySem.W.nsIn K mainGlobals "tree_run" = some (some (.ref f4))) (l4 : K.lookup f4 = some ⟨oc4, od4, .func (PySem.W.fnOf "tree_run" "tree_run" (defArgs s_p_tree_run) (defBody s_p_tree_run) (defScope s_p_tree_run) (.ref dT4) kV4 dc4 pm4 an4 cd4 ct4), sl4⟩) (c4 : PySem.W.codeIn K cd4 "tree_run" = true) (k4 : PySem.W.keepIn K (.ref f4) = true) (ld4 : K.lookup dT4 = some ⟨doc4, dod4, .seq #[.int 1000 dtk4] dn4, dsl4⟩)
    (a5 : PySem.W.nsIn K mainGlobals "joined" = some (some (.ref f5))) (l5 : K.lookup f5 = some ⟨oc5, od5, .func (PySem.W.fnOf "joined" "joined" (defArgs s_p_joined) (defBody s_p_joined) (defScope s_p_joined) .none kV5 dc5 pm5 an5 cd5 ct5), sl5⟩) (c5 : PySem.W.codeIn K cd5 "joined" = true) (k5 : PySem.W.keepIn K (.ref f5) = true)
    (a6 : PySem.W.nsIn K mainGlobals "changed" = some (some (.ref f6))) (l6 : K.lookup f6 = some ⟨oc6, od6, .func (PySem.W.fnOf "changed" "changed" (defArgs s_p_changed) (defBody s_p_changed) (defScope s_p_changed) .none kV6 dc6 pm6 an6 cd6 ct6), sl6⟩) (c6 : PySem.W.codeIn K cd6 "changed" = true) (k6 : PySem.W.keepIn K (.ref f6) = true)
    (a7 : PySem.W.nsIn K mainGlobals "folded" = some (some (.ref f7))) (l7 : K.lookup f7 = some ⟨oc7, od7, .func (PySem.W.fnOf "folded" "folded" (defArgs s_p_folded) (defBody s_p_folded) (defScope s_p_folded) .none kV7 dc7 pm7 an7 cd7 ct7), sl7⟩) (c7 : PySem.W.codeIn K cd7 "folded" = true) (k7 : PySem.W.keepIn K (.ref f7) = true)
    (a8 : PySem.W.nsIn K mainGlobals "taken_out" = some (some (.ref f8))) (l8 : K.lookup f8 = some ⟨oc8, od8, .func (PySem.W.fnOf "taken_out" "taken_out" (defArgs s_p_taken_out) (defBody s_p_taken_out) (defScope s_p_taken_out) .none kV8 dc8 pm8 an8 cd8 ct8), sl8⟩) (c8 : PySem.W.codeIn K cd8 "taken_out" = true) (k8 : PySem.W.keepIn K (.ref f8) = true)
    {q9 : Addr}
    (a9 : PySem.W.nsIn K mainGlobals "out_and_cost" = some (some (.ref f9))) (l9 : K.lookup f9 = some ⟨oc9, od9, .func (PySem.W.fnOf "out_and_cost" "out_and_cost" (defArgs s_p_out_and_cost) (defBody s_p_out_and_cost) (defScope s_p_out_and_cost) .none kV9 dc9 pm9 an9 (.ref q9) ct9), sl9⟩) (c9 : PySem.W.codeIn K (.ref q9) "out_and_cost" = true) (k9 : PySem.W.keepIn K (.ref f9) = true) (h9 : PySem.W.codeHdIn K q9 82 = true) (n9 : K.lookup 82 = none)
    (a10 : PySem.W.nsIn K mainGlobals "leaf_taken" = some (some (.ref f10))) (l10 : K.lookup f10 = some ⟨oc10, od10, .func (PySem.W.fnOf "leaf_taken" "leaf_taken" (defArgs s_p_leaf_taken) (defBody s_p_leaf_taken) (defScope s_p_leaf_taken) .none kV10 dc10 pm10 an10 cd10 ct10), sl10⟩) (c10 : PySem.W.codeIn K cd10 "leaf_taken" = true) (k10 : PySem.W.keepIn K (.ref f10) = true)
    (a11 : PySem.W.nsIn K mainGlobals "joint_taken" = some (some (.ref f11))) (l11 : K.lookup f11 = some ⟨oc11, od11, .func (PySem.W.fnOf "joint_taken" "joint_taken" (defArgs s_p_joint_taken) (defBody s_p_joint_taken) (defScope s_p_joint_taken) .none kV11 dc11 pm11 an11 cd11 ct11), sl11⟩) (c11 : PySem.W.codeIn K cd11 "joint_taken" = true) (k11 : PySem.W.keepIn K (.ref f11) = true)
    (a12 : PySem.W.nsIn K mainGlobals "or_constant" = some (some (.ref f12))) (l12 : K.lookup f12 = some ⟨oc12, od12, .func (PySem.W.fnOf "or_constant" "or_constant" (defArgs s_p_or_constant) (defBody s_p_or_constant) (defScope s_p_or_constant) .none kV12 dc12 pm12 an12 cd12 ct12), sl12⟩) (c12 : PySem.W.codeIn K cd12 "or_constant" = true) (k12 : PySem.W.keepIn K (.ref f12) = true)
    (a13 : PySem.W.nsIn K mainGlobals "pick" = some (some (.ref f13))) (l13 : K.lookup f13 = some ⟨oc13, od13, .func (PySem.W.fnOf "pick" "pick" (defArgs s_p_pick) (defBody s_p_pick) (defScope s_p_pick) .none kV13 dc13 pm13 an13 cd13 ct13), sl13⟩) (c13 : PySem.W.codeIn K cd13 "pick" = true) (k13 : PySem.W.keepIn K (.ref f13) = true)
    (a14 : PySem.W.nsIn K mainGlobals "unasked" = some (some (.ref f14))) (l14 : K.lookup f14 = some ⟨oc14, od14, .func (PySem.W.fnOf "unasked" "unasked" (defArgs s_p_unasked) (defBody s_p_unasked) (defScope s_p_unasked) .none kV14 dc14 pm14 an14 cd14 ct14), sl14⟩) (c14 : PySem.W.codeIn K cd14 "unasked" = true) (k14 : PySem.W.keepIn K (.ref f14) = true)
    (a15 : PySem.W.nsIn K mainGlobals "holder" = some (some (.ref f15))) (l15 : K.lookup f15 = some ⟨oc15, od15, .func (PySem.W.fnOf "holder" "holder" (defArgs s_p_holder) (defBody s_p_holder) (defScope s_p_holder) .none kV15 dc15 pm15 an15 cd15 ct15), sl15⟩) (c15 : PySem.W.codeIn K cd15 "holder" = true) (k15 : PySem.W.keepIn K (.ref f15) = true)
    (a16 : PySem.W.nsIn K mainGlobals "kept" = some (some (.ref f16))) (l16 : K.lookup f16 = some ⟨oc16, od16, .func (PySem.W.fnOf "kept" "kept" (defArgs s_p_kept) (defBody s_p_kept) (defScope s_p_kept) .none kV16 dc16 pm16 an16 cd16 ct16), sl16⟩) (c16 : PySem.W.codeIn K cd16 "kept" = true) (k16 : PySem.W.keepIn K (.ref f16) = true)
    (a17 : PySem.W.nsIn K mainGlobals "has_in_front" = some (some (.ref f17))) (l17 : K.lookup f17 = some ⟨oc17, od17, .func (PySem.W.fnOf "has_in_front" "has_in_front" (defArgs s_p_has_in_front) (defBody s_p_has_in_front) (defScope s_p_has_in_front) .none kV17 dc17 pm17 an17 cd17 ct17), sl17⟩) (c17 : PySem.W.codeIn K cd17 "has_in_front" = true) (k17 : PySem.W.keepIn K (.ref f17) = true)
    {q18 : Addr}
    (a18 : PySem.W.nsIn K mainGlobals "text_of" = some (some (.ref f18))) (l18 : K.lookup f18 = some ⟨oc18, od18, .func (PySem.W.fnOf "text_of" "text_of" (defArgs s_p_text_of) (defBody s_p_text_of) (defScope s_p_text_of) .none kV18 dc18 pm18 an18 (.ref q18) ct18), sl18⟩) (c18 : PySem.W.codeIn K (.ref q18) "text_of" = true) (k18 : PySem.W.keepIn K (.ref f18) = true) (h18 : PySem.W.codeHdIn K q18 146 = true) (n18 : K.lookup 146 = none)
    (a19 : PySem.W.nsIn K mainGlobals "leaf_texts" = some (some (.ref f19))) (l19 : K.lookup f19 = some ⟨oc19, od19, .func (PySem.W.fnOf "leaf_texts" "leaf_texts" (defArgs s_p_leaf_texts) (defBody s_p_leaf_texts) (defScope s_p_leaf_texts) .none kV19 dc19 pm19 an19 cd19 ct19), sl19⟩) (c19 : PySem.W.codeIn K cd19 "leaf_texts" = true) (k19 : PySem.W.keepIn K (.ref f19) = true)
    (a20 : PySem.W.nsIn K mainGlobals "joint_head" = some (some (.ref f20))) (l20 : K.lookup f20 = some ⟨oc20, od20, .func (PySem.W.fnOf "joint_head" "joint_head" (defArgs s_p_joint_head) (defBody s_p_joint_head) (defScope s_p_joint_head) .none kV20 dc20 pm20 an20 cd20 ct20), sl20⟩) (c20 : PySem.W.codeIn K cd20 "joint_head" = true) (k20 : PySem.W.keepIn K (.ref f20) = true)
    (a21 : PySem.W.nsIn K mainGlobals "joint_text" = some (some (.ref f21))) (l21 : K.lookup f21 = some ⟨oc21, od21, .func (PySem.W.fnOf "joint_text" "joint_text" (defArgs s_p_joint_text) (defBody s_p_joint_text) (defScope s_p_joint_text) .none kV21 dc21 pm21 an21 cd21 ct21), sl21⟩) (c21 : PySem.W.codeIn K cd21 "joint_text" = true) (k21 : PySem.W.keepIn K (.ref f21) = true)
    (a22 : PySem.W.nsIn K mainGlobals "player" = some (some (.ref f22))) (l22 : K.lookup f22 = some ⟨oc22, od22, .func (PySem.W.fnOf "player" "player" (defArgs s_p_player) (defBody s_p_player) (defScope s_p_player) .none kV22 dc22 pm22 an22 cd22 ct22), sl22⟩) (c22 : PySem.W.codeIn K cd22 "player" = true) (k22 : PySem.W.keepIn K (.ref f22) = true)
    (a23 : PySem.W.nsIn K mainGlobals "player_of_all" = some (some (.ref f23))) (l23 : K.lookup f23 = some ⟨oc23, od23, .func (PySem.W.fnOf "player_of_all" "player_of_all" (defArgs s_p_player_of_all) (defBody s_p_player_of_all) (defScope s_p_player_of_all) .none kV23 dc23 pm23 an23 cd23 ct23), sl23⟩) (c23 : PySem.W.codeIn K cd23 "player_of_all" = true) (k23 : PySem.W.keepIn K (.ref f23) = true)
    (a24 : PySem.W.nsIn K mainGlobals "text_told" = some (some (.ref f24))) (l24 : K.lookup f24 = some ⟨oc24, od24, .func (PySem.W.fnOf "text_told" "text_told" (defArgs s_p_text_told) (defBody s_p_text_told) (defScope s_p_text_told) .none kV24 dc24 pm24 an24 cd24 ct24), sl24⟩) (c24 : PySem.W.codeIn K cd24 "text_told" = true) (k24 : PySem.W.keepIn K (.ref f24) = true)
    (a25 : PySem.W.nsIn K mainGlobals "leaf_told" = some (some (.ref f25))) (l25 : K.lookup f25 = some ⟨oc25, od25, .func (PySem.W.fnOf "leaf_told" "leaf_told" (defArgs s_p_leaf_told) (defBody s_p_leaf_told) (defScope s_p_leaf_told) .none kV25 dc25 pm25 an25 cd25 ct25), sl25⟩) (c25 : PySem.W.codeIn K cd25 "leaf_told" = true) (k25 : PySem.W.keepIn K (.ref f25) = true)
    (a26 : PySem.W.nsIn K mainGlobals "joint_parts" = some (some (.ref f26))) (l26 : K.lookup f26 = some ⟨oc26, od26, .func (PySem.W.fnOf "joint_parts" "joint_parts" (defArgs s_p_joint_parts) (defBody s_p_joint_parts) (defScope s_p_joint_parts) .none kV26 dc26 pm26 an26 cd26 ct26), sl26⟩) (c26 : PySem.W.codeIn K cd26 "joint_parts" = true) (k26 : PySem.W.keepIn K (.ref f26) = true)
    (a27 : PySem.W.nsIn K mainGlobals "tree_in_order" = some (some (.ref f27))) (l27 : K.lookup f27 = some ⟨oc27, od27, .func (PySem.W.fnOf "tree_in_order" "tree_in_order" (defArgs s_p_tree_in_order) (defBody s_p_tree_in_order) (defScope s_p_tree_in_order) .none kV27 dc27 pm27 an27 cd27 ct27), sl27⟩) (c27 : PySem.W.codeIn K cd27 "tree_in_order" = true) (k27 : PySem.W.keepIn K (.ref f27) = true)
    (a28 : PySem.W.nsIn K mainGlobals "_law_cell_at" = some (some (.ref f28))) (l28 : K.lookup f28 = some ⟨oc28, od28, .func (PySem.W.fnOf "_law_cell_at" "_law_cell_at" (defArgs s_l_cell_at) (defBody s_l_cell_at) (defScope s_l_cell_at) .none kV28 dc28 pm28 an28 cd28 ct28), sl28⟩) (c28 : PySem.W.codeIn K cd28 "_law_cell_at" = true) (k28 : PySem.W.keepIn K (.ref f28) = true)
    (a29 : PySem.W.nsIn K mainGlobals "_law_draws" = some (some (.ref f29))) (l29 : K.lookup f29 = some ⟨oc29, od29, .func (PySem.W.fnOf "_law_draws" "_law_draws" (defArgs s_l_draws) (defBody s_l_draws) (defScope s_l_draws) .none kV29 dc29 pm29 an29 cd29 ct29), sl29⟩) (c29 : PySem.W.codeIn K cd29 "_law_draws" = true) (k29 : PySem.W.keepIn K (.ref f29) = true)
    (a30 : PySem.W.nsIn K mainGlobals "_law_tree" = some (some (.ref f30))) (l30 : K.lookup f30 = some ⟨oc30, od30, .func (PySem.W.fnOf "_law_tree" "_law_tree" (defArgs s_l_tree) (defBody s_l_tree) (defScope s_l_tree) .none kV30 dc30 pm30 an30 cd30 ct30), sl30⟩) (c30 : PySem.W.codeIn K cd30 "_law_tree" = true) (k30 : PySem.W.keepIn K (.ref f30) = true)
    (a31 : PySem.W.nsIn K mainGlobals "_law_few" = some (some (.ref f31))) (l31 : K.lookup f31 = some ⟨oc31, od31, .func (PySem.W.fnOf "_law_few" "_law_few" (defArgs s_l_few) (defBody s_l_few) (defScope s_l_few) .none kV31 dc31 pm31 an31 cd31 ct31), sl31⟩) (c31 : PySem.W.codeIn K cd31 "_law_few" = true) (k31 : PySem.W.keepIn K (.ref f31) = true)
    (a32 : PySem.W.nsIn K mainGlobals "_law_cost" = some (some (.ref f32))) (l32 : K.lookup f32 = some ⟨oc32, od32, .func (PySem.W.fnOf "_law_cost" "_law_cost" (defArgs s_l_cost) (defBody s_l_cost) (defScope s_l_cost) .none kV32 dc32 pm32 an32 cd32 ct32), sl32⟩) (c32 : PySem.W.codeIn K cd32 "_law_cost" = true) (k32 : PySem.W.keepIn K (.ref f32) = true)
    (a33 : PySem.W.nsIn K mainGlobals "law" = some (some (.ref f33))) (l33 : K.lookup f33 = some ⟨oc33, od33, .func (PySem.W.fnOf "law" "law" (defArgs s_p_law) (defBody s_p_law) (defScope s_p_law) .none kV33 dc33 pm33 an33 cd33 ct33), sl33⟩) (c33 : PySem.W.codeIn K cd33 "law" = true) (k33 : PySem.W.keepIn K (.ref f33) = true)
    {t_PICK_OF_LEAF : Addr} {ep_PICK_OF_LEAF : Nat} {dh_PICK_OF_LEAF_0 : Int} {dk_PICK_OF_LEAF_0 dv_PICK_OF_LEAF_0 : Tok} {dh_PICK_OF_LEAF_1 : Int} {dk_PICK_OF_LEAF_1 dv_PICK_OF_LEAF_1 : Tok}
    (v_PICK_OF_LEAF : PySem.W.nsIn K mainGlobals "PICK_OF_LEAF" = some (some (.ref t_PICK_OF_LEAF)))
    (vl_PICK_OF_LEAF : K.lookup t_PICK_OF_LEAF = some ⟨.type "dict", none, .dict #[⟨dh_PICK_OF_LEAF_0, .str "S" dk_PICK_OF_LEAF_0, .int 0 dv_PICK_OF_LEAF_0⟩, ⟨dh_PICK_OF_LEAF_1, .str "K" dk_PICK_OF_LEAF_1, .int 1 dv_PICK_OF_LEAF_1⟩] ep_PICK_OF_LEAF, #[]⟩)
    (low_PICK_OF_LEAF : (t_PICK_OF_LEAF == sysModules) = false) (dq_PICK_OF_LEAF_0 : dh_PICK_OF_LEAF_0 = keyH w (.inr "S")) (dq_PICK_OF_LEAF_1 : dh_PICK_OF_LEAF_1 = keyH w (.inr "K"))
    {t_PICKS : Tok} (v_PICKS : PySem.W.nsIn K mainGlobals "PICKS" = some (some (.int 3 t_PICKS)))
    {t_PICK_OF_JOINT : Tok} (v_PICK_OF_JOINT : PySem.W.nsIn K mainGlobals "PICK_OF_JOINT" = some (some (.int 2 t_PICK_OF_JOINT)))
    {t_IDENTITY_0 : Addr} {to_IDENTITY_0 : Option Addr} {tn_IDENTITY_0 : Nat} {ts_IDENTITY_0 : Array (Option Value)} {t_IDENTITY_1 : Addr} {to_IDENTITY_1 : Option Addr} {tn_IDENTITY_1 : Nat} {ts_IDENTITY_1 : Array (Option Value)} {tk_IDENTITY_1_0 : Tok} {tk_IDENTITY_1_1 : Tok} {tk_IDENTITY_1_2 : Tok} {tk_IDENTITY_0_1 : Tok} {tk_IDENTITY_0_2 : Tok}
    (v_IDENTITY : PySem.W.nsIn K mainGlobals "IDENTITY" = some (some (.ref t_IDENTITY_0)))
    (vl_IDENTITY_0 : K.lookup t_IDENTITY_0 = some ⟨.type "tuple", to_IDENTITY_0, .seq #[.ref t_IDENTITY_1, .str "K" tk_IDENTITY_0_1, .int 3 tk_IDENTITY_0_2, .bool true] tn_IDENTITY_0, ts_IDENTITY_0⟩)
    (vl_IDENTITY_1 : K.lookup t_IDENTITY_1 = some ⟨.type "tuple", to_IDENTITY_1, .seq #[.str "S" tk_IDENTITY_1_0, .str "K" tk_IDENTITY_1_1, .int 2 tk_IDENTITY_1_2, .bool true] tn_IDENTITY_1, ts_IDENTITY_1⟩)
    (z_int : PySem.W.nsIn K mainGlobals "int" = some none)
    (z_isinstance : PySem.W.nsIn K mainGlobals "isinstance" = some none)
    (z_len : PySem.W.nsIn K mainGlobals "len" = some none)
    (z_range : PySem.W.nsIn K mainGlobals "range" = some none)
    (z_reversed : PySem.W.nsIn K mainGlobals "reversed" = some none)
    (z_str : PySem.W.nsIn K mainGlobals "str" = some none)
    : ∃ fd : FuncData, (∀ (s : Shared) (v : Value), BindsTo s fd ⟨[v], []⟩ [("_law_script", v)]) ∧ (∀ p ∈ tabs, TabK K p.1 p.2) ∧ ∀ base : Heap, K.In base → base.Ns mainGlobals mg → BMain mg base → FnOk l.prog w K mg base CX0 102 fa fd ["_law_script"] (spM K 1 F_p_law) := by
  have e := hfa.symm.trans (PySem.W.mg_of X G a33)
  cases e
  have F0 := fun_mk (st := s_p_joint) l0 c0 k0
  have F1 := fun_mk (st := s_p_is_done) l1 c1 k1
  have F2 := fun_mk (st := s_p_leaves) l2 c2 k2
  have F3 := fun_mk (st := s_p_is_value) l3 c3 k3
  have F4 := fund_mk (st := s_p_tree_run) l4 c4 k4
  have F5 := fun_mk (st := s_p_joined) l5 c5 k5
  have F6 := fun_mk (st := s_p_changed) l6 c6 k6
  have F7 := fun_mk (st := s_p_folded) l7 c7 k7
  have F8 := fun_mk (st := s_p_taken_out) l8 c8 k8
  have F9 := funt_mk (st := s_p_out_and_cost) a9 l9 c9 k9
  have F10 := fun_mk (st := s_p_leaf_taken) l10 c10 k10
  have F11 := fun_mk (st := s_p_joint_taken) l11 c11 k11
  have F12 := fun_mk (st := s_p_or_constant) l12 c12 k12
  have F13 := fun_mk (st := s_p_pick) l13 c13 k13
  have F14 := fun_mk (st := s_p_unasked) l14 c14 k14
  have F15 := fun_mk (st := s_p_holder) l15 c15 k15
  have F16 := fun_mk (st := s_p_kept) l16 c16 k16
  have F17 := fun_mk (st := s_p_has_in_front) l17 c17 k17
  have F18 := funt_mk (st := s_p_text_of) a18 l18 c18 k18
  have F19 := fun_mk (st := s_p_leaf_texts) l19 c19 k19
  have F20 := fun_mk (st := s_p_joint_head) l20 c20 k20
  have F21 := fun_mk (st := s_p_joint_text) l21 c21 k21
  have F22 := fun_mk (st := s_p_player) l22 c22 k22
  have F23 := fun_mk (st := s_p_player_of_all) l23 c23 k23
  have F24 := fun_mk (st := s_p_text_told) l24 c24 k24
  have F25 := fun_mk (st := s_p_leaf_told) l25 c25 k25
  have F26 := fun_mk (st := s_p_joint_parts) l26 c26 k26
  have F27 := fun_mk (st := s_p_tree_in_order) l27 c27 k27
  have F28 := fun_mk (st := s_l_cell_at) l28 c28 k28
  have F29 := fun_mk (st := s_l_draws) l29 c29 k29
  have F30 := fun_mk (st := s_l_tree) l30 c30 k30
  have F31 := fun_mk (st := s_l_few) l31 c31 k31
  have F32 := fun_mk (st := s_l_cost) l32 c32 k32
  have F33 := fun_mk (st := s_p_law) l33 c33 k33
  have b0 := F0.binds (ps := ["left", "right"]) fun _ _ _ _ _ _ us hl => match us, hl with | [_, _], _ => rfl
  have b1 := F1.binds (ps := ["left", "right"]) fun _ _ _ _ _ _ us hl => match us, hl with | [_, _], _ => rfl
  have b2 := F2.binds (ps := ["tree"]) fun _ _ _ _ _ _ us hl => match us, hl with | [_], _ => rfl
  have b3 := F3.binds (ps := ["tree"]) fun _ _ _ _ _ _ us hl => match us, hl with | [_], _ => rfl
  have b4 := bindsD (x := "tree_run") (qual := "tree_run") (st := s_p_tree_run) (ps := ["tree", "most"]) (kV := kV4) (doc := dc4) (pm := pm4) (cdv := cd4) (ct := ct4) (an := an4) ld4 fun us hl => match us, hl with | [_, _], _ => ⟨_, rfl, rfl⟩
  have bd4 := bindsD1 (x := "tree_run") (qual := "tree_run") (st := s_p_tree_run) (ps := ["tree", "most"]) (kV := kV4) (doc := dc4) (pm := pm4) (cdv := cd4) (ct := ct4) (an := an4) ld4 fun us hl => match us, hl with | [_], _ => ⟨_, rfl, rfl⟩
  have b5 := F5.binds (ps := ["waiting", "here"]) fun _ _ _ _ _ _ us hl => match us, hl with | [_, _], _ => rfl
  have b6 := F6.binds (ps := ["left", "right"]) fun _ _ _ _ _ _ us hl => match us, hl with | [_, _], _ => rfl
  have b7 := F7.binds (ps := ["tree", "of_leaf", "of_joint"]) fun _ _ _ _ _ _ us hl => match us, hl with | [_, _, _], _ => rfl
  have b8 := F8.binds (ps := ["name", "term"]) fun _ _ _ _ _ _ us hl => match us, hl with | [_, _], _ => rfl
  have b9 : Binds K (PySem.W.fnOf "out_and_cost" "out_and_cost" (defArgs s_p_out_and_cost) (defBody s_p_out_and_cost) (defScope s_p_out_and_cost) .none kV9 dc9 pm9 an9 (.ref q9) ct9) ["name", "term"] [] := Binds.all fun us hl => match us, hl with | [_, _], _ => rfl
  have b10 := F10.binds (ps := ["name", "leaf"]) fun _ _ _ _ _ _ us hl => match us, hl with | [_, _], _ => rfl
  have b11 := F11.binds (ps := ["name", "part", "left", "right"]) fun _ _ _ _ _ _ us hl => match us, hl with | [_, _, _, _], _ => rfl
  have b12 := F12.binds (ps := ["taken", "part"]) fun _ _ _ _ _ _ us hl => match us, hl with | [_, _], _ => rfl
  have b13 := F13.binds (ps := ["k", "many"]) fun _ _ _ _ _ _ us hl => match us, hl with | [_, _], _ => rfl
  have b14 := F14.binds (ps := ["times", "value"]) fun _ _ _ _ _ _ us hl => match us, hl with | [_, _], _ => rfl
  have b15 := F15.binds (ps := ["things"]) fun _ _ _ _ _ _ us hl => match us, hl with | [_], _ => rfl
  have b16 := F16.binds (ps := ["thing"]) fun _ _ _ _ _ _ us hl => match us, hl with | [_], _ => rfl
  have b17 := F17.binds (ps := ["leaf", "tree"]) fun _ _ _ _ _ _ us hl => match us, hl with | [_, _], _ => rfl
  have b18 : Binds K (PySem.W.fnOf "text_of" "text_of" (defArgs s_p_text_of) (defBody s_p_text_of) (defScope s_p_text_of) .none kV18 dc18 pm18 an18 (.ref q18) ct18) ["tree"] [] := Binds.all fun us hl => match us, hl with | [_], _ => rfl
  have b19 := F19.binds (ps := []) fun _ _ _ _ _ _ us hl => match us, hl with | [], _ => rfl
  have b20 := F20.binds (ps := []) fun _ _ _ _ _ _ us hl => match us, hl with | [], _ => rfl
  have b21 := F21.binds (ps := ["head", "left", "right"]) fun _ _ _ _ _ _ us hl => match us, hl with | [_, _, _], _ => rfl
  have b22 := F22.binds (ps := ["one", "other"]) fun _ _ _ _ _ _ us hl => match us, hl with | [_, _], _ => rfl
  have b23 := F23.binds (ps := []) fun _ _ _ _ _ _ us hl => match us, hl with | [], _ => rfl
  have b24 := F24.binds (ps := ["tree"]) fun _ _ _ _ _ _ us hl => match us, hl with | [_], _ => rfl
  have b25 := F25.binds (ps := ["texts", "text"]) fun _ _ _ _ _ _ us hl => match us, hl with | [_, _], _ => rfl
  have b26 := F26.binds (ps := ["head", "text"]) fun _ _ _ _ _ _ us hl => match us, hl with | [_, _], _ => rfl
  have b27 := F27.binds (ps := ["order"]) fun _ _ _ _ _ _ us hl => match us, hl with | [_], _ => rfl
  have b28 := F28.binds (ps := ["_law_script", "_law_k"]) fun _ _ _ _ _ _ us hl => match us, hl with | [_, _], _ => rfl
  have b29 := F29.binds (ps := ["_law_script", "_law_at", "_law_many", "_law_base"]) fun _ _ _ _ _ _ us hl => match us, hl with | [_, _, _, _], _ => rfl
  have b30 := F30.binds (ps := ["_law_cells"]) fun _ _ _ _ _ _ us hl => match us, hl with | [_], _ => rfl
  have b31 := F31.binds (ps := ["_law_cells"]) fun _ _ _ _ _ _ us hl => match us, hl with | [_], _ => rfl
  have b32 := F32.binds (ps := ["_law_tree_here"]) fun _ _ _ _ _ _ us hl => match us, hl with | [_], _ => rfl
  have b33 := F33.binds (ps := ["_law_script"]) fun _ _ _ _ _ _ us hl => match us, hl with | [_], _ => rfl
  exact ⟨_, fun s v => .of_eq rfl, List.forall_mem_cons.mpr ⟨FunT.tabK a9 l9 h9 n9, List.forall_mem_cons.mpr ⟨FunT.tabK a18 l18 h18 n18, List.forall_mem_nil _⟩⟩, fun base _ _ hB => ok_p_law (Ad := ⟨_, _, _, _, _, _, _, _, _, _, _, _, _, _, _, _, _, _, _, _, _, _, _, _, _, _, _, _, _, _, _, _, _, _, _, _, _, _, _, _, _, _, _, _, _, _, _, _, _, _, _, _, _, _, _, _, _, _, _, _, _, _, _, _, _, _, _, _⟩) ⟨hB, F0, PySem.W.mg_of X G a0, b0, F1, PySem.W.mg_of X G a1, b1, F2, PySem.W.mg_of X G a2, b2, F3, PySem.W.mg_of X G a3, b3, F4, PySem.W.mg_of X G a4, b4, ⟨_, bd4⟩, F5, PySem.W.mg_of X G a5, b5, F6, PySem.W.mg_of X G a6, b6, F7, PySem.W.mg_of X G a7, b7, F8, PySem.W.mg_of X G a8, b8, F9, PySem.W.mg_of X G a9, b9, F10, PySem.W.mg_of X G a10, b10, F11, PySem.W.mg_of X G a11, b11, F12, PySem.W.mg_of X G a12, b12, F13, PySem.W.mg_of X G a13, b13, F14, PySem.W.mg_of X G a14, b14, F15, PySem.W.mg_of X G a15, b15, F16, PySem.W.mg_of X G a16, b16, F17, PySem.W.mg_of X G a17, b17, F18, PySem.W.mg_of X G a18, b18, F19, PySem.W.mg_of X G a19, b19, F20, PySem.W.mg_of X G a20, b20, F21, PySem.W.mg_of X G a21, b21, F22, PySem.W.mg_of X G a22, b22, F23, PySem.W.mg_of X G a23, b23, F24, PySem.W.mg_of X G a24, b24, F25, PySem.W.mg_of X G a25, b25, F26, PySem.W.mg_of X G a26, b26, F27, PySem.W.mg_of X G a27, b27, F28, PySem.W.mg_of X G a28, b28, F29, PySem.W.mg_of X G a29, b29, F30, PySem.W.mg_of X G a30, b30, F31, PySem.W.mg_of X G a31, b31, F32, PySem.W.mg_of X G a32, b32, F33, PySem.W.mg_of X G a33, b33, ⟨_, PySem.W.mg_of X G v_PICK_OF_LEAF, dictK_mk vl_PICK_OF_LEAF low_PICK_OF_LEAF (.i rfl dq_PICK_OF_LEAF_0 (.i rfl dq_PICK_OF_LEAF_1 .nil)) (by decide)⟩, ⟨_, PySem.W.mg_of X G v_PICKS⟩, ⟨_, PySem.W.mg_of X G v_PICK_OF_JOINT⟩, ⟨_, PySem.W.mg_of X G v_IDENTITY, (RepV.kt [.ref t_IDENTITY_1, .str "K", .int 3, .bl true] vl_IDENTITY_0 (lim_ok (n := 4) (by decide)) (.cons rfl (.cons ⟨_, rfl⟩ (.cons ⟨_, rfl⟩ (.cons rfl .nil)))) rfl (RepVs.c (RepV.kt [.str "S", .str "K", .int 2, .bl true] vl_IDENTITY_1 (lim_ok (n := 4) (by decide)) (.cons ⟨_, rfl⟩ (.cons ⟨_, rfl⟩ (.cons ⟨_, rfl⟩ (.cons rfl .nil)))) rfl (RepVs.c (RepV.ks rfl) (RepVs.c (RepV.ks rfl) (RepVs.c RepV.ki (RepVs.c RepV.kb RepVs.n))))) (RepVs.c (RepV.ks rfl) (RepVs.c RepV.ki (RepVs.c RepV.kb RepVs.n)))))⟩, PySem.W.mg_none_of X G z_int, PySem.W.mg_none_of X G z_isinstance, PySem.W.mg_none_of X G z_len, PySem.W.mg_none_of X G z_range, PySem.W.mg_none_of X G z_reversed, PySem.W.mg_none_of X G z_str⟩⟩
end Law
set_option maxHeartbeats 0
namespace Law
open L2 M Tr
theorem is_value_ok (t : Tr) (st : Stor) : F_p_is_value [enc t] st = .ok (.bl (val t)) st := by
  unfold F_p_is_value gcF fnM b_p_is_value
  have h1 := enc_is_str t st
  cases t with
  | lf s => simp [startM, h1, gc_same, val]
  | jn l r =>
    have j3 : ixV (enc (.jn l r)) (.int 3) st = .ok (.bl (val (.jn l r))) st := by rw [enc]; exact r_ix_tup st 3 _ _ rfl
    generalize enc (.jn l r) = X at *
    simp [startM, h1, j3, gc_same]
theorem leaves_ok (t : Tr) (st : Stor) : F_p_leaves [enc t] st = .ok (.int (lv t : Nat)) st := by
  unfold F_p_leaves gcF fnM b_p_leaves
  have h1 := enc_is_str t st
  cases t with
  | lf s => simp [startM, h1, truV, gc_same, lv]
  | jn l r =>
    have j2 : ixV (enc (.jn l r)) (.int 2) st = .ok (.int (lv (.jn l r) : Nat)) st := by rw [enc]; exact r_ix_tup st 2 _ _ rfl
    generalize enc (.jn l r) = X at *
    simp [startM, h1, truV, j2, gc_same]
theorem is_done_ok (l r : Tr) (st : Stor) : F_p_is_done [enc l, enc r] st = .ok (.bl (val (.jn l r))) st := by
  unfold F_p_is_done gcF fnM b_p_is_done
  have hv := is_value_ok r st
  rw [show startM 2 [enc l, enc r] = [some (enc l), some (enc r)] from rfl]
  cases hr : val r with
  | false =>
    rw [hr] at hv
    have e : val (.jn l r) = false := by
      cases q : val (.jn l r) with
      | false => rfl
      | true => rw [(val_parts q).2] at hr; cases hr
    simp [hv, truV, e, gc_same]
  | true =>
    rw [hr] at hv
    have h1 := enc_is_str l st
    cases l with
    | lf s =>
      rw [val_jn_leaf, hr]
      have e1 := r_eq_enc 799 (.lf s) [83] st
      have e2 := r_eq_enc 799 (.lf s) [75] st
      generalize enc (.lf s) = X at *
      by_cases hs : s = [83]
      · simp [hv, truV, h1, e1, hs, gc_same]
      · by_cases hs2 : s = [75]
        · simp [hv, truV, h1, e1, e2, hs, hs2, gc_same]
        · simp [hv, truV, h1, e1, e2, hs, hs2, gc_same]
    | jn a b =>
      rw [val_jn_jn, hr]
      have j0 : ixV (enc (.jn a b)) (.int 0) st = .ok (enc a) st := by rw [enc]; exact r_ix_tup st 0 _ _ rfl
      have j3 : ixV (enc (.jn a b)) (.int 3) st = .ok (.bl (val (.jn a b))) st := by rw [enc]; exact r_ix_tup st 3 _ _ rfl
      have e1 := r_eq_enc 799 a [83] st
      generalize enc (.jn a b) = X at *
      cases a with
      | lf s =>
        by_cases hs : s = [83]
        · subst hs
          simp [hv, truV, h1, j0, j3, e1, isSj, gc_same]
        · simp [hv, truV, h1, j0, j3, e1, hs, isSj, gc_same]
      | jn a c =>
        simp [hv, truV, h1, j0, j3, e1, isSj, gc_same]
theorem joint_ok (l r : Tr) (st : Stor) : F_p_joint [enc l, enc r] st = .ok (enc (.jn l r)) st := by
  unfold F_p_joint gcF fnM b_p_joint
  have h1 := leaves_ok l st
  have h2 := leaves_ok r st
  have h3 := is_done_ok l r st
  have hu1 := enc_under st.length l
  have hu2 := enc_under st.length r
  have e : enc (.jn l r) = .tup [enc l, enc r, .int ((lv l : Nat) + (lv r : Nat)), .bl (val (.jn l r))] := by rw [enc, lv]; simp
  rw [e]
  generalize enc l = X at *
  generalize enc r = Y at *
  simp [startM, h1, h2, h3, gc_same, hu1, hu2]
def encF : Fr → D
  | .fl r => .tup [.non, enc r]
  | .fr l => .tup [enc l, .non]
theorem joined_ok (f : Fr) (t : Tr) (st : Stor) : F_p_joined [encF f, enc t] st = .ok (enc (fill f t)) st := by
  unfold F_p_joined gcF fnM b_p_joined
  cases f with
  | fl r =>
    have h := joint_ok t r st
    have hu := enc_under st.length (.jn t r)
    have j0 : ixV (encF (.fl r)) (.int 0) st = .ok .non st := r_ix_tup st 0 _ _ rfl
    have j1 : ixV (encF (.fl r)) (.int 1) st = .ok (enc r) st := r_ix_tup st 1 _ _ rfl
    show _ = R.ok (enc (.jn t r)) st
    generalize enc (.jn t r) = Z at *
    generalize encF (.fl r) = W at *
    simp [startM, j0, j1, h, gc_same hu]
  | fr l =>
    have h := joint_ok l t st
    have hu := enc_under st.length (.jn l t)
    have hn := enc_none l st
    have j0 : ixV (encF (.fr l)) (.int 0) st = .ok (enc l) st := r_ix_tup st 0 _ _ rfl
    show _ = R.ok (enc (.jn l t)) st
    generalize enc (.jn l t) = Z at *
    generalize encF (.fr l) = W at *
    simp [startM, j0, hn, h, gc_same hu]
theorem changed_ok (l r u : Tr) (st : Stor) (h : redex l r = some u) : F_p_changed [enc l, enc r] st = .ok (enc u) st := by
  unfold F_p_changed gcF fnM b_p_changed
  have hu := enc_under st.length u
  cases l with
  | lf s => rw [redex] at h; cases h
  | jn a b =>
    have j0 : ixV (enc (.jn a b)) (.int 0) st = .ok (enc a) st := by rw [enc]; exact r_ix_tup st 0 _ _ rfl
    have j1 : ixV (enc (.jn a b)) (.int 1) st = .ok (enc b) st := by rw [enc]; exact r_ix_tup st 1 _ _ rfl
    have e1 := r_eq_enc 799 a [75] st
    cases a with
    | lf s =>
      rw [redex] at h
      split at h
      · rename_i hs
        subst hs
        generalize enc (.jn (.lf [75]) b) = X at *
        cases h
        simp [startM, j0, j1, e1, gc_same hu]
      · cases h
    | jn a c =>
      rw [redex] at h
      cases h
      have k1 : ixV (enc (.jn a c)) (.int 1) st = .ok (enc c) st := by rw [enc]; exact r_ix_tup st 1 _ _ rfl
      have q1 := joint_ok c r st
      have q2 := joint_ok b r st
      have q3 := joint_ok (.jn c r) (.jn b r) st
      generalize enc (.jn (.jn a c) b) = X at *
      generalize enc (.jn (.jn c r) (.jn b r)) = Z at *
      simp [startM, j0, j1, e1, k1, q1, q2, q3, gc_same hu]
end Law
set_option maxHeartbeats 0
namespace Law
open L2 M Tr
theorem redex_ex {l r : Tr} (hl : val l = true) (hr : val r = true) (h : val (.jn l r) = false) : (∃ s, l = .lf s) ∨ ∃ u, redex l r = some u := by
  cases l with
  | lf s => exact .inl ⟨s, rfl⟩
  | jn a b =>
    refine .inr ?_
    cases a with
    | jn a c => exact ⟨_, rfl⟩
    | lf s =>
      rw [val_jn_leaf, Bool.and_eq_true, Bool.or_eq_true] at hl
      rcases hl.2 with e | e
      · have : val (.jn (.jn (.lf s) b) r) = true := by rw [val_jn_jn, hr, val_jn_leaf, hl.1]; simp [isSj, eq_of_beq e]
        rw [this] at h; cases h
      · exact ⟨b, by rw [redex, if_pos (eq_of_beq e)]⟩
theorem truB (b : Bool) (st : Stor) : truV (.bl b) st = some b := by_rfl rfl
theorem pop_snoc (st : Stor) (ds : List D) (d : D) : popV (.loc st.length) [] (st ++ [.lst (ds ++ [d])]) = .ok d (st ++ [.lst ds]) := by
  simp [popV]
theorem tru_lst (st : Stor) (ds : List D) : truV (.loc st.length) (st ++ [.lst ds]) = some (!ds.isEmpty) := by
  simp [truV]
theorem tree_run_ok (t : Tr) (n : Nat) (st : Stor) (h : dp t + n ≤ 900000) :
    F_p_tree_run [enc t, .int n] st = .ok (.tup [.str (if val (run n t).1 = true then [118, 97, 108, 117, 101] else [111, 110]), enc (run n t).1, .int ((run n t).2 : Nat)]) st := by
  unfold F_p_tree_run gcF fnM b_p_tree_run
  generalize hC : (andT (tB1 (op2 ltV (vr 4) (vr 1))) _ : MT) = C
  generalize hB : (ifS (tru (callF F_p_is_value [] (consA (vr 2) nilA))) (setS 2 _) _ : MS) = B
  generalize hP : (setS 2 (callF F_p_joined [] (consA (meth0E "list" popV (vr 3)) (consA (vr 2) nilA))) : MS) = P
  let E : Tr → Nat → MEnv := fun x k => [some (enc t), some (.int n), some (enc x), some (.loc st.length), some (.int k)]
  let S : List Fr → Stor := fun fs => st ++ [.lst (fs.map encF)]
  have hE : ∀ x k, E x k = [some (enc t), some (.int n), some (enc x), some (.loc st.length), some (.int k)] := fun _ _ => rfl
  have fC : ∀ (x : Tr) (fs : List Fr) (k : Nat), C (E x k) (S fs) = .ok (decide (k < n) && (!fs.isEmpty || !val x)) (S fs) := by
    intro x fs k
    have hv := is_value_ok x (S fs)
    have ht : truV (.loc st.length) (S fs) = some (!fs.isEmpty) := by
      have := tru_lst st (fs.map encF)
      rw [List.isEmpty_map] at this
      exact this
    rw [← hC, hE]
    generalize S fs = Z at *
    generalize enc x = X at *
    by_cases hk : k < n
    · cases hf : fs.isEmpty with
      | false =>
        have ht : truV (.loc st.length) Z = some true := by rw [ht, hf]; rfl
        simp [hk, ht]
      | true =>
        have ht : truV (.loc st.length) Z = some false := by rw [ht, hf]; rfl
        simp [hk, ht, hv, truB]
    · simp [hk]
  have fB1 : ∀ (x : Tr) (gs : List Fr) (f : Fr) (k : Nat), val x = true → B (E x k) (S (gs ++ [f])) = .ok (.nx (E (fill f x) k)) (S gs) := by
    intro x gs f k hx
    have hv := is_value_ok x (S (gs ++ [f]))
    rw [hx] at hv
    have hp : popV (.loc st.length) [] (S (gs ++ [f])) = .ok (encF f) (S gs) := by
      show popV (.loc st.length) [] (st ++ [.lst ((gs ++ [f]).map encF)]) = _
      rw [List.map_append]
      exact pop_snoc st (gs.map encF) (encF f)
    have ht : isTy "list" (.loc st.length) (S (gs ++ [f])) = true := by simp [S, isTy]
    have hj := joined_ok f x (S gs)
    rw [← hB, hE, hE]
    generalize S (gs ++ [f]) = Z at *
    generalize S gs = Z' at *
    generalize enc x = X at *
    simp [hv, truB, ht, hp, hj]
  have app : ∀ (fs : List Fr) (f : Fr), fs.length < 1000000 → appendV (.loc st.length) [encF f] (S fs) = .ok .non (S (fs ++ [f])) := by
    intro fs f hl
    have hl' : (fs.map encF).length < 1000000 := by rw [List.length_map]; exact hl
    show appendV (.loc st.length) [encF f] (st ++ [.lst (fs.map encF)]) = .ok .non (st ++ [.lst ((fs ++ [f]).map encF)])
    rw [List.map_append]
    generalize fs.map encF = L at *
    simp [appendV, hl']
  have isl : ∀ fs, isTy "list" (.loc st.length) (S fs) = true := fun fs => by simp [S, isTy]
  have fB2 : ∀ (l r : Tr) (fs : List Fr) (k : Nat), fs.length < 1000000 → val (.jn l r) = false → val l = false → B (E (.jn l r) k) (S fs) = .ok (.nx (E l k)) (S (fs ++ [.fl r])) := by
    intro l r fs k hfl hv hl
    have v1 := is_value_ok (.jn l r) (S fs)
    have v2 := is_value_ok l (S fs)
    have ap := app fs (.fl r) hfl
    have ty := isl fs
    have j0 : ∀ s, ixV (enc (.jn l r)) (.int 0) s = .ok (enc l) s := fun s => by rw [enc]; exact r_ix_tup s 0 _ _ rfl
    have j1 : ∀ s, ixV (enc (.jn l r)) (.int 1) s = .ok (enc r) s := fun s => by rw [enc]; exact r_ix_tup s 1 _ _ rfl
    have ap' : appendV (.loc st.length) [.tup [.non, enc r]] (S fs) = .ok .non (S (fs ++ [.fl r])) := ap
    rw [hv] at v1
    rw [hl] at v2
    rw [← hB, hE, hE]
    generalize enc (.jn l r) = X at *
    generalize S (fs ++ [.fl r]) = Z' at *
    generalize S fs = Z at *
    simp [v1, v2, truB, j0, j1, ty, ap']
  have fB3 : ∀ (l r : Tr) (fs : List Fr) (k : Nat), fs.length < 1000000 → val (.jn l r) = false → val l = true → val r = false → B (E (.jn l r) k) (S fs) = .ok (.nx (E r k)) (S (fs ++ [.fr l])) := by
    intro l r fs k hfl hv hl hr
    have v1 := is_value_ok (.jn l r) (S fs)
    have v2 := is_value_ok l (S fs)
    have v3 := is_value_ok r (S fs)
    have ap := app fs (.fr l) hfl
    have ty := isl fs
    have j0 : ∀ s, ixV (enc (.jn l r)) (.int 0) s = .ok (enc l) s := fun s => by rw [enc]; exact r_ix_tup s 0 _ _ rfl
    have j1 : ∀ s, ixV (enc (.jn l r)) (.int 1) s = .ok (enc r) s := fun s => by rw [enc]; exact r_ix_tup s 1 _ _ rfl
    have ap' : appendV (.loc st.length) [.tup [enc l, .non]] (S fs) = .ok .non (S (fs ++ [.fr l])) := ap
    rw [hv] at v1
    rw [hl] at v2
    rw [hr] at v3
    rw [← hB, hE, hE]
    generalize enc (.jn l r) = X at *
    generalize S (fs ++ [.fr l]) = Z' at *
    generalize S fs = Z at *
    simp [v1, v2, v3, truB, j0, j1, ty, ap']
  have fB4 : ∀ (s : List Nat) (r : Tr) (fs : List Fr) (k : Nat), val (.jn (.lf s) r) = false → val r = true → B (E (.jn (.lf s) r) k) (S fs) = .ok (.bk (E (.jn (.lf s) r) k)) (S fs) := by
    intro s r fs k hv hr
    have v1 := is_value_ok (.jn (.lf s) r) (S fs)
    have v2 := is_value_ok (.lf s) (S fs)
    have v3 := is_value_ok r (S fs)
    have j0 : ∀ z, ixV (enc (.jn (.lf s) r)) (.int 0) z = .ok (enc (.lf s)) z := fun z => by rw [enc]; exact r_ix_tup z 0 _ _ rfl
    have j1 : ∀ z, ixV (enc (.jn (.lf s) r)) (.int 1) z = .ok (enc r) z := fun z => by rw [enc]; exact r_ix_tup z 1 _ _ rfl
    have i1 := enc_is_str (.lf s) (S fs)
    rw [hv] at v1
    rw [hr] at v3
    rw [← hB, hE]
    generalize enc (.jn (.lf s) r) = X at *
    generalize enc (.lf s) = X2 at *
    generalize S fs = Z at *
    simp [v1, v2, v3, truB, j0, j1, i1, val]
  have fB5 : ∀ (l r u : Tr) (fs : List Fr) (k : Nat), val (.jn l r) = false → val l = true → val r = true → redex l r = some u → B (E (.jn l r) k) (S fs) = .ok (.nx (E u (k + 1))) (S fs) := by
    intro l r u fs k hv hl hr hx
    have v1 := is_value_ok (.jn l r) (S fs)
    have v2 := is_value_ok l (S fs)
    have v3 := is_value_ok r (S fs)
    have j0 : ∀ z, ixV (enc (.jn l r)) (.int 0) z = .ok (enc l) z := fun z => by rw [enc]; exact r_ix_tup z 0 _ _ rfl
    have j1 : ∀ z, ixV (enc (.jn l r)) (.int 1) z = .ok (enc r) z := fun z => by rw [enc]; exact r_ix_tup z 1 _ _ rfl
    have i1 : isV "str" (enc l) (S fs) = .ok (.bl false) (S fs) := by
      cases l with
      | lf s => rw [redex] at hx; cases hx
      | jn _ _ => exact enc_is_str _ _
    have ch := changed_ok l r u (S fs) hx
    rw [hv] at v1
    rw [hl] at v2
    rw [hr] at v3
    rw [← hB, hE, hE]
    generalize enc (.jn l r) = X at *
    generalize S fs = Z at *
    simp [v1, v2, v3, truB, j0, j1, i1, ch]
  -- the first loop
  have W : ∀ (m : Nat) (x : Tr) (fs : List Fr) (k : Nat), k + m = n → good fs → dp (plug fs x) + m ≤ 900000 →
      ∃ x' fs', whileW C B (E x k) (S fs) = .ok (.nx (E x' (k + (run m (plug fs x)).2))) (S fs') ∧ plug fs' x' = (run m (plug fs x)).1 := by
    intro m
    induction m with
    | zero =>
      intro x fs k hk hg hd
      refine ⟨x, fs, ?_, rfl⟩
      rw [whileW_eq, fC, show decide (k < n) = false from decide_eq_false (by omega)]
      simp [run]
    | succ m ih =>
      have hN : ∀ (x : Tr) (fs : List Fr) (k : Nat), val x = false → k + (m + 1) = n → good fs → dp (plug fs x) + (m + 1) ≤ 900000 →
          ∃ x' fs', whileW C B (E x k) (S fs) = .ok (.nx (E x' (k + (run (m + 1) (plug fs x)).2))) (S fs') ∧ plug fs' x' = (run (m + 1) (plug fs x)).1 := by
        intro x
        induction x with
        | lf s => intro fs k hv; simp [val] at hv
        | jn l r ihl ihr =>
          intro fs k hv hk hg hd
          have hfl : fs.length < 1000000 := by have := plug_dp fs (.jn l r); omega
          have hc : C (E (.jn l r) k) (S fs) = .ok true (S fs) := by
            rw [fC, hv, show decide (k < n) = true from decide_eq_true (by omega)]; simp
          rw [whileW_eq, hc, R.bind_ok, if_pos rfl]
          cases hl : val l with
          | false =>
            rw [fB2 l r fs k hfl hv hl, R.bind_ok]
            have e : plug (fs ++ [.fl r]) l = plug fs (.jn l r) := plug_snoc fs (.fl r) l
            have := ihl (fs ++ [.fl r]) k hl hk (fun f hf l' e' => by
              rcases List.mem_append.mp hf with hf | hf
              · exact hg f hf l' e'
              · obtain rfl : f = .fl r := by simpa using hf
                cases e') (by rw [e]; exact hd)
            rw [e] at this
            exact this
          | true =>
            cases hr : val r with
            | false =>
              rw [fB3 l r fs k hfl hv hl hr, R.bind_ok]
              have e : plug (fs ++ [.fr l]) r = plug fs (.jn l r) := plug_snoc fs (.fr l) r
              have := ihr (fs ++ [.fr l]) k hr hk (fun f hf l' e' => by
                rcases List.mem_append.mp hf with hf | hf
                · exact hg f hf l' e'
                · obtain rfl : f = .fr l := by simpa using hf
                  cases e'; exact hl) (by rw [e]; exact hd)
              rw [e] at this
              exact this
            | true =>
              have hs := step_plug (fs := fs) hg hv
              rw [step_here hl hr hv] at hs
              rcases redex_ex hl hr hv with ⟨s, rfl⟩ | ⟨u, hu⟩
              · rw [redex] at hs
                rw [fB4 s r fs k hv hr, R.bind_ok, run_none hs]
                exact ⟨_, fs, rfl, rfl⟩
              · rw [hu] at hs
                have hs : step (plug fs (.jn l r)) = some (plug fs u) := hs
                rw [fB5 l r u fs k hv hl hr hu, R.bind_ok, run_some hs]
                have hd2 := step_dp hs
                obtain ⟨x', fs', h1, h2⟩ := ih u fs (k + 1) (by omega) hg (by omega)
                refine ⟨x', fs', ?_, h2⟩
                dsimp only
                rw [show k + ((run m (plug fs u)).2 + 1) = k + 1 + (run m (plug fs u)).2 by omega]
                exact h1
      have hV : ∀ (q : Nat) (x : Tr) (fs : List Fr) (k : Nat), fs.length ≤ q → k + (m + 1) = n → good fs → dp (plug fs x) + (m + 1) ≤ 900000 →
          ∃ x' fs', whileW C B (E x k) (S fs) = .ok (.nx (E x' (k + (run (m + 1) (plug fs x)).2))) (S fs') ∧ plug fs' x' = (run (m + 1) (plug fs x)).1 := by
        intro q
        induction q with
        | zero =>
          intro x fs k hq hk hg hd
          obtain rfl : fs = [] := List.length_eq_zero_iff.mp (by omega)
          cases hv : val x with
          | false => exact hN x [] k hv hk hg hd
          | true =>
            refine ⟨x, [], ?_, ?_⟩
            · rw [whileW_eq, fC, hv, run_none (step_val (show val (plug [] x) = true from hv))]
              simp
            · rw [run_none (step_val (show val (plug [] x) = true from hv))]
        | succ q ihq =>
          intro x fs k hq hk hg hd
          cases hv : val x with
          | false => exact hN x fs k hv hk hg hd
          | true =>
            by_cases hf : fs = []
            · subst hf
              exact ihq x [] k (by simp) hk hg hd
            · obtain ⟨gs, f, rfl⟩ : ∃ gs f, fs = gs ++ [f] := ⟨fs.dropLast, fs.getLast hf, (List.dropLast_concat_getLast hf).symm⟩
              have hc : C (E x k) (S (gs ++ [f])) = .ok true (S (gs ++ [f])) := by
                rw [fC, show decide (k < n) = true from decide_eq_true (by omega)]; simp
              rw [whileW_eq, hc, R.bind_ok, if_pos rfl, fB1 x gs f k hv, R.bind_ok]
              have e : plug (gs ++ [f]) x = plug gs (fill f x) := plug_snoc gs f x
              rw [e] at hd ⊢
              exact ihq (fill f x) gs k (by simp at hq; omega) hk (fun f' hf' => hg f' (List.mem_append_left _ hf')) hd
      intro x fs k hk hg hd
      exact hV fs.length x fs k (Nat.le_refl _) hk hg hd
  -- the second loop
  have V : ∀ (q : Nat) (x : Tr) (fs : List Fr) (k : Nat), fs.length ≤ q → whileW (tru (vr 3)) P (E x k) (S fs) = .ok (.nx (E (plug fs x) k)) (S []) := by
    intro q
    induction q with
    | zero =>
      intro x fs k hq
      obtain rfl : fs = [] := List.length_eq_zero_iff.mp (by omega)
      have ht := tru_lst st []
      rw [whileW_eq, hE]
      simp only [r_tru, r_vr, List.getElem?_cons_succ, List.getElem?_cons_zero, R.bind_ok, S, List.map_nil, ht, List.isEmpty_nil, Bool.not_true, if_false, Bool.false_eq_true, if_neg]
      rfl
    | succ q ihq =>
      intro x fs k hq
      by_cases hf : fs = []
      · subst hf; exact ihq x [] k (by simp)
      · obtain ⟨gs, f, rfl⟩ : ∃ gs f, fs = gs ++ [f] := ⟨fs.dropLast, fs.getLast hf, (List.dropLast_concat_getLast hf).symm⟩
        have ht : truV (.loc st.length) (S (gs ++ [f])) = some true := by
          have := tru_lst st ((gs ++ [f]).map encF)
          rw [List.isEmpty_map, show (gs ++ [f]).isEmpty = false by simp] at this
          exact this
        have hp : popV (.loc st.length) [] (S (gs ++ [f])) = .ok (encF f) (S gs) := by
          show popV (.loc st.length) [] (st ++ [.lst ((gs ++ [f]).map encF)]) = _
          rw [List.map_append]
          exact pop_snoc st (gs.map encF) (encF f)
        have hj := joined_ok f x (S gs)
        have ty := isl (gs ++ [f])
        have hb : P (E x k) (S (gs ++ [f])) = .ok (.nx (E (fill f x) k)) (S gs) := by
          rw [← hP, hE, hE]
          generalize S (gs ++ [f]) = Z at *
          generalize S gs = Z' at *
          simp [ty, hp, hj]
        have hc : tru (vr 3) (E x k) (S (gs ++ [f])) = .ok true (S (gs ++ [f])) := by
          rw [hE]
          generalize S (gs ++ [f]) = Z at *
          simp [ht]
        rw [whileW_eq, hc, R.bind_ok, if_pos rfl, hb, R.bind_ok, plug_snoc]
        exact ihq (fill f x) gs k (by simp at hq; omega)
  obtain ⟨x', fs', h1, h2⟩ := W n t [] 0 (by omega) (fun f hf => absurd hf (List.not_mem_nil)) (by show dp t + n ≤ _; exact h)
  rw [show plug [] t = t from rfl] at h1 h2
  have h3 := V fs'.length x' fs' (0 + (run n t).2) (Nat.le_refl _)
  rw [h2] at h3
  have h4 := is_value_ok (run n t).1 (S [])
  have hu := enc_under st.length (run n t).1
  have hS : S [] = st ++ [.lst []] := rfl
  rw [hS] at h1 h3 h4
  rw [hE] at h1 h3
  rw [hE, Nat.zero_add] at h3
  rw [Nat.zero_add] at h1
  rw [hE] at h1
  generalize (run n t).2 = c at *
  rw [show startM 5 [enc t, .int n] = [some (enc t), some (.int n), none, none, none] from rfl]
  cases hv : val (run n t).1 with
  | false =>
    rw [hv] at h4
    generalize enc (run n t).1 = Y at *
    generalize S fs' = Z at *
    simp only [r_seqS, r_setS, r_vr, List.getElem?_cons_zero, List.getElem?_cons_succ, R.bind_ok, List.set_cons_zero, List.set_cons_succ, r_lstE, r_nilA, List.length_nil, Nat.zero_le, if_true, r_ct]
    rw [show ((0 : Int)) = ((0 : Nat) : Int) from rfl, h1]
    simp [h3, h4, truB]
    exact gc_flat (by simp [hu])
  | true =>
    rw [hv] at h4
    generalize enc (run n t).1 = Y at *
    generalize S fs' = Z at *
    simp only [r_seqS, r_setS, r_vr, List.getElem?_cons_zero, List.getElem?_cons_succ, R.bind_ok, List.set_cons_zero, List.set_cons_succ, r_lstE, r_nilA, List.length_nil, Nat.zero_le, if_true, r_ct]
    rw [show ((0 : Int)) = ((0 : Nat) : Int) from rfl, h1]
    simp [h3, h4, truB]
    exact gc_flat (by simp [hu])
end Law
set_option maxHeartbeats 0
namespace M
theorem forGo_step {g : MG} {b : MS} {gs : List (Nat × MO)} {d : D} {r : List D} {env env1 env2 : MEnv} {st st1 st2 : Stor} (ho : okG gs st) (hg : g d env st = .ok env1 st1) (hb : b env1 st1 = .ok (.nx env2) st2) :
    forGo g b gs (d :: r) env st = forGo g b gs r env2 st2 := by
  rw [forGo, if_pos ho, hg, R.bind_ok, hb, R.bind_ok]
theorem forGo_end {g : MG} {b : MS} {gs : List (Nat × MO)} {env : MEnv} {st : Stor} (ho : okG gs st) : forGo g b gs [] env st = .ok (.nx env) st := by
  rw [forGo, if_pos ho]
namespace Tr
/-- a tree's parts, each ahead of its own, the right ones first -/
def ordr : Tr → List Tr
  | .lf s => [.lf s]
  | .jn l r => .jn l r :: (ordr r ++ ordr l)
def nds : Tr → Nat
  | .lf _ => 1
  | .jn l r => nds l + nds r + 1
theorem nds_lv (t : Tr) : nds t + 1 = 2 * lv t := by
  induction t with
  | lf s => rfl
  | jn l r h1 h2 => rw [nds, lv]; omega
theorem ordr_len (t : Tr) : (ordr t).length = nds t := by
  induction t with
  | lf s => rfl
  | jn l r h1 h2 => rw [ordr, nds, List.length_cons, List.length_append, h1, h2]; omega
def ndW (W : List Tr) : Nat := (W.map nds).sum
def ordW (W : List Tr) : List Tr := (W.reverse.map ordr).flatten
theorem ndW_snoc (W : List Tr) (t : Tr) : ndW (W ++ [t]) = ndW W + nds t := by simp [ndW]
theorem ordW_snoc (W : List Tr) (t : Tr) : ordW (W ++ [t]) = ordr t ++ ordW W := by simp [ordW]
theorem nds_pos (t : Tr) : 0 < nds t := by cases t <;> simp [nds]
theorem ndW_len (W : List Tr) : W.length ≤ ndW W := by
  induction W with
  | nil => simp [ndW]
  | cons y W ih => have := nds_pos y; simp [ndW] at ih ⊢; omega
end Tr
end M
namespace Law
open L2 M Tr
theorem popTop (st : Stor) (O : List D) (ds : List D) (d : D) : popV (.loc (st.length + 1)) [] (st ++ [.lst O, .lst (ds ++ [d])]) = .ok d (st ++ [.lst O, .lst ds]) := by simp [popV]
theorem popTop2 (st : Stor) (O P : List D) (ds : List D) (d : D) : popV (.loc (st.length + 2)) [] (st ++ [.lst O, .lst P, .lst (ds ++ [d])]) = .ok d (st ++ [.lst O, .lst P, .lst ds]) := by simp [popV]
theorem folded_ok (f : Tr → D) (P : Tr → Prop) (a b j1 j2 : Nat) (da db : List D) (t : Tr) (st : Stor)
    (ha : st[a]? = some (.clo j1 (Lam j1) da)) (hb : st[b]? = some (.clo j2 (Lam j2) db)) (hsz : lv t ≤ 400000)
    (hf : ∀ (u : Tr) (n : Nat), under n (f u)) (hP : P t) (hPP : ∀ l r, P (.jn l r) → P l ∧ P r)
    (h1 : ∀ (s : List Nat) (g : Stor), P (.lf s) → GL j1 (da ++ [enc (.lf s)]) (hideS (st ++ g)) = .ok (f (.lf s)) (hideS (st ++ g)))
    (h2 : ∀ (l r : Tr) (g : Stor), P (.jn l r) → GL j2 (db ++ [enc (.jn l r), f l, f r]) (hideS (st ++ g)) = .ok (f (.jn l r)) (hideS (st ++ g))) :
    F_p_folded [enc t, .loc a, .loc b] st = .ok (f t) st := by
  have hN : nds t ≤ 800000 := by have := nds_lv t; omega
  unfold F_p_folded gcF fnM b_p_folded
  generalize hB1 : (seqS (setS 5 (meth0E "list" popV (vr 4))) _ : MS) = B1
  generalize hB2 : (ifS (tru (op1 (isV "str") (vr 5))) _ _ : MS) = B2
  let E : Option D → MEnv := fun a5 => [some (enc t), some (.loc a), some (.loc b), some (.loc st.length), some (.loc (st.length + 1)), a5, none, none, none]
  let S : List Tr → List Tr → Stor := fun O W => st ++ [.lst (O.map enc), .lst (W.map enc)]
  -- the first loop
  have loop1 : ∀ (k : Nat) (O W : List Tr) (a5 : Option D), ndW W ≤ k → O.length + ndW W ≤ 800000 → ∃ a5', whileW (tru (vr 4)) B1 (E a5) (S O W) = .ok (.nx (E a5')) (S (O ++ ordW W) []) := by
    intro k
    induction k with
    | zero =>
      intro O W a5 hk _
      have hw := ndW_len W
      cases W with
      | nil =>
        refine ⟨a5, ?_⟩
        rw [whileW_eq]
        simp [E, S, truV, ordW]
      | cons x W => simp at hw; omega
    | succ k ih =>
      intro O W a5 hk hO
      have hw := ndW_len W
      rcases List.eq_nil_or_concat W with rfl | ⟨W, x, rfl⟩
      · refine ⟨a5, ?_⟩
        rw [whileW_eq]
        simp [E, S, truV, ordW]
      · rw [List.concat_eq_append] at *
        rw [ndW_snoc] at hk hO hw
        have hx := nds_pos x
        rw [List.length_append, List.length_singleton] at hw
        have hl := ndW_len W
        have c1 : tru (vr 4) (E a5) (S O (W ++ [x])) = .ok true (S O (W ++ [x])) := by simp [E, S, truV]
        cases x with
        | lf s =>
          obtain ⟨a5', e⟩ := ih (O ++ [.lf s]) W (some (enc (.lf s))) (by simp [nds] at hk; omega) (by simp [nds] at hO ⊢; omega)
          refine ⟨a5', ?_⟩
          have b1 : B1 (E a5) (S O (W ++ [.lf s])) = .ok (.nx (E (some (enc (.lf s))))) (S (O ++ [.lf s]) W) := by
            rw [← hB1]
            have q1 := popTop st (O.map enc) (W.map enc) (enc (.lf s))
            have hOl : (O.map enc).length < 1000000 := by rw [List.length_map]; omega
            simp only [E, S, List.map_append, List.map_cons, List.map_nil]
            generalize O.map enc = O' at *
            generalize W.map enc = W' at *
            rw [show enc (.lf s) = .str s from rfl] at *
            simp [isTy, q1, appendV, hOl, subTy, truV]
          rw [whileW_eq, c1, R.bind_ok, if_pos rfl, b1, R.bind_ok]
          dsimp only
          rw [e, ordW_snoc, ordr, List.append_assoc]
        | jn l r =>
          have ew : ndW ((W ++ [l]) ++ [r]) = ndW W + nds l + nds r := by rw [ndW_snoc, ndW_snoc]
          have hl1 := nds_pos l
          have hr1 := nds_pos r
          rw [nds] at hk hO hw
          obtain ⟨a5', e⟩ := ih (O ++ [.jn l r]) ((W ++ [l]) ++ [r]) (some (enc (.jn l r))) (by rw [ew]; omega) (by rw [ew, List.length_append, List.length_singleton]; omega)
          refine ⟨a5', ?_⟩
          have b1 : B1 (E a5) (S O (W ++ [.jn l r])) = .ok (.nx (E (some (enc (.jn l r))))) (S (O ++ [.jn l r]) ((W ++ [l]) ++ [r])) := by
            rw [← hB1]
            have q1 := popTop st (O.map enc) (W.map enc) (enc (.jn l r))
            have hOl : (O.map enc).length < 1000000 := by rw [List.length_map]; omega
            have hWl : (W.map enc).length < 1000000 := by rw [List.length_map]; omega
            have hWl2 : (W.map enc ++ [enc l]).length < 1000000 := by rw [List.length_append, List.length_map, List.length_singleton]; omega
            have x0 : ∀ s, ixV (enc (.jn l r)) (.int 0) s = .ok (enc l) s := fun s => by rw [enc]; exact r_ix_tup s 0 _ _ rfl
            have x1 : ∀ s, ixV (enc (.jn l r)) (.int 1) s = .ok (enc r) s := fun s => by rw [enc]; exact r_ix_tup s 1 _ _ rfl
            have is1 := enc_is_str (.jn l r)
            simp only [E, S, List.map_append, List.map_cons, List.map_nil]
            generalize O.map enc = O' at *
            generalize W.map enc = W' at *
            generalize enc (.jn l r) = J at *
            generalize enc l = L at *
            generalize enc r = R' at *
            simp only [List.length_append, List.length_singleton] at hWl2
            simp [isTy, q1, appendV, hOl, is1, truV, x0, x1, hWl, hWl2]
          rw [whileW_eq, c1, R.bind_ok, if_pos rfl, b1, R.bind_ok]
          dsimp only
          rw [e, ordW_snoc, ordW_snoc, ordW_snoc, ordr]
          simp
  obtain ⟨a5, e1⟩ := loop1 (ndW [t]) [] [t] none (Nat.le_refl _) (by simp [ndW]; omega)
  have eo : ordW [t] = ordr t := by simp [ordW]
  rw [List.nil_append, eo] at e1
  -- the second loop
  let O := (ordr t).map enc
  let E2 : Option D → Option D → Option D → MEnv := fun a5 a7 a8 => [some (enc t), some (.loc a), some (.loc b), some (.loc st.length), some (.loc (st.length + 1)), a5, some (.loc (st.length + 2)), a7, a8]
  let S2 : List D → Stor := fun T => st ++ [.lst O, .lst [], .lst T]
  have hS2a : ∀ T, (S2 T)[a]? = some (.clo j1 (Lam j1) da) := fun T => get_app ha
  have hS2b : ∀ T, (S2 T)[b]? = some (.clo j2 (Lam j2) db) := fun T => get_app hb
  have loop2 : ∀ (u : Tr), P u → ∀ (rest T : List D) (a5 a7 a8 : Option D), T.length + nds u ≤ 900000 →
      ∃ a5' a7' a8', forGo (nameG 5) B2 [(st.length, .lst O)] ((ordr u).reverse.map enc ++ rest) (E2 a5 a7 a8) (S2 T) = forGo (nameG 5) B2 [(st.length, .lst O)] rest (E2 a5' a7' a8') (S2 (T ++ [f u])) := by
    intro u
    induction u with
    | lf s =>
      intro hp rest T a5 a7 a8 hT
      refine ⟨some (enc (.lf s)), a7, a8, ?_⟩
      refine forGo_step (env1 := E2 (some (enc (.lf s))) a7 a8) (st1 := S2 T) (by simp [S2]) rfl ?_
      rw [← hB2]
      have hA : consA (vr 5) nilA (E2 (some (enc (.lf s))) a7 a8) (S2 T) = .ok [enc (.lf s)] (S2 T) := by simp [E2]
      have c1 := r_callC (Λ := Lam) (G := GL) (i := 1) (env := E2 (some (enc (.lf s))) a7 a8) (st := S2 T) (n := a) rfl (hS2a T) hA (hS2a T) (h1 s _ hp) (hf _ _)
      have hTl : T.length < 1000000 := by omega
      generalize f (.lf s) = F at *
      rw [show enc (.lf s) = .str s from rfl] at *
      simp only [E2, S2] at c1 ⊢
      generalize O = O' at *
      simp [subTy, truV, isTy, c1, appendV, hTl]
    | jn l r ihl ihr =>
      intro hp rest T a5 a7 a8 hT
      obtain ⟨pl, pr⟩ := hPP l r hp
      rw [nds] at hT
      rw [ordr, List.reverse_cons, List.reverse_append, List.map_append, List.map_append, List.append_assoc, List.append_assoc]
      obtain ⟨b5, b7, b8, q1⟩ := ihl pl ((ordr r).reverse.map enc ++ ([Tr.jn l r].map enc ++ rest)) T a5 a7 a8 (by omega)
      obtain ⟨c5, c7, c8, q2⟩ := ihr pr ([Tr.jn l r].map enc ++ rest) (T ++ [f l]) b5 b7 b8 (by simp; omega)
      rw [q1, q2]
      refine ⟨some (enc (.jn l r)), some (f r), some (f l), ?_⟩
      refine forGo_step (env1 := E2 (some (enc (.jn l r))) c7 c8) (st1 := S2 (T ++ [f l] ++ [f r])) (by simp [S2]) rfl ?_
      rw [← hB2]
      have hA : consA (vr 5) (consA (vr 8) (consA (vr 7) nilA)) (E2 (some (enc (.jn l r))) (some (f r)) (some (f l))) (S2 T) = .ok [enc (.jn l r), f l, f r] (S2 T) := by simp [E2]
      have c1 := r_callC (Λ := Lam) (G := GL) (i := 2) (env := E2 (some (enc (.jn l r))) (some (f r)) (some (f l))) (st := S2 T) (n := b) rfl (hS2b T) hA (hS2b T) (h2 l r _ hp) (hf _ _)
      have hTl : T.length < 1000000 := by omega
      have is1 := enc_is_str (.jn l r)
      have p1 := popTop2 st O [] (T ++ [f l]) (f r)
      have p2 := popTop2 st O [] T (f l)
      simp only [E2, S2] at c1 ⊢
      generalize enc (.jn l r) = J at *
      generalize f (.jn l r) = F at *
      generalize f l = FL at *
      generalize f r = FR at *
      generalize O = O' at *
      simp only [List.append_assoc, List.singleton_append] at p1
      simp [is1, truV, isTy, c1, appendV, hTl, p1, p2]
  obtain ⟨b5, b7, b8, e2⟩ := loop2 t hP [] [] a5 none none (by simp; omega)
  rw [List.append_nil, List.nil_append, forGo_end (by simp [S2])] at e2
  have hu := hf t st.length
  have ix0 : ixV (.loc (st.length + 2)) (.int 0) (S2 [f t]) = .ok (f t) (S2 [f t]) := by simp [S2, ixV, atI, ixN]
  have lg : lstG (S2 []) st.length = some (O, .lst O) := by simp [S2, lstG]
  rw [show startM 9 [enc t, D.loc a, .loc b] = [some (enc t), some (.loc a), some (.loc b), none, none, none, none, none, none] from rfl]
  rw [List.map_reverse] at e2
  simp only [E, S, E2, S2, List.map_nil, List.map_cons] at e1 e2 lg ix0
  change _ = R.ok _ (st ++ [.lst O, .lst []]) at e1
  change forGo (nameG 5) B2 [(st.length, .lst O)] O.reverse _ _ = _ at e2
  generalize O = O' at *
  generalize enc t = X at *
  simp [e1, e2, lg, ix0]
  exact gc_flat hu
end Law
set_option maxHeartbeats 0
namespace M
namespace Tr
/-- a name taken out, where it stands there, or what is in front is no value; and the cost -/
def orC (o : Option (Tr × Nat)) (p : Tr) : Tr × Nat := match o with | some x => x | none => (.jn tK p, 1)
def isLf (x : List Nat) : Tr → Bool
  | .lf s => decide (s = x)
  | .jn _ _ => false
def outF (x : List Nat) : Tr → Option (Tr × Nat)
  | .lf s => if s = x then some (tI, 2) else none
  | .jn l r => if (outF x l).isNone && (outF x r).isNone && val (.jn l r) then none
    else if (outF x l).isNone && isLf x r then some (l, 0)
    else some (.jn (.jn tS (orC (outF x l) l).1) (orC (outF x r) r).1, 1 + (orC (outF x l) l).2 + (orC (outF x r) r).2)
def out (x : List Nat) (t : Tr) : Tr × Nat := orC (outF x t) t
end Tr
open Tr
def encO : Option (Tr × Nat) → D
  | none => .non
  | some (t, n) => .tup [enc t, .int n]
theorem encO_under (n : Nat) (o : Option (Tr × Nat)) : under n (encO o) := by
  cases o with
  | none => simp [encO]
  | some p => simp [encO, enc_under]
def encC (p : Tr × Nat) : D := .tup [enc p.1, .int p.2]
theorem isNone_encO (o : Option (Tr × Nat)) (st : Stor) : isNoneV (encO o) .non st = .ok (.bl o.isNone) st := by
  cases o with
  | none => rfl
  | some p => rfl
theorem r_eq_isLf (x : List Nat) (t : Tr) (st : Stor) : eqV 800 (enc t) (.str x) st = .ok (.bl (isLf x t)) st := by
  have := r_eq_enc 799 t x st
  cases t with
  | lf s => exact this
  | jn l r => exact this
end M
namespace Law
open L2 M Tr
theorem leaf_taken_ok (x s : List Nat) (st : Stor) : F_p_leaf_taken [.str x, .str s] st = .ok (encO (outF x (.lf s))) st := by
  have hu := encO_under st.length (outF x (.lf s))
  unfold F_p_leaf_taken gcF fnM b_p_leaf_taken
  rw [outF] at *
  by_cases h : s = x
  · rw [if_pos h] at *
    subst h
    simp [startM, encO]
    rw [show enc tI = .tup [.tup [.str [83], .str [75], .int 2, .bl true], .str [75], .int 3, .bl true] from rfl]
    exact gc_same (by simp)
  · rw [if_neg h] at *
    simp [startM, encO, h, gc_same]
theorem or_constant_ok (o : Option (Tr × Nat)) (p : Tr) (st : Stor) : F_p_or_constant [encO o, enc p] st = .ok (encC (orC o p)) st := by
  have j : F_p_joint [.str [75], enc p] st = .ok (enc (.jn tK p)) st := joint_ok tK p st
  have hn := isNone_encO o st
  unfold F_p_or_constant gcF fnM b_p_or_constant
  cases o with
  | none =>
    have hu := enc_under st.length (.jn tK p)
    simp only [orC, encC]
    rw [show encO none = .non from rfl] at *
    generalize enc (.jn tK p) = W at *
    simp [startM, j]
    (refine gc_same ?_; simp [hu])
  | some q =>
    have hu := encO_under st.length (some q)
    simp only [orC]
    rw [show encO (some q) = encC q from rfl] at *
    generalize encC q = W at *
    simp [startM, hn]
    exact gc_same hu
theorem joint_taken_ok (x : List Nat) (l r : Tr) (st : Stor) : F_p_joint_taken [.str x, enc (.jn l r), encO (outF x l), encO (outF x r)] st = .ok (encO (outF x (.jn l r))) st := by
  have n1 := isNone_encO (outF x l) st
  have n2 := isNone_encO (outF x r) st
  have v1 := is_value_ok (.jn l r) st
  have x0 : ixV (enc (.jn l r)) (.int 0) st = .ok (enc l) st := by rw [enc]; exact r_ix_tup st 0 _ _ rfl
  have x1 : ixV (enc (.jn l r)) (.int 1) st = .ok (enc r) st := by rw [enc]; exact r_ix_tup st 1 _ _ rfl
  have q1 := r_eq_isLf x r st
  have o1 := or_constant_ok (outF x l) l st
  have o2 := or_constant_ok (outF x r) r st
  have j1 : F_p_joint [.str [83], enc (orC (outF x l) l).1] st = .ok (enc (.jn tS (orC (outF x l) l).1)) st := joint_ok tS _ st
  have j2 := joint_ok (.jn tS (orC (outF x l) l).1) (orC (outF x r) r).1 st
  have hu := encO_under st.length (outF x (.jn l r))
  have i10 : ixV (encC (orC (outF x l) l)) (.int 0) st = .ok (enc (orC (outF x l) l).1) st := by rw [encC]; exact r_ix_tup st 0 _ _ rfl
  have i11 : ixV (encC (orC (outF x l) l)) (.int 1) st = .ok (.int ((orC (outF x l) l).2 : Nat)) st := by rw [encC]; exact r_ix_tup st 1 _ _ rfl
  have i20 : ixV (encC (orC (outF x r) r)) (.int 0) st = .ok (enc (orC (outF x r) r).1) st := by rw [encC]; exact r_ix_tup st 0 _ _ rfl
  have i21 : ixV (encC (orC (outF x r) r)) (.int 1) st = .ok (.int ((orC (outF x r) r).2 : Nat)) st := by rw [encC]; exact r_ix_tup st 1 _ _ rfl
  unfold F_p_joint_taken gcF fnM b_p_joint_taken
  rw [outF] at hu ⊢
  generalize (outF x l) = ol at *
  generalize (outF x r) = or' at *
  generalize val (.jn l r) = vv at *
  generalize isLf x r = il at *
  have fin1 : (if ol.isNone && or'.isNone && vv then (none : Option (Tr × Nat)) else if ol.isNone && il then some (l, 0) else some (.jn (.jn tS (orC ol l).1) (orC or' r).1, 1 + (orC ol l).2 + (orC or' r).2)) = (if ol.isNone && or'.isNone && vv then (none : Option (Tr × Nat)) else if ol.isNone && il then some (l, 0) else some (.jn (.jn tS (orC ol l).1) (orC or' r).1, 1 + (orC ol l).2 + (orC or' r).2)) := rfl
  have u1 := enc_under st.length l
  have u2 := enc_under st.length (.jn (.jn tS (orC ol l).1) (orC or' r).1)
  by_cases c1 : (ol.isNone && or'.isNone && vv) = true
  · rw [if_pos c1]
    simp only [Bool.and_eq_true] at c1
    rw [c1.1.1] at n1; rw [c1.1.2] at n2; rw [c1.2] at v1
    generalize encO ol = OL at *
    generalize encO or' = OR at *
    generalize enc (.jn l r) = J at *
    simp [startM, n1, n2, v1, truV, encO, gc_same]
  · rw [if_neg c1]
    by_cases c2 : (ol.isNone && il) = true
    · rw [if_pos c2]
      simp only [Bool.and_eq_true] at c2
      rw [c2.1] at n1 c1; rw [c2.2] at q1
      have c1' : or'.isNone = true → vv = false := fun h => by rw [h] at c1; simpa using c1
      generalize or'.isNone = o2n at *
      rw [show encO (some (l, 0)) = .tup [enc l, .int 0] from rfl]
      generalize encO ol = OL at *
      generalize encO or' = OR at *
      generalize enc (.jn l r) = J at *
      generalize enc l = EL at *
      cases o2n with
      | true =>
        rw [c1' rfl] at v1
        simp [startM, n1, n2, v1, truV, x0, x1, q1]
        (refine gc_same ?_; simp [u1])
      | false =>
        simp [startM, n1, n2, truV, x0, x1, q1]
        (refine gc_same ?_; simp [u1])
    · rw [if_neg c2]
      rw [show encO (some (Tr.jn (.jn tS (orC ol l).1) (orC or' r).1, 1 + (orC ol l).2 + (orC or' r).2)) = .tup [enc (.jn (.jn tS (orC ol l).1) (orC or' r).1), .int ((1 + (orC ol l).2 + (orC or' r).2 : Nat) : Int)] from rfl]
      generalize hC1 : orC ol l = C1 at *
      generalize hC2 : orC or' r = C2 at *
      generalize encO ol = OL at *
      generalize encO or' = OR at *
      generalize ol.isNone = o1n at *
      generalize or'.isNone = o2n at *
      generalize enc (.jn (.jn tS C1.1) C2.1) = W at *
      generalize enc (.jn tS C1.1) = W1 at *
      generalize enc C1.1 = W2 at *
      generalize enc C2.1 = W3 at *
      generalize encC C1 = Z1 at *
      generalize encC C2 = Z2 at *
      generalize enc (.jn l r) = J at *
      generalize enc l = EL at *
      generalize enc r = ER at *
      cases o1n <;> cases o2n <;> cases vv <;> cases il <;> first
        | (exact absurd rfl c1)
        | (exact absurd rfl c2)
        | (simp [startM, n1, n2, v1, truV, x0, x1, q1, o1, o2, i10, i11, i20, i21, j1, j2]; refine gc_same ?_; simp [u2])
theorem out_and_cost_ok (x : List Nat) (t : Tr) (st : Stor) (ht : st[1]? = some (.tab "out_and_cost")) (hc : noClo st) (hl : lv t ≤ 400000) : F_p_out_and_cost [.str x, enc t] st = .ok (encC (out x t)) st := by
  have f1 : F_p_folded [enc t, .loc st.length, .loc (st.length + 1)] (st ++ [.clo 0 (Lam 0) [.str x], .clo 1 (Lam 1) [.str x]]) = .ok (encO (outF x t)) (st ++ [.clo 0 (Lam 0) [.str x], .clo 1 (Lam 1) [.str x]]) := by
    refine folded_ok (fun u => encO (outF x u)) (fun _ => True) st.length (st.length + 1) 0 1 [.str x] [.str x] t _ (by simp) (by simp) hl (fun u n => encO_under n _) trivial (fun _ _ _ => ⟨trivial, trivial⟩) ?_ ?_
    · intro s g _
      have h := leaf_taken_ok x s (hideS (st ++ [.clo 0 (Lam 0) [.str x], .clo 1 (Lam 1) [.str x]] ++ g))
      generalize hideS (st ++ [.clo 0 (Lam 0) [.str x], .clo 1 (Lam 1) [.str x]] ++ g) = Z at *
      rw [show enc (.lf s) = .str s from rfl]
      simp [GL, lamN, e_0, h]
    · intro l r g _
      have h := joint_taken_ok x l r (hideS (st ++ [.clo 0 (Lam 0) [.str x], .clo 1 (Lam 1) [.str x]] ++ g))
      generalize hideS (st ++ [.clo 0 (Lam 0) [.str x], .clo 1 (Lam 1) [.str x]] ++ g) = Z at *
      generalize enc (.jn l r) = J at *
      simp [GL, lamN, e_1, h]
  have o1 := or_constant_ok (outF x t) t st
  have hu : under st.length (encC (out x t)) := by simp [encC, enc_under]
  have c1 := r_callLm (Λ := Lam) (F := F_p_folded) (dd := []) (m := consL (vr 1) (lamL 0 [0] 1 "out_and_cost" (lamL 1 [0] 1 "out_and_cost" nilL))) (env := [some (.str x), some (enc t), none]) (st := st) (st1 := st) (st2 := st) (as := [.v (enc t), .l 0 [0], .l 1 [0]]) (ds := [enc t, .loc st.length, .loc (st.length + 1)]) (os := [.clo 0 (Lam 0) [.str x], .clo 1 (Lam 1) [.str x]]) (d := encO (outF x t))
    (by simp [consL, lamL, nilL, ht]) hc (by simp [placeL, capD]) (by rw [List.append_nil, f1]; exact gc_flat (encO_under _ _)) hc
  unfold F_p_out_and_cost gcF fnM b_p_out_and_cost
  rw [show startM 3 [D.str x, enc t] = [some (.str x), some (enc t), none] from rfl]
  unfold out at hu ⊢
  generalize callLm Lam F_p_folded [] (consL (vr 1) (lamL 0 [0] 1 "out_and_cost" (lamL 1 [0] 1 "out_and_cost" nilL))) = CL at c1 ⊢
  generalize encC (orC (outF x t) t) = W at *
  generalize encO (outF x t) = W2 at *
  generalize enc t = X at *
  simp [c1, o1]
  exact gc_same hu
theorem taken_out_ok (x : List Nat) (t : Tr) (st : Stor) (ht : st[1]? = some (.tab "out_and_cost")) (hc : noClo st) (hl : lv t ≤ 400000) : F_p_taken_out [.str x, enc t] st = .ok (enc (out x t).1) st := by
  have h := out_and_cost_ok x t st ht hc hl
  have x0 : ixV (encC (out x t)) (.int 0) st = .ok (enc (out x t).1) st := by rw [encC]; exact r_ix_tup st 0 _ _ rfl
  have hu := enc_under st.length (out x t).1
  unfold F_p_taken_out gcF fnM b_p_taken_out
  generalize enc (out x t).1 = W at *
  generalize encC (out x t) = W2 at *
  generalize enc t = X at *
  simp [startM, h, x0]
  exact gc_same hu
end Law
set_option maxHeartbeats 0
namespace M
namespace Tr
theorem outF_unas : ∀ m, outF [120] (unas m (.lf [120])) = some (pkT m, pkC m)
  | 0 => by rw [unas, outF, if_pos rfl]; rfl
  | 1 => by rw [unas, unas, outF, outF, outF, if_pos rfl, if_neg (by decide)]; rfl
  | m + 2 => by
    have ih := outF_unas (m + 1)
    rw [unas, outF, ih]
    have h0 : outF [120] tK = none := by rw [outF, if_neg (by decide)]
    have h1 : isLf [120] (unas (m + 1) (.lf [120])) = false := rfl
    rw [h0, h1]
    simp [orC, pkT, pkC]
theorem out_unas (m : Nat) : out [120] (unas m (.lf [120])) = (pkT m, pkC m) := by unfold out; rw [outF_unas]; rfl
theorem lv_unas (v : Tr) : ∀ n, lv (unas n v) = lv v + n
  | 0 => rfl
  | n + 1 => by rw [unas, lv, lv_unas v n, show lv tK = 1 from rfl]; omega
end Tr
end M
namespace Law
open L2 M Tr
theorem unas_succ (n : Nat) (v : Tr) : unas (n + 1) v = .jn tK (unas n v) := rfl
theorem unasked_ok (n : Nat) (v : Tr) (st : Stor) (hn : n ≤ 1000000) : F_p_unasked [.int n, enc v] st = .ok (enc (unas n v)) st := by
  unfold F_p_unasked gcF fnM b_p_unasked
  generalize hB : (setS 2 (callF F_p_joint [] _) : MS) = B
  obtain ⟨env', st', h1, a3, rfl, rfl⟩ := forGo_ix (g := nameG 3) (b := B) (gs := []) (items := upto 0 n)
    (fun i env s => ∃ (a3 : Option D), env = [some (.int n), some (enc v), some (enc (unas i v)), a3] ∧ s = st)
    (env := [some (.int n), some (enc v), some (enc v), none]) (st := st) ⟨none, rfl, rfl⟩ (by
      rintro i d env s hi ⟨a3, rfl, rfl⟩
      obtain ⟨hi', rfl⟩ := upto_get hi
      have j1 : F_p_joint [.str [75], enc (unas i v)] s = .ok (enc (unas (i + 1) v)) s := joint_ok tK _ s
      refine ⟨by simp, _, _, rfl, [some (.int n), some (enc v), some (enc (unas (i + 1) v)), some (.int (0 + (i : Int)))], s, .inl ?_, _, rfl, rfl⟩
      rw [← hB]
      generalize enc (unas (i + 1) v) = W at *
      generalize enc (unas i v) = W1 at *
      generalize enc v = V at *
      simp [j1]) (fun _ _ _ => by simp)
  rw [upto_len] at h1
  have hu := enc_under st'.length (unas n v)
  have hr1 : -4611686018427387904 ≤ (n : Int) := by omega
  have hr2 : (n : Int) < 4611686018427387904 := by omega
  rw [show startM 4 [D.int n, enc v] = [some (.int n), some (enc v), none, none] from rfl]
  generalize enc (unas n v) = W at *
  generalize enc v = V at *
  simp [hr1, hr2, h1]
  exact gc_same hu
theorem pick_ok (k many : Nat) (st : Stor) (ht : st[1]? = some (.tab "out_and_cost")) (hc : noClo st) (hk : k < many) (hm : many ≤ 300000) : F_p_pick [.int k, .int many] st = .ok (enc (pickT k many)) st := by
  have u1 : F_p_unasked [.int ((many - 1 - k : Nat) : Int), .str [120]] st = .ok (enc (unas (many - 1 - k) (.lf [120]))) st := unasked_ok (many - 1 - k) (.lf [120]) st (by omega)
  have t1 := taken_out_ok [120] (unas (many - 1 - k) (.lf [120])) st ht hc (by rw [lv_unas, show lv (.lf [120]) = 1 from rfl]; omega)
  rw [out_unas] at t1
  have u2 := unasked_ok k (pkT (many - 1 - k)) st (by omega)
  have hu := enc_under st.length (pickT k many)
  have e1 : (many : Int) - 1 - (k : Int) = ((many - 1 - k : Nat) : Int) := by omega
  unfold F_p_pick gcF fnM b_p_pick
  unfold pickT at hu ⊢
  generalize many - 1 - k = m at *
  generalize enc (unas k (pkT m)) = W at *
  generalize enc (unas m (.lf [120])) = W1 at *
  generalize enc (pkT m) = W2 at *
  simp [startM, e1, u1, t1, u2]
  exact gc_same hu
end Law
set_option maxHeartbeats 0
namespace M
namespace Tr
theorem encI : enc tI = .tup [.tup [.str [83], .str [75], .int 2, .bl true], .str [75], .int 3, .bl true] := by rfl
def listT : List Tr → Tr
  | [] => tK
  | t :: ts => .jn tK (hold [t, listT ts])
theorem val_listT : ∀ {ts : List Tr}, (∀ t ∈ ts, val t = true) → val (listT ts) = true
  | [], _ => rfl
  | t :: ts, h => by
    have ih := val_listT (ts := ts) fun x hx => h x (by simp [hx])
    rw [listT, val_K]
    exact val_hold (by simp [h t (by simp), ih])
end Tr
end M
namespace Law
open L2 M Tr
theorem kept_ok (t : Tr) (st : Stor) (h : val t = true) : F_p_kept [enc t] st = .ok (enc (.jn tK t)) st := by
  have h1 := is_value_ok t st
  have h2 : F_p_joint [.str [75], enc t] st = .ok (enc (.jn tK t)) st := joint_ok tK t st
  have hu := enc_under st.length (.jn tK t)
  rw [h] at h1
  unfold F_p_kept gcF fnM b_p_kept
  generalize enc (.jn tK t) = W at *
  simp [startM, h1, h2, gc_same, hu, truV]
theorem holder_ok (ts : List Tr) (n : Nat) (st : Stor) (h : st[n]? = some (.lst (ts.map enc))) (hv : ∀ t ∈ ts, val t = true) : F_p_holder [.loc n] st = .ok (enc (hold ts)) st := by
  unfold F_p_holder gcF fnM b_p_holder
  rw [← encI]
  generalize hB : (setS 1 (callF F_p_joint [] _) : MS) = B
  obtain ⟨env', st', h1, a2, rfl, rfl⟩ := forGo_ix (g := nameG 2) (b := B) (gs := [(n, .lst (ts.map enc))]) (items := ts.map enc)
    (fun i env s => ∃ (a2 : Option D), env = [some (.loc n), some (enc (hold (ts.take i))), a2] ∧ s = st)
    (env := [some (.loc n), some (enc tI), none]) (st := st) ⟨none, rfl, rfl⟩ (by
      rintro i d env s hi ⟨a2, rfl, rfl⟩
      obtain ⟨t, ht, rfl⟩ := map_get hi
      have e := hold_snoc (ts.take i) t
      have e2 : ts.take (i + 1) = ts.take i ++ [t] := by rw [List.take_add_one, ht]; rfl
      have j1 : F_p_joint [.str [83], enc (hold (ts.take i))] s = .ok (enc (.jn tS (hold (ts.take i)))) s := joint_ok tS _ s
      have j2 := joint_ok (.jn tS (hold (ts.take i))) (.jn tK t) s
      have k1 := kept_ok t s (hv t (List.mem_of_getElem? ht))
      refine ⟨by simp [h], _, _, rfl, [some (.loc n), some (enc (hold (ts.take (i + 1)))), some (enc t)], s, .inl ?_, _, rfl, rfl⟩
      rw [← hB, e2, e]
      generalize enc (.jn (.jn tS (hold (ts.take i))) (.jn tK t)) = W at *
      generalize enc (.jn tS (hold (ts.take i))) = W1 at *
      generalize enc (.jn tK t) = W2 at *
      simp [j1, j2, k1]) (fun _ _ ⟨_, _, q⟩ => by subst q; simp [h])
  rw [List.length_map, List.take_length] at h1
  have hu := enc_under st'.length (hold ts)
  rw [show startM 3 [D.loc n] = [some (.loc n), none, none] from rfl]
  generalize enc tI = W at *
  simp [h, h1, gc_same, hu]
theorem holderN (ts : List Tr) (ds : List D) (e : ds = ts.map enc) (st : Stor) (hv : ∀ t ∈ ts, val t = true) : F_p_holder [.loc st.length] (st ++ [.lst ds]) = .ok (enc (hold ts)) (st ++ [.lst ds]) := by
  subst e
  exact holder_ok ts st.length _ (by simp) hv
end Law
set_option maxHeartbeats 0
namespace Law
open L2 M Tr
def cellI (ns : List Int) (k : Nat) : Int := if k < ns.length then ns.getD k 0 else 0
theorem cell_ok (ns : List Int) (n k : Nat) (st : Stor) (h : itemsAt st n = some (ns.map D.int)) : F_l_cell_at [.loc n, .int k] st = .ok (.int (cellI ns k)) st := by
  unfold F_l_cell_at gcF fnM b_l_cell_at cellI
  by_cases h1 : k < ns.length
  · simp [startM, r_len_loc st n _ h, h1, r_ix_loc st n k _ (.int (ns.getD k 0)) h (by rw [atI_ofNat]; simp [h1]), gc_same]
  · simp [startM, r_len_loc st n _ h, h1, gc_same]
theorem cut_len2 {α : Type} (l : List α) (a m : Nat) : (cut l (some (a : Int)) (some ((a : Int) + (m : Int)))).length ≤ m := by
  unfold cut
  rw [show (a : Int) + (m : Int) = ((a + m : Nat) : Int) by omega, HT.sIx_nat, HT.sIx_nat, List.length_take]
  omega
theorem draws_ok (ns : List Int) (n a m b : Nat) (st : Stor) (h : itemsAt st n = some (ns.map D.int)) (hn : ns.length ≤ 63) (hm : 0 < m) (hm2 : m ≤ 63) (hb : 0 < b) (hb2 : b ≤ 1000) :
    ∃ xs : List Int, xs.length ≤ m ∧ F_l_draws [.loc n, .int a, .int m, .int b] st = .ok (.loc st.length) (st ++ [.lst (xs.map D.int)]) := by
  have c0 : F_l_cell_at [.loc n, .int 0] st = .ok (.int (cellI ns 0)) st := cell_ok ns n 0 st h
  have ca : F_l_cell_at [.loc n, .int a] st = .ok (.int (cellI ns a)) st := cell_ok ns n a st h
  generalize cellI ns 0 = w0 at c0
  generalize cellI ns a = w at ca
  have m1 : ∀ s, mulV (.int w0) (.int 7919) s = .ok (.int (w0 * 7919)) s := fun s => r_mul_int s _ _ (by omega)
  unfold F_l_draws gcF fnM b_l_draws
  generalize hb1 : (seqS (exprS (methE "list" appendV (vr 6) (consA (op2 modV (vr 5) (vr 3)) nilA))) _ : MS) = B1
  generalize hb2 : (seqS (setS 8 (op2 modV (op2 addV _ _) _)) _ : MS) = B2
  rw [show startM 9 [D.loc n, .int a, .int m, .int b] = [some (.loc n), some (.int a), some (.int m), some (.int b), none, none, none, none, none] from rfl]
  have e3 : (w0 * 7919 + 13) % 10007 % 3 = 0 ∨ (w0 * 7919 + 13) % 10007 % 3 = 1 ∨ (w0 * 7919 + 13) % 10007 % 3 = 2 := by omega
  rcases e3 with e3 | e3 | e3
  · have s1 : slV (.loc n) (some (a : Int)) (some ((a : Int) + (m : Int))) st = .ok (.loc st.length) (st ++ [.lst ((cut ns (some (a : Int)) (some ((a : Int) + (m : Int)))).map D.int)]) := by simp [slV, h, cut_map]
    have hcl := cut_len2 ns a m
    generalize cut ns (some (a : Int)) (some ((a : Int) + (m : Int))) = xs at s1 hcl
    refine ⟨xs, by omega, ?_⟩
    have hu := unders_ints st.length xs
    generalize xs.map D.int = X at *
    simp [c0, m1, r_mod_int, e3, s1]
    exact gc_new0 hu
  · obtain ⟨env', st', h1, xs, v, a7, hx, rfl, rfl⟩ := forGo_ix (g := nameG 7) (b := B1) (gs := []) (items := upto 0 m)
      (fun i env s => ∃ (xs : List Int) (v : Int) (a7 : Option D), xs.length = i ∧ env = [some (.loc n), some (.int a), some (.int m), some (.int b), some (.int 1), some (.int v), some (.loc st.length), a7, none] ∧ s = st ++ [.lst (xs.map D.int)])
      (env := [some (.loc n), some (.int a), some (.int m), some (.int b), some (.int 1), some (.int w), some (.loc st.length), none, none]) (st := st ++ [.lst []]) ⟨[], w, none, rfl, rfl, rfl⟩ (by
        rintro i d env s hi ⟨xs, v, a7, hx, rfl, rfl⟩
        obtain ⟨hi', rfl⟩ := upto_get hi
        have g1 : ∀ s i, modV (.int i) (.int (b : Int)) s = .ok (.int (i % (b : Int))) s := fun s i => r_mod_int s i _ (by omega)
        have f1 : ∀ s i, fdivV (.int i) (.int (b : Int)) s = .ok (.int (i / (b : Int))) s := fun s i => r_fdiv_int s i _ (by omega)
        have hl : (xs.map D.int).length < 1000000 := by rw [List.length_map]; omega
        refine ⟨by simp, _, _, rfl, [some (.loc n), some (.int a), some (.int m), some (.int b), some (.int 1), some (.int (v / (b : Int))), some (.loc st.length), some (.int (0 + (i : Nat))), none], st ++ [.lst ((xs ++ [v % (b : Int)]).map D.int)], .inl ?_, xs ++ [v % (b : Int)], _, _, by simp [hx], rfl, rfl⟩
        rw [← hb1, List.map_append]
        generalize xs.map D.int = X at *
        simp [g1, f1, isTy, appendV, hl]) (fun _ _ _ => by simp)
    rw [upto_len] at hx
    refine ⟨xs, by omega, ?_⟩
    have hr1 : -4611686018427387904 ≤ (m : Int) := by omega
    have hr2 : (m : Int) < 4611686018427387904 := by omega
    have hu := unders_ints st.length xs
    generalize xs.map D.int = X at *
    simp [c0, m1, r_mod_int, e3, ca, hr1, hr2, h1]
    exact gc_new0 hu
  · obtain ⟨q, hq⟩ : ∃ q : Nat, 1 + w % (m : Int) = (q : Nat) := Int.eq_ofNat_of_zero_le (by have := Int.emod_nonneg w (show (m : Int) ≠ 0 by omega); omega)
    have hq1 : q ≤ m := by
      have := Int.emod_lt_of_pos w (show 0 < (m : Int) by omega)
      omega
    have g0 : ∀ s i, modV (.int i) (.int (m : Int)) s = .ok (.int (i % (m : Int))) s := fun s i => r_mod_int s i _ (by omega)
    obtain ⟨env', st', h1, xs, v, a7, hx, hv1, rfl, rfl⟩ := forGo_ix (g := nameG 7) (b := B2) (gs := []) (items := upto 0 q)
      (fun i env s => ∃ (xs : List Int) (v : Int) (a7 : Option D), xs.length = i ∧ (0 ≤ v ∧ v < 2147483647) ∧ env = [some (.loc n), some (.int a), some (.int m), some (.int b), some (.int 2), some (.int w), some (.loc st.length), a7, some (.int v)] ∧ s = st ++ [.lst (xs.map D.int)])
      (env := [some (.loc n), some (.int a), some (.int m), some (.int b), some (.int 2), some (.int w), some (.loc st.length), none, some (.int (w % 2147483647))]) (st := st ++ [.lst []]) ⟨[], w % 2147483647, none, rfl, by omega, rfl, rfl⟩ (by
        rintro i d env s hi ⟨xs, v, a7, hx, hv, rfl, rfl⟩
        obtain ⟨hi', rfl⟩ := upto_get hi
        have m2 : ∀ s, mulV (.int v) (.int 48271) s = .ok (.int (v * 48271)) s := fun s => r_mul_int s _ _ (by omega)
        have hl : (xs.map D.int).length < 1000000 := by rw [List.length_map]; omega
        generalize hv' : (v * 48271 + 11 + (0 + (i : Int))) % 2147483647 = v'
        have hv2 : 0 ≤ v' ∧ v' < 2147483647 := by omega
        have m3 : ∀ s, mulV (.int (v' / 64)) (.int 69621) s = .ok (.int (v' / 64 * 69621)) s := fun s => r_mul_int s _ _ (by omega)
        refine ⟨by simp, _, _, rfl, [some (.loc n), some (.int a), some (.int m), some (.int b), some (.int 2), some (.int w), some (.loc st.length), some (.int (0 + (i : Nat))), some (.int v')], st ++ [.lst ((xs ++ [v' / 64 * 69621 % 1000003]).map D.int)], .inl ?_, xs ++ [v' / 64 * 69621 % 1000003], _, _, by simp [hx], hv2, rfl, rfl⟩
        rw [← hb2, List.map_append]
        generalize xs.map D.int = X at *
        generalize (0 + (i : Int)) = i' at *
        simp [m2, hv', r_mod_int, r_fdiv_int, m3, isTy, appendV, hl]) (fun _ _ _ => by simp)
    rw [upto_len] at hx
    refine ⟨xs, by omega, ?_⟩
    have hr1 : -4611686018427387904 ≤ (q : Int) := by omega
    have hr2 : (q : Int) < 4611686018427387904 := by omega
    have hu := unders_ints st.length xs
    generalize xs.map D.int = X at *
    simp [c0, m1, r_mod_int, e3, ca, g0, hq, hr1, hr2, h1]
    exact gc_new0 hu
end Law
set_option maxHeartbeats 0
namespace M
namespace Tr
/-! ### the texts of trees -/
def tx1 : Tr := hold [pickT 0 3]
def tx2 : Tr := hold [pickT 1 3]
def hdT : Tr := hold [pickT 2 3]
def lfT (s : List Nat) : Tr := if s = [83] then tx1 else tx2
def jnT (l r : Tr) : Tr := .jn (.jn tS (.jn (.jn tS hdT) l)) r
def txt : Tr → Tr
  | .lf s => lfT s
  | .jn l r => jnT (txt l) (txt r)
theorem val_tx1 : val tx1 = true := by decide
theorem val_tx2 : val tx2 = true := by decide
theorem val_hdT : val hdT = true := by decide
theorem val_lfT (s : List Nat) : val (lfT s) = true := by unfold lfT; split; exact val_tx1; exact val_tx2
theorem val_jnT {l r : Tr} (h1 : val l = true) (h2 : val r = true) : val (jnT l r) = true := by
  unfold jnT
  rw [val_SS, val_SS, val_hdT, h1, h2]; rfl
theorem val_txt : ∀ t, val (txt t) = true
  | .lf s => val_lfT s
  | .jn l r => val_jnT (val_txt l) (val_txt r)
theorem dp_tx1 : dp tx1 = 5 := by decide
theorem dp_tx2 : dp tx2 = 4 := by decide
theorem dp_hdT : dp hdT = 6 := by decide
end Tr
end M
namespace Law
open L2 M Tr
abbrev kS : Key := .inr (strOf [83])
abbrev kK : Key := .inr (strOf [75])
def txs : List (Key × D) := [(kS, enc tx1), (kK, enc tx2)]
theorem kS_ne : ¬ (kS = kK) := by intro h; have := Sum.inr.inj h; simp [strOf] at this
theorem kK_ne : ¬ (kK = kS) := fun h => kS_ne h.symm
theorem valN_S : valN txs kS = some (enc tx1) := by rw [txs, valN_cons, if_pos rfl]
theorem valN_K : valN txs kK = some (enc tx2) := by rw [txs, valN_cons, if_neg kS_ne, valN_cons, if_pos rfl]
theorem one_hold (k : Nat) (st : Stor) (ht : st[1]? = some (.tab "out_and_cost")) (hc : noClo st) (hk : k < 3) (env : MEnv) (m : ME) (hm : m env st = .ok (.int k) st) :
    callF F_p_holder [] (consA (lstE (consA (callF F_p_pick [] (consA m (consA (ct (.int 3)) nilA))) nilA)) nilA) env st = .ok (enc (hold [pickT k 3])) (st ++ [.lst [enc (pickT k 3)]]) := by
  have p := pick_ok k 3 st ht hc hk (by omega)
  rw [show ((3 : Nat) : Int) = 3 from rfl] at p
  have h := holderN [pickT k 3] [enc (pickT k 3)] rfl st (by intro t ht; cases List.mem_singleton.mp ht; exact val_pickT _ _)
  generalize enc (hold [pickT k 3]) = W at *
  generalize enc (pickT k 3) = Y at *
  simp [hm, p, h]
theorem joint_head_ok (st : Stor) (ht : st[1]? = some (.tab "out_and_cost")) (hc : noClo st) : F_p_joint_head [] st = .ok (enc hdT) st := by
  have h := one_hold 2 st ht hc (by omega) [] (ct (.int 2)) rfl
  have hu := enc_under st.length hdT
  unfold hdT at *
  unfold F_p_joint_head gcF fnM b_p_joint_head
  generalize callF F_p_holder [] _ = C at *
  generalize enc (hold [pickT 2 3]) = W at *
  simp [startM, h]
  exact gc_flat hu
theorem leaf_texts_ok (st : Stor) (ht : st[1]? = some (.tab "out_and_cost")) (hc : noClo st) : F_p_leaf_texts [] st = .ok (.loc st.length) (st ++ [.dkc txs]) := by
  have hl : 1 < st.length := (List.getElem?_eq_some_iff.mp ht).1
  have key : ∀ (k : Nat) (c : List Nat) (g : Stor) (kvs : List (Key × D)) (a1 : Option D), k < 3 → lookT [([83], .int 0), ([75], .int 1)] c = some (.int k) → noClo g → 
      callF F_p_holder [] (consA (lstE (consA (callF F_p_pick [] (consA (tabE [([83], .int 0), ([75], .int 1)] (vr 1)) (consA (ct (.int 3)) nilA))) nilA)) nilA) [some (.loc st.length), some (.str c)] (st ++ [.dkc kvs] ++ g) = .ok (enc (hold [pickT k 3])) (st ++ [.dkc kvs] ++ (g ++ [.lst [enc (pickT k 3)]])) := by
    intro k c g kvs a1 hk hc2 hg
    rw [one_hold k _ (by rw [List.append_assoc, List.getElem?_append_left hl]; exact ht) ?_ hk _ _ ?_, List.append_assoc (st ++ [MO.dkc kvs])]
    · simp [noClo_app, hc, hg]
    · have e := r_tabV (st ++ [.dkc kvs] ++ g) hc2
      generalize (st ++ [.dkc kvs] ++ g) = Z at *
      simp [e]
  unfold F_p_leaf_texts gcF fnM b_p_leaf_texts
  generalize hH : callF F_p_holder [] _ = HC at *
  have e1 := key 0 [83] [] [] none (by omega) (by simp [lookT]) (by simp)
  have e2 := key 1 [75] [.lst [enc (pickT 0 3)]] [(kS, enc tx1)] none (by omega) (by simp [lookT]) (by simp)
  rw [show hold [pickT 0 3] = tx1 from rfl] at e1
  rw [show hold [pickT 1 3] = tx2 from rfl] at e2
  have p1 : putN [] kS (enc tx1) = [(kS, enc tx1)] := by simp [putN]
  have p2 : putN [(kS, enc tx1)] kK (enc tx2) = txs := by unfold putN; rw [if_neg (by simp [kS_ne])]; rfl
  have s1 : ∀ g : Stor, setK (.loc st.length) (.str [83]) (enc tx1) (st ++ [.dkc []] ++ g) = .ok () (st ++ [.dkc [(kS, enc tx1)]] ++ g) := fun g => by
    simp [setK, p1]
  have s2 : ∀ g : Stor, setK (.loc st.length) (.str [75]) (enc tx2) (st ++ [.dkc [(kS, enc tx1)]] ++ g) = .ok () (st ++ [.dkc txs] ++ g) := fun g => by
    simp [setK, p2]
  have hu : ∀ g : Stor, gc st (.ok (.loc st.length) (st ++ [.dkc txs] ++ g)) = .ok (.loc st.length) (st ++ [.dkc txs]) := fun g => by
    have := gc_new (st := st) (g := []) (g' := g) (o := .dkc txs) (by intro p hp; simp [txs] at hp; rcases hp with rfl | rfl <;> exact enc_under _ _)
    simpa using this
  have s1' := s1 [.lst [enc (pickT 0 3)]]
  have s2' := s2 [.lst [enc (pickT 0 3)], .lst [enc (pickT 1 3)]]
  have hu' := hu [.lst [enc (pickT 0 3)], .lst [enc (pickT 1 3)]]
  rw [List.nil_append] at e1
  rw [List.append_nil] at e1
  rw [show ([.lst [enc (pickT 0 3)]] ++ [.lst [enc (pickT 1 3)]] : Stor) = [.lst [enc (pickT 0 3)], .lst [enc (pickT 1 3)]] from rfl] at e2
  generalize hA : (st ++ [.dkc [(kS, enc tx1)]] ++ [.lst [enc (pickT 0 3)]] : Stor) = A1 at *
  generalize (st ++ [.dkc [(kS, enc tx1)]] ++ [.lst [enc (pickT 0 3)], .lst [enc (pickT 1 3)]] : Stor) = A2 at *
  generalize (st ++ [.dkc txs] ++ [.lst [enc (pickT 0 3)], .lst [enc (pickT 1 3)]] : Stor) = A3 at *
  generalize (st ++ [.dkc []] ++ [.lst [enc (pickT 0 3)]] : Stor) = A0 at *
  generalize enc tx1 = T1 at *
  generalize enc tx2 = T2 at *
  simp [startM, forGo_step (st1 := st ++ [.dkc []]) (st2 := A1) (env1 := [some (.loc st.length), some (.str [83])]) (env2 := [some (.loc st.length), some (.str [83])]), e1, e2, s1', s2', forGo]
  exact hu'
theorem text_of_ok (t : Tr) (st : Stor) (hs : sk t) (ht : st[1]? = some (.tab "out_and_cost")) (ht2 : st[2]? = some (.tab "text_of")) (hc : noClo st) (hl : lv t ≤ 400000) : F_p_text_of [enc t] st = .ok (enc (txt t)) st := by
  have a1 := leaf_texts_ok st ht hc
  have hb : 2 < st.length := (List.getElem?_eq_some_iff.mp ht2).1
  let S1 : Stor := st ++ [.dkc txs]
  have hc1 : noClo S1 := by simp [S1, hc, MO.isClo]
  have a2 := joint_head_ok S1 (by simp only [S1]; rw [List.getElem?_append_left (by omega)]; exact ht) hc1
  have ht3 : S1[2]? = some (.tab "text_of") := by simp only [S1]; rw [List.getElem?_append_left (by omega)]; exact ht2
  have hn : S1[st.length]? = some (.dkc txs) := by simp [S1]
  let os : Stor := [.clo 2 (Lam 2) [.loc st.length], .clo 3 (Lam 3) [enc hdT]]
  have f1 : F_p_folded [enc t, .loc S1.length, .loc (S1.length + 1)] (S1 ++ os) = .ok (enc (txt t)) (S1 ++ os) := by
    refine folded_ok (fun u => enc (txt u)) sk S1.length (S1.length + 1) 2 3 [.loc st.length] [enc hdT] t _ (by simp [os]) (by simp [os]) hl (fun u n => enc_under n _) hs (fun _ _ h => h) ?_ ?_
    · intro s g hs
      have hh : (hideS (S1 ++ os ++ g))[st.length]? = some (.dkc txs) := get_hide (get_app (get_app hn)) rfl
      have hs' : s = [83] ∨ s = [75] := hs
      generalize hideS (S1 ++ os ++ g) = Z at *
      rw [show enc (.lf s) = .str s from rfl, txt]
      rcases hs' with rfl | rfl
      · have e := r_ixA_c (k := .str [83]) hh rfl valN_S
        rw [lfT, if_pos rfl]
        simp [GL, lamN, e_2, e]
      · have e := r_ixA_c (k := .str [75]) hh rfl valN_K
        rw [lfT, if_neg (by decide)]
        simp [GL, lamN, e_2, e]
    · intro l r g _
      have j1 := joint_ok tS hdT (hideS (S1 ++ os ++ g))
      have j2 := joint_ok (.jn tS hdT) (txt l) (hideS (S1 ++ os ++ g))
      have j3 := joint_ok tS (.jn (.jn tS hdT) (txt l)) (hideS (S1 ++ os ++ g))
      have j4 := joint_ok (.jn tS (.jn (.jn tS hdT) (txt l))) (txt r) (hideS (S1 ++ os ++ g))
      rw [show enc tS = .str [83] from rfl] at j1 j3
      rw [show txt (.jn l r) = jnT (txt l) (txt r) from rfl]
      have hu : ∀ n, under n (enc (.jn (.jn tS (.jn (.jn tS hdT) (txt l))) (txt r))) := fun n => enc_under n _
      unfold jnT
      generalize hideS (S1 ++ os ++ g) = Z at *
      generalize enc (.jn (.jn tS (.jn (.jn tS hdT) (txt l))) (txt r)) = W4 at *
      generalize enc (.jn tS (.jn (.jn tS hdT) (txt l))) = W3 at *
      generalize enc (.jn (.jn tS hdT) (txt l)) = W2 at *
      generalize enc (.jn tS hdT) = W1 at *
      generalize enc hdT = W0 at *
      generalize enc (txt l) = L at *
      generalize enc (txt r) = R' at *
      have jt : F_p_joint_text [W0, L, R'] Z = .ok W4 Z := by
        unfold F_p_joint_text gcF fnM b_p_joint_text
        simp [startM, j1, j2, j3, j4]
        exact gc_same (hu _)
      simp [GL, lamN, e_3, jt]
  have hu := enc_under S1.length (txt t)
  have hu0 : gc st (.ok (enc (txt t)) S1) = .ok (enc (txt t)) st := gc_flat (enc_under st.length (txt t))
  have c1 := r_callLm (Λ := Lam) (F := F_p_folded) (dd := []) (m := consL (vr 0) (lamL 2 [1] 2 "text_of" (lamL 3 [2] 2 "text_of" nilL))) (env := [some (enc t), some (.loc st.length), some (enc hdT)]) (st := S1) (st1 := S1) (st2 := S1) (as := [.v (enc t), .l 2 [1], .l 3 [2]]) (ds := [enc t, .loc S1.length, .loc (S1.length + 1)]) (os := os) (d := enc (txt t))
    (by simp [consL, lamL, nilL, ht3]) hc1 (by simp [placeL, capD, os]) (by rw [List.append_nil, f1]; exact gc_flat hu) hc1
  unfold F_p_text_of gcF fnM b_p_text_of
  rw [show startM 3 [enc t] = [some (enc t), none, none] from rfl]
  generalize callLm Lam F_p_folded [] (consL (vr 0) (lamL 2 [1] 2 "text_of" (lamL 3 [2] 2 "text_of" nilL))) = CL at c1 ⊢
  rw [show (st ++ [.dkc txs] : Stor) = S1 from rfl] at a1
  generalize enc (txt t) = W at *
  generalize enc t = X at *
  generalize enc hdT = HD at *
  generalize S1 = Z1 at *
  simp [a1, a2, c1]
  exact hu0
end Law
set_option maxHeartbeats 0
namespace M
namespace Tr
/-- a joint comes to a value by its parts -/
theorem Ev.inv : ∀ {n : Nat} {l r v : Tr}, Ev (.jn l r) n v → ∃ n1 n2 n3 a b, Ev l n1 a ∧ Ev r n2 b ∧ Ev (.jn a b) n3 v ∧ n = n1 + n2 + n3
  | 0, l, r, v, h => by
    obtain ⟨h1, h2⟩ := h
    rw [stp] at h1
    cases h1
    obtain ⟨v1, v2⟩ := val_parts h2
    exact ⟨0, 0, 0, l, r, Ev.v v1, Ev.v v2, Ev.v h2, rfl⟩
  | n + 1, l, r, v, h => by
    cases vl : val l with
    | false =>
      obtain ⟨h1, h2⟩ := h
      have e := step_left (r := r) vl
      cases sl : step l with
      | none => rw [stp, e, sl] at h1; cases h1
      | some l' =>
        rw [sl] at e
        rw [stp_succ (u := .jn l' r) e] at h1
        obtain ⟨n1, n2, n3, a, b, q1, q2, q3, q4⟩ := Ev.inv (n := n) ⟨h1, h2⟩
        exact ⟨n1 + 1, n2, n3, a, b, ⟨by rw [stp_succ sl]; exact q1.1, q1.2⟩, q2, q3, by omega⟩
    | true =>
      cases vr : val r with
      | false =>
        obtain ⟨h1, h2⟩ := h
        have e := step_right vl vr
        cases sr : step r with
        | none => rw [stp, e, sr] at h1; cases h1
        | some r' =>
          rw [sr] at e
          rw [stp_succ (u := .jn l r') e] at h1
          obtain ⟨n1, n2, n3, a, b, q1, q2, q3, q4⟩ := Ev.inv (n := n) ⟨h1, h2⟩
          have : n1 = 0 ∧ l = a := Ev.det (Ev.v vl) q1 |>.imp (fun z => z.symm) id
          exact ⟨n1, n2 + 1, n3, a, b, q1, ⟨by rw [stp_succ sr]; exact q2.1, q2.2⟩, q3, by omega⟩
      | true => exact ⟨0, 0, n + 1, l, r, Ev.v vl, Ev.v vr, h, by omega⟩
theorem Ev.of_S {u v w x : Tr} {n : Nat} (hv : val (.jn (.jn tS u) v) = true) (hw : val w = true) (h : Ev (.jn (.jn (.jn tS u) v) w) n x) : ∃ k, n = k + 1 ∧ Ev (.jn (.jn u w) (.jn v w)) k x := by
  have e : step (.jn (.jn (.jn tS u) v) w) = some (.jn (.jn u w) (.jn v w)) := by rw [step_here hv hw (val_SSS u v w)]; rfl
  cases n with
  | zero =>
    obtain ⟨h1, h2⟩ := h
    rw [stp] at h1; cases h1
    rw [val_SSS] at h2; cases h2
  | succ n =>
    obtain ⟨h1, h2⟩ := h
    rw [stp_succ e] at h1
    exact ⟨n, rfl, h1, h2⟩
/-- a run tells a value just where one comes within its steps -/
theorem run_ev {m : Nat} {t : Tr} (hs : sk t) : (∃ k v, k ≤ m ∧ Ev t k v ∧ run m t = (v, k)) ∨ ((∀ k v, Ev t k v → m < k) ∧ val (run m t).1 = false ∧ (run m t).2 = m) := by
  by_cases h : ∃ k v, k ≤ m ∧ Ev t k v
  · obtain ⟨k, v, h1, h2⟩ := h
    exact .inl ⟨k, v, h1, h2, h2.run h1⟩
  · right
    have h1 : ∀ k v, Ev t k v → m < k := fun k v e => by
      apply Nat.lt_of_not_le
      intro hk
      exact h ⟨k, v, hk, e⟩
    have hv : val (run m t).1 = false := by
      cases e : val (run m t).1 with
      | false => rfl
      | true =>
        exfalso
        have key : ∀ (m : Nat) (t : Tr), stp (run m t).2 t = some (run m t).1 := by
          intro m
          induction m with
          | zero => intro t; rfl
          | succ m ih =>
            intro t
            cases s : step t with
            | none => rw [run_none s]; rfl
            | some u => rw [run_some s]; show stp ((run m u).2 + 1) t = _; rw [stp_succ s]; exact ih u
        have := h1 _ _ ⟨key m t, e⟩
        have := run_le m t
        omega
    refine ⟨h1, hv, ?_⟩
    rcases run_end m t with e | e
    · exact e
    · have := sk_none (sk_run m hs) e
      rw [this] at hv; cases hv
end Tr
end M
set_option maxHeartbeats 0
namespace M
namespace Tr
/-! ### players -/
def plyE (a b : Tr) : Tr := hold [a, b, tI]
def plyr (a b : Tr) : Tr := hold [plyE a b]
def put2 (a b : Tr) : Tr → Tr
  | .lf s => if s = [83] then a else b
  | .jn l r => .jn (put2 a b l) (put2 a b r)
def cstT : Tr → Nat
  | .lf s => if s = [83] then 16 else 14
  | .jn l r => 20 + cstT l + cstT r
theorem cstT_le : ∀ t, cstT t + 20 ≤ 36 * lv t
  | .lf s => by rw [cstT, lv]; split <;> omega
  | .jn l r => by
    have := cstT_le l
    have := cstT_le r
    have hl : 0 < lv l := by have := dp_lt_lv l; omega
    have hr : 0 < lv r := by have := dp_lt_lv r; omega
    rw [cstT, lv]; omega
theorem put2_SK {t : Tr} (hs : sk t) : put2 tS Tr.tK t = t := by
  induction t with
  | lf s =>
    have hs : s = [83] ∨ s = [75] := hs
    rcases hs with rfl | rfl <;> rfl
  | jn l r i1 i2 => rw [put2, i1 hs.1, i2 hs.2]
theorem sk_put2 {a b : Tr} (ha : sk a) (hb : sk b) : ∀ t, sk (put2 a b t)
  | .lf s => by rw [put2]; split <;> assumption
  | .jn l r => ⟨sk_put2 ha hb l, sk_put2 ha hb r⟩
theorem val_E {a b : Tr} (ha : val a = true) (hb : val b = true) : val (plyE a b) = true :=
  val_hold (by intro t ht; simp at ht; rcases ht with rfl | rfl | rfl; exact ha; exact hb; exact val_I)
theorem ev_pk {a b : Tr} (ha : val a = true) (hb : val b = true) (k : Nat) {v : Tr} (hk : [a, b, tI][k]? = some v) :
    Ev (.jn (hold [pickT k 3]) (plyE a b)) (k + pkC (2 - k) + (2 - k) + 12) v := by
  have hv : ∀ x ∈ [a, b, tI], val x = true := by intro t ht; simp at ht; rcases ht with rfl | rfl | rfl; exact ha; exact hb; exact val_I
  have h1 := AppEv_pick hv hk
  obtain ⟨_, h2⟩ := Ev_hold (val_pickT k 3) h1
  have h3 : AppEv (plyE a b) ([] ++ [pickT k 3]) (0 + _) v := AppEv.snoc [] _ _ _ _ _ (AppEv.nil (val_E ha hb)) (val_pickT k 3) h2
  obtain ⟨_, h4⟩ := Ev_hold (val_E ha hb) h3
  refine h4.to ?_
  simp
  try omega
theorem ev_hd {a b : Tr} (ha : val a = true) (hb : val b = true) : Ev (.jn hdT (plyE a b)) 16 tI := ev_pk ha hb 2 rfl
theorem ev_t1 {a b : Tr} (ha : val a = true) (hb : val b = true) : Ev (.jn tx1 (plyE a b)) 16 a := ev_pk ha hb 0 rfl
theorem ev_t2 {a b : Tr} (ha : val a = true) (hb : val b = true) : Ev (.jn tx2 (plyE a b)) 14 b := ev_pk ha hb 1 rfl
theorem ev_base {t v : Tr} {n : Nat} (hv : val v = true) (h : Ev t n v) (m : Nat) (w : Tr) : Ev t m w ↔ ∃ k, m = k + n ∧ Ev v k w := by
  constructor
  · intro g
    obtain ⟨rfl, rfl⟩ := h.det g
    exact ⟨0, by omega, Ev.v hv⟩
  · rintro ⟨k, rfl, g⟩
    obtain ⟨rfl, rfl⟩ := (Ev.v hv).det g
    exact h.to (by omega)
/-- a text, handed to what asks it, does what the tree does with these leaves -/
theorem play {a b : Tr} (ha : val a = true) (hb : val b = true) : ∀ (t : Tr) (n : Nat) (v : Tr), Ev (.jn (txt t) (plyE a b)) n v ↔ ∃ k, n = k + cstT t ∧ Ev (put2 a b t) k v
  | .lf s, n, v => by
    rw [txt, lfT, put2, cstT]
    by_cases h : s = [83]
    · rw [if_pos h, if_pos h, if_pos h]; exact ev_base ha (ev_t1 ha hb) n v
    · rw [if_neg h, if_neg h, if_neg h]; exact ev_base hb (ev_t2 ha hb) n v
  | .jn l r, n, v => by
    have hE := val_E ha hb
    have vl := val_txt l
    have vr := val_txt r
    have ihl := play ha hb l
    have ihr := play ha hb r
    rw [txt, put2, cstT, jnT]
    have v1 : val (.jn (.jn tS hdT) (txt l)) = true := by rw [val_SS, val_hdT, vl]; rfl
    have v2 : val (.jn (.jn tS (.jn (.jn tS hdT) (txt l))) (txt r)) = true := by rw [val_SS, v1, vr]; rfl
    constructor
    · intro h
      obtain ⟨k, rfl, h'⟩ := Ev.of_S v2 hE h
      obtain ⟨n1, n2, n3, x, y, q1, q2, q3, rfl⟩ := h'.inv
      obtain ⟨k1, rfl, q1'⟩ := Ev.of_S v1 hE q1
      obtain ⟨m1, m2, m3, h', z, p1, p2, p3, rfl⟩ := q1'.inv
      obtain ⟨rfl, rfl⟩ := (ev_hd ha hb).det p1
      obtain ⟨rfl, rfl⟩ := (Ev.I (Ev.v p2.2)).det p3
      obtain ⟨kl, rfl, el⟩ := (ihl _ _).mp p2
      obtain ⟨kr, rfl, er⟩ := (ihr _ _).mp q2
      exact ⟨kl + kr + n3, by omega, el.comp er q3⟩
    · rintro ⟨k, rfl, h⟩
      obtain ⟨n1, n2, n3, x, y, q1, q2, q3, rfl⟩ := h.inv
      have el := (ihl _ _).mpr ⟨n1, rfl, q1⟩
      have er := (ihr _ _).mpr ⟨n2, rfl, q2⟩
      have e1 : Ev (.jn (.jn hdT (plyE a b)) (.jn (txt l) (plyE a b))) _ x := (ev_hd ha hb).comp el (Ev.I (Ev.v el.2))
      have e2 : Ev (.jn (.jn (.jn tS hdT) (txt l)) (plyE a b)) _ x := (Ev.v v1).S (Ev.v hE) e1
      have e3 := (Ev.v v2).S (Ev.v hE) (e2.comp er q3)
      exact e3.to (by omega)
/-- the player, handed a text -/
theorem player_ev {a b : Tr} (ha : val a = true) (hb : val b = true) (t : Tr) (n : Nat) (v : Tr) : Ev (.jn (plyr a b) (txt t)) n v ↔ ∃ k, n = k + (4 + cstT t) ∧ Ev (put2 a b t) k v := by
  have hE := val_E ha hb
  have vt := val_txt t
  have vK : val (.jn Tr.tK (plyE a b)) = true := by rw [val_K]; exact hE
  have vP : val (.jn (.jn tS tI) (.jn Tr.tK (plyE a b))) = true := by rw [val_SS, vK, val_I]; rfl
  have eI : Ev (.jn tI (txt t)) 2 (txt t) := Ev.I (Ev.v vt)
  have eK : Ev (.jn (.jn Tr.tK (plyE a b)) (txt t)) 1 (plyE a b) := ((Ev.v vK).K (Ev.v vt)).to (by omega)
  rw [show plyr a b = .jn (.jn tS tI) (.jn Tr.tK (plyE a b)) from rfl]
  constructor
  · intro h
    obtain ⟨k, rfl, h'⟩ := Ev.of_S vP vt h
    obtain ⟨n1, n2, n3, x, y, q1, q2, q3, rfl⟩ := h'.inv
    obtain ⟨rfl, rfl⟩ := eI.det q1
    obtain ⟨rfl, rfl⟩ := eK.det q2
    obtain ⟨k, rfl, e⟩ := (play ha hb t _ _).mp q3
    exact ⟨k, by omega, e⟩
  · rintro ⟨k, rfl, h⟩
    have e := (play ha hb t _ _).mpr ⟨k, rfl, h⟩
    exact ((Ev.v vP).S (Ev.v vt) (eI.comp eK e)).to (by omega)
theorem sk_plyr {a b : Tr} (ha : sk a) (hb : sk b) : sk (plyr a b) := by
  simp [plyr, plyE, hold, sk, ha, hb]
theorem sk_txt : ∀ t, sk (txt t)
  | .lf s => by rw [txt, lfT]; split <;> simp [tx1, tx2, hold, pickT, unas, pkT, sk]
  | .jn l r => by
    have h1 := sk_txt l
    have h2 := sk_txt r
    simp [txt, jnT, sk, h1, h2, hdT, hold, pickT, unas, pkT]
theorem val_plyr {a b : Tr} (ha : val a = true) (hb : val b = true) : val (plyr a b) = true :=
  val_hold (by intro t ht; cases List.mem_singleton.mp ht; exact val_E ha hb)
theorem dp_txt : ∀ t, dp (txt t) ≤ 3 * dp t + 7
  | .lf s => by rw [txt, lfT]; split; exact (by rw [dp_tx1]; omega); exact (by rw [dp_tx2]; omega)
  | .jn l r => by
    have := dp_txt l
    have := dp_txt r
    have := dp_hdT
    rw [txt, jnT, dp, dp, dp, dp, dp]
    simp only [dp]
    omega
theorem dp_plyr {a b : Tr} : dp (plyr a b) ≤ dp a + dp b + 20 := by
  simp [plyr, plyE, hold, dp]
  omega
/-- the law of players, as runs tell it -/
theorem play_run {a b t : Tr} {m : Nat} (ha : val a = true) (hb : val b = true) (sa : sk a) (sb : sk b) :
    (∃ v k, k ≤ m ∧ val v = true ∧ run m (put2 a b t) = (v, k) ∧ run (m + (4 + cstT t)) (.jn (plyr a b) (txt t)) = (v, k + (4 + cstT t))) ∨
    (val (run m (put2 a b t)).1 = false ∧ (run m (put2 a b t)).2 = m ∧ val (run (m + (4 + cstT t)) (.jn (plyr a b) (txt t))).1 = false ∧ (run (m + (4 + cstT t)) (.jn (plyr a b) (txt t))).2 = m + (4 + cstT t)) := by
  have s1 := sk_put2 sa sb t
  have s2 : sk (.jn (plyr a b) (txt t)) := ⟨sk_plyr sa sb, sk_txt t⟩
  rcases run_ev (m := m) s1 with ⟨k, v, h1, h2, h3⟩ | ⟨h1, h2, h3⟩
  · exact .inl ⟨v, k, h1, h2.2, h3, ((player_ev ha hb t _ _).mpr ⟨k, rfl, h2⟩).run (by omega)⟩
  · rcases run_ev (m := m + (4 + cstT t)) s2 with ⟨k, v, k1, k2, k3⟩ | ⟨k1, k2, k3⟩
    · obtain ⟨j, rfl, e⟩ := (player_ev ha hb t _ _).mp k2
      have := h1 _ _ e
      omega
    · exact .inr ⟨h2, h3, k2, k3⟩
end Tr
end M
set_option maxHeartbeats 0
namespace Law
open L2 M Tr
/-! the stack -/
def lvs (ts : List Tr) : Nat := (ts.map lv).sum
theorem lvs_snoc (ts : List Tr) (t : Tr) : lvs (ts ++ [t]) = lvs ts + lv t := by simp [lvs]
theorem lv_pos (t : Tr) : 0 < lv t := by
  induction t with
  | lf s => simp [lv]
  | jn l r h1 h2 => rw [lv]; omega
theorem lvs_len (ts : List Tr) : ts.length ≤ lvs ts := by
  induction ts with
  | nil => simp [lvs]
  | cons t ts ih => have := lv_pos t; simp [lvs] at ih ⊢; omega
theorem encs_flats (ts : List Tr) : flats (ts.map enc) = true := by
  induction ts with
  | nil => simp
  | cons t ts ih => simp [ih, enc_flat]
theorem r_eq_nil (L m n : Nat) (ds : List D) (st : Stor) (h1 : itemsAt st m = some ds) (h2 : itemsAt st n = some []) (hf : flats ds = true) (hL : 1 < L) : M.eqV L (.loc m) (.loc n) st = .ok (.bl ds.isEmpty) st := by
  have e : eqR L (.loc m) (.loc n) st = some ds.isEmpty := by
    simp only [eqR, h1, h2]
    rw [if_pos ⟨hf, by simp, by simp; omega⟩]
    cases ds <;> simp [eqDs]
  unfold M.eqV; rw [e]
def sks (ts : List Tr) : Prop := ∀ t ∈ ts, sk t
theorem sks_snoc {ts : List Tr} {t : Tr} (h : sks ts) (k : sk t) : sks (ts ++ [t]) := fun u hu => by
  rcases List.mem_append.mp hu with hu | hu
  · exact h u hu
  · obtain rfl : u = t := by simpa using hu
    exact k
theorem two_last {ts : List Tr} (h : 1 < ts.length) : ∃ us a b, ts = us ++ [a] ++ [b] := by
  have h1 : ts ≠ [] := fun z => by rw [z] at h; simp at h
  have e1 := (List.dropLast_concat_getLast h1).symm
  have h2 : ts.dropLast ≠ [] := fun z => by
    have := List.length_dropLast (xs := ts)
    rw [z] at this; simp at this; omega
  have e2 := (List.dropLast_concat_getLast h2).symm
  exact ⟨_, _, _, by rw [← e2]; exact e1⟩
theorem pop_snocG (st g : Stor) (ds : List D) (d : D) : popV (.loc st.length) [] (st ++ .lst (ds ++ [d]) :: g) = .ok d (st ++ .lst ds :: g) := by
  simp [popV]
/-- two trees of the stack put together -/
theorem put_two (us : List Tr) (a b : Tr) (st g : Stor) (a0 a2 a3 : Option D) (hl : us.length < 1000000) :
    seqS (setS 3 (meth0E "list" popV (vr 1))) (exprS (methE "list" appendV (vr 1) (consA (callF F_p_joint [] (consA (meth0E "list" popV (vr 1)) (consA (vr 3) nilA))) nilA))) [a0, some (.loc st.length), a2, a3] (st ++ .lst ((us ++ [a] ++ [b]).map enc) :: g)
      = .ok (.nx [a0, some (.loc st.length), a2, some (enc b)]) (st ++ .lst ((us ++ [Tr.jn a b]).map enc) :: g) := by
  have p1 := pop_snocG st g ((us ++ [a]).map enc) (enc b)
  have p2 := pop_snocG st g (us.map enc) (enc a)
  have j := joint_ok a b (st ++ .lst (us.map enc) :: g)
  have ap : appendV (.loc st.length) [enc (.jn a b)] (st ++ .lst (us.map enc) :: g) = .ok .non (st ++ .lst (us.map enc ++ [enc (.jn a b)]) :: g) := by
    have hl' : (us.map enc).length < 1000000 := by rw [List.length_map]; exact hl
    generalize us.map enc = L at *
    simp [appendV, hl']
  have t1 : isTy "list" (.loc st.length) (st ++ .lst ((us ++ [a] ++ [b]).map enc) :: g) = true := by simp [isTy]
  have t2 : isTy "list" (.loc st.length) (st ++ .lst ((us ++ [a]).map enc) :: g) = true := by simp [isTy]
  have t3 : isTy "list" (.loc st.length) (st ++ .lst (us.map enc) :: g) = true := by simp [isTy]
  rw [show (us ++ [a] ++ [b]).map enc = (us ++ [a]).map enc ++ [enc b] by simp] at t1 ⊢
  rw [show (us ++ [a]).map enc = us.map enc ++ [enc a] by simp] at p1 t1 t2 ⊢
  rw [show (us ++ [Tr.jn a b]).map enc = us.map enc ++ [enc (.jn a b)] by simp]
  generalize st ++ MO.lst (us.map enc ++ [enc a] ++ [enc b]) :: g = Z1 at *
  generalize st ++ MO.lst (us.map enc ++ [enc a]) :: g = Z2 at *
  generalize st ++ MO.lst (us.map enc ++ [enc (.jn a b)]) :: g = Z4 at *
  generalize st ++ MO.lst (us.map enc) :: g = Z3 at *
  have t2' : isTy "list" (.loc st.length) Z2 = true := t2
  generalize enc (.jn a b) = J at *
  simp [t1, t2', t3, p1, p2, j, ap]
end Law
set_option maxHeartbeats 0
namespace M
namespace Tr
def frontIs (c : List Nat) : Tr → Bool
  | .jn (.lf s) _ => decide (s = c)
  | _ => false
theorem frontIs_jnlf (c s : List Nat) (r : Tr) : frontIs c (.jn (.lf s) r) = decide (s = c) := by rw [frontIs]
theorem frontIs_jnjn (c : List Nat) (a b r : Tr) : frontIs c (.jn (.jn a b) r) = false := by rw [frontIs]; intro s r' h; cases h
theorem frontIs_lf (c s : List Nat) : frontIs c (.lf s) = false := by rw [frontIs]; intro s r' h; cases h
end Tr
end M
namespace Law
open L2 M Tr
theorem has_in_front_ok (c : List Nat) (t : Tr) (st : Stor) : F_p_has_in_front [.str c, enc t] st = .ok (.bl (frontIs c t)) st := by
  unfold F_p_has_in_front gcF fnM b_p_has_in_front
  cases t with
  | lf s => rw [frontIs_lf, show enc (.lf s) = .str s from rfl]; simp [startM, subTy, gc_same]
  | jn l r =>
    have is1 := enc_is_str (.jn l r)
    have x0 : ixV (enc (.jn l r)) (.int 0) st = .ok (enc l) st := by rw [enc]; exact r_ix_tup st 0 _ _ rfl
    have q1 : eqV 800 (enc l) (.str c) st = .ok (.bl (frontIs c (.jn l r))) st := by
      have := r_eq_enc 799 l c st
      cases l with
      | lf s => rw [this, frontIs_jnlf]
      | jn a b => rw [this, frontIs_jnjn]
    generalize enc (.jn l r) = J at *
    generalize enc l = L at *
    simp [startM, is1, x0, q1, gc_same]
end Law
set_option maxHeartbeats 0
namespace M
namespace Tr
/-! ### what a text tells -/
theorem txt_jn (l r : Tr) : txt (.jn l r) = jnT (txt l) (txt r) := rfl
theorem jnT_inj {a b c d : Tr} (h : jnT a b = jnT c d) : a = c ∧ b = d := by
  unfold jnT at h
  injection h with h1 h2
  injection h1 with _ h3
  injection h3 with _ h4
  exact ⟨h4, h2⟩
theorem tx1_ne (a b : Tr) : tx1 ≠ jnT a b := by
  intro h
  unfold jnT at h
  rw [show tx1 = .jn (.jn tS tI) (.jn Tr.tK (pickT 0 3)) from rfl] at h
  injection h with h1 h2
  injection h1 with _ h3
  injection h3 with h4 _
  injection h4 with _ h5
  exact absurd h5 (by intro z; exact nomatch z)
theorem tx2_ne (a b : Tr) : tx2 ≠ jnT a b := by
  intro h
  unfold jnT at h
  rw [show tx2 = .jn (.jn tS tI) (.jn Tr.tK (pickT 1 3)) from rfl] at h
  injection h with h1 h2
  injection h1 with _ h3
  injection h3 with h4 _
  injection h4 with _ h5
  exact absurd h5 (by intro z; exact nomatch z)
theorem tx12 : tx1 ≠ tx2 := by
  intro h
  rw [show tx1 = .jn (.jn tS tI) (.jn Tr.tK (pickT 0 3)) from rfl, show tx2 = .jn (.jn tS tI) (.jn Tr.tK (pickT 1 3)) from rfl] at h
  injection h with _ h1
  injection h1 with _ h2
  rw [show pickT 0 3 = .jn (.jn tS (.jn Tr.tK Tr.tK)) Tr.tK from rfl, show pickT 1 3 = .jn Tr.tK Tr.tK from rfl] at h2
  injection h2 with h3 _
  exact nomatch h3
theorem txt_inj : ∀ {t u : Tr}, sk t → sk u → txt t = txt u → t = u
  | .lf s, .lf c, hs, hc, h => by
    have hs : s = [83] ∨ s = [75] := hs
    have hc : c = [83] ∨ c = [75] := hc
    rcases hs with rfl | rfl <;> rcases hc with rfl | rfl
    · rfl
    · exact absurd h tx12
    · exact absurd h.symm tx12
    · rfl
  | .lf s, .jn l r, hs, _, h => by
    have hs : s = [83] ∨ s = [75] := hs
    rw [txt_jn] at h
    rcases hs with rfl | rfl
    · exact absurd h (tx1_ne _ _)
    · exact absurd h (tx2_ne _ _)
  | .jn l r, .lf s, _, hs, h => by
    have hs : s = [83] ∨ s = [75] := hs
    rw [txt_jn] at h
    rcases hs with rfl | rfl
    · exact absurd h.symm (tx1_ne _ _)
    · exact absurd h.symm (tx2_ne _ _)
  | .jn l r, .jn a b, hs, hc, h => by
    rw [txt_jn, txt_jn] at h
    obtain ⟨h1, h2⟩ := jnT_inj h
    rw [txt_inj hs.1 hc.1 h1, txt_inj hs.2 hc.2 h2]
open Classical in
noncomputable def toldT (x : Tr) : Option Tr := if h : ∃ t, sk t ∧ txt t = x then some h.choose else none
theorem told_iff {x t : Tr} : toldT x = some t ↔ sk t ∧ txt t = x := by
  unfold toldT
  constructor
  · intro h
    split at h
    · rename_i e
      cases h
      exact e.choose_spec
    · cases h
  · rintro ⟨h1, h2⟩
    have e : ∃ t, sk t ∧ txt t = x := ⟨t, h1, h2⟩
    rw [dif_pos e]
    exact congrArg some (txt_inj e.choose_spec.1 h1 (e.choose_spec.2.trans h2.symm))
open Classical in
theorem told_none {x : Tr} : toldT x = none ↔ ∀ t, sk t → txt t ≠ x := by
  constructor
  · intro h t h1 h2
    rw [told_iff.mpr ⟨h1, h2⟩] at h; cases h
  · intro h
    cases e : toldT x with
    | none => rfl
    | some t =>
      obtain ⟨h1, h2⟩ := told_iff.mp e
      exact absurd h2 (h t h1)
theorem told_txt {t : Tr} (h : sk t) : toldT (txt t) = some t := told_iff.mpr ⟨h, rfl⟩
open Classical in
noncomputable def leafT (x : Tr) : Option (List Nat) := if x = tx1 then some [83] else if x = tx2 then some [75] else none
def inF : Tr → Option Tr
  | .jn (.lf s) y => if s = [83] then some y else none
  | _ => none
open Classical in
noncomputable def frP (b : Tr) : Tr → Option (Tr × Tr)
  | .jn q a => if inF q = some hdT then some (a, b) else none
  | _ => none
noncomputable def partsT : Tr → Option (Tr × Tr)
  | .jn p b => (inF p).bind (frP b)
  | _ => none
theorem inF_some {p y : Tr} (h : inF p = some y) : p = .jn tS y := by
  unfold inF at h
  split at h
  · split at h
    · rename_i e; subst e; cases h; rfl
    · cases h
  · cases h
theorem parts_some {x a b : Tr} (h : partsT x = some (a, b)) : x = jnT a b := by
  unfold partsT at h
  split at h
  · rename_i p b'
    obtain ⟨f, h1, h2⟩ := Option.bind_eq_some_iff.mp h
    rw [inF_some h1]
    unfold frP at h2
    split at h2
    · rename_i q a'
      split at h2
      · rename_i e
        rw [inF_some e]; cases h2; rfl
      · cases h2
    · cases h2
  · cases h
open Classical in
theorem parts_jnT (a b : Tr) : partsT (jnT a b) = some (a, b) := by
  simp [jnT, partsT, inF, frP]
open Classical in
theorem leaf_jnT (a b : Tr) : leafT (jnT a b) = none := by
  unfold leafT
  rw [if_neg (fun h => tx1_ne a b h.symm), if_neg (fun h => tx2_ne a b h.symm)]
open Classical in
theorem told_leaf {x : Tr} {s : List Nat} (h : leafT x = some s) : toldT x = some (.lf s) := by
  unfold leafT at h
  split at h
  · rename_i e; cases h; exact told_iff.mpr ⟨.inl rfl, e.symm⟩
  · split at h
    · rename_i e; cases h; exact told_iff.mpr ⟨.inr rfl, e.symm⟩
    · cases h
theorem leaf_sk {x : Tr} {s : List Nat} (h : leafT x = some s) : s = [83] ∨ s = [75] := (told_iff.mp (told_leaf h)).1
open Classical in
theorem told_no {x : Tr} (h : leafT x = none) (h2 : partsT x = none) : toldT x = none := by
  rw [told_none]
  rintro (s | ⟨l, r⟩) hs e
  · have hs : s = [83] ∨ s = [75] := hs
    rcases hs with rfl | rfl
    · rw [← e, show leafT (txt (.lf [83])) = some [83] from if_pos rfl] at h; cases h
    · rw [← e, show leafT (txt (.lf [75])) = some [75] from by rw [leafT, if_neg (fun z => tx12 z.symm), if_pos (show txt (.lf [75]) = tx2 from rfl)]] at h; cases h
  · rw [← e, txt_jn, parts_jnT] at h2; cases h2
theorem told_jn {x a b : Tr} (h2 : partsT x = some (a, b)) : toldT x = (toldT a).bind fun l => (toldT b).map fun r => .jn l r := by
  rw [parts_some h2]
  cases ha : toldT a with
  | none =>
    rw [told_none] at ha
    show toldT _ = none
    rw [told_none]
    rintro (s | ⟨l, r⟩) hs e
    · have hs : s = [83] ∨ s = [75] := hs
      rcases hs with rfl | rfl
      · exact tx1_ne _ _ e
      · exact tx2_ne _ _ e
    · rw [txt_jn] at e
      exact ha l hs.1 (jnT_inj e).1
  | some l =>
    cases hb : toldT b with
    | none =>
      rw [told_none] at hb
      show toldT _ = none
      rw [told_none]
      rintro (s | ⟨l, r⟩) hs e
      · have hs : s = [83] ∨ s = [75] := hs
        rcases hs with rfl | rfl
        · exact tx1_ne _ _ e
        · exact tx2_ne _ _ e
      · rw [txt_jn] at e
        exact hb r hs.2 (jnT_inj e).2
    | some r =>
      show toldT _ = some (.jn l r)
      rw [told_iff] at ha hb ⊢
      exact ⟨⟨ha.1, hb.1⟩, by rw [txt_jn, ha.2, hb.2]⟩
end Tr
open Tr
def encOT : Option Tr → D
  | none => .non
  | some t => enc t
def encL : Option (List Nat) → D
  | none => .non
  | some s => .str s
theorem encOT_under (n : Nat) (o : Option Tr) : under n (encOT o) := by
  cases o with
  | none => simp [encOT]
  | some t => exact enc_under n t
def ordD : Tr → List D
  | .lf s => [.str s]
  | .jn l r => .non :: (ordD r ++ ordD l)
theorem ordD_len (t : Tr) : (ordD t).length = nds t := by
  induction t with
  | lf s => rfl
  | jn l r h1 h2 => simp [ordD, nds, h1, h2]; omega
def ordWD (ts : List Tr) : List D := (ts.reverse.map ordD).flatten
theorem ordWD_snoc (ts : List Tr) (t : Tr) : ordWD (ts ++ [t]) = ordD t ++ ordWD ts := by simp [ordWD]
end M
namespace Law
open L2 M Tr
theorem gc_plain {st st' : Stor} {d : D} (h : d = .non ∨ ∃ s, d = .str s) (hl : st'.length = st.length) : gc st (.ok d st') = .ok d st' := by
  unfold gc
  dsimp only
  split
  · rename_i e
    have : st' = st := by rw [← e.1, ← hl, List.take_length]
    rw [this]
  · rcases h with rfl | ⟨s, rfl⟩ <;> rfl
open Classical in
theorem leaf_told_ok (x : Tr) (n : Nat) (st : Stor) (h : st[n]? = some (.dkc txs) ∨ st[n]? = some (.dkf txs)) (hd : dp x < 800) : F_p_leaf_told [.loc n, enc x] st = .ok (encL (leafT x)) (st.set n (.dkf txs)) := by
  have hn : n < st.length := by rcases h with h | h <;> exact (List.getElem?_eq_some_iff.mp h).1
  have kd : txs.map (fun p => keyD p.1) = [.str [83], .str [75]] := by simp [txs]
  have di : dkI (vr 0) [some (.loc n), some (enc x), none] st = .ok ([.str [83], .str [75]], []) (st.set n (.dkf txs)) := by
    rcases h with h | h
    · rw [r_dkI_c (n := n) (st1 := st) rfl h, kd]
    · rw [r_dkI_f (n := n) (st1 := st) rfl h, kd]
      have : st.set n (.dkf txs) = st := List.ext_getElem? fun i => by
        by_cases e : n = i
        · subst e; rw [List.getElem?_set_self hn, h]
        · rw [List.getElem?_set_ne e]
      rw [this]
  have hz : (st.set n (.dkf txs))[n]? = some (.dkf txs) := List.getElem?_set_self hn
  have hln : (st.set n (.dkf txs)).length = st.length := by simp
  have ixS := r_ixA_f (k := .str [83]) hz rfl valN_S
  have ixK' := r_ixA_f (k := .str [75]) hz rfl valN_K
  have e1 := eq_encs x tx1 (st.set n (.dkf txs)) hd
  have e2 := eq_encs x tx2 (st.set n (.dkf txs)) hd
  unfold F_p_leaf_told gcF fnM b_p_leaf_told
  rw [show startM 3 [D.loc n, enc x] = [some (.loc n), some (enc x), none] from rfl]
  have q : ∀ o : Option (List Nat), gc st (.ok (encL o) (st.set n (.dkf txs))) = .ok (encL o) (st.set n (.dkf txs)) := fun o => gc_plain (by cases o; exact .inl rfl; exact .inr ⟨_, rfl⟩) hln
  unfold leafT
  generalize st.set n (.dkf txs) = Z at *
  by_cases c1 : x = tx1
  · rw [if_pos c1]
    rw [decide_eq_true c1] at e1
    have q := q (some [83])
    generalize enc x = X at *
    generalize enc tx1 = T1 at *
    simp [di, forGo, ixS, e1]
    exact q
  · rw [if_neg c1]
    rw [decide_eq_false c1] at e1
    by_cases c2 : x = tx2
    · rw [if_pos c2]
      rw [decide_eq_true c2] at e2
      have q := q (some [75])
      generalize enc x = X at *
      generalize enc tx1 = T1 at *
      generalize enc tx2 = T2 at *
      simp [di, forGo, ixS, ixK', e1, e2]
      exact q
    · rw [if_neg c2]
      rw [decide_eq_false c2] at e2
      have q := q none
      generalize enc x = X at *
      generalize enc tx1 = T1 at *
      generalize enc tx2 = T2 at *
      simp [di, forGo, ixS, ixK', e1, e2]
      exact q
def encP : Option (Tr × Tr) → D
  | none => .non
  | some (a, b) => .tup [enc a, enc b]
theorem frontIs_inF (t : Tr) : frontIs [83] t = (inF t).isSome := by
  cases t with
  | lf s => rw [frontIs_lf]; rfl
  | jn l r =>
    cases l with
    | lf s => rw [frontIs_jnlf]; by_cases h : s = [83] <;> simp [inF, h]
    | jn a b => rw [frontIs_jnjn]; rfl
open Classical in
theorem joint_parts_ok (x : Tr) (st : Stor) (hd : dp x < 800) : F_p_joint_parts [enc hdT, enc x] st = .ok (encP (partsT x)) st := by
  unfold F_p_joint_parts gcF fnM b_p_joint_parts
  have is0 := enc_is_str x
  rw [show startM 3 [enc hdT, enc x] = [some (enc hdT), some (enc x), none] from rfl]
  cases x with
  | lf s =>
    rw [show partsT (.lf s) = none from rfl, show encP none = .non from rfl]
    generalize enc hdT = HD at *
    rw [show enc (.lf s) = .str s from rfl]
    simp [subTy, truV]
    exact gc_same (by simp)
  | jn p b =>
    have x0 : ixV (enc (.jn p b)) (.int 0) st = .ok (enc p) st := by rw [enc]; exact r_ix_tup st 0 _ _ rfl
    have x1 : ixV (enc (.jn p b)) (.int 1) st = .ok (enc b) st := by rw [enc]; exact r_ix_tup st 1 _ _ rfl
    have f1 := has_in_front_ok [83] p st
    rw [frontIs_inF] at f1
    rw [show partsT (.jn p b) = (inF p).bind (frP b) from rfl]
    cases e1 : inF p with
    | none =>
      rw [e1] at f1
      rw [Option.bind_none, show encP none = .non from rfl]
      generalize enc hdT = HD at *
      generalize enc (.jn p b) = J at *
      generalize enc p = P at *
      simp [is0, truV, x0, f1]
      exact gc_same (by simp)
    | some f =>
      rw [e1] at f1
      have ep := inF_some e1
      subst ep
      have y1 : ixV (enc (.jn tS f)) (.int 1) st = .ok (enc f) st := by rw [enc]; exact r_ix_tup st 1 _ _ rfl
      rw [Option.bind_some]
      have is1 := enc_is_str f
      cases f with
      | lf s =>
        rw [show frP b (.lf s) = none from rfl, show encP none = .non from rfl]
        rw [show enc (.lf s) = .str s from rfl] at *
        generalize enc hdT = HD at *
        generalize enc (.jn (.jn tS (.lf s)) b) = J at *
        generalize enc (.jn tS (.lf s)) = P at *
        simp [is0, truV, x0, f1, y1, subTy]
        exact gc_same (by simp)
      | jn q a =>
        have z0 : ixV (enc (.jn q a)) (.int 0) st = .ok (enc q) st := by rw [enc]; exact r_ix_tup st 0 _ _ rfl
        have z1 : ixV (enc (.jn q a)) (.int 1) st = .ok (enc a) st := by rw [enc]; exact r_ix_tup st 1 _ _ rfl
        have f2 := has_in_front_ok [83] q st
        rw [frontIs_inF] at f2
        rw [show frP b (.jn q a) = if inF q = some hdT then some (a, b) else none from rfl]
        cases e2 : inF q with
        | none =>
          rw [e2] at f2
          rw [if_neg (fun z => nomatch z), show encP none = .non from rfl]
          generalize enc hdT = HD at *
          generalize enc (.jn (.jn tS (.jn q a)) b) = J at *
          generalize enc (.jn tS (.jn q a)) = P at *
          generalize enc (.jn q a) = P2 at *
          generalize enc q = Q at *
          simp [is0, is1, truV, x0, f1, y1, z0, f2]
          exact gc_same (by simp)
        | some g =>
          rw [e2] at f2
          have eq := inF_some e2
          subst eq
          have w1 : ixV (enc (.jn tS g)) (.int 1) st = .ok (enc g) st := by rw [enc]; exact r_ix_tup st 1 _ _ rfl
          have ne := ne_encs g hdT st (by simp only [dp] at hd; omega)
          have u1 := enc_under st.length a
          have u2 := enc_under st.length b
          by_cases c : g = hdT
          · rw [if_pos (by rw [c]), show encP (some (a, b)) = .tup [enc a, enc b] from rfl]
            rw [decide_eq_true c] at ne
            generalize enc hdT = HD at *
            generalize enc (.jn (.jn tS (.jn (.jn tS g) a)) b) = J at *
            generalize enc (.jn tS (.jn (.jn tS g) a)) = P at *
            generalize enc (.jn (.jn tS g) a) = P2 at *
            generalize enc (.jn tS g) = Q at *
            generalize enc g = G at *
            generalize enc a = A at *
            generalize enc b = B at *
            simp [is0, is1, truV, x0, x1, f1, y1, z0, z1, f2, w1, ne]
            exact gc_same (by simp [u1, u2])
          · rw [if_neg (fun z => c (Option.some.inj z)), show encP none = .non from rfl]
            rw [decide_eq_false c] at ne
            generalize enc hdT = HD at *
            generalize enc (.jn (.jn tS (.jn (.jn tS g) a)) b) = J at *
            generalize enc (.jn tS (.jn (.jn tS g) a)) = P at *
            generalize enc (.jn (.jn tS g) a) = P2 at *
            generalize enc (.jn tS g) = Q at *
            generalize enc g = G at *
            simp [is0, is1, truV, x0, x1, f1, y1, z0, z1, f2, w1, ne]
            exact gc_same (by simp)
end Law
set_option maxHeartbeats 0
namespace Law
open L2 M Tr
theorem none_str (s : List Nat) (st : Stor) : isNoneV (.str s) .non st = .ok (.bl false) st := enc_none (.lf s) st
theorem none_tup (ds : List D) (st : Stor) : isNoneV (.tup ds) .non st = .ok (.bl false) st := rfl
theorem none_non (st : Stor) : isNoneV .non .non st = .ok (.bl true) st := rfl
theorem tree_in_order_ok (t : Tr) (n : Nat) (st : Stor) (h : st[n]? = some (.lst (ordD t))) (hl : nds t ≤ 800000) : F_p_tree_in_order [.loc n] st = .ok (enc t) st := by
  unfold F_p_tree_in_order gcF fnM b_p_tree_in_order
  generalize hB : (ifS (tB1 (op2 isNoneV (vr 2) (ct .non))) _ _ : MS) = B
  let E : Option D → Option D → Option D → MEnv := fun a2 a3 a4 => [some (.loc n), some (.loc st.length), a2, a3, a4]
  let S : List D → Stor := fun T => st ++ [.lst T]
  have hg : ∀ T, okG [(n, .lst (ordD t))] (S T) := fun T => by simp [S, get_app h]
  have loop : ∀ (u : Tr) (rest T : List D) (a2 a3 a4 : Option D), T.length + nds u ≤ 900000 →
      ∃ b2 b3 b4, forGo (nameG 2) B [(n, .lst (ordD t))] ((ordD u).reverse ++ rest) (E a2 a3 a4) (S T) = forGo (nameG 2) B [(n, .lst (ordD t))] rest (E b2 b3 b4) (S (T ++ [enc u])) := by
    intro u
    induction u with
    | lf s =>
      intro rest T a2 a3 a4 hT
      refine ⟨some (.str s), a3, a4, ?_⟩
      refine forGo_step (env1 := E (some (.str s)) a3 a4) (st1 := S T) (hg T) rfl ?_
      rw [← hB, show enc (.lf s) = .str s from rfl]
      have hTl : T.length < 1000000 := by omega
      simp [E, S, isTy, appendV, hTl, none_str]
    | jn l r ihl ihr =>
      intro rest T a2 a3 a4 hT
      rw [nds] at hT
      rw [ordD, List.reverse_cons, List.reverse_append, List.append_assoc, List.append_assoc]
      obtain ⟨b2, b3, b4, q1⟩ := ihl ((ordD r).reverse ++ ([.non] ++ rest)) T a2 a3 a4 (by omega)
      obtain ⟨c2, c3, c4, q2⟩ := ihr ([.non] ++ rest) (T ++ [enc l]) b2 b3 b4 (by simp; omega)
      rw [q1, q2]
      refine ⟨some .non, some (enc r), some (enc l), ?_⟩
      refine forGo_step (env1 := E (some .non) c3 c4) (st1 := S (T ++ [enc l] ++ [enc r])) (hg _) rfl ?_
      rw [← hB]
      have hTl : T.length < 1000000 := by omega
      have p1 := pop_snocG st [] (T ++ [enc l]) (enc r)
      have p2 := pop_snocG st [] T (enc l)
      have j1 := joint_ok l r (st ++ [.lst T])
      generalize enc (.jn l r) = J at *
      generalize enc l = L at *
      generalize enc r = R' at *
      simp only [E, S]
      simp only [List.append_assoc, List.singleton_append] at p1
      simp [isTy, p1, p2, j1, appendV, hTl, none_non]
  obtain ⟨b2, b3, b4, e2⟩ := loop t [] [] none none none (by simp; omega)
  rw [List.append_nil, List.nil_append, forGo_end (hg _)] at e2
  have lg : lstG (S []) n = some (ordD t, .lst (ordD t)) := by simp [S, lstG, get_app h]
  have ix0 : ixV (.loc st.length) (.int 0) (S [enc t]) = .ok (enc t) (S [enc t]) := by simp [S, ixV, atI, ixN]
  have hu := enc_under st.length t
  rw [show startM 5 [D.loc n] = [some (.loc n), none, none, none, none] from rfl]
  simp only [E, S] at e2 lg ix0
  generalize ordD t = O' at *
  generalize enc t = X at *
  simp [lg, e2, ix0]
  exact gc_flat hu
open Classical in
theorem text_told_ok (x : Tr) (st : Stor) (ht : st[1]? = some (.tab "out_and_cost")) (hc : noClo st) (hd : dp x < 800) (hl : lv x ≤ 300000) : F_p_text_told [enc x] st = .ok (encOT (toldT x)) st := by
  have hN : nds x ≤ 600000 := by have := nds_lv x; omega
  have hl1 : 1 < st.length := (List.getElem?_eq_some_iff.mp ht).1
  unfold F_p_text_told gcF fnM b_p_text_told
  generalize hB : (seqS (setS 5 (meth0E "list" popV (vr 4))) _ : MS) = B
  let E : Option D → Option D → Option D → MEnv := fun a5 a6 a7 => [some (enc x), some (.loc st.length), some (.loc (st.length + 1)), some (enc hdT), some (.loc (st.length + 2)), a5, a6, a7]
  let S : MO → List D → List Tr → Stor := fun X O W => st ++ [.lst O, X, .lst (W.map enc)]
  have loop : ∀ (k : Nat) (X : MO) (O : List D) (W : List Tr) (a5 a6 a7 : Option D), (X = .dkc txs ∨ X = .dkf txs) → (∀ w ∈ W, dp w < 800) → ndW W ≤ k → O.length + ndW W ≤ 800000 →
      (∃ ts X' b5 b6 b7, W.map toldT = ts.map some ∧ (X' = .dkc txs ∨ X' = .dkf txs) ∧ ndW ts ≤ ndW W ∧ whileW (tru (vr 4)) B (E a5 a6 a7) (S X O W) = .ok (.nx (E b5 b6 b7)) (S X' (O ++ ordWD ts) [])) ∨
      ((∃ w ∈ W, toldT w = none) ∧ ∃ g, whileW (tru (vr 4)) B (E a5 a6 a7) (S X O W) = .ok (.rt .non) (st ++ g)) := by
    intro k
    induction k with
    | zero =>
      intro X O W a5 a6 a7 hX _ hk _
      have hw := ndW_len W
      cases W with
      | nil =>
        refine .inl ⟨[], X, a5, a6, a7, rfl, hX, Nat.le_refl _, ?_⟩
        rw [whileW_eq]
        simp [E, S, truV, ordWD]
      | cons y W => simp at hw; omega
    | succ k ih =>
      intro X O W a5 a6 a7 hX hdW hk hO
      rcases List.eq_nil_or_concat W with rfl | ⟨W, y, rfl⟩
      · refine .inl ⟨[], X, a5, a6, a7, rfl, hX, Nat.le_refl _, ?_⟩
        rw [whileW_eq]
        simp [E, S, truV, ordWD]
      · rw [List.concat_eq_append] at *
        rw [ndW_snoc] at hk hO
        have hy := nds_pos y
        have hwl := ndW_len W
        have hdy : dp y < 800 := hdW y (by simp)
        have c1 : tru (vr 4) (E a5 a6 a7) (S X O (W ++ [y])) = .ok true (S X O (W ++ [y])) := by simp [E, S, truV]
        have p1 : popV (.loc (st.length + 2)) [] (S X O (W ++ [y])) = .ok (enc y) (S X O W) := by simp [S, popV]
        have hSX : (S X O W)[st.length + 1]? = some X := by simp [S]
        have lt : F_p_leaf_told [.loc (st.length + 1), enc y] (S X O W) = .ok (encL (leafT y)) (S (.dkf txs) O W) := by
          rw [leaf_told_ok y (st.length + 1) (S X O W) (by rw [hSX]; rcases hX with rfl | rfl; exact .inl rfl; exact .inr rfl) hdy]
          simp [S]
        have hOl : O.length < 1000000 := by omega
        have ap : ∀ d : D, appendV (.loc st.length) [d] (S (.dkf txs) O W) = .ok .non (S (.dkf txs) (O ++ [d]) W) := fun d => by simp [S, appendV, hOl]
        have ty1 : isTy "list" (.loc st.length) (S (.dkf txs) O W) = true := by simp [S, isTy]
        have ty4 : isTy "list" (.loc (st.length + 2)) (S X O (W ++ [y])) = true := by simp [S, isTy]
        cases e1 : leafT y with
        | some s =>
          rw [e1] at lt
          rw [show encL (some s) = .str s from rfl] at lt
          have b1 : B (E a5 a6 a7) (S X O (W ++ [y])) = .ok (.nx (E (some (enc y)) (some (.str s)) a7)) (S (.dkf txs) (O ++ [.str s]) W) := by
            rw [← hB]
            have ap := ap (.str s)
            simp only [E]
            generalize S X O (W ++ [y]) = Z1 at *
            generalize S X O W = Z2 at *
            generalize S (.dkf txs) O W = Z3 at *
            generalize S (.dkf txs) (O ++ [.str s]) W = Z4 at *
            generalize enc y = Y at *
            generalize enc x = X' at *
            generalize enc hdT = HD at *
            simp [ty4, p1, lt, ty1, ap, none_str]
          rw [whileW_eq, c1, R.bind_ok, if_pos rfl, b1, R.bind_ok]
          dsimp only
          rcases ih (.dkf txs) (O ++ [.str s]) W (some (enc y)) (some (.str s)) a7 (.inr rfl) (fun w hw => hdW w (by simp [hw])) (by omega) (by simp; omega) with ⟨ts, X', b5, b6, b7, q1, q2, q3, q4⟩ | ⟨⟨w, hw, q1⟩, q2⟩
          · refine .inl ⟨ts ++ [.lf s], X', b5, b6, b7, ?_, q2, ?_, ?_⟩
            · rw [List.map_append, List.map_append, q1]; simp [told_leaf e1]
            · rw [ndW_snoc, ndW_snoc]; simp only [nds]; omega
            · rw [q4, ordWD_snoc, ordD, List.append_assoc]
          · exact .inr ⟨⟨w, by simp [hw], q1⟩, q2⟩
        | none =>
          rw [e1] at lt
          rw [show encL none = .non from rfl] at lt
          have jp := joint_parts_ok y (S (.dkf txs) (O ++ [.non]) W) hdy
          have ap := ap .non
          cases e2 : partsT y with
          | none =>
            rw [e2, show encP none = .non from rfl] at jp
            have b1 : B (E a5 a6 a7) (S X O (W ++ [y])) = .ok (.rt .non) (S (.dkf txs) (O ++ [.non]) W) := by
              rw [← hB]
              simp only [E]
              generalize S X O (W ++ [y]) = Z1 at *
              generalize S X O W = Z2 at *
              generalize S (.dkf txs) O W = Z3 at *
              generalize S (.dkf txs) (O ++ [.non]) W = Z4 at *
              generalize enc y = Y at *
              generalize enc x = X' at *
              generalize enc hdT = HD at *
              simp [ty4, p1, lt, ty1, ap, jp, none_non]
            rw [whileW_eq, c1, R.bind_ok, if_pos rfl, b1, R.bind_ok]
            exact .inr ⟨⟨y, by simp, told_no e1 e2⟩, _, rfl⟩
          | some q =>
            obtain ⟨a, b⟩ := q
            rw [e2, show encP (some (a, b)) = .tup [enc a, enc b] from rfl] at jp
            have ey := parts_some e2
            have dy : dp a < dp y ∧ dp b < dp y := by rw [ey, jnT]; simp only [dp]; omega
            have ny : nds a + nds b + 1 ≤ nds y := by rw [ey, jnT]; simp only [nds]; omega
            have hWl : (W.map enc).length + [enc a, enc b].length ≤ 1000000 := by simp; omega
            have ex : extendT (.loc (st.length + 2)) [.tup [enc a, enc b]] (S (.dkf txs) (O ++ [.non]) W) = .ok .non (S (.dkf txs) (O ++ [.non]) (W ++ [a] ++ [b])) := by
              simp [S, extendT]
              simp at hWl
              omega
            have ty5 : isTy "list" (.loc (st.length + 2)) (S (.dkf txs) (O ++ [.non]) W) = true := by simp [S, isTy]
            have b1 : B (E a5 a6 a7) (S X O (W ++ [y])) = .ok (.nx (E (some (enc y)) (some .non) (some (.tup [enc a, enc b])))) (S (.dkf txs) (O ++ [.non]) (W ++ [a] ++ [b])) := by
              rw [← hB]
              simp only [E]
              generalize S X O (W ++ [y]) = Z1 at *
              generalize S X O W = Z2 at *
              generalize S (.dkf txs) O W = Z3 at *
              generalize S (.dkf txs) (O ++ [.non]) W = Z4 at *
              generalize S (.dkf txs) (O ++ [.non]) (W ++ [a] ++ [b]) = Z5 at *
              generalize enc y = Y at *
              generalize enc x = X' at *
              generalize enc hdT = HD at *
              generalize enc a = A at *
              generalize enc b = B' at *
              simp [ty4, p1, lt, ty1, ap, jp, ty5, ex, none_non, none_tup]
            rw [whileW_eq, c1, R.bind_ok, if_pos rfl, b1, R.bind_ok]
            dsimp only
            have ew : ndW (W ++ [a] ++ [b]) = ndW W + nds a + nds b := by rw [ndW_snoc, ndW_snoc]
            rcases ih (.dkf txs) (O ++ [.non]) (W ++ [a] ++ [b]) (some (enc y)) (some .non) (some (.tup [enc a, enc b])) (.inr rfl) (by
                intro w hw
                simp at hw
                rcases hw with hw | rfl | rfl
                · exact hdW w (by simp [hw])
                · omega
                · omega) (by rw [ew]; omega) (by rw [ew]; simp; omega) with ⟨ts, X', b5, b6, b7, q1, q2, q3, q4⟩ | ⟨⟨w, hw, q1⟩, q2⟩
            · have q1' := q1
              rw [List.map_append, List.map_append] at q1'
              have hlen : ts.length = W.length + 2 := by have := congrArg List.length q1; simp at this; omega
              rcases List.eq_nil_or_concat ts with rfl | ⟨ts, tb, rfl⟩
              · simp at hlen
              rcases List.eq_nil_or_concat ts with rfl | ⟨ts, ta, rfl⟩
              · simp at hlen
              simp only [List.concat_eq_append] at *
              rw [List.map_append, List.map_append] at q1'
              obtain ⟨h1, h2⟩ := List.append_inj q1' (by simp at hlen ⊢; omega)
              obtain ⟨h3, h4⟩ := List.append_inj h1 (by simp at hlen ⊢; omega)
              have h2 : toldT b = some tb := by simpa using h2
              have h4 : toldT a = some ta := by simpa using h4
              refine .inl ⟨ts ++ [.jn ta tb], X', b5, b6, b7, ?_, q2, ?_, ?_⟩
              · rw [List.map_append, List.map_append, h3]; simp [told_jn e2, h4, h2]
              · rw [ndW_snoc, ndW_snoc, ndW_snoc, ndW_snoc] at q3
                rw [ndW_snoc, ndW_snoc]; simp only [nds]; omega
              · rw [q4, ordWD_snoc, ordWD_snoc, ordWD_snoc, ordD]; simp
            · refine .inr ⟨?_, q2⟩
              simp at hw
              rcases hw with hw | rfl | rfl
              · exact ⟨w, by simp [hw], q1⟩
              · exact ⟨y, by simp, by rw [told_jn e2, q1]; rfl⟩
              · exact ⟨y, by simp, by rw [told_jn e2, q1]; cases toldT a <;> rfl⟩
  have a1 := leaf_texts_ok (st ++ [.lst []]) (by rw [List.getElem?_append_left hl1]; exact ht) (by simp [hc, MO.isClo])
  have a2 := joint_head_ok (st ++ [.lst []] ++ [.dkc txs]) (by rw [List.append_assoc, List.getElem?_append_left hl1]; exact ht) (by simp [hc, MO.isClo])
  have e1 : (st ++ [MO.lst []]).length = st.length + 1 := by simp
  rw [e1] at a1
  have e2 : (st ++ [MO.lst []] ++ [MO.dkc txs]).length = st.length + 2 := by simp
  have hS : S (.dkc txs) [] [x] = st ++ [MO.lst []] ++ [.dkc txs] ++ [.lst [enc x]] := by simp [S]
  rw [show startM 8 [enc x] = [some (enc x), none, none, none, none, none, none, none] from rfl]
  have hu := encOT_under st.length (toldT x)
  rcases loop (nds x) (.dkc txs) [] [x] none none none (.inl rfl) (by simp [hd]) (by simp [ndW]) (by simp [ndW]; omega) with ⟨ts, X', b5, b6, b7, q1, q2, q3, q4⟩ | ⟨⟨w, hw, q1⟩, g, q2⟩
  · match ts, q1 with
    | [t], q1 =>
      have q1 : toldT x = some t := by simpa using q1
      rw [q1, show encOT (some t) = enc t from rfl] at *
      have nt : nds t ≤ nds x := by simpa [ndW] using q3
      rw [List.nil_append, show ordWD [t] = ordD t from by simp [ordWD], hS] at q4
      have ti := tree_in_order_ok t st.length (S X' (ordD t) []) (by simp [S]) (by omega)
      have hu2 : gc st (.ok (enc t) (S X' (ordD t) [])) = .ok (enc t) st := gc_flat (enc_under st.length t)
      generalize S X' (ordD t) [] = Z4 at *
      simp only [E] at q4
      generalize enc hdT = HD at *
      generalize enc t = T at *
      generalize enc x = XX at *
      generalize hZ2 : (st ++ [MO.lst []] ++ [.dkc txs] : Stor) = Z2 at *
      generalize hZ1 : (st ++ [MO.lst []] : Stor) = Z1 at *
      simp [hZ1, hZ2, a1, a2, e1, e2, q4, ti]
      exact hu2
    | [], q1 => simp at q1
    | _ :: _ :: _, q1 => simp at q1
  · have hw : w = x := by simpa using hw
    subst hw
    rw [q1, show encOT none = .non from rfl] at *
    have hu2 : gc st (.ok .non (st ++ g)) = .ok .non st := gc_flat (by simp)
    rw [hS] at q2
    simp only [E] at q2
    generalize st ++ g = Z4 at *
    generalize enc hdT = HD at *
    generalize enc w = XX at *
    generalize hZ2 : (st ++ [MO.lst []] ++ [.dkc txs] : Stor) = Z2 at *
    generalize hZ1 : (st ++ [MO.lst []] : Stor) = Z1 at *
    simp [hZ1, hZ2, a1, a2, e1, e2, q2]
    exact hu2
end Law
set_option maxHeartbeats 0
namespace Law
open L2 M Tr
theorem tree_ok (xs : List Int) (n : Nat) (st : Stor) (h : st[n]? = some (.lst (xs.map D.int))) (hx : xs.length ≤ 1000) : ∃ t : Tr, sk t ∧ lv t ≤ xs.length + 1 ∧ F_l_tree [.loc n] st = .ok (enc t) st := by
  unfold F_l_tree gcF fnM b_l_tree
  generalize hP : (seqS (setS 3 (meth0E "list" popV (vr 1))) _ : MS) = P
  generalize hB : (ifS (andT _ _) P _ : MS) = B
  have fP : ∀ (us : List Tr) (a b : Tr) (a0 a2 a3 : Option D), us.length < 1000000 → P [a0, some (.loc st.length), a2, a3] (st ++ [.lst ((us ++ [a] ++ [b]).map enc)]) = .ok (.nx [a0, some (.loc st.length), a2, some (enc b)]) (st ++ [.lst ((us ++ [Tr.jn a b]).map enc)]) := fun us a b a0 a2 a3 hl => by
    rw [← hP]; exact put_two us a b st [] a0 a2 a3 hl
  obtain ⟨env', st', h1, ts, a2, a3, ht1, ht2, rfl, rfl⟩ := forGo_ix (g := nameG 2) (b := B) (gs := [(n, .lst (xs.map D.int))]) (items := xs.map D.int)
    (fun i env s => ∃ (ts : List Tr) (a2 a3 : Option D), sks ts ∧ lvs ts ≤ i ∧ env = [some (.loc n), some (.loc st.length), a2, a3] ∧ s = st ++ [.lst (ts.map enc)])
    (env := [some (.loc n), some (.loc st.length), none, none]) (st := st ++ [.lst []]) ⟨[], none, none, fun t ht => absurd ht (List.not_mem_nil), by simp [lvs], rfl, rfl⟩ (by
      rintro i d env s hi ⟨ts, a2, a3, h1, h2, rfl, rfl⟩
      obtain ⟨c, hc, rfl⟩ := map_get hi
      have hil : i < xs.length := (List.getElem?_eq_some_iff.mp hc).1
      have hll := lvs_len ts
      have lev : lenV [.loc st.length] (st ++ [.lst (ts.map enc)]) = .ok (.int ts.length) (st ++ [.lst (ts.map enc)]) := by
        have := r_len_loc (st ++ [.lst (ts.map enc)]) st.length (ts.map enc) (by simp only [items_app0, items_cons0])
        rwa [List.length_map] at this
      refine ⟨by simp [get_app h], _, _, rfl, ?_⟩
      have push : ∃ env2 st2, (ifS (tB1 (op2 ltV (callE lenV (consA (vr 1) nilA)) (ct (.int 3)))) (exprS (methE "list" appendV (vr 1) (consA (op2 ixV (ct (.str [83, 75])) (op2 modV (op2 fdivV (vr 2) (ct (.int 5))) (ct (.int 2)))) nilA))) skipS [some (.loc n), some (.loc st.length), some (.int c), a3] (st ++ [.lst (ts.map enc)]) = .ok (.nx env2) st2) ∧
          (∃ (ts : List Tr) (a2 a3 : Option D), sks ts ∧ lvs ts ≤ i + 1 ∧ env2 = [some (.loc n), some (.loc st.length), a2, a3] ∧ st2 = st ++ [.lst (ts.map enc)]) := by
        obtain ⟨y, hy, py⟩ := pickS [83, 75] (c / 5 % 2) (by omega) (by show _ < (2 : Int); omega) (by decide)
        have hl' : (ts.map enc).length < 1000000 := by rw [List.length_map]; omega
        by_cases h3 : ts.length < 3
        · have h3' : ((ts.length : Nat) : Int) < 3 := by omega
          refine ⟨[some (.loc n), some (.loc st.length), some (.int c), a3], st ++ [.lst ((ts ++ [Tr.lf [y]]).map enc)], ?_, ts ++ [Tr.lf [y]], some (.int c), a3, sks_snoc h1 ?_, ?_, rfl, rfl⟩
          · rw [List.map_append, show List.map enc [Tr.lf [y]] = [D.str [y]] from rfl]
            generalize ((ts.length : Nat) : Int) = LL at *
            generalize ts.map enc = L at *
            simp [lev, h3', isTy, r_fdiv_int, r_mod_int, py, appendV, hl']
          · simp at hy
            rcases hy with rfl | rfl
            · exact .inl rfl
            · exact .inr rfl
          · rw [lvs_snoc, lv]; omega
        · have h3' : ¬ ((ts.length : Nat) : Int) < 3 := by omega
          refine ⟨[some (.loc n), some (.loc st.length), some (.int c), a3], st ++ [.lst (ts.map enc)], ?_, ts, some (.int c), a3, h1, by omega, rfl, rfl⟩
          generalize ((ts.length : Nat) : Int) = LL at *
          generalize st ++ [MO.lst (ts.map enc)] = Z at *
          simp [lev, h3']
      by_cases hc5 : c % 5 < 2
      · by_cases hl2 : 1 < ts.length
        · obtain ⟨us, a, b, rfl⟩ := two_last hl2
          refine ⟨[some (.loc n), some (.loc st.length), some (.int c), some (enc b)], st ++ [.lst ((us ++ [Tr.jn a b]).map enc)], .inl ?_, us ++ [Tr.jn a b], some (.int c), some (enc b), ?_, ?_, rfl, rfl⟩
          · have hul : us.length < 1000000 := by
              have : us.length + 2 = (us ++ [a] ++ [b]).length := by simp
              omega
            have fp := fP us a b (some (.loc n)) (some (.int c)) a3 hul
            have hl3 : (1 : Int) < ((us ++ [a] ++ [b]).length : Nat) := by omega
            rw [← hB]
            generalize (us ++ [a] ++ [b]).length = LL at *
            generalize st ++ [MO.lst ((us ++ [a] ++ [b]).map enc)] = Z at *
            simp only [r_ifS, r_andT, r_tB1, r_op2, r_vr, r_ct, List.set_cons_zero, List.set_cons_succ, List.getElem?_cons_zero, List.getElem?_cons_succ, R.bind_ok, r_mod_int Z c 5 (by omega), r_lt_int, r_gt_int, decide_eq_true hc5, if_true, r_callE, r_consA, r_nilA, lev, decide_eq_true hl3]
            exact fp
          · exact sks_snoc (fun u hu => h1 u (by simp [hu])) ⟨h1 a (by simp), h1 b (by simp)⟩
          · rw [lvs_snoc] at h2 ⊢
            rw [lvs_snoc] at h2
            rw [lv]; omega
        · obtain ⟨env2, st2, hp, hI⟩ := push
          refine ⟨env2, st2, .inl ?_, hI⟩
          rw [← hp, ← hB]
          have hl3 : ¬ (1 : Int) < (ts.length : Nat) := by omega
          generalize ts.length = LL at *
          generalize st ++ [MO.lst (ts.map enc)] = Z at *
          simp only [r_ifS, r_andT, r_tB1, r_op2, r_vr, r_ct, List.set_cons_zero, List.set_cons_succ, List.getElem?_cons_zero, List.getElem?_cons_succ, R.bind_ok, r_mod_int Z c 5 (by omega), r_lt_int, r_gt_int, decide_eq_true hc5, if_true, r_callE, r_consA, r_nilA, lev, decide_eq_false hl3, Bool.false_eq_true, if_false]
      · obtain ⟨env2, st2, hp, hI⟩ := push
        refine ⟨env2, st2, .inl ?_, hI⟩
        rw [← hp, ← hB]
        generalize st ++ [MO.lst (ts.map enc)] = Z at *
        simp only [r_ifS, r_andT, r_tB1, r_op2, r_vr, r_ct, List.set_cons_zero, List.set_cons_succ, List.getElem?_cons_zero, List.getElem?_cons_succ, R.bind_ok, r_mod_int Z c 5 (by omega), r_lt_int, decide_eq_false hc5, Bool.false_eq_true, if_false])
    (fun env s ⟨_, _, _, _, _, _, e⟩ => by rw [e]; simp [get_app h])
  rw [List.length_map] at ht2
  -- none: one leaf
  obtain ⟨us, hu1, hu2, hu3, hif⟩ : ∃ us : List Tr, us ≠ [] ∧ sks us ∧ lvs us ≤ xs.length + 1 ∧ ∃ g : Stor, ifS (tB1 (op2 (M.eqV 800) (vr 1) (lstE nilA))) (exprS (methE "list" appendV (vr 1) (consA (ct (.str [75])) nilA))) skipS [some (.loc n), some (.loc st.length), a2, a3] (st ++ [.lst (ts.map enc)]) = .ok (.nx [some (.loc n), some (.loc st.length), a2, a3]) (st ++ [.lst (us.map enc), .lst []]) := by
    have eqn := r_eq_nil 800 st.length (st.length + 1) (ts.map enc) (st ++ [.lst (ts.map enc), .lst []]) (by simp) (by simp) (encs_flats ts) (by omega)
    rw [List.isEmpty_map] at eqn
    by_cases hne : ts = []
    · subst hne
      refine ⟨[Tr.lf [75]], by simp, fun t ht => by
        obtain rfl : t = _ := by simpa using ht
        exact .inr rfl, by simp [lvs, lv], [], ?_⟩
      simp only [List.map_nil, List.isEmpty_nil] at eqn
      simp [eqn, isTy, appendV, enc]
    · refine ⟨ts, hne, ht1, by omega, [], ?_⟩
      have : ts.isEmpty = false := by cases ts with
        | nil => exact absurd rfl hne
        | cons _ _ => rfl
      rw [this] at eqn
      generalize ts.map enc = L at *
      simp [eqn]
  obtain ⟨_, hif⟩ := hif
  -- put together
  have W : ∀ (q : Nat) (us : List Tr) (a3 : Option D), us.length ≤ q → us ≠ [] → sks us → lvs us ≤ xs.length + 1 → ∃ (t : Tr) (b3 : Option D), sk t ∧ lv t ≤ xs.length + 1 ∧
      whileW (tB1 (op2 gtV (callE lenV (consA (vr 1) nilA)) (ct (.int 1)))) P [some (.loc n), some (.loc st.length), a2, a3] (st ++ [.lst (us.map enc), .lst []]) = .ok (.nx [some (.loc n), some (.loc st.length), a2, b3]) (st ++ [.lst [enc t], .lst []]) := by
    intro q
    induction q with
    | zero => intro us a3 hq hne; exact absurd (List.length_eq_zero_iff.mp (by omega)) hne
    | succ q ih =>
      intro us a3 hq hne hs hl
      have lev : lenV [.loc st.length] (st ++ [.lst (us.map enc), .lst []]) = .ok (.int us.length) (st ++ [.lst (us.map enc), .lst []]) := by
        have := r_len_loc (st ++ [.lst (us.map enc), .lst []]) st.length (us.map enc) (by simp only [items_app0, items_cons0])
        rwa [List.length_map] at this
      have hc : tB1 (op2 gtV (callE lenV (consA (vr 1) nilA)) (ct (.int 1))) [some (.loc n), some (.loc st.length), a2, a3] (st ++ [.lst (us.map enc), .lst []]) = .ok (decide (1 < us.length)) (st ++ [.lst (us.map enc), .lst []]) := by
        generalize st ++ [MO.lst (us.map enc), .lst []] = Z at *
        simp [lev]
        omega
      rw [whileW_eq, hc, R.bind_ok]
      by_cases h2 : 1 < us.length
      · obtain ⟨vs, a, b, rfl⟩ := two_last h2
        rw [decide_eq_true h2, if_pos rfl]
        have hlen : vs.length + 2 = (vs ++ [a] ++ [b]).length := by simp
        have hll := lvs_len (vs ++ [a] ++ [b])
        have fp := put_two vs a b st [.lst []] (some (.loc n)) a2 a3 (by omega)
        rw [hP] at fp
        rw [fp, R.bind_ok]
        exact ih (vs ++ [Tr.jn a b]) (some (enc b)) (by simp; omega) (by simp) (sks_snoc (fun u hu => hs u (by simp [hu])) ⟨hs a (by simp), hs b (by simp)⟩) (by
          rw [lvs_snoc, lvs_snoc] at hl
          rw [lvs_snoc, lv]; omega)
      · rw [decide_eq_false h2, if_neg (by simp)]
        match us, hne, h2 with
        | [t], _, _ => exact ⟨t, a3, hs t (by simp), by simpa [lvs] using hl, rfl⟩
        | _ :: _ :: _, _, h2 => simp at h2
  obtain ⟨t, b3, k1, k2, hw⟩ := W us.length us a3 (Nat.le_refl _) hu1 hu2 hu3
  refine ⟨t, k1, k2, ?_⟩
  have hix : ixV (.loc st.length) (.int 0) (st ++ [.lst [enc t], .lst []]) = .ok (enc t) (st ++ [.lst [enc t], .lst []]) := r_ix_loc _ _ _ [enc t] _ (by simp) rfl
  have hu := enc_under st.length t
  have hit : itemsAt (st ++ [.lst []]) n = some (xs.map D.int) := by unfold itemsAt; rw [get_app h]
  have hgt : (st ++ [.lst []])[n]? = some (.lst (xs.map D.int)) := get_app h
  rw [show startM 4 [D.loc n] = [some (.loc n), none, none, none] from rfl]
  generalize xs.map D.int = X at *
  generalize enc t = T at *
  simp only [r_seqS, r_setS, r_lstE, r_nilA, R.bind_ok, List.set_cons_zero, List.set_cons_succ, List.length_nil, Nat.zero_le, if_true, r_forS, r_seqI, r_vr, List.getElem?_cons_zero, List.getElem?_cons_succ, hgt, h1, hif, hw, r_retS, r_op2, r_ct, hix]
  exact gc_flat hu
end Law
namespace Law
open L2 M Tr
theorem few_ok (xs : List Int) (n : Nat) (st : Stor) (h : st[n]? = some (.lst (xs.map D.int))) (hx : xs.length ≤ 1000) : ∃ t : Tr, sk t ∧ lv t ≤ 3 ∧ F_l_few [.loc n] st = .ok (enc t) st := by
  obtain ⟨t0, s0, l0, e0⟩ := tree_ok xs n st h hx
  have W : ∀ (k : Nat) (t : Tr), lv t ≤ k → sk t → ∃ u : Tr, sk u ∧ lv u ≤ 3 ∧ whileW (tB1 (op2 gtV (callF F_p_leaves [] (consA (vr 1) nilA)) (ct (.int 3)))) (setS 1 (op2 ixV (vr 1) (ct (.int 1)))) [some (.loc n), some (enc t)] st = .ok (.nx [some (.loc n), some (enc u)]) st := by
    intro k
    induction k with
    | zero => intro t hk; have := lv_pos t; omega
    | succ k ih =>
      intro t hk hs
      have lv1 := leaves_ok t st
      by_cases h3 : 3 < lv t
      · cases t with
        | lf s => simp [lv] at h3
        | jn l r =>
          have hl := lv_pos l
          obtain ⟨u, h1, h2, h4⟩ := ih r (by rw [lv] at hk; omega) hs.2
          refine ⟨u, h1, h2, ?_⟩
          have x1 : ixV (enc (.jn l r)) (.int 1) st = .ok (enc r) st := by rw [enc]; exact r_ix_tup st 1 _ _ rfl
          have h3' : (3 : Int) < ((lv (.jn l r) : Nat) : Int) := by omega
          rw [whileW_eq, ← h4]
          generalize enc (.jn l r) = J at *
          generalize enc r = R' at *
          generalize ((lv (.jn l r) : Nat) : Int) = LL at *
          simp [lv1, h3', x1]
      · refine ⟨t, hs, by omega, ?_⟩
        have h3' : ¬ (3 : Int) < ((lv t : Nat) : Int) := by omega
        rw [whileW_eq]
        generalize enc t = J at *
        generalize ((lv t : Nat) : Int) = LL at *
        simp [lv1, h3']
  obtain ⟨u, h1, h2, h4⟩ := W (lv t0) t0 (Nat.le_refl _) s0
  refine ⟨u, h1, h2, ?_⟩
  have hu := enc_under st.length u
  unfold F_l_few gcF fnM b_l_few
  rw [show startM 2 [D.loc n] = [some (.loc n), none] from rfl]
  generalize enc u = U at *
  generalize enc t0 = T at *
  simp [e0, h4]
  exact gc_same hu
end Law
set_option maxHeartbeats 0
namespace Law
open L2 M Tr
theorem player_ok (a b : Tr) (ha : val a = true) (hb : val b = true) (st : Stor) : F_p_player [enc a, enc b] st = .ok (enc (plyr a b)) st := by
  have h1 := holderN [a, b, tI] [enc a, enc b, .tup [.tup [.str [83], .str [75], .int 2, .bl true], .str [75], .int 3, .bl true]] rfl st (by intro t ht; simp at ht; rcases ht with rfl | rfl | rfl; exact ha; exact hb; exact val_I)
  have h2 := holderN [plyE a b] [enc (plyE a b)] rfl (st ++ [.lst [enc a, enc b, .tup [.tup [.str [83], .str [75], .int 2, .bl true], .str [75], .int 3, .bl true]]]) (by intro t ht; cases List.mem_singleton.mp ht; exact val_E ha hb)
  have hu : ∀ g : Stor, gc st (.ok (enc (plyr a b)) (st ++ g)) = .ok (enc (plyr a b)) st := fun g => gc_flat (enc_under _ _)
  rw [show hold [a, b, tI] = plyE a b from rfl] at h1
  rw [show hold [plyE a b] = plyr a b from rfl] at h2
  unfold F_p_player gcF fnM b_p_player
  have hu2 := hu ([MO.lst [enc a, enc b, .tup [.tup [.str [83], .str [75], .int 2, .bl true], .str [75], .int 3, .bl true]]] ++ [MO.lst [enc (plyE a b)]])
  rw [← List.append_assoc] at hu2
  generalize enc (plyr a b) = W at *
  generalize enc (plyE a b) = W2 at *
  generalize enc a = EA at *
  generalize enc b = EB at *
  have e : (st ++ [MO.lst [EA, EB, .tup [.tup [.str [83], .str [75], .int 2, .bl true], .str [75], .int 3, .bl true]]]).length = st.length + 1 := by simp
  generalize hZ : (st ++ [MO.lst [EA, EB, .tup [.tup [.str [83], .str [75], .int 2, .bl true], .str [75], .int 3, .bl true]]] : Stor) = Z at *
  rw [e] at h2
  simp [startM, hZ, h1, e, h2]
  exact hu2
theorem player_all_ok (st : Stor) : F_p_player_of_all [] st = .ok (enc (plyr tS Tr.tK)) st := by
  have h := player_ok tS Tr.tK rfl rfl st
  rw [show enc tS = .str [83] from rfl, show enc Tr.tK = .str [75] from rfl] at h
  have hu := enc_under st.length (plyr tS Tr.tK)
  unfold F_p_player_of_all gcF fnM b_p_player_of_all
  generalize enc (plyr tS Tr.tK) = W at *
  simp [startM, h]
  exact gc_same hu
theorem intEq (t : Tr) (st : Stor) : ∃ b : Bool, eqV 800 (enc t) (.str [75]) st = .ok (.bl b) st := ⟨_, r_eq_enc 799 t [75] st⟩
end Law
set_option maxHeartbeats 0
namespace Law
open L2 M Tr
theorem lcost_rec (st : Stor) : ∀ (k : Nat) (t : Tr), sk t → dp t < k → F_l_cost k [enc t] st = .ok (.int (cstT t : Nat)) st := by
  intro k
  induction k with
  | zero => intro t _ h; omega
  | succ k ih =>
    intro t hs hd
    have is1 := enc_is_str t
    rw [F_l_cost]
    unfold gcF fnM b_l_cost
    cases t with
    | lf s =>
      have hs : s = [83] ∨ s = [75] := hs
      rw [show enc (.lf s) = .str s from rfl, cstT]
      have xa : ixV (.loc st.length) (.int 0) (st ++ [.lst [.int 16, .int 14]]) = .ok (.int 16) (st ++ [.lst [.int 16, .int 14]]) := r_ix_loc _ _ _ [.int 16, .int 14] _ (by simp) rfl
      have xb : ixV (.loc st.length) (.int 1) (st ++ [.lst [.int 16, .int 14]]) = .ok (.int 14) (st ++ [.lst [.int 16, .int 14]]) := r_ix_loc _ _ _ [.int 16, .int 14] _ (by simp) rfl
      rcases hs with rfl | rfl
      · rw [if_pos rfl]
        have e := r_eq_enc 799 tS [75] (st ++ [.lst [.int 16, .int 14]])
        rw [show enc tS = .str [83] from rfl] at e
        simp [startM, subTy, truV, e, xa]
        exact gc_flat (by simp)
      · rw [if_neg (by decide)]
        have e := r_eq_enc 799 Tr.tK [75] (st ++ [.lst [.int 16, .int 14]])
        rw [show enc Tr.tK = .str [75] from rfl] at e
        simp [startM, subTy, truV, e, xb]
        exact gc_flat (by simp)
    | jn l r =>
      rw [dp] at hd
      have x0 : ixV (enc (.jn l r)) (.int 0) st = .ok (enc l) st := by rw [enc]; exact r_ix_tup st 0 _ _ rfl
      have x1 : ixV (enc (.jn l r)) (.int 1) st = .ok (enc r) st := by rw [enc]; exact r_ix_tup st 1 _ _ rfl
      have h1 := ih l hs.1 (by omega)
      have h2 := ih r hs.2 (by omega)
      rw [cstT]
      generalize enc (.jn l r) = J at *
      generalize enc l = L at *
      generalize enc r = RR at *
      simp [startM, is1, truV, x0, x1, h1, h2]
      exact gc_same (by simp)
end Law
set_option maxHeartbeats 0
namespace M
namespace Tr
theorem lv_tx1 : lv tx1 = 9 := by decide
theorem lv_tx2 : lv tx2 = 7 := by decide
theorem lv_txt : ∀ t, lv (txt t) + 12 ≤ 30 * lv t
  | .lf s => by rw [txt, lfT, lv]; split; exact (by rw [lv_tx1]; omega); exact (by rw [lv_tx2]; omega)
  | .jn l r => by
    have h1 := lv_txt l
    have h2 := lv_txt r
    have h3 : lv hdT = 10 := by decide
    have hl : 0 < lv l := by have := dp_lt_lv l; omega
    rw [txt, jnT]; simp only [lv, h3]; omega
theorem play_twice {t : Tr} {m : Nat} (hs : sk t) :
    (∃ v k, k ≤ m ∧ val v = true ∧ run m t = (v, k) ∧ run (m + (8 + cstT t + cstT (.jn (plyr tS Tr.tK) (txt t)))) (.jn (plyr tS Tr.tK) (txt (.jn (plyr tS Tr.tK) (txt t)))) = (v, k + (8 + cstT t + cstT (.jn (plyr tS Tr.tK) (txt t))))) ∨
    (val (run m t).1 = false ∧ (run m t).2 = m ∧ val (run (m + (8 + cstT t + cstT (.jn (plyr tS Tr.tK) (txt t)))) (.jn (plyr tS Tr.tK) (txt (.jn (plyr tS Tr.tK) (txt t))))).1 = false ∧ (run (m + (8 + cstT t + cstT (.jn (plyr tS Tr.tK) (txt t)))) (.jn (plyr tS Tr.tK) (txt (.jn (plyr tS Tr.tK) (txt t))))).2 = m + (8 + cstT t + cstT (.jn (plyr tS Tr.tK) (txt t)))) := by
  have sP : sk (plyr tS Tr.tK) := sk_plyr (.inl rfl) (.inr rfl)
  have s1 : sk (.jn (plyr tS Tr.tK) (txt t)) := ⟨sP, sk_txt t⟩
  have s2 : sk (.jn (plyr tS Tr.tK) (txt (.jn (plyr tS Tr.tK) (txt t)))) := ⟨sP, sk_txt _⟩
  have e1 := player_ev (a := tS) (b := Tr.tK) rfl rfl t
  rw [put2_SK hs] at e1
  have e2 := player_ev (a := tS) (b := Tr.tK) rfl rfl (.jn (plyr tS Tr.tK) (txt t))
  rw [put2_SK s1] at e2
  generalize cstT (.jn (plyr tS Tr.tK) (txt t)) = C1 at *
  generalize cstT t = C0 at *
  rcases run_ev (m := m) hs with ⟨k, v, h1, h2, h3⟩ | ⟨h1, h2, h3⟩
  · exact .inl ⟨v, k, h1, h2.2, h3, (((e2 _ _).mpr ⟨_, rfl, (e1 _ _).mpr ⟨k, rfl, h2⟩⟩).to (by omega)).run (by omega)⟩
  · rcases run_ev (m := m + (8 + C0 + C1)) s2 with ⟨k, v, k1, k2, k3⟩ | ⟨k1, k2, k3⟩
    · obtain ⟨j, rfl, e⟩ := (e2 _ _).mp k2
      obtain ⟨i, rfl, e'⟩ := (e1 _ _).mp e
      have := h1 _ _ e'
      omega
    · exact .inr ⟨h2, h3, k2, k3⟩
end Tr
end M
namespace Law
open L2 M Tr
open Classical in
theorem law_true (ns : List Int) (hn : ns.length ≤ 63) : ∃ st, F_p_law [.loc 0] [.frz (ns.map D.int), .tab "out_and_cost", .tab "text_of"] = .ok (.bl true) st := by
  let S0 : Stor := [.frz (ns.map D.int), .tab "out_and_cost", .tab "text_of"]
  have i0 : itemsAt S0 0 = some (ns.map D.int) := by simp [S0]
  obtain ⟨xs, hx, dr⟩ := draws_ok ns 0 1 8 10 S0 i0 hn (by omega) (by omega) (by omega) (by omega)
  let S1 : Stor := [.frz (ns.map D.int), .tab "out_and_cost", .tab "text_of", .lst (xs.map D.int)]
  have dr : F_l_draws [.loc 0, .int 1, .int 8, .int 10] S0 = .ok (.loc 3) S1 := dr
  obtain ⟨t, st, lt, tr⟩ := few_ok xs 3 S1 (by simp [S1]) (by omega)
  have i1 : itemsAt S1 0 = some (ns.map D.int) := by simp [S1]
  have c0 : F_l_cell_at [.loc 0, .int 0] S1 = .ok (.int (cellI ns 0)) S1 := cell_ok ns 0 0 S1 i1
  generalize cellI ns 0 = cm at c0
  obtain ⟨m, hm⟩ : ∃ m : Nat, cm % 13 = (m : Nat) := Int.eq_ofNat_of_zero_le (by omega)
  have hm2 : m ≤ 12 := by omega
  have sP : sk (plyr tS Tr.tK) := sk_plyr (.inl rfl) (.inr rfl)
  have vP : val (plyr tS Tr.tK) = true := val_plyr rfl rfl
  let u : Tr := .jn (plyr tS Tr.tK) (txt t)
  have su : sk u := ⟨sP, sk_txt t⟩
  have hd : dp t ≤ 2 := by have := dp_lt_lv t; omega
  have dP := dp_plyr (a := tS) (b := Tr.tK)
  have dt1 := dp_txt t
  have du : dp u ≤ 21 := by show dp (.jn _ _) ≤ _; simp only [dp] at dP ⊢; omega
  have dt2 := dp_txt u
  have lP : lv (plyr tS Tr.tK) ≤ 40 := by decide
  have lt1 := lv_txt t
  have lu : lv u ≤ 140 := by show lv (.jn _ _) ≤ _; rw [lv]; omega
  have lt2 := lv_txt u
  have hcs := cstT_le t
  have hcu := cstT_le u
  have hc1 : noClo S1 := by simp [S1, MO.isClo]
  have tx1 := text_of_ok t S1 st (by simp [S1]) (by simp [S1]) hc1 (by omega)
  have tx2 := text_of_ok u S1 su (by simp [S1]) (by simp [S1]) hc1 (by omega)
  have td := text_told_ok (txt u) S1 (by simp [S1]) hc1 (by omega) (by omega)
  rw [told_txt su, show encOT (some u) = enc u from rfl] at td
  have ne := ne_encs u u S1 (by omega)
  simp only [decide_true, Bool.not_true] at ne
  have co1 := lcost_rec S1 60 t st (by omega)
  have co2 := lcost_rec S1 60 u su (by omega)
  have p1 := player_all_ok S1
  have j1 := joint_ok (plyr tS Tr.tK) (txt t) S1
  rw [show Tr.jn (plyr tS Tr.tK) (txt t) = u from rfl] at j1
  have j2 := joint_ok (plyr tS Tr.tK) (txt u) S1
  have v1 := is_value_ok (plyr tS Tr.tK) S1
  have v2 := is_value_ok (txt u) S1
  rw [vP] at v1
  rw [val_txt] at v2
  have r1 := tree_run_ok t m S1 (by omega)
  have r2 := tree_run_ok (.jn (plyr tS Tr.tK) (txt u)) (m + (8 + cstT t + cstT u)) S1 (by simp only [dp] at dP ⊢; omega)
  have y0 : ∀ (a b c : D) (Z : Stor), ixV (.tup [a, b, c]) (.int 0) Z = .ok a Z := fun a b c Z => r_ix_tup Z 0 _ _ rfl
  have y1 : ∀ (a b c : D) (Z : Stor), ixV (.tup [a, b, c]) (.int 1) Z = .ok b Z := fun a b c Z => r_ix_tup Z 1 _ _ rfl
  have y2 : ∀ (a b c : D) (Z : Stor), ixV (.tup [a, b, c]) (.int 2) Z = .ok c Z := fun a b c Z => r_ix_tup Z 2 _ _ rfl
  have e0 : (8 : Int) + ((cstT t : Nat) : Int) + ((cstT u : Nat) : Int) = ((8 + cstT t + cstT u : Nat) : Int) := by omega
  have e1 : ((m : Nat) : Int) + ((8 + cstT t + cstT u : Nat) : Int) = ((m + (8 + cstT t + cstT u) : Nat) : Int) := by omega
  have hu : gc S0 (.ok (.bl true) S1) = .ok (.bl true) S0 := by
    have e : S1 = S0 ++ [.lst (xs.map D.int)] := rfl
    rw [e]; exact gc_flat (by simp)
  have pt := play_twice (t := t) (m := m) st
  rw [show Tr.jn (plyr tS Tr.tK) (txt t) = u from rfl] at pt
  refine ⟨S0, ?_⟩
  show F_p_law [.loc 0] S0 = _
  unfold F_p_law gcF fnM b_p_law
  rw [show startM 9 [D.loc 0] = [some (.loc 0), none, none, none, none, none, none, none, none] from rfl]
  rcases pt with ⟨v, k, hk, hv, q1, q2⟩ | ⟨q1, q2, q3, q4⟩
  · have dv : dp v < 800 := by have := run_dp m t; rw [q1] at this; simp only at this; omega
    rw [q1] at r1
    rw [q2] at r2
    rw [if_pos hv] at r1 r2
    have e2 : ((k : Nat) : Int) + ((8 + cstT t + cstT u : Nat) : Int) = ((k + (8 + cstT t + cstT u) : Nat) : Int) := by omega
    have heq := eq_encs v v S1 dv
    simp only [decide_true] at heq
    clear q1 q2 hcs hcu lt1 lt2 dt1 dt2 i0 i1 dv
    generalize enc (.jn (plyr tS Tr.tK) (txt u)) = W0 at *
    generalize enc (plyr tS Tr.tK) = W1 at *
    generalize enc (txt u) = W2 at *
    generalize enc (txt t) = W3 at *
    generalize enc u = W4 at *
    generalize enc t = W5 at *
    generalize enc v = W6 at *
    generalize 8 + cstT t + cstT u = CC at *
    generalize m + CC = MC at *
    generalize k + CC = KC at *
    generalize S1 = Z1 at *
    generalize hZ : S0 = Z0 at *
    simp [hZ, dr, tr, p1, tx1, j1, tx2, v1, v2, truV, td, ne, c0, r_mod_int, hm, co1, co2, e0, r1, j2, e1, r2, y0, y1, y2, e2, heq, hu]
  · rw [q1, q2] at r1
    rw [q3, q4] at r2
    rw [if_neg (by simp)] at r1 r2
    clear q1 q2 q3 q4 hcs hcu lt1 lt2 dt1 dt2 i0 i1
    generalize enc (run (m + (8 + cstT t + cstT u)) (.jn (plyr tS Tr.tK) (txt u))).1 = W8 at *
    generalize enc (run m t).1 = W9 at *
    generalize enc (.jn (plyr tS Tr.tK) (txt u)) = W0 at *
    generalize enc (plyr tS Tr.tK) = W1 at *
    generalize enc (txt u) = W2 at *
    generalize enc (txt t) = W3 at *
    generalize enc u = W4 at *
    generalize enc t = W5 at *
    generalize 8 + cstT t + cstT u = CC at *
    generalize m + CC = MC at *
    generalize S1 = Z1 at *
    generalize hZ : S0 = Z0 at *
    simp [hZ, dr, tr, p1, tx1, j1, tx2, v1, v2, truV, td, ne, c0, r_mod_int, hm, co1, co2, e0, r1, j2, e1, r2, y0, y1, y2, hu]
end Law
open PySem PySem.W PyProof.Rows
set_option maxRecDepth 100000 in
set_option maxHeartbeats 0 in
theorem PySem.Challenge.cw_oneofall_k85_whole_plays_itself_playing_holds : PySem.Challenge.rw_oneofall_k85_whole_plays_itself_playing.Holds := by
  w_on; o_law; k_head; (case hw => w_witness2)
  k_fill
  refine M.holds_ofT Law.tabs (F := Law.F_p_law) (k := 102) (x := "_law_script") rfl rfl ⟨rfl, by decide, by decide⟩ (by decide) (fun w h Y => ⟨PySem.W.km_in_of Y, PySem.W.km_tabs_of Y⟩) ?F Law.law_true
  case F =>
    intro w mg fa h KX G hmg
    refine' Law.all_mk KX G hmg ?a0 ?l0 ?c0 ?k0 ?a1 ?l1 ?c1 ?k1 ?a2 ?l2 ?c2 ?k2 ?a3 ?l3 ?c3 ?k3 ?a4 ?l4 ?c4 ?k4 ?ld4 ?a5 ?l5 ?c5 ?k5 ?a6 ?l6 ?c6 ?k6 ?a7 ?l7 ?c7 ?k7 ?a8 ?l8 ?c8 ?k8 ?a9 ?l9 ?c9 ?k9 ?h9 ?n9 ?a10 ?l10 ?c10 ?k10 ?a11 ?l11 ?c11 ?k11 ?a12 ?l12 ?c12 ?k12 ?a13 ?l13 ?c13 ?k13 ?a14 ?l14 ?c14 ?k14 ?a15 ?l15 ?c15 ?k15 ?a16 ?l16 ?c16 ?k16 ?a17 ?l17 ?c17 ?k17 ?a18 ?l18 ?c18 ?k18 ?h18 ?n18 ?a19 ?l19 ?c19 ?k19 ?a20 ?l20 ?c20 ?k20 ?a21 ?l21 ?c21 ?k21 ?a22 ?l22 ?c22 ?k22 ?a23 ?l23 ?c23 ?k23 ?a24 ?l24 ?c24 ?k24 ?a25 ?l25 ?c25 ?k25 ?a26 ?l26 ?c26 ?k26 ?a27 ?l27 ?c27 ?k27 ?a28 ?l28 ?c28 ?k28 ?a29 ?l29 ?c29 ?k29 ?a30 ?l30 ?c30 ?k30 ?a31 ?l31 ?c31 ?k31 ?a32 ?l32 ?c32 ?k32 ?a33 ?l33 ?c33 ?k33 ?v_PICK_OF_LEAF ?vl_PICK_OF_LEAF ?low_PICK_OF_LEAF ?dq_PICK_OF_LEAF_0 ?dq_PICK_OF_LEAF_1 ?v_PICKS ?v_PICK_OF_JOINT ?v_IDENTITY ?vl_IDENTITY_0 ?vl_IDENTITY_1 ?z_int ?z_isinstance ?z_len ?z_range ?z_reversed ?z_str
    (case a0 => k_is)
    (case l0 => k_is)
    (case c0 => k_is)
    (case k0 => k_is)
    (case a1 => k_is)
    (case l1 => k_is)
    (case c1 => k_is)
    (case k1 => k_is)
    (case a2 => k_is)
    (case l2 => k_is)
    (case c2 => k_is)
    (case k2 => k_is)
    (case a3 => k_is)
    (case l3 => k_is)
    (case c3 => k_is)
    (case k3 => k_is)
    (case a4 => k_is)
    (case l4 => k_is)
    (case c4 => k_is)
    (case k4 => k_is)
    (case ld4 => k_is)
    (case a5 => k_is)
    (case l5 => k_is)
    (case c5 => k_is)
    (case k5 => k_is)
    (case a6 => k_is)
    (case l6 => k_is)
    (case c6 => k_is)
    (case k6 => k_is)
    (case a7 => k_is)
    (case l7 => k_is)
    (case c7 => k_is)
    (case k7 => k_is)
    (case a8 => k_is)
    (case l8 => k_is)
    (case c8 => k_is)
    (case k8 => k_is)
    (case a9 => k_is)
    (case l9 => k_is)
    (case c9 => k_is)
    (case k9 => k_is)
    (case h9 => kernel_rfl)
    (case n9 => kernel_rfl)
    (case a10 => k_is)
    (case l10 => k_is)
    (case c10 => k_is)
    (case k10 => k_is)
    (case a11 => k_is)
    (case l11 => k_is)
    (case c11 => k_is)
    (case k11 => k_is)
    (case a12 => k_is)
    (case l12 => k_is)
    (case c12 => k_is)
    (case k12 => k_is)
    (case a13 => k_is)
    (case l13 => k_is)
    (case c13 => k_is)
    (case k13 => k_is)
    (case a14 => k_is)
    (case l14 => k_is)
    (case c14 => k_is)
    (case k14 => k_is)
    (case a15 => k_is)
    (case l15 => k_is)
    (case c15 => k_is)
    (case k15 => k_is)
    (case a16 => k_is)
    (case l16 => k_is)
    (case c16 => k_is)
    (case k16 => k_is)
    (case a17 => k_is)
    (case l17 => k_is)
    (case c17 => k_is)
    (case k17 => k_is)
    (case a18 => k_is)
    (case l18 => k_is)
    (case c18 => k_is)
    (case k18 => k_is)
    (case h18 => kernel_rfl)
    (case n18 => kernel_rfl)
    (case a19 => k_is)
    (case l19 => k_is)
    (case c19 => k_is)
    (case k19 => k_is)
    (case a20 => k_is)
    (case l20 => k_is)
    (case c20 => k_is)
    (case k20 => k_is)
    (case a21 => k_is)
    (case l21 => k_is)
    (case c21 => k_is)
    (case k21 => k_is)
    (case a22 => k_is)
    (case l22 => k_is)
    (case c22 => k_is)
    (case k22 => k_is)
    (case a23 => k_is)
    (case l23 => k_is)
    (case c23 => k_is)
    (case k23 => k_is)
    (case a24 => k_is)
    (case l24 => k_is)
    (case c24 => k_is)
    (case k24 => k_is)
    (case a25 => k_is)
    (case l25 => k_is)
    (case c25 => k_is)
    (case k25 => k_is)
    (case a26 => k_is)
    (case l26 => k_is)
    (case c26 => k_is)
    (case k26 => k_is)
    (case a27 => k_is)
    (case l27 => k_is)
    (case c27 => k_is)
    (case k27 => k_is)
    (case a28 => k_is)
    (case l28 => k_is)
    (case c28 => k_is)
    (case k28 => k_is)
    (case a29 => k_is)
    (case l29 => k_is)
    (case c29 => k_is)
    (case k29 => k_is)
    (case a30 => k_is)
    (case l30 => k_is)
    (case c30 => k_is)
    (case k30 => k_is)
    (case a31 => k_is)
    (case l31 => k_is)
    (case c31 => k_is)
    (case k31 => k_is)
    (case a32 => k_is)
    (case l32 => k_is)
    (case c32 => k_is)
    (case k32 => k_is)
    (case a33 => k_is)
    (case l33 => k_is)
    (case c33 => k_is)
    (case k33 => k_is)
    (case v_PICK_OF_LEAF => k_is)
    (case vl_PICK_OF_LEAF => k_is)
    (case low_PICK_OF_LEAF => kernel_rfl)
    (case dq_PICK_OF_LEAF_0 => rfl)
    (case dq_PICK_OF_LEAF_1 => rfl)
    (case v_PICKS => k_is)
    (case v_PICK_OF_JOINT => k_is)
    (case v_IDENTITY => k_is)
    (case vl_IDENTITY_0 => k_is)
    (case vl_IDENTITY_1 => k_is)
    (case z_int => k_is)
    (case z_isinstance => k_is)
    (case z_len => k_is)
    (case z_range => k_is)
    (case z_reversed => k_is)
    (case z_str => k_is)
