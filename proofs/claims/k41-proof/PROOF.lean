import PyProof.Rows.All
import Wide.All
import OpenK.AllK
import Wide.FinOn
import Lean
import PyProof.EqAt
import PyProof.EqKinds
import PyProof.TupleCall
import PyProof.EnumMake
import PyProof.EnumFor
import PyProof.StationsW
import PyProof.ExcClass
import PyProof.ExcInit
import PyProof.ExcClass2
import PySem.Challenge.RW_volumemend_k41_numbers_out_of_bounds
set_option Elab.async false
set_option linter.all false
set_option maxRecDepth 100000
/-! THE HAND LAYER, for ints, bools, texts, own classes, LISTS and tuples (index, slices, in, append, pop ..), calls, loops. Paste it whole ahead of your own text; what your proof does not reach may be deleted. -/
namespace L2
open PySem PySem.Spec PyProof.Rows

/-- a key: an int or a str -/
abbrev Key := Sum Int Str
def keyIs : Key → Value → Bool
  | .inl k, v => Value.isInt k v
  | .inr x, v => Value.isStrOf x v
def keyH (w : World) : Key → Int
  | .inl k => hashInt k
  | .inr x => hashStr w x
theorem keyIs_shape : ∀ {k : Key} {v : Value}, keyIs k v = true → (∃ i t, k = Sum.inl i ∧ v = Value.int i t) ∨ (∃ x t, k = Sum.inr x ∧ v = Value.str x t)
  | .inl i, v, h => by
    obtain ⟨t, e⟩ := Value.isInt_shape (k := i) (v := v) h
    exact .inl ⟨i, t, rfl, e⟩
  | .inr x, v, h => by
    obtain ⟨t, e⟩ := Value.isStrOf_shape (x := x) (v := v) h
    exact .inr ⟨x, t, rfl, e⟩
theorem key_ll (a b : Int) : decide ((Sum.inl a : Key) = Sum.inl b) = (a == b) := by
  by_cases e : a = b
  · subst e; simp
  · have h : ¬ (Sum.inl a : Key) = Sum.inl b := fun q => e (Sum.inl.inj q)
    rw [decide_eq_false h]
    exact (beq_eq_false_iff_ne.mpr e).symm
theorem key_rr (a b : Str) : decide ((Sum.inr a : Key) = Sum.inr b) = decide (a = b) := by
  by_cases e : a = b
  · subst e; simp
  · have h : ¬ (Sum.inr a : Key) = Sum.inr b := fun q => e (Sum.inr.inj q)
    rw [decide_eq_false h, decide_eq_false e]
theorem key_lr (a : Int) (b : Str) : decide ((Sum.inl a : Key) = Sum.inr b) = false := decide_eq_false (fun q => nomatch q)
theorem key_rl (a : Str) (b : Int) : decide ((Sum.inr a : Key) = Sum.inl b) = false := decide_eq_false (fun q => nomatch q)

def mixKind (prog : Program) (w : World) : PySem.KeyKind prog w Key where
  is := keyIs
  hash := keyH w
  inj := fun v a b ha hb => by
    rcases keyIs_shape ha with ⟨i, t, rfl, rfl⟩ | ⟨x, t, rfl, rfl⟩
    · rcases keyIs_shape hb with ⟨j, u, rfl, e⟩ | ⟨y, u, rfl, e⟩
      · injection e with e1 _; rw [e1]
      · exact nomatch e
    · rcases keyIs_shape hb with ⟨j, u, rfl, e⟩ | ⟨y, u, rfl, e⟩
      · exact nomatch e
      · injection e with e1 _; rw [e1]
  byValue := fun k v h => by
    rcases keyIs_shape h with ⟨i, t, rfl, rfl⟩ | ⟨x, t, rfl, rfl⟩ <;> rfl
  pyHash := fun hv h => by
    rcases keyIs_shape hv with ⟨i, t, rfl, rfl⟩ | ⟨x, t, rfl, rfl⟩
    · exact wpAny_pyHash_int h
    · exact wpAny_pyHash_str h
  eqBool := fun hu hv h => by
    rcases keyIs_shape hu with ⟨i, t, rfl, rfl⟩ | ⟨x, t, rfl, rfl⟩
    · rcases keyIs_shape hv with ⟨j, u, rfl, rfl⟩ | ⟨y, u, rfl, rfl⟩
      · rw [key_ll] at h; exact wpAny_eqBool_int h
      · rw [key_lr] at h; exact SeqAt.EqAt.int_str i t y u _ _ _ _ h
    · rcases keyIs_shape hv with ⟨j, u, rfl, rfl⟩ | ⟨y, u, rfl, rfl⟩
      · rw [key_rl] at h; exact SeqAt.EqAt.str_int x t j u _ _ _ _ h
      · rw [key_rr] at h; exact wpAny_eqBool_str h
  «strs» := fun k x t v h => by
    rcases keyIs_shape h with ⟨i, u, rfl, e⟩ | ⟨y, u, rfl, e⟩
    · exact nomatch e
    · injection e with e1 _
      subst e1
      cases v <;> rfl

end L2

namespace L2
open PySem PySem.Spec PyProof.Rows

/-- a value, without the heap -/
inductive V where
  | non | bl (b : Bool) | int (i : Int) | str (x : Str) | byt (b : Array UInt8) | flt (b : UInt64) | ref (a : Addr) | ty (n : String)
  deriving DecidableEq

def RelV : V → Value → Prop
  | .non, u => u = Value.none
  | .bl b, u => u = Value.bool b
  | .int i, u => ∃ t, u = Value.int i t
  | .str x, u => ∃ t, u = Value.str x t
  | .byt b, u => ∃ t, u = Value.bytes b t
  | .flt b, u => ∃ t, u = Value.float b t
  | .ref a, u => u = Value.ref a
  | .ty n, u => u = Value.type n

abbrev Vals : List V → List Value → Prop := Paired RelV
theorem Vals.length {xs : List V} {us : List Value} (r : Vals xs us) : xs.length = us.length := Paired.length r
theorem Vals.get : ∀ {xs : List V} {us : List Value} {i : Nat} {x : V}, Vals xs us → xs[i]? = some x → ∃ u, us[i]? = some u ∧ RelV x u
  | _, _, _, _, .nil, e => by simp at e
  | _, _, 0, _, .cons r _, e => by simp at e; subst e; exact ⟨_, rfl, r⟩
  | _, _, i + 1, x, .cons _ t, e => by
    obtain ⟨u, h1, h2⟩ := Vals.get (i := i) (x := x) t (by simpa using e)
    exact ⟨u, by simpa using h1, h2⟩
theorem Vals.set {x : V} {u : Value} (r : RelV x u) : ∀ {xs : List V} {us : List Value} (i : Nat), Vals xs us → Vals (xs.set i x) (us.set i u)
  | _, _, _, .nil => .nil
  | _, _, 0, .cons _ t => .cons r t
  | _, _, i + 1, .cons q t => .cons q (Vals.set r i t)
theorem Vals.append : ∀ {xs ys : List V} {us ws : List Value}, Vals xs us → Vals ys ws → Vals (xs ++ ys) (us ++ ws)
  | _, _, _, _, .nil, s => s
  | _, _, _, _, .cons r t, s => .cons r (Vals.append t s)
theorem Vals.take : ∀ {xs : List V} {us : List Value} (n : Nat), Vals xs us → Vals (xs.take n) (us.take n)
  | _, _, 0, _ => .nil
  | _, _, _ + 1, .nil => .nil
  | _, _, n + 1, .cons r t => .cons r (Vals.take n t)
theorem Vals.drop : ∀ {xs : List V} {us : List Value} (n : Nat), Vals xs us → Vals (xs.drop n) (us.drop n)
  | _, _, 0, r => r
  | _, _, _ + 1, .nil => .nil
  | _, _, n + 1, .cons _ t => Vals.drop n t
theorem Vals.none_of : ∀ {xs : List V} {us : List Value} {i : Nat}, Vals xs us → xs[i]? = none → us[i]? = none := fun {xs us i} r e => by
  have h1 := r.length
  have h2 : xs.length ≤ i := List.getElem?_eq_none_iff.mp e
  exact List.getElem?_eq_none_iff.mpr (by omega)

def RelO : Option V → Option Value → Prop
  | some v, some u => RelV v u
  | none, none => True
  | _, _ => False
def KV {κ : Type} : List (κ × V) → List (κ × Value) → Prop := Paired fun (p : κ × V) (q : κ × Value) => p.1 = q.1 ∧ RelV p.2 q.2

/-- a key of a dict (00_mix): an int or a text -/
def kV : Key → V
  | .inl i => .int i
  | .inr x => .str x

/-- what stands at a tracked address -/
inductive HO where
  /-- a list -/
  | lst (xs : List V)
  /-- a tuple (never changes) -/
  | tup (xs : List V)
  /-- a dict whose keys are ints and texts; one whose keys are tuples of ints and texts (the empty one is both) -/
  | dK (kvs : List (Key × V)) | dT (kvs : List (List Key × V))
  /-- a set of ints: its members, its size -/
  | set (S : Int → Bool) (n : Nat)
  /-- an instance of the class at C, its dict at dx, its attributes -/
  | ins (C dx : Addr) (fs : List (Str × V))
  /-- the dict of the instance at x -/
  | own (x : Addr)
  /-- the dict of an exception -/
  | xd (fs : List (Str × V))
  /-- a bound method, f of x -/
  | met (f x : Addr)
  /-- a range object lo, lo + 1, .. below hi -/
  | rng (lo hi : Int)
  /-- a thing that is known to the object (the script; a dict while a loop walks it): read, never written while it is so -/
  | frz (o : Obj) (u : HO)
  /-- a code object's table -/
  | tbl (ps : Array Value)
  /-- any other thing, by what is true of its one object (a def of one's own: SetO a S n := HO.ext fun h => ..) -/
  | ext (φ : Heap → Prop)

abbrev Hp := Addr → Option HO
def upd (H : Hp) (a : Addr) (o : HO) : Hp := fun b => if b = a then some o else H b
theorem upd_same {H : Hp} {a : Addr} {o : HO} : upd H a o a = some o := by unfold upd; rw [if_pos rfl]
theorem upd_ne {H : Hp} {a b : Addr} {o : HO} (h : b ≠ a) : upd H a o b = H b := by unfold upd; rw [if_neg h]
theorem ne_of_none {H : Hp} {a b : Addr} {o : HO} (h : H a = some o) (h' : H b = none) : a ≠ b := by
  intro e; subst e; rw [h] at h'; cases h'

section
variable (P : Program) (w : World)
def ObjOk (H : Hp) (h : Heap) (a : Addr) : HO → Prop
  | .lst xs => xs.length ≤ sizeLine ∧ ∃ (its : List Value) (n : Nat), Vals xs its ∧ h.get? a = some { cls := .type "list", data := .seq its.toArray n }
  | .tup xs => xs.length ≤ sizeLine ∧ ∃ its : List Value, Vals xs its ∧ IsTup h a its.toArray
  | .dK kvs => kvs.length ≤ sizeLine ∧ (a == sysModules) = false ∧ ∃ vs, KV kvs vs ∧ h.DictOf (mixKind P w) a vs
  | .dT kvs => kvs.length ≤ sizeLine ∧ (a == sysModules) = false ∧ ∃ xs : List (List Key × Addr × Value),
      Paired (fun (p : List Key × V) (q : List Key × Addr × Value) => p.1 = q.1 ∧ H q.2.1 = some (.tup (p.1.map kV)) ∧ RelV p.2 q.2.2) kvs xs ∧
      ∃ o es ep, h.get? a = some o ∧ o.ExactDict ∧ o.data = .dict es ep ∧ es.toList = xs.map (entryOfKey (tupleKind (mixKind P w))) ∧ (xs.map (·.1)).Nodup
  | .set S n => h.SetOf (intKind P w) a S n
  | .ins C dx fs => H dx = some (.own a) ∧ fs.length ≤ 1000 ∧ dx ≠ a ∧ h.get? a = some (PySem.W.instObj C dx) ∧
      ∃ mA, h.Ns1 dx mA ∧ (∀ f, RelO (fs.lookup f) (mA f)) ∧ PySem.Within mA (fs.map (·.1))
  | .own _ => ∃ o, h.get? a = some o
  | .xd fs => ∃ mA, h.Ns1 a mA ∧ ∀ f, RelO (fs.lookup f) (mA f)
  | .rng lo hi => ∃ t u v, h.get? a = some { cls := .type "range", data := .fields #[.int lo t, .int hi u, .int 1 v] }
  | .frz o u => h.get? a = some o ∧ ObjOk H h a u
  | .tbl ps => h.get? a = some { cls := .none, data := .fields ps }
  | .met f x => h.get? a = some (PySem.W.methodObj (.ref f) (.ref x))
  | .ext φ => φ h ∧ (∃ o, h.get? a = some o) ∧ ∀ h1 h2 : Heap, φ h1 → (∀ o, h1.get? a = some o → h2.get? a = some o) → φ h2
/-- the abstract heap is held -/
def HOk (H : Hp) (h : Heap) : Prop := ∀ a o, H a = some o → ObjOk P w H h a o
end

section
variable {P : Program} {w : World} {H H' : Hp} {h h' : Heap} {a : Addr} {o : HO}
theorem ObjOk.lt (x : ObjOk P w H h a o) : a < h.objs.size := by
  cases o with
  | lst xs => obtain ⟨_, _, _, _, e⟩ := x; exact Heap.lt_size e
  | tup xs => obtain ⟨_, _, _, p⟩ := x; exact p.lt
  | dK kvs => obtain ⟨_, _, _, _, o, _, _, e, _⟩ := x; exact Heap.lt_size e
  | dT kvs => obtain ⟨_, _, _, _, o, _, _, e, _⟩ := x; exact Heap.lt_size e
  | set S n => obtain ⟨o, _, _, _, e, _⟩ := x; exact Heap.lt_size e
  | ins C dx fs => obtain ⟨_, _, _, e, _⟩ := x; exact Heap.lt_size e
  | own y => obtain ⟨_, e⟩ := x; exact Heap.lt_size e
  | xd fs => obtain ⟨_, ⟨_, _, _, e, _⟩, _⟩ := x; exact Heap.lt_size e
  | rng lo hi => obtain ⟨_, _, _, e⟩ := x; exact Heap.lt_size e
  | frz ob u => obtain ⟨e, _⟩ := x; exact Heap.lt_size e
  | tbl ps => exact Heap.lt_size (show h.get? a = some _ from x)
  | met f y => exact Heap.lt_size (show h.get? a = some _ from x)
  | ext φ => obtain ⟨_, ⟨_, e⟩, _⟩ := x; exact Heap.lt_size e
theorem Paired.mapP {α β : Type} {F G : α → β → Prop} : ∀ {l₁ : List α} {l₂ : List β}, Paired F l₁ l₂ → (∀ a b, F a b → G a b) → Paired G l₁ l₂
  | _, _, .nil, _ => .nil
  | _, _, .cons r t, f => .cons (f _ _ r) (Paired.mapP t f)
/-- what an object's description leans on: its own object, its own dict, the tuples -/
theorem ObjOk.stay (x : ObjOk P w H h a o) (k : ∀ b u, (b = a ∨ H b = some (.own a)) → h.get? b = some u → h'.get? b = some u)
    (ho : ∀ b, H b = some (.own a) → H' b = some (.own a)) (ht : ∀ b xs, H b = some (.tup xs) → H' b = some (.tup xs)) : ObjOk P w H' h' a o := by
  induction o with
  | lst xs => obtain ⟨z, its, n, r, e⟩ := x; exact ⟨z, its, n, r, k _ _ (.inl rfl) e⟩
  | tup xs => obtain ⟨z, its, r, ob, e, c⟩ := x; exact ⟨z, its, r, ob, k _ _ (.inl rfl) e, c⟩
  | dK kvs => obtain ⟨z, y, vs, r, ob, es, ep, e, c⟩ := x; exact ⟨z, y, vs, r, ob, es, ep, k _ _ (.inl rfl) e, c⟩
  | dT kvs =>
    obtain ⟨z, y, xs, r, ob, es, ep, e, c⟩ := x
    exact ⟨z, y, xs, Paired.mapP r fun p q z => ⟨z.1, ht _ _ z.2.1, z.2.2⟩, ob, es, ep, k _ _ (.inl rfl) e, c⟩
  | set S n => obtain ⟨ob, es, ep, t, e, c⟩ := x; exact ⟨ob, es, ep, t, k _ _ (.inl rfl) e, c⟩
  | ins C dx fs =>
    obtain ⟨d, z, ne, e, mA, ⟨od, es, ep, e2, c⟩, r⟩ := x
    exact ⟨ho _ d, z, ne, k _ _ (.inl rfl) e, mA, ⟨od, es, ep, k _ _ (.inr d) e2, c⟩, r⟩
  | own y => obtain ⟨ob, e⟩ := x; exact ⟨ob, k _ _ (.inl rfl) e⟩
  | xd fs => obtain ⟨mA, ⟨od, es, ep, e, c⟩, r⟩ := x; exact ⟨mA, ⟨od, es, ep, k _ _ (.inl rfl) e, c⟩, r⟩
  | rng lo hi => obtain ⟨t, u, v, e⟩ := x; exact ⟨t, u, v, k _ _ (.inl rfl) e⟩
  | frz ob u ih => obtain ⟨e, q⟩ := x; exact ⟨k _ _ (.inl rfl) e, ih q⟩
  | tbl ps =>
    have e : h.get? a = some { cls := .none, data := .fields ps } := x
    show h'.get? a = some { cls := .none, data := .fields ps }
    exact k a _ (.inl rfl) e
  | met f y =>
    have e : h.get? a = some (PySem.W.methodObj (.ref f) (.ref y)) := x
    show h'.get? a = some (PySem.W.methodObj (.ref f) (.ref y))
    exact k a _ (.inl rfl) e
  | ext φ => obtain ⟨p, ⟨o, e⟩, st⟩ := x; exact ⟨st _ _ p fun o q => k _ _ (.inl rfl) q, ⟨o, k _ _ (.inl rfl) e⟩, st⟩
theorem HOk.lt (x : HOk P w H h) (e : H a = some o) : a < h.objs.size := (x a o e).lt
theorem HOk.fresh (x : HOk P w H h) (e : h.objs.size ≤ a) : H a = none := by
  cases q : H a with
  | none => rfl
  | some u => exact absurd (Nat.lt_of_lt_of_le (x.lt q) e) (Nat.lt_irrefl _)
/-- every object of the heap is kept -/
theorem HOk.kept (x : HOk P w H h) (k : ∀ b u, h.get? b = some u → h'.get? b = some u) : HOk P w H h' := fun a o e =>
  (x a o e).stay (fun b u _ q => k b u q) (fun _ q => q) fun _ _ q => q
/-- a new object is laid and tracked -/
theorem HOk.laid (x : HOk P w H h) (k : ∀ b u, h.get? b = some u → h'.get? b = some u) (hp : h.objs.size ≤ a) (new : ObjOk P w (upd H a o) h' a o) : HOk P w (upd H a o) h' := fun b u e => by
  have hn := x.fresh hp
  by_cases hb : b = a
  · subst hb; rw [upd_same] at e; cases e; exact new
  · rw [upd_ne hb] at e
    exact (x b u e).stay (fun c v _ q => k c v q) (fun c q => by rw [upd_ne (ne_of_none q hn)]; exact q) fun c xs q => by rw [upd_ne (ne_of_none q hn)]; exact q
end

/-- what may be read as u: it is u, or a known u -/
def Rd (H : Hp) (a : Addr) (u : HO) : Prop := H a = some u ∨ ∃ o, H a = some (.frz o u)
theorem Rd.of {H : Hp} {a : Addr} {u : HO} (h : H a = some u) : Rd H a u := .inl h
theorem Rd.ok {P : Program} {w : World} {H : Hp} {h : Heap} {a : Addr} {u : HO} (r : Rd H a u) (x : HOk P w H h) : ObjOk P w H h a u := by
  rcases r with r | ⟨o, r⟩
  · exact x a u r
  · obtain ⟨_, q⟩ := x a _ r
    exact q
/-- what may be written -/
def Mut : Option HO → Prop
  | some (.lst _) => True
  | some (.dK _) => True
  | some (.dT _) => True
  | some (.set _ _) => True
  | some (.ins _ _ _) => True
  | some (.ext _) => True
  | _ => False
section
variable {P : Program} {w : World} {H : Hp} {h h' : Heap} {x e : Addr} {o' : HO}
/-- the object at e is changed: x itself, or the dict of the instance x -/
theorem HOk.write (ok : HOk P w H h) (mu : Mut (H x)) (he : e = x ∨ H e = some (.own x)) (k : ∀ b u, b ≠ e → h.get? b = some u → h'.get? b = some u) (heo : ∃ u, h'.get? e = some u)
    (new : ObjOk P w (upd H x o') h' x o') : HOk P w (upd H x o') h' := fun b u q => by
  have nown : ∀ c y, H c = some (.own y) → c ≠ x := fun c y r z => by subst z; rw [r] at mu; exact mu
  have ntup : ∀ c xs, H c = some (.tup xs) → c ≠ x := fun c xs r z => by subst z; rw [r] at mu; exact mu
  by_cases hb : b = x
  · subst hb; rw [upd_same] at q; cases q; exact new
  · rw [upd_ne hb] at q
    by_cases hbe : b = e
    · have q' : H b = some (.own x) := by
        rcases he with z | z
        · exact absurd (hbe.trans z) hb
        · rw [hbe]; exact z
      rw [q] at q'; cases q'
      obtain ⟨v, hv⟩ := heo
      exact ⟨v, by rw [hbe]; exact hv⟩
    · refine (ok b u q).stay (fun c v hc r => k c v ?_ r) (fun c r => by rw [upd_ne (nown c b r)]; exact r) fun c xs r => by rw [upd_ne (ntup c xs r)]; exact r
      rcases hc with rfl | hc
      · exact hbe
      · rintro rfl
        rcases he with z | z
        · exact nown c b hc z
        · rw [hc] at z; cases z; exact hb rfl
end

/-! ### kept unless tracked; of the frames at fs (the callers') the slots may change (an exception that passes writes there); of the records at ex (iterators) nothing is said -/
structure Un (fs ex : List Addr) (H H' : Hp) (h h' : Heap) : Prop where
  keep : ∀ b o, h.get? b = some o → H b = none → b ∉ fs → b ∉ ex → h'.get? b = some o
  slot : ∀ b o, h.get? b = some o → H b = none → b ∈ fs → b ∉ ex → ∃ sl, h'.get? b = some { o with slots := sl }
  free : ∀ b o, h.get? b = some o → H b = none → b ∉ ex → H' b = none
  there : ∀ b o, h.get? b = some o → b ∉ ex → ∃ o', h'.get? b = some o'
  tups : ∀ b xs, H b = some (.tup xs) → H' b = some (.tup xs)
  frzs : ∀ b o u, H b = some (.frz o u) → H' b = some (.frz o u)
  tbls : ∀ b ps, H b = some (.tbl ps) → ∃ more, H' b = some (.tbl (ps ++ more))
section
variable {fs fs' ex ex' : List Addr} {H H1 H2 : Hp} {h h1 h2 h' : Heap} {a x e : Addr} {o : HO}
theorem Un.any (u : Un fs ex H H1 h h1) {b : Addr} {ob : Obj} (q : h.get? b = some ob) (n : H b = none) (hx : b ∉ ex) : ∃ sl, h1.get? b = some { ob with slots := sl } := by
  by_cases hb : b ∈ fs
  · exact u.slot b ob q n hb hx
  · exact ⟨ob.slots, u.keep b ob q n hb hx⟩
theorem Un.trans (a : Un fs ex H H1 h h1) (b : Un fs ex H1 H2 h1 h2) : Un fs ex H H2 h h2 where
  keep := fun c ob q n hc hx => b.keep c ob (a.keep c ob q n hc hx) (a.free c ob q n hx) hc hx
  slot := fun c ob q n hc hx => by
    obtain ⟨sl, e1⟩ := a.slot c ob q n hc hx
    obtain ⟨sl', e2⟩ := b.slot c _ e1 (a.free c ob q n hx) hc hx
    exact ⟨sl', e2⟩
  free := fun c ob q n hx => by
    obtain ⟨o', e1⟩ := a.there c ob q hx
    exact b.free c o' e1 (a.free c ob q n hx) hx
  there := fun c ob q hx => by
    obtain ⟨o', e1⟩ := a.there c ob q hx
    exact b.there c o' e1 hx
  tups := fun c xs q => b.tups c xs (a.tups c xs q)
  frzs := fun c ob xs q => b.frzs c ob xs (a.frzs c ob xs q)
  tbls := fun c ps q => by
    obtain ⟨m1, e1⟩ := a.tbls c ps q
    obtain ⟨m2, e2⟩ := b.tbls c _ e1
    exact ⟨m1 ++ m2, by rw [e2, Array.append_assoc]⟩
theorem Un.kept (k : ∀ b u, h.get? b = some u → h'.get? b = some u) : Un fs ex H H h h' :=
  ⟨fun b ob q _ _ _ => k b ob q, fun b ob q _ _ _ => ⟨ob.slots, k b ob q⟩, fun _ _ _ n _ => n, fun b ob q _ => ⟨ob, k b ob q⟩, fun _ _ q => q, fun _ _ _ q => q, fun _ ps q => ⟨#[], by rw [q]; simp⟩⟩
theorem Un.refl : Un fs ex H H h h := Un.kept fun _ _ q => q
theorem Un.laid (k : ∀ b u, h.get? b = some u → h'.get? b = some u) (hp : h.objs.size ≤ a) (hn : H a = none) : Un fs ex H (upd H a o) h h' where
  keep := fun b u q _ _ _ => k b u q
  slot := fun b u q _ _ _ => ⟨u.slots, k b u q⟩
  free := fun b u q n _ => by rw [upd_ne (Nat.ne_of_lt (Nat.lt_of_lt_of_le (Heap.lt_size q) hp))]; exact n
  there := fun b u q _ => ⟨u, k b u q⟩
  tups := fun b xs q => by rw [upd_ne (ne_of_none q hn)]; exact q
  frzs := fun b u xs q => by rw [upd_ne (ne_of_none q hn)]; exact q
  tbls := fun b ps q => ⟨#[], by rw [upd_ne (ne_of_none q hn), q]; simp⟩
theorem Un.write (mu : Mut (H x)) (he : e = x ∨ H e = some (.own x)) (k : ∀ b u, b ≠ e → h.get? b = some u → h'.get? b = some u) (heo : ∃ u, h'.get? e = some u) : Un fs ex H (upd H x o) h h' := by
  have hx : ∀ b, H b = none → b ≠ x := fun b n z => by subst z; rw [n] at mu; exact mu
  have hb : ∀ b, H b = none → b ≠ e := fun b n z => by
    subst z
    rcases he with r | r
    · exact hx b n r
    · rw [n] at r; cases r
  have hm : ∀ b u, H b = some u → ¬ Mut (some u) → b ≠ x := fun b u q nm z => by subst z; rw [q] at mu; exact nm mu
  refine ⟨fun b u q n _ _ => k b u (hb b n) q, fun b u q n _ _ => ⟨u.slots, k b u (hb b n) q⟩, fun b u q n _ => by rw [upd_ne (hx b n)]; exact n, fun b u q _ => ?_,
    fun b xs q => by rw [upd_ne (hm b _ q fun z => z)]; exact q, fun b u xs q => by rw [upd_ne (hm b _ q fun z => z)]; exact q, fun b ps q => ⟨#[], by rw [upd_ne (hm b _ q fun z => z), q]; simp⟩⟩
  by_cases hbe : b = e
  · subst hbe; exact heo
  · exact ⟨u, k b u hbe q⟩
theorem Un.mono (u : Un fs ex H H1 h h1) (hs : ∀ b ∈ fs, b ∈ fs') (hx : ∀ b ∈ ex, b ∈ ex') : Un fs' ex' H H1 h h1 :=
  ⟨fun b ob q n hb he => u.keep b ob q n (fun z => hb (hs b z)) fun z => he (hx b z), fun _ _ q n _ he => u.any q n fun z => he (hx _ z), fun b ob q n he => u.free b ob q n fun z => he (hx b z), fun b ob q he => u.there b ob q fun z => he (hx b z), u.tups, u.frzs, u.tbls⟩
end

/-! ### the heap without what is tracked -/
def trk (h : Heap) (H : Hp) : List Addr := (List.range h.objs.size).filter fun a => (H a).isSome
def hidT (h : Heap) (H : Hp) : Heap := PySem.W.hideAll h (trk h H)
theorem hidT_size (h : Heap) (H : Hp) : (hidT h H).objs.size = h.objs.size := PySem.W.hideAll_size _ _
theorem hidT_get {h : Heap} {H : Hp} {b : Addr} {o : Obj} (e : h.get? b = some o) (n : H b = none) : (hidT h H).get? b = some o :=
  PySem.W.hideAll_get _ e fun hm => by
    have q : (H b).isSome = true := (List.mem_filter.mp hm).2
    rw [n] at q; simp at q
theorem of_hidT {h : Heap} {H : Hp} {b : Addr} {o : Obj} (e : (hidT h H).get? b = some o) : h.get? b = some o ∧ H b = none := by
  have e' : h.get? b = some o := PySem.W.of_hideAll (trk h H) e
  refine ⟨e', ?_⟩
  cases q : H b with
  | none => rfl
  | some x =>
    have hm : b ∈ trk h H := List.mem_filter.mpr ⟨List.mem_range.mpr (Heap.lt_size e'), by simp [q]⟩
    have z : (hidT h H).get? b = none := PySem.W.hideAll_none (trk h H) hm
    rw [z] at e; cases e

/-! ### OpenK's ledger, filled with every new object but one -/
def allNews (g h : Heap) (L : Addr) : List (Addr × Obj) := (List.range h.objs.size).filterMap fun a => if a = L ∨ (g.get? a).isSome = true then none else (h.get? a).map fun o => (a, o)
def rest (g h : Heap) (L d : Addr) : List (Addr × Obj) := (allNews g h L).filter fun p => decide (p.1 ≠ d)
end L2

namespace L2
open PySem PySem.Spec PyProof.Rows

/-- the module's facts, over the base: the heap at the law's entry without what is tracked there -/
structure Mod (K : PySem.W.Frag) (mg : Str → Option Value) (base : Heap) : Prop where
  kin : K.In base
  glob : base.Ns mainGlobals mg
  blt : ∃ mb, base.Ns builtinsNs mb ∧ ∀ x : Str, x ≠ "__name__" → mb x = bootBuiltins x
  nolimit : base.NoLimit

/-- the context: a def's body (or a comprehension's block) running. base: fixed through the whole law; s₀, H₀: the entry; outer: the frames whose slots others may change (a def's callers); stack: all frames that run;
   ex: iterators that were made ahead of the entry and are walked here (a comprehension's); fn: the names whose cells were made at the entry (a def: all; a comprehension's block: its own); calm: not within an except suite; pn: pins that every state bears; xe: what is wanted of an exception that leaves the code -/
structure Cx where
  prog : Program
  w : World
  K : PySem.W.Frag
  mg : Str → Option Value
  base : Heap
  A : Around
  N : List Str
  s₀ : Shared
  H₀ : Hp
  env : Env
  outer : List Env
  stack : List Env
  ex : List Addr
  fn : Str → Bool
  calm : Bool
  pn : List (Addr × Obj)
  xe : Value → Shared → Prop
/-- the callers' frames -/
def frs (l : List Env) : List Addr := l.filterMap (·.frame)
abbrev Cx.fs (X : Cx) : List Addr := frs X.outer

def Vis (sc : Scope) (x : Str) : Prop := sc.names.lookup x = some .local ∨ sc.names.lookup x = some .cell ∨ sc.names.lookup x = some .free
def Loc (sc : Scope) (x : Str) : Prop := sc.names.lookup x = some .local ∨ sc.names.lookup x = some .cell
def Look (env : Env) (h : Heap) (m : Str → Option Value) (x : Str) (u : Value) : Prop :=
  (env.kindOf x = some .local ∧ m x = some u) ∨ ((env.kindOf x = some .cell ∨ env.kindOf x = some .free) ∧ ∃ c, env.cells.lookup x = some c ∧ h.IsCell c (some u))

structure Cx.Ok (X : Cx) : Prop where
  mod : Mod X.K X.mg X.base
  kind : X.env.scope.kind = .function
  glob : X.env.globals = mainGlobals
  blt : X.env.builtins = builtinsNs
  above : X.s₀.heap.objs.size ≤ X.env.locals
  inj : ∀ x y c, X.env.cells.lookup x = some c → X.env.cells.lookup y = some c → x = y
  has : ∀ x, (X.env.kindOf x = some .cell ∨ X.env.kindOf x = some .free) → ∃ c, X.env.cells.lookup x = some c
  cab : ∀ x c, X.fn x = true → X.env.cells.lookup x = some c → X.s₀.heap.objs.size ≤ c
  hd : X.calm = true → X.A.handled = none
  frames : X.A.frames = some X.stack
  stk : X.stack = X.outer ∨ (X.stack = X.env :: X.outer ∧ X.env.frame = some X.env.locals)
  exf : ∀ b ∈ X.ex, b ≠ X.env.locals ∧ ∀ x c, X.env.cells.lookup x = some c → c ≠ b
  bs : ∀ b o, X.base.get? b = some o → X.s₀.heap.get? b = some o ∧ X.H₀ b = none
  bsz : X.base.objs.size ≤ X.s₀.heap.objs.size
  noex : ∀ b o, X.base.get? b = some o → b ∉ X.ex
  exfs : ∀ b ∈ X.ex, b ∉ X.fs
  funs : X.s₀.heap.FunFrames X.base X.outer
  frf : ∀ b ∈ X.fs, X.H₀ b = none

structure Inv (X : Cx) (pins : List (Addr × Obj)) (σ : List (Option V)) (H : Hp) (s : Shared) : Prop where
  ok : X.Ok
  os : s.os = X.s₀.os
  bare : AllBare s.gens
  base : Un X.fs X.ex X.H₀ H X.s₀.heap s.heap
  loc : ∃ m, s.heap.Ns X.env.locals m ∧ ∀ (i : Nat) (x : Str) (v : V), X.N[i]? = some x → σ[i]? = some (some v) → Vis X.env.scope x → ∃ u, RelV v u ∧ Look X.env s.heap m x u
  cell : ∀ x c, X.env.cells.lookup x = some c → ∃ v, s.heap.IsCell c v
  free : H X.env.locals = none
  freeC : ∀ x c, X.env.cells.lookup x = some c → H c = none
  pin : ∀ p ∈ X.pn ++ pins, s.heap.get? p.1 = some p.2 ∧ H p.1 = none ∧ p.1 ≠ X.env.locals ∧ p.1 ∉ X.fs ∧ ∀ v, p.2.data ≠ .cell v
  hok : HOk X.prog X.w H s.heap
  len : σ.length = X.N.length

section
variable {X : Cx} {pins : List (Addr × Obj)} {σ : List (Option V)} {H H' : Hp} {s : Shared} {h' : Heap}

theorem Cx.Ok.nofr (ok : X.Ok) {b : Addr} {o : Obj} (e : X.base.get? b = some o) : b ∉ X.fs := fun hb => by
  have := (ok.funs.mem hb).1
  rw [e] at this; cases this
theorem Inv.bs (I : Inv X pins σ H s) : ∀ b o, X.base.get? b = some o → s.heap.get? b = some o ∧ H b = none := fun b o e =>
  ⟨I.base.keep b o (I.ok.bs b o e).1 (I.ok.bs b o e).2 (I.ok.nofr e) (I.ok.noex b o e), I.base.free b o (I.ok.bs b o e).1 (I.ok.bs b o e).2 (I.ok.noex b o e)⟩
theorem Inv.bk (I : Inv X pins σ H s) : ∀ b o, X.base.get? b = some o → s.heap.get? b = some o := fun b o e => (I.bs b o e).1
theorem Inv.mod (I : Inv X pins σ H s) : Mod X.K X.mg X.base := I.ok.mod
theorem Inv.kIn (I : Inv X pins σ H s) : X.K.In s.heap := I.ok.mod.kin.keeps I.bk
theorem Inv.nolimit (I : Inv X pins σ H s) : s.heap.NoLimit := I.ok.mod.nolimit.keeps I.bk
/-- the frame over the base: for OpenK's rules (K.In X.base is I.mod.kin) -/
theorem Inv.fr (I : Inv X pins σ H s) : ∃ m, Fr X.base X.env.locals s.heap m :=
  let ⟨m, hn, _⟩ := I.loc
  ⟨m, hn, I.bk, Nat.le_trans I.ok.bsz I.ok.above⟩
theorem Inv.lt (I : Inv X pins σ H s) : X.env.locals < s.heap.objs.size := let ⟨_, hn, _⟩ := I.loc; hn.lt
theorem Inv.sz (I : Inv X pins σ H s) : X.s₀.heap.objs.size ≤ s.heap.objs.size := Nat.le_trans I.ok.above (Nat.le_of_lt I.lt)
theorem Inv.nofs (I : Inv X pins σ H s) {a : Addr} (h : s.heap.objs.size ≤ a) : a ∉ X.fs := fun hb => by
  obtain ⟨_, o, ho, _⟩ := I.ok.funs.mem hb
  exact absurd (Nat.lt_of_lt_of_le (Heap.lt_size ho) (Nat.le_trans I.sz h)) (Nat.lt_irrefl _)
theorem Inv.cne (I : Inv X pins σ H s) : ∀ x c, X.env.cells.lookup x = some c → c ≠ X.env.locals := fun x c e z => by
  obtain ⟨v, o, ho, hd⟩ := I.cell x c e
  obtain ⟨m, ⟨o', es, ep, ho', hd', _⟩, _⟩ := I.loc
  rw [z, ho'] at ho; cases ho; rw [hd'] at hd; cases hd
theorem Inv.funs (I : Inv X pins σ H s) : s.heap.FunFrames X.base X.outer := by
  have all : ∀ (l : List Env), (∀ b ∈ frs l, b ∈ X.fs) → X.s₀.heap.FunFrames X.base l → s.heap.FunFrames X.base l := by
    intro l
    induction l with
    | nil => intro _ _; trivial
    | cons env r ih =>
      intro hs hl
      obtain ⟨hk, ⟨L, o, hf, hn, ho, hd⟩, hr⟩ := hl
      have hL : L ∈ X.fs := hs L (by unfold frs; rw [List.filterMap_cons, hf]; exact List.mem_cons_self)
      obtain ⟨sl, e⟩ := I.base.slot L o ho (I.ok.frf L hL) hL fun z => I.ok.exfs L z hL
      exact ⟨hk, ⟨L, _, hf, hn, e, hd⟩, ih (fun b hb => hs b (by unfold frs; rw [List.filterMap_cons, hf]; exact List.mem_cons_of_mem _ hb)) hr⟩
  exact all X.outer (fun _ hb => hb) I.ok.funs

/-- the frames that run, for a call -/
theorem Inv.stack (I : Inv X pins σ H s) : s.heap.FunFrames X.base X.stack := by
  rcases I.ok.stk with e | ⟨e, hf⟩
  · rw [e]; exact I.funs
  · rw [e]
    obtain ⟨m, hn, _⟩ := I.loc
    refine .cons (by rw [I.ok.kind]; decide) hf hn ?_ I.funs
    exact Heap.get?_none_of_le (Nat.le_trans I.ok.bsz I.ok.above)
theorem Inv.stkSub (I : Inv X pins σ H s) : ∀ b ∈ frs X.stack, b ∈ X.env.locals :: X.fs := fun b hb => by
  rcases I.ok.stk with e | ⟨e, hf⟩
  · rw [e] at hb; exact List.mem_cons_of_mem _ hb
  · rw [e] at hb
    unfold frs at hb
    rw [List.filterMap_cons, hf] at hb
    exact hb
theorem Inv.stkFree (I : Inv X pins σ H s) : ∀ b ∈ frs X.stack, H b = none := fun b hb => by
  rcases List.mem_cons.mp (I.stkSub b hb) with e | hb
  · rw [e]; exact I.free
  · obtain ⟨_, o, ho, _⟩ := I.ok.funs.mem hb
    exact I.base.free b o ho (I.ok.frf b hb) fun z => I.ok.exfs b z hb

/-- THE STEP: the untracked objects but the frame and the records at ch are kept (the callers' frames up to slots), the frame's map is kept, the new abstract heap is held -/
theorem Inv.step {g' : Array GenState} {t' : Nat} {d' : Drawn} {ch : List Addr} (I : Inv X pins σ H s)
    (hch : ∀ b ∈ ch, (b ∈ X.ex ∨ X.s₀.heap.objs.size ≤ b) ∧ b ≠ X.env.locals ∧ (∀ x c, X.env.cells.lookup x = some c → c ≠ b) ∧ ∀ p ∈ X.pn ++ pins, p.1 ≠ b)
    (keep : ∀ b o, b ≠ X.env.locals → b ∉ X.fs → b ∉ ch → s.heap.get? b = some o → H b = none → h'.get? b = some o)
    (slot : ∀ b o, b ≠ X.env.locals → b ∈ X.fs → b ∉ ch → s.heap.get? b = some o → H b = none → ∃ sl, h'.get? b = some { o with slots := sl }) (free : ∀ b o, b ∉ ch → s.heap.get? b = some o → H b = none → H' b = none)
    (there : ∀ b o, b ∉ ch → s.heap.get? b = some o → ∃ o', h'.get? b = some o')
    (tups : ∀ b xs, H b = some (.tup xs) → H' b = some (.tup xs)) (frzs : ∀ b o u, H b = some (.frz o u) → H' b = some (.frz o u)) (tbls : ∀ b ps, H b = some (.tbl ps) → ∃ more, H' b = some (.tbl (ps ++ more)))
    (ns : ∀ m, s.heap.Ns X.env.locals m → h'.Ns X.env.locals m) (hok : HOk X.prog X.w H' h') (hg : AllBare g') :
    Inv X pins σ H' { s with heap := h', gens := g', drawn := d', toks := t' } := by
  have neL : ∀ b o, X.s₀.heap.get? b = some o → b ≠ X.env.locals := fun b o e => Nat.ne_of_lt (Nat.lt_of_lt_of_le (Heap.lt_size e) I.ok.above)
  have neC : ∀ b o, X.s₀.heap.get? b = some o → b ∉ X.ex → b ∉ ch := fun b o e hx hb => by
    rcases (hch b hb).1 with z | z
    · exact hx z
    · exact absurd (Nat.lt_of_lt_of_le (Heap.lt_size e) z) (Nat.lt_irrefl _)
  have cellK : ∀ x c, X.env.cells.lookup x = some c → ∀ v, s.heap.IsCell c v → h'.IsCell c v := fun x c e v ⟨o, ho, hd⟩ => by
    have nch : c ∉ ch := fun z => (hch c z).2.2.1 x c e rfl
    by_cases hc : c ∈ X.fs
    · obtain ⟨sl, q⟩ := slot c o (I.cne x c e) hc nch ho (I.freeC x c e)
      exact ⟨_, q, hd⟩
    · exact ⟨o, keep c o (I.cne x c e) hc nch ho (I.freeC x c e), hd⟩
  refine ⟨I.ok, I.os, hg, ⟨fun b o e n hb hx => ?_, fun b o e n hb hx => ?_, fun b o e n hx => ?_, fun b o e hx => ?_, fun b xs e => tups b xs (I.base.tups b xs e), fun b o xs e => frzs b o xs (I.base.frzs b o xs e), fun b ps e => ?_⟩, ?_, fun x c e => ?_, ?_, fun x c e => ?_, fun p hp => ?_, hok, I.len⟩
  · exact keep b o (neL b o e) hb (neC b o e hx) (I.base.keep b o e n hb hx) (I.base.free b o e n hx)
  · obtain ⟨sl, e1⟩ := I.base.slot b o e n hb hx
    obtain ⟨sl', e2⟩ := slot b _ (neL b o e) hb (neC b o e hx) e1 (I.base.free b o e n hx)
    exact ⟨sl', e2⟩
  · obtain ⟨o', e1⟩ := I.base.there b o e hx
    exact free b o' (neC b o e hx) e1 (I.base.free b o e n hx)
  · obtain ⟨o', e1⟩ := I.base.there b o e hx
    exact there b o' (neC b o e hx) e1
  · obtain ⟨m1, e1⟩ := I.base.tbls b ps e
    obtain ⟨m2, e2⟩ := tbls b _ e1
    exact ⟨m1 ++ m2, by rw [e2, Array.append_assoc]⟩
  · obtain ⟨m, hn, hl⟩ := I.loc
    refine ⟨m, ns m hn, fun i x v e1 e2 e3 => ?_⟩
    obtain ⟨u, r, l⟩ := hl i x v e1 e2 e3
    refine ⟨u, r, ?_⟩
    rcases l with l | ⟨k, c, e, z⟩
    · exact .inl l
    · exact .inr ⟨k, c, e, cellK x c e _ z⟩
  · obtain ⟨v, z⟩ := I.cell x c e
    exact ⟨v, cellK x c e v z⟩
  · obtain ⟨m, ⟨o, _, _, ho, _⟩, _⟩ := I.loc
    exact free _ o (fun z => (hch _ z).2.1 rfl) ho I.free
  · obtain ⟨v, o, ho, hd⟩ := I.cell x c e
    exact free c o (fun z => (hch c z).2.2.1 x c e rfl) ho (I.freeC x c e)
  · obtain ⟨e, n, ne, nf, d⟩ := I.pin p hp
    have nch : p.1 ∉ ch := fun z => (hch p.1 z).2.2.2 p hp rfl
    exact ⟨keep p.1 p.2 ne nf nch e n, free p.1 p.2 nch e n, ne, nf, d⟩
/-- .. where the frame's own object is kept too -/
theorem Inv.un {t' : Nat} (I : Inv X pins σ H s) (u : Un X.fs [] H H' s.heap h') (hok : HOk X.prog X.w H' h') : Inv X pins σ H' { s with heap := h', toks := t' } := by
  obtain ⟨m, ⟨o, es, ep, ho, r⟩, _⟩ := id I.loc
  obtain ⟨sl, hL⟩ := u.any ho I.free (by simp)
  exact I.step (g' := s.gens) (d' := s.drawn) (ch := []) (fun _ z => nomatch z) (fun b o _ hb _ e n => u.keep b o e n hb (by simp)) (fun b o _ hb _ e n => u.slot b o e n hb (by simp)) (fun b o _ e n => u.free b o e n (by simp)) (fun b o _ e => u.there b o e (by simp)) u.tups u.frzs u.tbls (fun m' hm => by
    obtain ⟨o', es', ep', ho', r'⟩ := hm
    rw [ho] at ho'; cases ho'
    exact ⟨_, es', ep', hL, r'⟩) hok I.bare
/-- behind a call (or a comprehension's block): the slots of this frame may have changed too, the records at ch may have turned -/
theorem Inv.call {g' : Array GenState} {t' : Nat} {d' : Drawn} {ch : List Addr} (I : Inv X pins σ H s) (u : Un (frs X.stack) ch H H' s.heap h') (hok : HOk X.prog X.w H' h') (hg : AllBare g')
    (hch : ∀ b ∈ ch, (b ∈ X.ex ∨ X.s₀.heap.objs.size ≤ b) ∧ b ≠ X.env.locals ∧ (∀ x c, X.env.cells.lookup x = some c → c ≠ b) ∧ ∀ p ∈ X.pn ++ pins, p.1 ≠ b) :
    Inv X pins σ H' { s with heap := h', gens := g', drawn := d', toks := t' } := by
  obtain ⟨m, ⟨o, es, ep, ho, r⟩, _⟩ := id I.loc
  obtain ⟨sl, hL⟩ := u.any ho I.free fun z => (hch _ z).2.1 rfl
  exact I.step (ch := ch) hch (fun b o hL hb hc e n => u.keep b o e n (fun z => (List.mem_cons.mp (I.stkSub b z)).elim hL hb) hc) (fun b o _ _ hc e n => u.any e n hc) (fun b o hc e n => u.free b o e n hc) (fun b o hc e => u.there b o e hc) u.tups u.frzs u.tbls (fun m' hm => by
    obtain ⟨o', es', ep', ho', r'⟩ := hm
    rw [ho] at ho'; cases ho'
    exact ⟨_, es', ep', hL, r'⟩) hok hg
/-- an untracked record of ours (an iterator) has turned -/
theorem Inv.turned {t' : Nat} {it : Addr} (I : Inv X pins σ H s) (k : ∀ b o, b ≠ it → s.heap.get? b = some o → h'.get? b = some o) (hn : H it = none) (hL : it ≠ X.env.locals)
    (h1 : it ∈ X.ex ∨ X.s₀.heap.objs.size ≤ it) (h2 : ∀ x c, X.env.cells.lookup x = some c → c ≠ it) (h3 : ∀ p ∈ X.pn ++ pins, p.1 ≠ it) : Inv X pins σ H { s with heap := h', toks := t' } := by
  have nit : ∀ b u, H b = some u → b ≠ it := fun b u e z => by rw [z, hn] at e; cases e
  refine I.step (g' := s.gens) (d' := s.drawn) (ch := [it]) (fun b hb => ?_) (fun b o _ _ hc e _ => k b o (fun z => hc (by simp [z])) e) (fun b o _ _ hc e _ => ⟨o.slots, k b o (fun z => hc (by simp [z])) e⟩) (fun _ _ _ _ n => n)
    (fun b o hc e => ⟨o, k b o (fun z => hc (by simp [z])) e⟩) (fun _ _ e => e) (fun _ _ _ e => e) (fun b ps e => ⟨#[], by rw [e]; simp⟩) (fun m hm => ?_) (fun b u e => ?_) I.bare
  · have e : b = it := by simpa using hb
    subst e
    exact ⟨h1, hL, h2, h3⟩
  · obtain ⟨o, es, ep, ho, r⟩ := hm
    exact ⟨o, es, ep, k _ o (Ne.symm hL) ho, r⟩
  · refine (I.hok b u e).stay (fun c v hc q => k c v ?_ q) (fun _ q => q) fun _ _ q => q
    rcases hc with z | z
    · rw [z]; exact nit b u e
    · exact nit c _ z
theorem Inv.tok (I : Inv X pins σ H s) (t : Nat) : Inv X pins σ H { s with toks := t } := I.un (h' := s.heap) (t' := t) Un.refl I.hok
/-- all objects kept -/
theorem Inv.kept {t' : Nat} (I : Inv X pins σ H s) (k : ∀ b u, s.heap.get? b = some u → h'.get? b = some u) : Inv X pins σ H { s with heap := h', toks := t' } := I.un (Un.kept k) (I.hok.kept k)
/-- a new object laid and tracked -/
theorem Inv.laid {a : Addr} {o : HO} {t' : Nat} (I : Inv X pins σ H s) (k : ∀ b u, s.heap.get? b = some u → h'.get? b = some u) (hp : s.heap.objs.size ≤ a) (new : ObjOk X.prog X.w (upd H a o) h' a o) :
    Inv X pins σ (upd H a o) { s with heap := h', toks := t' } := I.un (Un.laid k hp (I.hok.fresh hp)) (I.hok.laid k hp new)
/-- an object written -/
theorem Inv.write {x e : Addr} {o : HO} {t' : Nat} (I : Inv X pins σ H s) (mu : Mut (H x)) (he : e = x ∨ H e = some (.own x)) (k : ∀ b u, b ≠ e → s.heap.get? b = some u → h'.get? b = some u) (heo : ∃ u, h'.get? e = some u)
    (new : ObjOk X.prog X.w (upd H x o) h' x o) : Inv X pins σ (upd H x o) { s with heap := h', toks := t' } := I.un (Un.write mu he k heo) (I.hok.write mu he k heo new)
theorem Inv.pins_of {pins' : List (Addr × Obj)} (I : Inv X pins σ H s) (h : ∀ p ∈ pins', s.heap.get? p.1 = some p.2 ∧ H p.1 = none ∧ p.1 ≠ X.env.locals ∧ p.1 ∉ X.fs ∧ ∀ v, p.2.data ≠ .cell v) : Inv X pins' σ H s :=
  ⟨I.ok, I.os, I.bare, I.base, I.loc, I.cell, I.free, I.freeC, fun p hp => (List.mem_append.mp hp).elim (fun z => I.pin p (List.mem_append_left _ z)) (h p), I.hok, I.len⟩

theorem nodup_ix {N : List Str} (hN : N.Nodup) {i j : Nat} {x : Str} (a : N[i]? = some x) (b : N[j]? = some x) : i = j := by
  obtain ⟨h1, e1⟩ := List.getElem?_eq_some_iff.mp a
  obtain ⟨h2, e2⟩ := List.getElem?_eq_some_iff.mp b
  exact (List.getElem_inj hN).mp (e1.trans e2.symm)

/-- a name is stored; what changed -/
theorem store_ok2 {M : Model} {A : Around} {E : Value → Shared → Prop} {i : Nat} {x : Str} {v : V} {u : Value} {Q : Unit → Shared → Prop} (I : Inv X pins σ H s) (hN : X.N.Nodup) (hi : X.N[i]? = some x) (hx : Loc X.env.scope x) (r : RelV v u)
    (h : ∀ s', Inv X pins (σ.set i (some v)) H s' → (∃ a, Heap.SameBut a s.heap s'.heap ∧ (a = X.env.locals ∨ X.env.cells.lookup x = some a)) → Q () s') (hf : X.fn x = true ∨ X.env.scope.names.lookup x = some .local := by first | exact .inl rfl | exact .inr rfl | assumption) : wpAny M A (storeName X.env x u) Q E s := by
  obtain ⟨m, hn, hl⟩ := id I.loc
  have hcls : (X.env.scope.kind == .class || (X.env.scope.kind == .module && X.env.locals != X.env.globals)) = false := by rw [I.ok.kind]; rfl
  have hiσ : i < σ.length := by rw [I.len]; exact (List.getElem?_eq_some_iff.mp hi).1
  have cne := I.cne
  have tracked : ∀ {a : Addr} {h' : Heap}, (∃ o, s.heap.get? a = some o ∧ H a = none) → Heap.SameBut a s.heap h' → HOk X.prog X.w H h' := fun {a h'} ha hs b ob e => by
    obtain ⟨_, _, hfree⟩ := ha
    refine (I.hok b ob e).stay (fun c w' hc q => (hs.2 c ?_).trans q) (fun _ q => q) fun _ _ q => q
    rintro rfl
    rcases hc with rfl | hc
    · rw [hfree] at e; cases e
    · rw [hfree] at hc; cases hc
  rcases hx with hk | hk
  · refine wpAny_storeName_local hk hn (fun h' hn' hs => ?_) hcls
    obtain ⟨oL, _, _, hoL, _⟩ := id hn
    refine h _ ⟨I.ok, I.os, I.bare, ⟨fun b o e n hb hx => ?_, fun b o e n hb hx => ?_, I.base.free, fun b o e hx => ?_, I.base.tups, I.base.frzs, I.base.tbls⟩, ⟨_, hn', fun j y v' e1 e2 e3 => ?_⟩, fun y c e => ?_, I.free, I.freeC, fun p hp => ?_, tracked ⟨oL, hoL, I.free⟩ hs, by simpa using I.len⟩ ⟨_, hs, .inl rfl⟩
    · exact (hs.2 b (Nat.ne_of_lt (Nat.lt_of_lt_of_le (Heap.lt_size e) I.ok.above))).trans (I.base.keep b o e n hb hx)
    · obtain ⟨sl, e1⟩ := I.base.slot b o e n hb hx
      exact ⟨sl, (hs.2 b (Nat.ne_of_lt (Nat.lt_of_lt_of_le (Heap.lt_size e) I.ok.above))).trans e1⟩
    · obtain ⟨o', e1⟩ := I.base.there b o e hx
      exact ⟨o', (hs.2 b (Nat.ne_of_lt (Nat.lt_of_lt_of_le (Heap.lt_size e) I.ok.above))).trans e1⟩
    · by_cases hj : j = i
      · subst hj
        rw [hi] at e1; cases e1
        rw [List.getElem?_set_self hiσ] at e2
        cases e2
        exact ⟨u, r, .inl ⟨hk, by simp⟩⟩
      · rw [List.getElem?_set_ne (Ne.symm hj)] at e2
        obtain ⟨u', r', q⟩ := hl j y v' e1 e2 e3
        refine ⟨u', r', ?_⟩
        rcases q with ⟨k, e⟩ | ⟨k, c, e, z⟩
        · refine .inl ⟨k, ?_⟩
          have : y ≠ x := fun e => hj (nodup_ix hN e1 (e ▸ hi))
          simp [this, e]
        · exact .inr ⟨k, c, e, z.sameBut hs (cne y c e)⟩
    · obtain ⟨w', z⟩ := I.cell y c e
      exact ⟨w', z.sameBut hs (cne y c e)⟩
    · obtain ⟨e, n, ne, nf, d⟩ := I.pin p hp
      exact ⟨(hs.2 p.1 ne).trans e, n, ne, nf, d⟩
  · have hfn : X.fn x = true := by
      rcases hf with z | z
      · exact z
      · rw [z] at hk; cases hk
    obtain ⟨c, hc⟩ := I.ok.has x (.inl hk)
    obtain ⟨w', z⟩ := I.cell x c hc
    refine wpAny_storeName_cell I.ok.kind hk hc z (fun h' hc' hs => ?_)
    obtain ⟨oc, hoc, hocd⟩ := id z
    refine h { s with heap := h' } ⟨I.ok, I.os, I.bare, ⟨fun b o e n hb hx => ?_, fun b o e n hb hx => ?_, I.base.free, fun b o e hx => ?_, I.base.tups, I.base.frzs, I.base.tbls⟩, ⟨m, hn.sameBut hs (Ne.symm (cne x c hc)), fun j y v' e1 e2 e3 => ?_⟩, fun y c' e => ?_, I.free, I.freeC, fun p hp => ?_, tracked ⟨oc, hoc, I.freeC x c hc⟩ hs, by simpa using I.len⟩ ⟨c, hs, .inr hc⟩
    · exact (hs.2 b (Nat.ne_of_lt (Nat.lt_of_lt_of_le (Heap.lt_size e) (I.ok.cab x c hfn hc)))).trans (I.base.keep b o e n hb hx)
    · obtain ⟨sl, e1⟩ := I.base.slot b o e n hb hx
      exact ⟨sl, (hs.2 b (Nat.ne_of_lt (Nat.lt_of_lt_of_le (Heap.lt_size e) (I.ok.cab x c hfn hc)))).trans e1⟩
    · obtain ⟨o', e1⟩ := I.base.there b o e hx
      exact ⟨o', (hs.2 b (Nat.ne_of_lt (Nat.lt_of_lt_of_le (Heap.lt_size e) (I.ok.cab x c hfn hc)))).trans e1⟩
    · by_cases hj : j = i
      · subst hj
        rw [hi] at e1; cases e1
        rw [List.getElem?_set_self hiσ] at e2
        cases e2
        exact ⟨u, r, .inr ⟨.inl hk, c, hc, hc'⟩⟩
      · rw [List.getElem?_set_ne (Ne.symm hj)] at e2
        obtain ⟨u', r', q⟩ := hl j y v' e1 e2 e3
        refine ⟨u', r', ?_⟩
        rcases q with q | ⟨k, c', e, z'⟩
        · exact .inl q
        · refine .inr ⟨k, c', e, z'.sameBut hs ?_⟩
          rintro rfl
          exact hj (nodup_ix hN e1 (I.ok.inj _ _ _ e hc ▸ hi))
    · by_cases hcc : c' = c
      · subst hcc; exact ⟨_, hc'⟩
      · obtain ⟨w2, z2⟩ := I.cell y c' e
        exact ⟨w2, z2.sameBut hs hcc⟩
    · obtain ⟨e, n, ne, nf, d⟩ := I.pin p hp
      refine ⟨(hs.2 p.1 ?_).trans e, n, ne, nf, d⟩
      intro q
      rw [q, hoc] at e
      have q' : oc = p.2 := Option.some.inj e
      exact d w' (by rw [← q']; exact hocd)
theorem store_ok {M : Model} {A : Around} {E : Value → Shared → Prop} {i : Nat} {x : Str} {v : V} {u : Value} {Q : Unit → Shared → Prop} (I : Inv X pins σ H s) (hN : X.N.Nodup) (hi : X.N[i]? = some x) (hx : Loc X.env.scope x) (r : RelV v u)
    (h : ∀ s', Inv X pins (σ.set i (some v)) H s' → Q () s') (hf : X.fn x = true ∨ X.env.scope.names.lookup x = some .local := by first | exact .inl rfl | exact .inr rfl | assumption) : wpAny M A (storeName X.env x u) Q E s :=
  store_ok2 I hN hi hx r (fun s' I' _ => h s' I') hf
/-- behind a call or a block, the state as it is -/
theorem Inv.call' {s' : Shared} {ch : List Addr} (I : Inv X pins σ H s) (ho : s'.os = s.os) (u : Un (frs X.stack) ch H H' s.heap s'.heap) (hok : HOk X.prog X.w H' s'.heap) (hg : AllBare s'.gens)
    (hch : ∀ b ∈ ch, (b ∈ X.ex ∨ X.s₀.heap.objs.size ≤ b) ∧ b ≠ X.env.locals ∧ (∀ x c, X.env.cells.lookup x = some c → c ≠ b) ∧ ∀ p ∈ X.pn ++ pins, p.1 ≠ b) : Inv X pins σ H' s' := by
  obtain ⟨h', g', d', t', o'⟩ := s'
  have e : o' = s.os := ho
  subst e
  exact I.call (g' := g') (t' := t') (d' := d') u hok hg hch
end

/-! ### the judgements -/
/-- an exception: its class, its own dict's address (where it has one), the abstract heap behind it -/
abbrev XK := Value → Option Addr → Hp → Prop
abbrev St := List (Option V)
abbrev VK := V → Hp → Prop
/-- an expression's reading; a test's; an argument list's -/
abbrev TE := St → Hp → VK → Prop
abbrev TT := St → Hp → (Bool → Hp → Prop) → Prop
abbrev TA := St → Hp → (List V → Hp → Prop) → Prop
/-- what is wanted behind a statement -/
structure Ends where
  nx : St → Hp → Prop
  rt : VK
  bk : St → Hp → Prop := fun _ _ => False
  ct : St → Hp → Prop := fun _ _ => False
abbrev TS := Ends → St → Hp → Prop

def EP (X : Cx) (pins : List (Addr × Obj)) (σ : St) (Q : VK) (u : Value) (s' : Shared) : Prop := ∃ v H', Inv X pins σ H' s' ∧ RelV v u ∧ Q v H'
def TP (X : Cx) (pins : List (Addr × Obj)) (σ : St) (Q : Bool → Hp → Prop) (b : Bool) (s' : Shared) : Prop := ∃ H', Inv X pins σ H' s' ∧ Q b H'
def AP (X : Cx) (pins : List (Addr × Obj)) (σ : St) (Q : List V → Hp → Prop) (us : List Value) (s' : Shared) : Prop := ∃ vs H', Inv X pins σ H' s' ∧ Vals vs us ∧ Q vs H'
def SP (X : Cx) (pins : List (Addr × Obj)) (D : Ends) (f : Flow) (s' : Shared) : Prop :=
  match f with
  | .next => ∃ σ' H', Inv X pins σ' H' s' ∧ D.nx σ' H'
  | .brk => ∃ σ' H', Inv X pins σ' H' s' ∧ D.bk σ' H'
  | .cont => ∃ σ' H', Inv X pins σ' H' s' ∧ D.ct σ' H'
  | .ret u => ∃ v σ' H', Inv X pins σ' H' s' ∧ RelV v u ∧ D.rt v H'

def PE (X : Cx) (e : Expr) (t : TE) : Prop :=
  ∀ (pins : List (Addr × Obj)) (s : Shared) (σ : St) (H : Hp) (Q : VK), Inv X pins σ H s → t σ H Q → wpAny (model X.prog X.w) X.A (eval e X.env) (EP X pins σ Q) X.xe s
def PT (X : Cx) (e : Expr) (t : TT) : Prop :=
  ∀ (pins : List (Addr × Obj)) (s : Shared) (σ : St) (H : Hp) (Q : Bool → Hp → Prop), Inv X pins σ H s → t σ H Q → wpAny (model X.prog X.w) X.A (isTrue e X.env (eval e X.env)) (TP X pins σ Q) X.xe s
/-- a test whatever its 'whole' is (and, or) -/
def PW (X : Cx) (e : Expr) (t : TT) : Prop :=
  ∀ (whole : Sem Value) (pins : List (Addr × Obj)) (s : Shared) (σ : St) (H : Hp) (Q : Bool → Hp → Prop), Inv X pins σ H s → t σ H Q → wpAny (model X.prog X.w) X.A (isTrue e X.env whole) (TP X pins σ Q) X.xe s
theorem PW.pt {X : Cx} {e : Expr} {t : TT} (h : PW X e t) : PT X e t := h _
/-- an argument list (no star), from the left -/
def PA (X : Cx) (es : List Expr) (t : TA) : Prop :=
  ∀ (pos : Pos) (pins : List (Addr × Obj)) (s : Shared) (σ : St) (H : Hp) (Q : List V → Hp → Prop), Inv X pins σ H s → t σ H Q → wpAny (model X.prog X.w) X.A (spliced (backTo pos (starEach es X.env))) (AP X pins σ Q) X.xe s
def PS (X : Cx) (st : Stmt) (t : TS) : Prop :=
  ∀ (pins : List (Addr × Obj)) (s : Shared) (σ : St) (H : Hp) (D : Ends), Inv X pins σ H s → t D σ H → wpAny (model X.prog X.w) X.A (exec st X.env) (SP X pins D) X.xe s
def PSs (X : Cx) (st : List Stmt) (t : TS) : Prop :=
  ∀ (pins : List (Addr × Obj)) (s : Shared) (σ : St) (H : Hp) (D : Ends), Inv X pins σ H s → t D σ H → wpAny (model X.prog X.w) X.A (execs st X.env) (SP X pins D) X.xe s
/-- weaken the end -/
theorem thn {α : Type} {t : Sem α} {Q Q' : α → Shared → Prop} {M : Model} {A : Around} {E : Value → Shared → Prop} {s : Shared} (h : wpAny M A t Q E s) (hQ : ∀ a s, Q a s → Q' a s) : wpAny M A t Q' E s := wpAny_mono h hQ fun _ _ x => x
end L2

namespace L2
open PySem PySem.Spec PyProof.Rows
section
variable {X : Cx}

/-! ### names and constants -/
def tVar (i : Nat) : TE := fun σ H Q => ∃ v, σ[i]? = some (some v) ∧ Q v H
def tC (v : V) : TE := fun _ H Q => Q v H
theorem pe_var {i : Nat} {x : Str} {pos : Pos} (hN : X.N[i]? = some x) (hv : Vis X.env.scope x) (hd : (x == ("__debug__" : Str)) = false := by decide) (hcd : (x == ("__classdict__" : Str)) = false := by decide) : PE X (.Name x pos) (tVar i) := by
  intro pins s σ H Q I h
  obtain ⟨v, e, h⟩ := h
  obtain ⟨m, hn, hl⟩ := I.loc
  obtain ⟨u, r, l⟩ := hl i x v hN e hv
  have fin : EP X pins σ Q u s := ⟨v, H, I, r, h⟩
  rcases l with ⟨hk, hm⟩ | ⟨hk, c, hc, hcell⟩
  · exact wpAny_Name (wpAny_loadName_local I.ok.kind hk hn hm fin) hd
  · rcases hk with hk | hk
    · exact wpAny_Name (wpAny_loadName_cell I.ok.kind hk hc hcell fin) hd
    · exact wpAny_Name (wpAny_loadName_free I.ok.kind hk hc hcell fin hcd) hd
theorem pe_int {i j pos} : PE X (.Constant (.int i) j pos) (tC (.int i)) := fun _ _ _ H _ I h => wpAny_Constant_int ⟨.int i, H, I.tok _, ⟨_, rfl⟩, h⟩
theorem pe_bl {b j pos} : PE X (.Constant (.bool b) j pos) (tC (.bl b)) := fun _ _ _ H _ I h => Constant_bool ⟨.bl b, H, I, rfl, h⟩
theorem pe_non {j pos} : PE X (.Constant .none j pos) (tC .non) := fun _ _ _ H _ I h => Constant_none ⟨.non, H, I, rfl, h⟩
theorem pe_str {x j pos} : PE X (.Constant (.str x) j pos) (tC (.str x)) := fun _ _ _ H _ I h => Calls.Constant_str ⟨.str x, H, I.tok _, ⟨_, rfl⟩, h⟩

/-- a global name of the def -/
def Gl (X : Cx) (x : Str) : Prop := X.env.kindOf x = some .globalImplicit
theorem ld_glob {E : Value → Shared → Prop} {pins : List (Addr × Obj)} {s : Shared} {σ : St} {H : Hp} {x : Str} {u : Value} {pos : Pos} {Q : Value → Shared → Prop} (I : Inv X pins σ H s) (hg : Gl X x) (hm : X.mg x = some u) (h : Q u s)
    (hd : (x == ("__debug__" : Str)) = false := by decide) : wpAny (model X.prog X.w) X.A (eval (.Name x pos) X.env) Q E s :=
  Calls.Name_function_global I.ok.kind hg (Calls.loadGlobal_global (by rw [I.ok.glob]; exact I.mod.glob.keeps I.bk) hm h) hd
theorem ld_blt {E : Value → Shared → Prop} {pins : List (Addr × Obj)} {s : Shared} {σ : St} {H : Hp} {x : Str} {u : Value} {pos : Pos} {Q : Value → Shared → Prop} (I : Inv X pins σ H s) (hg : Gl X x) (hm : X.mg x = none) (hv : bootBuiltins x = some u) (h : Q u s)
    (hn : x ≠ "__name__" := by decide) (hd : (x == ("__debug__" : Str)) = false := by decide) : wpAny (model X.prog X.w) X.A (eval (.Name x pos) X.env) Q E s := by
  obtain ⟨mb, h1, h2⟩ := I.mod.blt
  exact Calls.Name_function_global I.ok.kind hg (Calls.loadGlobal_builtin (by rw [I.ok.glob]; exact I.mod.glob.keeps I.bk) hm (by rw [I.ok.blt]; exact h1.keeps I.bk) ((h2 x hn).trans hv) h) hd
/-- a module's constant, a class, a function, as a value -/
theorem pe_glob {x : Str} {v : V} {u : Value} {pos : Pos} (hg : Gl X x) (hm : X.mg x = some u) (r : RelV v u) (hd : (x == ("__debug__" : Str)) = false := by decide) : PE X (.Name x pos) (tC v) :=
  fun _ _ _ H _ I h => ld_glob I hg hm ⟨v, H, I, r, h⟩ hd
theorem pe_bltn {x : Str} {v : V} {u : Value} {pos : Pos} (hg : Gl X x) (hm : X.mg x = none) (hv : bootBuiltins x = some u) (r : RelV v u) (hn : x ≠ "__name__" := by decide) (hd : (x == ("__debug__" : Str)) = false := by decide) : PE X (.Name x pos) (tC v) :=
  fun _ _ _ H _ I h => ld_blt I hg hm hv ⟨v, H, I, r, h⟩ hn hd

/-! ### arithmetic -/
variable {a b : Expr} {ta tb : TE} {pos : Pos}
/-! ### comparisons -/
/-- a comparison as a value, as a test -/
def tB (t : TE) : TT := fun σ H Q => t σ H fun x H1 => ∃ c, x = .bl c ∧ Q c H1
/-- an expression whose value is a bool, as a test -/
theorem pt_val {e : Expr} {t : TE} (h : PE X e t) (he : ∀ whole, isTrue e X.env whole = (do let v ← whole; standAt e.pos; holding [v] (truthy v)) := by intro _; rfl) : PT X e (tB t) := by
  intro pins s σ H Q I hw
  refine isTrue_plain (thn (h pins s σ H _ I hw) fun v s1 ⟨x, H1, I1, r1, q1⟩ => ?_) (he _)
  obtain ⟨d, rfl, q⟩ := q1
  cases r1
  exact wpAny_truthy_bool ⟨H1, I1, q⟩

/-! ### and, or, not -/
variable {tA tB' : TT} {rest : List Expr}
def tOr (t u : TT) : TT := fun σ H Q => t σ H fun c H1 => if c = true then Q true H1 else u σ H1 Q
def tNot (t : TT) : TT := fun σ H Q => t σ H fun c H1 => Q (!c) H1
theorem pw_or1 (ha : PT X a tA) : PW X (.BoolOp .Or [a] pos) tA := by
  intro wh pins s σ H Q I h
  refine isTrue_or (thn (ha pins s σ H Q I h) fun c s1 e => ?_)
  cases c with
  | false => exact isTrue_or_nil e
  | true => exact e
theorem pw_or (ha : PT X a tA) (hb : PW X (.BoolOp .Or (b :: rest) pos) tB') : PW X (.BoolOp .Or (a :: b :: rest) pos) (tOr tA tB') := by
  intro wh pins s σ H Q I h
  refine isTrue_or (thn (ha pins s σ H _ I h) fun c s1 ⟨H1, I1, q1⟩ => ?_)
  cases c with
  | true => exact ⟨H1, I1, q1⟩
  | false => exact hb wh pins s1 σ H1 Q I1 q1
theorem pt_not (ha : PT X a tA) : PT X (.UnaryOp .Not a pos) (tNot tA) := by
  intro pins s σ H Q I h
  exact isTrue_not (ha pins s σ H (fun c H1 => Q (!c) H1) I h)
/-- .. as values (bools) -/
def tAndV (ta tb : TE) : TE := fun σ H Q => ta σ H fun x H1 => ∃ c, x = .bl c ∧ if c = true then tb σ H1 Q else Q (.bl false) H1
def tNotV (ta : TE) : TE := fun σ H Q => ta σ H fun x H1 => ∃ c, x = .bl c ∧ Q (.bl (!c)) H1
theorem pe_one {op} {t : TE} (h : PE X a t) : PE X (.BoolOp op [a] pos) t := fun pins s σ H Q I hw => BoolOp_one (h pins s σ H Q I hw)
theorem pe_and (ha : PE X a ta) (hb : PE X (.BoolOp .And (b :: rest) pos) tb) : PE X (.BoolOp .And (a :: b :: rest) pos) (tAndV ta tb) := by
  intro pins s σ H Q I h
  refine BoolOp_and (thn (ha pins s σ H _ I h) fun v s1 ⟨x, H1, I1, r1, q1⟩ => ?_)
  obtain ⟨c, rfl, q1⟩ := q1
  cases r1
  refine wpAny_truthy_bool ?_
  cases c with
  | true => exact hb pins s1 σ H1 Q I1 q1
  | false => exact ⟨.bl false, H1, I1, rfl, q1⟩
theorem pe_not (ha : PE X a ta) : PE X (.UnaryOp .Not a pos) (tNotV ta) := by
  intro pins s σ H Q I h
  refine UnaryOp_ (thn (ha pins s σ H _ I h) fun v s1 ⟨x, H1, I1, r1, q1⟩ => ?_)
  obtain ⟨c, rfl, q1⟩ := q1
  cases r1
  exact not_of (wpAny_truthy_bool ⟨.bl (!c), H1, I1, rfl, q1⟩)
end
end L2

namespace L2
open PySem PySem.Spec PyProof.Rows

/-! ### a list, a tuple that is read: tracked, frozen, or an object of the module -/
def SqL (K : PySem.W.Frag) (H : Hp) (a : Addr) (xs : List V) : Prop :=
  Rd H a (.lst xs) ∨
    ∃ (o : Obj) (its : Array Value) (n : Nat), K.lookup a = some o ∧ o.cls = .type "list" ∧ o.dict = none ∧ o.data = .seq its n ∧ its.size ≤ sizeLine ∧ Vals xs its.toList
def SqT (K : PySem.W.Frag) (H : Hp) (a : Addr) (xs : List V) : Prop :=
  Rd H a (.tup xs) ∨
    ∃ (o : Obj) (its : Array Value) (n : Nat), K.lookup a = some o ∧ o.cls = .type "tuple" ∧ o.data = .seq its n ∧ its.size ≤ sizeLine ∧ Vals xs its.toList
def absV : Value → Option V
  | .none => some .non
  | .bool b => some (.bl b)
  | .int i _ => some (.int i)
  | .str x _ => some (.str x)
  | .bytes b _ => some (.byt b)
  | .float b _ => some (.flt b)
  | .ref a => some (.ref a)
  | .type n => some (.ty n)
  | _ => none
theorem RelV.abs {x : V} {u : Value} (r : RelV x u) : absV u = some x := by
  cases x with
  | non => cases r; rfl
  | bl _ => cases r; rfl
  | int _ => obtain ⟨t, rfl⟩ := r; rfl
  | str _ => obtain ⟨t, rfl⟩ := r; rfl
  | byt _ => obtain ⟨t, rfl⟩ := r; rfl
  | flt _ => obtain ⟨t, rfl⟩ := r; rfl
  | ref _ => cases r; rfl
  | ty _ => cases r; rfl
theorem RelV.inj {x y : V} {u : Value} (r : RelV x u) (q : RelV y u) : x = y := Option.some.inj (r.abs.symm.trans q.abs)
theorem Vals.inj : ∀ {xs ys : List V} {us : List Value}, Vals xs us → Vals ys us → xs = ys
  | _, _, _, .nil, .nil => rfl
  | _, _, _, .cons r t, .cons r' t' => by rw [r.inj r', Vals.inj t t']
section
variable {X : Cx} {pins : List (Addr × Obj)} {σ : St} {H : Hp} {s : Shared} {a : Addr} {xs ys : List V}
theorem SqL.of {K : PySem.W.Frag} (h : H a = some (.lst xs)) : SqL K H a xs := .inl (.inl h)
theorem SqT.of {K : PySem.W.Frag} (h : H a = some (.tup xs)) : SqT K H a xs := .inl (.inl h)
theorem Inv.list (I : Inv X pins σ H s) (h : SqL X.K H a xs) : ∃ its : List Value, Vals xs its ∧ PlainL s.heap a its.toArray ∧ xs.length ≤ sizeLine := by
  rcases h with h | ⟨o, its, n, hk, hc, hd, hs, hz, r⟩
  · obtain ⟨z, its, n, r, e⟩ := h.ok I.hok
    exact ⟨its, r, ⟨_, n, e, rfl, rfl, rfl⟩, z⟩
  · refine ⟨its.toList, r, ⟨o, n, I.kIn a o hk, hc, hd, by simpa using hs⟩, ?_⟩
    have e := r.length
    simp only [Array.length_toList] at e
    omega
theorem Inv.tuple (I : Inv X pins σ H s) (h : SqT X.K H a xs) : ∃ its : List Value, Vals xs its ∧ IsTup s.heap a its.toArray ∧ xs.length ≤ sizeLine := by
  rcases h with h | ⟨o, its, n, hk, hc, hs, hz, r⟩
  · obtain ⟨z, its, r, p⟩ := h.ok I.hok
    exact ⟨its, r, p, z⟩
  · refine ⟨its.toList, r, ⟨o, I.kIn a o hk, hc, n, by simpa using hs⟩, ?_⟩
    have e := r.length
    simp only [Array.length_toList] at e
    omega
theorem Inv.list_inj (I : Inv X pins σ H s) (h : SqL X.K H a xs) (h' : SqL X.K H a ys) : xs = ys := by
  obtain ⟨its, r, ⟨o, n, e, _, _, d⟩, _⟩ := I.list h
  obtain ⟨its', r', ⟨o', n', e', _, _, d'⟩, _⟩ := I.list h'
  rw [e] at e'; cases e'
  rw [d] at d'
  injection d' with d1 _
  have : its = its' := by simpa using congrArg Array.toList d1
  subst this
  exact r.inj r'
theorem Inv.tuple_inj (I : Inv X pins σ H s) (h : SqT X.K H a xs) (h' : SqT X.K H a ys) : xs = ys := by
  obtain ⟨its, r, ⟨o, e, _, n, d⟩, _⟩ := I.tuple h
  obtain ⟨its', r', ⟨o', e', _, n', d'⟩, _⟩ := I.tuple h'
  rw [e] at e'; cases e'
  rw [d] at d'
  injection d' with d1 _
  have : its = its' := by simpa using congrArg Array.toList d1
  subst this
  exact r.inj r'
end

/-! ### another wish about exceptions -/
abbrev Cx.wish (X : Cx) (E : Value → Shared → Prop) : Cx := { X with xe := E }
/-- no exception leaves -/
abbrev Cx.nox (X : Cx) : Cx := X.wish fun _ _ => False
theorem Cx.Ok.wish {X : Cx} (ok : X.Ok) (E : Value → Shared → Prop) : (X.wish E).Ok :=
  ⟨ok.mod, ok.kind, ok.glob, ok.blt, ok.above, ok.inj, ok.has, ok.cab, ok.hd, ok.frames, ok.stk, ok.exf, ok.bs, ok.bsz, ok.noex, ok.exfs, ok.funs, ok.frf⟩
theorem Cx.Ok.unwish {X : Cx} {E : Value → Shared → Prop} (ok : (X.wish E).Ok) : X.Ok :=
  ⟨ok.mod, ok.kind, ok.glob, ok.blt, ok.above, ok.inj, ok.has, ok.cab, ok.hd, ok.frames, ok.stk, ok.exf, ok.bs, ok.bsz, ok.noex, ok.exfs, ok.funs, ok.frf⟩
section
variable {X : Cx} {pins : List (Addr × Obj)} {σ : St} {H : Hp} {s : Shared} {E : Value → Shared → Prop}
theorem Inv.wish (I : Inv X pins σ H s) (E : Value → Shared → Prop) : Inv (X.wish E) pins σ H s := ⟨I.ok.wish E, I.os, I.bare, I.base, I.loc, I.cell, I.free, I.freeC, I.pin, I.hok, I.len⟩
theorem Inv.unwish (I : Inv (X.wish E) pins σ H s) : Inv X pins σ H s := ⟨I.ok.unwish, I.os, I.bare, I.base, I.loc, I.cell, I.free, I.freeC, I.pin, I.hok, I.len⟩
theorem SP.unwish {D : Ends} {f : Flow} {s' : Shared} (h : SP (X.wish E) pins D f s') : SP X pins D f s' := by
  cases f with
  | next => obtain ⟨σ', H', I, q⟩ := h; exact ⟨σ', H', I.unwish, q⟩
  | brk => obtain ⟨σ', H', I, q⟩ := h; exact ⟨σ', H', I.unwish, q⟩
  | cont => obtain ⟨σ', H', I, q⟩ := h; exact ⟨σ', H', I.unwish, q⟩
  | ret u => obtain ⟨v, σ', H', I, r, q⟩ := h; exact ⟨v, σ', H', I.unwish, r, q⟩
theorem PE.nox {e : Expr} {t : TE} (h : PE X.nox e t) : PE X e t := fun pins s σ H Q I hw =>
  wpAny_mono (h pins s σ H Q (I.wish _) hw) (fun _ _ ⟨v, H', I', r, q⟩ => ⟨v, H', I'.unwish, r, q⟩) fun _ _ z => False.elim z
theorem PT.nox {e : Expr} {t : TT} (h : PT X.nox e t) : PT X e t := fun pins s σ H Q I hw =>
  wpAny_mono (h pins s σ H Q (I.wish _) hw) (fun _ _ ⟨H', I', q⟩ => ⟨H', I'.unwish, q⟩) fun _ _ z => False.elim z
theorem PSs.nox {st : List Stmt} {t : TS} (h : PSs X.nox st t) : PSs X st t := fun pins s σ H D I hw =>
  wpAny_mono (h pins s σ H D (I.wish _) hw) (fun _ _ q => q.unwish) fun _ _ z => False.elim z
end

/-! ### blocks and small statements -/
section
variable {X : Cx} {st : Stmt} {rest : List Stmt} {t u : TS} {e : Expr} {te : TE} {pos : Pos}
def tNext : TS := fun D σ H => D.nx σ H
def tSeq (t u : TS) : TS := fun D σ H => t { D with nx := u D } σ H
theorem pss_nil : PSs X [] tNext := fun _ _ σ H _ I h => wpAny_execs_nil ⟨σ, H, I, h⟩
theorem pss_cons (h1 : PS X st t) (h2 : PSs X rest u) : PSs X (st :: rest) (tSeq t u) := by
  intro pins s σ H D I h
  refine wpAny_execs_cons (thn (h1 pins s σ H { D with nx := u D } I h) fun f s1 q => ?_)
  cases f with
  | next =>
    obtain ⟨σ', H', I', q⟩ := q
    exact h2 pins s1 σ' H' D I' q
  | ret v => exact q
  | brk => exact q
  | cont => exact q
theorem pss_one (h1 : PS X st t) : PSs X [st] t := by
  intro pins s σ H D I h
  refine wpAny_execs_cons (thn (h1 pins s σ H D I h) fun f s1 q => ?_)
  cases f with
  | next => exact wpAny_execs_nil q
  | ret v => exact q
  | brk => exact q
  | cont => exact q
/-- in a def's body nothing is shown -/
theorem Inv.quiet {pins : List (Addr × Obj)} {σ : St} {H : Hp} {s : Shared} (I : Inv X pins σ H s) : interactive X.env = false := by simp [interactive, I.ok.kind]
/-- an expression whose value is dropped -/
def tDrop (te : TE) : TS := fun D σ H => te σ H fun _ H1 => D.nx σ H1
theorem ps_expr (he : PE X e te) (hs : swapsWith e none pos.line X.env = pure false := by rfl) : PS X (.Expr e pos) (tDrop te) := by
  intro pins s σ H D I h
  exact wpAny_Expr_any (thn (he pins s σ H _ I h) fun v s1 ⟨x, H1, I1, r1, q1⟩ => ⟨σ, H1, I1, q1⟩) I.quiet hs
def tRet (te : TE) : TS := fun D σ H => te σ H D.rt
theorem ps_ret (he : PE X e te) : PS X (.Return (some e) pos) (tRet te) := by
  intro pins s σ H D I h
  exact wpAny_Return_some (thn (he pins s σ H _ I h) fun v s1 ⟨x, H1, I1, r1, q1⟩ => ⟨x, σ, H1, I1, r1, q1⟩)
def tIfS (c : TT) (t u : TS) : TS := fun D σ H => c σ H fun b H1 => if b = true then t D σ H1 else u D σ H1
theorem ps_if {c : Expr} {a b : List Stmt} {tc : TT} (hc : PT X c tc) (ha : PSs X a t) (hb : PSs X b u) : PS X (.If c a b pos) (tIfS tc t u) := by
  intro pins s σ H D I h
  refine wpAny_If (thn (hc pins s σ H _ I h) fun d s1 ⟨H1, I1, q1⟩ => ?_)
  cases d with
  | true => exact ha pins s1 σ H1 D I1 q1
  | false => exact hb pins s1 σ H1 D I1 q1
/-- code that the proof never comes to -/
def tNever : TS := fun _ _ _ => False
theorem pss_never {sts : List Stmt} : PSs X sts tNever := fun _ _ _ _ _ _ h => h.elim
end

/-! ### targets -/
abbrev TG := V → St → Hp → (St → Hp → Prop) → Prop
abbrev TGs := List V → St → Hp → (St → Hp → Prop) → Prop
def PG (X : Cx) (target : Expr) (t : TG) : Prop :=
  ∀ (pins : List (Addr × Obj)) (s : Shared) (σ : St) (H : Hp) (v : V) (u : Value) (Q : St → Hp → Prop), Inv X pins σ H s → RelV v u → t v σ H Q →
    wpAny (model X.prog X.w) X.A (assign target X.env u) (fun _ s' => ∃ σ' H', Inv X pins σ' H' s' ∧ Q σ' H') X.xe s
/-- several targets, one after another -/
def PGs (X : Cx) (ts : List Expr) (t : TGs) : Prop :=
  ∀ (pins : List (Addr × Obj)) (s : Shared) (σ : St) (H : Hp) (vs : List V) (us : List Value) (Q : St → Hp → Prop), Inv X pins σ H s → Vals vs us → t vs σ H Q →
    wpAny (model X.prog X.w) X.A (assignInOrder ((assignEach ts X.env).map (·.2)) us) (fun _ s' => ∃ σ' H', Inv X pins σ' H' s' ∧ Q σ' H') X.xe s
/-- o[i] = v, by values -/
abbrev TSet := V → V → V → Hp → (Hp → Prop) → Prop
def PSet (X : Cx) (t : TSet) : Prop :=
  ∀ (pins : List (Addr × Obj)) (s : Shared) (σ : St) (H : Hp) (o i v : V) (ov iv u : Value) (Q : Hp → Prop), Inv X pins σ H s → RelV o ov → RelV i iv → RelV v u → t o i v H Q →
    wpAny (model X.prog X.w) X.A (setItem ov iv u) (fun _ s' => ∃ H', Inv X pins σ H' s' ∧ Q H') X.xe s
section
variable {X : Cx} {pos : Pos}
def gName (i : Nat) : TG := fun v σ H Q => Q (σ.set i (some v)) H
theorem pg_name {i : Nat} {x : Str} (hN : X.N.Nodup) (hi : X.N[i]? = some x) (hx : Loc X.env.scope x) (hf : X.fn x = true ∨ X.env.scope.names.lookup x = some .local := by first | exact .inl rfl | exact .inr rfl | assumption) : PG X (.Name x pos) (gName i) := by
  intro pins s σ H v u Q I r h
  exact wpAny_assign_Name (store_ok I hN hi hx r (fun s' I' => ⟨_, H, I', h⟩) hf)
def gNil : TGs := fun vs σ H Q => vs = [] ∧ Q σ H
def gCons (t : TG) (u : TGs) : TGs := fun vs σ H Q => ∃ v r, vs = v :: r ∧ t v σ H fun σ' H' => u r σ' H' Q
theorem pgs_nil : PGs X [] gNil := by
  intro pins s σ H vs us Q I r h
  obtain ⟨e, h⟩ := h
  subst e
  cases r
  exact assignInOrder_nil ⟨σ, H, I, h⟩
theorem pgs_cons {e : Expr} {es : List Expr} {t : TG} {u : TGs} (h1 : PG X e t) (h2 : PGs X es u)
    (hs : (assignEach (e :: es) X.env).map (·.2) = assign e X.env :: (assignEach es X.env).map (·.2) := by rfl) : PGs X (e :: es) (gCons t u) := by
  intro pins s σ H vs us Q I r h
  obtain ⟨v, vr, e1, h⟩ := h
  subst e1
  cases r with
  | cons r rr =>
    rw [hs]
    refine assignInOrder_cons (thn (h1 pins s σ H _ _ _ I r h) fun _ s1 ⟨σ1, H1, I1, q1⟩ => ?_)
    exact h2 pins s1 σ1 H1 _ _ Q I1 rr q1
/-- (a, b, ..) = a tuple of that length -/
def gTup (K : PySem.W.Frag) (n : Nat) (t : TGs) : TG := fun v σ H Q => ∃ a xs, v = .ref a ∧ SqT K H a xs ∧ xs.length = n ∧ t xs σ H Q
theorem pg_tup {es : List Expr} {k : Nat} {t : TGs} {n : Nat} (hc : X.calm = true) (h : PGs X es t)
    (hn : (assignEach es X.env).length = n := by rfl) (hst : (assignEach es X.env).findIdx? (·.1) = none := by rfl) : PG X (.Tuple es k pos) (gTup X.K n t) := by
  intro pins s σ H v u Q I r hw
  obtain ⟨a, xs, e1, hq, hl, hw⟩ := hw
  subst e1
  cases r
  obtain ⟨its, rv, ht, hz⟩ := I.tuple hq
  refine assign_Tuple_tuple (I.ok.hd hc) ht (by simp [hn, ← hl, rv.length]) hst fun h' hx => ?_
  have I1 : Inv X pins σ H { s with heap := h' } := I.kept (t' := s.toks) fun b o e => hx b o (Nat.ne_of_lt (Heap.lt_size e)) e
  exact h pins _ σ H xs _ Q I1 (by simpa using rv) hw
/-- o[i] = .. -/
def gSub (to ti : TE) (t : TSet) : TG := fun v σ H Q => to σ H fun o H1 => ti σ H1 fun i H2 => t o i v H2 fun H3 => Q σ H3
theorem pg_sub {o i : Expr} {to ti : TE} {t : TSet} (ho : PE X o to) (hi : PE X i ti) (hs : PSet X t)
    (ha : ∀ v, assign (.Subscript o i pos) X.env v = (do
      let ov ← holding [v] (eval o X.env)
      let iv ← holding [v, ov] (eval i X.env)
      standAt pos
      holding [v, ov, iv] (setItem ov iv v)
      release [v, ov, iv] []) := by intro _; rfl) : PG X (.Subscript o i pos) (gSub to ti t) := by
  intro pins s σ H v u Q I r h
  rw [ha]
  refine wpAny_bind (wpAny_holding (thn (ho pins s σ H _ I h) fun ov s1 ⟨x, H1, I1, r1, q1⟩ => ?_))
  refine wpAny_bind (wpAny_holding (thn (hi pins s1 σ H1 _ I1 q1) fun iv s2 ⟨y, H2, I2, r2, q2⟩ => ?_))
  refine wpAny_bind (wpAny_standAt (wpAny_bind (wpAny_holding (thn (hs pins s2 σ H2 x y v ov iv u _ I2 r1 r2 r q2) fun _ s3 ⟨H3, I3, q3⟩ => ?_))))
  exact wpAny_release ⟨σ, H3, I3, q3⟩
/-- target = value -/
def tAsg (te : TE) (g : TG) : TS := fun D σ H => te σ H fun x H1 => g x σ H1 D.nx
theorem ps_asg {tg e : Expr} {te : TE} {g : TG} (he : PE X e te) (hg : PG X tg g) (hs : swapsWithSole [tg] e pos.line X.env = pure false := by rfl) (hw : swappedStores [tg] e X.env = pure none := by rfl)
    (h1 : (assignEach [tg] X.env).map (·.2) = [assign tg X.env] := by rfl) : PS X (.Assign [tg] e pos) (tAsg te g) := by
  intro pins s σ H D I h
  refine wpAny_Assign_stores (thn (he pins s σ H _ I h) fun v s1 ⟨x, H1, I1, r1, q1⟩ => ?_) hs hw
  rw [h1]
  exact thn (hg pins s1 σ H1 x v _ I1 r1 q1) fun _ s2 q => q
/-- name = value -/
theorem ps_set {i : Nat} {x : Str} {e : Expr} {te : TE} {pos' : Pos} (hN : X.N.Nodup) (hi : X.N[i]? = some x) (hx : Loc X.env.scope x) (he : PE X e te) (hs : swapsWith e (some (.Name x pos')) pos.line X.env = pure false := by rfl) (hf : X.fn x = true ∨ X.env.scope.names.lookup x = some .local := by first | exact .inl rfl | exact .inr rfl | assumption) :
    PS X (.Assign [.Name x pos'] e pos) (tAsg te (gName i)) := by
  intro pins s σ H D I h
  refine wpAny_Assign_Name (thn (he pins s σ H _ I h) fun v s1 ⟨y, H1, I1, r1, q1⟩ => ?_) hs
  exact store_ok I1 hN hi hx r1 (fun s2 I2 => ⟨_, H1, I2, q1⟩) hf
end

/-! ### while -/
section
variable {X : Cx} {pos : Pos}
end

/-! ### what a loop or a comprehension walks -/
/-- at turn i: it yields x (the heap may grow), or it stops -/
structure It where
  go : Nat → Hp → Prop
  yld : Nat → Hp → V → Hp → Prop
  stop : Nat → Hp → Prop
/-- the iterator's own objects may turn: they are not the frame's, not pinned, younger than the entry (or a comprehension's own) -/
def FpOk (X : Cx) (pins : List (Addr × Obj)) (H : Hp) (b : Addr) : Prop :=
  H b = none ∧ b ≠ X.env.locals ∧ b ∉ X.fs ∧ (b ∈ X.ex ∨ X.s₀.heap.objs.size ≤ b) ∧ (∀ x c, X.env.cells.lookup x = some c → c ≠ b) ∧ ∀ p ∈ X.pn ++ pins, p.1 ≠ b
theorem Inv.fpOk {X : Cx} {pins : List (Addr × Obj)} {σ : St} {H H' : Hp} {s : Shared} {b : Addr} (I : Inv X pins σ H s) (hb : s.heap.objs.size ≤ b) (hn : H' b = none) : FpOk X pins H' b := by
  refine ⟨hn, Nat.ne_of_gt (Nat.lt_of_lt_of_le I.lt hb), I.nofs hb, .inr (Nat.le_trans I.sz hb), fun x c e z => ?_, fun p hp z => ?_⟩
  · obtain ⟨v, q⟩ := I.cell x c e
    exact absurd (Nat.lt_of_lt_of_le q.lt (by rw [z]; exact hb)) (Nat.lt_irrefl _)
  · exact absurd (Nat.lt_of_lt_of_le (Heap.lt_size (I.pin p hp).1) (by rw [z]; exact hb)) (Nat.lt_irrefl _)
structure Turn (P : Program) (w : World) (K : PySem.W.Frag) (tg : Expr) (J : It) (fp : List Addr) (it : Addr) (tn : Nat → Heap → Prop) : Prop where
  mem : it ∈ fp
  obj : ∀ i h, tn i h → ∀ b ∈ fp, ∃ o, h.get? b = some o ∧ ∀ v, o.data ≠ .cell v
  keep : ∀ i h h', tn i h → (∀ b ∈ fp, ∀ o, h.get? b = some o → h'.get? b = some o) → tn i h'
  item : ∀ (X : Cx), X.prog = P → X.w = w → X.K = K → X.calm = true → ∀ (i : Nat) (pins : List (Addr × Obj)) (s : Shared) (σ : St) (H : Hp) (E : Value → Shared → Prop), Inv X pins σ H s → (∀ b ∈ fp, FpOk X pins H b) → tn i s.heap → J.go i H →
    wpAny (model P w) X.A (pyNext (.ref it)) (fun r s1 => ∃ u, r = some u ∧
      wpAny (model P w) X.A (letOwnedTupleGo tg (.ref it) u) (fun _ s2 => ∃ x H', Inv X pins σ H' s2 ∧ RelV x u ∧ J.yld i H x H' ∧ tn (i + 1) s2.heap ∧ ∀ b ∈ fp, H' b = none) E s1) E s
  done : ∀ (X : Cx), X.prog = P → X.w = w → X.K = K → X.calm = true → ∀ (i : Nat) (pins : List (Addr × Obj)) (s : Shared) (σ : St) (H : Hp) (E : Value → Shared → Prop), Inv X pins σ H s → (∀ b ∈ fp, FpOk X pins H b) → tn i s.heap → J.stop i H →
    wpAny (model P w) X.A (pyNext (.ref it)) (fun r s1 => r = none ∧ Inv X pins σ H s1) E s
  self : ∀ (A : Around) (i : Nat) (s : Shared) (Q : Value → Shared → Prop) (E : Value → Shared → Prop), tn i s.heap → Q (.ref it) s → wpAny (model P w) A (pyIter (.ref it)) Q E s
abbrev TI := St → Hp → (It → Hp → Prop) → Prop
/-- an iterator has come -/
def PIE (X : Cx) (pins : List (Addr × Obj)) (σ : St) (tg : Expr) (R : It → Hp → Prop) (itv : Value) (s2 : Shared) : Prop :=
  ∃ (it : Addr) (fp : List Addr) (tn : Nat → Heap → Prop) (J : It) (H' : Hp), itv = .ref it ∧ Inv X pins σ H' s2 ∧ Turn X.prog X.w X.K tg J fp it tn ∧ tn 0 s2.heap ∧ (∀ b ∈ fp, FpOk X pins H' b) ∧ R J H'
def PI (X : Cx) (tg iter : Expr) (wi : TI) : Prop :=
  ∀ (pins : List (Addr × Obj)) (s : Shared) (σ : St) (H : Hp) (R : It → Hp → Prop), Inv X pins σ H s → wi σ H R →
    wpAny (model X.prog X.w) X.A (eval iter X.env) (fun v s1 => wpAny (model X.prog X.w) X.A (pyIter v) (PIE X pins σ tg R) X.xe s1) X.xe s

/-- the step ahead of the store is nothing for an iterator that keeps no tuple -/
theorem go_of {M : Model} {A : Around} {E : Value → Shared → Prop} {s : Shared} {tg : Expr} {it : Addr} {u : Value} {o : Obj} {n : String} {vs : Array Value} {Q : Unit → Shared → Prop} (ho : s.heap.get? it = some o) (hc : o.cls = .type n) (hd : o.data = .fields vs)
    (hn : ["enumerate", "zip", "dict_itemiterator", "dict_reverseitemiterator", "odict_iterator", "itertools.zip_longest", "itertools.pairwise"].contains n = false) (hQ : Q () s) : wpAny M A (letOwnedTupleGo tg (.ref it) u) Q E s := by
  unfold letOwnedTupleGo
  cases tg <;> first
    | exact wpAny_pure hQ
    | (cases u <;> first
        | exact wpAny_pure hQ
        | (refine wpAny_bind (wpAny_load ho ?_)
           rw [hc, hd]
           show wpAny M A (if (["enumerate", "zip", "dict_itemiterator", "dict_reverseitemiterator", "odict_iterator", "itertools.zip_longest", "itertools.pairwise"].contains n && vs[0]? == some (rawInt _)) = true then _ else _) Q E s
           rw [if_neg (by intro h; rw [hn, Bool.false_and] at h; cases h)]
           exact wpAny_pure hQ))

/-- the list at a, as it stands at each turn (a loop may append to it) -/
def Itl (K : PySem.W.Frag) (a : Addr) : It :=
  ⟨fun i H => ∃ xs x, SqL K H a xs ∧ xs[i]? = some x, fun i H x H' => H' = H ∧ ∀ xs, SqL K H a xs → xs[i]? = some x, fun i H => ∃ xs, SqL K H a xs ∧ xs.length ≤ i⟩
def Itt (K : PySem.W.Frag) (a : Addr) : It :=
  ⟨fun i H => ∃ xs x, SqT K H a xs ∧ xs[i]? = some x, fun i H x H' => H' = H ∧ ∀ xs, SqT K H a xs → xs[i]? = some x, fun i H => ∃ xs, SqT K H a xs ∧ xs.length ≤ i⟩
/-- lo, lo + 1, .. (n of them) -/
def Itr (lo : Int) (n : Nat) : It := ⟨fun i _ => i < n, fun i H x H' => H' = H ∧ x = .int (lo + i), fun i _ => n ≤ i⟩
theorem turn_list {P : Program} {w : World} {K : PySem.W.Frag} {tg : Expr} (a it : Addr) : Turn P w K tg (Itl K a) [it] it (fun i h => h.IsListIter it a i) where
  mem := by simp
  obj := fun i h st b hb => by
    have e : b = it := by simpa using hb
    subst e
    obtain ⟨o, e, c, d⟩ := st
    exact ⟨o, e, fun v z => by rw [d] at z; cases z⟩
  keep := fun i h h' st k => st.at fun o e => k it (by simp) o e
  item := by
    intro X hP hw hK hc i pins s σ H E I hf st hg
    subst hP hw hK
    obtain ⟨xs, x, hq, hx⟩ := hg
    obtain ⟨its, rv, p, hz⟩ := I.list hq
    obtain ⟨u, hu, ru⟩ := rv.get hx
    obtain ⟨f0, f1, f2, f3, f4, f5⟩ := hf it (by simp)
    refine wpAny_pyNext_list_item st p.isList (x := u) (by simpa using hu) fun h' st' sb => ?_
    have I1 : Inv X pins σ H { s with heap := h' } := I.turned (t' := s.toks) (fun b o hb e => (sb.2 b hb).trans e) f0 f1 f3 f4 f5
    obtain ⟨o, e, c, d⟩ := id st'
    exact ⟨u, rfl, go_of (s := { s with heap := h' }) e c d (by decide) ⟨x, H, I1, ru, ⟨rfl, fun ys hy => by rw [I.list_inj hy hq]; exact hx⟩, st', fun b hb => (hf b hb).1⟩⟩
  done := by
    intro X hP hw hK hc i pins s σ H E I hf st hg
    subst hP hw hK
    obtain ⟨xs, hq, hx⟩ := hg
    obtain ⟨its, rv, p, hz⟩ := I.list hq
    obtain ⟨f0, f1, f2, f3, f4, f5⟩ := hf it (by simp)
    have hl := rv.length
    exact wpAny_pyNext_list_end (I.ok.hd hc) st p.isList (by simp; omega) fun h' eb => ⟨rfl, I.turned (t' := s.toks) (fun b o hb e => eb b o hb e) f0 f1 f3 f4 f5⟩
  self := fun _ _ _ _ _ st h => wpAny_pyIter_listiter st h
theorem turn_tuple {P : Program} {w : World} {K : PySem.W.Frag} {tg : Expr} (a it : Addr) : Turn P w K tg (Itt K a) [it] it (fun i h => h.IsTupleIter it a i) where
  mem := by simp
  obj := fun i h st b hb => by
    have e : b = it := by simpa using hb
    subst e
    obtain ⟨o, e, c, d⟩ := st
    exact ⟨o, e, fun v z => by rw [d] at z; cases z⟩
  keep := fun i h h' st k => st.at fun o e => k it (by simp) o e
  item := by
    intro X hP hw hK hc i pins s σ H E I hf st hg
    subst hP hw hK
    obtain ⟨xs, x, hq, hx⟩ := hg
    obtain ⟨its, rv, p, hz⟩ := I.tuple hq
    obtain ⟨u, hu, ru⟩ := rv.get hx
    obtain ⟨f0, f1, f2, f3, f4, f5⟩ := hf it (by simp)
    refine wpAny_pyNext_tuple_item st (show s.heap.IsTuple a its.toArray from p) (x := u) (by simpa using hu) fun h' st' sb => ?_
    have I1 : Inv X pins σ H { s with heap := h' } := I.turned (t' := s.toks) (fun b o hb e => (sb.2 b hb).trans e) f0 f1 f3 f4 f5
    obtain ⟨o, e, c, d⟩ := id st'
    exact ⟨u, rfl, go_of (s := { s with heap := h' }) e c d (by decide) ⟨x, H, I1, ru, ⟨rfl, fun ys hy => by rw [I.tuple_inj hy hq]; exact hx⟩, st', fun b hb => (hf b hb).1⟩⟩
  done := by
    intro X hP hw hK hc i pins s σ H E I hf st hg
    subst hP hw hK
    obtain ⟨xs, hq, hx⟩ := hg
    obtain ⟨its, rv, p, hz⟩ := I.tuple hq
    obtain ⟨f0, f1, f2, f3, f4, f5⟩ := hf it (by simp)
    have hl := rv.length
    exact wpAny_pyNext_tuple_end (I.ok.hd hc) st (show s.heap.IsTuple a its.toArray from p) (by simp; omega) fun h' eb => ⟨rfl, I.turned (t' := s.toks) (fun b o hb e => eb b o hb e) f0 f1 f3 f4 f5⟩
  self := fun _ _ _ _ _ st h => wpAny_pyIter_tupleiter st h
theorem turn_range {P : Program} {w : World} {K : PySem.W.Frag} {tg : Expr} (it : Addr) (lo : Int) (n : Nat) : Turn P w K tg (Itr lo n) [it] it (fun i h => IsRangeIter h it (lo + (i : Nat) * 1) ((n : Int) - (i : Nat)) 1) where
  mem := by simp
  obj := fun i h st b hb => by
    have e : b = it := by simpa using hb
    subst e
    exact ⟨_, st, fun v z => by
      have z' : Data.fields _ = Data.cell v := z
      cases z'⟩
  keep := fun i h h' st k => k it (by simp) _ st
  item := by
    intro X hP hw hK hc i pins s σ H E I hf st hg
    subst hP hw hK
    obtain ⟨f0, f1, f2, f3, f4, f5⟩ := hf it (by simp)
    have W := Walks.range (prog := X.prog) (w := X.w) (I.ok.hd hc) it lo 1 n
    refine W.item i s _ _ hg st fun v h' tk hv st' kk => ?_
    obtain ⟨t, rfl⟩ := hv
    have I1 : Inv X pins σ H { s with heap := h', toks := tk } := I.turned (fun b o hb e => kk b o (by simpa using hb) e) f0 f1 f3 f4 f5
    refine ⟨_, rfl, go_of (s := { s with heap := h', toks := tk }) (n := "range_iterator") st' rfl rfl (by decide) ⟨.int (lo + i), H, I1, ⟨t, ?_⟩, ⟨rfl, rfl⟩, st', fun b hb => (hf b hb).1⟩⟩
    rw [Int.mul_one]
  done := by
    intro X hP hw hK hc i pins s σ H E I hf st hg
    subst hP hw hK
    obtain ⟨f0, f1, f2, f3, f4, f5⟩ := hf it (by simp)
    exact wpAny_pyNext_range_end (I.ok.hd hc) st (by have : n ≤ i := hg; omega) fun h' eb => ⟨rfl, I.turned (t' := s.toks) (fun b o hb e => eb b o hb e) f0 f1 f3 f4 f5⟩
  self := fun _ _ _ _ _ st h => wpAny_pyIter_rangeiter st h
end L2

namespace L2
open PySem PySem.Spec PyProof.Rows
section
variable {X : Cx} {tg : Expr}
def iList (K : PySem.W.Frag) (tl : TE) : TI := fun σ H R => tl σ H fun x H1 => ∃ a, x = .ref a ∧ (∃ xs, SqL K H1 a xs) ∧ R (Itl K a) H1
def iTup (K : PySem.W.Frag) (tl : TE) : TI := fun σ H R => tl σ H fun x H1 => ∃ a, x = .ref a ∧ (∃ xs, SqT K H1 a xs) ∧ R (Itt K a) H1
theorem pi_list {l : Expr} {tl : TE} (hl : PE X l tl) : PI X tg l (iList X.K tl) := by
  intro pins s σ H R I h
  refine thn (hl pins s σ H _ I h) fun v s1 ⟨x, H1, I1, r1, q1⟩ => ?_
  obtain ⟨a, e, ⟨xs, hq⟩, q⟩ := q1
  subst e
  cases r1
  obtain ⟨its, rv, p, hz⟩ := I1.list hq
  refine wpAny_pyIter_list p.isList ?_
  refine ⟨s1.heap.objs.size, [s1.heap.objs.size], _, _, H1, rfl, I1.kept (t' := s1.toks) fun b o e => Heap.get?_push_of_some _ e, turn_list a _, ⟨_, Heap.get?_push_size _ rfl, rfl, rfl⟩, fun b hb => ?_, q⟩
  have e : b = s1.heap.objs.size := by simpa using hb
  subst e
  exact I1.fpOk (Nat.le_refl _) (I1.hok.fresh (Nat.le_refl _))
theorem pi_tup {l : Expr} {tl : TE} (hl : PE X l tl) : PI X tg l (iTup X.K tl) := by
  intro pins s σ H R I h
  refine thn (hl pins s σ H _ I h) fun v s1 ⟨x, H1, I1, r1, q1⟩ => ?_
  obtain ⟨a, e, ⟨xs, hq⟩, q⟩ := q1
  subst e
  cases r1
  obtain ⟨its, rv, p, hz⟩ := I1.tuple hq
  refine wpAny_pyIter_tuple (show s1.heap.IsTuple a its.toArray from p) ?_
  refine ⟨s1.heap.objs.size, [s1.heap.objs.size], _, _, H1, rfl, I1.kept (t' := s1.toks) fun b o e => Heap.get?_push_of_some _ e, turn_tuple a _, ⟨_, Heap.get?_push_size _ rfl, rfl, rfl⟩, fun b hb => ?_, q⟩
  have e : b = s1.heap.objs.size := by simpa using hb
  subst e
  exact I1.fpOk (Nat.le_refl _) (I1.hok.fresh (Nat.le_refl _))
/-- a range object just made, walked -/
theorem range_it {pins : List (Addr × Obj)} {σ : St} {H : Hp} {s : Shared} {R : It → Hp → Prop} {E : Value → Shared → Prop} {lo hi : Int} {t u v : Tok} {tk : Nat} (I : Inv X pins σ H s) (h1 : -(2 ^ 62) ≤ lo) (h2 : lo < 2 ^ 62) (h3 : -(2 ^ 62) ≤ hi) (h4 : hi < 2 ^ 62)
    (q : R (Itr lo (hi - lo).toNat) H) : wpAny (model X.prog X.w) X.A (pyIter (.ref s.heap.objs.size)) (PIE X pins σ tg R) E { s with heap := s.heap.push { cls := .type "range", data := .fields #[.int lo t, .int hi u, .int 1 v] }, toks := tk } := by
  refine wpAny_pyIter_range (IsRange.new ..) (small_one h1 h2 h3 h4) ?_
  have I1 : Inv X pins σ H { s with heap := s.heap.push { cls := .type "range", data := .fields #[.int lo t, .int hi u, .int 1 v] }, toks := tk } := I.kept fun b o e => Heap.get?_push_of_some _ e
  refine ⟨(s.heap.push { cls := .type "range", data := .fields #[.int lo t, .int hi u, .int 1 v] }).objs.size, [(s.heap.push { cls := .type "range", data := .fields #[.int lo t, .int hi u, .int 1 v] }).objs.size], _, _, H, rfl,
    I1.kept (t' := tk) fun b o e => Heap.get?_push_of_some _ e, turn_range _ lo (hi - lo).toNat, ?_, fun b hb => ?_, q⟩
  · have e1 : lo + ((0 : Nat) : Int) * 1 = lo := by simp
    have e2 : (((hi - lo).toNat : Nat) : Int) - ((0 : Nat) : Int) = Builtin.Range.rangeSize lo hi 1 := by rw [rangeSize_one]; split <;> omega
    show IsRangeIter _ _ (lo + ((0 : Nat) : Int) * 1) ((((hi - lo).toNat : Nat) : Int) - ((0 : Nat) : Int)) 1
    rw [e1, e2]
    exact Heap.get?_push_size _ rfl
  · have e : b = (s.heap.push { cls := .type "range", data := .fields #[.int lo t, .int hi u, .int 1 v] }).objs.size := by simpa using hb
    subst e
    exact I1.fpOk (Nat.le_refl _) (I1.hok.fresh (Nat.le_refl _))
def iRng1 (ta : TA) : TI := fun σ H R => ta σ H fun vs H1 => ∃ j : Int, vs = [.int j] ∧ -(2 ^ 62) ≤ j ∧ j < 2 ^ 62 ∧ R (Itr 0 j.toNat) H1
theorem pi_range1 {a : Expr} {ta : TA} {p pos : Pos} (hg : Gl X "range") (hm : X.mg "range" = none) (ha : PA X [a] ta) (hs : starEach [a] X.env = [(false, eval a X.env)] := by rfl) : PI X tg (.Call (.Name "range" p) [a] [] pos) (iRng1 ta) := by
  intro pins s σ H R I h
  refine Call_ (ld_blt I hg hm boot_range (PyProof.Rows.callWith_type1 (thn (ha pos pins s σ H _ I h) fun us s1 ⟨vs, H1, I1, r1, q1⟩ => ?_) hs rfl))
  obtain ⟨j, e, q1, q2, q⟩ := q1
  subst e
  cases r1 with
  | cons r rr =>
    cases rr
    obtain ⟨t, rfl⟩ := r
    exact call_range_1 (range_it I1 (by omega) (by omega) q1 q2 (by simpa using q))
/-! ### for -/
/-- W: the invariant by the turn and a measure; N: what the body is to reach -/
def tFor (wi : TI) (g : TG) (tb : TS) : TS := fun D σ H => wi σ H fun J H1 => ∃ W : Nat → Nat → St → Hp → Prop, (∃ m, W 0 m σ H1) ∧ ∀ i m σ H, W i m σ H →
  (J.stop i H ∧ D.nx σ H) ∨ (J.go i H ∧ ∃ N : St → Hp → Prop, (∀ σ' H', N σ' H' → ∃ m', m' < m ∧ W (i + 1) m' σ' H') ∧ ∀ x H', J.yld i H x H' → g x σ H' fun σ2 H2 => tb { D with nx := N, ct := N, bk := D.nx } σ2 H2)
/-- the records at fp as they stand -/
def pinsAt (fp : List Addr) (h : Heap) : List (Addr × Obj) := fp.filterMap fun b => (h.get? b).map fun o => (b, o)
theorem mem_pinsAt {fp : List Addr} {h : Heap} {b : Addr} {o : Obj} (hb : b ∈ fp) (e : h.get? b = some o) : (b, o) ∈ pinsAt fp h := List.mem_filterMap.mpr ⟨b, hb, by rw [e]; rfl⟩
theorem of_pinsAt {fp : List Addr} {h : Heap} {p : Addr × Obj} (hp : p ∈ pinsAt fp h) : p.1 ∈ fp ∧ h.get? p.1 = some p.2 := by
  obtain ⟨b, hb, e⟩ := List.mem_filterMap.mp hp
  cases q : h.get? b with
  | none => rw [q] at e; cases e
  | some o =>
    rw [q] at e
    have e' : (b, o) = p := Option.some.inj e
    subst e'
    exact ⟨hb, q⟩
theorem Inv.pinned {pins : List (Addr × Obj)} {σ : St} {H : Hp} {s : Shared} {fp : List Addr} (I : Inv X pins σ H s) (hf : ∀ b ∈ fp, FpOk X pins H b) (ho : ∀ b ∈ fp, ∃ o, s.heap.get? b = some o ∧ ∀ v, o.data ≠ .cell v) : Inv X (pins ++ pinsAt fp s.heap) σ H s :=
  I.pins_of fun p hp => (List.mem_append.mp hp).elim (fun z => I.pin p (List.mem_append_right _ z)) fun z => by
    obtain ⟨hb, e⟩ := of_pinsAt z
    obtain ⟨f0, f1, f2, _⟩ := hf p.1 hb
    obtain ⟨o, e', d⟩ := ho p.1 hb
    rw [e] at e'; cases e'
    exact ⟨e, f0, f1, f2, d⟩
theorem Inv.unpinned {pins pl : List (Addr × Obj)} {σ : St} {H : Hp} {s : Shared} (I : Inv X (pins ++ pl) σ H s) : Inv X pins σ H s := I.pins_of fun p hp => I.pin p (List.mem_append_right _ (List.mem_append_left _ hp))
theorem ps_for {iter : Expr} {body : List Stmt} {wi : TI} {g : TG} {tb : TS} {pos : Pos} (hp : PassesOwn (model X.prog X.w) X.A X.env X.xe) (hc : X.calm = true) (hi : PI X tg iter wi) (hg : PG X tg g) (hb : PSs X body tb)
    (hs : ∀ x, foldedSetIterable iter X.env x = pure x := by intro _; rfl) : PS X (.For tg iter body [] pos) (tFor wi g tb) := by
  intro pins s σ H D I h
  refine wpAny_For (thn (hi pins s σ H _ I h) fun v s1 h1 => thn h1 fun itv s2 h2 => ?_) hs
  obtain ⟨it, fp, tn, J, H2, e, I2, T, st2, f2, W, ⟨m0, w0⟩, turn⟩ := h2
  subst e
  -- what stays true of the iterator's objects through the loop
  have stat : ∀ {H' : Hp}, (∀ b ∈ fp, H' b = none) → ∀ b ∈ fp, FpOk X pins H' b := fun hn b hb => ⟨hn b hb, (f2 b hb).2⟩
  refine codeAny_forLoop_any (fun n s' => ∃ i σ' H', Inv X pins σ' H' s' ∧ tn i s'.heap ∧ (∀ b ∈ fp, H' b = none) ∧ W i n σ' H') ?_ m0 ⟨0, σ, H2, I2, st2, fun b hb => (f2 b hb).1, w0⟩
  rintro n s3 ⟨i, σ3, H3, I3, st3, fr3, w3⟩
  rcases turn i n σ3 H3 w3 with ⟨stop, qn⟩ | ⟨go, N, hN, step⟩
  · refine wpAny_passesOwn hp (thn (T.done X rfl rfl rfl hc i pins s3 σ3 H3 X.xe I3 (stat fr3) st3 stop) fun r s4 ⟨hr, I4⟩ => ?_)
    subst hr
    exact wpAny_execs_nil ⟨σ3, H3, I4, qn⟩
  · refine wpAny_passesOwn hp (thn (T.item X rfl rfl rfl hc i pins s3 σ3 H3 X.xe I3 (stat fr3) st3 go) fun r s4 ⟨u, hr, h4⟩ => ?_)
    subst hr
    refine wpAny_passesOwn hp (thn h4 fun _ s5 ⟨x, H5, I5, r5, y5, st5, fr5⟩ => ?_)
    have I5' := I5.pinned (stat fr5) (T.obj _ _ st5)
    refine wpAny_passesOwn hp (thn (hg _ s5 σ3 H5 x u _ I5' r5 (step x H5 y5)) fun _ s6 ⟨σ6, H6, I6, q6⟩ => ?_)
    refine wpAny_passesOwn hp (thn (hb _ s6 σ6 H6 _ I6 q6) fun f s7 q7 => ?_)
    have again : ∀ {σ7 : St} {H7 : Hp}, Inv X (pins ++ pinsAt fp s5.heap) σ7 H7 s7 → N σ7 H7 → ∃ m, m < n ∧ ∃ i σ' H', Inv X pins σ' H' s7 ∧ tn i s7.heap ∧ (∀ b ∈ fp, H' b = none) ∧ W i m σ' H' := fun {σ7 H7} I7 n7 => by
      obtain ⟨m', hm, w7⟩ := hN σ7 H7 n7
      refine ⟨m', hm, i + 1, σ7, H7, I7.unpinned, T.keep _ _ _ st5 fun b hb o e => (I7.pin (b, o) (List.mem_append_right _ (List.mem_append_right _ (mem_pinsAt hb e)))).1, fun b hb => ?_, w7⟩
      obtain ⟨o, e, d⟩ := T.obj _ _ st5 b hb
      exact (I7.pin (b, o) (List.mem_append_right _ (List.mem_append_right _ (mem_pinsAt hb e)))).2.1
    cases f with
    | next => obtain ⟨σ7, H7, I7, n7⟩ := q7; exact again I7 n7
    | cont => obtain ⟨σ7, H7, I7, n7⟩ := q7; exact again I7 n7
    | brk => obtain ⟨σ7, H7, I7, q7⟩ := q7; exact ⟨σ7, H7, I7.unpinned, q7⟩
    | ret v => obtain ⟨x7, σ7, H7, I7, r7, q7⟩ := q7; exact ⟨x7, σ7, H7, I7.unpinned, r7, q7⟩
end

/-! ### the forms one uses -/
/-- over a list that the body leaves as it is -/
theorem for_list {K : PySem.W.Frag} {a : Addr} {xs : List V} {g : TG} {tb : TS} {D : Ends} {σ : St} {H : Hp} (Pv : Nat → St → Hp → Prop) (h0 : Pv 0 σ H) (hl : ∀ i σ H, i ≤ xs.length → Pv i σ H → SqL K H a xs)
    (hs : ∀ i x σ H, xs[i]? = some x → Pv i σ H → g x σ H fun σ2 H2 => tb { D with nx := Pv (i + 1), ct := Pv (i + 1), bk := D.nx } σ2 H2) (hd : ∀ σ H, Pv xs.length σ H → D.nx σ H) :
    ∃ W : Nat → Nat → St → Hp → Prop, (∃ m, W 0 m σ H) ∧ ∀ i m σ H, W i m σ H →
      ((Itl K a).stop i H ∧ D.nx σ H) ∨ ((Itl K a).go i H ∧ ∃ N : St → Hp → Prop, (∀ σ' H', N σ' H' → ∃ m', m' < m ∧ W (i + 1) m' σ' H') ∧ ∀ x H', (Itl K a).yld i H x H' → g x σ H' fun σ2 H2 => tb { D with nx := N, ct := N, bk := D.nx } σ2 H2) := by
  refine ⟨fun i m σ H => m = xs.length - i ∧ i ≤ xs.length ∧ Pv i σ H, ⟨xs.length, by simp, Nat.zero_le _, h0⟩, ?_⟩
  rintro i m σ H ⟨rfl, hi, p⟩
  have q := hl i σ H hi p
  by_cases hlt : i < xs.length
  · refine .inr ⟨⟨xs, xs[i], q, by simp [hlt]⟩, Pv (i + 1), fun σ' H' p' => ⟨xs.length - (i + 1), by omega, rfl, hlt, p'⟩, fun x H' y => ?_⟩
    obtain ⟨e, y⟩ := y
    subst e
    exact hs i x σ _ (y xs q) p
  · have e : i = xs.length := by omega
    subst e
    exact .inl ⟨⟨xs, q, Nat.le_refl _⟩, hd σ H p⟩
theorem for_range {lo : Int} {n : Nat} {g : TG} {tb : TS} {D : Ends} {σ : St} {H : Hp} (Pv : Nat → St → Hp → Prop) (h0 : Pv 0 σ H)
    (hs : ∀ i σ H, i < n → Pv i σ H → g (.int (lo + i)) σ H fun σ2 H2 => tb { D with nx := Pv (i + 1), ct := Pv (i + 1), bk := D.nx } σ2 H2) (hd : ∀ σ H, Pv n σ H → D.nx σ H) :
    ∃ W : Nat → Nat → St → Hp → Prop, (∃ m, W 0 m σ H) ∧ ∀ i m σ H, W i m σ H →
      ((Itr lo n).stop i H ∧ D.nx σ H) ∨ ((Itr lo n).go i H ∧ ∃ N : St → Hp → Prop, (∀ σ' H', N σ' H' → ∃ m', m' < m ∧ W (i + 1) m' σ' H') ∧ ∀ x H', (Itr lo n).yld i H x H' → g x σ H' fun σ2 H2 => tb { D with nx := N, ct := N, bk := D.nx } σ2 H2) := by
  refine ⟨fun i m σ H => m = n - i ∧ i ≤ n ∧ Pv i σ H, ⟨n, by simp, Nat.zero_le _, h0⟩, ?_⟩
  rintro i m σ H ⟨rfl, hi, p⟩
  by_cases hlt : i < n
  · refine .inr ⟨hlt, Pv (i + 1), fun σ' H' p' => ⟨n - (i + 1), by omega, rfl, hlt, p'⟩, fun x H' y => ?_⟩
    obtain ⟨e, y⟩ := y
    subst e y
    exact hs i σ _ hlt p
  · have e : i = n := by omega
    subst e
    exact .inl ⟨Nat.le_refl _, hd σ H p⟩
end L2

namespace L2
open PySem PySem.Spec PyProof.Rows

abbrev R2 := V → V → Hp → VK → Prop
/-- a two-place operation on values: f is binaryOp op, inplaceOp op or compareOp op -/
def OpR (X : Cx) (f : Value → Value → Sem Value) (r : R2) : Prop :=
  ∀ (pins : List (Addr × Obj)) (s : Shared) (σ : St) (H : Hp) (x y : V) (v u : Value) (Q : VK), Inv X pins σ H s → RelV x v → RelV y u → r x y H Q →
    wpAny (model X.prog X.w) X.A (f v u) (EP X pins σ Q) X.xe s
/-- a one-place operation -/
def UnR (X : Cx) (f : Value → Sem Value) (r : V → Hp → VK → Prop) : Prop :=
  ∀ (pins : List (Addr × Obj)) (s : Shared) (σ : St) (H : Hp) (x : V) (v : Value) (Q : VK), Inv X pins σ H s → RelV x v → r x H Q →
    wpAny (model X.prog X.w) X.A (f v) (EP X pins σ Q) X.xe s
/-- a call of a value that is known (a builtin, a type) with values -/
def CallR (X : Cx) (f : Value) (r : List V → Hp → VK → Prop) : Prop :=
  ∀ (pins : List (Addr × Obj)) (s : Shared) (σ : St) (H : Hp) (xs : List V) (us : List Value) (Q : VK), Inv X pins σ H s → Vals xs us → r xs H Q →
    wpAny (model X.prog X.w) X.A (call f us) (EP X pins σ Q) X.xe s
def tOp (r : R2) (ta tb : TE) : TE := fun σ H Q => ta σ H fun x H1 => tb σ H1 fun y H2 => r x y H2 Q
def tUn (r : V → Hp → VK → Prop) (ta : TE) : TE := fun σ H Q => ta σ H fun x H1 => r x H1 Q
/-- ints in, under C, and a value out -/
def rI (C : Int → Int → Prop) (g : Int → Int → V) : R2 := fun x y H Q => ∃ i j, x = .int i ∧ y = .int j ∧ C i j ∧ Q (g i j) H
def rI0 (g : Int → Int → V) : R2 := fun x y H Q => ∃ i j, x = .int i ∧ y = .int j ∧ Q (g i j) H
def rU (g : Int → V) : V → Hp → VK → Prop := fun x H Q => ∃ i, x = .int i ∧ Q (g i) H

section
variable {X : Cx} {a b c : Expr} {ta tb tc : TE} {pos : Pos}

theorem binT (ha : PE X a ta) (hb : PE X b tb) {pins : List (Addr × Obj)} {s : Shared} {σ : St} {H : Hp} {R : V → V → Hp → Prop} (I : Inv X pins σ H s)
    (h : ta σ H fun x H1 => tb σ H1 fun y H2 => R x y H2) {Q : Value → Shared → Prop} {f : Value → Value → Sem Value}
    (hf : ∀ v u s2 x y H2, Inv X pins σ H2 s2 → RelV x v → RelV y u → R x y H2 → wpAny (model X.prog X.w) X.A (f v u) Q X.xe s2) :
    wpAny (model X.prog X.w) X.A (eval a X.env) (fun v s₁ => wpAny (model X.prog X.w) X.A (eval b X.env) (fun u s₂ => wpAny (model X.prog X.w) X.A (f v u) Q X.xe s₂) X.xe s₁) X.xe s := by
  refine thn (ha pins s σ H _ I h) fun v s1 ⟨x, H1, I1, r1, q1⟩ => ?_
  refine thn (hb pins s1 σ H1 _ I1 q1) fun u s2 ⟨y, H2, I2, r2, q2⟩ => ?_
  exact hf v u s2 x y H2 I2 r1 r2 q2

theorem pe_op {op : Operator} {r : R2} (ho : OpR X (binaryOp op) r) (ha : PE X a ta) (hb : PE X b tb) : PE X (.BinOp a op b pos) (tOp r ta tb) := by
  intro pins s σ H Q I h
  exact wpAny_BinOp (binT ha hb I h fun v u s2 x y H2 I2 rx ry q => ho pins s2 σ H2 x y v u Q I2 rx ry q)
theorem pe_un {op : UnaryOp} {r : V → Hp → VK → Prop} (ho : UnR X (unaryOp op) r) (ha : PE X a ta) : PE X (.UnaryOp op a pos) (tUn r ta) := by
  intro pins s σ H Q I h
  exact UnaryOp_ (thn (ha pins s σ H _ I h) fun v s1 ⟨x, H1, I1, r1, q1⟩ => ho pins s1 σ H1 x v Q I1 r1 q1)
/-! ### ints -/
theorem opI {f : Value → Value → Sem Value} {C : Int → Int → Prop} {g : Int → Int → Int}
    (rule : ∀ (i j : Int) (t u : Tok) (s : Shared) (Q : Value → Shared → Prop) (E : Value → Shared → Prop), C i j → Q (.int (g i j) s.toks) { s with toks := s.toks + 1 } → wpAny (model X.prog X.w) X.A (f (.int i t) (.int j u)) Q E s) :
    OpR X f (rI C fun i j => .int (g i j)) := by
  intro pins s σ H x y v u Q I rx ry h
  obtain ⟨i, j, rfl, rfl, hc, q⟩ := h
  obtain ⟨t, rfl⟩ := rx
  obtain ⟨t', rfl⟩ := ry
  exact rule i j t t' s _ _ hc ⟨.int (g i j), H, I.tok _, ⟨_, rfl⟩, q⟩
theorem opI0 {f : Value → Value → Sem Value} {g : Int → Int → Int}
    (rule : ∀ (i j : Int) (t u : Tok) (s : Shared) (Q : Value → Shared → Prop) (E : Value → Shared → Prop), Q (.int (g i j) s.toks) { s with toks := s.toks + 1 } → wpAny (model X.prog X.w) X.A (f (.int i t) (.int j u)) Q E s) :
    OpR X f (rI0 fun i j => .int (g i j)) := by
  intro pins s σ H x y v u Q I rx ry h
  obtain ⟨i, j, rfl, rfl, q⟩ := h
  obtain ⟨t, rfl⟩ := rx
  obtain ⟨t', rfl⟩ := ry
  exact rule i j t t' s _ _ ⟨.int (g i j), H, I.tok _, ⟨_, rfl⟩, q⟩
theorem opB0 {f : Value → Value → Sem Value} {g : Int → Int → Bool}
    (rule : ∀ (i j : Int) (t u : Tok) (s : Shared) (Q : Value → Shared → Prop) (E : Value → Shared → Prop), Q (.bool (g i j)) s → wpAny (model X.prog X.w) X.A (f (.int i t) (.int j u)) Q E s) :
    OpR X f (rI0 fun i j => .bl (g i j)) := by
  intro pins s σ H x y v u Q I rx ry h
  obtain ⟨i, j, rfl, rfl, q⟩ := h
  obtain ⟨t, rfl⟩ := rx
  obtain ⟨t', rfl⟩ := ry
  exact rule i j t t' s _ _ ⟨.bl (g i j), H, I, rfl, q⟩

def CDiv (i j : Int) : Prop := 0 < j ∧ j < 1073741824
def CPow (i j : Int) : Prop := 0 ≤ j ∧ j ≤ 1000000 ∧ i.natAbs < 2 ^ 64
def CMul (i j : Int) : Prop := (-(2 ^ 64) < i ∧ i < 2 ^ 64) ∨ (-(2 ^ 64) < j ∧ j < 2 ^ 64)
theorem CMul.ok {i j : Int} (h : CMul i j) : IntMulOk i j := by
  rcases h with ⟨h1, h2⟩ | ⟨h1, h2⟩
  · exact .of_left (intBits_le_64 h1 h2)
  · exact .of_right (intBits_le_64 h1 h2)
theorem op_add : OpR X (binaryOp .Add) (rI0 fun i j => .int (i + j)) := opI0 fun _ _ _ _ _ _ _ q => add_int q
theorem op_sub : OpR X (binaryOp .Sub) (rI0 fun i j => .int (i - j)) := opI0 fun _ _ _ _ _ _ _ q => sub_int q
theorem op_mul : OpR X (binaryOp .Mult) (rI CMul fun i j => .int (i * j)) := opI fun _ _ _ _ _ _ _ hc q => mul_int q hc.ok
/-- // by a positive divisor -/
theorem op_fdiv : OpR X (binaryOp .FloorDiv) (rI CDiv fun i j => .int (i / j)) := opI fun i j _ _ _ _ _ hc q => by
  have h1 : (0 : Int) < j := hc.1
  have h2 : j < 1073741824 := hc.2
  exact floordiv_int (by omega) (by rw [Int.fdiv_eq_ediv_of_nonneg i (by omega)]; exact q) (.inl (PyProof.noPylong_small (by omega)))
/-- % by a positive divisor of any size -/
theorem op_mod : OpR X (binaryOp .Mod) (rI (fun _ j => 0 < j) fun i j => .int (i % j)) := opI fun i j _ _ _ _ _ hc q => by
  have h1 : (0 : Int) < j := hc
  exact mod_int' (by omega) (by rw [Int.fmod_eq_emod_of_nonneg i (by omega)]; exact q)
theorem op_pow : OpR X (binaryOp .Pow) (rI CPow fun i j => .int (i ^ j.toNat)) := opI fun _ _ _ _ _ _ _ hc q => pow_int_small hc.1 hc.2.1 hc.2.2 q
theorem unI {f : Value → Sem Value} {g : Int → Int}
    (rule : ∀ (i : Int) (t : Tok) (s : Shared) (Q : Value → Shared → Prop) (E : Value → Shared → Prop), Q (.int (g i) s.toks) { s with toks := s.toks + 1 } → wpAny (model X.prog X.w) X.A (f (.int i t)) Q E s) :
    UnR X f (rU fun i => .int (g i)) := by
  intro pins s σ H x v Q I rx h
  obtain ⟨i, rfl, q⟩ := h
  obtain ⟨t, rfl⟩ := rx
  exact rule i t s _ _ ⟨.int (g i), H, I.tok _, ⟨_, rfl⟩, q⟩
theorem un_neg : UnR X (unaryOp .USub) (rU fun i => .int (-i)) := unI fun _ _ _ _ _ q => neg_int q
/-! ### bools among ints: n += (a < b) -/
end

/-! ### comparisons -/
/-- the scalars that == tells apart as data does -/
def scal : V → V → Bool
  | .non, .non => true | .non, .int _ => true | .int _, .non => true | .non, .bl _ => true | .bl _, .non => true | .non, .str _ => true | .str _, .non => true
  | .int _, .int _ => true | .bl _, .bl _ => true | .str _, .str _ => true | .byt _, .byt _ => true
  | .int _, .str _ => true | .str _, .int _ => true | .bl _, .str _ => true | .str _, .bl _ => true
  | _, _ => false
def rEq : R2 := fun x y H Q => scal x y = true ∧ Q (.bl (decide (x = y))) H
def rNe : R2 := fun x y H Q => scal x y = true ∧ Q (.bl (!decide (x = y))) H

theorem dec_int {i j : Int} : decide (V.int i = V.int j) = (i == j) := by
  rw [Bool.eq_iff_iff]
  simp
theorem dec_bl {i j : Bool} : decide (V.bl i = V.bl j) = (i == j) := by
  rw [Bool.eq_iff_iff]
  simp
theorem dec_str {i j : Str} : decide (V.str i = V.str j) = (i == j) := by
  rw [Bool.eq_iff_iff]
  simp
theorem dec_byt {i j : Array UInt8} : decide (V.byt i = V.byt j) = (i.toList == j.toList) := by
  rw [Bool.eq_iff_iff]
  cases i
  cases j
  simp

section
variable {X : Cx} {a b c : Expr} {ta tb tc : TE} {pos : Pos}
theorem fin_bl {pins : List (Addr × Obj)} {σ : St} {H : Hp} {s : Shared} {Q : VK} {k k' : Bool} (I : Inv X pins σ H s) (q : Q (.bl k) H) (e : k = k') : EP X pins σ Q (.bool k') s := by
  subst e
  exact ⟨.bl k, H, I, rfl, q⟩
theorem op_eq : OpR X (compareOp .Eq) rEq := by
  intro pins s σ H x y v u Q I rx ry h
  obtain ⟨hs, q⟩ := h
  cases x with
  | non =>
    cases rx
    cases y with
    | non => cases ry; exact PySem.EqNone.eq_none_none (fin_bl I q (by simp))
    | bl j => cases ry; exact PySem.EqNone.eq_none_bool (fin_bl I q (by simp))
    | int j => obtain ⟨t', rfl⟩ := ry; exact PySem.EqNone.eq_none_int (fin_bl I q (by simp))
    | str j => obtain ⟨t', rfl⟩ := ry; exact PySem.EqNone.eq_none_str (fin_bl I q (by simp))
    | _ => exact absurd (show false = true from hs) Bool.false_ne_true
  | bl i =>
    cases rx
    cases y with
    | non => cases ry; exact PySem.EqNone.eq_bool_none (fin_bl I q (by simp))
    | bl j => cases ry; exact eq_bool (fin_bl I q dec_bl)
    | str j => obtain ⟨t', rfl⟩ := ry; exact PySem.EqMixed.eq_bool_str (fin_bl I q (by simp))
    | _ => exact absurd (show false = true from hs) Bool.false_ne_true
  | int i =>
    obtain ⟨t, rfl⟩ := rx
    cases y with
    | non => cases ry; exact PySem.EqNone.eq_int_none (fin_bl I q (by simp))
    | int j => obtain ⟨t', rfl⟩ := ry; exact eq_int (fin_bl I q dec_int)
    | str j => obtain ⟨t', rfl⟩ := ry; exact PySem.EqMixed.eq_int_str (fin_bl I q (by simp))
    | _ => exact absurd (show false = true from hs) Bool.false_ne_true
  | str i =>
    obtain ⟨t, rfl⟩ := rx
    cases y with
    | non => cases ry; exact PySem.EqNone.eq_str_none (fin_bl I q (by simp))
    | bl j => cases ry; exact PySem.EqMixed.eq_str_bool (fin_bl I q (by simp))
    | int j => obtain ⟨t', rfl⟩ := ry; exact PySem.EqMixed.eq_str_int (fin_bl I q (by simp))
    | str j => obtain ⟨t', rfl⟩ := ry; exact eq_str (fin_bl I q dec_str)
    | _ => exact absurd (show false = true from hs) Bool.false_ne_true
  | byt i =>
    obtain ⟨t, rfl⟩ := rx
    cases y with
    | byt j => obtain ⟨t', rfl⟩ := ry; exact PySem.W.eq_bytes (fin_bl I q dec_byt)
    | _ => exact absurd (show false = true from hs) Bool.false_ne_true
  | _ => cases y <;> exact absurd (show false = true from hs) Bool.false_ne_true
theorem op_ne : OpR X (compareOp .NotEq) rNe := by
  intro pins s σ H x y v u Q I rx ry h
  obtain ⟨hs, q⟩ := h
  cases x with
  | non =>
    cases rx
    cases y with
    | non => cases ry; exact PySem.EqNone.ne_none_none (fin_bl I q (by simp))
    | bl j => cases ry; exact PySem.EqNone.ne_none_bool (fin_bl I q (by simp))
    | int j => obtain ⟨t', rfl⟩ := ry; exact PySem.EqNone.ne_none_int (fin_bl I q (by simp))
    | str j => obtain ⟨t', rfl⟩ := ry; exact PySem.EqNone.ne_none_str (fin_bl I q (by simp))
    | _ => exact absurd (show false = true from hs) Bool.false_ne_true
  | bl i =>
    cases rx
    cases y with
    | non => cases ry; exact PySem.EqNone.ne_bool_none (fin_bl I q (by simp))
    | bl j => cases ry; exact ne_bool (fin_bl I q (congrArg not dec_bl))
    | str j => obtain ⟨t', rfl⟩ := ry; exact PySem.EqMixed.ne_bool_str (fin_bl I q (by simp))
    | _ => exact absurd (show false = true from hs) Bool.false_ne_true
  | int i =>
    obtain ⟨t, rfl⟩ := rx
    cases y with
    | non => cases ry; exact PySem.EqNone.ne_int_none (fin_bl I q (by simp))
    | int j => obtain ⟨t', rfl⟩ := ry; exact ne_int (fin_bl I q (congrArg not dec_int))
    | str j => obtain ⟨t', rfl⟩ := ry; exact PySem.EqMixed.ne_int_str (fin_bl I q (by simp))
    | _ => exact absurd (show false = true from hs) Bool.false_ne_true
  | str i =>
    obtain ⟨t, rfl⟩ := rx
    cases y with
    | non => cases ry; exact PySem.EqNone.ne_str_none (fin_bl I q (by simp))
    | bl j => cases ry; exact PySem.EqMixed.ne_str_bool (fin_bl I q (by simp))
    | int j => obtain ⟨t', rfl⟩ := ry; exact PySem.EqMixed.ne_str_int (fin_bl I q (by simp))
    | str j => obtain ⟨t', rfl⟩ := ry; exact ne_str (fin_bl I q (congrArg not dec_str))
    | _ => exact absurd (show false = true from hs) Bool.false_ne_true
  | byt i =>
    obtain ⟨t, rfl⟩ := rx
    cases y with
    | byt j => obtain ⟨t', rfl⟩ := ry; exact PySem.W.ne_bytes (fin_bl I q (congrArg not dec_byt))
    | _ => exact absurd (show false = true from hs) Bool.false_ne_true
  | _ => cases y <;> exact absurd (show false = true from hs) Bool.false_ne_true

theorem op_lt : OpR X (compareOp .Lt) (rI0 fun i j => .bl (decide (i < j))) := opB0 fun _ _ _ _ _ _ _ q => lt_int q
theorem op_le : OpR X (compareOp .LtE) (rI0 fun i j => .bl (decide (i ≤ j))) := opB0 fun _ _ _ _ _ _ _ q => le_int q
theorem op_ge : OpR X (compareOp .GtE) (rI0 fun i j => .bl (decide (j ≤ i))) := opB0 fun _ _ _ _ _ _ _ q => ge_int q
/-- two rules for one operation: by cases -/
theorem OpR.or {f : Value → Value → Sem Value} {r r' : R2} (h : OpR X f r) (h' : OpR X f r') : OpR X f (fun x y H Q => r x y H Q ∨ r' x y H Q) := by
  intro pins s σ H x y v u Q I rx ry q
  rcases q with q | q
  · exact h pins s σ H x y v u Q I rx ry q
  · exact h' pins s σ H x y v u Q I rx ry q

theorem nomark (b : Expr) {op : CmpOp} (h : op ≠ .In := by decide) (h2 : op ≠ .NotIn := by decide) : behindInMarks op b = false := by
  have e1 : (op == CmpOp.In) = false := by cases op <;> first | rfl | exact absurd rfl h
  have e2 : (op == CmpOp.NotIn) = false := by cases op <;> first | rfl | exact absurd rfl h2
  cases b <;> simp [behindInMarks, e1, e2]
/-- a comparison as a value; hm: nomark b, or (for in, not in) by with_unfolding_all rfl -/
theorem pe_cmpR {op : CmpOp} {r : R2} (ho : OpR X (compareOp op) r) (ha : PE X a ta) (hb : PE X b tb) (hm : behindInMarks op b = false) : PE X (.Compare a [op] [b] pos) (tOp r ta tb) := by
  intro pins s σ H Q I h
  exact wpAny_Compare1 (binT ha hb I h fun v u s2 x y H2 I2 rx ry q => ho pins s2 σ H2 x y v u Q I2 rx ry q) hm
/-- a reading of a value as a test -/
def tTest (t : TE) : TT := fun σ H Q => t σ H fun x H' => ∃ k, x = .bl k ∧ Q k H'
theorem pt_cmpR {op : CmpOp} {r : R2} (ho : OpR X (compareOp op) r) (ha : PE X a ta) (hb : PE X b tb) (hm : behindInMarks op b = false) : PT X (.Compare a [op] [b] pos) (tTest (tOp r ta tb)) := by
  intro pins s σ H Q I h
  refine wpAny_isTrue_Compare1 (thn (ha pins s σ H _ I h) fun v s1 ⟨x, H1, I1, r1, q1⟩ => thn (hb pins s1 σ H1 _ I1 q1) fun u s2 ⟨y, H2, I2, r2, q2⟩ =>
    thn (ho pins s2 σ H2 x y v u _ I2 r1 r2 q2) fun c s3 ⟨z, H3, I3, r3, k, e, q3⟩ => ?_) hm
  subst e
  cases r3
  exact wpAny_truthy_bool ⟨H3, I3, q3⟩
/-- a op1 b op2 c -/
def tChain (r r' : R2) (ta tb tc : TE) : TE := fun σ H Q => ta σ H fun x H1 => tb σ H1 fun y H2 => r x y H2 fun z H3 => ∃ k, z = .bl k ∧
  (if k = true then tc σ H3 fun w' H4 => r' y w' H4 Q else Q (.bl false) H3)
theorem pt_chain {op op' : CmpOp} {r r' : R2} (ho : OpR X (compareOp op) r) (ho' : OpR X (compareOp op') r') (ha : PE X a ta) (hb : PE X b tb) (hc : PE X c tc)
    (hm : lastMarks [op, op'] [b, c] = false := by with_unfolding_all rfl) : PT X (.Compare a [op, op'] [b, c] pos) (tTest (tChain r r' ta tb tc)) := by
  intro pins s σ H Q I h
  refine isTrue_chain (thn (ha pins s σ H _ I h) fun v s1 ⟨x, H1, I1, r1, q1⟩ => test_link (thn (hb pins s1 σ H1 _ I1 q1) fun u s2 ⟨y, H2, I2, r2, q2⟩ =>
    thn (ho pins s2 σ H2 x y v u _ I2 r1 r2 q2) fun d s3 ⟨z, H3, I3, r3, k, e, q3⟩ => ?_)) hm
  subst e
  cases r3
  refine wpAny_truthy_bool ?_
  cases k with
  | false =>
    obtain ⟨k', e', q'⟩ := q3
    cases e'
    exact ite_ff ⟨H3, I3, q'⟩
  | true =>
    refine ite_tt (test_last (thn (hc pins s3 σ H3 _ I3 q3) fun w' s4 ⟨z', H4, I4, r4, q4⟩ => thn (ho' pins s4 σ H4 y z' u w' _ I4 r2 r4 q4) fun d' s5 ⟨z2, H5, I5, r5, k2, e2, q5⟩ => ?_))
    subst e2
    cases r5
    exact wpAny_truthy_bool ⟨H5, I5, q5⟩

/-! ### truth -/
theorem line63 : (sizeLine : Nat) < 2 ^ 63 := by rw [sizeLine_eq]; decide
/-! ### strs and bytes -/
/-! ### scalar builtins, by CallR -/
theorem vals1 {x : V} {us : List Value} (r : Vals [x] us) : ∃ u, us = [u] ∧ RelV x u := by
  cases r with
  | cons r1 r2 => cases r2; exact ⟨_, rfl, r1⟩
theorem vals2 {x y : V} {us : List Value} (r : Vals [x, y] us) : ∃ u w', us = [u, w'] ∧ RelV x u ∧ RelV y w' := by
  cases r with
  | cons r1 r2 =>
    cases r2 with
    | cons r3 r4 => cases r4; exact ⟨_, _, rfl, r1, r3⟩
end
end L2

namespace L2
open PySem PySem.Spec PyProof.Rows

/-! ### an instance, its attributes a map -/
structure ObjM (h : Heap) (x dx C : Addr) (mA : Str → Option Value) : Prop where
  obj : h.get? x = some (PySem.W.instObj C dx)
  ns : h.Ns1 dx mA
  ne : dx ≠ x

theorem lookIn_ns {h : Heap} {dx : Addr} {mA : Str → Option Value} (n : h.Ns1 dx mA) : ∃ od, h.get? dx = some od ∧ ∀ name, PySem.W.lookIn name od = some (mA name) := by
  obtain ⟨o, es, ep, ho, hd, hk, _, hm⟩ := n
  refine ⟨o, ho, fun name => ?_⟩
  have e := hm name
  unfold nsFind findBy at e
  rw [← Array.find?_toList] at e
  unfold PySem.W.lookIn
  rw [hd]
  dsimp only
  split
  · rename_i y q
    rw [q] at e
    exact congrArg some e
  · rename_i q
    rw [q] at e
    have a : es.toList.any (·.refKey) = false := by
      rw [List.any_eq_false]
      intro y hy
      obtain ⟨z, t, hkey⟩ := hk y (Array.mem_toList_iff.mp hy)
      simp [DictEntry.refKey, hkey]
    have a' : ¬ es.toList.any (·.refKey) = true := by rw [a]; exact Bool.false_ne_true
    rw [if_neg a']
    exact congrArg some e

theorem ObjM.look {h : Heap} {x dx C : Addr} {mA : Str → Option Value} (I : ObjM h x dx C mA) : ∃ od, PySem.W.InstAt h x (PySem.W.instObj C dx) C (some od) ∧ ∀ name, PySem.W.lookIn name od = some (mA name) :=
  let ⟨od, ho, hl⟩ := lookIn_ns I.ns
  ⟨od, ⟨I.obj, rfl, rfl, ho⟩, hl⟩

section
variable {prog : Program} {w : World} {A : Around} {E : Value → Shared → Prop} {s : Shared} {K : PySem.W.Frag} {x dx C f : Addr} {mA : Str → Option Value} {name : Str} {v : Value}

theorem get_map {expr : Bool} {Q : Value → Shared → Prop} (X : K.In s.heap) (I : ObjM s.heap x dx C mA) (hg : PySem.W.plainGet K C name = true) (hh : PySem.W.hasDictIn K C = true)
    (ha : PySem.W.findIn K (.ref C) name = some none) (hv : mA name = some v) (hv' : PySem.W.handedIn v = true) (h : Q v { s with toks := s.toks + 1 }) :
    wpAny (model prog w) A (getAttr (.ref x) name expr) Q E s := by
  obtain ⟨od, J, hl⟩ := I.look
  exact PySem.W.get_value X J (PySem.W.plainGet_of hg).1 (PySem.W.findObj_own hh ha rfl (by rw [hl, hv])) hv' h

theorem get_meth {pl : Sem Bool} {Q : Value × List Value → Shared → Prop} (X : K.In s.heap) (I : ObjM s.heap x dx C mA) (hg : PySem.W.plainGet K C name = true)
    (hf : PySem.W.findIn K (.ref C) name = some (some (.ref f))) (ht : PySem.W.isFn K (.ref f) = true) (hv : mA name = none) (h : Q (.ref f, [.ref x]) s) :
    wpAny (model prog w) A (getMethod (.ref x) name pl) Q E s := by
  obtain ⟨od, J, hl⟩ := I.look
  exact PySem.W.method_fn X J (PySem.W.plainGet_of hg).1 (PySem.W.plainGet_of hg).2 hf (beq_iff_eq.mp ht) (by show (PySem.W.lookIn name od).map (·.isSome) = some false; rw [hl, hv]; rfl) h

theorem set_map {ns : List Str} {Q : Unit → Shared → Prop} (X : K.In s.heap) (I : ObjM s.heap x dx C mA)
    (hs : PySem.W.findIn K (.ref C) "__setattr__" = some (some (.builtin "object.__setattr__"))) (hp : PySem.W.plainOver K C = true) (ht : PySem.W.takerIn K C name = some none) (hh : PySem.W.hasDictIn K C = true)
    (hw : PySem.Within mA ns) (hsz : ns.length ≤ sizeLine)
    (h : ∀ h', ObjM h' x dx C (fun y => if y = name then some v else mA y) → Heap.SameBut dx s.heap h' → Q () { s with heap := h', toks := s.toks + 2 }) :
    wpAny (model prog w) A (setAttr (.ref x) name v) Q E s := by
  obtain ⟨od, J, hl⟩ := I.look
  refine PySem.W.set_plain X J hs (PySem.W.osa_open (s := { s with toks := s.toks + 1 }) (r := none) X J hp ht fun b => ?_)
  obtain ⟨cd, hc, hd'⟩ := PySem.W.any_some hh
  have hx : s.heap.get? x = some ⟨.ref C, some dx, .plain, #[]⟩ := I.obj
  refine wpAny_bind (wpAny_pure (wpAny_bind (wpAny_bind (wpAny_loadPart hx (wpAny_bind (PySem.W.Looks.here (s := { s with toks := s.toks + 1 }) (PySem.W.looks_clsIn X hc) ?_))))))
  rw [hd']
  refine wpAny_pure (a := some dx) (wpAny_bind (wpAny_pure (wpAny_bind ?_)))
  refine wpAny_nsSet1 (s := { s with toks := s.toks + 1 }) I.ns fun h' hn2 hs2 => ?_
  obtain ⟨oD, esD, epD, hoD, hdD, hcD⟩ := hn2.count (PySem.Within.cons name v hw)
  refine wpAny_bind (wpAny_lookBehind hoD (by rw [hdD]; exact pastItsLine_dict (Nat.le_trans hcD (by rw [List.length_cons]; omega))) ?_)
  exact wpAny_pure (h _ ⟨(hs2.2 _ (Ne.symm I.ne)).trans I.obj, hn2, I.ne⟩ hs2)

/-- C(..): the dict at the heap's end, the instance behind it; then its __init__ -/
theorem make_map {R : Result → Shared → Prop} {vs : List Value} {kw : List (Str × Value)} (X : K.In s.heap) (hm : PySem.W.makesIn K C = true)
    (hi : PySem.W.findIn K (.ref C) "__init__" = some (some (.ref f))) (hf : PySem.W.typeIn K (.ref f) = some (.type "function"))
    (h : codeAny (model prog w) (A.under (.builtin "type.__call__" ⟨.ref C :: vs, kw⟩)) (.call (.ref f) ⟨.ref (s.heap.objs.size + 1) :: vs, kw⟩) (PySem.W.InitBack (s.heap.objs.size + 1) R)
      { s with heap := (s.heap.push PySem.W.emptyDict).push (PySem.W.instObj C s.heap.objs.size) }) :
    codeAny (model prog w) A (.call (.ref C) ⟨vs, kw⟩) R s := by
  obtain ⟨hh, g, d, t, os⟩ := s
  exact PySem.W.make_core (PySem.W.makes_of X hm) (PySem.W.looks_findIn X hi) (fun self => PySem.W.bind_fn X self hf) (.inl rfl) h
end

/-! ### the attributes as a list of pairs -/
def putF (f : Str) (v : V) : List (Str × V) → List (Str × V)
  | [] => [(f, v)]
  | (g, x) :: r => if g = f then (g, v) :: r else (g, x) :: putF f v r
theorem lookup_putF (f g : Str) (v : V) : ∀ fs : List (Str × V), (putF f v fs).lookup g = if g = f then some v else fs.lookup g
  | [] => by
    show List.lookup g [(f, v)] = _
    by_cases h : g = f
    · have hb : (g == f) = true := beq_iff_eq.mpr h
      simp only [List.lookup, hb, if_pos h]
    · have hb : (g == f) = false := beq_eq_false_iff_ne.mpr h
      simp only [List.lookup, hb, if_neg h]
  | (k, x) :: r => by
    have ih := lookup_putF f g v r
    rw [show putF f v ((k, x) :: r) = (if k = f then (k, v) :: r else (k, x) :: putF f v r) from rfl]
    by_cases hk : k = f
    · rw [if_pos hk]
      by_cases h : g = k
      · have hb : (g == k) = true := beq_iff_eq.mpr h
        simp only [List.lookup, hb, if_pos (h.trans hk)]
      · have hb : (g == k) = false := beq_eq_false_iff_ne.mpr h
        simp only [List.lookup, hb, if_neg (fun e : g = f => h (e.trans hk.symm))]
    · rw [if_neg hk]
      by_cases h : g = k
      · have hb : (g == k) = true := beq_iff_eq.mpr h
        simp only [List.lookup, hb, if_neg (fun e : g = f => hk (h.symm.trans e))]
      · have hb : (g == k) = false := beq_eq_false_iff_ne.mpr h
        simp only [List.lookup, hb]
        exact ih
theorem keys_putF (f : Str) (v : V) : ∀ fs : List (Str × V), f ∈ (putF f v fs).map (·.1) ∧ ∀ g, g ∈ fs.map (·.1) → g ∈ (putF f v fs).map (·.1)
  | [] => ⟨by simp [putF], fun g h => by simp at h⟩
  | (k, x) :: r => by
    obtain ⟨i1, i2⟩ := keys_putF f v r
    rw [show putF f v ((k, x) :: r) = (if k = f then (k, v) :: r else (k, x) :: putF f v r) from rfl]
    by_cases hk : k = f
    · rw [if_pos hk]
      subst hk
      exact ⟨by simp, fun g h => by simpa using h⟩
    · rw [if_neg hk]
      refine ⟨?_, fun g h => ?_⟩
      · rw [List.map_cons]
        exact List.mem_cons_of_mem _ i1
      · rw [List.map_cons] at h ⊢
        rcases List.mem_cons.mp h with e | e
        · exact List.mem_cons.mpr (.inl e)
        · exact List.mem_cons_of_mem _ (i2 g e)
theorem length_putF (f : Str) (v : V) : ∀ fs : List (Str × V), (putF f v fs).length ≤ fs.length + 1
  | [] => by simp [putF]
  | (k, x) :: r => by
    have ih := length_putF f v r
    rw [show putF f v ((k, x) :: r) = (if k = f then (k, v) :: r else (k, x) :: putF f v r) from rfl]
    by_cases hk : k = f
    · rw [if_pos hk, List.length_cons, List.length_cons]; omega
    · rw [if_neg hk, List.length_cons, List.length_cons]; omega

theorem RelO.some_of {v : V} {o : Option Value} (r : RelO (some v) o) : ∃ u, o = some u ∧ RelV v u := by
  cases o with
  | none => exact (show False from r).elim
  | some u => exact ⟨u, rfl, r⟩
theorem RelO.none_of {o : Option Value} (r : RelO none o) : o = none := by
  cases o with
  | none => rfl
  | some u => exact (show False from r).elim
theorem handed_of {v : V} {u : Value} (r : RelV v u) : PySem.W.handedIn u = true := by
  cases v with
  | non => cases (show u = Value.none from r); rfl
  | bl b => cases (show u = Value.bool b from r); rfl
  | int i => obtain ⟨t, e⟩ := (show ∃ t, u = Value.int i t from r); cases e; rfl
  | str x => obtain ⟨t, e⟩ := (show ∃ t, u = Value.str x t from r); cases e; rfl
  | byt b => obtain ⟨t, e⟩ := (show ∃ t, u = Value.bytes b t from r); cases e; rfl
  | flt b => obtain ⟨t, e⟩ := (show ∃ t, u = Value.float b t from r); cases e; rfl
  | ref a => cases (show u = Value.ref a from r); rfl
  | ty n => cases (show u = Value.type n from r); rfl

section
variable {P : Program} {w : World} {H H' : Hp} {h h' : Heap} {a C dx : Addr} {fs fs' : List (Str × V)}
theorem ins_get (hok : HOk P w H h) (e : H a = some (.ins C dx fs)) : ∃ mA, ObjM h a dx C mA ∧ (∀ f, RelO (fs.lookup f) (mA f)) ∧ PySem.Within mA (fs.map (·.1)) ∧ fs.length ≤ 1000 ∧ H dx = some (.own a) := by
  obtain ⟨d, z, ne, ob, mA, n, r, q⟩ := (show ObjOk P w H h a (.ins C dx fs) from hok a _ e)
  exact ⟨mA, ⟨ob, n, ne⟩, r, q, z, d⟩
end

/-! ### what of the text a class must have -/
structure Cls (K : PySem.W.Frag) (C : Addr) : Prop where
  pg : PySem.W.plainGet K C Str.empty = true
  hd : PySem.W.hasDictIn K C = true
  po : PySem.W.plainOver K C = true
  sa : PySem.W.findIn K (.ref C) "__setattr__" = some (some (.builtin "object.__setattr__"))
theorem Cls.get {K : PySem.W.Frag} {C : Addr} (c : Cls K C) (f : Str) : PySem.W.plainGet K C f = true := c.pg
/-- no class of it has the name -/
def NoAttr (K : PySem.W.Frag) (C : Addr) (f : Str) : Prop := PySem.W.findIn K (.ref C) f = some none
theorem NoAttr.taker {K : PySem.W.Frag} {C : Addr} {f : Str} (n : NoAttr K C f) : PySem.W.takerIn K C f = some none := by
  unfold PySem.W.takerIn
  rw [show PySem.W.findIn K (.ref C) f = some none from n]
  rfl
/-- a constant of the class -/
structure Con (K : PySem.W.Frag) (C : Addr) (f : Str) (v : V) (u : Value) : Prop where
  at_ : PySem.W.findIn K (.ref C) f = some (some u)
  rel : RelV v u
  get : PySem.W.specialIn K u "__get__" = some none
  cp : PySem.W.copiedNames.contains f = false
/-- a method: a plain def of the class or of one above it -/
structure Meth (K : PySem.W.Frag) (C : Addr) (m : Str) (f : Addr) : Prop where
  at_ : PySem.W.findIn K (.ref C) m = some (some (.ref f))
  fn : PySem.W.isFn K (.ref f) = true
  kp : PySem.W.keepIn K (.ref f) = true

section
variable {X : Cx} {pins : List (Addr × Obj)} {σ : St} {H : Hp} {s : Shared} {a C dx : Addr} {fs : List (Str × V)} {f : Str} {v : V} {A : Around} {E : Value → Shared → Prop}

theorem getattr_ok {b : Bool} {Q : Value → Shared → Prop} (I : Inv X pins σ H s) (e : H a = some (.ins C dx fs)) (c : Cls X.K C) (n : NoAttr X.K C f) (l : fs.lookup f = some v)
    (h : ∀ u s', Inv X pins σ H s' → RelV v u → Q u s') : wpAny (model X.prog X.w) A (getAttr (.ref a) f b) Q E s := by
  obtain ⟨mA, O, r, _, _, _⟩ := ins_get I.hok e
  obtain ⟨u, hu, ru⟩ := RelO.some_of (v := v) (o := mA f) (by rw [← l]; exact r f)
  exact get_map I.kIn O (c.get f) c.hd n hu (handed_of ru) (h u _ (I.tok _) ru)

theorem getmeth_ok {m : Str} {g : Addr} {pl : Sem Bool} {Q : Value × List Value → Shared → Prop} (I : Inv X pins σ H s) (e : H a = some (.ins C dx fs)) (c : Cls X.K C) (k : Meth X.K C m g) (l : fs.lookup m = none)
    (h : Q (.ref g, [.ref a]) s) : wpAny (model X.prog X.w) A (getMethod (.ref a) m pl) Q E s := by
  obtain ⟨mA, O, r, _, _, _⟩ := ins_get I.hok e
  have hn : mA m = none := RelO.none_of (by rw [← l]; exact r m)
  exact get_meth I.kIn O (c.get m) k.at_ k.fn hn h

theorem setattr_ok {y : V} {u : Value} {Q : Unit → Shared → Prop} (I : Inv X pins σ H s) (e : H a = some (.ins C dx fs)) (c : Cls X.K C) (n : NoAttr X.K C f) (hl : fs.length < 1000) (ry : RelV y u)
    (h : ∀ s', Inv X pins σ (upd H a (.ins C dx (putF f y fs))) s' → Q () s') : wpAny (model X.prog X.w) A (setAttr (.ref a) f u) Q E s := by
  obtain ⟨mA, O, r, wi, _, ho⟩ := ins_get I.hok e
  have hz : (fs.map (·.1)).length ≤ sizeLine := by rw [List.length_map, sizeLine_eq]; omega
  refine set_map I.kIn O c.sa c.po n.taker c.hd wi hz fun h' O' sb => h _ ?_
  have hd : ∃ o, h'.get? dx = some o := let ⟨o, _, _, e', _⟩ := O'.ns; ⟨o, e'⟩
  refine I.write (x := a) (e := dx) (by rw [e]; exact True.intro) (.inr ho) (fun b q hb z => (sb.2 b hb).trans z) hd ?_
  refine ⟨by rw [upd_ne O.ne]; exact ho, ?_, O.ne, O'.obj, _, O'.ns, fun g => ?_, fun g hg => ?_⟩
  · have := length_putF f y fs; omega
  · show RelO ((putF f y fs).lookup g) (if g = f then some u else mA g)
    rw [lookup_putF]
    by_cases q : g = f
    · rw [if_pos q, if_pos q]; exact ry
    · rw [if_neg q, if_neg q]; exact r g
  · by_cases q : g = f
    · rw [q]; exact (keys_putF f y fs).1
    · refine (keys_putF f y fs).2 g (wi g fun z => hg ?_)
      show (if g = f then some u else mA g) = none
      rw [if_neg q]; exact z

/-- a new instance, tracked, without attributes -/
theorem Inv.made (I : Inv X pins σ H s) : Inv X pins σ (upd (upd H s.heap.objs.size (.own (s.heap.objs.size + 1))) (s.heap.objs.size + 1) (.ins C s.heap.objs.size []))
    { s with heap := (s.heap.push PySem.W.emptyDict).push (PySem.W.instObj C s.heap.objs.size) } := by
  have e1 : (s.heap.push PySem.W.emptyDict).get? s.heap.objs.size = some PySem.W.emptyDict := Heap.get?_push_size s.heap rfl
  have e2 : ((s.heap.push PySem.W.emptyDict).push (PySem.W.instObj C s.heap.objs.size)).get? (s.heap.objs.size + 1) = some (PySem.W.instObj C s.heap.objs.size) := by
    have := Heap.get?_push_size (s.heap.push PySem.W.emptyDict) (o := PySem.W.instObj C s.heap.objs.size) rfl
    rwa [Heap.size_push] at this
  have e3 : (s.heap.push PySem.W.emptyDict).Ns s.heap.objs.size (fun _ => none) := ⟨PySem.W.emptyDict, #[], _, e1, rfl, (fun e he => absurd he (by simp)), fun _ => rfl⟩
  have I1 := I.laid (a := s.heap.objs.size) (o := .own (s.heap.objs.size + 1)) (h' := s.heap.push PySem.W.emptyDict) (t' := s.toks) (fun b u q => Heap.get?_push_of_some _ q) (Nat.le_refl _) ⟨_, e1⟩
  refine I1.laid (a := s.heap.objs.size + 1) (o := .ins C s.heap.objs.size []) (t' := s.toks) (fun b u q => Heap.get?_push_of_some _ q) (Nat.le_of_eq (Heap.size_push _ _)) ?_
  have ne : s.heap.objs.size ≠ s.heap.objs.size + 1 := Nat.ne_of_lt (Nat.lt_succ_self _)
  refine ⟨by rw [upd_ne ne, upd_same], Nat.zero_le _, ne, e2, fun _ => none, (Heap.Ns1.of_empty e3).at fun o q => Heap.get?_push_of_some _ q, fun _ => True.intro, fun y hy => absurd rfl hy⟩

/-- e.f where nothing but the object is asked: through attributeBase (super) and the last hold -/
theorem attr_of {prog : Program} {w : World} {env : Env} {e : Expr} {f : Str} {pos : Pos} {s : Shared} {Q : Value → Shared → Prop} (hb : attributeBase e f env (eval e env) = eval e env)
    (h : wpAny (model prog w) A (eval e env) (fun o s₁ => wpAny (model prog w) A (getAttr o f true) Q E s₁) E s) : wpAny (model prog w) A (eval (.Attribute e f pos) env) Q E s :=
  Attribute_any_ h (by rw [arm_eval_Attribute, hb])
end

/-! ### readings and rules -/
/-- e.f, an attribute of the instance -/
def tFld (K : PySem.W.Frag) (ta : TE) (f : Str) : TE := fun σ H Q => ta σ H fun x H1 => ∃ a C dx fs v, x = .ref a ∧ H1 a = some (.ins C dx fs) ∧ Cls K C ∧ NoAttr K C f ∧ fs.lookup f = some v ∧ Q v H1
/-- e.f = value -/
def sFld (K : PySem.W.Frag) (ta tv : TE) (f : Str) : TS := fun D σ H => tv σ H fun y H1 => ta σ H1 fun x H2 => ∃ a C dx fs, x = .ref a ∧ H2 a = some (.ins C dx fs) ∧ Cls K C ∧ NoAttr K C f ∧ fs.length < 1000 ∧
  D.nx σ (upd H2 a (.ins C dx (putF f y fs)))
section
variable {X : Cx} {o e value : Expr} {f : Str} {pos pos' tpos : Pos} {ta tv : TE}
theorem pe_fld (he : PE X e ta) (hb : attributeBase e f X.env (eval e X.env) = eval e X.env) : PE X (.Attribute e f pos) (tFld X.K ta f) := by
  intro pins s σ H Q I h
  refine attr_of hb (thn (he pins s σ H _ I h) fun u s1 ⟨x, H1, I1, rx, a, C, dx, fs, v, ex, ea, c, n, l, q⟩ => ?_)
  subst ex
  obtain rfl : u = Value.ref a := rx
  exact getattr_ok I1 ea c n l fun u' s2 I2 ru => ⟨v, H1, I2, ru, q⟩
theorem ps_fld (ha : PE X o ta) (hv : PE X value tv) (hs : swapsWith value (some (.Attribute o f pos')) pos.line X.env = pure false) : PS X (.Assign [.Attribute o f pos'] value pos) (sFld X.K ta tv f) := by
  intro pins s σ H D I h
  refine plainObj_wpAny_Assign_Attribute (thn (hv pins s σ H _ I h) fun u s1 ⟨y, H1, I1, ry, q⟩ => thn (ha pins s1 σ H1 _ I1 q) fun ov s2 ⟨x, H2, I2, rx, a, C, dx, fs, ex, ea, c, n, l, q2⟩ => ?_) hs
  subst ex
  obtain rfl : ov = Value.ref a := rx
  exact setattr_ok I2 ea c n l ry fun s3 I3 => ⟨σ, _, I3, q2⟩
end

/-! ### isinstance -/
section
variable {X : Cx} {pins : List (Addr × Obj)} {σ : St} {H : Hp} {s : Shared} {A : Around} {E : Value → Shared → Prop} {Q : Value → Shared → Prop} {c : Value} {b : Bool}
/-- the type of a value, as the fragment's deciders take it; for an instance its class -/
inductive TyOf (K : PySem.W.Frag) (H : Hp) : V → Value → Prop where
  | non : TyOf K H .non (.type "NoneType")
  | bl (x : Bool) : TyOf K H (.bl x) (.type "bool")
  | int (i : Int) : TyOf K H (.int i) (.type "int")
  | str (x : Str) : TyOf K H (.str x) (.type "str")
  | flt (x : UInt64) : TyOf K H (.flt x) (.type "float")
  | lst {a : Addr} {xs : List V} (e : H a = some (.lst xs)) : TyOf K H (.ref a) (.type "list")
  | frz {a : Addr} {o : Obj} {xs : List V} (e : H a = some (.frz o (.lst xs))) : TyOf K H (.ref a) (.type "list")
  | tup {a : Addr} {xs : List V} (e : H a = some (.tup xs)) : TyOf K H (.ref a) (.type "tuple")
  | dK {a : Addr} {kvs : List (Key × V)} (e : H a = some (.dK kvs)) : TyOf K H (.ref a) (.type "dict")
  | dT {a : Addr} {kvs : List (List Key × V)} (e : H a = some (.dT kvs)) : TyOf K H (.ref a) (.type "dict")
  | ins {a C dx : Addr} {fs : List (Str × V)} (e : H a = some (.ins C dx fs)) (cl : Cls K C) (ha : PySem.W.findIn K (.ref C) "__class__" = some (some (.builtin "object.__class__")))
      (hn : PySem.W.specialIn K (.builtin "object.__class__") "__get__" = some (some (.builtin "getset_descriptor.__get__"))) (htk : PySem.W.takesIn K (.builtin "object.__class__") = some true)
      (hm : PySem.W.mroIn K C (.type "object") = some true) : TyOf K H (.ref a) (.ref C)
/-- isinstance(x, c) for one class c, a built-in or an own one: kitOne's answer -/
theorem isinst_ok {x : V} {u t : Value} (I : Inv X pins σ H s) (rx : RelV x u) (ty : TyOf X.K H x t) (e : PySem.W.kitOne X.K t c = some b) (h : ∀ tk, Q (.bool b) { s with toks := tk }) :
    wpAny (model X.prog X.w) A (call (.builtin "isinstance") [u, c]) Q E s := by
  cases ty with
  | non => cases (show u = Value.none from rx); exact PySem.W.kia_one PySem.W.kitx_none I.kIn True.intro e (fun z => nomatch z) h
  | bl y => cases (show u = Value.bool y from rx); exact PySem.W.kia_one PySem.W.kitx_bool I.kIn True.intro e (fun z => nomatch z) h
  | int i => obtain ⟨t, q⟩ := (show ∃ t, u = Value.int i t from rx); cases q; exact PySem.W.kia_one PySem.W.kitx_int I.kIn True.intro e (fun z => nomatch z) h
  | str y => obtain ⟨t, q⟩ := (show ∃ t, u = Value.str y t from rx); cases q; exact PySem.W.kia_one PySem.W.kitx_str I.kIn True.intro e (fun z => nomatch z) h
  | flt y => obtain ⟨t, q⟩ := (show ∃ t, u = Value.float y t from rx); cases q; exact PySem.W.kia_one PySem.W.kitx_float I.kIn True.intro e (fun z => nomatch z) h
  | @lst a xs ea =>
    cases (show u = Value.ref a from rx)
    obtain ⟨_, _, n, _, h1⟩ := (show ObjOk X.prog X.w H s.heap a (.lst xs) from I.hok a _ ea)
    exact PySem.W.kia_one PySem.W.kitx_list I.kIn ⟨_, h1, rfl⟩ e (fun z => nomatch z) h
  | @frz a ob xs ea =>
    cases (show u = Value.ref a from rx)
    obtain ⟨_, _, _, n, _, h1⟩ := (show ObjOk X.prog X.w H s.heap a (.frz ob (.lst xs)) from I.hok a _ ea)
    exact PySem.W.kia_one PySem.W.kitx_list I.kIn ⟨_, h1, rfl⟩ e (fun z => nomatch z) h
  | @tup a xs ea =>
    cases (show u = Value.ref a from rx)
    obtain ⟨_, _, _, p⟩ := (show ObjOk X.prog X.w H s.heap a (.tup xs) from I.hok a _ ea)
    obtain ⟨o, h1, h2, _⟩ := p
    exact PySem.W.kia_one PySem.W.kitx_tuple I.kIn ⟨o, h1, h2⟩ e (fun z => nomatch z) h
  | @dK a kvs ea =>
    cases (show u = Value.ref a from rx)
    obtain ⟨_, _, vs, _, p⟩ := (show ObjOk X.prog X.w H s.heap a (.dK kvs) from I.hok a _ ea)
    obtain ⟨o, es, ep, h1, h2, _⟩ := p
    exact PySem.W.kia_one PySem.W.kitx_dict I.kIn ⟨o, h1, h2.1⟩ e (fun z => nomatch z) h
  | @dT a kvs ea =>
    cases (show u = Value.ref a from rx)
    obtain ⟨_, _, xs, _, o, es, ep, h1, h2, _⟩ := (show ObjOk X.prog X.w H s.heap a (.dT kvs) from I.hok a _ ea)
    exact PySem.W.kia_one PySem.W.kitx_dict I.kIn ⟨o, h1, h2.1⟩ e (fun z => nomatch z) h
  | @ins a C dx fs ea cl ha hn htk hm =>
    cases (show u = Value.ref a from rx)
    obtain ⟨mA, O, _⟩ := ins_get I.hok ea
    obtain ⟨od, J, _⟩ := O.look
    exact PySem.W.kia_one (PySem.W.kitx_own (cl.get _) cl.hd ha hn htk hm) I.kIn J e (fun z => nomatch z) h
end
end L2

namespace L2
open PySem PySem.Spec PyProof.Rows

/-! ### room -/
structure Room (k : Nat) (A : Around) : Prop where
  hd : A.handled = none
  dp : A.depth + 3 * k + 5 < recursionLimit
  un : A.units + 16 * k + 200 < cLine
theorem Room.mono {j k : Nat} {A : Around} (r : Room k A) (h : j ≤ k) : Room j A := ⟨r.hd, by have := r.dp; omega, by have := r.un; omega⟩
theorem Room.deeper {k : Nat} {A : Around} (r : Room (k + 1) A) (env : Env) : Room k (A.deeper env) :=
  ⟨r.hd, by have := r.dp; show A.depth + 1 + 3 * k + 5 < _; omega, by have := r.un; show A.units + 3 + 16 * k + 200 < _; omega⟩
theorem Room.in1 {k : Nat} {A : Around} (r : Room (k + 1) A) : Room k A.in1 :=
  ⟨r.hd, by have := r.dp; show A.depth + 3 * k + 5 < _; omega, by have := r.un; show A.units + 1 + 16 * k + 200 < _; omega⟩
theorem make_depth {A : Around} {C : Addr} {us : List Value} {kw : List (Str × Value)} : (A.under (.builtin "type.__call__" ⟨.ref C :: us, kw⟩)).depth = A.depth + 1 := by
  first | rfl | simp [Around.under, Code.weight, Code.isCreation, Code.isGuard, Code.isCaller, Code.frames, Code.isFrame, guardIds]
theorem make_units {A : Around} {C : Addr} {us : List Value} {kw : List (Str × Value)} : (A.under (.builtin "type.__call__" ⟨.ref C :: us, kw⟩)).units = A.units + 1 := by
  first | rfl | simp [Around.under, Code.cUnits, Code.frames, Code.isFrame]
theorem Room.make {k : Nat} {A : Around} (r : Room (k + 1) A) (C : Addr) (us : List Value) (kw : List (Str × Value)) : Room k (A.under (.builtin "type.__call__" ⟨.ref C :: us, kw⟩)) :=
  ⟨r.hd, by have := r.dp; rw [make_depth]; omega, by have := r.un; rw [make_units]; omega⟩
theorem Room.depth {k : Nat} {A : Around} (r : Room k A) : A.depth < recursionLimit := by have := r.dp; omega
theorem Room.units {k : Nat} {A : Around} (r : Room k A) : A.units + 64 < cLine := by have := r.un; omega
/-! ### argument lists and displays -/
def tNil : TA := fun _ H Q => Q [] H
def tCons (ta : TE) (tr : TA) : TA := fun σ H Q => ta σ H fun x H1 => tr σ H1 fun xs H2 => Q (x :: xs) H2
section
variable {X : Cx} {e : Expr} {es : List Expr} {te : TE} {t : TA} {pos : Pos}
theorem pa_nil : PA X [] tNil := fun _ _ _ _ H Q I h => Calls.spliced_nil ⟨[], H, I, .nil, h⟩
theorem pa_cons (ha : PE X e te) (hr : PA X es t) (hs : starEach (e :: es) X.env = (false, eval e X.env) :: starEach es X.env := by rfl) : PA X (e :: es) (tCons te t) := by
  intro pos pins s σ H Q I h
  rw [hs]
  show wpAny _ _ (spliced ((false, eval e X.env) :: backTo pos (starEach es X.env))) _ _ s
  refine Calls.spliced_cons (thn (ha pins s σ H _ I h) fun u s1 ⟨x, H1, I1, r1, q1⟩ => ?_)
  exact thn (hr pos pins s1 σ H1 _ I1 q1) fun us s2 ⟨xs, H2, I2, r2, q2⟩ => ⟨x :: xs, H2, I2, .cons r1 r2, q2⟩

/-- a tuple, a list of written items -/
def tTup (t : TA) : TE := fun σ H Q => t σ H fun xs H1 => xs.length ≤ sizeLine ∧ ∀ p, H1 p = none → Q (.ref p) (upd H1 p (.tup xs))
def tLst (t : TA) : TE := fun σ H Q => t σ H fun xs H1 => xs.length ≤ sizeLine ∧ ∀ p, H1 p = none → Q (.ref p) (upd H1 p (.lst xs))
theorem pe_tup {x1} (h : PA X es t) : PE X (.Tuple es x1 pos) (tTup t) := by
  intro pins s σ H Q I hq
  refine wpAny_Tuple_spliced (thn (h pos pins s σ H _ I hq) fun us s1 ⟨xs, H1, I1, r, z, q⟩ => ⟨by rw [← r.length]; exact z, ?_⟩)
  have hf : H1 s1.heap.objs.size = none := I1.hok.fresh (Nat.le_refl _)
  refine ⟨.ref s1.heap.objs.size, upd H1 s1.heap.objs.size (.tup xs), I1.laid (t' := s1.toks) (fun b u e => Heap.get?_push_of_some _ e) (Nat.le_refl _) ?_, rfl, q _ hf⟩
  exact ⟨z, us, r, ⟨_, Heap.get?_push_size _ rfl, rfl, _, rfl⟩⟩
theorem pe_lst (h : PA X es t) : PE X (.List es pos) (tLst t) := by
  intro pins s σ H Q I hq
  refine wpAny_List_spliced (thn (h pos pins s σ H _ I hq) fun us s1 ⟨xs, H1, I1, r, z, q⟩ => ⟨by rw [← r.length]; exact z, ?_⟩)
  have hf : H1 s1.heap.objs.size = none := I1.hok.fresh (Nat.le_refl _)
  refine ⟨.ref s1.heap.objs.size, upd H1 s1.heap.objs.size (.lst xs), I1.laid (t' := s1.toks) (fun b u e => Heap.get?_push_of_some _ e) (Nat.le_refl _) ?_, rfl, q _ hf⟩
  exact ⟨z, us, 0, r, Heap.get?_push_size _ rfl⟩
end

/-! ### what a def promises -/
/-- a def's promise: the bound arguments in the parameters' order, the heap, the wanted end, the wanted exception -/
abbrev Sp := List V → Hp → VK → XK → Prop
/-- how an exception lies behind a call (file 08 gives it): the callers' frames, abstract heap and state ahead of the call, the wish, the exception, the state -/
abbrev CXT := List Env → Hp → Shared → XK → Value → Shared → Prop

/-- the state at a call -/
structure Env0 (P : Program) (w : World) (K : PySem.W.Frag) (mg : Str → Option Value) (base : Heap) (A : Around) (outer : List Env) (s : Shared) (H : Hp) : Prop where
  frames : A.frames = some outer
  mod : Mod K mg base
  bs : ∀ b o, base.get? b = some o → s.heap.get? b = some o ∧ H b = none
  bsz : base.objs.size ≤ s.heap.objs.size
  funs : s.heap.FunFrames base outer
  frf : ∀ b ∈ frs outer, H b = none
  hok : HOk P w H s.heap
  bare : AllBare s.gens
/-- a call's end -/
def CE (outer : List Env) (P : Program) (w : World) (H : Hp) (s : Shared) (Q : VK) (u : Value) (s' : Shared) : Prop :=
  ∃ v H', s'.os = s.os ∧ AllBare s'.gens ∧ Un (frs outer) [] H H' s.heap s'.heap ∧ HOk P w H' s'.heap ∧ RelV v u ∧ Q v H'
def CR (CX : CXT) (outer : List Env) (P : Program) (w : World) (H : Hp) (s : Shared) (Q : VK) (E : XK) (r : Result) (s' : Shared) : Prop :=
  match r with
  | .ok (.ret u) => CE outer P w H s Q u s'
  | .ok _ => False
  | .error e => CX outer H s E e s'
structure FnOk (P : Program) (w : World) (K : PySem.W.Frag) (mg : Str → Option Value) (base : Heap) (CX : CXT) (k : Nat) (f : Addr) (fd : FuncData) (ps : List Str) (sp : Sp) : Prop where
  len : ∀ vs H Q E, sp vs H Q E → vs.length = ps.length
  run : ∀ (A : Around) (outer : List Env) (s : Shared) (H : Hp) (args : Args) (us : List Value) (vs : List V) (Q : VK) (E : XK), Room k A → Env0 P w K mg base A outer s H → BindsTo s fd args (ps.zip us) → Vals vs us → sp vs H Q E →
    codeAny (model P w) A (.call (.ref f) args) (CR CX outer P w H s Q E) s
theorem FnOk.mono {P : Program} {w : World} {K : PySem.W.Frag} {mg : Str → Option Value} {base : Heap} {CX : CXT} {j k : Nat} {f : Addr} {fd : FuncData} {ps : List Str} {sp : Sp} (F : FnOk P w K mg base CX j f fd ps sp) (h : j ≤ k) :
    FnOk P w K mg base CX k f fd ps sp := ⟨F.len, fun A outer s H args us vs Q E hr => F.run A outer s H args us vs Q E (hr.mono h)⟩
theorem Env0.make {P : Program} {w : World} {K : PySem.W.Frag} {mg : Str → Option Value} {base : Heap} {A : Around} {outer : List Env} {s : Shared} {H : Hp} (e : Env0 P w K mg base A outer s H) (C : Addr) (us : List Value) (kw : List (Str × Value)) :
    Env0 P w K mg base (A.under (.builtin "type.__call__" ⟨.ref C :: us, kw⟩)) outer s H := ⟨by first | exact e.frames | (simpa [Around.under, Code.envs, Code.isFrame, pushEnvs] using e.frames), e.mod, e.bs, e.bsz, e.funs, e.frf, e.hok, e.bare⟩
theorem Env0.in1 {P : Program} {w : World} {K : PySem.W.Frag} {mg : Str → Option Value} {base : Heap} {A : Around} {outer : List Env} {s : Shared} {H : Hp} (e : Env0 P w K mg base A outer s H) :
    Env0 P w K mg base A.in1 outer s H := ⟨e.frames, e.mod, e.bs, e.bsz, e.funs, e.frf, e.hok, e.bare⟩

section
variable {X : Cx} {pins : List (Addr × Obj)} {σ : St} {H : Hp} {s s' : Shared}
/-- from a body: what a callee wants -/
theorem Inv.env0 (I : Inv X pins σ H s) : Env0 X.prog X.w X.K X.mg X.base X.A X.stack s H :=
  ⟨I.ok.frames, I.ok.mod, I.bs, Nat.le_trans I.ok.bsz I.sz, I.stack, I.stkFree, I.hok, I.bare⟩
/-- behind a call -/
theorem Inv.after {Q : VK} {u : Value} (I : Inv X pins σ H s) (h : CE X.stack X.prog X.w H s Q u s') : EP X pins σ Q u s' := by
  obtain ⟨v, H', os, bare, un, hok, r, q⟩ := h
  obtain ⟨hh, g, d, t, os'⟩ := s'
  obtain rfl : os' = s.os := os
  exact ⟨v, H', I.call (h' := hh) (g' := g) (d' := d) (t' := t) (ch := []) un hok bare (fun b z => absurd z (by simp)), r, q⟩
end

/-! ### calls -/
/-- f(..): the written arguments, then the defaults dvs; E: what is wanted of an exception -/
def tCall (sp : Sp) (dvs : List V) (E : XK) (t : TA) : TE := fun σ H Q => t σ H fun vs H1 => sp (vs ++ dvs) H1 Q E
/-- o.m(..) of an instance of the class at C -/
def tMeth (C : Addr) (m : Str) (sp : Sp) (dvs : List V) (E : XK) (ta : TE) (t : TA) : TE := fun σ H Q => ta σ H fun x H1 => ∃ a dx fs, x = .ref a ∧ H1 a = some (.ins C dx fs) ∧ fs.lookup m = none ∧
  t σ H1 fun vs H2 => sp (x :: (vs ++ dvs)) H2 Q E
/-- how the parameters are bound: us the positional arguments, kw the keywords' values by name, ds the defaults that fill up -/
def Binds (K : PySem.W.Frag) (fd : FuncData) (ps : List Str) (ds : List Value) : Prop :=
  ∀ (s : Shared) (us : List Value), K.In s.heap → (us ++ ds).length = ps.length → BindsTo s fd ⟨us, []⟩ (ps.zip (us ++ ds))
/-- every parameter is given -/
theorem Binds.all {K : PySem.W.Frag} {fd : FuncData} {ps : List Str} (h : ∀ us : List Value, us.length = ps.length → bindArgs fd ⟨us, []⟩ = pure (ps.zip us)) : Binds K fd ps [] := fun s us _ hl => by
  rw [List.append_nil] at hl ⊢
  exact .of_eq (h us hl)

/-- an exception of a callee reaches what this body wants of exceptions -/
def Passes (CX : CXT) (X : Cx) (E : XK) : Prop := ∀ (pins : List (Addr × Obj)) (σ : St) (H : Hp) (s : Shared) (e : Value) (s' : Shared), Inv X pins σ H s → CX X.stack H s E e s' → X.xe e s'

section
variable {X : Cx} {CX : CXT} {k : Nat} {f C : Addr} {fd : FuncData} {ps : List Str} {sp : Sp} {dvs : List V} {ds : List Value} {E : XK} {x m : Str} {p pos apos : Pos} {e o : Expr} {es : List Expr} {ta : TE} {t : TA}

/-- the callee runs -/
theorem run_fn {pins : List (Addr × Obj)} {σ : St} {H : Hp} {s : Shared} {Q : VK} {us : List Value} {vs : List V} (F : FnOk X.prog X.w X.K X.mg X.base CX k f fd ps sp) (hr : Room k X.A) (hb : Binds X.K fd ps ds) (hd : Vals dvs ds) (hx : Passes CX X E)
    (I : Inv X pins σ H s) (r : Vals vs us) (h : sp (vs ++ dvs) H Q E) : wpAny (model X.prog X.w) X.A (call (.ref f) us) (EP X pins σ Q) X.xe s := by
  have r2 : Vals (vs ++ dvs) (us ++ ds) := r.append hd
  have hl : (us ++ ds).length = ps.length := by rw [← r2.length]; exact F.len _ _ _ _ h
  refine wpAny_call (codeAny_mono (F.run X.A X.stack s H ⟨us, []⟩ (us ++ ds) (vs ++ dvs) Q E hr I.env0 (hb s us I.kIn hl) r2 h) fun r s' hq => ?_)
  cases r with
  | error e => exact hx pins σ H s e s' I hq
  | ok fl =>
    cases fl with
    | ret u => exact I.after hq
    | next => exact False.elim hq
    | brk => exact False.elim hq
    | cont => exact False.elim hq

theorem pe_call (F : FnOk X.prog X.w X.K X.mg X.base CX k f fd ps sp) (hr : Room k X.A) (hg : Gl X x) (hm : X.mg x = some (.ref f)) (hk : PySem.W.keepIn X.K (.ref f) = true) (hb : Binds X.K fd ps ds) (hd : Vals dvs ds) (hx : Passes CX X E)
    (ha : PA X (e :: es) t) (hdb : (x == ("__debug__" : Str)) = false := by decide) (he : starEach (e :: es) X.env = (false, eval e X.env) :: starEach es X.env := by rfl) (hpl : (backTo pos (starEach es X.env)).any (·.1) = false := by rfl) :
    PE X (.Call (.Name x p) (e :: es) [] pos) (tCall sp dvs E t) := by
  intro pins s σ H Q I h
  refine wpAny_Call_Name_kw (ld_glob I hg hm ?_ hdb)
  refine PySem.W.callWith_K (h₀ := X.base) I.ok.mod.kin hk (thn (ha pos pins s σ H _ I h) fun us s1 ⟨vs, H1, I1, r, q⟩ => ⟨I1.kIn, ?_⟩) he hpl
  exact run_fn F hr hb hd hx I1 r q
/-- o.m(e, ..) -/
theorem pe_meth {pl : Sem Bool} (he : PE X o ta) (c : Cls X.K C) (hm : Meth X.K C m f) (F : FnOk X.prog X.w X.K X.mg X.base CX k f fd ps sp) (hr : Room k X.A) (hb : Binds X.K fd ps ds) (hd : Vals dvs ds) (hx : Passes CX X E) (ha : PA X (e :: es) t)
    (hst : starEach (e :: es) X.env = (false, eval e X.env) :: starEach es X.env := by rfl) (hpl : (backTo pos (starEach es X.env)).any (·.1) = false := by rfl)
    (ht : eval (.Call (.Attribute o m apos) (e :: es) [] pos) X.env = (do
      let ov ← eval o X.env
      standAt apos.atName
      let (f, first) ← holding [ov] (getMethod ov m pl)
      callWith pos f first (backTo pos (starEach (e :: es) X.env)) (backToKw pos (keywordEach [] X.env))) := by rfl) :
    PE X (.Call (.Attribute o m apos) (e :: es) [] pos) (tMeth C m sp dvs E ta t) := by
  intro pins s σ H Q I h
  refine PySem.W.methodCall_KW (pl := pl) (thn (he pins s σ H _ I h) fun u s1 ⟨x, H1, I1, rx, a, dx, fs, ex, ea, l, q⟩ => ?_) ht
  subst ex
  obtain rfl : u = Value.ref a := rx
  refine getmeth_ok I1 ea c hm l ?_
  refine PySem.W.callWith_K (first := [.ref a]) (h₀ := X.base) I.ok.mod.kin hm.kp (thn (ha pos pins s1 σ H1 _ I1 q) fun us s2 ⟨vs, H2, I2, r, q2⟩ => ⟨I2.kIn, ?_⟩) hst hpl
  exact run_fn (us := .ref a :: us) (vs := .ref a :: vs) F hr hb hd hx I2 (.cons rfl r) q2
/-- o.m() -/
theorem pe_meth0 {pl : Sem Bool} (he : PE X o ta) (c : Cls X.K C) (hm : Meth X.K C m f) (F : FnOk X.prog X.w X.K X.mg X.base CX k f fd ps sp) (hr : Room k X.A) (hb : Binds X.K fd ps ds) (hd : Vals dvs ds) (hx : Passes CX X E)
    (ht : eval (.Call (.Attribute o m apos) [] [] pos) X.env = (do
      let ov ← eval o X.env
      standAt apos.atName
      let (f, first) ← holding [ov] (getMethod ov m pl)
      callWith pos f first (backTo pos (starEach [] X.env)) (backToKw pos (keywordEach [] X.env))) := by rfl) :
    PE X (.Call (.Attribute o m apos) [] [] pos) (tMeth C m sp dvs E ta tNil) := by
  intro pins s σ H Q I h
  refine PySem.W.methodCall_KW (pl := pl) (thn (he pins s σ H _ I h) fun u s1 ⟨x, H1, I1, rx, a, dx, fs, ex, ea, l, q⟩ => ?_) ht
  subst ex
  obtain rfl : u = Value.ref a := rx
  refine getmeth_ok I1 ea c hm l ?_
  exact PySem.W.callWith_K0 (first := [.ref a]) I1.kIn hm.kp (run_fn (us := [.ref a]) (vs := [.ref a]) F hr hb hd hx I1 (.cons rfl .nil) q)

/-- what a class must have to be made -/
structure Mk (K : PySem.W.Frag) (C f : Addr) : Prop where
  makes : PySem.W.makesIn K C = true
  init : PySem.W.findIn K (.ref C) "__init__" = some (some (.ref f))
  fn : PySem.W.isFn K (.ref f) = true
  kp : PySem.W.keepIn K (.ref C) = true

end

/-! ### keywords -/
section
variable {X : Cx} {CX : CXT} {k : Nat} {f C : Addr} {fd : FuncData} {ps ks : List Str} {sp : Sp} {E : XK} {x m : Str} {p pos apos kpos : Pos} {e o : Expr} {es : List Expr} {kws : List Keyword} {te ta : TE} {t tk : TA} {nm : Option Str}
/-- how a call with keywords binds: g puts the positional values us and the keywords' values ws (names ks) in the parameters' order, defaults among them -/
structure KBinds (K : PySem.W.Frag) (fd : FuncData) (ps ks : List Str) (g : List Value → List Value → List Value) (gV : List V → List V → List V) : Prop where
  to : ∀ (s : Shared) (us ws : List Value), K.In s.heap → (g us ws).length = ps.length → BindsTo s fd ⟨us, ks.zip ws⟩ (ps.zip (g us ws))
  rel : ∀ {vs : List V} {us : List Value} {zs : List V} {ws : List Value}, Vals vs us → Vals zs ws → Vals (gV vs zs) (g us ws)
variable {g : List Value → List Value → List Value} {gV : List V → List V → List V}
end

/-! ### a def's body keeps its promise -/
/-- names: the parameters first -/
structure FnScope (N P : List Str) (sc : Scope) : Prop where
  kind : sc.kind = .function
  co : sc.isCoroutine = false
  gen : sc.isGenerator = false
  nd : N.Nodup
  pre : N.take P.length = P
  par : ∀ x ∈ P, sc.names.lookup x = some .local ∨ sc.names.lookup x = some .cell
  nofree : ∀ y ∈ sc.names, y.2 ≠ .free

theorem bindL_out {kindOf : Str → Option NameKind} {x : Str} : ∀ {binds : List (Str × Value)} {m : Str → Option Value}, (∀ v, (x, v) ∉ binds) → bindL kindOf binds m x = m x
  | [], _, _ => rfl
  | (n, v) :: r, m, h => by
    unfold bindL
    rw [bindL_out fun w hw => h w (List.mem_cons_of_mem _ hw)]
    split
    · have : x ≠ n := by rintro rfl; exact h v List.mem_cons_self
      simp [this]
    · rfl
theorem bindC_out {kindOf : Str → Option NameKind} {x : Str} : ∀ {binds : List (Str × Value)} {m : Str → Option Value}, (∀ v, (x, v) ∉ binds) → bindC kindOf binds m x = m x
  | [], _, _ => rfl
  | (n, v) :: r, m, h => by
    unfold bindC
    rw [bindC_out fun w hw => h w (List.mem_cons_of_mem _ hw)]
    split
    · rfl
    · have : x ≠ n := by rintro rfl; exact h v List.mem_cons_self
      simp [this]
theorem bindL_get {kindOf : Str → Option NameKind} {x : Str} {v : Value} : ∀ {P : List Str} {vs : List Value} {i : Nat} {m : Str → Option Value}, P.Nodup → P[i]? = some x → vs[i]? = some v → kindOf x = some .local →
    bindL kindOf (P.zip vs) m x = some v
  | [], _, _, _, _, h, _, _ => by simp at h
  | _ :: _, [], _, _, _, _, h, _ => by simp at h
  | p :: P, w :: vs, 0, m, nd, h1, h2, hk => by
    simp at h1 h2; subst h1; subst h2
    show bindL kindOf ((p, w) :: P.zip vs) m p = _
    unfold bindL
    rw [bindL_out fun v hv => (List.nodup_cons.mp nd).1 (List.of_mem_zip hv).1, if_pos hk]
    simp
  | p :: P, w :: vs, i + 1, m, nd, h1, h2, hk => by
    show bindL kindOf ((p, w) :: P.zip vs) m x = _
    unfold bindL
    exact bindL_get (i := i) (List.nodup_cons.mp nd).2 (by simpa using h1) (by simpa using h2) hk
theorem bindC_get {kindOf : Str → Option NameKind} {x : Str} {v : Value} : ∀ {P : List Str} {vs : List Value} {i : Nat} {m : Str → Option Value}, P.Nodup → P[i]? = some x → vs[i]? = some v → kindOf x ≠ some .local →
    bindC kindOf (P.zip vs) m x = some v
  | [], _, _, _, _, h, _, _ => by simp at h
  | _ :: _, [], _, _, _, _, h, _ => by simp at h
  | p :: P, w :: vs, 0, m, nd, h1, h2, hk => by
    simp at h1 h2; subst h1; subst h2
    show bindC kindOf ((p, w) :: P.zip vs) m p = _
    unfold bindC
    rw [bindC_out fun v hv => (List.nodup_cons.mp nd).1 (List.of_mem_zip hv).1, if_neg hk]
    simp
  | p :: P, w :: vs, i + 1, m, nd, h1, h2, hk => by
    show bindC kindOf ((p, w) :: P.zip vs) m x = _
    unfold bindC
    exact bindC_get (i := i) (List.nodup_cons.mp nd).2 (by simpa using h1) (by simpa using h2) hk

/-- the names' values at the entry -/
def start (N : List Str) (vs : List V) : St := vs.map some ++ List.replicate (N.length - vs.length) none

/-- the context of a def's body, at its entry; an exception leaves the frame, then lies as CX says -/
def cxOf (CX : CXT) (P : Program) (w : World) (K : PySem.W.Frag) (mg : Str → Option Value) (base : Heap) (N : List Str) (qual : Str) (scope : Scope) (f : Addr) (cd : Value) (A : Around) (outer : List Env) (s : Shared) (H : Hp) (E : XK) : Cx where
  prog := P
  w := w
  K := K
  mg := mg
  base := base
  A := A.deeper (envOfC qual scope s.heap.objs.size f cd)
  N := N
  s₀ := s
  H₀ := H
  env := envOfC qual scope s.heap.objs.size f cd
  outer := outer
  stack := envOfC qual scope s.heap.objs.size f cd :: outer
  ex := []
  calm := true
  fn := fun _ => true
  pn := []
  xe := fun e s' => wpAny (model P w) (A.deeper (envOfC qual scope s.heap.objs.size f cd)) (leaving (envOfC qual scope s.heap.objs.size f cd) e) (fun _ s'' => CX outer H s E e s'') (fun e' s'' => CX outer H s E e' s'') s'

theorem cell_has {sc : Scope} {n : Nat} {x : Str} (h : sc.names.lookup x = some .cell) : ∃ c, (cellsFrom n sc.names []).lookup x = some c := by
  have q := PySem.W.cellsFrom_some sc.names n [] (.inl h)
  exact Option.isSome_iff_exists.mp q

theorem inv_start {CX : CXT} {P : Program} {w : World} {K : PySem.W.Frag} {mg : Str → Option Value} {base : Heap} {N ps : List Str} {qual : Str} {scope : Scope} {f : Addr} {cd : Value} {A : Around} {outer : List Env} {s s1 : Shared} {H : Hp} {E : XK} {us : List Value} {vs : List V}
    (S : FnScope N ps scope) (hd : A.handled = none) (e0 : Env0 P w K mg base A outer s H) (hl : vs.length = ps.length) (r : Vals vs us)
    (x : InCallC s s.heap.objs.size (bindL (envOfC qual scope s.heap.objs.size f cd).kindOf (ps.zip us) fun _ => none) (cellsFrom (s.heap.objs.size + 1) scope.names []) (bindC (envOfC qual scope s.heap.objs.size f cd).kindOf (ps.zip us) fun _ => none) s1) :
    Inv (cxOf CX P w K mg base N qual scope f cd A outer s H E) [] (start N vs) H s1 := by
  have hpl : ps.length ≤ N.length := by have := congrArg List.length S.pre; rw [List.length_take] at this; omega
  obtain ⟨h1, tk, rfl, hk⟩ := x.done
  have noA : ∀ b : Addr, b ∉ (cxOf CX P w K mg base N qual scope f cd A outer s H E).ex := fun b z => absurd (show b ∈ ([] : List Addr) from z) (by simp)
  refine ⟨⟨e0.mod, S.kind, rfl, rfl, Nat.le_refl _, fun y z c h1 h2 => ?_, fun y hy => ?_, fun y c _ h => ?_, fun _ => hd, Around.frames_deeper e0.frames, .inr ⟨rfl, rfl⟩, fun b z => absurd z (noA b), e0.bs, e0.bsz, fun b _ _ => noA b, fun b z => absurd z (noA b), e0.funs, e0.frf⟩,
    rfl, e0.bare, Un.kept hk, ⟨_, x.toInCall.ns, fun i y v h1 h2 h3 => ?_⟩, fun y c h => ⟨_, x.cell y c h⟩, e0.hok.fresh (Nat.le_refl _), fun y c h => ?_, fun p hp => absurd (show p ∈ ([] : List (Addr × Obj)) from hp) (by simp), e0.hok.kept hk, ?_⟩
  · exact name_of_addr x.apart (PySem.mem_of_lookup h1) (PySem.mem_of_lookup h2)
  · have hy : scope.names.lookup y = some .cell ∨ scope.names.lookup y = some .free := hy
    rcases hy with hy | hy
    · exact cell_has hy
    · exact absurd rfl (S.nofree _ (PySem.mem_of_lookup hy))
  · exact Nat.le_of_lt (x.above y c (PySem.mem_of_lookup h))
  · have hi : i < vs.length := by
      unfold start at h2
      by_cases hi : i < vs.length
      · exact hi
      · rw [List.getElem?_append_right (by simpa using hi)] at h2
        rw [List.getElem?_replicate] at h2
        split at h2 <;> cases h2
    have ha : vs[i]? = some v := by
      unfold start at h2
      rw [List.getElem?_append_left (by simpa using hi), List.getElem?_map] at h2
      cases e : vs[i]? with
      | none => rw [e] at h2; cases h2
      | some a => rw [e] at h2; cases h2; rfl
    obtain ⟨u, hu, rv⟩ := r.get ha
    have hp : ps[i]? = some y := by
      rw [← S.pre, List.getElem?_take_of_lt (by omega)]; exact h1
    have ndP : ps.Nodup := by rw [← S.pre]; exact S.nd.sublist (List.take_sublist _ _)
    refine ⟨u, rv, ?_⟩
    rcases S.par y (List.mem_of_getElem? hp) with k | k
    · exact .inl ⟨k, bindL_get ndP hp hu k⟩
    · obtain ⟨c, e⟩ := cell_has (n := s.heap.objs.size + 1) k
      refine .inr ⟨.inl k, c, e, ?_⟩
      have q := x.cell y c e
      rw [bindC_get ndP hp hu (by show scope.names.lookup y ≠ _; rw [k]; decide)] at q
      exact q
  · exact e0.hok.fresh (Nat.le_of_lt (x.above y c (PySem.mem_of_lookup h)))
  · unfold start
    show _ = N.length
    rw [List.length_append, List.length_map, List.length_replicate]
    omega

/-- THE RULE: a def (or a method) of the text, by its body. The body's reading t is chosen for each entry; it is run at the parameters' values -/
theorem fn_of {CX : CXT} {P : Program} {w : World} {K : PySem.W.Frag} {mg : Str → Option Value} {base : Heap} {k : Nat} {f : Addr} {name qual : Str} {params : Arguments} {body : List Stmt} {scope : Scope} {dV kV doc pm cdv ct oc : Value} {an od : Option Addr}
    {osl : Array (Option Value)} {N ps : List Str} {sp : Sp} (lk : K.lookup f = some ⟨oc, od, .func (PySem.W.fnOf name qual params body scope dV kV doc pm an cdv ct), osl⟩) (hcd : PySem.W.codeIn K cdv qual = true) (S : FnScope N ps scope)
    (len : ∀ vs H Q E, sp vs H Q E → vs.length = ps.length)
    (hbody : ∀ (A : Around) (outer : List Env) (s : Shared) (H : Hp) (vs : List V) (Q : VK) (E : XK), Room k (A.deeper (envOfC qual scope s.heap.objs.size f cdv)) → sp vs H Q E →
      ∃ t, PSs (cxOf CX P w K mg base N qual scope f cdv A outer s H E) body t ∧ t { nx := fun _ H' => Q .non H', rt := Q } (start N vs) H) :
    FnOk P w K mg base CX (k + 1) f (PySem.W.fnOf name qual params body scope dV kV doc pm an cdv ct) ps sp := by
  refine ⟨len, fun A outer s H args us vs Q E hr e0 hb r hsp => ?_⟩
  have hl := len _ _ _ _ hsp
  have KX : K.In s.heap := e0.mod.kin.keeps fun b o e => (e0.bs b o e).1
  have lim : s.heap.NoLimit := e0.mod.nolimit.keeps fun b o e => (e0.bs b o e).1
  have hkind : ∀ y ∈ ps.zip us, scope.names.lookup y.1 = some .local ∨ (scope.names.lookup y.1 = some .cell ∧ ((cellsFrom (s.heap.objs.size + 1) scope.names []).lookup y.1).isSome = true) := fun ⟨n, v⟩ hy => by
    rcases S.par n (List.of_mem_zip hy).1 with q | q
    · exact .inl q
    · exact .inr ⟨q, PySem.W.cellsFrom_some _ _ _ (.inl q)⟩
  refine codeAny_call_function hr.depth (KX _ _ lk) rfl S.co S.gen rfl (PySem.W.codeRec_of KX hcd) (hb _ _ _ _ ?_)
  refine wpAny_newFunctionEnv_cells S.kind hkind fun env he s1 x => ?_
  subst he
  refine ⟨lim.keeps x.toInCall.keep, codeAny_func ?_⟩
  obtain ⟨t, ht, hq⟩ := hbody A outer s H vs Q E (hr.deeper _) hsp
  have I : Inv (cxOf CX P w K mg base N qual scope f cdv A outer s H E) [] (start N vs) H s1 := inv_start S hr.hd e0 hl r x
  refine wpAny_mono (ht [] s1 (start N vs) H _ I hq) (fun fl s' hs => ?_) fun e s' hs => hs
  have fin : ∀ {σ' : St} {H' : Hp} {v : V} {u : Value}, Inv (cxOf CX P w K mg base N qual scope f cdv A outer s H E) [] σ' H' s' → RelV v u → Q v H' → CE outer P w H s Q u s' :=
    fun {σ' H' v u} J rv q => ⟨v, H', J.os, J.bare, J.base, J.hok, rv, q⟩
  cases fl with
  | ret u =>
    obtain ⟨v, σ', H', J, rv, q⟩ := hs
    exact fin J rv q
  | next =>
    obtain ⟨σ', H', J, q⟩ := hs
    exact fin (v := V.non) (u := Value.none) J rfl q
  | brk =>
    obtain ⟨_, _, _, q⟩ := hs
    exact False.elim q
  | cont =>
    obtain ⟨_, _, _, q⟩ := hs
    exact False.elim q
end L2

namespace L2
open PySem PySem.Spec PyProof.Rows
section
variable {X : Cx} {x : Str} {p pos : Pos} {e : Expr} {es : List Expr} {t : TA} {id T : String} {r : List V → Hp → VK → Prop}

def tCB (r : List V → Hp → VK → Prop) (t : TA) : TE := fun σ H Q => t σ H fun vs H1 => r vs H1 Q
/-- f(e, ..), f a built-in function -/
theorem pe_callB (hc : CallR X (.builtin id) r) (hg : Gl X x) (hm : X.mg x = none) (hv : bootBuiltins x = some (.builtin id)) (ha : PA X (e :: es) t) (hn : x ≠ "__name__" := by decide) (hdb : (x == ("__debug__" : Str)) = false := by decide)
    (he : starEach (e :: es) X.env = (false, eval e X.env) :: starEach es X.env := by rfl) (hpl : (backTo pos (starEach es X.env)).any (·.1) = false := by rfl) : PE X (.Call (.Name x p) (e :: es) [] pos) (tCB r t) := by
  intro pins s σ H Q I h
  refine wpAny_Call_Name_kw (ld_blt I hg hm hv ?_ hn hdb)
  exact PyProof.Rows.callWith_builtin1 (thn (ha pos pins s σ H _ I h) fun us s1 ⟨vs, H1, I1, r1, q1⟩ => hc pins s1 σ H1 vs us Q I1 r1 q1) he hpl
/-- T(e, ..), T a built-in type -/
theorem pe_callTy (hc : CallR X (.type T) r) (hg : Gl X x) (hm : X.mg x = none) (hv : bootBuiltins x = some (.type T)) (ha : PA X (e :: es) t) (hn : x ≠ "__name__" := by decide) (hdb : (x == ("__debug__" : Str)) = false := by decide)
    (he : starEach (e :: es) X.env = (false, eval e X.env) :: starEach es X.env := by rfl) (hpl : (backTo pos (starEach es X.env)).any (·.1) = false := by rfl) : PE X (.Call (.Name x p) (e :: es) [] pos) (tCB r t) := by
  intro pins s σ H Q I h
  refine wpAny_Call_Name_kw (ld_blt I hg hm hv ?_ hn hdb)
  exact PyProof.Rows.callWith_type1 (thn (ha pos pins s σ H _ I h) fun us s1 ⟨vs, H1, I1, r1, q1⟩ => hc pins s1 σ H1 vs us Q I1 r1 q1) he hpl
end
end L2

namespace HT
open PySem PyProof.Rows

section
open PySem.SeqAt
open PySem.AutoSeq1 (wpAny_loadPart')
open PySem.MeetsSeq PySem.MeetsSeq2 PySem.MeetsSeq3

end

section
variable {prog : Program} {w : World} {A : Around} {E : Value → Shared → Prop} {s : Shared}

/-! ### t[a:b], not the whole -/
/-- a slice's bound as a place among n (d where it is left out) -/
def sIx (n d : Nat) : Option Int → Nat
  | none => d
  | some v => if v < 0 then (v + (n : Int)).toNat else min v.toNat n
theorem sIx_none (n d : Nat) : sIx n d none = d := rfl
end
end HT

namespace L2
open PySem PySem.Spec PyProof.Rows

/-! ### the parts of a slice -/
abbrev TO := St → Hp → (Option Int → Hp → Prop) → Prop
/-- a slice's part (left out, or an int) -/
def PO (X : Cx) (e : Option Expr) (t : TO) : Prop :=
  ∀ (pins : List (Addr × Obj)) (s : Shared) (σ : St) (H : Hp) (Q : Option Int → Hp → Prop), Inv X pins σ H s → t σ H Q →
    wpAny (model X.prog X.w) X.A (evalPart e X.env) (fun u s' => ∃ o H', Inv X pins σ H' s' ∧ IsPart u o ∧ Q o H') X.xe s
def tNoPart : TO := fun _ H Q => Q none H
def tPart (t : TE) : TO := fun σ H Q => t σ H fun x H1 => ∃ i, x = .int i ∧ Q (some i) H1

theorem intsAre_of {ns : List Int} : ∀ {us : List Value}, Vals (ns.map V.int) us → IntsAre us ns := by
  induction ns with
  | nil => intro us r; rw [List.map_nil] at r; cases r; exact .nil
  | cons n ns ih =>
    intro us r
    rw [List.map_cons] at r
    cases r with
    | cons r1 r2 =>
      obtain ⟨t, e⟩ := r1
      subst e
      exact .cons n t (ih r2)

section
variable {X : Cx} {e : Expr} {te : TE} {lo hi : Option Expr} {tl th : TO} {pos p2 : Pos}

theorem po_none : PO X none tNoPart := by
  intro pins s σ H Q I h
  rw [evalPart_none]
  exact wpAny_pure ⟨none, H, I, .none, h⟩
theorem po_some (h : PE X e te) : PO X (some e) (tPart te) := by
  intro pins s σ H Q I hw
  rw [evalPart_some]
  refine thn (h pins s σ H _ I hw) fun u s1 ⟨x, H1, I1, r1, q1⟩ => ?_
  obtain ⟨i, rfl, q⟩ := q1
  obtain ⟨t, rfl⟩ := r1
  exact ⟨some i, H1, I1, .int i t, q⟩

/-- what a slice of a value is, by values: the slice object stands at sl -/
def SlR (X : Cx) (r : V → Option Int → Option Int → Hp → VK → Prop) : Prop :=
  ∀ (pins : List (Addr × Obj)) (s : Shared) (σ : St) (H : Hp) (x : V) (v vl vu : Value) (lo hi : Option Int) (sl : Addr) (Q : VK), Inv X pins σ H s → RelV x v → s.heap.IsSliceOf sl vl vu .none → IsPart vl lo → IsPart vu hi → r x lo hi H Q →
    ∃ T id, typeLookup (.type T) "__getitem__" = pure (some (.builtin id)) ∧ s.TypeIs v T ∧ wpAny (model X.prog X.w) X.A (getItem v (.ref sl)) (EP X pins σ Q) X.xe s
theorem SlR.or {r r' : V → Option Int → Option Int → Hp → VK → Prop} (h : SlR X r) (h' : SlR X r') : SlR X (fun x lo hi H Q => r x lo hi H Q ∨ r' x lo hi H Q) := by
  intro pins s σ H x v vl vu lo hi sl Q I rx hs pl pu q
  rcases q with q | q
  · exact h pins s σ H x v vl vu lo hi sl Q I rx hs pl pu q
  · exact h' pins s σ H x v vl vu lo hi sl Q I rx hs pl pu q
def tSl (r : V → Option Int → Option Int → Hp → VK → Prop) (te : TE) (tl th : TO) : TE := fun σ H Q => te σ H fun x H1 => tl σ H1 fun l H2 => th σ H2 fun u H3 => r x l u H3 Q
/-- a[lo:hi], any a -/
theorem pe_slice {r : V → Option Int → Option Int → Hp → VK → Prop} (hr : SlR X r) (he : PE X e te) (hl : PO X lo tl) (hu : PO X hi th) : PE X (.Subscript e (.Slice lo hi none p2) pos) (tSl r te tl th) := by
  intro pins s σ H Q I h
  refine Subscript_ (thn (he pins s σ H _ I h) fun v s1 ⟨x, H1, I1, r1, q1⟩ => ?_)
  refine wpAny_Slice (thn (hl pins s1 σ H1 _ I1 q1) fun vl s2 ⟨l, H2, I2, pl, q2⟩ => thn (hu pins s2 σ H2 _ I2 q2) fun vu s3 ⟨u, H3, I3, pu, q3⟩ => ?_)
  rw [evalPart_none]
  refine wpAny_pure ?_
  have I4 : Inv X pins σ H3 { s3 with heap := s3.heap.push { cls := .type "slice", data := .fields #[vl, vu, .none] } } := I3.kept (t' := s3.toks) fun b ob q => Heap.get?_push_of_some _ q
  obtain ⟨T, id, hT, ht, hg⟩ := hr pins { s3 with heap := s3.heap.push { cls := .type "slice", data := .fields #[vl, vu, .none] } } σ H3 x v vl vu l u s3.heap.objs.size Q I4 r1 (Heap.IsSliceOf.new ..) pl pu q3
  show wpAny (model X.prog X.w) X.A (subscriptTail e (.Slice lo hi none p2) v (.ref s3.heap.objs.size)) (EP X pins σ Q) X.xe { s3 with heap := s3.heap.push { cls := .type "slice", data := .fields #[vl, vu, .none] } }
  exact tail_any (ops := [.ref s3.heap.objs.size, v]) ht hT hg (by with_unfolding_all rfl)

/-- the items of xs[lo:hi] -/
def cutV (xs : List V) (lo hi : Option Int) : List V := (xs.drop (HT.sIx xs.length 0 lo)).take (HT.sIx xs.length xs.length hi - HT.sIx xs.length 0 lo)
theorem cutV_length (xs : List V) (lo hi : Option Int) : (cutV xs lo hi).length ≤ xs.length := by
  unfold cutV
  rw [List.length_take, List.length_drop]
  omega
/-! ### t < u, t + u -/
end
end L2

namespace L2
open PySem PySem.Spec PyProof.Rows

/-! ### places -/
/-- the place that an index of any sign means -/
def ixN (n : Nat) (i : Int) : Option Nat := if 0 ≤ i then (if i < n then some i.toNat else none) else if -(n : Int) ≤ i then some (i + n).toNat else none
def atI {α : Type} (xs : List α) (i : Int) : Option α := (ixN xs.length i).bind fun j => xs[j]?
theorem ixN_seq {n : Nat} {i : Int} {j : Nat} (h : ixN n i = some j) : seqIndex? i n = some j ∧ j < n ∧ -(n : Int) ≤ i ∧ i < n := by
  unfold ixN at h
  by_cases h0 : 0 ≤ i
  · rw [if_pos h0] at h
    by_cases h1 : i < n
    · rw [if_pos h1] at h
      have e : i.toNat = j := Option.some.inj h
      exact ⟨by rw [seqIndex_of h0 h1, e], by omega, by omega, h1⟩
    · rw [if_neg h1] at h; cases h
  · rw [if_neg h0] at h
    by_cases h1 : -(n : Int) ≤ i
    · rw [if_pos h1] at h
      have e : (i + n).toNat = j := Option.some.inj h
      exact ⟨by rw [seqIndex_neg (by omega) h1, e], by omega, h1, by omega⟩
    · rw [if_neg h1] at h; cases h
theorem atI_get {α : Type} {xs : List α} {i : Int} {v : α} (h : atI xs i = some v) : ∃ j, seqIndex? i xs.length = some j ∧ xs[j]? = some v ∧ j < xs.length ∧ -(xs.length : Int) ≤ i ∧ i < xs.length := by
  unfold atI at h
  cases e : ixN xs.length i with
  | none => rw [e] at h; cases h
  | some j =>
    rw [e] at h
    obtain ⟨h1, h2, h3, h4⟩ := ixN_seq e
    exact ⟨j, h1, h, h2, h3, h4⟩
theorem atI_nat {α : Type} {xs : List α} {j : Nat} {v : α} (h : xs[j]? = some v) : atI xs (j : Int) = some v := by
  have hj : j < xs.length := (List.getElem?_eq_some_iff.mp h).1
  have e : ixN xs.length (j : Int) = some j := by
    unfold ixN
    rw [if_pos (by omega), if_pos (by omega)]; simp
  unfold atI; rw [e]; exact h
/-! ### what may be subscripted -/
/-- what stands as an index of a plain subscript -/
def PlainIx (b : Expr) : Prop := ∀ o i, subscripted b false o i = operate [o, i] (getItem o i)
/-- a subscript by values -/
def IxR (X : Cx) (r : R2) : Prop :=
  ∀ (value slice : Expr) (pins : List (Addr × Obj)) (s : Shared) (σ : St) (H : Hp) (x y : V) (v u : Value) (Q : VK), Inv X pins σ H s → RelV x v → RelV y u → r x y H Q →
    subscripted slice false v u = operate [v, u] (getItem v u) → wpAny (model X.prog X.w) X.A (subscriptTail value slice v u) (EP X pins σ Q) X.xe s
/-- a call of a builtin's method by values: the receiver, the arguments -/
def MtR (X : Cx) (id : String) (r : V → List V → Hp → VK → Prop) : Prop :=
  ∀ (pins : List (Addr × Obj)) (s : Shared) (σ : St) (H : Hp) (x : V) (xs : List V) (v : Value) (us : List Value) (Q : VK), Inv X pins σ H s → RelV x v → Vals xs us → r x xs H Q →
    wpAny (model X.prog X.w) X.A (call (.builtin id) (v :: us)) (EP X pins σ Q) X.xe s
section
variable {X : Cx} {a b : Expr} {ta tb : TE} {pos : Pos}
theorem IxR.or {r r' : R2} (h : IxR X r) (h' : IxR X r') : IxR X (fun x y H Q => r x y H Q ∨ r' x y H Q) := by
  intro value slice pins s σ H x y v u Q I rx ry q hs
  rcases q with q | q
  · exact h value slice pins s σ H x y v u Q I rx ry q hs
  · exact h' value slice pins s σ H x y v u Q I rx ry q hs
theorem MtR.or {id : String} {r r' : V → List V → Hp → VK → Prop} (h : MtR X id r) (h' : MtR X id r') : MtR X id (fun x xs H Q => r x xs H Q ∨ r' x xs H Q) := by
  intro pins s σ H x xs v us Q I rx rs q
  rcases q with q | q
  · exact h pins s σ H x xs v us Q I rx rs q
  · exact h' pins s σ H x xs v us Q I rx rs q
/-- a[b] -/
theorem pe_ix {r : R2} (hr : IxR X r) (ha : PE X a ta) (hb : PE X b tb) (hs : PlainIx b) : PE X (.Subscript a b pos) (tOp r ta tb) := by
  intro pins s σ H Q I h
  exact Subscript_ (binT ha hb I h fun v u s2 x y H2 I2 rx ry q => hr a b pins s2 σ H2 x y v u Q I2 rx ry q (hs _ _))

def rIxL (K : PySem.W.Frag) : R2 := fun x y H Q => ∃ p xs i v, x = .ref p ∧ y = .int i ∧ SqL K H p xs ∧ atI xs i = some v ∧ Q v H
theorem ix_list : IxR X (rIxL X.K) := by
  intro value slice pins s σ H x y v u Q I rx ry h hs
  obtain ⟨p, xs, i, z, rfl, rfl, hq, he, q⟩ := h
  cases rx
  obtain ⟨t, rfl⟩ := ry
  obtain ⟨its, r, pl, hz⟩ := I.list hq
  obtain ⟨j, h1, h2, h3, h4, h5⟩ := atI_get he
  obtain ⟨w, ew, rw'⟩ := r.get h2
  have hl := r.length
  have hn := line63
  have fin : EP X pins σ Q w s := ⟨z, H, I, rw', q⟩
  by_cases h0 : 0 ≤ i
  · have hj : i.toNat = j := by
      rw [seqIndex_of h0 h5] at h1
      exact Option.some.inj h1
    exact item_listR pl.isList h0 (by omega) (by rw [hj]; simpa using ew) fin hs
  · have hj : (i + (its.toArray.size : Int)).toNat = j := by
      rw [seqIndex_neg (by omega) h4] at h1
      rw [List.size_toArray, ← hl]
      exact Option.some.inj h1
    exact subscriptTail_builtinR (x := w) pl.isList.typeIs slot_list_getitem.lookup
      (wpAny_getItem_list_neg (Q := fun r s' => r = w ∧ EP X pins σ Q r s') pl.isList (by omega) (by rw [List.size_toArray] <;> omega) (by omega) (by rw [hj]; simpa using ew) ⟨rfl, fin⟩) hs
/-! ### xs[i] = v, any sign -/
/-- the list's object behind a store -/
theorem mapSeq_set (its : List Value) (n j : Nat) (u : Value) : Obj.mapSeq (·.setIfInBounds j u) { cls := .type "list", data := .seq its.toArray n } = { cls := .type "list", data := .seq (its.set j u).toArray n } := by
  simp [Obj.mapSeq]
theorem Inv.lst {pins : List (Addr × Obj)} {σ : St} {H : Hp} {s : Shared} {p : Addr} {xs : List V} (I : Inv X pins σ H s) (h : H p = some (.lst xs)) :
    ∃ (its : List Value) (n : Nat), Vals xs its ∧ s.heap.get? p = some { cls := .type "list", data := .seq its.toArray n } ∧ xs.length ≤ sizeLine := by
  obtain ⟨z, its, n, r, e⟩ := I.hok p _ h
  exact ⟨its, n, r, e, z⟩
/-- the list at p is written by an update of its object -/
theorem Inv.lstUpd {pins : List (Addr × Obj)} {σ : St} {H : Hp} {s : Shared} {p : Addr} {xs ys : List V} {its its' : List Value} {n n' : Nat} {f : Obj → Obj} (I : Inv X pins σ H s) (h : H p = some (.lst xs))
    (ho : s.heap.get? p = some { cls := .type "list", data := .seq its.toArray n }) (hf : f { cls := .type "list", data := .seq its.toArray n } = { cls := .type "list", data := .seq its'.toArray n' }) (r : Vals ys its') (hz : ys.length ≤ sizeLine) (t : Nat) :
    Inv X pins σ (upd H p (.lst ys)) { s with heap := s.heap.update p f, toks := t } := by
  have e : (s.heap.update p f).get? p = some { cls := .type "list", data := .seq its'.toArray n' } := by
    rw [Heap.get?_update_self f ho (by rw [hf] <;> rfl), hf]
  refine I.write (x := p) (e := p) (by rw [h]; trivial) (.inl rfl) (fun b u hb q => (Heap.get?_update_other _ _ (Ne.symm hb)).trans q) ⟨_, e⟩ ?_
  exact ⟨hz, its', n', r, e⟩
def rSetL : V → V → V → Hp → (Hp → Prop) → Prop := fun o i v H Q => ∃ p xs k j, o = .ref p ∧ i = .int k ∧ H p = some (.lst xs) ∧ ixN xs.length k = some j ∧ Q (upd H p (.lst (xs.set j v)))
theorem set_list : PSet X rSetL := by
  intro pins s σ H o i v ov iv u Q I ro ri rv h
  obtain ⟨p, xs, k, j, rfl, rfl, hp, hj, q⟩ := h
  cases ro
  obtain ⟨t, rfl⟩ := ri
  obtain ⟨its, n, r, ho, hz⟩ := I.lst hp
  obtain ⟨h1, h2, h3, h4⟩ := ixN_seq hj
  have hl := r.length
  have hn := line63
  have I' : Inv X pins σ (upd H p (.lst (xs.set j v))) { s with heap := s.heap.update p (Obj.mapSeq (·.setIfInBounds j u)) } :=
    I.lstUpd hp ho (mapSeq_set its n j u) (r.set rv j) (by rw [List.length_set]; exact hz) s.toks
  by_cases h0 : 0 ≤ k
  · have hk : k.toNat = j := by
      rw [seqIndex_of h0 h4] at h1
      exact Option.some.inj h1
    exact PySem.W.ki_setAt ho h0 (by omega) (by rw [List.size_toArray, ← hl]; exact h4) (by rw [hk]; exact ⟨_, I', q⟩)
  · have hk : (k + (its.toArray.size : Int)).toNat = j := by
      rw [seqIndex_neg (by omega) h3] at h1
      rw [List.size_toArray, ← hl]
      exact Option.some.inj h1
    exact PySem.W.ki_setBack ho (by omega) (by rw [List.size_toArray, ← hl]; exact h3) (by omega) (by rw [hk]; exact ⟨_, I', q⟩)

/-! ### slices -/
theorem slice_bounds (lo hi : Option Int) (n : Nat) : (sliceBounds lo hi none n).1 = ((HT.sIx n 0 lo : Nat) : Int) ∧ (sliceBounds lo hi none n).2.1 = ((HT.sIx n n hi : Nat) : Int) ∧ (sliceBounds lo hi none n).2.2 = 1 := by
  refine ⟨?_, ?_, rfl⟩
  · cases lo with
    | none => simp [sliceBounds, HT.sIx]
    | some i =>
      simp only [sliceBounds, HT.sIx, Option.getD_none, show (1 : Int) > 0 by decide, if_true]
      by_cases h : i < 0
      · simp only [h, if_true] <;> omega
      · simp only [h, if_false] <;> omega
  · cases hi with
    | none => simp [sliceBounds, HT.sIx]
    | some i =>
      simp only [sliceBounds, HT.sIx, Option.getD_none, show (1 : Int) > 0 by decide, if_true]
      by_cases h : i < 0
      · simp only [h, if_true] <;> omega
      · simp only [h, if_false] <;> omega
theorem slicePick_cut (its : List Value) (lo hi : Option Int) : slicePick its.toArray lo hi none = ((its.drop (HT.sIx its.length 0 lo)).take (HT.sIx its.length its.length hi - HT.sIx its.length 0 lo)).toArray := by
  obtain ⟨h1, h2, h3⟩ := slice_bounds lo hi its.toArray.size
  unfold slicePick
  rw [h1, h2, h3]
  simp only [sliceRange_one, pick_run, List.size_toArray] <;> rfl
/-- xs[lo:hi] of a list: a new list -/
def rSlL (K : PySem.W.Frag) : V → Option Int → Option Int → Hp → VK → Prop := fun x lo hi H Q => ∃ a xs, x = .ref a ∧ SqL K H a xs ∧ ∀ p, H p = none → Q (.ref p) (upd H p (.lst (cutV xs lo hi)))
theorem sl_list : SlR X (rSlL X.K) := by
  intro pins s σ H x v vl vu lo hi sl Q I rx hs pl pu h
  obtain ⟨a, xs, rfl, hx, q⟩ := h
  cases rx
  obtain ⟨its, r, ht, hz⟩ := I.list hx
  have hlen := r.length
  refine ⟨"list", _, slot_list_getitem.lookup, ht.isList.typeIs, ?_⟩
  refine wpAny_getItem_list_slice ht.isList hs pl pu .none (by simp) ?_ (by rw [List.size_toArray] <;> omega)
  rw [slicePick_cut, ← hlen]
  refine ⟨.ref s.heap.objs.size, _, I.laid (t' := s.toks) (o := .lst (cutV xs lo hi)) (fun b ob q => Heap.get?_push_of_some _ q) (Nat.le_refl _) ?_, rfl, q _ (I.hok.fresh (Nat.le_refl _))⟩
  exact ⟨Nat.le_trans (cutV_length xs lo hi) hz, _, 0, (r.drop (HT.sIx xs.length 0 lo)).take (HT.sIx xs.length xs.length hi - HT.sIx xs.length 0 lo), Heap.get?_push_size _ rfl⟩

/-! ### in, not in: flat items -/
def flatV : V → Bool
  | .non => true
  | .bl _ => true
  | .int _ => true
  | .str _ => true
  | _ => false
/-- == of flat values -/
def eqV : V → V → Bool
  | .non, .non => true
  | .bl a, .bl b => a == b
  | .bl a, .int b => (if a then 1 else 0) == b
  | .int a, .bl b => a == (if b then 1 else 0)
  | .int a, .int b => a == b
  | .str a, .str b => a == b
  | _, _ => false
theorem eqAt_V {A : Around} {s : Shared} {y x : V} {u v : Value} (ry : RelV y u) (rx : RelV x v) (fy : flatV y = true) (fx : flatV x = true) : SeqAt.EqAt A s u v (eqV y x) := by
  cases y with
  | non =>
    cases ry
    cases x with
    | non => cases rx; exact SeqAt.EqAt.same _
    | bl b => cases rx; exact SeqAt.EqAt.none_bool b
    | int b => obtain ⟨t, rfl⟩ := rx; exact SeqAt.EqAt.none_int b t
    | str b => obtain ⟨t, rfl⟩ := rx; exact SeqAt.EqAt.none_str b t
    | _ => exact absurd (show false = true from fx) Bool.false_ne_true
  | bl a =>
    cases ry
    cases x with
    | non => cases rx; exact SeqAt.EqAt.bool_none a
    | bl b => cases rx; exact SeqAt.EqAt.bool_bool a b
    | int b => obtain ⟨t, rfl⟩ := rx; exact SeqAt.EqAt.bool_int a b t
    | str b => obtain ⟨t, rfl⟩ := rx; exact SeqAt.EqAt.bool_str a b t
    | _ => exact absurd (show false = true from fx) Bool.false_ne_true
  | int a =>
    obtain ⟨t', rfl⟩ := ry
    cases x with
    | non => cases rx; exact SeqAt.EqAt.int_none a t'
    | bl b => cases rx; exact SeqAt.EqAt.int_bool a t' b
    | int b => obtain ⟨t, rfl⟩ := rx; exact SeqAt.EqAt.int_int a t' b t
    | str b => obtain ⟨t, rfl⟩ := rx; exact SeqAt.EqAt.int_str a t' b t
    | _ => exact absurd (show false = true from fx) Bool.false_ne_true
  | str a =>
    obtain ⟨t', rfl⟩ := ry
    cases x with
    | non => cases rx; exact SeqAt.EqAt.str_none a t'
    | bl b => cases rx; exact SeqAt.EqAt.str_bool a t' b
    | int b => obtain ⟨t, rfl⟩ := rx; exact SeqAt.EqAt.str_int a t' b t
    | str b => obtain ⟨t, rfl⟩ := rx; exact SeqAt.EqAt.str_str a t' b t
    | _ => exact absurd (show false = true from fx) Bool.false_ne_true
  | _ => exact absurd (show false = true from fy) Bool.false_ne_true
/-! ### len, list(x), tuple(x) of any list or tuple that is read -/
theorem call_len_seq : CallR X (.builtin "len") (fun xs H Q => ∃ p ys, xs = [.ref p] ∧ (SqL X.K H p ys ∨ SqT X.K H p ys) ∧ Q (.int ys.length) H) := by
  intro pins s σ H xs us Q I r h
  obtain ⟨p, ys, rfl, hq, q⟩ := h
  obtain ⟨u, rfl, rx⟩ := vals1 r
  cases rx
  have hn := line63
  rcases hq with hq | hq
  · obtain ⟨its, r', pl, hz⟩ := I.list hq
    have hlen := r'.length
    exact Calls.call_len_list pl.isList (by simp only [List.size_toArray] <;> omega) ⟨.int ys.length, H, I.tok _, ⟨s.toks + 1, by rw [List.size_toArray, hlen]⟩, q⟩
  · obtain ⟨its, r', pl, hz⟩ := I.tuple hq
    have hlen := r'.length
    exact len_tuple pl (by simp only [List.size_toArray] <;> omega) ⟨.int ys.length, H, I.tok _, ⟨s.toks + 1, by rw [List.size_toArray, hlen]⟩, q⟩
theorem CallR.or {f : Value} {r r' : List V → Hp → VK → Prop} (h : CallR X f r) (h' : CallR X f r') : CallR X f (fun xs H Q => r xs H Q ∨ r' xs H Q) := by
  intro pins s σ H xs us Q I rs q
  rcases q with q | q
  · exact h pins s σ H xs us Q I rs q
  · exact h' pins s σ H xs us Q I rs q
theorem call_list_of : CallR X (.type "list") (fun xs H Q => ∃ p ys, xs = [.ref p] ∧ (SqL X.K H p ys ∨ SqT X.K H p ys) ∧ ∀ l, H l = none → Q (.ref l) (upd H l (.lst ys))) := by
  intro pins s σ H xs us Q I r h
  obtain ⟨p, ys, rfl, hq, q⟩ := h
  obtain ⟨u, rfl, rx⟩ := vals1 r
  cases rx
  have fin : ∀ (its : List Value), Vals ys its → ys.length ≤ sizeLine → ∀ (h' : Heap) (c' : Nat), (∀ b o', s.heap.get? b = some o' → h'.get? b = some o') →
      h'.get? s.heap.objs.size = some { cls := .type "list", dict := none, data := .seq its.toArray c', slots := #[] } → EP X pins σ Q (.ref s.heap.objs.size) { s with heap := h' } := fun its r' hz h' c' kp e =>
    ⟨.ref s.heap.objs.size, _, I.laid (t' := s.toks) kp (Nat.le_refl _) (show ObjOk X.prog X.w _ h' _ (.lst ys) from ⟨hz, its, c', r', e⟩), rfl, q _ (I.hok.fresh (Nat.le_refl _))⟩
  rcases hq with hq | hq
  · obtain ⟨its, r', pl, hz⟩ := I.list hq
    have hlen := r'.length
    obtain ⟨o, ho, hc, n, hd⟩ := pl.isList
    exact call_list_seq p (.inl rfl) ho hc hd (fun h' c' kp e => fin its r' hz h' c' kp e) (by simp only [List.size_toArray] <;> omega)
  · obtain ⟨its, r', pl, hz⟩ := I.tuple hq
    have hlen := r'.length
    obtain ⟨o, ho, hc, n, hd⟩ := pl
    exact call_list_seq p (.inr rfl) ho hc hd (fun h' c' kp e => fin its r' hz h' c' kp e) (by simp only [List.size_toArray] <;> omega)
theorem call_tuple_of : CallR X (.type "tuple") (fun xs H Q => ∃ p ys, xs = [.ref p] ∧ ((SqL X.K H p ys ∧ ∀ l, H l = none → Q (.ref l) (upd H l (.tup ys))) ∨ (SqT X.K H p ys ∧ Q (.ref p) H))) := by
  intro pins s σ H xs us Q I r h
  obtain ⟨p, ys, rfl, h⟩ := h
  obtain ⟨u, rfl, rx⟩ := vals1 r
  cases rx
  rcases h with ⟨hq, q⟩ | ⟨hq, q⟩
  · obtain ⟨its, r', pl, hz⟩ := I.list hq
    have hlen := r'.length
    refine call_tuple_list pl.isList (fun h' kp => ?_) (by simp only [List.size_toArray] <;> omega)
    have I1 : Inv X pins σ H { s with heap := h' } := I.kept (t' := s.toks) kp
    have I2 : Inv X pins σ (upd H h'.objs.size (.tup ys)) { s with heap := h'.push { cls := .type "tuple", data := .seq its.toArray } } :=
      I1.laid (t' := s.toks) (fun b o e => Heap.get?_push_of_some _ e) (Nat.le_refl _) (show ObjOk X.prog X.w _ _ _ (.tup ys) from ⟨hz, its, r', IsTup.new _ _⟩)
    exact ⟨.ref h'.objs.size, _, I2, rfl, q _ (I1.hok.fresh (Nat.le_refl _))⟩
  · obtain ⟨its, r', pl, hz⟩ := I.tuple hq
    exact call_tuple_same pl ⟨.ref p, H, I, rfl, q⟩

/-! ### the call of a builtin's method: o.m(..) -/
/-- the value is of that builtin type -/
def tyV (K : PySem.W.Frag) (T : String) (x : V) (H : Hp) : Prop := match x with
  | .str _ => T = "str"
  | .int _ => T = "int"
  | .ref p => (T = "list" ∧ ∃ xs, SqL K H p xs) ∨ (T = "tuple" ∧ ∃ o, K.lookup p = some o ∧ o.cls = .type "tuple" ∧ o.dict = none) ∨
      (T = "dict" ∧ ((∃ kvs, H p = some (.dK kvs)) ∨ ∃ kvs, H p = some (.dT kvs))) ∨ (T = "set" ∧ ∃ S n, H p = some (.set S n))
  | _ => False
theorem tyV_is {pins : List (Addr × Obj)} {σ : St} {H : Hp} {s : Shared} {T : String} {x : V} {v : Value} (I : Inv X pins σ H s) (r : RelV x v) (ty : tyV X.K T x H) :
    s.TypeIs v T ∧ ∀ a, v = .ref a → ∃ ob, s.heap.get? a = some ob ∧ ob.dict = none := by
  cases x with
  | str z =>
    obtain ⟨t, rfl⟩ := r
    cases (show T = "str" from ty)
    exact ⟨typeIs_str s z t, fun _ e => nomatch e⟩
  | int i =>
    obtain ⟨t, rfl⟩ := r
    cases (show T = "int" from ty)
    exact ⟨typeIs_int s i t, fun _ e => nomatch e⟩
  | ref p =>
    cases r
    rcases ty with ⟨rfl, xs, hq⟩ | ⟨rfl, o, hk, hc, hd⟩ | ⟨rfl, hk⟩ | ⟨rfl, S, n, hk⟩
    · obtain ⟨its, _, pl, _⟩ := I.list hq
      refine ⟨pl.isList.typeIs, fun a e => ?_⟩
      cases e
      obtain ⟨o, n, e, c, hd, _⟩ := pl
      exact ⟨o, e, hd⟩
    · refine ⟨⟨o, I.kIn p o hk, hc⟩, fun a e => ?_⟩
      cases e
      exact ⟨o, I.kIn _ o hk, hd⟩
    · have z : ∃ o, s.heap.get? p = some o ∧ o.ExactDict := by
        rcases hk with ⟨kvs, hk⟩ | ⟨kvs, hk⟩
        · obtain ⟨_, _, _, _, o, _, _, e, ex, _⟩ := I.hok p _ hk
          exact ⟨o, e, ex⟩
        · obtain ⟨_, _, _, _, o, _, _, e, ex, _⟩ := I.hok p _ hk
          exact ⟨o, e, ex⟩
      obtain ⟨o, e, ex⟩ := z
      refine ⟨⟨o, e, ex.1⟩, fun a e2 => ?_⟩
      cases e2
      exact ⟨o, e, ex.2.1⟩
    · obtain ⟨o, _, _, _, e, ex, _⟩ := I.hok p _ hk
      refine ⟨⟨o, e, ex.1⟩, fun a e2 => ?_⟩
      cases e2
      exact ⟨o, e, ex.2.1⟩
  | _ => exact False.elim ty
def tBM (K : PySem.W.Frag) (T : String) (r : V → List V → Hp → VK → Prop) (to : TE) (t : TA) : TE := fun σ H Q => to σ H fun x H1 => tyV K T x H1 ∧ t σ H1 fun xs H2 => r x xs H2 Q
variable {o e : Expr} {es : List Expr} {to : TE} {t : TA} {name : Str} {apos cpos : Pos} {T id : String} {r : V → List V → Hp → VK → Prop}
theorem pe_bm (pa : PlainAttrs T) (slot : Slot T name id) (hty : typeOf (.builtin id) = pure (.type "method_descriptor")) (hm : MtR X id r) (ho : PE X o to) (ha : PA X (e :: es) t)
    (hbase : attributeBase o name X.env (eval o X.env) = eval o X.env := by rfl)
    (hfew : ((backTo cpos (starEach (e :: es) X.env)).all (fun x => !x.1) && (backToKw cpos (keywordEach [] X.env)).all (fun x => x.1.isSome)
      && decide ((e :: es).length + ([] : List Keyword).length + (if ([] : List Keyword).isEmpty then 0 else 1) < 30)) = true := by rfl)
    (hline : (apos.endLine == cpos.line) = true := by rfl) (hs : starEach (e :: es) X.env = (false, eval e X.env) :: starEach es X.env := by rfl) (hplain : (backTo cpos (starEach es X.env)).any (·.1) = false := by rfl) :
    PE X (.Call (.Attribute o name apos) (e :: es) [] cpos) (tBM X.K T r to t) := by
  intro pins s σ H Q I h
  refine wpAny_Call_method_late hbase hfew hline rfl (thn (ho pins s σ H _ I h) fun v s1 ⟨x, H1, I1, r1, ty, q1⟩ => ?_)
  obtain ⟨h1, h2⟩ := tyV_is I1 r1 ty
  refine ⟨T, id, pa, slot, hty, h1, h2, ?_⟩
  have hA := ha cpos pins s1 σ H1 _ I1 q1
  rw [hs] at hA ⊢
  refine Calls.callWith_builtin (by show (false || (backTo cpos (starEach es X.env)).any (·.1)) = false; rw [hplain] <;> rfl) (Calls.evalArgs_plain ?_)
  exact thn hA fun us s2 ⟨vs, H2, I2, r2, q2⟩ => hm pins s2 σ H2 x vs v us Q I2 r1 r2 q2
/- xs.append(e), list.index on a module's tuple .. are MtR facts of 06m -/
end
end L2

namespace L2
open PySem PySem.Spec PyProof.Rows

def MtM (X : Cx) (id : String) (r : V → List V → Hp → VK → Prop) : Prop :=
  ∀ (pins : List (Addr × Obj)) (s : Shared) (σ : St) (H : Hp) (x : V) (xs : List V) (v : Value) (us : List Value) (Q : VK), Inv X pins σ H s → RelV x v → Vals xs us → r x xs H Q →
    wpAny (model X.prog X.w) X.A (call (.builtin id) (v :: us)) (EP X pins σ Q) X.xe s

/-! ### lists of values -/
theorem Vals.one : ∀ {x : V} {us : List Value}, Vals [x] us → ∃ u, us = [u] ∧ RelV x u
  | _, _, .cons r .nil => ⟨_, rfl, r⟩
theorem Vals.two : ∀ {x y : V} {us : List Value}, Vals [x, y] us → ∃ u v, us = [u, v] ∧ RelV x u ∧ RelV y v
  | _, _, _, .cons r (.cons q .nil) => ⟨_, _, rfl, r, q⟩
theorem Vals.reverse {xs : List V} {us : List Value} (h : Vals xs us) : Vals xs.reverse us.reverse := by
  induction h with
  | nil => exact .nil
  | cons r t ih => rw [List.reverse_cons, List.reverse_cons]; exact Vals.append ih (.cons r .nil)
section
variable {X : Cx} {pins : List (Addr × Obj)} {σ : St} {H : Hp} {s : Shared} {l b : Addr} {xs ys zs : List V}

/-! ### the two steps: a tracked list is rewritten, a new list is laid -/
theorem Inv.lset {its its' : List Value} {n : Nat} {f : Array Value → Array Value} {t' : Nat} (I : Inv X pins σ H s) (hH : H l = some (.lst xs))
    (e : s.heap.get? l = some { cls := .type "list", data := .seq its.toArray n }) (hf : f its.toArray = its'.toArray) (hv : Vals ys its') (hz : ys.length ≤ sizeLine) :
    Inv X pins σ (upd H l (.lst ys)) { s with heap := s.heap.update l (Obj.mapSeq f), toks := t' } := by
  have q := PySem.IsL.update e f
  rw [hf] at q
  refine I.write (x := l) (e := l) (by rw [hH]; exact trivial) (.inl rfl) (fun b' u hb hu => (Heap.get?_update_other s.heap (Obj.mapSeq f) (Ne.symm hb)).trans hu) ⟨_, q⟩ ?_
  exact ⟨hz, its', _, hv, q⟩
theorem Inv.lnew {its : List Value} {t' : Nat} (I : Inv X pins σ H s) (hv : Vals ys its) (hz : ys.length ≤ sizeLine) :
    Inv X pins σ (upd H s.heap.objs.size (.lst ys)) { s with heap := s.heap.push { cls := .type "list", data := .seq its.toArray }, toks := t' } :=
  I.laid (fun _ _ q => Heap.get?_push_of_some _ q) (Nat.le_refl _) ⟨hz, its, 0, hv, Heap.get?_push_size _ rfl⟩
theorem Inv.fresh (I : Inv X pins σ H s) : H s.heap.objs.size = none := I.hok.fresh (Nat.le_refl _)
theorem Inv.lstM (I : Inv X pins σ H s) (hH : H l = some (.lst xs)) : xs.length ≤ sizeLine ∧ ∃ (its : List Value) (n : Nat), Vals xs its ∧ xs.length = its.length ∧ s.heap.get? l = some { cls := .type "list", data := .seq its.toArray n } := by
  obtain ⟨z, its, n, r, e⟩ := I.hok l _ hH
  exact ⟨z, its, n, r, r.length, e⟩

theorem notLongL {n : Nat} (h : n ≤ sizeLine) : Builtin.List.listTooLong n = false := by
  unfold Builtin.List.listTooLong
  exact decide_eq_false (by omega)
end

section
variable {X : Cx}

/-! ### methods -/
def rAppend : V → List V → Hp → VK → Prop := fun x vs H Q => ∃ l xs y, x = .ref l ∧ vs = [y] ∧ H l = some (.lst xs) ∧ xs.length < sizeLine ∧ Q .non (upd H l (.lst (xs ++ [y])))
theorem mt_append : MtM X "list.append" rAppend := by
  intro pins s σ H x vs v us Q I rx rv h
  obtain ⟨l, xs, y, rfl, rfl, hH, hz, q⟩ := h
  cases rx
  obtain ⟨u, rfl, ru⟩ := rv.one
  obtain ⟨z, its, n, r, hl, e⟩ := I.lstM hH
  refine call_meets F.slot_list_append ⟨_, e, rfl⟩ F.entry_list_append (F.args_list_append_2 _ _) (PySem.list_append l its.toArray n u (by rw [List.size_toArray]; omega)) ⟨e, ?_⟩
  refine ⟨.non, _, I.lset (its' := its ++ [u]) hH e (by simp) (r.append (.cons ru .nil)) ?_, rfl, q⟩
  rw [List.length_append, List.length_singleton]
  omega

def rExtend : V → List V → Hp → VK → Prop := fun x vs H Q => ∃ l b xs zs, x = .ref l ∧ vs = [.ref b] ∧ H l = some (.lst xs) ∧ H b = some (.lst zs) ∧ xs.length + zs.length ≤ sizeLine ∧ Q .non (upd H l (.lst (xs ++ zs)))
theorem mt_extend : MtM X "list.extend" rExtend := by
  intro pins s σ H x vs v us Q I rx rv h
  obtain ⟨l, b, xs, zs, rfl, rfl, hH, hB, hz, q⟩ := h
  cases rx
  obtain ⟨u, rfl, ru⟩ := rv.one
  cases ru
  obtain ⟨z, its, n, r, hl, e⟩ := I.lstM hH
  obtain ⟨z2, its2, n2, r2, hl2, e2⟩ := I.lstM hB
  have hsz : its.toArray.size + its2.toArray.size ≤ sizeLine := by rw [List.size_toArray, List.size_toArray]; omega
  have hlong : ¬ (!its.toArray.isEmpty && Builtin.List.listTooLong (its.toArray.size + its2.toArray.size)) = true := by
    rw [notLongL hsz, Bool.and_false]
    exact Bool.false_ne_true
  refine call_meets F.slot_list_extend ⟨_, e, rfl⟩ F.entry_list_extend (F.args_list_extend_2 _ _)
    (AutoSeq1.list_extend_list_list_0 l its.toArray n b its2.toArray n2 hlong (by rw [List.size_toArray]; omega) (by omega)) ⟨e, e2, ?_⟩
  refine ⟨.non, _, I.lset (its' := its ++ its2) hH e (by simp) (r.append r2) ?_, rfl, q⟩
  rw [List.length_append]
  omega

/-! ### list + list, list += list, list * int -/
def rCat : R2 := fun x y H Q => ∃ l b xs zs, x = .ref l ∧ y = .ref b ∧ H l = some (.lst xs) ∧ H b = some (.lst zs) ∧ xs.length + zs.length ≤ sizeLine ∧ ∀ p, H p = none → Q (.ref p) (upd H p (.lst (xs ++ zs)))
theorem op_cat : OpR X (binaryOp .Add) rCat := by
  intro pins s σ H x y v u Q I rx ry h
  obtain ⟨l, b, xs, zs, rfl, rfl, hH, hB, hz, q⟩ := h
  cases rx
  cases ry
  obtain ⟨z, its, n, r, hl, e⟩ := I.lstM hH
  obtain ⟨z2, its2, n2, r2, hl2, e2⟩ := I.lstM hB
  refine PySem.P.add_list e e2 ?_ (by rw [List.size_toArray, List.size_toArray]; omega)
  have ea : its.toArray ++ its2.toArray = (its ++ its2).toArray := by simp
  rw [ea]
  exact ⟨.ref _, _, I.lnew (t' := s.toks) (r.append r2) (by rw [List.length_append]; omega), rfl, q _ I.fresh⟩
/-! ### del xs[i] -/
end

/-! ### xs[a:b] = ys -/
section
variable {prog : Program} {w : World} {A : Around} {E : Value → Shared → Prop} {s : Shared}
set_option maxRecDepth 100000 in
end

section
variable {X : Cx}
end
end L2

namespace Att
open PySem PySem.W PySem.Calls PyProof.Rows

/-! ### the script -/
theorem ints_of_wellAll {P : Params} {h : Heap} : ∀ (ns : List Int) (vs : List Value), WellAll P h vs (ns.map WData.int) → IntsAre vs ns := by
  intro ns
  induction ns with
  | nil =>
    intro vs w
    rw [List.map_nil] at w
    cases w
    exact .nil
  | cons n ns ih =>
    intro vs w
    rw [List.map_cons] at w
    cases w with
    | cons a b =>
      cases a
      exact .cons _ _ (ih _ b)

theorem script_of {l : OpenLaw} {n : Nat} (hn : l.most = some n) {P : Params} {h : Heap} {args : List WData} {vals : List Value}
    (hpre : l.row.toRowW.claim.pre args = true) (hwl : WellAll P h vals args) :
    ∃ a vs ns, vals = [Value.ref a] ∧ args = [WData.list (ns.map WData.int)] ∧ h.get? a = some { cls := .type "list", data := .seq vs.toArray } ∧ IntsAre vs ns ∧ ns.length ≤ n := by
  have hsh : WShape.hasAll [] args [.list .int] = true := (pre_splitW hpre).1
  have hc : l.pre.holds [] { args := args } = true := (pre_splitW hpre).2
  obtain ⟨d, r, rfl, h1, h2⟩ := hasAllW_cons hsh
  obtain rfl := hasAllW_nil h2
  obtain ⟨xs, rfl, h3⟩ := hasW_list h1
  obtain ⟨ns, rfl⟩ := items_int h3
  have hlen : ns.length ≤ n := by
    unfold OpenLaw.pre at hc
    have h4 : (WTm.not (.lt (.lit (.int (n : Int))) (.len (.arg 0)))).holds [] { args := [.list (ns.map .int)] } = true := by
      have h4 := (holds_andW hc).1
      rw [hn] at h4
      exact h4
    have h5 := condW_of h4 (w_not (w_lt w_lit (w_len_list (w_arg rfl))))
    rw [List.length_map] at h5
    refine Nat.le_of_not_lt fun q => ?_
    have q' : (n : Int) < ((ns.length : Nat) : Int) := by omega
    first
      | (rw [decide_eq_true q'] at h5; exact absurd h5 (by decide))
      | (simp at h5; omega)
  cases hwl with
  | cons w1 w2 =>
    cases w2
    cases w1 with
    | list ho hall => exact ⟨_, _, ns, rfl, rfl, ho, ints_of_wellAll ns _ hall, hlen⟩

theorem post_true (l : OpenLaw) (args : List WData) : l.row.toRowW.claim.post args (.bool true) args = true :=
  postW_of (r := l.row.toRowW) (X := (true == true))
    (show WShape.has [] (.bool true) .bool = true by first | rfl | decide | simp [WShape.has, WShape.arms, WShape.armsAll])
    (show (WTm.eq .res (.lit (.bool true))).value [] { args := args, res := some (.bool true), after := args } = some (.bool (true == true)) from w_eq_bool (w_res rfl) w_lit) rfl

/-! ### the attachment: holds_open's last premise (the goal 'hc' behind k_head) from a wpAny of the law's body -/
/-- the same from a codeAny of the CALL (for a layer whose function contracts speak of calls) -/
theorem attach_call {l : OpenLaw} {n : Nat} {q : Program} {loose : List Str} {XP : (Str → Option Value) → Heap → Prop} {YP : World → Heap → Prop} {d : DefRec}
    (hn : l.most = some n) (hdf : d.params.defaults = [])
    (call : ∀ (w : World) (s₀ s₁ : Shared) (mg mb : Str → Option Value) (fa : Addr) (o : Obj) (pm cd doc : Value) (a : Addr) (vs : List Value) (ns : List Int),
      Ground q loose [] XP w s₀ mg mb s₁.heap → YP w s₁.heap →
      s₁.heap.get? fa = some o → o.data = .func (docDef d.name d.params d.body d.scope pm cd doc) → s₁.heap.CodeRec cd d.name → mg d.name = some (.ref fa) →
      s₁.heap.get? a = some { cls := .type "list", data := .seq vs.toArray } → IntsAre vs ns → ns.length ≤ n → s₁.gens = #[] →
      codeAny (model l.prog w) callerA (.call (.ref fa) ⟨[.ref a], []⟩) (fun r s' => r = .ok (.ret (.bool true)) ∧ OldK s₁.heap s'.heap ∧ s'.os = s₁.os ∧ AllBare s'.gens) s₁) :
    WalkO q loose XP YP l.row.toRowW d [] (fun f vs => PySem.call f vs) := by
  intro w s₀ s₁ mg mb G Y fa o pm cd doc dV kV ho hd hcd hD hmg hg args vals as hpre hlay hrd hwl hlo
  obtain rfl : dV = .none := Dflts.none hD hdf
  obtain rfl : kV = .none := Dflts.noKw hD
  obtain ⟨a, vs, ns, rfl, rfl, hobj, hints, hlen⟩ := script_of hn hpre hwl
  refine enter_call (codeAny_mono (call w s₀ s₁ mg mb fa o pm cd doc a vs ns G Y ho (fd_plain hd) hcd hmg hobj hints hlen hg) fun r s' hq => ?_)
  obtain ⟨rfl, h2, h3, h4⟩ := hq
  exact ⟨.inl ⟨.bool true, .bool true, [], rfl, fun _ => rfl, .bool true, post_true l _, fun _ => ⟨List.Pairwise.nil, fun _ hm => (nomatch hm)⟩⟩, h2, h3, h4⟩

/-! ### rules over ANY heap (no ledger) from facts about the written part K: the library's own take a ledger (News) for what they write -/
section
variable {prog : Program} {w : World} {A : Around} {E : Value → Shared → Prop} {s : Shared} {K : Frag}

/-! the whole heap as the ledger: makes every rule that writes through a ledger a rule over any heap -/
def ledger (h : Heap) (L d : Addr) : List (Addr × Obj) := (List.range h.objs.size).filterMap fun a => if a = L ∨ a = d then none else (h.get? a).map fun o => (a, o)
end
end Att

namespace L2
open PySem PySem.Spec PyProof.Rows

theorem vals_ints : ∀ {vs : List Value} {ns : List Int}, IntsAre vs ns → Vals (ns.map V.int) vs
  | _, _, .nil => .nil
  | _, _, .cons n t h => .cons ⟨t, rfl⟩ (vals_ints h)

/-- nothing is tracked but the script, known to the object (or it is an object of the module) -/
def Only (H : Hp) : Prop := ∀ b, H b = none ∨ ∃ o xs, H b = some (.frz o (.lst xs))

/-- THE HEAD: the law's promise, at the heap behind the top. F, the promise of the law's def, may use that base is part of the heap (so K.In base, base.Ns mainGlobals mg stand in Mod) -/
theorem law_call {P : Program} {w : World} {K : PySem.W.Frag} {mg mb : Str → Option Value} {CX : CXT} {k : Nat} {fa a : Addr} {fd : FuncData} {x : Str} {sp : Sp} {s₁ : Shared} {vs : List Value} {ns : List Int}
    (KX : K.In s₁.heap) (hns : s₁.heap.Ns mainGlobals mg) (hb : s₁.heap.Ns builtinsNs mb) (hbb : ∀ x : Str, x ≠ "__name__" → mb x = bootBuiltins x) (hlim : s₁.heap.NoLimit) (hg : s₁.gens = #[])
    (ha : s₁.heap.get? a = some { cls := .type "list", data := .seq vs.toArray }) (hi : IntsAre vs ns) (hl : ns.length ≤ sizeLine) (hr : Room k callerA)
    (F : ∀ base : Heap, K.In base → base.Ns mainGlobals mg → FnOk P w K mg base CX k fa fd [x] sp) (hbind : ∀ (s : Shared) (u : Value), BindsTo s fd ⟨[u], []⟩ [(x, u)])
    (hsp : ∀ H : Hp, Only H → SqL K H a (ns.map V.int) → sp [.ref a] H (fun v _ => v = .bl true) fun _ _ _ => False)
    (hCX : ∀ H e s', CX [] H s₁ (fun _ _ _ => False) e s' → False) :
    codeAny (model P w) callerA (.call (.ref fa) ⟨[.ref a], []⟩) (fun r s' => r = .ok (.ret (.bool true)) ∧ OldK s₁.heap s'.heap ∧ s'.os = s₁.os ∧ AllBare s'.gens) s₁ := by
  have rv := vals_ints hi
  have lenV := hi.length
  -- from an abstract heap in which nothing but the script may be tracked
  have core : ∀ H : Hp, Only H → SqL K H a (ns.map V.int) → HOk P w H s₁.heap → (∀ b, H b ≠ none → b = a) → (H a ≠ none → K.lookup a = none) →
      codeAny (model P w) callerA (.call (.ref fa) ⟨[.ref a], []⟩) (fun r s' => r = .ok (.ret (.bool true)) ∧ OldK s₁.heap s'.heap ∧ s'.os = s₁.os ∧ AllBare s'.gens) s₁ := by
    intro H hO hS hok hA hK
    have base_of : ∀ {b : Addr} {o : Obj}, s₁.heap.get? b = some o → H b = none → (hidT s₁.heap H).get? b = some o := fun e n => hidT_get e n
    have noA : ∀ {b : Addr} {o : Obj} {es : Array DictEntry} {ep : Nat}, s₁.heap.get? b = some o → o.data = .dict es ep → H b = none := fun {b o es ep} e d => by
      cases q : H b with
      | none => rfl
      | some u =>
        have e' : b = a := hA b (by rw [q]; simp)
        subst e'
        rw [ha] at e; cases e
        have d' : Data.seq vs.toArray _ = Data.dict es ep := d
        cases d'
    have nsK : ∀ {b : Addr} {m : Str → Option Value}, s₁.heap.Ns b m → (hidT s₁.heap H).Ns b m := fun {b m} ⟨o, es, ep, e, d, r⟩ => ⟨o, es, ep, base_of e (noA e d), d, r⟩
    have hKb : K.In (hidT s₁.heap H) := fun b o e => base_of (KX b o e) (by
      cases q : H b with
      | none => rfl
      | some u =>
        have e' : b = a := hA b (by rw [q]; simp)
        subst e'
        rw [hK (by rw [q]; simp)] at e; cases e)
    have hM : Mod K mg (hidT s₁.heap H) := ⟨hKb, nsK hns, ⟨mb, nsK hb, hbb⟩, let ⟨mc, h1, h2⟩ := hlim; ⟨mc, nsK h1, h2⟩⟩
    have e0 : Env0 P w K mg (hidT s₁.heap H) callerA [] s₁ H := ⟨rfl, hM, fun b o e => of_hidT e, Nat.le_of_eq (hidT_size _ _), trivial, fun b hb => absurd (show b ∈ ([] : List Addr) from hb) (by simp), hok, .of_eq hg⟩
    refine codeAny_mono ((F _ hKb (nsK hns)).run callerA [] s₁ H ⟨[.ref a], []⟩ [.ref a] [.ref a] _ _ hr e0 (hbind s₁ (.ref a)) (.cons rfl .nil) (hsp H hO hS)) fun r s' h => ?_
    cases r with
    | error e => exact (hCX H e s' h).elim
    | ok fl =>
      cases fl with
      | next => exact False.elim h
      | brk => exact False.elim h
      | cont => exact False.elim h
      | ret u =>
        obtain ⟨v, H', os, bare, un, hok', r', q⟩ := h
        have q' : v = .bl true := q
        subst q'
        obtain rfl : u = Value.bool true := r'
        refine ⟨rfl, OldK.of_keep fun b o e => ?_, os, bare⟩
        cases q : H b with
        | none => exact un.keep b o e q (by intro z; exact absurd (show b ∈ ([] : List Addr) from z) (by simp)) (by simp)
        | some u =>
          rcases hO b with z | ⟨ob, xs, z⟩
          · rw [q] at z; cases z
          · have z2 := un.frzs b ob _ z
            obtain ⟨e1, _⟩ := hok b _ z
            obtain ⟨e2, _⟩ := hok' b _ z2
            rw [e] at e1; cases e1
            exact e2
  cases hk : K.lookup a with
  | some o =>
    -- the script is one of the module's own objects
    have e := KX a o hk
    rw [ha] at e
    cases e
    refine core (fun _ => none) (fun _ => .inl rfl) (.inr ⟨_, vs.toArray, _, hk, rfl, rfl, rfl, by rw [List.size_toArray, lenV]; exact hl, by simpa using rv⟩) (fun b u z => by have z' : (none : Option HO) = some u := z; cases z') (fun b z => absurd rfl z) fun z => absurd rfl z
  | none =>
    refine core (fun b => if b = a then some (.frz { cls := .type "list", data := .seq vs.toArray } (.lst (ns.map V.int))) else none) (fun b => ?_) (.inl (.inr ⟨{ cls := .type "list", data := .seq vs.toArray }, if_pos rfl⟩)) (fun b u z => ?_) (fun b z => ?_) fun _ => hk
    · by_cases hb : b = a
      · exact .inr ⟨_, _, if_pos hb⟩
      · exact .inl (if_neg hb)
    · by_cases hb : b = a
      · have z' := (if_pos hb).symm.trans z
        cases z'
        subst hb
        exact ⟨ha, by rw [List.length_map]; exact hl, vs, _, rv, ha⟩
      · have z' := (if_neg hb).symm.trans z
        cases z'
    · by_cases hb : b = a
      · exact hb
      · exact absurd (if_neg hb) z
end L2

namespace L2
open PySem PySem.Spec PyProof.Rows

abbrev KOf {K : PySem.W.Frag} {h : Heap} (_ : K.In h) : PySem.W.Frag := K

/-- the goal that k_head leaves (case hc), from the law's promise. F gives the function object fd (K's own) once, then the promise over every base -/
theorem walk_of {l : PySem.W.OpenLaw} {n k : Nat} {q : Program} {loose : List Str} {XP : (Str → Option Value) → Heap → Prop} {YP : World → Heap → Prop} {d : DefRec} {K : Params → PySem.W.Frag} {CX : World → CXT} {sp : World → Sp} {x : Str}
    (hn : l.most = some n) (hn2 : n ≤ sizeLine) (hdf : d.params.defaults = []) (hr : Room k callerA)
    (hY : ∀ (w : World) (h : Heap), YP w h → (K w.params).In h)
    (F : ∀ (w : World) (mg : Str → Option Value) (fa : Addr) (h : Heap), (K w.params).In h → h.Ns mainGlobals mg → mg d.name = some (.ref fa) →
      ∃ fd : FuncData, (∀ (s : Shared) (u : Value), BindsTo s fd ⟨[u], []⟩ [(x, u)]) ∧
        ∀ base : Heap, (K w.params).In base → base.Ns mainGlobals mg → FnOk l.prog w (K w.params) mg base (CX w) k fa fd [x] (sp w))
    (hsp : ∀ (w : World) (H : Hp) (a : Addr) (ns : List Int), ns.length ≤ n → Only H → SqL (K w.params) H a (ns.map V.int) → sp w [.ref a] H (fun v _ => v = .bl true) fun _ _ _ => False)
    (hCX : ∀ (w : World) (H : Hp) (s : Shared) (e : Value) (s' : Shared), CX w [] H s (fun _ _ _ => False) e s' → False) :
    PySem.W.WalkO q loose XP YP l.row.toRowW d [] (fun f vs => PySem.call f vs) := by
  refine Att.attach_call hn hdf fun w s₀ s₁ mg mb fa o pm cd doc a vs ns G Y ho hd hcd hmg hobj hints hlen hg => ?_
  have KX := hY w _ Y
  obtain ⟨fd, hb, hF⟩ := F w mg fa _ KX G.T.g hmg
  exact law_call KX G.T.g G.T.b G.T.builtins G.T.nolimit hg hobj hints (Nat.le_trans hlen hn2) hr hF hb (fun H hO hS => hsp w H a ns hlen hO hS) fun H e s' => hCX w H s₁ e s'
end L2

/- THE LAST THEOREM (shape; LID, My.* are yours):
   My.Adr: a structure of the addresses that your layer names (classes, functions); My.Txt K t: a structure (Prop) of the equations over K;
   My.txt_mk : {K} {implicit addresses ..} (e1 : nsIn K mainGlobals "law" = some (some (.ref f))) (e2 : K.lookup f = some ⟨oc, od, .func (fnOf "law" "law" params body scope dV kV doc pm an cdv ct), sl⟩) (e3 : codeIn K cdv "law" = true) .. : ∃ t, My.Txt K t

set_option maxRecDepth 100000 in
set_option maxHeartbeats 0 in
theorem PySem.Challenge.cw_LID_holds : PySem.Challenge.rw_LID.Holds := by
  w_on; o_law; k_head; (case hw => w_witness2)
  k_fill
  refine L2.walk_of (l := PySem.Challenge.rw_LID) (n := 63) (k := 40) (x := "script") (CX := fun w => ..) (sp := fun _ => My.sp_law) rfl (by decide) rfl ⟨rfl, by decide, by decide⟩ (fun w h Y => PySem.W.kIn_of Y) ?F ?S ?C
  case F =>
    intro w mg fa h KX G hmg
    have T : ∃ t, My.Txt (L2.KOf KX) t := by
      dsimp only [L2.KOf]                          -- K must stand as «<heap const> w.params» for k_is
      refine' My.txt_mk ?e1 ?e2 ?e3 ..
      (case e1 => PySem.W.k_is)                    -- in the order: a name -> its address -> its object -> its parts
      (case e2 => PySem.W.k_is)
      ..
    obtain ⟨t, T⟩ := T
    have e0 := hmg.symm.trans (PySem.W.mg_of KX G T.law)
    cases e0                                       -- fa is the law's own address
    exact ⟨_, fun s u => .of_eq rfl, fun base kb nb => My.law_fn T kb nb⟩     -- if «.of_eq rfl» comes too early: refine' ⟨_, ?b, fun base kb nb => My.law_fn T kb nb⟩; exact fun s u => .of_eq rfl
  case S => exact fun w H a ns hl hO hS => ..
  case C => exact ..
(the tactic k_is has no namespace: write k_is) -/

/-! SHORT WORDS over the layer: a def of the text, its body, what a loop and a test want. -/
namespace L2
open PySem PySem.Spec PyProof.Rows

/-! ### the text by places -/
/-- the j-th statement of a class's body -/
def inClass (s : Stmt) (j : Nat) : Stmt := match s with
  | .ClassDef _ _ _ body _ _ _ _ _ _ _ => body.getD j (.Pass ⟨0, 0, 0, 0⟩)
  | _ => .Pass ⟨0, 0, 0, 0⟩
def defArgs (s : Stmt) : Arguments := match s with
  | .FunctionDef _ a _ _ _ _ _ _ _ _ => a
  | _ => { posonlyargs := [], args := [], vararg := none, kwonlyargs := [], kw_defaults := [], kwarg := none, defaults := [] }
def defBody (s : Stmt) : List Stmt := match s with
  | .FunctionDef _ _ b _ _ _ _ _ _ _ => b
  | _ => []
def defScope (s : Stmt) : Scope := match s with
  | .FunctionDef _ _ _ _ _ _ sc _ _ _ => sc
  | _ => { kind := .function, names := [], isGenerator := false, isCoroutine := false }

/-! ### no exception leaves a def -/
abbrev CX0 : CXT := fun _ _ _ _ _ _ => False
abbrev E0 : XK := fun _ _ _ => False
theorem pass0 {X : Cx} : Passes CX0 X E0 := fun _ _ _ _ _ _ _ h => h.elim

/-! ### a def (or method) of the text as it stands behind the top -/
structure Fun (K : PySem.W.Frag) (x qual : Str) (st : Stmt) (f : Addr) (fd : FuncData) : Prop where
  ex : ∃ (oc : Value) (od : Option Addr) (kV doc pm : Value) (an : Option Addr) (cdv ct : Value) (osl : Array (Option Value)),
    fd = PySem.W.fnOf x qual (defArgs st) (defBody st) (defScope st) .none kV doc pm an cdv ct ∧ K.lookup f = some ⟨oc, od, .func fd, osl⟩ ∧ PySem.W.codeIn K cdv qual = true
  kp : PySem.W.keepIn K (.ref f) = true
section
variable {P : Program} {w : World} {K : PySem.W.Frag} {mg : Str → Option Value} {base : Heap}
/-- THE RULE for a def: its body as a term of rules, and the reading of that term -/
theorem Fun.ok {x qual : Str} {st : Stmt} {f : Addr} {fd : FuncData} {N ps : List Str} {k : Nat} {sp : Sp} (F : Fun K x qual st f fd) (S : FnScope N ps (defScope st)) (len : ∀ vs H Q E, sp vs H Q E → vs.length = ps.length)
    (hbody : ∀ (cdv : Value) (A : Around) (outer : List Env) (s : Shared) (H : Hp) (vs : List V) (Q : VK) (E : XK), Room k (A.deeper (envOfC qual (defScope st) s.heap.objs.size f cdv)) → sp vs H Q E →
      ∃ t, PSs (cxOf CX0 P w K mg base N qual (defScope st) f cdv A outer s H E).nox (defBody st) t ∧ t { nx := fun _ H' => Q .non H', rt := Q } (start N vs) H) : FnOk P w K mg base CX0 (k + 1) f fd ps sp := by
  obtain ⟨oc, od, kV, doc, pm, an, cdv, ct, osl, rfl, lk, hcd⟩ := F.ex
  refine fn_of lk hcd S len fun A outer s H vs Q E hr hsp => ?_
  obtain ⟨t, h, q⟩ := hbody cdv A outer s H vs Q E hr hsp
  exact ⟨t, h.nox, q⟩
/-- how its arguments bind (no defaults): h is «fun _ _ _ _ _ _ us hl => match us, hl with | [_, _], _ => rfl», one _ a parameter -/
theorem Fun.binds {x qual : Str} {st : Stmt} {f : Addr} {fd : FuncData} {ps : List Str} (F : Fun K x qual st f fd)
    (h : ∀ (kV doc pm : Value) (an : Option Addr) (cdv ct : Value) (us : List Value), us.length = ps.length → bindArgs (PySem.W.fnOf x qual (defArgs st) (defBody st) (defScope st) .none kV doc pm an cdv ct) ⟨us, []⟩ = pure (ps.zip us)) : Binds K fd ps [] := by
  obtain ⟨oc, od, kV, doc, pm, an, cdv, ct, osl, rfl, lk, hcd⟩ := F.ex
  exact .all (h kV doc pm an cdv ct)
theorem fun_mk {x qual : Str} {st : Stmt} {f : Addr} {oc : Value} {od an : Option Addr} {osl : Array (Option Value)} {kV doc pm cdv ct : Value} (l : K.lookup f = some ⟨oc, od, .func (PySem.W.fnOf x qual (defArgs st) (defBody st) (defScope st) .none kV doc pm an cdv ct), osl⟩)
    (c : PySem.W.codeIn K cdv qual = true) (k : PySem.W.keepIn K (.ref f) = true) : Fun K x qual st f (PySem.W.fnOf x qual (defArgs st) (defBody st) (defScope st) .none kV doc pm an cdv ct) := ⟨⟨oc, od, kV, doc, pm, an, cdv, ct, osl, rfl, l, c⟩, k⟩
end
theorem small1000 {n : Nat} (h : n ≤ 1000) : n < sizeLine := Nat.lt_of_le_of_lt h (by decide)

/-! ### expressions in short: the name that stands in the i-th slot -/
section
variable {X : Cx}
theorem pv (i : Nat) {x : Str} {pos : Pos} (hN : X.N[i]? = some x := by rfl) (hv : Vis X.env.scope x := by first | exact Or.inl rfl | exact Or.inr (Or.inl rfl) | exact Or.inr (Or.inr rfl)) (hd : (x == ("__debug__" : Str)) = false := by decide)
    (hcd : (x == ("__classdict__" : Str)) = false := by decide) : PE X (.Name x pos) (tVar i) := pe_var hN hv hd hcd
end

/-! ### tests -/
theorem iteF {A B : Prop} (h : B) : if false = true then A else B := by
  rw [if_neg Bool.false_ne_true]
  exact h
theorem iteT {A B : Prop} (h : A) : if true = true then A else B := by
  rw [if_pos rfl]
  exact h
theorem ite2 {c A B : Prop} [Decidable c] (h1 : c → A) (h2 : ¬ c → B) : if c then A else B := by
  by_cases h : c
  · rw [if_pos h]
    exact h1 h
  · rw [if_neg h]
    exact h2 h
theorem iteNS {c A B : Prop} [Decidable c] (hc : c) (h : B) : if (!decide c) = true then A else B := by
  rw [decide_eq_true hc]
  exact iteF h

/-! ### heaps -/
/-- all that was tracked is as it was -/
def Same (H H' : Hp) : Prop := ∀ b o, H b = some o → H' b = some o
theorem Same.refl (H : Hp) : Same H H := fun _ _ h => h
theorem Same.trans {H H1 H2 : Hp} (a : Same H H1) (b : Same H1 H2) : Same H H2 := fun c o h => b c o (a c o h)
theorem Same.free {H H' : Hp} (e : Same H H') {l : Addr} (h : H' l = Option.none) : H l = Option.none := by
  cases q : H l with
  | none => rfl
  | some o =>
    rw [e l o q] at h
    cases h
theorem Same.seq {K : PySem.W.Frag} {H H' : Hp} {a : Addr} {xs : List V} (e : Same H H') (h : SqL K H a xs) : SqL K H' a xs := by
  rcases h with (h | ⟨o, h⟩) | h
  · exact .inl (.inl (e _ _ h))
  · exact .inl (.inr ⟨o, e _ _ h⟩)
  · exact .inr h

end L2
set_option maxRecDepth 100000
set_option maxHeartbeats 1000000
namespace PySem
open Sem (wp)
open AutoSeq1 (wpAny_loadPart')
section
variable {prog : Program} {w : World} {A : Around} {E : Value → Shared → Prop} {s : Shared}
end
section
variable {prog : Program} {w : World} {A : Around} {E : Value → Shared → Prop} {s : Shared}
/-- the next pair of an enumerate whose count stands at j while its list stands at i -/
theorem next_enumJ {e it l : Addr} {i : Nat} {j : Int} {items : Array Value} {x old : Value} {Q : Option Value → Shared → Prop}
    (he : IsEnum s.heap e it j old) (hit : s.heap.IsListIter it l i) (hl : s.heap.IsList l items) (hx : items[i]? = some x) (hne : e ≠ it)
    (hQ : ∀ h', IsEnumOut h' e it (j + 1) x s.heap.objs.size → h'.IsListIter it l (i + 1) →
      h'.get? s.heap.objs.size = some { cls := .type "tuple", data := .seq #[.int j s.toks, x] } → h'.objs.size = s.heap.objs.size + 1 →
      (∀ b o, b ≠ e → b ≠ it → s.heap.get? b = some o → h'.get? b = some o) → Q (some (.ref s.heap.objs.size)) { s with heap := h', toks := s.toks + 1 }) :
    wpAny (model prog w) A (pyNext (.ref e)) Q E s := by
  have hT : s.TypeIs (.ref e) "enumerate" := ⟨_, he, rfl⟩
  unfold pyNext
  refine wpAny_bind (wpAny_attempt (wpAny_callSpecial?_slot (name := Str.ofString "__next__") hT F.slot_enumerate_next (wpAny_call_entry F.slot_enumerate_next hT F.entry_enumerate_next ?_ (F.args_enumerate_next_1 _))))
  have lt : e < s.heap.objs.size := Heap.lt_size he
  obtain ⟨hp, g, d, tk, os⟩ := s
  have he : IsEnum hp e it j old := he
  have lt : e < hp.objs.size := lt
  show wpAny _ _ (field (.ref e) 2 >>= _) _ _ _
  refine wpAny_bind (wpAny_field he rfl (x := .ref it) rfl (wpAny_bind (wpAny_nextOf_list_item hit hl hx fun h1 hit1 sb1 => ?_)))
  have sb1 : Heap.SameBut it hp h1 := sb1
  have e1 : IsEnum h1 e it j old := (sb1.2 e hne).trans he
  show wpAny _ _ (field (.ref e) 3 >>= _) _ _ ⟨h1, g, d, tk, os⟩
  refine wpAny_bind (wpAny_field e1 rfl (x := rawInt j) rfl ?_)
  show wpAny _ _ (field (.ref e) 4 >>= _) _ _ ⟨h1, g, d, tk, os⟩
  refine wpAny_bind (wpAny_field e1 rfl (x := .none) rfl ?_)
  show wpAny _ _ (mkInt j >>= _) _ _ ⟨h1, g, d, tk, os⟩
  refine wpAny_bind (wpAny_mkInt ?_)
  show wpAny _ _ (setField (.ref e) 3 (rawInt (j + 1)) >>= _) _ _ ⟨h1, g, d, tk + 1, os⟩
  refine wpAny_bind (wpAny_setField_rec e1 (by simp) fun h2 e2 sb2 => ?_)
  have sb2 : Heap.SameBut e h1 h2 := sb2
  have e2 : IsEnum h2 e it (j + 1) old := e2
  show wpAny _ _ (setField (.ref e) 4 .none >>= _) _ _ ⟨h2, g, d, tk + 1, os⟩
  refine wpAny_bind (wpAny_setField_rec e2 (by simp) fun h3 e3 sb3 => ?_)
  have sb3 : Heap.SameBut e h2 h3 := sb3
  have e3 : IsEnum h3 e it (j + 1) old := e3
  have z3 : h3.objs.size = hp.objs.size := by rw [sb3.1, sb2.1, sb1.1]
  have k3 : ∀ b o, b ≠ e → b ≠ it → hp.get? b = some o → h3.get? b = some o := fun b o hbe hbi hb => sb3.extBut b o hbe (sb2.extBut b o hbe (sb1.extBut b o hbi hb))
  have it3 : h3.IsListIter it l (i + 1) := (hit1.extBut sb2.extBut (Ne.symm hne)).extBut sb3.extBut (Ne.symm hne)
  show wpAny _ _ (newTuple [.int j tk, x] >>= _) _ _ ⟨h3, g, d, tk + 1, os⟩
  refine wpAny_bind (wpAny_newTuple ?_)
  generalize q4 : h3.push { cls := .type "tuple", data := .seq #[.int j tk, x] } = h4
  have e4 : IsEnum h4 e it (j + 1) old := by rw [← q4]; exact Heap.get?_push_of_some _ e3
  have t4 : h4.get? hp.objs.size = some { cls := .type "tuple", data := .seq #[.int j tk, x] } := by rw [← q4, ← z3]; exact Heap.get?_push_size _ rfl
  have z4 : h4.objs.size = hp.objs.size + 1 := by rw [← q4, Heap.size_push, z3]
  have k4 : ∀ b o, b ≠ e → b ≠ it → hp.get? b = some o → h4.get? b = some o := fun b o hbe hbi hb => by rw [← q4]; exact Heap.get?_push_of_some _ (k3 b o hbe hbi hb)
  have it4 : h4.IsListIter it l (i + 1) := by
    obtain ⟨o, ho, r⟩ := it3
    exact ⟨o, by rw [← q4]; exact Heap.get?_push_of_some _ ho, r⟩
  show wpAny _ _ (Builtin.SmallTypes.ownedTupleIsFree (.ref e) >>= _) _ _ ⟨h4, g, d, tk + 1, os⟩
  have q4' : (({ heap := h3, gens := g, drawn := d, toks := tk + 1, os := os } : Shared).heap.push { cls := .type "tuple", data := .seq #[.int j tk, x] }) = h4 := q4
  rw [z3]
  clear q4 q4' e3 sb3 e2 sb2 e1 sb1 hit1 it3 k3 z3
  refine wpAny_bind ?_
  unfold Builtin.SmallTypes.ownedTupleIsFree
  refine wpAny_bind (wpAny_field e4 rfl (x := .none) rfl (wpAny_pure ?_))
  simp only [if_true]
  refine wpAny_bind (wpAny_rule (wpAny_bind (wpAny_field e4 rfl (x := old) rfl (wpAny_bind (wpAny_setField_rec e4 (by simp) fun h5 e5 sb5 => ?_)))))
  have sb5 : Heap.SameBut e h4 h5 := sb5
  have e5 : IsEnum h5 e it (j + 1) x := e5
  show wpAny _ _ (Builtin.SmallTypes.ownedTupleHandOut (.ref e) (.ref hp.objs.size) >>= _) _ _ ⟨h5, g, d, tk + 1, os⟩
  refine wpAny_bind ?_
  unfold Builtin.SmallTypes.ownedTupleHandOut
  refine wpAny_bind (wpAny_setField_rec e5 (by simp) fun h6 e6 sb6 => ?_)
  have sb6 : Heap.SameBut e h5 h6 := sb6
  have e6 : IsEnumOut h6 e it (j + 1) x hp.objs.size := e6
  refine wpAny_setField_rec e6 (by simp) fun h7 e7 sb7 => ?_
  have sb7 : Heap.SameBut e h6 h7 := sb7
  have e7 : IsEnumOut h7 e it (j + 1) x hp.objs.size := e7
  have up : ∀ b o, b ≠ e → h4.get? b = some o → h7.get? b = some o := fun b o hb q => sb7.extBut b o hb (sb6.extBut b o hb (sb5.extBut b o hb q))
  refine wpAny_bind (wpAny_letGo (wpAny_pure ⟨_, rfl, wpAny_pure (hQ h7 e7 ?_ (up _ _ (Nat.ne_of_gt lt) t4) (by rw [sb7.1, sb6.1, sb5.1, z4]) fun b o hbe hbi hb => up b o hbe (k4 b o hbe hbi hb))⟩))
  exact ((it4.extBut sb5.extBut (Ne.symm hne)).extBut sb6.extBut (Ne.symm hne)).extBut sb7.extBut (Ne.symm hne)
theorem done_enumJ {e it l : Addr} {i : Nat} {j : Int} {items : Array Value} {old : Value} {Q : Option Value → Shared → Prop} (hh : A.handled = none)
    (he : IsEnum s.heap e it j old) (hit : s.heap.IsListIter it l i) (hl : s.heap.IsList l items) (hx : items[i]? = none)
    (hQ : ∀ h', Heap.ExtBut it s.heap h' → Q none { s with heap := h' }) : wpAny (model prog w) A (pyNext (.ref e)) Q E s := by
  have hT : s.TypeIs (.ref e) "enumerate" := ⟨_, he, rfl⟩
  unfold pyNext
  refine wpAny_bind (wpAny_attempt (wpAny_callSpecial?_slot (name := Str.ofString "__next__") hT F.slot_enumerate_next (wpAny_call_entry F.slot_enumerate_next hT F.entry_enumerate_next ?_ (F.args_enumerate_next_1 _))))
  show wpAny _ _ (field (.ref e) 2 >>= _) _ _ _
  refine wpAny_bind (wpAny_field he rfl (x := .ref it) rfl (wpAny_bind (wpAny_nextOf_list_end hh hit hl hx fun h' x eb ⟨o, ho, hc⟩ => ?_)))
  exact wpAny_bind (wpAny_isInstance (T := "StopIteration") (b := true) ⟨o, ho, hc⟩ isSubtype_stop (wpAny_pure (hQ _ eb)))
end
end PySem
set_option Elab.async false
set_option linter.all false
set_option maxRecDepth 100000
set_option maxHeartbeats 1000000
/-! COMPREHENSIONS over the hand layer: a block of its own, whose names may be captured ones -/
namespace L2
open PySem PySem.Spec PyProof.Rows

/-! ### the cells of a comprehension's block -/
def closL (cells : List (Str × Addr)) (names : List (Str × NameKind)) : List (Str × Addr) :=
  (names.filterMap fun y => if y.2 == .free then (cells.lookup y.1).map (fun c => (y.1, c)) else none).reverse
theorem closL_mem {cells : List (Str × Addr)} {names : List (Str × NameKind)} {x : Str} {c : Addr} (h : (x, c) ∈ closL cells names) : (x, NameKind.free) ∈ names ∧ cells.lookup x = some c := by
  unfold closL at h
  rw [List.mem_reverse, List.mem_filterMap] at h
  obtain ⟨⟨y, k⟩, hy, e⟩ := h
  by_cases hk : k = .free
  · subst hk
    simp only [beq_self_eq_true, if_true] at e
    cases q : cells.lookup y with
    | none => rw [q] at e; cases e
    | some d =>
      rw [q] at e
      cases e
      exact ⟨hy, q⟩
  · have hb : (k == NameKind.free) = false := by simpa using hk
    simp [hb] at e
theorem lookup_of_mem {α : Type} : ∀ {l : List (Str × α)} {x : Str} {c : α}, (x, c) ∈ l → ∃ d, l.lookup x = some d
  | (k, v) :: r, x, c, h => by
    rw [List.lookup_cons]
    cases hb : x == k with
    | true => exact ⟨v, rfl⟩
    | false =>
      rcases List.mem_cons.mp h with e | h
      · cases e
        simp at hb
      · exact lookup_of_mem h
theorem closL_look {cells : List (Str × Addr)} {names : List (Str × NameKind)} {x : Str} {c : Addr} (h : (closL cells names).lookup x = some c) : (x, NameKind.free) ∈ names ∧ cells.lookup x = some c :=
  closL_mem (PySem.mem_of_lookup h)
theorem closL_has {cells : List (Str × Addr)} {names : List (Str × NameKind)} {x : Str} {c : Addr} (h : (x, NameKind.free) ∈ names) (hc : cells.lookup x = some c) : (closL cells names).lookup x = some c := by
  have hm : (x, c) ∈ closL cells names := by
    unfold closL
    rw [List.mem_reverse, List.mem_filterMap]
    exact ⟨(x, .free), h, by simp [hc]⟩
  obtain ⟨d, hd⟩ := lookup_of_mem hm
  have := (closL_look hd).2
  rw [hc] at this
  cases this
  exact hd
theorem closureFor_go {env : Env} (f : Str × NameKind → List (Str × Addr) → Sem (ForInStep (List (Str × Addr))))
    (hf : ∀ name kind cs, f (name, kind) cs = if kind == .free then (do let a ← cellOf env name; pure (.yield ((name, a) :: cs))) else pure (.yield cs)) :
    ∀ (names : List (Str × NameKind)) (acc : List (Str × Addr)), (∀ x ∈ names, x.2 = .free → ∃ c, env.cells.lookup x.1 = some c) →
      forIn names acc f = (pure (closL env.cells names ++ acc) : Sem (List (Str × Addr)))
  | [], acc, _ => by rw [List.forIn_nil]; rfl
  | (n, k) :: r, acc, h => by
    rw [List.forIn_cons, hf]
    have hr : ∀ x ∈ r, x.2 = .free → ∃ c, env.cells.lookup x.1 = some c := fun x hx => h x (List.mem_cons_of_mem _ hx)
    by_cases hk : k = .free
    · subst hk
      obtain ⟨c, hc⟩ := h (n, .free) List.mem_cons_self rfl
      have e1 : cellOf env n = pure c := by unfold cellOf; rw [show env.cells.lookup n = some c from hc]
      have e2 : closL env.cells ((n, NameKind.free) :: r) ++ acc = closL env.cells r ++ ((n, c) :: acc) := by
        unfold closL
        rw [List.filterMap_cons]
        simp only [beq_self_eq_true, if_true]
        rw [show env.cells.lookup n = some c from hc]
        simp
      rw [e2, ← closureFor_go f hf r ((n, c) :: acc) hr]
      simp only [beq_self_eq_true, if_true]
      rw [e1]
      rfl
    · have hb : (k == NameKind.free) = false := by simpa using hk
      have e2 : closL env.cells ((n, k) :: r) ++ acc = closL env.cells r ++ acc := by
        unfold closL
        rw [List.filterMap_cons]
        simp [hb]
      rw [e2, ← closureFor_go f hf r acc hr]
      simp only [hb, Bool.false_eq_true, if_false]
      rfl
theorem closureFor_eq {scope : Scope} {env : Env} (h : ∀ x ∈ scope.names, x.2 = .free → ∃ c, env.cells.lookup x.1 = some c) : closureFor scope env = pure (closL env.cells scope.names) := by
  unfold closureFor
  dsimp only
  rw [closureFor_go (env := env) _ ?hf scope.names [] h]
  case hf => intro name kind cs; rfl
  rw [List.append_nil]
  rfl
theorem cellsFrom_app : ∀ (names : List (Str × NameKind)) (n : Nat) (acc : List (Str × Addr)), cellsFrom n names acc = cellsFrom n names [] ++ acc
  | [], _, _ => rfl
  | (x, k) :: r, n, acc => by
    unfold cellsFrom
    split
    · rw [cellsFrom_app r (n + 1) ((x, n) :: acc), cellsFrom_app r (n + 1) [(x, n)]]; simp
    · exact cellsFrom_app r n acc
theorem cellsFrom_mem : ∀ {names : List (Str × NameKind)} {n : Nat} {x : Str} {c : Addr}, (x, c) ∈ cellsFrom n names [] → (x, NameKind.cell) ∈ names ∧ n ≤ c
  | [], _, _, _, h => by cases h
  | (y, k) :: r, n, x, c, h => by
    unfold cellsFrom at h
    split at h
    · rename_i hk
      rw [cellsFrom_app] at h
      rcases List.mem_append.mp h with h | h
      · obtain ⟨h1, h2⟩ := cellsFrom_mem h
        exact ⟨List.mem_cons_of_mem _ h1, by omega⟩
      · have : (x, c) = (y, n) := by simpa using h
        cases this
        have : k = .cell := by simpa using hk
        subst this
        exact ⟨List.mem_cons_self, Nat.le_refl _⟩
    · obtain ⟨h1, h2⟩ := cellsFrom_mem h
      exact ⟨List.mem_cons_of_mem _ h1, h2⟩
theorem cellsFrom_has : ∀ {names : List (Str × NameKind)} {n : Nat} {x : Str}, (x, NameKind.cell) ∈ names → ∃ c, (x, c) ∈ cellsFrom n names []
  | (y, k) :: r, n, x, h => by
    unfold cellsFrom
    split
    · rw [cellsFrom_app]
      rcases List.mem_cons.mp h with e | h
      · cases e; exact ⟨n, by simp⟩
      · obtain ⟨c, hc⟩ := cellsFrom_has (n := n + 1) h
        exact ⟨c, List.mem_append_left _ hc⟩
    · rename_i hk
      rcases List.mem_cons.mp h with e | h
      · cases e; simp at hk
      · exact cellsFrom_has h
theorem cellsFrom_lt : ∀ {names : List (Str × NameKind)} {h : Heap} {x : Str} {c : Addr}, (x, c) ∈ cellsFrom h.objs.size names [] → (pushCells h names).IsCell c none := fun {names h x c} hm => by
  have ok := cellsFrom_ok names h 0 [] ⟨fun _ _ hm => (nomatch hm), List.Pairwise.nil⟩ (Nat.zero_le _)
  exact (ok.empty x c hm).1
theorem cellsFrom_apart (names : List (Str × NameKind)) (h : Heap) : (cellsFrom h.objs.size names []).Pairwise fun x y => x.2 ≠ y.2 :=
  (cellsFrom_ok names h 0 [] ⟨fun _ _ hm => (nomatch hm), List.Pairwise.nil⟩ (Nat.zero_le _)).apart
theorem lookup_app {α : Type} (x : Str) : ∀ (a b : List (Str × α)) , (a ++ b).lookup x = (a.lookup x).or (b.lookup x)
  | [], b => by simp
  | (k, v) :: r, b => by
    show List.lookup x ((k, v) :: (r ++ b)) = _
    rw [List.lookup_cons, List.lookup_cons]
    cases hb : x == k with
    | true => rfl
    | false => exact lookup_app x r b

theorem wpAny_newCompEnv {M : Model} {A : Around} {E : Value → Shared → Prop} {s : Shared} {scope : Scope} {globals : Addr} {cl : List (Str × Addr)} {qual : Str} {env : Env} {Q : Env → Shared → Prop}
    (hQ : Q { scope, locals := s.heap.objs.size, globals, cells := cellsFrom (s.heap.objs.size + 1) scope.names [] ++ cl, qual, func := none, code := env.code, frame := env.frame, builtins := env.builtins }
      { s with heap := pushCells (s.heap.push { cls := .type "dict", data := .dict #[] }) scope.names }) :
    wpAny M A (newFunctionEnv scope globals cl [] qual none .none (some env)) Q E s := by
  simp only [newFunctionEnv, Option.isSome_some, if_true]
  refine wpAny_bind (wpAny_alloc ?_)
  refine wpAny_bind (wpAny_layCells _ (fun name kind cells => by cases hkc : kind == NameKind.cell <;> simp [hkc]) _ _ _ _ ?_)
  rw [show ({ s with heap := s.heap.push { cls := .type "dict", data := .dict #[] } } : Shared).heap.objs.size = s.heap.objs.size + 1 from Heap.size_push .., cellsFrom_app]
  rw [List.forIn_nil]
  exact wpAny_bind (wpAny_pure (wpAny_pure hQ))

/-! ### the loop of a comprehension of one clause -/
section
variable {prog : Program} {w : World} {A : Around} {R : Result → Shared → Prop} {s : Shared}
theorem compLoop_gen {elt target iter : Expr} {ifs : List Expr} {scope : Scope} {pos : Pos} {it acc : Value} {env : Env} (I : Nat → Shared → Prop)
    (turn : ∀ n s, I n s → wpAny (model prog w) A (pyNext it) (fun r s₁ => match r with
      | none => R (.ok .next) s₁
      | some v => wpAny (model prog w) A (letOwnedTupleGo target it v) (fun _ s₁' => wpAny (model prog w) A (assign target env v) (fun _ s₂ =>
          wpAny (model prog w) A (forIn ifs true fun c r => if r = true then do let ok ← isTrue c env (eval c env); pure (ForInStep.yield ok) else pure (ForInStep.yield r)) (fun ok s₃ =>
            if ok = true then wpAny (model prog w) A (eval elt env) (fun x s₄ =>
              wpAny (model prog w) A (call (.builtin "list.append") [acc, x]) (fun _ s₅ => ∃ m, m < n ∧ I m s₅) (fun _ _ => False) s₄) (fun _ _ => False) s₃
            else ∃ m, m < n ∧ I m s₃) (fun _ _ => False) s₂) (fun _ _ => False) s₁') (fun _ _ => False) s₁) (fun _ _ => False) s)
    (n : Nat) (h : I n s) :
    codeAny (model prog w) A (.compLoop (.ListComp elt [⟨target, iter, ifs, 0⟩] scope pos) 0 it acc env) R s := by
  refine codeAny_loop rfl I (fun n s hI => ?_) n h
  show wpAny _ A ((compTurn (.ListComp elt [⟨target, iter, ifs, 0⟩] scope pos) 0 it acc env).onRaise (fun x => do noteFrame x env; theTreesLotGoes x)) _ _ s
  refine wpAny_noted ?_
  rw [compTurn_list]
  refine wpAny_bind (wpAny_standAt (wpAny_bind (wpAny_mono (turn n s hI) (fun r s₁ h₁ => ?_) fun _ _ h' => h'.elim)))
  cases r with
  | none => exact wpAny_pure h₁
  | some v =>
    refine wpAny_bind (wpAny_mono h₁ (fun _ s₁' h₁' => ?_) fun _ _ h' => h'.elim)
    refine wpAny_bind (wpAny_mono h₁' (fun _ s₂ h₂ => wpAny_bind (wpAny_mono h₂ (fun ok s₃ h₃ => ?_) fun _ _ h' => h'.elim)) fun _ _ h' => h'.elim)
    cases ok with
    | false => exact wpAny_pure ⟨rfl, h₃⟩
    | true =>
      exact wpAny_bind (wpAny_bind (wpAny_mono h₃ (fun x s₄ h₄ => wpAny_bind (wpAny_mono h₄ (fun _ s₅ h₅ => wpAny_pure (wpAny_pure ⟨rfl, h₅⟩)) fun _ _ h' => h'.elim)) fun _ _ h' => h'.elim))
end

/-! ### the block's context -/
def ownCell (sc : Scope) (x : Str) : Bool := sc.names.lookup x == some .cell
def compCx (X : Cx) (scope : Scope) (N' : List Str) (cells : List (Str × Addr)) (C : Addr) (s₀ : Shared) (H₀ : Hp) (fp : List Addr) (pins : List (Addr × Obj)) : Cx :=
  { prog := X.prog, w := X.w, K := X.K, mg := X.mg, base := X.base, A := X.A, N := N', s₀ := s₀, H₀ := H₀, env := compEnvC scope cells C X.env, outer := X.stack, stack := X.stack, ex := fp, fn := ownCell scope, calm := X.calm, pn := X.pn ++ pins, xe := fun _ _ => False }
/-- the captured names' values at the block's start -/
def capS (cap : List (Option Nat)) (σ : St) : St := cap.map fun o => o.bind fun i => (σ[i]?).join
structure CompOk (X : Cx) (scope : Scope) (N' : List Str) (cap : List (Option Nat)) : Prop where
  kind : scope.kind = .function
  uniq : ∀ y ∈ scope.names, scope.names.lookup y.1 = some y.2
  fre : ∀ y ∈ scope.names, y.2 = .free → X.env.scope.names.lookup y.1 = some .cell ∨ X.env.scope.names.lookup y.1 = some .free
  len : cap.length = N'.length
  cap : ∀ (j i : Nat), cap[j]? = some (some i) → ∃ x, N'[j]? = some x ∧ X.N[i]? = some x ∧ scope.names.lookup x = some .free

theorem relabel_look {scope : Scope} {env : Env} (x : Str) : (relabel scope env).names.lookup x = (scope.names.lookup x).map fun k => if (k == .free && env.scope.kind == .function && env.kindOf x == some .cell) = true then .cell else k := by
  unfold relabel
  show List.lookup x (scope.names.map fun (n, k) => if (k == NameKind.free && env.scope.kind == .function && env.kindOf n == some .cell) = true then (n, NameKind.cell) else (n, k)) = _
  induction scope.names with
  | nil => rfl
  | cons y r ih =>
    obtain ⟨n, k⟩ := y
    rw [List.map_cons]
    dsimp only
    by_cases hc : (k == NameKind.free && env.scope.kind == .function && env.kindOf n == some .cell) = true
    · rw [if_pos hc, List.lookup_cons, List.lookup_cons]
      cases hb : x == n with
      | true =>
        have : x = n := beq_iff_eq.mp hb
        subst this
        simp only [Option.map_some, hc, if_true]
      | false => exact ih
    · rw [if_neg hc, List.lookup_cons, List.lookup_cons]
      cases hb : x == n with
      | true =>
        have : x = n := beq_iff_eq.mp hb
        subst this
        simp only [Option.map_some, hc, Bool.false_eq_true, if_false]
      | false => exact ih

/-- the tests of a clause -/
def PIfs (X : Cx) (ifs : List Expr) (t : TT) : Prop :=
  ∀ (pins : List (Addr × Obj)) (s : Shared) (σ : St) (H : Hp) (Q : Bool → Hp → Prop), Inv X pins σ H s → t σ H Q →
    wpAny (model X.prog X.w) X.A (forIn ifs true fun c r => if r = true then do let ok ← isTrue c X.env (eval c X.env); pure (ForInStep.yield ok) else pure (ForInStep.yield r)) (TP X pins σ Q) X.xe s
def tTrue : TT := fun _ H Q => Q true H
theorem pifs_nil {X : Cx} : PIfs X [] tTrue := fun _ _ _ H _ I h => wpAny_tests_nil ⟨H, I, h⟩
theorem pifs_one {X : Cx} {c : Expr} {t : TT} (hc : PT X c t) : PIfs X [c] t := fun pins s σ H Q I h => wpAny_tests_one (hc pins s σ H Q I h)

def CompR (cap : List (Option Nat)) (g : TG) (tt : TT) (te : TE) (σ : St) (Q : VK) (J : It) (H1 : Hp) : Prop := ∃ (n : Nat) (W : Nat → List V → St → Hp → Prop), n ≤ sizeLine ∧ W 0 [] (capS cap σ) H1 ∧
  ∀ i ys σ' H, W i ys σ' H → i ≤ n ∧ ys.length ≤ i ∧
    ((J.stop i H ∧ ∀ D, H D = none → Q (.ref D) (upd H D (.lst ys))) ∨
     (J.go i H ∧ i < n ∧ ∀ x H', J.yld i H x H' → g x σ' H' fun σ2 H2 => tt σ2 H2 fun b H3 => if b = true then te σ2 H3 fun v H4 => W (i + 1) (ys ++ [v]) σ2 H4 else W (i + 1) ys σ2 H3))
def tComp (wi : TI) (cap : List (Option Nat)) (g : TG) (tt : TT) (te : TE) : TE := fun σ H Q => wi σ H (CompR cap g tt te σ Q)
end L2
set_option Elab.async false
set_option linter.all false
set_option maxRecDepth 100000
set_option maxHeartbeats 2000000
namespace L2
open PySem PySem.Spec PyProof.Rows
local macro_rules | `(tactic| walk_at "om") => `(tactic| first | omega | (unfold Addr at *; omega))
section
variable {X : Cx} {pins : List (Addr × Obj)} {σ : St} {H : Hp} {s : Shared}
theorem Inv.frs_lt (I : Inv X pins σ H s) {b : Addr} (hb : b ∈ frs X.stack) : b < s.heap.objs.size := by
  rcases List.mem_cons.mp (I.stkSub b hb) with e | h
  · rw [e]; exact I.lt
  · exact Nat.lt_of_not_le fun z => I.nofs z h
theorem Inv.cell_lt (I : Inv X pins σ H s) {x : Str} {c : Addr} (h : X.env.cells.lookup x = some c) : c < s.heap.objs.size := let ⟨_, z⟩ := I.cell x c h; z.lt
theorem Inv.pin_lt (I : Inv X pins σ H s) {p : Addr × Obj} (h : p ∈ X.pn ++ pins) : p.1 < s.heap.objs.size := Heap.lt_size (I.pin p h).1

theorem comp_ok {scope : Scope} {N' : List Str} {cap : List (Option Nat)} {fp : List Addr} {h5 : Heap} {C : Addr} (I : Inv X pins σ H s) (ok : CompOk X scope N' cap) (f2 : ∀ b ∈ fp, FpOk X pins H b) (hlt : ∀ b ∈ fp, b < s.heap.objs.size)
    (hC : s.heap.objs.size ≤ C) (h5C : h5.objs.size = C + 1) :
    (compCx X scope N' (cellsFrom (C + 1) scope.names [] ++ closL X.env.cells scope.names) C s H fp pins).Ok where
  mod := I.ok.mod
  kind := by show (relabel scope X.env).kind = _; exact ok.kind
  glob := I.ok.glob
  blt := I.ok.blt
  above := hC
  inj := fun x y c hx hy => by
    have hx : (cellsFrom (C + 1) scope.names [] ++ closL X.env.cells scope.names).lookup x = some c := hx
    have hy : (cellsFrom (C + 1) scope.names [] ++ closL X.env.cells scope.names).lookup y = some c := hy
    rw [lookup_app] at hx hy
    have ap := cellsFrom_apart scope.names h5
    rw [h5C] at ap
    cases ex : (cellsFrom (C + 1) scope.names []).lookup x with
    | some d =>
      rw [ex] at hx; cases hx
      have mx := PySem.mem_of_lookup ex
      cases ey : (cellsFrom (C + 1) scope.names []).lookup y with
      | some e =>
        rw [ey] at hy; cases hy
        exact name_of_addr ap mx (PySem.mem_of_lookup ey)
      | none =>
        rw [ey] at hy
        have := I.cell_lt (closL_look hy).2
        have := (cellsFrom_mem mx).2
        walk_at "om"
    | none =>
      rw [ex] at hx
      have lx := I.cell_lt (closL_look hx).2
      cases ey : (cellsFrom (C + 1) scope.names []).lookup y with
      | some e =>
        rw [ey] at hy; cases hy
        have := (cellsFrom_mem (PySem.mem_of_lookup ey)).2
        walk_at "om"
      | none =>
        rw [ey] at hy
        exact I.ok.inj x y c (closL_look hx).2 (closL_look hy).2
  has := fun x hx => by
    have hx : (relabel scope X.env).names.lookup x = some .cell ∨ (relabel scope X.env).names.lookup x = some .free := hx
    rw [relabel_look] at hx
    show ∃ c, (cellsFrom (C + 1) scope.names [] ++ closL X.env.cells scope.names).lookup x = some c
    rw [lookup_app]
    cases e : scope.names.lookup x with
    | none => rw [e] at hx; rcases hx with hx | hx <;> cases hx
    | some k =>
      have hm := PySem.mem_of_lookup e
      by_cases hk : k = .cell
      · subst hk
        obtain ⟨c, hc⟩ := cellsFrom_has (n := C + 1) hm
        obtain ⟨d, hd⟩ := lookup_of_mem hc
        exact ⟨d, by rw [hd]; rfl⟩
      · have hf : k = .free := by
          rw [e] at hx
          simp only [Option.map_some] at hx
          cases k with
          | free => rfl
          | cell => exact absurd rfl hk
          | _ => rcases hx with hx | hx <;> simp at hx
        subst hf
        obtain ⟨c, hc⟩ := I.ok.has x (ok.fre (x, .free) hm rfl)
        cases q : (cellsFrom (C + 1) scope.names []).lookup x with
        | some d => exact ⟨d, rfl⟩
        | none => exact ⟨c, by rw [closL_has hm hc]; rfl⟩
  cab := fun x c hf hx => by
    have hf : ownCell scope x = true := hf
    have hx : (cellsFrom (C + 1) scope.names [] ++ closL X.env.cells scope.names).lookup x = some c := hx
    rw [lookup_app] at hx
    unfold ownCell at hf
    have hm : (x, NameKind.cell) ∈ scope.names := PySem.mem_of_lookup (by simpa using hf)
    obtain ⟨d, hd⟩ := cellsFrom_has (n := C + 1) hm
    obtain ⟨d', hd'⟩ := lookup_of_mem hd
    rw [hd'] at hx; cases hx
    have := (cellsFrom_mem (PySem.mem_of_lookup hd')).2
    show s.heap.objs.size ≤ c
    walk_at "om"
  hd := I.ok.hd
  frames := I.ok.frames
  stk := .inl rfl
  exf := fun b hb => by
    have hb' := hlt b hb
    refine ⟨by show b ≠ C; walk_at "om", fun x c hx => ?_⟩
    have hx : (cellsFrom (C + 1) scope.names [] ++ closL X.env.cells scope.names).lookup x = some c := hx
    rw [lookup_app] at hx
    cases ex : (cellsFrom (C + 1) scope.names []).lookup x with
    | some d =>
      rw [ex] at hx; cases hx
      have := (cellsFrom_mem (PySem.mem_of_lookup ex)).2
      walk_at "om"
    | none =>
      rw [ex] at hx
      exact (f2 b hb).2.2.2.2.1 x c (closL_look hx).2
  bs := I.bs
  bsz := Nat.le_trans I.ok.bsz I.sz
  noex := fun b o e hb => by
    rcases (f2 b hb).2.2.2.1 with z | z
    · exact I.ok.noex b o e z
    · exact absurd (Nat.lt_of_lt_of_le (Heap.lt_size e) (Nat.le_trans I.ok.bsz z)) (Nat.lt_irrefl _)
  exfs := fun b hb z => by
    rcases List.mem_cons.mp (I.stkSub b z) with e | h
    · exact (f2 b hb).2.1 e
    · exact (f2 b hb).2.2.1 h
  funs := I.stack
  frf := I.stkFree

/-- what is at the block's start -/
theorem comp_start {scope : Scope} {N' : List Str} {cap : List (Option Nat)} {fp : List Addr} {h5 h4 : Heap} {C D : Addr} {lo : Obj} {tk : Nat} (I : Inv X pins σ H s) (ok : CompOk X scope N' cap) (f2 : ∀ b ∈ fp, FpOk X pins H b) (hlt : ∀ b ∈ fp, b < s.heap.objs.size)
    (hD : D = s.heap.objs.size) (hC : C = D + 1) (h5C : h5.objs.size = C + 1) (e4 : h4 = pushCells h5 scope.names) (hns : h5.Ns C fun _ => none) (hlo : h5.get? D = some lo) (nc : ∀ v, lo.data ≠ .cell v)
    (old : ∀ b o, s.heap.get? b = some o → h5.get? b = some o) :
    Inv (compCx X scope N' (cellsFrom (C + 1) scope.names [] ++ closL X.env.cells scope.names) C s H fp pins) [(D, lo)] (capS cap σ) H { s with heap := h4, toks := tk } := by
  have k4 : ∀ b o, h5.get? b = some o → h4.get? b = some o := fun b o e => by rw [e4]; exact pushCells_keeps _ _ b o e
  have old4 : ∀ b o, s.heap.get? b = some o → h4.get? b = some o := fun b o e => k4 b o (old b o e)
  have look : ∀ x c, (cellsFrom (C + 1) scope.names [] ++ closL X.env.cells scope.names).lookup x = some c → ((x, c) ∈ cellsFrom (C + 1) scope.names [] ∧ C + 1 ≤ c) ∨ ((x, NameKind.free) ∈ scope.names ∧ X.env.cells.lookup x = some c) := fun x c hx => by
    rw [lookup_app] at hx
    cases ex : (cellsFrom (C + 1) scope.names []).lookup x with
    | some d =>
      rw [ex] at hx; cases hx
      exact .inl ⟨PySem.mem_of_lookup ex, (cellsFrom_mem (PySem.mem_of_lookup ex)).2⟩
    | none =>
      rw [ex] at hx
      exact .inr (closL_look hx)
  refine ⟨comp_ok I ok f2 hlt (by walk_at "om") h5C, rfl, I.bare, Un.kept old4, ⟨_, hns.keeps k4, fun j x v e1 e2 e3 => ?_⟩, fun x c hx => ?_, I.hok.fresh (by show s.heap.objs.size ≤ C; walk_at "om"), fun x c hx => ?_, fun p hp => ?_, I.hok.kept old4, ?_⟩
  · have e2 : (capS cap σ)[j]? = some (some v) := e2
    unfold capS at e2
    rw [List.getElem?_map] at e2
    cases q : cap[j]? with
    | none => rw [q] at e2; cases e2
    | some o =>
      rw [q] at e2
      cases o with
      | none => cases e2
      | some i =>
        obtain ⟨y, hy1, hy2, hy3⟩ := ok.cap j i q
        have : N'[j]? = some x := e1
        rw [hy1] at this
        have exy : y = x := Option.some.inj this
        subst exy
        have hv : σ[i]? = some (some v) := by
          simp only [Option.map_some, Option.bind_some, Option.some.injEq] at e2
          cases r : σ[i]? with
          | none => rw [r] at e2; cases e2
          | some o => rw [r] at e2; simp at e2; rw [e2]
        have hm := PySem.mem_of_lookup hy3
        have hk := ok.fre _ hm rfl
        obtain ⟨m, _, hl⟩ := I.loc
        obtain ⟨u, ru, lu⟩ := hl i y v hy2 hv (by rcases hk with z | z; exact .inr (.inl z); exact .inr (.inr z))
        refine ⟨u, ru, .inr ⟨?_, ?_⟩⟩
        · show (relabel scope X.env).names.lookup y = some .cell ∨ (relabel scope X.env).names.lookup y = some .free
          rw [relabel_look, hy3]
          simp only [Option.map_some]
          split <;> simp
        · rcases lu with ⟨z, _⟩ | ⟨_, c, hc, hcell⟩
          · have z : X.env.scope.names.lookup y = some .local := z
            rcases hk with q | q <;> (rw [z] at q; cases q)
          · refine ⟨c, ?_, hcell.keeps old4⟩
            show (cellsFrom (C + 1) scope.names [] ++ closL X.env.cells scope.names).lookup y = some c
            rw [lookup_app]
            cases ex : (cellsFrom (C + 1) scope.names []).lookup y with
            | none => rw [closL_has hm hc]; rfl
            | some d =>
              have := (cellsFrom_mem (PySem.mem_of_lookup ex)).1
              have := ok.uniq _ this
              rw [hy3] at this; cases this
  · rcases look x c hx with ⟨z, _⟩ | ⟨_, z⟩
    · rw [← h5C] at z
      have := cellsFrom_lt z
      exact ⟨_, by rw [e4]; exact this⟩
    · obtain ⟨v, q⟩ := I.cell x c z
      exact ⟨v, q.keeps old4⟩
  · rcases look x c hx with ⟨_, z⟩ | ⟨_, z⟩
    · exact I.hok.fresh (by walk_at "om")
    · exact I.freeC x c z
  · have hp : p ∈ (X.pn ++ pins) ++ [(D, lo)] := hp
    rcases List.mem_append.mp hp with hp | hp
    · obtain ⟨e, n, ne, nf, d⟩ := I.pin p hp
      have := I.pin_lt hp
      refine ⟨old4 _ _ e, n, by show p.1 ≠ C; walk_at "om", fun z => ?_, d⟩
      rcases List.mem_cons.mp (I.stkSub p.1 z) with q | q
      · exact ne q
      · exact nf q
    · have : p = (D, lo) := by simpa using hp
      subst this
      refine ⟨k4 _ _ hlo, I.hok.fresh (by show s.heap.objs.size ≤ D; walk_at "om"), by show D ≠ C; walk_at "om", fun z => ?_, nc⟩
      have : D < s.heap.objs.size := I.frs_lt z
      walk_at "om"
  · show (capS cap σ).length = N'.length
    unfold capS
    rw [List.length_map]
    exact ok.len

/-- behind the block -/
theorem comp_end {scope : Scope} {N' : List Str} {fp : List Addr} {cells : List (Str × Addr)} {C D : Addr} {lo : Obj} {σ' : St} {H' : Hp} {s' : Shared} {its : List Value} {k : Nat} {ys : List V} (I : Inv X pins σ H s)
    (I' : Inv (compCx X scope N' cells C s H fp pins) [(D, lo)] σ' H' s') (f2 : ∀ b ∈ fp, FpOk X pins H b) (hD : s.heap.objs.size ≤ D) (elo : lo = { cls := .type "list", data := .seq its.toArray k }) (hv : Vals ys its) (hl : ys.length ≤ sizeLine) :
    Inv X pins σ (upd H' D (.lst ys)) s' := by
  obtain ⟨pd, pn, pc, pf, _⟩ := I'.pin (D, lo) (by show _ ∈ (X.pn ++ pins) ++ [(D, lo)]; simp)
  have pd : s'.heap.get? D = some lo := pd
  have pn : H' D = none := pn
  have neD : ∀ b o, s.heap.get? b = some o → b ≠ D := fun b o e => Nat.ne_of_lt (Nat.lt_of_lt_of_le (Heap.lt_size e) hD)
  have B := I'.base
  refine I.call' (ch := fp) I'.os ⟨B.keep, B.slot, fun b o e n hx => ?_, B.there, fun b xs e => ?_, fun b o u e => ?_, fun b ps e => ?_⟩ (fun b u e => ?_) I'.bare fun b hb => ⟨(f2 b hb).2.2.2.1, (f2 b hb).2.1, (f2 b hb).2.2.2.2.1, (f2 b hb).2.2.2.2.2⟩
  · rw [upd_ne (neD b o e)]; exact B.free b o e n hx
  · have := B.tups b xs e
    rw [upd_ne (ne_of_none this pn)]; exact this
  · have := B.frzs b o u e
    rw [upd_ne (ne_of_none this pn)]; exact this
  · obtain ⟨m, e'⟩ := B.tbls b ps e
    exact ⟨m, by rw [upd_ne (ne_of_none e' pn)]; exact e'⟩
  · by_cases hb : b = D
    · subst hb
      rw [upd_same] at e; cases e
      exact ⟨hl, its, k, hv, by rw [pd, elo]⟩
    · rw [upd_ne hb] at e
      exact (I'.hok b u e).stay (fun _ _ _ q => q) (fun c q => by rw [upd_ne (ne_of_none q pn)]; exact q) fun c xs q => by rw [upd_ne (ne_of_none q pn)]; exact q
end

section
variable {X : Cx} {pins : List (Addr × Obj)} {σ : St} {H2 : Hp} {s2 : Shared}
theorem comp_run {elt tg iter : Expr} {ifs : List Expr} {scope : Scope} {pos : Pos} {N' : List Str} {cap : List (Option Nat)} {g : TG} {tt : TT} {te : TE} {it : Addr} {fp : List Addr} {tn : Nat → Heap → Prop} {J : It} {n : Nat} {W : Nat → List V → St → Hp → Prop} {Q : VK}
    {RR : Value → Addr → Result → Shared → Prop} {E : Value → Shared → Prop}
    (hc : X.calm = true) (ok : CompOk X scope N' cap)
    (hb : ∀ cells C s₀ H₀ fp pins, PG (compCx X scope N' cells C s₀ H₀ fp pins) tg g ∧ PIfs (compCx X scope N' cells C s₀ H₀ fp pins) ifs tt ∧ PE (compCx X scope N' cells C s₀ H₀ fp pins) elt te)
    (I2 : Inv X pins σ H2 s2) (T : Turn X.prog X.w X.K tg J fp it tn) (st2 : tn 0 s2.heap) (f2 : ∀ b ∈ fp, FpOk X pins H2 b) (hn : n ≤ sizeLine) (w0 : W 0 [] (capS cap σ) H2)
    (turn : ∀ i ys σ' H, W i ys σ' H → i ≤ n ∧ ys.length ≤ i ∧
      ((J.stop i H ∧ ∀ D, H D = none → Q (.ref D) (upd H D (.lst ys))) ∨
       (J.go i H ∧ i < n ∧ ∀ x H', J.yld i H x H' → g x σ' H' fun σ2 H2 => tt σ2 H2 fun b H3 => if b = true then te σ2 H3 fun v H4 => W (i + 1) (ys ++ [v]) σ2 H4 else W (i + 1) ys σ2 H3)))
    (hRR : ∀ (D C : Addr) (s' : Shared) (H' : Hp), Inv X pins σ H' s' → Q (.ref D) H' → (∃ m, s'.heap.Ns C m) → H' C = none → C ≠ X.env.locals → X.s₀.heap.objs.size ≤ C → (∀ x c, X.env.cells.lookup x = some c → c ≠ C) → (∀ p ∈ X.pn ++ pins, p.1 ≠ C) → RR (.ref D) C (.ok .next) s') :
    wpAny (model X.prog X.w) X.A (newList []) (fun acc s₃ => wpAny (model X.prog X.w) X.A (newFunctionEnv scope X.env.globals (closL X.env.cells scope.names) [] X.env.qual none .none (some X.env)) (fun cenv s₄ =>
      codeAny (model X.prog X.w) X.A (.compStart (.ListComp elt [⟨tg, iter, ifs, 0⟩] scope pos) 0 (.ref it) acc { cenv with scope := relabel scope X.env }) (RR acc cenv.locals) s₄) E s₃) E s2 := by
  refine wpAny_newObj_type (wpAny_newCompEnv ?_)
  dsimp only
  generalize hH3 : s2.heap.push { cls := .type "list", dict := none, data := .seq ([] : List Value).toArray } = h3
  have sz3 : h3.objs.size = s2.heap.objs.size + 1 := by rw [← hH3, Heap.size_push]
  generalize hH5 : h3.push { cls := .type "dict", data := .dict #[] } = h5
  have sz5 : h5.objs.size = h3.objs.size + 1 := by rw [← hH5, Heap.size_push]
  generalize hH4 : pushCells h5 scope.names = h4
  have hns5 : h5.Ns h3.objs.size fun _ => none := by rw [← hH5]; exact Heap.Ns.new ..
  have old5 : ∀ b o, s2.heap.get? b = some o → h5.get? b = some o := fun b o e => by rw [← hH5]; exact Heap.get?_push_of_some _ (by rw [← hH3]; exact Heap.get?_push_of_some _ e)
  have hlo5 : h5.get? s2.heap.objs.size = some { cls := .type "list", data := .seq ([] : List Value).toArray } := by rw [← hH5]; exact Heap.get?_push_of_some _ (by rw [← hH3]; exact Heap.get?_push_size _ rfl)
  have hlt : ∀ b ∈ fp, b < s2.heap.objs.size := fun b hb => let ⟨o, e, _⟩ := T.obj _ _ st2 b hb; Heap.lt_size e
  have I0 : ∀ tk, Inv (compCx X scope N' (cellsFrom (h3.objs.size + 1) scope.names [] ++ closL X.env.cells scope.names) h3.objs.size s2 H2 fp pins) [(s2.heap.objs.size, { cls := .type "list", data := .seq ([] : List Value).toArray })] (capS cap σ) H2 { s2 with heap := h4, toks := tk } := fun tk =>
    comp_start I2 ok f2 hlt rfl sz3 sz5 hH4.symm hns5 hlo5 (fun v z => by cases z) old5
  have k4 : ∀ b o, s2.heap.get? b = some o → h4.get? b = some o := fun b o e => by rw [← hH4]; exact pushCells_keeps _ _ b o (old5 b o e)
  have st4 : tn 0 h4 := T.keep _ _ _ st2 fun b _ o e => k4 b o e
  obtain ⟨pg, pif, pel⟩ := hb (cellsFrom (h3.objs.size + 1) scope.names [] ++ closL X.env.cells scope.names) h3.objs.size s2 H2 fp pins
  generalize hcs : cellsFrom (h3.objs.size + 1) scope.names [] ++ closL X.env.cells scope.names = cs at I0 pg pif pel ⊢
  -- the iterator's objects through the loop
  have stat : ∀ {lo : Obj} {σ' : St} {H' : Hp} {s' : Shared}, Inv (compCx X scope N' cs h3.objs.size s2 H2 fp pins) [(s2.heap.objs.size, lo)] σ' H' s' → (∀ b ∈ fp, H' b = none) → ∀ b ∈ fp, FpOk (compCx X scope N' cs h3.objs.size s2 H2 fp pins) [(s2.heap.objs.size, lo)] H' b := fun {lo σ' H' s'} I' fr b hb => by
    have q := f2 b hb
    have lb := hlt b hb
    refine ⟨fr b hb, by show b ≠ h3.objs.size; walk_at "om", I'.ok.exfs b hb, .inl hb, (I'.ok.exf b hb).2, fun p hp => ?_⟩
    have hp : p ∈ (X.pn ++ pins) ++ [(s2.heap.objs.size, lo)] := hp
    rcases List.mem_append.mp hp with hp | hp
    · exact q.2.2.2.2.2 p hp
    · have : p = (s2.heap.objs.size, lo) := by simpa using hp
      subst this
      show s2.heap.objs.size ≠ b
      walk_at "om"
  have loop : ∀ tk, codeAny (model X.prog X.w) X.A (.compLoop (.ListComp elt [⟨tg, iter, ifs, 0⟩] scope pos) 0 (.ref it) (.ref s2.heap.objs.size) (compEnvC scope cs h3.objs.size X.env)) (RR (.ref s2.heap.objs.size) h3.objs.size) { s2 with heap := h4, toks := tk } := fun tk => by
    refine compLoop_gen (fun k s' => ∃ (i : Nat) (ys : List V) (σ' : St) (H' : Hp) (its : List Value) (c : Nat), Inv (compCx X scope N' cs h3.objs.size s2 H2 fp pins) [(s2.heap.objs.size, { cls := .type "list", data := .seq its.toArray c })] σ' H' s' ∧ tn i s'.heap ∧ (∀ b ∈ fp, H' b = none) ∧
      Vals ys its ∧ W i ys σ' H' ∧ k = n + 1 - i) ?_ (n + 1) ⟨0, [], capS cap σ, H2, [], 0, I0 tk, st4, fun b hb => (f2 b hb).1, .nil, w0, rfl⟩
    rintro k s3 ⟨i, ys, σ3, H3, its, c, I3, st3, fr3, hv3, w3, rfl⟩
    obtain ⟨hi, hy, hcase⟩ := turn i ys σ3 H3 w3
    rcases hcase with ⟨stop, q⟩ | ⟨go, hlt', step⟩
    · refine thn (T.done (compCx X scope N' cs h3.objs.size s2 H2 fp pins) rfl rfl rfl hc i _ s3 σ3 H3 _ I3 (stat I3 fr3) st3 stop) fun r s4 ⟨hr, I4⟩ => ?_
      subst hr
      have Ie := comp_end I2 I4 f2 (Nat.le_refl _) rfl hv3 (by walk_at "om")
      obtain ⟨_, pn, _⟩ := I4.pin (s2.heap.objs.size, _) (by show _ ∈ (X.pn ++ pins) ++ [_]; exact List.mem_append_right _ (List.mem_singleton.mpr rfl))
      obtain ⟨m, hm, _⟩ := I4.loc
      refine hRR _ _ s4 _ Ie (q _ pn) ⟨m, hm⟩ ?_ ?_ ?_ ?_ ?_
      · rw [upd_ne (by walk_at "om")]; exact I4.free
      · have := I2.lt; walk_at "om"
      · have := I2.sz; walk_at "om"
      · intro x c e; have := I2.cell_lt e; walk_at "om"
      · intro p hp; have := I2.pin_lt hp; walk_at "om"
    · refine thn (T.item (compCx X scope N' cs h3.objs.size s2 H2 fp pins) rfl rfl rfl hc i _ s3 σ3 H3 _ I3 (stat I3 fr3) st3 go) fun r s4 ⟨u, hr, h4'⟩ => ?_
      subst hr
      refine thn h4' fun _ s5 ⟨x, H5, I5, r5, y5, st5, fr5⟩ => ?_
      have I5' := I5.pinned (stat I5 fr5) (T.obj _ _ st5)
      refine thn (pg _ s5 σ3 H5 x u _ I5' r5 (step x H5 y5)) fun _ s6 ⟨σ6, H6, I6, q6⟩ => ?_
      refine thn (pif _ s6 σ6 H6 _ I6 q6) fun b s7 ⟨H7, I7, q7⟩ => ?_
      have back : ∀ {σ8 : St} {H8 : Hp} {s8 : Shared} {o : List (Addr × Obj)}, Inv (compCx X scope N' cs h3.objs.size s2 H2 fp pins) (o ++ pinsAt fp s5.heap) σ8 H8 s8 → tn (i + 1) s8.heap ∧ ∀ b ∈ fp, H8 b = none := fun {σ8 H8 s8 o} I8 => by
        have pp : ∀ b ob, b ∈ fp → s5.heap.get? b = some ob → s8.heap.get? b = some ob ∧ H8 b = none := fun b ob hb e => by
          have := I8.pin (b, ob) (List.mem_append_right _ (List.mem_append_right _ (mem_pinsAt hb e)))
          exact ⟨this.1, this.2.1⟩
        refine ⟨T.keep _ _ _ st5 fun b hb ob e => (pp b ob hb e).1, fun b hb => ?_⟩
        obtain ⟨ob, e, _⟩ := T.obj _ _ st5 b hb
        exact (pp b ob hb e).2
      cases b with
      | false =>
        simp only [Bool.false_eq_true, if_false]
        simp only [Bool.false_eq_true, if_false] at q7
        obtain ⟨st7, fr7⟩ := back I7
        exact ⟨n + 1 - (i + 1), by walk_at "om", i + 1, ys, σ6, H7, its, c, I7.unpinned, st7, fr7, hv3, q7, rfl⟩
      | true =>
        simp only [if_true]
        simp only [if_true] at q7
        refine thn (pel _ s7 σ6 H7 _ I7 q7) fun y s8 ⟨v, H8, I8, r8, q8⟩ => ?_
        obtain ⟨st8, fr8⟩ := back I8
        have I8u := I8.unpinned
        obtain ⟨pd, pn, pc, pf, _⟩ := I8u.pin (s2.heap.objs.size, { cls := .type "list", data := .seq its.toArray c }) (List.mem_append_right _ (List.mem_singleton.mpr rfl))
        have pd : s8.heap.get? s2.heap.objs.size = some { cls := .type "list", data := .seq its.toArray c } := pd
        have hits : its.length ≤ sizeLine := by have := hv3.length; walk_at "om"
        refine wpAny_list_append_plain (s := s8) (hsz := by simpa using hits) ⟨c, pd⟩ fun h9 ⟨c9, pl9⟩ sb9 => ?_
        have k9 : ∀ b o, b ≠ s2.heap.objs.size → s8.heap.get? b = some o → h9.get? b = some o := fun b o hb e => (sb9.2 b hb).trans e
        have I8n : Inv (compCx X scope N' cs h3.objs.size s2 H2 fp pins) [] σ6 H8 s8 := I8u.pins_of (pins' := []) fun p hp => (nomatch hp)
        have I9 : Inv (compCx X scope N' cs h3.objs.size s2 H2 fp pins) [] σ6 H8 { s8 with heap := h9, toks := s8.toks } := I8n.turned k9 pn (by show s2.heap.objs.size ≠ h3.objs.size; walk_at "om") (.inr (Nat.le_refl _))
          (fun x c e z => by
            have e : cs.lookup x = some c := e
            rw [← hcs, lookup_app] at e
            cases ex : (cellsFrom (h3.objs.size + 1) scope.names []).lookup x with
            | some d =>
              rw [ex] at e; cases e
              have := (cellsFrom_mem (PySem.mem_of_lookup ex)).2
              walk_at "om"
            | none =>
              rw [ex] at e
              have := I2.cell_lt (closL_look e).2
              walk_at "om")
          (fun p hp => by
            have hp : p ∈ (X.pn ++ pins) ++ [] := hp
            rw [List.append_nil] at hp
            have := I2.pin_lt hp
            walk_at "om")
        have I9' : Inv (compCx X scope N' cs h3.objs.size s2 H2 fp pins) [(s2.heap.objs.size, { cls := .type "list", data := .seq (its ++ [y]).toArray c9 })] σ6 H8 { s8 with heap := h9, toks := s8.toks } := I9.pins_of fun p hp => by
          have : p = (s2.heap.objs.size, ({ cls := .type "list", data := .seq (its ++ [y]).toArray c9 } : Obj)) := by simpa using hp
          subst this
          refine ⟨?_, pn, pc, pf, fun v z => by cases z⟩
          show h9.get? s2.heap.objs.size = _
          rw [pl9]
          simp
        have stf : tn (i + 1) h9 := T.keep _ _ _ st8 fun b hb o e => k9 b o (by have := hlt b hb; walk_at "om") e
        exact ⟨n + 1 - (i + 1), by walk_at "om", i + 1, ys ++ [v], σ6, H8, its ++ [y], c9, I9', stf, fr8, Vals.append hv3 (.cons r8 .nil), q8, rfl⟩
  exact codeAny_compStart_list (loop _) (T.self _ 0 _ _ _ st4 (loop _))
end

section
variable {X : Cx}
theorem comp_hnames {scope : Scope} {N' : List Str} {cap : List (Option Nat)} (ok : CompOk X scope N' cap) : ∀ x ∈ scope.names, x.2 = .local → scope.names.lookup x.1 = some .local := fun x hx e => by rw [ok.uniq x hx, e]
theorem comp_clos {scope : Scope} {N' : List Str} {cap : List (Option Nat)} (okX : X.Ok) (ok : CompOk X scope N' cap) : closureFor scope X.env = pure (closL X.env.cells scope.names) :=
  closureFor_eq fun x hx e => okX.has x.1 (ok.fre x hx e)
/-- [elt for tg in iter if ..] as a value -/
theorem pe_comp {elt tg iter : Expr} {ifs : List Expr} {scope : Scope} {pos : Pos} {N' : List Str} {cap : List (Option Nat)} {wi : TI} {g : TG} {tt : TT} {te : TE} (hc : X.calm = true) (ok : CompOk X scope N' cap) (hi : PI X tg iter wi)
    (hb : ∀ cells C s₀ H₀ fp pins, PG (compCx X scope N' cells C s₀ H₀ fp pins) tg g ∧ PIfs (compCx X scope N' cells C s₀ H₀ fp pins) ifs tt ∧ PE (compCx X scope N' cells C s₀ H₀ fp pins) elt te)
    (hs : ∀ x, foldedSetIterable iter X.env x = pure x := by intro _; rfl) : PE X (.ListComp elt [⟨tg, iter, ifs, 0⟩] scope pos) (tComp wi cap g tt te) := by
  intro pins s σ H Q I h
  rw [eval_ListComp]
  refine wpAny_comprehension_free (use := none) rfl hs (comp_clos I.ok ok) ok.kind (comp_hnames ok) (thn (hi pins s σ H _ I h) fun v s1 h1 => thn h1 fun itv s2 h2 => ?_)
  obtain ⟨it, fp, tn, J, H2, e, I2, T, st2, f2, n, W, hn, w0, turn⟩ := h2
  subst e
  refine comp_run (RR := fun acc C => compPost (model X.prog X.w) X.A X.xe none (EP X pins σ Q) acc C) hc ok hb I2 T st2 f2 hn w0 turn ?_
  intro D C s' H' I' q hm fr c1 c2 c3 c4
  obtain ⟨m, hm⟩ := hm
  exact ⟨m, hm, fun h' sb => ⟨.ref D, H', I'.turned (t' := s'.toks) (fun b o hb e => (sb.2 b hb).trans e) fr c1 (.inr c2) c3 c4, rfl, q⟩⟩
/-- name = [elt for ..]: stored ahead of the block's end -/
theorem ps_setComp {i : Nat} {y : Str} {elt tg iter : Expr} {ifs : List Expr} {scope : Scope} {pos spos py : Pos} {N' : List Str} {cap : List (Option Nat)} {wi : TI} {g : TG} {tt : TT} {te : TE} (hN : X.N.Nodup) (hiy : X.N[i]? = some y) (hy : X.env.scope.names.lookup y = some .local)
    (hc : X.calm = true) (ok : CompOk X scope N' cap) (hi : PI X tg iter wi)
    (hb : ∀ cells C s₀ H₀ fp pins, PG (compCx X scope N' cells C s₀ H₀ fp pins) tg g ∧ PIfs (compCx X scope N' cells C s₀ H₀ fp pins) ifs tt ∧ PE (compCx X scope N' cells C s₀ H₀ fp pins) elt te)
    (hsw : swapsWith (.ListComp elt [⟨tg, iter, ifs, 0⟩] scope pos) (some (.Name y py)) spos.line X.env = pure true := by rfl)
    (hs : ∀ x, foldedSetIterable iter X.env x = pure x := by intro _; rfl) : PS X (.Assign [.Name y py] (.ListComp elt [⟨tg, iter, ifs, 0⟩] scope pos) spos) (tAsg (tComp wi cap g tt te) (gName i)) := by
  intro pins s σ H D I h
  rw [exec_Assign_Name_used _ _ _ _ hsw]
  refine wpAny_bind (wpAny_standAt (wpAny_bind ?_))
  show wpAny _ X.A (do let _ ← comprehension (.ListComp elt [⟨tg, iter, ifs, 0⟩] scope pos) scope X.env _ (newList []) false (eval iter X.env) (some (assign (.Name y py) X.env))) _ _ s
  refine wpAny_bind (wpAny_mono (wpAny_comprehension_free (use := some (assign (.Name y py) X.env)) (Q := fun _ s' => SP X pins D .next s') rfl hs (comp_clos I.ok ok) ok.kind (comp_hnames ok)
    (thn (hi pins s σ H _ I h) fun v s1 h1 => thn h1 fun itv s2 h2 => ?_)) (fun _ s' hq => wpAny_pure (wpAny_pure hq)) fun _ _ e => e)
  obtain ⟨it, fp, tn, J, H2, e, I2, T, st2, f2, n, W, hn, w0, turn⟩ := h2
  subst e
  refine comp_run (RR := fun acc C => compPost (model X.prog X.w) X.A X.xe (some (assign (.Name y py) X.env)) (fun _ s' => SP X pins D .next s') acc C) (Q := fun v H1 => gName i v σ H1 D.nx) hc ok hb I2 T st2 f2 hn w0 turn ?_
  intro D' C s' H' I' q hm fr c1 c2 c3 c4
  obtain ⟨m, hm⟩ := hm
  show wpAny _ X.A (assign (.Name y py) X.env (.ref D')) _ _ s'
  refine wpAny_assign_Name (store_ok2 I' hN hiy (.inl hy) (v := .ref D') rfl (fun s'' I'' ⟨a, sb, ha⟩ => ?_) (.inr hy))
  have aC : C ≠ a := by
    rcases ha with z | z
    · rw [z]; exact c1
    · exact (c3 _ _ z).symm
  refine ⟨m, hm.sameBut sb aC, fun h' sb' => ?_⟩
  exact ⟨_, H', I''.turned (t' := s''.toks) (fun b o hb e => (sb'.2 b hb).trans e) fr c1 (.inr c2) c3 c4, q⟩
end

/-! ### the forms one uses -/
/-- over a range -/
theorem comp_range {lo : Int} {m : Nat} {cap : List (Option Nat)} {g : TG} {tt : TT} {te : TE} {σ : St} {H : Hp} {Q : VK} (hm : m ≤ sizeLine) (Pv : Nat → List V → St → Hp → Prop) (h0 : Pv 0 [] (capS cap σ) H)
    (hl : ∀ i ys σ H, Pv i ys σ H → i ≤ m ∧ ys.length ≤ i)
    (hs : ∀ i ys σ H, i < m → Pv i ys σ H → g (.int (lo + i)) σ H fun σ2 H2 => tt σ2 H2 fun b H3 => if b = true then te σ2 H3 fun v H4 => Pv (i + 1) (ys ++ [v]) σ2 H4 else Pv (i + 1) ys σ2 H3)
    (hd : ∀ ys σ H, Pv m ys σ H → ∀ D, H D = none → Q (.ref D) (upd H D (.lst ys))) :
    CompR cap g tt te σ Q (Itr lo m) H := by
  refine ⟨m, Pv, hm, h0, fun i ys σ' H p => ⟨(hl i ys σ' H p).1, (hl i ys σ' H p).2, ?_⟩⟩
  by_cases hi : i < m
  · refine .inr ⟨hi, hi, fun x H' ⟨e1, e2⟩ => ?_⟩
    subst e1 e2
    exact hs i ys σ' H' hi p
  · have : i = m := by have := (hl i ys σ' H p).1; walk_at "om"
    subst this
    exact .inl ⟨Nat.le_refl _, hd ys σ' H p⟩
/-- over a list that stays -/
theorem comp_list {K : PySem.W.Frag} {a : Addr} {xs : List V} {cap : List (Option Nat)} {g : TG} {tt : TT} {te : TE} {σ : St} {H : Hp} {Q : VK} (hm : xs.length ≤ sizeLine) (Pv : Nat → List V → St → Hp → Prop) (h0 : Pv 0 [] (capS cap σ) H)
    (hl : ∀ i ys σ H, Pv i ys σ H → i ≤ xs.length ∧ ys.length ≤ i ∧ SqL K H a xs)
    (hs : ∀ i x ys σ H, xs[i]? = some x → Pv i ys σ H → g x σ H fun σ2 H2 => tt σ2 H2 fun b H3 => if b = true then te σ2 H3 fun v H4 => Pv (i + 1) (ys ++ [v]) σ2 H4 else Pv (i + 1) ys σ2 H3)
    (hd : ∀ ys σ H, Pv xs.length ys σ H → ∀ D, H D = none → Q (.ref D) (upd H D (.lst ys))) :
    CompR cap g tt te σ Q (Itl K a) H := by
  refine ⟨xs.length, Pv, hm, h0, fun i ys σ' H p => ?_⟩
  obtain ⟨h1, h2, h3⟩ := hl i ys σ' H p
  refine ⟨h1, h2, ?_⟩
  by_cases hi : i < xs.length
  · obtain ⟨x, hx⟩ : ∃ x, xs[i]? = some x := ⟨xs[i], List.getElem?_eq_getElem hi⟩
    refine .inr ⟨⟨xs, x, h3, hx⟩, hi, fun x' H' ⟨e1, e2⟩ => ?_⟩
    subst e1
    exact hs i x' ys σ' H' (e2 xs h3) p
  · have : i = xs.length := by walk_at "om"
    subst this
    exact .inl ⟨⟨xs, h3, Nat.le_refl _⟩, hd ys σ' H p⟩
end L2
set_option Elab.async false
set_option linter.all false
set_option maxRecDepth 100000
set_option maxHeartbeats 2000000
namespace L2
open PySem PySem.Spec PyProof.Rows
local macro_rules | `(tactic| walk_at "om") => `(tactic| first | omega | (unfold Addr at *; omega))
section
variable {X : Cx}
/-! ### isinstance, one class -/
theorem call_isT : CallR X (.builtin "isinstance") (fun xs H Q => ∃ x n t b, xs = [x, .ty n] ∧ TyOf X.K H x t ∧ PySem.W.kitOne X.K t (.type n) = some b ∧ Q (.bl b) H) := by
  intro pins s σ H xs us Q I r h
  obtain ⟨x, n, t, b, rfl, ty, e, q⟩ := h
  obtain ⟨u, w', rfl, rx, rc⟩ := vals2 r
  cases rc
  exact isinst_ok I rx ty e fun tk => ⟨.bl b, H, I.tok tk, rfl, q⟩
/-! ### sum of a list of ints -/
/-! ### all of a list of bools -/
theorem all_range (bs : List Bool) : (List.range bs.length).all (fun i => bs.getD i false) = bs.all id := by
  induction bs with
  | nil => rfl
  | cons b r ih =>
    rw [List.length_cons, List.range_succ_eq_map, List.all_cons, List.all_map, List.all_cons, ← ih]
    rfl
theorem call_allL (hc : X.calm = true) : CallR X (.builtin "all") (fun xs H Q => ∃ (p : Addr) (bs : List Bool), xs = [.ref p] ∧ SqL X.K H p (bs.map V.bl) ∧ Q (.bl (bs.all id)) H) := by
  intro pins s σ H xs us Q I r h
  obtain ⟨p, bs, rfl, hq, q⟩ := h
  obtain ⟨u, rfl, rx⟩ := vals1 r
  cases rx
  obtain ⟨its, rv, pl, hz⟩ := I.list hq
  have hl := pl.isList
  have hlen := rv.length
  rw [List.length_map] at hlen
  obtain ⟨o, ho, hr⟩ := id hl
  have hne : p ≠ s.heap.objs.size := Nat.ne_of_lt (Heap.lt_size ho)
  refine call_all_walk (wpAny_pyIter_list hl ⟨s.heap.objs.size, _, _, _, _, _, fun i => bs.getD i false, rfl, Walks.list (A := X.A.in1) (I.ok.hd hc) s.heap.objs.size p hne its.toArray, ⟨⟨_, Heap.get?_push_size _ rfl, rfl, rfl⟩, ⟨o, Heap.get?_push_of_some _ ho, hr⟩⟩, ?_, fun h' tk hk => ?_⟩)
  · intro i v s' Q' E' hv hQ
    have hv : its.toArray[i]? = some v := hv
    have hv' : its[i]? = some v := by simpa using hv
    have hi : i < bs.length := by have := (List.getElem?_eq_some_iff.mp hv').1; walk_at "om"
    obtain ⟨u, hu, ru⟩ := rv.get (i := i) (x := .bl bs[i]) (by rw [List.getElem?_map, List.getElem?_eq_getElem hi]; rfl)
    rw [hv'] at hu; cases hu
    cases ru
    have e : bs.getD i false = bs[i] := by rw [List.getD_eq_getElem?_getD, List.getElem?_eq_getElem hi]; rfl
    have hQ : Q' (bs.getD i false) s' := hQ
    rw [e] at hQ
    exact wpAny_truthy_bool hQ
  · have e : (List.range its.toArray.size).all (fun i => bs.getD i false) = bs.all id := by
      rw [← all_range bs, List.size_toArray, hlen]
    rw [e]
    refine ⟨.bl (bs.all id), H, I.kept fun b ob eb => hk b ob ?_ (Heap.get?_push_of_some _ eb), rfl, q⟩
    intro z
    have : b = s.heap.objs.size := by simpa using z
    rw [this] at eb
    exact Nat.lt_irrefl _ (Heap.lt_size eb)
end

/-! ### == of data: lists, tuples, flat values -/
inductive Tr where
  | flat (v : V)
  | lst (xs : List Tr)
  | tup (xs : List Tr)
mutual
def eqT : Tr → Tr → Bool
  | .flat a, .flat b => eqV a b
  | .lst xs, .lst ys => eqTs xs ys
  | .tup xs, .tup ys => eqTs xs ys
  | _, _ => false
def eqTs : List Tr → List Tr → Bool
  | [], [] => true
  | x :: xs, y :: ys => eqT x y && eqTs xs ys
  | _, _ => false
end
theorem eqV_refl : ∀ {v : V}, flatV v = true → eqV v v = true
  | .non, _ => rfl
  | .bl b, _ => by simp [eqV]
  | .int i, _ => by simp [eqV]
  | .str x, _ => by simp [eqV]
/-- the value stands for the tree, of depth below n -/
inductive Holds (K : PySem.W.Frag) (H : Hp) : Nat → V → Tr → Prop where
  | flat {n : Nat} {v : V} (h : flatV v = true) : Holds K H n v (.flat v)
  | lst {n : Nat} {a : Addr} {xs : List V} {ts : List Tr} (h : SqL K H a xs) (hl : xs.length = ts.length) (he : ∀ (i : Nat) x t, xs[i]? = some x → ts[i]? = some t → Holds K H n x t) : Holds K H (n + 1) (.ref a) (.lst ts)
  | tup {n : Nat} {a : Addr} {xs : List V} {ts : List Tr} (h : SqT K H a xs) (hl : xs.length = ts.length) (he : ∀ (i : Nat) x t, xs[i]? = some x → ts[i]? = some t → Holds K H n x t) : Holds K H (n + 1) (.ref a) (.tup ts)
theorem eqTs_len : ∀ {xs ys : List Tr}, xs.length ≠ ys.length → eqTs xs ys = false
  | [], [], h => absurd rfl h
  | [], _ :: _, _ => by simp [eqTs]
  | _ :: _, [], _ => by simp [eqTs]
  | x :: xs, y :: ys, h => by
    have := eqTs_len (xs := xs) (ys := ys) (fun e => h (by simp [e]))
    simp [eqTs, this]
theorem eqTs_all : ∀ {xs ys : List Tr}, xs.length = ys.length → eqTs xs ys = (List.range xs.length).all fun i => match xs[i]?, ys[i]? with | some x, some y => eqT x y | _, _ => true
  | [], [], _ => by simp [eqTs]
  | x :: xs, y :: ys, h => by
    have ih := eqTs_all (xs := xs) (ys := ys) (by simpa using h)
    rw [List.length_cons, List.range_succ_eq_map, List.all_cons, List.all_map]
    simp only [eqTs]
    rw [ih]
    rfl
section
variable {X : Cx} {pins : List (Addr × Obj)} {σ : St} {H : Hp} {s : Shared}
/-- what stands for itself is equal to itself -/
theorem Holds.same (I : Inv X pins σ H s) : ∀ {n : Nat} {x : V} {t u : Tr}, Holds X.K H n x t → ∀ {m : Nat}, Holds X.K H m x u → eqT t u = true := by
  intro n x t u h
  induction h generalizing u with
  | flat hv =>
    intro m h'
    cases h' with
    | flat _ => simp only [eqT]; exact eqV_refl hv
    | lst => simp [flatV] at hv
    | tup => simp [flatV] at hv
  | @lst n a xs ts h hl he ih =>
    intro m h'
    cases h' with
    | flat hv => simp [flatV] at hv
    | @lst _ _ ys us h2 hl2 he2 =>
      have e := I.list_inj h h2
      subst e
      simp only [eqT]
      rw [eqTs_all (hl.symm.trans hl2), List.all_eq_true]
      intro i hi
      have hi : i < ts.length := by simpa using hi
      have hx : xs[i]? = some xs[i] := List.getElem?_eq_getElem (by walk_at "om")
      have ht : ts[i]? = some ts[i] := List.getElem?_eq_getElem hi
      have hu : us[i]? = some us[i] := List.getElem?_eq_getElem (by walk_at "om")
      rw [ht, hu]
      exact ih i _ _ hx ht (he2 i _ _ hx hu)
    | tup h2 =>
      exfalso
      obtain ⟨its, _, p, _⟩ := I.list h
      obtain ⟨its2, _, p2, _⟩ := I.tuple h2
      obtain ⟨o, ho, hc, _⟩ := p.isList
      obtain ⟨o2, ho2, hc2, _⟩ := p2
      rw [ho] at ho2; cases ho2
      rw [hc] at hc2
      injection hc2 with z
      exact absurd z (by decide)
  | @tup n a xs ts h hl he ih =>
    intro m h'
    cases h' with
    | flat hv => simp [flatV] at hv
    | lst h2 =>
      exfalso
      obtain ⟨its, _, p, _⟩ := I.list h2
      obtain ⟨its2, _, p2, _⟩ := I.tuple h
      obtain ⟨o, ho, hc, _⟩ := p.isList
      obtain ⟨o2, ho2, hc2, _⟩ := p2
      rw [ho] at ho2; cases ho2
      rw [hc] at hc2
      injection hc2 with z
      exact absurd z (by decide)
    | @tup _ _ ys us h2 hl2 he2 =>
      have e := I.tuple_inj h h2
      subst e
      simp only [eqT]
      rw [eqTs_all (hl.symm.trans hl2), List.all_eq_true]
      intro i hi
      have hi : i < ts.length := by simpa using hi
      have hx : xs[i]? = some xs[i] := List.getElem?_eq_getElem (by walk_at "om")
      have ht : ts[i]? = some ts[i] := List.getElem?_eq_getElem hi
      have hu : us[i]? = some us[i] := List.getElem?_eq_getElem (by walk_at "om")
      rw [ht, hu]
      exact ih i _ _ hx ht (he2 i _ _ hx hu)
/-- the items' answers of two rows -/
theorem items_eq {A : Around} {n m : Nat} {xs ys : List V} {ts us : List Tr} {its its2 : List Value} (rv : Vals xs its) (rv2 : Vals ys its2) (hl : xs.length = ts.length) (hl2 : ys.length = us.length)
    (he : ∀ (i : Nat) x t y u v w', xs[i]? = some x → ts[i]? = some t → ys[i]? = some y → us[i]? = some u → RelV x v → RelV y w' → SeqAt.EqAt A s v w' (eqT t u)) :
    ∀ j (h1 : j < its.toArray.size) (h2 : j < its2.toArray.size), SeqAt.EqAt A s its.toArray[j] its2.toArray[j] (match ts[j]?, us[j]? with | some x, some y => eqT x y | _, _ => true) := by
  intro j h1 h2
  have a1 := rv.length
  have a2 := rv2.length
  have h1' : j < its.length := by simpa using h1
  have h2' : j < its2.length := by simpa using h2
  have hx : xs[j]? = some xs[j] := List.getElem?_eq_getElem (by walk_at "om")
  have hy : ys[j]? = some ys[j] := List.getElem?_eq_getElem (by walk_at "om")
  have ht : ts[j]? = some ts[j] := List.getElem?_eq_getElem (by walk_at "om")
  have hu : us[j]? = some us[j] := List.getElem?_eq_getElem (by walk_at "om")
  obtain ⟨v, ev, r1⟩ := rv.get hx
  obtain ⟨w', ew, r2⟩ := rv2.get hy
  rw [ht, hu]
  have e1 : its.toArray[j] = v := by
    have : its[j]? = some its[j] := List.getElem?_eq_getElem h1'
    rw [this] at ev
    simpa using ev
  have e2 : its2.toArray[j] = w' := by
    have : its2[j]? = some its2[j] := List.getElem?_eq_getElem h2'
    rw [this] at ew
    simpa using ew
  rw [e1, e2]
  exact he j _ _ _ _ _ _ hx ht hy hu r1 r2
theorem eqAt_T (I : Inv X pins σ H s) : ∀ {n : Nat} {x : V} {t : Tr}, Holds X.K H n x t → ∀ {m : Nat} {y : V} {u : Tr} {v w' : Value} {A : Around}, Holds X.K H m y u → RelV x v → RelV y w' → A.units + n + 1 < cLine → SeqAt.EqAt A s v w' (eqT t u) := by
  intro n x t h
  induction h with
  | @flat n x hv =>
    intro m y u v w' A h' rx ry hu
    cases h' with
    | flat hv2 => simp only [eqT]; exact eqAt_V rx ry hv hv2
    | @lst _ a xs ts h =>
      cases ry
      obtain ⟨its, _, p, _⟩ := I.list h
      simp only [eqT]
      cases x with
      | non => cases rx; exact SeqAt.EqAt.none_list p.isList (by walk_at "om")
      | bl b => cases rx; exact SeqAt.EqAt.bool_list b p.isList (by walk_at "om")
      | int i => obtain ⟨t, rfl⟩ := rx; exact SeqAt.EqAt.int_list i t p.isList (by walk_at "om")
      | str x => obtain ⟨t, rfl⟩ := rx; exact SeqAt.EqAt.str_list x t p.isList (by walk_at "om")
      | _ => simp [flatV] at hv
    | @tup _ a xs ts h =>
      cases ry
      obtain ⟨its, _, p, _⟩ := I.tuple h
      simp only [eqT]
      cases x with
      | non => cases rx; exact SeqAt.EqAt.none_tuple p (by walk_at "om")
      | bl b => cases rx; exact SeqAt.EqAt.bool_tuple b p (by walk_at "om")
      | int i => obtain ⟨t, rfl⟩ := rx; exact SeqAt.EqAt.int_tuple i t p (by walk_at "om")
      | str x => obtain ⟨t, rfl⟩ := rx; exact SeqAt.EqAt.str_tuple x t p (by walk_at "om")
      | _ => simp [flatV] at hv
  | @lst n a xs ts h hl he ih =>
    intro m y u v w' A h' rx ry hu
    cases rx
    obtain ⟨its, rv, p, _⟩ := I.list h
    cases h' with
    | @flat _ y hv =>
      simp only [eqT]
      cases y with
      | non => cases ry; exact SeqAt.EqAt.list_none p.isList (by walk_at "om")
      | bl b => cases ry; exact SeqAt.EqAt.list_bool b p.isList (by walk_at "om")
      | int i => obtain ⟨t, rfl⟩ := ry; exact SeqAt.EqAt.list_int i t p.isList (by walk_at "om")
      | str x => obtain ⟨t, rfl⟩ := ry; exact SeqAt.EqAt.list_str x t p.isList (by walk_at "om")
      | _ => simp [flatV] at hv
    | @lst m b ys us h2 hl2 he2 =>
      cases ry
      by_cases hab : a = b
      · subst hab
        rw [Holds.same I (.lst h hl he) (Holds.lst h2 hl2 he2)]
        exact SeqAt.EqAt.same _
      · obtain ⟨its2, rv2, p2, _⟩ := I.list h2
        have a1 := rv.length
        have a2 := rv2.length
        simp only [eqT]
        by_cases hlen : ts.length = us.length
        · rw [eqTs_all hlen]
          have q := SeqAt.RcAt.lists (A := A) p.isList p2.isList (by simp; walk_at "om") (by walk_at "om") (items_eq (A := A.in1) (n := n) (m := m) rv rv2 hl hl2 fun i x t y u v w' h1 h2 h3 h4 r1 r2 => ih i x t h1 h2 (he2 i y u h3 h4) r1 r2 (by show A.units + 1 + n + 1 < cLine; walk_at "om"))
          have e : its.toArray.size = ts.length := by simp; walk_at "om"
          rw [e] at q
          exact .of_refs hab q
        · rw [eqTs_len hlen]
          exact .of_refs hab (SeqAt.RcAt.lists_lengths p.isList p2.isList (by simp; walk_at "om") (by walk_at "om"))
    | @tup m b ys us h2 hl2 he2 =>
      cases ry
      obtain ⟨its2, rv2, p2, _⟩ := I.tuple h2
      simp only [eqT]
      exact SeqAt.EqAt.list_tuple p.isList p2 (by walk_at "om")
  | @tup n a xs ts h hl he ih =>
    intro m y u v w' A h' rx ry hu
    cases rx
    obtain ⟨its, rv, p, _⟩ := I.tuple h
    cases h' with
    | @flat _ y hv =>
      simp only [eqT]
      cases y with
      | non => cases ry; exact SeqAt.EqAt.tuple_none p (by walk_at "om")
      | bl b => cases ry; exact SeqAt.EqAt.tuple_bool b p (by walk_at "om")
      | int i => obtain ⟨t, rfl⟩ := ry; exact SeqAt.EqAt.tuple_int i t p (by walk_at "om")
      | str x => obtain ⟨t, rfl⟩ := ry; exact SeqAt.EqAt.tuple_str x t p (by walk_at "om")
      | _ => simp [flatV] at hv
    | @lst m b ys us h2 hl2 he2 =>
      cases ry
      obtain ⟨its2, rv2, p2, _⟩ := I.list h2
      simp only [eqT]
      exact SeqAt.EqAt.tuple_list p p2.isList (by walk_at "om")
    | @tup m b ys us h2 hl2 he2 =>
      cases ry
      by_cases hab : a = b
      · subst hab
        rw [Holds.same I (.tup h hl he) (Holds.tup h2 hl2 he2)]
        exact SeqAt.EqAt.same _
      · obtain ⟨its2, rv2, p2, _⟩ := I.tuple h2
        have a1 := rv.length
        have a2 := rv2.length
        simp only [eqT]
        have q := SeqAt.RcAt.tuples (A := A) p p2 (by walk_at "om") (items_eq (A := A.in1) (n := n) (m := m) rv rv2 hl hl2 fun i x t y u v w' h1 h2 h3 h4 r1 r2 => ih i x t h1 h2 (he2 i y u h3 h4) r1 r2 (by show A.units + 1 + n + 1 < cLine; walk_at "om"))
        have e : ((List.range (min its.toArray.size its2.toArray.size)).all (fun j => match ts[j]?, us[j]? with | some x, some y => eqT x y | _, _ => true) && its.toArray.size == its2.toArray.size) = eqTs ts us := by
          have s1 : its.toArray.size = ts.length := by simp; walk_at "om"
          have s2 : its2.toArray.size = us.length := by simp; walk_at "om"
          rw [s1, s2]
          by_cases hlen : ts.length = us.length
          · rw [eqTs_all hlen, ← hlen, Nat.min_self]
            simp
          · rw [eqTs_len hlen]
            simp [hlen]
        rw [e] at q
        exact .of_refs hab q
end
section
variable {X : Cx}
/-- a == b of data, a a list or a tuple -/
def rEqT (K : PySem.W.Frag) (neg : Bool) : R2 := fun x y H Q => ∃ a b n m t u, x = .ref a ∧ y = .ref b ∧ n ≤ 50 ∧ m ≤ 50 ∧ Holds K H n x t ∧ Holds K H m y u ∧ (∀ z, u ≠ .tup z) ∧ (∀ z, t ≠ .tup z) ∧ Q (.bl (if neg then !(eqT t u) else eqT t u)) H
theorem op_eqT (hu : X.A.units + 60 < cLine) : OpR X (compareOp .Eq) (rEqT X.K false) := by
  intro pins s σ H x y v u Q I rx ry h
  obtain ⟨a, b, n, m, t, u', rfl, rfl, hn, hm, ht, hu', nt, nt', q⟩ := h
  simp only [Bool.false_eq_true, if_false] at q
  cases rx; cases ry
  cases ht with
  | flat hv => simp [flatV] at hv
  | tup => exact absurd rfl (nt' _)
  | @lst n _ xs ts h1 hl he =>
    cases hu' with
    | flat hv => simp [flatV] at hv
    | tup => exact absurd rfl (nt _)
    | @lst m _ ys us h2 hl2 he2 =>
      obtain ⟨its, rv, p, _⟩ := I.list h1
      obtain ⟨its2, rv2, p2, _⟩ := I.list h2
      have a1 := rv.length
      have a2 := rv2.length
      simp only [eqT] at q
      by_cases hlen : ts.length = us.length
      · rw [eqTs_all hlen] at q
        have e : its.toArray.size = ts.length := by simp; walk_at "om"
        rw [← e] at q
        exact SeqAt.eq_listAt p.isList p2.isList (by simp; walk_at "om") (by walk_at "om") (items_eq (A := X.A.in1) (n := n) (m := m) rv rv2 hl hl2 fun i x t y u v w' h1 h2 h3 h4 r1 r2 => eqAt_T I (he i x t h1 h2) (he2 i y u h3 h4) r1 r2 (by show X.A.units + 1 + n + 1 < cLine; walk_at "om")) ⟨.bl _, H, I, rfl, q⟩
      · rw [eqTs_len hlen] at q
        exact SeqAt.eq_list_lengthsAt p.isList p2.isList (by simp; walk_at "om") (by walk_at "om") ⟨.bl _, H, I, rfl, q⟩
theorem op_neT (hu : X.A.units + 60 < cLine) : OpR X (compareOp .NotEq) (rEqT X.K true) := by
  intro pins s σ H x y v u Q I rx ry h
  obtain ⟨a, b, n, m, t, u', rfl, rfl, hn, hm, ht, hu', nt, nt', q⟩ := h
  simp only [if_true] at q
  cases rx; cases ry
  cases ht with
  | flat hv => simp [flatV] at hv
  | tup => exact absurd rfl (nt' _)
  | @lst n _ xs ts h1 hl he =>
    cases hu' with
    | flat hv => simp [flatV] at hv
    | tup => exact absurd rfl (nt _)
    | @lst m _ ys us h2 hl2 he2 =>
      obtain ⟨its, rv, p, _⟩ := I.list h1
      obtain ⟨its2, rv2, p2, _⟩ := I.list h2
      have a1 := rv.length
      have a2 := rv2.length
      simp only [eqT] at q
      by_cases hlen : ts.length = us.length
      · rw [eqTs_all hlen] at q
        have e : its.toArray.size = ts.length := by simp; walk_at "om"
        rw [← e] at q
        exact SeqAt.RcNeAt.lists p.isList p2.isList (by simp; walk_at "om") (by walk_at "om") (items_eq (A := X.A.in1) (n := n) (m := m) rv rv2 hl hl2 fun i x t y u v w' h1 h2 h3 h4 r1 r2 => eqAt_T I (he i x t h1 h2) (he2 i y u h3 h4) r1 r2 (by show X.A.units + 1 + n + 1 < cLine; walk_at "om")) X.prog X.w X.xe _ ⟨.bl _, H, I, rfl, q⟩
      · rw [eqTs_len hlen] at q
        exact SeqAt.RcNeAt.lists_lengths p.isList p2.isList (by simp; walk_at "om") (by walk_at "om") X.prog X.w X.xe _ ⟨.bl _, H, I, rfl, q⟩
end

/-! ### enumerate(list), enumerate(list, start=1) -/
def Ite (K : PySem.W.Frag) (a : Addr) (lo : Int) : It :=
  ⟨fun i H => ∃ xs x, SqL K H a xs ∧ xs[i]? = some x,
   fun i H x H' => ∃ p v, H p = none ∧ x = .ref p ∧ H' = upd H p (.tup [.int (lo + i), v]) ∧ ∀ xs, SqL K H a xs → xs[i]? = some v,
   fun i H => ∃ xs, SqL K H a xs ∧ xs.length ≤ i⟩
theorem turn_enum {P : Program} {w : World} {K : PySem.W.Frag} {elts : List Expr} {k0} {tp : Pos} (a e it : Addr) (lo : Int) (hne : e ≠ it) :
    Turn P w K (.Tuple elts k0 tp) (Ite K a lo) [e, it] e (fun i h => (∃ old, IsEnum h e it (lo + (i : Nat)) old) ∧ h.IsListIter it a i) where
  mem := by simp
  obj := fun i h st b hb => by
    obtain ⟨⟨old, he⟩, o, ho, hc, hd⟩ := st
    rcases List.mem_cons.mp hb with z | z
    · subst z
      exact ⟨_, he, fun v q => by cases q⟩
    · have z : b = it := by simpa using z
      subst z
      exact ⟨o, ho, fun v q => by rw [hd] at q; cases q⟩
  keep := fun i h h' st k => by
    obtain ⟨⟨old, he⟩, hi⟩ := st
    exact ⟨⟨old, k e (by simp) _ he⟩, hi.at fun o q => k it (by simp) o q⟩
  item := by
    intro X hP hw hK hc i pins s σ H E I hf st hg
    subst hP hw hK
    obtain ⟨⟨old, he⟩, hi⟩ := st
    obtain ⟨xs, x, hq, hx⟩ := hg
    obtain ⟨its, rv, p, hz⟩ := I.list hq
    obtain ⟨u, hu, ru⟩ := rv.get hx
    have fe := hf e (by simp)
    have fi := hf it (by simp)
    have le : e < s.heap.objs.size := Heap.lt_size he
    refine next_enumJ he hi p.isList (x := u) (by simpa using hu) hne fun h1 ho1 hi1 ht1 hz1 hk1 => ⟨.ref s.heap.objs.size, rfl, ?_⟩
    refine wpAny_letOwnedTupleGo_enum ho1 fun h2 he2 sb2 => ?_
    have sb2 : Heap.SameBut e h1 h2 := sb2
    have k2 : ∀ b o, b ≠ e → b ≠ it → s.heap.get? b = some o → h2.get? b = some o := fun b o h1 h2 q => (sb2.2 b h1).trans (hk1 b o h1 h2 q)
    have ht2 : h2.get? s.heap.objs.size = some { cls := .type "tuple", data := .seq #[.int (lo + (i : Nat)) s.toks, u] } := (sb2.2 _ (Nat.ne_of_gt le)).trans ht1
    have nH : H s.heap.objs.size = none := I.hok.fresh (Nat.le_refl _)
    have I2 : Inv X pins σ (upd H s.heap.objs.size (.tup [.int (lo + (i : Nat)), x])) { s with heap := h2, toks := s.toks + 1 } := by
      refine I.call' (ch := [e, it]) rfl ⟨fun b o q n hb hx => k2 b o (fun z => hx (by simp [z])) (fun z => hx (by simp [z])) q, fun b o q n hb hx => ⟨o.slots, k2 b o (fun z => hx (by simp [z])) (fun z => hx (by simp [z])) q⟩, fun b o q n hx => ?_, fun b o q hx => ⟨o, k2 b o (fun z => hx (by simp [z])) (fun z => hx (by simp [z])) q⟩,
        fun b xs q => ?_, fun b o u q => ?_, fun b ps q => ⟨#[], ?_⟩⟩ (fun b ob q => ?_) I.bare fun b hb => ?_
      · rw [upd_ne (Nat.ne_of_lt (Heap.lt_size q))]; exact n
      · rw [upd_ne (ne_of_none q nH)]; exact q
      · rw [upd_ne (ne_of_none q nH)]; exact q
      · rw [upd_ne (ne_of_none q nH), q]; simp
      · by_cases hb : b = s.heap.objs.size
        · subst hb
          rw [upd_same] at q; cases q
          exact ⟨by show 2 ≤ sizeLine; decide, [.int (lo + (i : Nat)) s.toks, u], .cons ⟨_, rfl⟩ (.cons ru .nil), _, ht2, rfl, _, rfl⟩
        · rw [upd_ne hb] at q
          refine (I.hok b ob q).stay (fun c v hc r => k2 c v ?_ ?_ r) (fun c r => by rw [upd_ne (ne_of_none r nH)]; exact r) fun c ys r => by rw [upd_ne (ne_of_none r nH)]; exact r
          · intro z
            rcases hc with w | w
            · rw [← w, z, fe.1] at q; cases q
            · rw [z, fe.1] at w; cases w
          · intro z
            rcases hc with w | w
            · rw [← w, z, fi.1] at q; cases q
            · rw [z, fi.1] at w; cases w
      · rcases List.mem_cons.mp hb with z | z
        · subst z
          exact ⟨fe.2.2.2.1, fe.2.1, fe.2.2.2.2.1, fe.2.2.2.2.2⟩
        · have z : b = it := by simpa using z
          subst z
          exact ⟨fi.2.2.2.1, fi.2.1, fi.2.2.2.2.1, fi.2.2.2.2.2⟩
    refine ⟨.ref s.heap.objs.size, _, I2, rfl, ⟨_, x, nH, rfl, rfl, fun ys hy => by rw [I.list_inj hy hq]; exact hx⟩, ⟨⟨u, ?_⟩, hi1.extBut sb2.extBut (Ne.symm hne)⟩, fun b hb => ?_⟩
    · have : lo + ((i + 1 : Nat) : Int) = lo + (i : Nat) + 1 := by push_cast; walk_at "om"
      rw [this]
      exact he2
    · have lb : b < s.heap.objs.size := by
        rcases List.mem_cons.mp hb with z | z
        · rw [z]; exact le
        · have z : b = it := by simpa using z
          rw [z]
          obtain ⟨o, ho, _⟩ := hi
          exact Heap.lt_size ho
      rw [upd_ne (Nat.ne_of_lt lb)]
      exact (hf b hb).1
  done := by
    intro X hP hw hK hc i pins s σ H E I hf st hg
    subst hP hw hK
    obtain ⟨⟨old, he⟩, hi⟩ := st
    obtain ⟨xs, hq, hx⟩ := hg
    obtain ⟨its, rv, p, hz⟩ := I.list hq
    obtain ⟨f0, f1, f2, f3, f4, f5⟩ := hf it (by simp)
    have hl := rv.length
    exact done_enumJ (I.ok.hd hc) he hi p.isList (by simp; walk_at "om") fun h' eb => ⟨rfl, I.turned (t' := s.toks) (fun b o hb e => eb b o hb e) f0 f1 f3 f4 f5⟩
  self := fun _ _ _ _ _ st h => by
    obtain ⟨⟨old, he⟩, _⟩ := st
    exact wpAny_pyIter_enum he h
def iEnum (K : PySem.W.Frag) (lo : Int) (ta : TA) : TI := fun σ H R => ta σ H fun vs H1 => ∃ a, vs = [.ref a] ∧ (∃ xs, SqL K H1 a xs) ∧ R (Ite K a lo) H1
section
variable {X : Cx} {elts : List Expr} {k0} {tp : Pos}
theorem enum_it {pins : List (Addr × Obj)} {σ : St} {H : Hp} {s : Shared} {R : It → Hp → Prop} {a : Addr} {lo : Int} {h' : Heap} (I : Inv X pins σ H s) (he : IsEnum h' (s.heap.objs.size + 1) s.heap.objs.size lo .none) (hi : h'.IsListIter s.heap.objs.size a 0)
    (hk : ∀ b o, s.heap.get? b = some o → h'.get? b = some o) (q : R (Ite X.K a lo) H) : wpAny (model X.prog X.w) X.A (pyIter (.ref (s.heap.objs.size + 1))) (PIE X pins σ (.Tuple elts k0 tp) R) X.xe { s with heap := h' } := by
  have I1 : Inv X pins σ H { s with heap := h' } := I.kept (t' := s.toks) hk
  refine wpAny_pyIter_enum (s := { s with heap := h' }) he ?_
  refine ⟨s.heap.objs.size + 1, [s.heap.objs.size + 1, s.heap.objs.size], _, _, H, rfl, I1, turn_enum a _ _ lo (by walk_at "om"), ⟨⟨.none, ?_⟩, hi⟩, fun b hb => ?_, q⟩
  · have : lo + ((0 : Nat) : Int) = lo := by simp
    rw [this]; exact he
  · have hb' : s.heap.objs.size ≤ b := by
      rcases List.mem_cons.mp hb with z | z
      · walk_at "om"
      · have z : b = s.heap.objs.size := by simpa using z
        walk_at "om"
    exact I.fpOk hb' (I.hok.fresh hb')
theorem pi_enum {l : Expr} {ta : TA} {p pos : Pos} (hg : Gl X "enumerate") (hm : X.mg "enumerate" = none) (ha : PA X [l] ta) (hs : starEach [l] X.env = [(false, eval l X.env)] := by rfl) : PI X (.Tuple elts k0 tp) (.Call (.Name "enumerate" p) [l] [] pos) (iEnum X.K 0 ta) := by
  intro pins s σ H R I h
  refine Call_ (ld_blt I hg hm boot_enumerate (PyProof.Rows.callWith_type1 (thn (ha pos pins s σ H _ I h) fun us s1 ⟨vs, H1, I1, r1, q1⟩ => ?_) hs rfl))
  obtain ⟨a, e, ⟨xs, hq⟩, q⟩ := q1
  subst e
  obtain ⟨u, rfl, rx⟩ := vals1 r1
  cases rx
  obtain ⟨its, rv, pl, hz⟩ := I1.list hq
  exact call_enumerate_list pl.isList fun h' he hi _ hk => enum_it I1 he hi hk q
end
end L2
set_option Elab.async false
set_option linter.all false
set_option maxRecDepth 100000
set_option maxHeartbeats 1000000
namespace L2
open PySem PySem.Spec PyProof.Rows
/-! ### a def with defaults -/
structure FunD (K : PySem.W.Frag) (x qual : Str) (st : Stmt) (f : Addr) (fd : FuncData) (dV : Value) : Prop where
  ex : ∃ (oc : Value) (od : Option Addr) (kV doc pm : Value) (an : Option Addr) (cdv ct : Value) (osl : Array (Option Value)),
    fd = PySem.W.fnOf x qual (defArgs st) (defBody st) (defScope st) dV kV doc pm an cdv ct ∧ K.lookup f = some ⟨oc, od, .func fd, osl⟩ ∧ PySem.W.codeIn K cdv qual = true
  kp : PySem.W.keepIn K (.ref f) = true
section
variable {P : Program} {w : World} {K : PySem.W.Frag} {mg : Str → Option Value} {base : Heap}
theorem FunD.ok {x qual : Str} {st : Stmt} {f : Addr} {fd : FuncData} {dV : Value} {N ps : List Str} {k : Nat} {sp : Sp} (F : FunD K x qual st f fd dV) (S : FnScope N ps (defScope st)) (len : ∀ vs H Q E, sp vs H Q E → vs.length = ps.length)
    (hbody : ∀ (cdv : Value) (A : Around) (outer : List Env) (s : Shared) (H : Hp) (vs : List V) (Q : VK) (E : XK), Room k (A.deeper (envOfC qual (defScope st) s.heap.objs.size f cdv)) → sp vs H Q E →
      ∃ t, PSs (cxOf CX0 P w K mg base N qual (defScope st) f cdv A outer s H E).nox (defBody st) t ∧ t { nx := fun _ H' => Q .non H', rt := Q } (start N vs) H) : FnOk P w K mg base CX0 (k + 1) f fd ps sp := by
  obtain ⟨oc, od, kV, doc, pm, an, cdv, ct, osl, rfl, lk, hcd⟩ := F.ex
  refine fn_of lk hcd S len fun A outer s H vs Q E hr hsp => ?_
  obtain ⟨t, h, q⟩ := hbody cdv A outer s H vs Q E hr hsp
  exact ⟨t, h.nox, q⟩
end
theorem Same.upd {H H' : Hp} (s : Same H H') {p : Addr} {o : HO} (h : H' p = Option.none) : Same H (upd H' p o) := fun b u e => by
  rw [upd_ne (ne_of_none (s b u e) h)]
  exact s b u e
theorem Same.upd0 {H : Hp} {p : Addr} {o : HO} (h : H p = Option.none) : Same H (L2.upd H p o) := (Same.refl H).upd h
theorem Same.updF {H H' : Hp} (s : Same H H') {p : Addr} {o : HO} (h : H p = Option.none) : Same H (L2.upd H' p o) := fun b u e => by
  rw [upd_ne (ne_of_none e h)]
  exact s b u e
/-- a def's promise, the same for more -/
theorem small_len {n : Nat} (h : n ≤ 1000) : n ≤ sizeLine := Nat.le_of_lt (small1000 h)
/-- the rows of a list of rows of ints -/
structure Vol (H : Hp) (v : Addr) (as : List Addr) (rows : List (List Int)) : Prop where
  top : H v = some (.lst (as.map V.ref))
  len : as.length = rows.length
  nd : as.Nodup
  row : ∀ (i : Nat) a r, as[i]? = some a → rows[i]? = some r → H a = some (.lst (r.map V.int))
theorem nodup_set {α : Type} [DecidableEq α] : ∀ {l : List α} {i : Nat} {q : α}, l.Nodup → q ∉ l → (l.set i q).Nodup
  | [], _, _, h, _ => h
  | x :: r, 0, q, h, hq => by
    rw [List.set_cons_zero]
    exact List.nodup_cons.mpr ⟨fun z => hq (List.mem_cons_of_mem _ z), (List.nodup_cons.mp h).2⟩
  | x :: r, i + 1, q, h, hq => by
    rw [List.set_cons_succ]
    refine List.nodup_cons.mpr ⟨fun z => ?_, nodup_set (List.nodup_cons.mp h).2 fun z => hq (List.mem_cons_of_mem _ z)⟩
    rcases List.mem_or_eq_of_mem_set z with z | z
    · exact (List.nodup_cons.mp h).1 z
    · exact hq (by rw [← z]; exact List.mem_cons_self)
theorem Vol.same {H H' : Hp} {v : Addr} {as : List Addr} {rows : List (List Int)} (x : Vol H v as rows) (s : Same H H') : Vol H' v as rows :=
  ⟨s _ _ x.top, x.len, x.nd, fun i a r h1 h2 => s _ _ (x.row i a r h1 h2)⟩
/-- ints as a tree -/
def trI (ns : List Int) : Tr := .lst (ns.map fun i => .flat (.int i))
def trV (rows : List (List Int)) : Tr := .lst (rows.map trI)
theorem holds_ints {K : PySem.W.Frag} {H : Hp} {n : Nat} {a : Addr} {ns : List Int} (h : SqL K H a (ns.map V.int)) : Holds K H (n + 1) (.ref a) (trI ns) := by
  refine .lst h (by simp) fun i x t hx ht => ?_
  rw [List.getElem?_map] at hx ht
  cases e : ns[i]? with
  | none => rw [e] at hx; cases hx
  | some z => rw [e] at hx ht; cases hx; cases ht; exact .flat rfl
theorem holds_vol {K : PySem.W.Frag} {H : Hp} {n : Nat} {v : Addr} {as : List Addr} {rows : List (List Int)} (h : Vol H v as rows) : Holds K H (n + 2) (.ref v) (trV rows) := by
  refine .lst (SqL.of h.top) (by simp [h.len]) fun i x t hx ht => ?_
  rw [List.getElem?_map] at hx ht
  cases e : as[i]? with
  | none => rw [e] at hx; cases hx
  | some a =>
    cases e2 : rows[i]? with
    | none => rw [e2] at ht; cases ht
    | some r => rw [e] at hx; rw [e2] at ht; cases hx; cases ht; exact holds_ints (SqL.of (h.row i a r e e2))
theorem eqT_ints : ∀ {ns ms : List Int}, eqTs (ns.map fun i => .flat (.int i)) (ms.map fun i => .flat (.int i)) = decide (ns = ms)
  | [], [] => by simp [eqTs]
  | [], _ :: _ => by simp [eqTs]
  | _ :: _, [] => by simp [eqTs]
  | n :: ns, m :: ms => by
    rw [List.map_cons, List.map_cons]
    simp only [eqTs, eqT, eqV]
    rw [eqT_ints]
    by_cases h : n = m <;> by_cases h2 : ns = ms <;> simp [h, h2]
theorem eqT_I (ns ms : List Int) : eqT (trI ns) (trI ms) = decide (ns = ms) := by
  unfold trI
  simp only [eqT]
  exact eqT_ints
theorem eqTs_V : ∀ {rs qs : List (List Int)}, eqTs (rs.map trI) (qs.map trI) = decide (rs = qs)
  | [], [] => by simp [eqTs]
  | [], _ :: _ => by simp [eqTs]
  | _ :: _, [] => by simp [eqTs]
  | r :: rs, q :: qs => by
    rw [List.map_cons, List.map_cons]
    simp only [eqTs]
    rw [eqTs_V, eqT_I]
    by_cases h : r = q <;> by_cases h2 : rs = qs <;> simp [h, h2]
theorem eqT_V (rs qs : List (List Int)) : eqT (trV rs) (trV qs) = decide (rs = qs) := by
  unfold trV
  simp only [eqT]
  exact eqTs_V

/-! ### tests that are known -/
theorem iteD {c A B : Prop} [Decidable c] (hc : c) (h : A) : if decide c = true then A else B := by rw [if_pos (decide_eq_true hc)]; exact h
theorem iteDF {c A B : Prop} [Decidable c] (hc : ¬ c) (h : B) : if decide c = true then A else B := by rw [if_neg (by simp [hc])]; exact h
theorem iteNF {c A B : Prop} [Decidable c] (hc : ¬ c) (h : A) : if (!decide c) = true then A else B := by rw [if_pos (by simp [hc])]; exact h
theorem iteBF {b : Bool} {A B : Prop} (hb : b = false) (h : B) : if b = true then A else B := by rw [if_neg (by simp [hb])]; exact h
/-! ### a comprehension's names, by a look -/
def compB (N : List Str) (outer : List (Str × NameKind)) (sc : Scope) (N' : List Str) (cap : List (Option Nat)) : Bool :=
  (sc.kind == .function) && sc.names.all (fun y => sc.names.lookup y.1 == some y.2) && sc.names.all (fun y => y.2 != .free || (outer.lookup y.1 == some .cell || outer.lookup y.1 == some .free)) && cap.length == N'.length &&
    (List.range cap.length).all fun j => match cap[j]? with
      | some (some i) => (match N'[j]?, N[i]? with | some x, some y => x == y && sc.names.lookup x == some .free | _, _ => false)
      | _ => true
theorem compOk_of {X : Cx} {scope : Scope} {N' : List Str} {cap : List (Option Nat)} (h : compB X.N X.env.scope.names scope N' cap = true) : CompOk X scope N' cap := by
  unfold compB at h
  simp only [Bool.and_eq_true] at h
  obtain ⟨⟨⟨⟨h1, h2⟩, h3⟩, h4⟩, h5⟩ := h
  refine ⟨by simpa using h1, fun y hy => ?_, fun y hy e => ?_, by simpa using h4, fun j i e => ?_⟩
  · have := List.all_eq_true.mp h2 y hy
    simpa using this
  · have := List.all_eq_true.mp h3 y hy
    rw [e] at this
    simpa using this
  · have hj : j < cap.length := (List.getElem?_eq_some_iff.mp e).1
    have := List.all_eq_true.mp h5 j (by simpa using hj)
    rw [e] at this
    simp only at this
    split at this
    · rename_i x y ex ey
      simp only [Bool.and_eq_true, beq_iff_eq] at this
      obtain ⟨q1, q2⟩ := this
      subst q1
      exact ⟨x, ex, ey, q2⟩
    · cases this
/-! ### enumerate's forms -/
theorem for_enum {K : PySem.W.Frag} {a : Addr} {lo : Int} {xs : List V} {g : TG} {tb : TS} {D : Ends} {σ : St} {H : Hp} (Pv : Nat → St → Hp → Prop) (h0 : Pv 0 σ H) (hl : ∀ i σ H, i ≤ xs.length → Pv i σ H → SqL K H a xs)
    (hs : ∀ i x σ H p, xs[i]? = some x → Pv i σ H → H p = none → g (.ref p) σ (upd H p (.tup [.int (lo + i), x])) fun σ2 H2 => tb { D with nx := Pv (i + 1), ct := Pv (i + 1), bk := D.nx } σ2 H2) (hd : ∀ σ H, Pv xs.length σ H → D.nx σ H) :
    ∃ W : Nat → Nat → St → Hp → Prop, (∃ m, W 0 m σ H) ∧ ∀ i m σ H, W i m σ H →
      ((Ite K a lo).stop i H ∧ D.nx σ H) ∨ ((Ite K a lo).go i H ∧ ∃ N : St → Hp → Prop, (∀ σ' H', N σ' H' → ∃ m', m' < m ∧ W (i + 1) m' σ' H') ∧ ∀ x H', (Ite K a lo).yld i H x H' → g x σ H' fun σ2 H2 => tb { D with nx := N, ct := N, bk := D.nx } σ2 H2) := by
  refine ⟨fun i m σ H => i ≤ xs.length ∧ m = xs.length - i ∧ Pv i σ H, ⟨_, Nat.zero_le _, rfl, h0⟩, fun i m σ H ⟨h1, h2, h3⟩ => ?_⟩
  have hq := hl i σ H h1 h3
  by_cases hi : i < xs.length
  · refine .inr ⟨⟨xs, xs[i], hq, List.getElem?_eq_getElem hi⟩, Pv (i + 1), fun σ' H' p => ⟨xs.length - (i + 1), by omega, by omega, rfl, p⟩, fun x H' ⟨p, v, hp, ex, eH, hv⟩ => ?_⟩
    subst ex eH
    exact hs i v σ H p (hv xs hq) h3 hp
  · have : i = xs.length := by omega
    subst this
    exact .inl ⟨⟨xs, hq, Nat.le_refl _⟩, hd σ H h3⟩
theorem comp_enum {K : PySem.W.Frag} {a : Addr} {lo : Int} {xs : List V} {cap : List (Option Nat)} {g : TG} {tt : TT} {te : TE} {σ : St} {H : Hp} {Q : VK} (hm : xs.length ≤ sizeLine) (Pv : Nat → List V → St → Hp → Prop) (h0 : Pv 0 [] (capS cap σ) H)
    (hl : ∀ i ys σ H, Pv i ys σ H → i ≤ xs.length ∧ ys.length ≤ i ∧ SqL K H a xs)
    (hs : ∀ i x ys σ H p, xs[i]? = some x → Pv i ys σ H → H p = none → g (.ref p) σ (upd H p (.tup [.int (lo + i), x])) fun σ2 H2 => tt σ2 H2 fun b H3 => if b = true then te σ2 H3 fun v H4 => Pv (i + 1) (ys ++ [v]) σ2 H4 else Pv (i + 1) ys σ2 H3)
    (hd : ∀ ys σ H, Pv xs.length ys σ H → ∀ D, H D = none → Q (.ref D) (upd H D (.lst ys))) :
    CompR cap g tt te σ Q (Ite K a lo) H := by
  refine ⟨xs.length, Pv, hm, h0, fun i ys σ' H p => ?_⟩
  obtain ⟨h1, h2, h3⟩ := hl i ys σ' H p
  refine ⟨h1, h2, ?_⟩
  by_cases hi : i < xs.length
  · refine .inr ⟨⟨xs, xs[i], h3, List.getElem?_eq_getElem hi⟩, hi, fun x H' ⟨q, v, hq, ex, eH, hv⟩ => ?_⟩
    subst ex eH
    exact hs i v ys σ' H q (hv xs h3) p hq
  · have : i = xs.length := by omega
    subst this
    exact .inl ⟨⟨xs, h3, Nat.le_refl _⟩, hd ys σ' H p⟩
/-! ### rows of rows -/
theorem Vol.ne {H : Hp} {v : Addr} {as : List Addr} {rows : List (List Int)} (x : Vol H v as rows) {a : Addr} (h : a ∈ as) : a ≠ v := by
  obtain ⟨i, hi, e⟩ := List.getElem_of_mem h
  have h1 : as[i]? = some a := by rw [List.getElem?_eq_getElem hi, e]
  have hr : i < rows.length := by rw [← x.len]; exact hi
  have q := x.row i a rows[i] h1 (List.getElem?_eq_getElem hr)
  intro z
  rw [z, x.top] at q
  have q' : as.map V.ref = rows[i].map V.int := by injection (Option.some.inj q)
  cases as with
  | nil => cases h
  | cons b r =>
    cases e2 : rows[i] with
    | nil => rw [e2] at q'; cases q'
    | cons n m => rw [e2] at q'; simp at q'
/-- the row at i becomes the list at q -/
theorem Vol.set {H : Hp} {v q : Addr} {as : List Addr} {rows : List (List Int)} {i : Nat} {r : List Int} (x : Vol H v as rows) (hq : H q = some (.lst (r.map V.int))) (nq : q ∉ as) (nv : q ≠ v) :
    Vol (upd H v (.lst ((as.map V.ref).set i (.ref q)))) v (as.set i q) (rows.set i r) := by
  refine ⟨by rw [upd_same, List.map_set], by simp [x.len], ?_, fun j a r' h1 h2 => ?_⟩
  · exact nodup_set x.nd nq
  · by_cases hj : j = i
    · subst hj
      have hl : j < as.length := by have := (List.getElem?_eq_some_iff.mp h1).1; simpa using this
      rw [List.getElem?_set_self hl] at h1
      rw [List.getElem?_set_self (by rw [← x.len]; exact hl)] at h2
      cases h1; cases h2
      rw [upd_ne nv]; exact hq
    · rw [List.getElem?_set_ne (Ne.symm hj)] at h1 h2
      rw [upd_ne (x.ne (List.mem_of_getElem? h1))]
      exact x.row j a r' h1 h2
theorem Vol.fresh {H : Hp} {v q : Addr} {as : List Addr} {rows : List (List Int)} (x : Vol H v as rows) (h : H q = none) : q ∉ as ∧ q ≠ v := by
  refine ⟨fun z => ?_, fun z => by rw [z, x.top] at h; cases h⟩
  obtain ⟨i, hi, e⟩ := List.getElem_of_mem z
  have h1 : as[i]? = some q := by rw [List.getElem?_eq_getElem hi, e]
  have hr : i < rows.length := by rw [← x.len]; exact hi
  have q' := x.row i q rows[i] h1 (List.getElem?_eq_getElem hr)
  rw [h] at q'; cases q'
theorem ixN_nat {n i : Nat} (h : i < n) : ixN n (i : Int) = some i := by
  unfold ixN
  rw [if_pos (by omega), if_pos (by omega)]
  simp
end L2
set_option Elab.async false
set_option linter.all false
set_option maxRecDepth 100000
set_option maxHeartbeats 1000000
/-! the same rules with the written part K named: inside a comprehension's block a reading must not speak of the block's own context -/
namespace L2
open PySem PySem.Spec PyProof.Rows
section
variable {X : Cx} {K : PySem.W.Frag}
theorem call_isTK (h : X.K = K) : CallR X (.builtin "isinstance") (fun xs H Q => ∃ x n t b, xs = [x, .ty n] ∧ TyOf K H x t ∧ PySem.W.kitOne K t (.type n) = some b ∧ Q (.bl b) H) := by subst h; exact call_isT
theorem call_list_ofK (h : X.K = K) : CallR X (.type "list") (fun xs H Q => ∃ p ys, xs = [.ref p] ∧ (SqL K H p ys ∨ SqT K H p ys) ∧ ∀ l, H l = none → Q (.ref l) (upd H l (.lst ys))) := by subst h; exact call_list_of
/-- (x, y) = a pair, in the slots i and j -/
theorem pg_pair {i j : Nat} {x y : Str} {px py tp : Pos} {k0} (h : X.K = K) (hc : X.calm = true) (hN : X.N.Nodup) (hi : X.N[i]? = some x) (hj : X.N[j]? = some y) (lx : X.env.scope.names.lookup x = some .local) (ly : X.env.scope.names.lookup y = some .local) :
    PG X (.Tuple [.Name x px, .Name y py] k0 tp) (gTup K 2 (gCons (gName i) (gCons (gName j) gNil))) := by
  subst h
  exact pg_tup hc (pgs_cons (pg_name hN hi (Or.inl lx) (.inr lx)) (pgs_cons (pg_name hN hj (Or.inl ly) (.inr ly)) pgs_nil))
end
end L2
set_option Elab.async false
set_option linter.all false
set_option maxRecDepth 100000
set_option maxHeartbeats 1000000
/-! the stations of an exception on its way, with its own dict told -/
namespace L2
open PySem
theorem dict_mapF (o : Obj) (f : Array Value → Array Value) : (Obj.mapFields f o).dict = o.dict := by
  obtain ⟨c, d, dt, sl⟩ := o
  cases dt <;> rfl
/-- the exception at e, of the class cls, its dict d, flies through the frames l; fl: the frame that holds it; base stays whatever comes -/
structure Fly (base : Heap) (l : List Env) (e : Addr) (cls : Value) (d : Option Addr) (fl : Value) (h : Heap) : Prop where
  st : base.StaysIn h
  en : base.get? e = none
  fr : h.FunFrames base l
  tr : ∃ oe vs T oT ts, h.get? e = some oe ∧ oe.cls = cls ∧ oe.dict = d ∧ oe.data = .fields vs ∧ vs[1]? = some (.ref T) ∧ base.get? T = none ∧ T ≠ e ∧ h.get? T = some oT ∧ oT.data = .fields ts ∧ ts[3]? = some fl
section
variable {M : Model} {A : Around} {E : Value → Shared → Prop} {s : Shared} {base : Heap} {env : Env} {outer l : List Env} {L e : Addr} {cls fl : Value} {d : Option Addr} {Q : Unit → Shared → Prop}
theorem Fly.there {h : Heap} (x : Fly base l e cls d fl h) : ∃ ob vs, h.get? e = some ob ∧ ob.cls = cls ∧ ob.dict = d ∧ ob.data = .fields vs := by
  obtain ⟨oe, vs, _, _, _, a, b, c, z, _⟩ := x.tr
  exact ⟨oe, vs, a, b, c, z⟩
/-- a new entry of the traceback -/
theorem entry_ok {oe : Obj} {vs : Array Value} {head : Value} {hn : Bool} (hfr : A.frames = some (env :: outer)) (hl : s.heap.FunFrames base (env :: outer)) (hf : env.frame = some L) (he : s.heap.get? e = some oe) (hb : base.StaysIn s.heap)
    (ne : base.get? e = none) (hd : oe.data = .fields vs) (hz : 1 < vs.size) (h : ∀ h', Fly base (env :: outer) e oe.cls oe.dict (rawInt L) h' → s.heap.UpToSlots h' → Q () { s with heap := h' }) :
    wpAny M A (do let a ← frameOf env; let pl ← entryPlaceOf L hn; let b ← EntryCells.newEntry head a .none (rawInt L) .none pl; setField (.ref e) 1 b) Q E s := by
  have nF : e ∉ (env :: outer).filterMap (·.frame) := by
    intro z; obtain ⟨_, o, ho, nf⟩ := hl.mem z
    rw [he] at ho; cases ho; exact nf vs hd
  refine wpAny_bind (wpAny_frameOf_fun hfr hl hf fun h1 q1 => wpAny_bind (wpAny_entryPlaceOf fun pl hpl => ?_))
  unfold EntryCells.newEntry newFields
  refine wpAny_bind (wpAny_newObj_type ?_ (hpl.sizeOk5 _ _ _ _ _))
  generalize eo : ({ cls := .type "traceback", dict := none, data := .fields ([head, .ref L, .none, rawInt L, .none] ++ (if pl.isEmpty then List.replicate 6 Value.none else pl)).toArray } : Obj) = ob
  have e1 : h1.get? e = some oe := (q1.2.1 e nF).trans he
  have b1 : base.StaysIn h1 := fun b o z => (q1.2.1 b fun y => by rw [(hl.mem y).1] at z; cases z).trans (hb b o z)
  have e2 : (h1.push ob).get? e = some oe := Heap.get?_push_of_some ob e1
  have nT : h1.objs.size ≠ e := Nat.ne_of_gt (Heap.lt_size e1)
  have d3 := Obj.data_mapFields hd (·.setIfInBounds 1 (Value.ref h1.objs.size))
  have e3 := Heap.get?_update_self (Obj.mapFields (·.setIfInBounds 1 (Value.ref h1.objs.size))) e2 (Obj.isFreed_of_fields d3)
  have kp : ∀ b o, b ≠ e → h1.get? b = some o → ((h1.push ob).update e (Obj.mapFields (·.setIfInBounds 1 (Value.ref h1.objs.size)))).get? b = some o := by
    intro b o n z
    rw [Heap.get?_update_other _ _ (Ne.symm n)]; exact Heap.get?_push_of_some _ z
  have nR : ∀ b o, s.heap.get? b = some o → (∀ ws, o.data ≠ .fields ws) → b ≠ e := by
    intro b o z nf y
    rw [y, he] at z; cases z; exact nf vs hd
  refine wpAny_setField e2 hd hz (h _ ?_ ?_)
  · have t3 : ((h1.push ob).update e (Obj.mapFields (·.setIfInBounds 1 (Value.ref h1.objs.size)))).get? h1.objs.size = some ob := by
      rw [Heap.get?_update_other _ _ (Ne.symm nT)]; refine Heap.get?_push_size h1 ?_; rw [← eo]; rfl
    refine ⟨fun b o z => kp b o (fun y => by rw [y, ne] at z; cases z) (b1 b o z), ne, hl.of_keeps fun b o z nf => ?_, ?_⟩
    · obtain ⟨sl, y⟩ := q1.2.2 b o z; exact ⟨_, kp b _ (nR b o z nf) y, rfl⟩
    · refine ⟨_, _, h1.objs.size, ob, _, e3, Obj.cls_mapFields _ _, dict_mapF _ _, d3, by simp [hz], b1.fresh, nT, t3, by rw [← eo], ?_⟩
      first | (simp; done) | (rcases hpl with rfl | ⟨_, _, _, _, _, _, _, rfl⟩ <;> simp)
  · intro b o z nf
    obtain ⟨sl, y⟩ := q1.2.2 b o z; exact ⟨sl, kp b _ (nR b o z nf) y⟩
/-- the frame is noted, the exception flies on -/
theorem note_on (hfr : A.frames = some (env :: outer)) (hf : env.frame = some L) (x : Fly base (env :: outer) e cls d .none s.heap)
    (h : ∀ h', Fly base (env :: outer) e cls d (rawInt L) h' → s.heap.UpToSlots h' → Q () { s with heap := h' }) : wpAny M A (noteFrame (.ref e) env) Q E s := by
  obtain ⟨hb, ne, hl, oe, vs, T, oT, ts, he, rfl, rfl, hd, h1, nT, Te, hT, dT, h3⟩ := x
  unfold noteFrame; simp only [hf]
  refine wpAny_bind (wpAny_field he hd h1 ?_)
  rw [if_pos (by simp : (Value.ref T != Value.none) = true)]
  refine wpAny_bind (wpAny_field hT dT h3 ?_)
  rw [if_neg (by simp [rawInt] : ¬ ((Value.none == rawInt L) = true))]
  refine wpAny_bind (wpAny_setField hT dT (Array.getElem?_eq_some_iff.mp h3).1 ?_)
  have ot : ∀ b, b ≠ T → (s.heap.update T (Obj.mapFields (·.setIfInBounds 3 Value.none))).get? b = s.heap.get? b := fun b n => Heap.get?_update_other _ _ (Ne.symm n)
  have nR : ∀ b o, s.heap.get? b = some o → (∀ ws, o.data ≠ .fields ws) → b ≠ T := fun b o z nf y => by rw [y, hT] at z; cases z; exact nf ts dT
  refine entry_ok (s := { s with heap := s.heap.update T (Obj.mapFields (·.setIfInBounds 3 Value.none)) }) hfr (hl.of_keeps fun b o z nf => ⟨o, (ot b (nR b o z nf)).trans z, rfl⟩) hf ((ot e (Ne.symm Te)).trans he) (fun b o z => (ot b fun y => by rw [y, nT] at z; cases z).trans (hb b o z)) ne hd
    (Array.getElem?_eq_some_iff.mp h1).1 fun h' f u => h h' f fun b o z nf => u b o ((ot b (nR b o z nf)).trans z) nf
/-- it lands: no frame holds it -/
theorem land (x : Fly base l e cls d fl s.heap) (h : ∀ h', Fly base l e cls d .none h' → s.heap.UpToSlots h' → Q () { s with heap := h' }) : wpAny M A (setFlight (.ref e) none) Q E s := by
  obtain ⟨hb, ne, hl, oe, vs, T, oT, ts, he, rfl, rfl, hd, h1, nT, Te, hT, dT, h3⟩ := x
  have z3 : 3 < ts.size := (Array.getElem?_eq_some_iff.mp h3).1
  have ot : ∀ b, b ≠ T → (s.heap.update T (Obj.mapFields (·.setIfInBounds 3 ((none : Option Addr).elim Value.none fun f => rawInt f)))).get? b = s.heap.get? b := fun b n => Heap.get?_update_other _ _ (Ne.symm n)
  have nR : ∀ b o, s.heap.get? b = some o → (∀ ws, o.data ≠ .fields ws) → b ≠ T := fun b o z nf y => by rw [y, hT] at z; cases z; exact nf ts dT
  unfold setFlight
  refine wpAny_bind (wpAny_field he hd h1 ?_)
  rw [if_pos (by simp : (Value.ref T != Value.none) = true)]
  refine wpAny_setField hT dT z3 (h _ ⟨fun b o z => (ot b fun y => by rw [y, nT] at z; cases z).trans (hb b o z), ne, hl.of_keeps fun b o z nf => ⟨o, (ot b (nR b o z nf)).trans z, rfl⟩, ?_⟩ fun b o z nf => ⟨o.slots, (ot b (nR b o z nf)).trans z⟩)
  exact ⟨oe, vs, T, _, _, (ot e (Ne.symm Te)).trans he, rfl, rfl, hd, h1, nT, Te, Heap.get?_update_self _ hT (Obj.isFreed_of_fields (Obj.data_mapFields dT _)), Obj.data_mapFields dT _, by simp [z3]⟩
/-- it leaves the frame -/
theorem leave_on (hfr : A.frames = some (env :: outer)) (hf : env.frame = some L) (x : Fly base (env :: outer) e cls d .none s.heap) (h : ∀ h', Fly base outer e cls d .none h' → s.heap.UpToSlots h' → Q () { s with heap := h' }) :
    wpAny M A (leaving env (.ref e)) Q E s := by
  unfold leaving
  refine wpAny_bind (note_on hfr hf x fun h1 f1 u1 => land (s := { s with heap := h1 }) f1 fun h2 f2 u2 => h h2 ⟨f2.st, f2.en, f2.fr.2.2, f2.tr⟩ (u1.trans u2))
/-- a new exception leaves the frame where it was raised -/
theorem leave_new {oe : Obj} {vs : Array Value} (hfr : A.frames = some (env :: outer)) (hf : env.frame = some L) (hl : s.heap.FunFrames base (env :: outer)) (he : s.heap.get? e = some oe) (hb : base.StaysIn s.heap) (ne : base.get? e = none)
    (hd : oe.data = .fields vs) (h1 : vs[1]? = some .none) (h : ∀ h', Fly base outer e oe.cls oe.dict .none h' → s.heap.UpToSlots h' → Q () { s with heap := h' }) : wpAny M A (leaving env (.ref e)) Q E s := by
  unfold leaving noteFrame
  simp only [hf]
  refine wpAny_bind (wpAny_bind (wpAny_field he hd h1 ?_))
  rw [if_neg (by decide)]
  exact entry_ok hfr hl hf he hb ne hd (Array.getElem?_eq_some_iff.mp h1).1 fun h1 f1 u1 => land (s := { s with heap := h1 }) f1 fun h2 f2 u2 => h h2 ⟨f2.st, f2.en, f2.fr.2.2, f2.tr⟩ (u1.trans u2)
end
end L2
set_option Elab.async false
set_option linter.all false
set_option maxRecDepth 100000
set_option maxHeartbeats 1000000
namespace L2
open PySem PySem.Spec PyProof.Rows
local macro_rules | `(tactic| walk_at "om") => `(tactic| first | omega | (unfold Addr at *; omega))
/-! ### exceptions over the layer: the heap at the raise, without the frames, lies in B -/
structure Fl (X : Cx) (pins : List (Addr × Obj)) (B : Heap) : Prop where
  k0 : ∀ b o, X.s₀.heap.get? b = some o → X.H₀ b = none → b ∉ X.fs → b ∉ X.ex → B.get? b = some o
  kt : ∀ b o, X.s₀.heap.get? b = some o → b ∉ X.fs → b ∉ X.ex → ∃ o', B.get? b = some o'
  kp : ∀ p ∈ X.pn ++ pins, B.get? p.1 = some p.2
theorem up_cell {h h' : Heap} {c : Addr} {v : Option Value} (up : h.UpToSlots h') (z : h.IsCell c v) : h'.IsCell c v := by
  obtain ⟨o, ho, hd⟩ := z
  obtain ⟨sl, q⟩ := up c o ho (fun vs e => by rw [hd] at e; cases e)
  exact ⟨_, q, hd⟩
theorem ObjOk.there {P : Program} {w : World} {H : Hp} {h : Heap} {a : Addr} {o : HO} (x : ObjOk P w H h a o) : ∃ ob, h.get? a = some ob := by
  cases o with
  | lst xs => obtain ⟨_, _, _, _, e⟩ := x; exact ⟨_, e⟩
  | tup xs => obtain ⟨_, _, _, ob, e, _⟩ := x; exact ⟨_, e⟩
  | dK kvs => obtain ⟨_, _, _, _, o, _, _, e, _⟩ := x; exact ⟨_, e⟩
  | dT kvs => obtain ⟨_, _, _, _, o, _, _, e, _⟩ := x; exact ⟨_, e⟩
  | set S n => obtain ⟨o, _, _, _, e, _⟩ := x; exact ⟨_, e⟩
  | ins C dx fs => obtain ⟨_, _, _, e, _⟩ := x; exact ⟨_, e⟩
  | own y => obtain ⟨_, e⟩ := x; exact ⟨_, e⟩
  | xd fs => obtain ⟨_, ⟨_, _, _, e, _⟩, _⟩ := x; exact ⟨_, e⟩
  | rng lo hi => obtain ⟨_, _, _, e⟩ := x; exact ⟨_, e⟩
  | frz ob u => obtain ⟨e, _⟩ := x; exact ⟨_, e⟩
  | tbl ps => exact ⟨_, (show h.get? a = some _ from x)⟩
  | met f y => exact ⟨_, (show h.get? a = some _ from x)⟩
  | ext φ => obtain ⟨_, ⟨_, e⟩, _⟩ := x; exact ⟨_, e⟩
section
variable {X : Cx} {pins : List (Addr × Obj)} {σ : St} {H : Hp} {s : Shared}
theorem Inv.flown {h' B : Heap} (I : Inv X pins σ H s) (hB : B.StaysIn h') (up : s.heap.UpToSlots h') (hok : HOk X.prog X.w H B) (F : Fl X pins B) : Inv X pins σ H { s with heap := h' } := by
  have sl : ∀ b o, X.s₀.heap.get? b = some o → X.H₀ b = none → b ∈ X.fs → b ∉ X.ex → ∃ sl, h'.get? b = some { o with slots := sl } := by
    intro b o e n hb hx
    obtain ⟨sl, e1⟩ := I.base.slot b o e n hb hx
    obtain ⟨_, o', ho', nf⟩ := I.ok.funs.mem hb
    rw [e] at ho'; cases ho'
    obtain ⟨sl', e2⟩ := up b _ e1 nf
    exact ⟨sl', e2⟩
  refine ⟨I.ok, I.os, I.bare, ⟨fun b o e n hb hx => hB b o (F.k0 b o e n hb hx), sl, I.base.free, fun b o e hx => ?_, I.base.tups, I.base.frzs, I.base.tbls⟩, ?_, fun x c e => ?_, I.free, I.freeC, fun p hp => ?_, hok.kept hB, I.len⟩
  · by_cases hb : b ∈ X.fs
    · obtain ⟨sl', q⟩ := sl b o e (I.ok.frf b hb) hb hx
      exact ⟨_, q⟩
    · obtain ⟨o', q⟩ := F.kt b o e hb hx
      exact ⟨o', hB b o' q⟩
  · obtain ⟨m, hn, hl⟩ := I.loc
    refine ⟨m, up.ns hn, fun i x v e1 e2 e3 => ?_⟩
    obtain ⟨u, r, l⟩ := hl i x v e1 e2 e3
    refine ⟨u, r, ?_⟩
    rcases l with l | ⟨k, c, e, z⟩
    · exact .inl l
    · exact .inr ⟨k, c, e, up_cell up z⟩
  · obtain ⟨v, z⟩ := I.cell x c e
    exact ⟨v, up_cell up z⟩
  · obtain ⟨_, n, ne, nf, d⟩ := I.pin p hp
    exact ⟨hB _ _ (F.kp p hp), n, ne, nf, d⟩
/-- an old object is no running frame of ours -/
theorem Inv.oldStk (I : Inv X pins σ H s) {b : Addr} {o : Obj} (e : X.s₀.heap.get? b = some o) (hb : b ∉ X.fs) : b ∉ frs X.stack := fun z => by
  rcases List.mem_cons.mp (I.stkSub b z) with q | q
  · have h1 := Heap.lt_size e
    have h2 := I.ok.above
    rw [q] at h1
    exact absurd (Nat.lt_of_lt_of_le h1 h2) (Nat.lt_irrefl _)
  · exact hb q
/-- the heap without the frames -/
def noFr (h : Heap) (l : List Env) : Heap := PySem.W.hideAll h (frs l)
theorem noFr_get {h : Heap} {l : List Env} {b : Addr} {o : Obj} (e : h.get? b = some o) (n : b ∉ frs l) : (noFr h l).get? b = some o := PySem.W.hideAll_get _ e n
theorem of_noFr {h : Heap} {l : List Env} : (noFr h l).StaysIn h := fun _ _ e => PySem.W.of_hideAll (frs l) e
theorem noFr_none {h : Heap} {l : List Env} : ∀ b ∈ frs l, (noFr h l).get? b = none := fun _ hb => PySem.W.hideAll_none (frs l) hb
theorem funs_base {h base B : Heap} : ∀ {l : List Env}, (∀ b ∈ frs l, B.get? b = none) → h.FunFrames base l → h.FunFrames B l
  | [], _, _ => trivial
  | env :: r, hB, ⟨hk, ⟨L, o, hf, _, ho, hd⟩, hr⟩ => by
    have e : frs (env :: r) = L :: frs r := by unfold frs; rw [List.filterMap_cons, hf]
    rw [e] at hB
    exact ⟨hk, ⟨L, o, hf, hB L List.mem_cons_self, ho, hd⟩, funs_base (fun b hb => hB b (List.mem_cons_of_mem _ hb)) hr⟩
theorem Inv.hokB (I : Inv X pins σ H s) : HOk X.prog X.w H (noFr s.heap X.stack) := fun a o e => by
  have nt : ∀ b u, H b = some u → b ∉ frs X.stack := fun b u q z => by rw [I.stkFree b z] at q; cases q
  refine (I.hok a o e).stay (fun b u hb q => noFr_get q ?_) (fun _ q => q) fun _ _ q => q
  rcases hb with rfl | hb
  · exact nt _ _ e
  · exact nt _ _ hb
theorem Inv.flB (I : Inv X pins σ H s) : Fl X pins (noFr s.heap X.stack) where
  k0 := fun b o e n hb hx => noFr_get (I.base.keep b o e n hb hx) (I.oldStk e hb)
  kt := fun b o e hb hx => let ⟨o', q⟩ := I.base.there b o e hx; ⟨o', noFr_get q (I.oldStk e hb)⟩
  kp := fun p hp => by
    obtain ⟨e, n, ne, nf, d⟩ := I.pin p hp
    refine noFr_get e fun z => ?_
    rcases List.mem_cons.mp (I.stkSub _ z) with q | q
    · exact ne q
    · exact nf q
/-- an exception of the class cls has come up from a callee -/
def XS (X : Cx) (pins : List (Addr × Obj)) (σ : St) (E : XK) (e : Value) (s' : Shared) : Prop :=
  ∃ (ea : Addr) (cls : Value) (d : Option Addr) (H' : Hp) (B : Heap), e = .ref ea ∧ Inv X pins σ H' s' ∧ Fly B X.stack ea cls d .none s'.heap ∧ HOk X.prog X.w H' B ∧ Fl X pins B ∧ E cls d H'
/-- how an exception lies behind a call -/
def CX1 (P : Program) (w : World) : CXT := fun outer H s E e s' =>
  ∃ (ea : Addr) (cls : Value) (d : Option Addr) (H' : Hp) (B : Heap), e = .ref ea ∧ s'.os = s.os ∧ AllBare s'.gens ∧ Fly B outer ea cls d .none s'.heap ∧ HOk P w H' B ∧ Un (frs outer) [] H H' s.heap s'.heap ∧
    (∀ b o, s.heap.get? b = some o → H b = none → b ∉ frs outer → B.get? b = some o) ∧ (∀ b o, s.heap.get? b = some o → b ∉ frs outer → ∃ o', B.get? b = some o') ∧ E cls d H'
theorem xs_of {E : XK} {e : Value} {s' : Shared} (I : Inv X pins σ H s) (h : CX1 X.prog X.w X.stack H s E e s') : XS X pins σ E e s' := by
  obtain ⟨ea, cls, d, H', B, rfl, os, bare, fl, hok, un, k0, kt, q⟩ := h
  refine ⟨ea, cls, d, H', B, rfl, I.call' (ch := []) os un (hok.kept fl.st) bare (fun b z => absurd z (by simp)), fl, hok, ⟨fun b o e n hb hx => ?_, fun b o e hb hx => ?_, fun p hp => ?_⟩, q⟩
  · exact k0 b o (I.base.keep b o e n hb hx) (I.base.free b o e n hx) (I.oldStk e hb)
  · obtain ⟨o', e'⟩ := I.base.there b o e hx
    exact kt b o' e' (I.oldStk e hb)
  · obtain ⟨e, n, ne, nf, _⟩ := I.pin p hp
    refine k0 _ _ e n fun z => ?_
    rcases List.mem_cons.mp (I.stkSub _ z) with q | q
    · exact ne q
    · exact nf q
/-- what this body wants of an exception that comes up; of one that is made here (its object as new, its dict d) -/
def Takes (X : Cx) (E : St → XK) : Prop := ∀ (pins : List (Addr × Obj)) (σ : St) (e : Value) (s' : Shared), XS X pins σ (E σ) e s' → X.xe e s'
def TakesN (X : Cx) (E : St → XK) : Prop := ∀ (pins : List (Addr × Obj)) (σ : St) (H : Hp) (s : Shared) (ea : Addr) (oe : Obj) (vs : Array Value), Inv X pins σ H s → H ea = none →
  (∀ b o, X.s₀.heap.get? b = some o → b ∉ X.ex → b ≠ ea) → (∀ p ∈ X.pn ++ pins, p.1 ≠ ea) → s.heap.get? ea = some oe → oe.data = .fields vs → vs[1]? = some .none → E σ oe.cls oe.dict H → X.xe (.ref ea) s
end
/-- a def's body hands exceptions on -/
theorem takes_cx {P : Program} {w : World} {K : PySem.W.Frag} {mg : Str → Option Value} {base : Heap} {N : List Str} {qual : Str} {scope : Scope} {f : Addr} {cd : Value} {A : Around} {outer : List Env} {s : Shared} {H : Hp} {E : XK} :
    Takes (cxOf (CX1 P w) P w K mg base N qual scope f cd A outer s H E) (fun _ => E) := by
  intro pins σ e s' h
  obtain ⟨ea, cls, d, H', B, rfl, I, fl, hok, F, q⟩ := h
  refine leave_on I.ok.frames rfl fl fun h' fl' up => ?_
  have J := I.flown fl'.st up hok F
  exact ⟨ea, cls, d, H', B, rfl, I.os, I.bare, fl', hok, J.base, fun b o e n hb => F.k0 b o e n hb (by intro z; cases z), fun b o e hb => F.kt b o e hb (by intro z; cases z), q⟩
theorem takesN_cx {P : Program} {w : World} {K : PySem.W.Frag} {mg : Str → Option Value} {base : Heap} {N : List Str} {qual : Str} {scope : Scope} {f : Addr} {cd : Value} {A : Around} {outer : List Env} {s : Shared} {H : Hp} {E : XK} :
    TakesN (cxOf (CX1 P w) P w K mg base N qual scope f cd A outer s H E) (fun _ => E) := by
  intro pins σ H1 s1 ea oe vs I hn hold hpin he hd h1 q
  -- the exception itself must not lie in B
  let l := envOfC qual scope s.heap.objs.size f cd :: outer
  let B : Heap := PySem.W.hideAll (noFr s1.heap l) [ea]
  have bst : B.StaysIn s1.heap := fun b o e => of_noFr b o (PySem.W.of_hideAll [ea] e)
  have bget : ∀ b o, (noFr s1.heap l).get? b = some o → b ≠ ea → B.get? b = some o := fun b o e n => PySem.W.hideAll_get _ e (by simpa using n)
  have bne : B.get? ea = none := PySem.W.hideAll_none [ea] (by simp)
  have hokB : HOk P w H1 B := fun a o e => by
    have nt : ∀ b u, H1 b = some u → b ≠ ea := fun b u q z => by rw [z, hn] at q; cases q
    refine (I.hokB a o e).stay (fun b u hb q => bget b u q ?_) (fun _ q => q) fun _ _ q => q
    rcases hb with rfl | hb
    · exact nt _ _ e
    · exact nt _ _ hb
  have F : Fl (cxOf (CX1 P w) P w K mg base N qual scope f cd A outer s H E) pins B := by
    refine ⟨fun b o e n hb hx => bget b o (I.flB.k0 b o e n hb hx) (hold b o e hx), fun b o e hb hx => ?_, fun p hp => bget _ _ (I.flB.kp p hp) (hpin p hp)⟩
    obtain ⟨o', q'⟩ := I.flB.kt b o e hb hx
    exact ⟨o', bget b o' q' (hold b o e hx)⟩
  have hl : s1.heap.FunFrames B l := funs_base (fun b hb => by
    cases z : B.get? b with
    | none => rfl
    | some o =>
      have := noFr_none (h := s1.heap) b hb
      rw [PySem.W.of_hideAll [ea] z] at this
      cases this) I.stack
  refine leave_new (base := B) I.ok.frames rfl hl he bst bne hd h1 fun h' fl up => ?_
  have J := I.flown fl.st up hokB F
  exact ⟨ea, oe.cls, oe.dict, H1, B, rfl, I.os, I.bare, fl, hokB, J.base, fun b o e n hb => F.k0 b o e n hb (by intro z; cases z), fun b o e hb => F.kt b o e hb (by intro z; cases z), q⟩
/-! ### calls that may raise -/
def tCallX (sp : Sp) (dvs : List V) (E : St → XK) (t : TA) : TE := fun σ H Q => t σ H fun vs H1 => sp (vs ++ dvs) H1 Q (E σ)
def tMakeX (C : Addr) (sp : Sp) (dvs : List V) (E : St → XK) (t : TA) : TE := fun σ H Q => t σ H fun vs H1 => ∀ x dx, H1 x = none → H1 dx = none → dx ≠ x →
  sp (.ref x :: (vs ++ dvs)) (upd (upd H1 dx (.own x)) x (.ins C dx [])) (fun v H2 => v = .non ∧ Q (.ref x) H2) (E σ)
section
variable {X : Cx} {k : Nat} {f C : Addr} {fd : FuncData} {ps : List Str} {sp : Sp} {dvs : List V} {ds : List Value} {E : St → XK} {x m : Str} {p pos apos : Pos} {e o : Expr} {es : List Expr} {ta : TE} {t : TA}
theorem run_fnX {pins : List (Addr × Obj)} {σ : St} {H : Hp} {s : Shared} {Q : VK} {us : List Value} {vs : List V} (F : FnOk X.prog X.w X.K X.mg X.base (CX1 X.prog X.w) k f fd ps sp) (hr : Room k X.A) (hb : Binds X.K fd ps ds) (hd : Vals dvs ds) (hx : Takes X E)
    (I : Inv X pins σ H s) (r : Vals vs us) (h : sp (vs ++ dvs) H Q (E σ)) : wpAny (model X.prog X.w) X.A (call (.ref f) us) (EP X pins σ Q) X.xe s := by
  have r2 : Vals (vs ++ dvs) (us ++ ds) := r.append hd
  have hl : (us ++ ds).length = ps.length := by rw [← r2.length]; exact F.len _ _ _ _ h
  refine wpAny_call (codeAny_mono (F.run X.A X.stack s H ⟨us, []⟩ (us ++ ds) (vs ++ dvs) Q (E σ) hr I.env0 (hb s us I.kIn hl) r2 h) fun r s' hq => ?_)
  cases r with
  | error e => exact hx pins σ e s' (xs_of I hq)
  | ok fl =>
    cases fl with
    | ret u => exact I.after hq
    | next => exact False.elim hq
    | brk => exact False.elim hq
    | cont => exact False.elim hq
theorem pe_callX (F : FnOk X.prog X.w X.K X.mg X.base (CX1 X.prog X.w) k f fd ps sp) (hr : Room k X.A) (hg : Gl X x) (hm : X.mg x = some (.ref f)) (hk : PySem.W.keepIn X.K (.ref f) = true) (hb : Binds X.K fd ps ds) (hd : Vals dvs ds) (hx : Takes X E)
    (ha : PA X (e :: es) t) (hdb : (x == ("__debug__" : Str)) = false := by decide) (he : starEach (e :: es) X.env = (false, eval e X.env) :: starEach es X.env := by rfl) (hpl : (backTo pos (starEach es X.env)).any (·.1) = false := by rfl) :
    PE X (.Call (.Name x p) (e :: es) [] pos) (tCallX sp dvs E t) := by
  intro pins s σ H Q I h
  refine wpAny_Call_Name_kw (ld_glob I hg hm ?_ hdb)
  refine PySem.W.callWith_K (h₀ := X.base) I.ok.mod.kin hk (thn (ha pos pins s σ H _ I h) fun us s1 ⟨vs, H1, I1, r, q⟩ => ⟨I1.kIn, ?_⟩) he hpl
  exact run_fnX F hr hb hd hx I1 r q
theorem run_makeX {pins : List (Addr × Obj)} {σ : St} {H : Hp} {s : Shared} {Q : VK} {us : List Value} {vs : List V} (M : Mk X.K C f) (F : FnOk X.prog X.w X.K X.mg X.base (CX1 X.prog X.w) k f fd ps sp) (hr : Room (k + 1) X.A) (hb : Binds X.K fd ps ds) (hd : Vals dvs ds)
    (hx : Takes X E) (I : Inv X pins σ H s) (r : Vals vs us)
    (h : ∀ x dx, H x = none → H dx = none → dx ≠ x → sp (.ref x :: (vs ++ dvs)) (upd (upd H dx (.own x)) x (.ins C dx [])) (fun v H2 => v = .non ∧ Q (.ref x) H2) (E σ)) :
    wpAny (model X.prog X.w) X.A (call (.ref C) us) (EP X pins σ Q) X.xe s := by
  have hq := h (s.heap.objs.size + 1) s.heap.objs.size (I.hok.fresh (Nat.le_succ _)) (I.hok.fresh (Nat.le_refl _)) (Nat.ne_of_lt (Nat.lt_succ_self _))
  have I2 := Inv.made (C := C) I
  have r2 : Vals (V.ref (s.heap.objs.size + 1) :: (vs ++ dvs)) (Value.ref (s.heap.objs.size + 1) :: (us ++ ds)) := .cons rfl (r.append hd)
  have hl : (Value.ref (s.heap.objs.size + 1) :: us ++ ds).length = ps.length := by
    have e := r2.length
    rw [F.len _ _ _ _ hq] at e
    exact e.symm
  refine wpAny_call (make_map (f := f) I.kIn M.makes M.init (beq_iff_eq.mp M.fn) (codeAny_mono (F.run _ X.stack _ _ ⟨Value.ref (s.heap.objs.size + 1) :: us, []⟩ (Value.ref (s.heap.objs.size + 1) :: (us ++ ds)) _ _ (E σ) (hr.make C us [])
    (I2.env0.make C us []) (hb _ (Value.ref (s.heap.objs.size + 1) :: us) I2.kIn hl) r2 hq) fun r s' hq' => ?_))
  cases r with
  | error e => exact hx pins σ e s' (xs_of I2 hq')
  | ok fl =>
    cases fl with
    | ret u =>
      obtain ⟨v, H', I3, rv, ev, q3⟩ := I2.after hq'
      subst ev
      exact ⟨rv, ⟨V.ref (s.heap.objs.size + 1), H', I3, rfl, q3⟩⟩
    | next => exact False.elim hq'
    | brk => exact False.elim hq'
    | cont => exact False.elim hq'
theorem pe_makeX (M : Mk X.K C f) (F : FnOk X.prog X.w X.K X.mg X.base (CX1 X.prog X.w) k f fd ps sp) (hr : Room (k + 1) X.A) (hg : Gl X x) (hm : X.mg x = some (.ref C)) (hb : Binds X.K fd ps ds) (hd : Vals dvs ds) (hx : Takes X E)
    (ha : PA X (e :: es) t) (hdb : (x == ("__debug__" : Str)) = false := by decide) (he : starEach (e :: es) X.env = (false, eval e X.env) :: starEach es X.env := by rfl) (hpl : (backTo pos (starEach es X.env)).any (·.1) = false := by rfl) :
    PE X (.Call (.Name x p) (e :: es) [] pos) (tMakeX C sp dvs E t) := by
  intro pins s σ H Q I h
  refine wpAny_Call_Name_kw (ld_glob I hg hm ?_ hdb)
  refine PySem.W.callWith_K (h₀ := X.base) I.ok.mod.kin M.kp (thn (ha pos pins s σ H _ I h) fun us s1 ⟨vs, H1, I1, r, q⟩ => ⟨I1.kIn, ?_⟩) he hpl
  exact run_makeX M F hr hb hd hx I1 r q
end
/-- a def that lets none by is one that may let some by -/
theorem FnOk.any {P : Program} {w : World} {K : PySem.W.Frag} {mg : Str → Option Value} {base : Heap} {CX : CXT} {k : Nat} {f : Addr} {fd : FuncData} {ps : List Str} {sp : Sp} (F : FnOk P w K mg base CX0 k f fd ps sp) : FnOk P w K mg base CX k f fd ps sp :=
  ⟨F.len, fun A outer s H args us vs Q E hr e0 hb r h => codeAny_mono (F.run A outer s H args us vs Q E hr e0 hb r h) fun r s' q => by
    cases r with
    | error e => exact False.elim q
    | ok fl => cases fl <;> exact q⟩
/-- THE RULE for a def that may raise -/
theorem Fun.okX {P : Program} {w : World} {K : PySem.W.Frag} {mg : Str → Option Value} {base : Heap} {x qual : Str} {st : Stmt} {f : Addr} {fd : FuncData} {N ps : List Str} {k : Nat} {sp : Sp} (F : Fun K x qual st f fd) (S : FnScope N ps (defScope st)) (len : ∀ vs H Q E, sp vs H Q E → vs.length = ps.length)
    (hbody : ∀ (cdv : Value) (A : Around) (outer : List Env) (s : Shared) (H : Hp) (vs : List V) (Q : VK) (E : XK), Room k (A.deeper (envOfC qual (defScope st) s.heap.objs.size f cdv)) → sp vs H Q E →
      ∃ t, PSs (cxOf (CX1 P w) P w K mg base N qual (defScope st) f cdv A outer s H E) (defBody st) t ∧ t { nx := fun _ H' => Q .non H', rt := Q } (start N vs) H) : FnOk P w K mg base (CX1 P w) (k + 1) f fd ps sp := by
  obtain ⟨oc, od, kV, doc, pm, an, cdv, ct, osl, rfl, lk, hcd⟩ := F.ex
  exact fn_of lk hcd S len fun A outer s H vs Q E hr hsp => hbody cdv A outer s H vs Q E hr hsp
end L2
set_option Elab.async false
set_option linter.all false
set_option maxRecDepth 100000
set_option maxHeartbeats 1000000
namespace L2
open PySem PySem.Spec PyProof.Rows
/-! ### raise C(..), C an own class under ValueError without an __init__ -/
abbrev bmV : List Value := [.type "ValueError", .type "Exception", .type "BaseException", .type "object"]
/-- the class's object, out of the look -/
theorem exc_obj {K : PySem.W.Frag} {h : Heap} {C : Addr} {bmB : List Value} {newId : String} (X : K.In h) (q : PySem.W.excIn K C bmB newId = true) :
    ∃ bm N nm q bs hdct sn sub ab col dd k0 k1 k2 k3 k5 mN, h.get? C = some (excClassObj nm q C N bs bm hdct sn sub ab col dd k0 k1 k2 k3 k5 newId) ∧ h.Ns N mN ∧ mN "__init__" = none ∧ OwnTail h bmB bm := by
  unfold PySem.W.excIn at q; split at q
  · rename_i dd cd sl ho; split at q
    · rename_i C' bm k0 k1 k2 k3 n k5 hm hs
      simp only [Bool.and_eq_true, Bool.not_eq_true', beq_iff_eq] at q
      obtain ⟨⟨⟨⟨⟨e1, e2⟩, e3⟩, ht⟩, hk⟩, hi⟩ := q
      subst e1 e2
      obtain ⟨nm, bs, mro, ns, qn, hd, sn, sub, ab, col, del⟩ := cd
      dsimp only at hm e3 hk hi; subst hm e3
      have es : sl = #[k0, k1, k2, k3, some (.builtin n), k5] := by obtain ⟨l⟩ := sl; simp only at hs; rw [hs]
      subst es
      exact ⟨bm, ns, nm, qn, bs, hd, sn, sub, ab, col, dd, k0, k1, k2, k3, k5, _, X _ _ ho, .of_isNs (PySem.W.isNs_of_in X hk), PySem.W.nsMap_none_of_in X hk hi, PySem.W.tail_of_in X ht⟩
    · cases q
  · cases q
def tRaise (C : Addr) (E : St → XK) (t : TA) : TS := fun _ σ H => t σ H fun vs H1 => vs.length ≤ sizeLine ∧ E σ (.ref C) none H1
section
variable {X : Cx} {C : Addr} {x : Str} {np cpos pos : Pos} {e : Expr} {es : List Expr} {t : TA} {E : St → XK}
/-- a new exception is laid -/
theorem made_takes {pins : List (Addr × Obj)} {σ : St} {H : Hp} {s : Shared} {h' : Heap} {ea : Addr} {cls : Value} {args : List Value} (hT : TakesN X E) (I : Inv X pins σ H s) (hm : Heap.MadeExcOf s.heap h' ea cls args) (q : E σ cls none H) :
    X.xe (.ref ea) { s with heap := h' } := by
  obtain ⟨t, he, _, _⟩ := hm.there
  have new : ∀ b o, s.heap.get? b = some o → b ≠ ea := fun b o z y => by rw [y, hm.new] at z; cases z
  refine hT pins σ H { s with heap := h' } ea _ _ (I.kept hm.keeps) ?_ (fun b o z => ?_) (fun p hp => new _ _ (I.pin p hp).1) he rfl rfl q
  · cases z : H ea with
    | none => rfl
    | some o =>
      obtain ⟨ob, y⟩ := (I.hok ea o z).there
      exact absurd rfl (new ea ob y)
  · intro hx y
    subst y
    obtain ⟨o', y⟩ := I.base.there b o z hx
    exact new b o' y rfl
theorem ps_raise (hc : X.calm = true) (ex : PySem.W.excIn X.K C bmV "ValueError.__new__" = true) (hg : Gl X x) (hm : X.mg x = some (.ref C)) (hT : TakesN X E) (ha : PA X (e :: es) t)
    (hdb : (x == ("__debug__" : Str)) = false := by decide) (he : starEach (e :: es) X.env = (false, eval e X.env) :: starEach es X.env := by rfl) (hpl : (backTo cpos (starEach es X.env)).any (·.1) = false := by rfl) :
    PS X (.Raise (some (.Call (.Name x np) (e :: es) [] cpos)) none pos) (tRaise C E t) := by
  intro pins s σ H D I h
  obtain ⟨tl, N, nm, q, bs, hdct, sn, sub, ab, col, dd, k0, k1, k2, k3, k5, mN, hC, hN, hni, T⟩ := exc_obj I.ok.mod.kin ex
  refine wpAny_Raise_call_subT (nm := nm) (q := q) (k5 := k5) (k0 := k0) (k1 := k1) (k2 := k2) (k3 := k3) (dd := dd) (col := col) (ab := ab) (sub := sub) (sn := sn) (hdct := hdct) (bs := bs) (C := C) (N := N) (bm := tl) F.excBase_ValueError (mN := mN) (T.hasType F.excBase_ValueError.hasBase) (I.ok.hd hc) ?_ hni (ld_glob I hg hm ⟨rfl, ?_⟩ hdb)
  · rw [he]; show (false || _) = false; rw [Bool.false_or]; exact hpl
  · have z := ha cpos pins s σ H _ I h
    rw [he] at z ⊢
    exact Calls.evalArgs_plain (thn z fun us s2 ⟨vs, H2, I2, r, zl, q2⟩ => ⟨rfl, by rw [← r.length]; exact zl, I2.bk _ _ hC, hN.keeps I2.bk, T.keeps I2.bk, fun h' ea hme => made_takes hT I2 hme q2⟩)
end

/-! ### try: .. except C as n: .. -/
/-- the exception at ea, caught: of the class C, its dict d -/
def excO (ea C : Addr) (d : Option Addr) : HO := .ext fun h => ∃ o vs, h.get? ea = some o ∧ o.cls = .ref C ∧ o.dict = d ∧ o.data = .fields vs
/-- the body's context -/
abbrev Cx.tryB (X : Cx) (W : Value → Shared → Prop) (pn : List (Addr × Obj)) : Cx := { X with xe := W, pn := pn }
/-- the suite's context: the exception at ea is handled; none leaves -/
abbrev Cx.suite (X : Cx) (ea : Addr) : Cx := { X with A := X.A.mark (some (.ref ea)), calm := false, xe := fun _ _ => False }
section
variable {X : Cx} {pins : List (Addr × Obj)} {σ : St} {H : Hp} {s : Shared}
theorem Inv.tryB (I : Inv X pins σ H s) (W : Value → Shared → Prop) : Inv (X.tryB W (X.pn ++ pins)) [] σ H s :=
  ⟨⟨I.ok.mod, I.ok.kind, I.ok.glob, I.ok.blt, I.ok.above, I.ok.inj, I.ok.has, I.ok.cab, I.ok.hd, I.ok.frames, I.ok.stk, I.ok.exf, I.ok.bs, I.ok.bsz, I.ok.noex, I.ok.exfs, I.ok.funs, I.ok.frf⟩, I.os, I.bare, I.base, I.loc, I.cell, I.free, I.freeC,
    fun p hp => I.pin p (by simpa using hp), I.hok, I.len⟩
theorem Inv.untryB {W : Value → Shared → Prop} {pins' : List (Addr × Obj)} (I : Inv (X.tryB W (X.pn ++ pins)) pins' σ H s) : Inv X pins σ H s :=
  ⟨⟨I.ok.mod, I.ok.kind, I.ok.glob, I.ok.blt, I.ok.above, I.ok.inj, I.ok.has, I.ok.cab, I.ok.hd, I.ok.frames, I.ok.stk, I.ok.exf, I.ok.bs, I.ok.bsz, I.ok.noex, I.ok.exfs, I.ok.funs, I.ok.frf⟩, I.os, I.bare, I.base, I.loc, I.cell, I.free, I.freeC,
    fun p hp => I.pin p (List.mem_append_left _ hp), I.hok, I.len⟩
theorem Inv.suite (I : Inv X pins σ H s) (ea : Addr) : Inv (X.suite ea) pins σ H s :=
  ⟨⟨I.ok.mod, I.ok.kind, I.ok.glob, I.ok.blt, I.ok.above, I.ok.inj, I.ok.has, I.ok.cab, (fun z => (by cases z)), I.ok.frames, I.ok.stk, I.ok.exf, I.ok.bs, I.ok.bsz, I.ok.noex, I.ok.exfs, I.ok.funs, I.ok.frf⟩, I.os, I.bare, I.base, I.loc, I.cell, I.free, I.freeC, I.pin, I.hok, I.len⟩
theorem Inv.unsuite {ea : Addr} (I : Inv (X.suite ea) pins σ H s) (hc : X.calm = true → X.A.handled = none) : Inv X pins σ H s :=
  ⟨⟨I.ok.mod, I.ok.kind, I.ok.glob, I.ok.blt, I.ok.above, I.ok.inj, I.ok.has, I.ok.cab, hc, I.ok.frames, I.ok.stk, I.ok.exf, I.ok.bs, I.ok.bsz, I.ok.noex, I.ok.exfs, I.ok.funs, I.ok.frf⟩, I.os, I.bare, I.base, I.loc, I.cell, I.free, I.freeC, I.pin, I.hok, I.len⟩
/-- the caught exception is tracked from here on -/
theorem Inv.caught {B : Heap} {l : List Env} {ea C : Addr} {d : Option Addr} {fl : Value} (I : Inv X pins σ H s) (f : Fly B l ea (.ref C) d fl s.heap) (hok : HOk X.prog X.w H B) (F : Fl X pins B) (hn : H ea = none) : Inv X pins σ (upd H ea (excO ea C d)) s := by
  obtain ⟨ob, vs, ho, hc, hdd, hd⟩ := f.there
  have keep : ∀ b u, H b = some u → upd H ea (excO ea C d) b = some u := fun b u e => by rw [upd_ne (ne_of_none e hn)]; exact e
  have data : ∀ b o, s.heap.get? b = some o → (∀ ws, o.data ≠ .fields ws) → b ≠ ea := fun b o e nf z => by rw [z, ho] at e; cases e; exact nf vs hd
  have new : ∀ b o, X.s₀.heap.get? b = some o → b ∉ X.ex → b ≠ ea := fun b o e hx z => by
    by_cases hb : b ∈ X.fs
    · obtain ⟨sl, q⟩ := I.base.slot b o e (I.ok.frf b hb) hb hx
      obtain ⟨_, o', e', nf⟩ := I.ok.funs.mem hb
      rw [e] at e'; cases e'
      exact data b _ q nf z
    · obtain ⟨o', q⟩ := F.kt b o e hb hx
      rw [z, f.en] at q; cases q
  refine ⟨I.ok, I.os, I.bare, ⟨I.base.keep, I.base.slot, fun b o e n hx => ?_, I.base.there, fun b xs e => keep _ _ (I.base.tups b xs e), fun b o u e => keep _ _ (I.base.frzs b o u e), fun b ps e => ?_⟩, I.loc, I.cell, ?_, fun x c e => ?_, fun p hp => ?_, fun b u e => ?_, I.len⟩
  · rw [upd_ne (new b o e hx)]; exact I.base.free b o e n hx
  · obtain ⟨m, q⟩ := I.base.tbls b ps e
    exact ⟨m, keep _ _ q⟩
  · obtain ⟨m, ⟨o, es, ep, e, dd, _⟩, _⟩ := I.loc
    rw [upd_ne (data _ o e fun ws z => by rw [dd] at z; cases z)]; exact I.free
  · obtain ⟨v, o, e', dd⟩ := I.cell x c e
    rw [upd_ne (data _ o e' fun ws z => by rw [dd] at z; cases z)]; exact I.freeC x c e
  · obtain ⟨e, n, ne, nf, z⟩ := I.pin p hp
    refine ⟨e, ?_, ne, nf, z⟩
    rw [upd_ne (fun y => by have := F.kp p hp; rw [y, f.en] at this; cases this)]; exact n
  · by_cases hb : b = ea
    · subst hb
      rw [upd_same] at e; cases e
      exact ⟨⟨ob, vs, ho, hc, hdd, hd⟩, ⟨ob, ho⟩, fun h1 h2 ⟨o, ws, a1, a2⟩ k => ⟨o, ws, k _ a1, a2⟩⟩
    · rw [upd_ne hb] at e
      exact (I.hok b u e).stay (fun _ _ _ q => q) (fun c q => keep _ _ q) fun c xs q => keep _ _ q
/-- the name goes behind the suite -/
theorem goes_ok {M : Model} {A : Around} {E : Value → Shared → Prop} {i : Nat} {n : Str} {pos : Pos} {Q : Unit → Shared → Prop} (I : Inv X pins σ H s) (hN : X.N.Nodup) (hi : X.N[i]? = some n) (hl : X.env.scope.names.lookup n = some .local)
    (h : ∀ s', Inv X pins (σ.set i none) H s' → Q () s') : wpAny M A (do bindName X.env n .none; unbindBehindTheSuite X.env n pos) Q E s := by
  obtain ⟨m, hn, hm⟩ := id I.loc
  have hp : (X.env.scope.kind == .class || (X.env.scope.kind == .module && X.env.locals != X.env.globals)) = false := by rw [I.ok.kind]; rfl
  refine wpAny_nameGoes_keeps hl hn hp fun h' v hn' hs => ?_
  obtain ⟨oL, _, _, hoL, _⟩ := id hn
  have old : ∀ b o, X.s₀.heap.get? b = some o → b ≠ X.env.locals := fun b o e => Nat.ne_of_lt (Nat.lt_of_lt_of_le (Heap.lt_size e) I.ok.above)
  refine h _ ⟨I.ok, I.os, I.bare, ⟨fun b o e n hb hx => ?_, fun b o e n hb hx => ?_, I.base.free, fun b o e hx => ?_, I.base.tups, I.base.frzs, I.base.tbls⟩, ⟨_, hn', fun j y v' e1 e2 e3 => ?_⟩, fun y c e => ?_, I.free, I.freeC, fun p hp => ?_, fun b u e => ?_, by simpa using I.len⟩
  · exact (hs.2 b (old b o e)).trans (I.base.keep b o e n hb hx)
  · obtain ⟨sl, e1⟩ := I.base.slot b o e n hb hx
    exact ⟨sl, (hs.2 b (old b o e)).trans e1⟩
  · obtain ⟨o', e1⟩ := I.base.there b o e hx
    exact ⟨o', (hs.2 b (old b o e)).trans e1⟩
  · have hj : j ≠ i := fun z => by
      subst z
      have hjl : j < σ.length := by rw [I.len]; exact (List.getElem?_eq_some_iff.mp hi).1
      rw [List.getElem?_set_self hjl] at e2; cases e2
    rw [List.getElem?_set_ne (Ne.symm hj)] at e2
    obtain ⟨u', r', q⟩ := hm j y v' e1 e2 e3
    refine ⟨u', r', ?_⟩
    rcases q with ⟨k, e⟩ | ⟨k, c, e, z⟩
    · refine .inl ⟨k, ?_⟩
      have ny : y ≠ n := fun e => hj (nodup_ix hN e1 (e ▸ hi))
      show (if y = n then v else m y) = some u'
      rw [if_neg ny]; exact e
    · exact .inr ⟨k, c, e, z.sameBut hs (I.cne y c e)⟩
  · obtain ⟨w', z⟩ := I.cell y c e
    exact ⟨w', z.sameBut hs (I.cne y c e)⟩
  · obtain ⟨e, n, ne, nf, d⟩ := I.pin p hp
    exact ⟨(hs.2 p.1 ne).trans e, n, ne, nf, d⟩
  · refine (I.hok b u e).stay (fun c w' hc q => (hs.2 c ?_).trans q) (fun _ q => q) fun _ _ q => q
    rintro rfl
    rcases hc with z | z
    · rw [← z, I.free] at e; cases e
    · rw [I.free] at z; cases z
end
/-- behind the suite the name in slot i is gone -/
def Ends.goes (D : Ends) (i : Nat) : Ends := { nx := fun σ H => D.nx (σ.set i none) H, rt := D.rt, bk := fun σ H => D.bk (σ.set i none) H, ct := fun σ H => D.ct (σ.set i none) H }
/-- what is wanted of an exception in the body: the clause matches, and the suite does the rest -/
def tCatch (K : PySem.W.Frag) (C : Addr) (i : Nat) (th : TS) (D : Ends) : St → XK := fun σ cls d H => ∃ C', cls = .ref C' ∧ PySem.W.exmOne K (.ref C') (.ref C) = some true ∧ ∀ ea, H ea = none → th (D.goes i) (σ.set i (some (.ref ea))) (upd H ea (excO ea C' d))
def tTry (K : PySem.W.Frag) (C : Addr) (i : Nat) (tb : (St → XK) → TS) (th to : TS) : TS := fun D σ H => tb (tCatch K C i th D) { D with nx := to D } σ H
section
variable {X : Cx} {C : Addr} {x n : Str} {i : Nat} {np hp pos : Pos} {body suite orelse : List Stmt} {b₀ : Stmt} {tb : (St → XK) → TS} {th to : TS}
theorem ps_try (hg : Gl X x) (hm : X.mg x = some (.ref C)) (hst : X.stack = X.env :: X.outer) (hfr : X.env.frame = some X.env.locals) (hN : X.N.Nodup) (hi : X.N[i]? = some n) (hl : X.env.scope.names.lookup n = some .local)
    (hb : ∀ (W : Value → Shared → Prop) (pn : List (Addr × Obj)) (E : St → XK), Takes (X.tryB W pn) E → PSs (X.tryB W pn) body (tb E)) (hh : ∀ ea, PSs (X.suite ea) (b₀ :: suite) th) (ho : PSs X orelse to)
    (hdb : (x == ("__debug__" : Str)) = false := by decide) :
    PS X (.Try body [.ExceptHandler (some (.Name x np)) (some n) (b₀ :: suite) hp] orelse [] pos) (tTry X.K C i tb th to) := by
  intro pins s σ H D I h
  have hT : Takes (X.tryB (fun e s₁ => wpAny (model X.prog X.w) X.A (noteFrame e X.env) (fun _ s₂ => wpAny (model X.prog X.w) X.A (setFlight e none) (fun _ s₃ => wpAny (model X.prog X.w) X.A (handleBy e X.env [.ExceptHandler (some (.Name x np)) (some n) (b₀ :: suite) hp]) (SP X pins D) X.xe s₃) X.xe s₂) X.xe s₁) (X.pn ++ pins)) (tCatch X.K C i th D) := by
    intro pins' σ' e s' hx
    obtain ⟨ea, cls, d, H', B, rfl, I1, fl, hok, F1, C', rfl, hmt, q⟩ := hx
    have I2 : Inv X pins σ' H' s' := I1.untryB
    have F : Fl X pins B := ⟨F1.k0, F1.kt, fun p hp => F1.kp p (List.mem_append_left _ hp)⟩
    have fl : Fly B (X.env :: X.outer) ea (.ref C') d .none s'.heap := hst ▸ fl
    have fA : X.A.frames = some (X.env :: X.outer) := hst ▸ I.ok.frames
    refine note_on fA hfr fl fun h1 f1 u1 => ?_
    have J1 := I2.flown f1.st u1 hok F
    refine land (s := { s' with heap := h1 }) f1 fun h2 f2 u2 => ?_
    have J2 := J1.flown f2.st u2 hok F
    have LT : PySem.W.Looks (model X.prog X.w) h2 (typeOf (.ref ea)) (.ref C') := by
      obtain ⟨ob, _, z, y, _⟩ := f2.there
      rw [← y]; exact (PySem.W.Looks.ld z).andThen .now
    have hn : H' ea = none := by
      cases z : H' ea with
      | none => rfl
      | some o =>
        obtain ⟨ob, y⟩ := (hok ea o z).there
        rw [f2.en] at y; cases y
    refine wpAny_handleBy_cons (codeAny_handlers_test ?_) (by intro q; cases q)
    refine ld_glob (X := X.suite ea) (J2.suite ea) hg hm ?_ hdb
    refine (PySem.W.exm_one (K := X.K) J2.kIn LT hmt).here ?_
    refine codeAny_handlers_suite_as ?_
    refine land (s := { s' with heap := h2 }) f2 fun h3 f3 u3 => ?_
    have J3 := J2.flown f3.st u3 hok F
    have J4 := (J3.caught f3 hok F hn).suite ea
    refine store_ok (X := X.suite ea) J4 hN hi (.inl hl) (v := .ref ea) rfl (fun s4 J5 => ?_) (.inr hl)
    refine wpAny_mono (hh ea pins s4 _ _ (D.goes i) J5 (q ea hn)) (fun f s5 z => ?_) fun _ _ z => False.elim z
    have back : ∀ {σ5 H5}, Inv (X.suite ea) pins σ5 H5 s5 → Inv X pins σ5 H5 s5 := fun J => J.unsuite I.ok.hd
    cases f with
    | next => obtain ⟨σ5, H5, J6, z⟩ := z; exact goes_ok (back J6) hN hi hl fun s6 J7 => ⟨_, H5, J7, z⟩
    | brk => obtain ⟨σ5, H5, J6, z⟩ := z; exact goes_ok (back J6) hN hi hl fun s6 J7 => ⟨_, H5, J7, z⟩
    | cont => obtain ⟨σ5, H5, J6, z⟩ := z; exact goes_ok (back J6) hN hi hl fun s6 J7 => ⟨_, H5, J7, z⟩
    | ret u => obtain ⟨v, σ5, H5, J6, r, z⟩ := z; exact goes_ok (back J6) hN hi hl fun s6 J7 => ⟨v, _, H5, J7, r, z⟩
  refine wpAny_Try_except (wpAny_mono (hb _ (X.pn ++ pins) _ hT [] s σ H { D with nx := to D } (I.tryB _) h) (fun f s1 z => ?_) fun _ _ z => z)
  cases f with
  | next => obtain ⟨σ1, H1, J, z⟩ := z; exact ho pins s1 σ1 H1 D J.untryB z
  | brk => obtain ⟨σ1, H1, J, z⟩ := z; exact ⟨σ1, H1, J.untryB, z⟩
  | cont => obtain ⟨σ1, H1, J, z⟩ := z; exact ⟨σ1, H1, J.untryB, z⟩
  | ret u => obtain ⟨v, σ1, H1, J, r, z⟩ := z; exact ⟨v, σ1, H1, J.untryB, r, z⟩
end
end L2
set_option Elab.async false
set_option linter.all false
set_option maxRecDepth 100000
set_option maxHeartbeats 1000000
/-! isinstance of a caught exception -/
namespace L2
open PySem PySem.Spec PyProof.Rows PySem.W
/-- what of the text an own class of exceptions must have -/
structure ExT (K : Frag) (C : Addr) : Prop where
  ga : findIn K (.ref C) "__getattribute__" = some (some (.builtin "BaseException.__getattribute__"))
  gt : findIn K (.ref C) "__getattr__" = some none
  cl : (clsIn K C).isSome = true
  ha : findIn K (.ref C) "__class__" = some (some (.builtin "object.__class__"))
  hn : specialIn K (.builtin "object.__class__") "__get__" = some (some (.builtin "getset_descriptor.__get__"))
  tk : takesIn K (.builtin "object.__class__") = some true
  mO : mroIn K C (.type "object") = some true
  mB : mroIn K C (.type "BaseException") = some true
theorem cls_some {K : Frag} {C : Addr} {b : Value} {r : Bool} (h : mroIn K C b = some r) : (clsIn K C).isSome = true := by
  obtain ⟨cd, a, _⟩ := Option.bind_eq_some_iff.mp h
  rw [a]; rfl
theorem findObj_dataO {K : Frag} {C : Addr} {od : Option Obj} {name : Str} {a g : Value} (hc : (clsIn K C).isSome = true) (ha : findIn K (.ref C) name = some (some a)) (hg : specialIn K a "__get__" = some (some g)) (ht : takesIn K a = some true) : findObj K C od name = some (.bind g a) := by
  obtain ⟨cd, hc⟩ := Option.isSome_iff_exists.mp hc
  simp [findObj, hc, ha, hg, ht]
section
variable {prog : Program} {w : World} {A : Around} {E : Value → Shared → Prop} {s : Shared} {K : Frag} {x C : Addr} {ox : Obj} {od : Option Obj} {name : Str}
theorem check_ga {M : Model} {v : Value} {Q : Unit → Shared → Prop} (T : ExT K C) (X : K.In s.heap) (I : PySem.W.InstAt s.heap x ox C od) (h : Q () s) : wpAny M A (checkBuiltinCall "BaseException.__getattribute__" ⟨[.ref x, v], []⟩) Q E s := by
  obtain ⟨hh, gg, d, t, os⟩ := s
  have L0 := I.type (M := M)
  have LB := looks_mroIn (M := M) X T.mB
  have hk : builtinKind "BaseException.__getattribute__" = some .slot := by decide +kernel
  have hs : splitId "BaseException.__getattribute__" = some ("BaseException", "__getattribute__") := by decide +kernel
  have ha := F.args_bexc_ga (.ref x) v
  simp only [checkBuiltinCall, hk, hs]
  refine wpAny_bind ?_
  unfold isInstance
  repeat (first | lk | wp_step)
  exact h
theorem exc_ga {tk : Tok} {R : Result → Shared → Prop} {a : Value} {g : String} (T : ExT K C) (X : K.In s.heap) (I : PySem.W.InstAt s.heap x ox C od) (hf : findObj K C od name = some (.bind (.builtin g) a))
    (h : wpAny (model prog w) A.in1 (call (.builtin g) [a, .ref x, .ref C]) (fun v s' => R (.ok (.ret v)) s') (fun e s' => R (.error e) s') s) :
    codeAny (model prog w) A (.call (.builtin "BaseException.__getattribute__") ⟨[.ref x, .str name tk], []⟩) R s := by
  obtain ⟨hh, gg, d, t, os⟩ := s
  have L0 := I.type (M := model prog w)
  have L1 := looks_find (M := model prog w) X I hf
  refine codeAny_call_builtin F.excAttr_ValueError.ga.plain F.entry_bexc_ga (check_ga T X I ?_)
  refine wpAny_bind (wpAny_pure (wpAny_bind (wpAny_pure (wpAny_bind (L0.at (wpAny_bind (L1.at ?_)))))))
  show wpAny _ _ (holding [a] (call (.builtin g) [a, .ref x, .ref C]) >>= ret) _ _ _
  exact wpAny_bind (wpAny_holding (wpAny_mono h (fun v s' z => wpAny_pure z) fun _ _ z => z))
theorem exc_class {Q : Option Value → Shared → Prop} (T : ExT K C) (X : K.In s.heap) (I : PySem.W.InstAt s.heap x ox C od) (h : Q (some (.ref C)) { s with toks := s.toks + 1 }) : wpAny (model prog w) A (getAttr? (.ref x) "__class__") Q E s := by
  have hf : findObj K C od "__class__" = some (.bind (.builtin "getset_descriptor.__get__") (.builtin "object.__class__")) := findObj_dataO T.cl T.ha T.hn T.tk
  obtain ⟨hh, g, d, t, os⟩ := s
  have L0 := I.type (M := model prog w)
  have L1 := looks_findIn (M := model prog w) X T.ga
  have L2 := looks_findIn (M := model prog w) X T.gt
  have f3 := F.excAttr_ValueError.ga.bind (.ref x)
  unfold getAttr? getAttrBy? getAttrBy
  refine wpAny_bind (wpAny_mkText (wpAny_bind (wpAny_attempt (wpAny_holding (wpAny_bind (L0.at (wpAny_bind (L1.at ?_))))))))
  show wpAny _ _ (if (onTheHeap (Value.ref C) && Value.builtin "BaseException.__getattribute__" == Value.builtin "object.__getattribute__") = true then _ else _) _ _ _
  rw [if_neg (by simp [onTheHeap])]
  unfold getAttrByItsOwn
  refine wpAny_bind (show wpAny _ _ (typeLookup (.ref C) "__getattr__") _ _ _ from L2.at ?_)
  refine wpAny_bind (wpAny_attempt (wpAny_holding ?_))
  show wpAny _ _ (boundAndCalled _ _ _) _ _ _
  unfold boundAndCalled
  rw [f3]
  refine wpAny_bind (wpAny_pure ?_)
  refine wpAny_call (exc_ga T X I hf (wpAny_call (class_get X I T.mO ?_)))
  exact wpAny_pure (wpAny_pure h)
theorem kitx_exc (T : ExT K C) : KitX K (.ref x) (.ref C) (fun h => PySem.W.InstAt h x ox C od) where
  ty := fun _ _ _ I => I.type
  it := fun _ _ X _ => by
    obtain ⟨cd, hc⟩ := Option.isSome_iff_exists.mp T.cl
    unfold clsIn at hc
    split at hc
    · rename_i ho
      intro A' Q' E' s' k q
      unfold isType loadHead
      exact wpAny_bind (wpAny_loadPart (k _ _ (X _ _ ho)) (wpAny_pure q))
    · cases hc
  ne := fun h tp dd its n sl X htp => by
    obtain ⟨cd, hc⟩ := Option.isSome_iff_exists.mp T.cl
    refine Bool.eq_false_iff.mpr fun q => ?_
    have e : C = tp := Value.ref.inj (beq_iff_eq.mp q)
    subst e
    unfold clsIn at hc
    split at hc
    · rename_i ho
      have z := (X _ _ ho).symm.trans htp
      cases z
    · cases hc
  ca := fun X I k => exc_class T X I k
end
/-- the dict of a caught exception: none, or one that is tracked -/
def DictOf (H : Hp) (d : Option Addr) : Prop := d = none ∨ ∃ dx fs, d = some dx ∧ H dx = some (.xd fs)
section
variable {X : Cx} {K : Frag}
theorem inst_exc {pins : List (Addr × Obj)} {σ : St} {H : Hp} {s : Shared} {ea C : Addr} {d : Option Addr} (I : Inv X pins σ H s) (he : H ea = some (excO ea C d)) (hd : DictOf H d) : ∃ ox od, PySem.W.InstAt s.heap ea ox C od := by
  obtain ⟨⟨o, vs, h1, h2, h3, h4⟩, _⟩ := I.hok ea _ he
  have nc : notCls o = true := by unfold notCls; rw [h4]
  rcases hd with e | ⟨dx, fs, e, hx⟩
  · exact ⟨o, none, h1, h2, nc, by rw [h3, e]; trivial⟩
  · obtain ⟨ob, q⟩ := (I.hok dx _ hx).there
    exact ⟨o, some ob, h1, h2, nc, by rw [h3, e]; exact q⟩
/-- a class as a value -/
def clsV : V → Option Value
  | .ref a => some (.ref a)
  | .ty n => some (.type n)
  | _ => none
theorem clsV_rel : ∀ {c : V} {cv u : Value}, clsV c = some cv → RelV c u → u = cv
  | .ref _, _, _, e, r => by cases r; cases e; rfl
  | .ty _, _, _, e, r => by cases r; cases e; rfl
/-- isinstance(e, C), e a caught exception -/
theorem call_isE (h : X.K = K) : CallR X (.builtin "isinstance") (fun xs H Q => ∃ (ea C : Addr) (d : Option Addr) (c : V) (cv : Value) (b : Bool), xs = [.ref ea, c] ∧ H ea = some (excO ea C d) ∧ DictOf H d ∧ ExT K C ∧ clsV c = some cv ∧ kitOne K (.ref C) cv = some b ∧ Q (.bl b) H) := by
  subst h
  intro pins s σ H xs us Q I r h
  obtain ⟨ea, C, d, c, cv, b, rfl, he, hd, T, rc, e, q⟩ := h
  obtain ⟨u, w', rfl, rx, rc'⟩ := vals2 r
  cases rx
  obtain ⟨ox, od, J⟩ := inst_exc I he hd
  have ew := clsV_rel rc rc'
  subst ew
  exact kia_one (kitx_exc T) I.kIn J e (fun z => nomatch z) fun tk => ⟨.bl b, H, I.tok tk, rfl, q⟩
end
/-- no exception comes: none is wanted -/
theorem takes0 {X : Cx} : Takes X (fun _ => E0) := fun _ _ _ _ ⟨_, _, _, _, _, _, _, _, _, _, q⟩ => q.elim
end L2
set_option Elab.async false
set_option linter.all false
set_option maxRecDepth 100000
set_option maxHeartbeats 1000000
/-! == and != of tuples -/
namespace L2
open PySem PySem.Spec PyProof.Rows
local macro_rules | `(tactic| walk_at "om") => `(tactic| first | omega | (unfold Addr at *; omega))
def rEqU (K : PySem.W.Frag) (neg : Bool) : R2 := fun x y H Q => ∃ a b n m ts us, x = .ref a ∧ y = .ref b ∧ n ≤ 50 ∧ m ≤ 50 ∧ Holds K H n x (.tup ts) ∧ Holds K H m y (.tup us) ∧ Q (.bl (if neg then !(eqTs ts us) else eqTs ts us)) H
theorem tup_all {ts us : List Tr} {p q : Nat} (h1 : p = ts.length) (h2 : q = us.length) : ((List.range (min p q)).all (fun j => match ts[j]?, us[j]? with | some x, some y => eqT x y | _, _ => true) && p == q) = eqTs ts us := by
  subst h1 h2
  by_cases hlen : ts.length = us.length
  · rw [eqTs_all hlen, ← hlen, Nat.min_self]
    simp <;> rfl
  · rw [eqTs_len hlen]
    simp [hlen]
section
variable {X : Cx}
theorem op_neU (hu : X.A.units + 60 < cLine) : OpR X (compareOp .NotEq) (rEqU X.K true) := by
  intro pins s σ H x y v u Q I rx ry h
  obtain ⟨a, b, n, m, ts, us, rfl, rfl, hn, hm, ht, hu', q⟩ := h
  simp only [if_true] at q
  cases rx; cases ry
  cases ht with
  | @tup n _ xs _ h1 hl he =>
    cases hu' with
    | @tup m _ ys _ h2 hl2 he2 =>
      obtain ⟨its, rv, p, _⟩ := I.tuple h1
      obtain ⟨its2, rv2, p2, _⟩ := I.tuple h2
      have a1 := rv.length
      have a2 := rv2.length
      rw [← tup_all (p := its.toArray.size) (q := its2.toArray.size) (by simp; walk_at "om") (by simp; walk_at "om")] at q
      exact SeqAt.RcNeAt.tuples p p2 (by walk_at "om") (items_eq (A := X.A.in1) (n := n) (m := m) rv rv2 hl hl2 fun i x t y u v w' h1 h2 h3 h4 r1 r2 => eqAt_T I (he i x t h1 h2) (he2 i y u h3 h4) r1 r2 (by show X.A.units + 1 + n + 1 < cLine; walk_at "om")) X.prog X.w X.xe _ ⟨.bl _, H, I, rfl, q⟩
end
/-- a tuple of flat values, a list of flat values -/
theorem holds_flats {K : PySem.W.Frag} {H : Hp} {n : Nat} {a : Addr} {xs : List V} (h : SqT K H a xs) (hf : xs.all flatV = true) : Holds K H (n + 1) (.ref a) (.tup (xs.map .flat)) := by
  refine .tup h (by simp) fun i x t hx ht => ?_
  rw [List.getElem?_map, hx] at ht
  cases ht
  exact .flat (List.all_eq_true.mp hf x (List.mem_of_getElem? hx))
theorem holds_flatsL {K : PySem.W.Frag} {H : Hp} {n : Nat} {a : Addr} {xs : List V} (h : SqL K H a xs) (hf : xs.all flatV = true) : Holds K H (n + 1) (.ref a) (.lst (xs.map .flat)) := by
  refine .lst h (by simp) fun i x t hx ht => ?_
  rw [List.getElem?_map, hx] at ht
  cases ht
  exact .flat (List.all_eq_true.mp hf x (List.mem_of_getElem? hx))
/-! ### and, or, chains of ints whose parts change nothing: one way behind them -/
section
variable {X : Cx} {a b c : Expr} {ta tb tc : TE} {pos : Pos} {rest : List Expr}
end
end L2
set_option Elab.async false
set_option linter.all false
set_option maxRecDepth 100000
set_option maxHeartbeats 1000000
/-! an own exception with an __init__ of its own: made, given a text, given a field -/
namespace L2
open PySem PySem.Spec PyProof.Rows PySem.W PySem.Builtin PySem.Builtin.ObjectAttr
/-- own classes, then ValueError's own row -/
def exMro : List Value → Bool
  | .ref _ :: r => exMro r
  | l => l == [.type "ValueError", .type "Exception", .type "BaseException", .type "object"]
theorem refuse_val (self : Value) : refuseLoop self "__setattr__" [.type "ValueError", .type "Exception", .type "BaseException", .type "object"] = pure () := by kernel_rfl
theorem refuse_ex (self : Value) : ∀ {l : List Value}, exMro l = true → refuseLoop self "__setattr__" l = pure ()
  | .ref _ :: r, e => by rw [refuseLoop_ref]; exact refuse_ex self (l := r) e
  | .type n :: r, e => by rw [beq_iff_eq.mp e]; exact refuse_val self
theorem exMro_has : ∀ {l : List Value}, exMro l = true → l.contains (.type "object") = true ∧ l.isEmpty = false
  | .ref c :: r, e => by rw [List.contains_cons, (exMro_has (l := r) e).1, Bool.or_true]; exact ⟨rfl, rfl⟩
  | .type n :: r, e => by rw [beq_iff_eq.mp e]; exact ⟨by decide +kernel, rfl⟩
/-- what of the text the class of such an exception must have, to be given a field -/
structure ExS (K : Frag) (C : Addr) : Prop where
  cls : ∃ cd, clsIn K C = some cd ∧ exMro cd.mro = true ∧ cd.hasDict = true
  sa : findIn K (.ref C) "__setattr__" = some (some (.builtin "object.__setattr__"))
section
variable {prog : Program} {w : World} {A : Around} {E : Value → Shared → Prop} {s : Shared} {K : Frag} {x C : Addr} {ox : Obj} {od : Option Obj} {name : Str} {v : Value}
theorem osa_exc {R : Result → Shared → Prop} {tk : Tok} (S : ExS K C) (X : K.In s.heap) (I : PySem.W.InstAt s.heap x ox C od) (ht : findIn K (.ref C) name = some none)
    (h : wpAny (model prog w) A.in1 (storeInOwnDict (.ref x) (.ref C) (.str name tk) name v false)
      (fun fin s' => match fin with | .done f => R (.ok f) s' | .again c' => c'.quiet = true ∧ codeAny (model prog w) A c' R s') (fun e s' => R (.error e) s') s) :
    codeAny (model prog w) A (.call (.builtin "object.__setattr__") ⟨[.ref x, .str name tk, v], []⟩) R s := by
  have SF := PySem.F.store_object
  obtain ⟨cd, hc, hm, _⟩ := S.cls
  obtain ⟨h1, h2⟩ := exMro_has hm
  have sub : Looks (model prog w) s.heap (isInstance (.ref x) (.type "object")) true := I.type.andThen (looks_mroIn X (show mroIn K C (.type "object") = some true by unfold mroIn; rw [hc]; show (if cd.mro.isEmpty = true then none else some _) = _; rw [h2, h1]; rfl))
  refine codeAny_call_builtin SF.slot.plain SF.entry (@check_slot (model prog w) _ _ s "object.__setattr__" "object" "__setattr__" (.ref x) [.str name tk, v] [] _ SF.kind SF.split sub (SF.args (.ref x) (.str name tk) v) ?_)
  have hmr : Looks (model prog w) s.heap (mroOf (.ref C)) cd.mro := (looks_clsIn X hc).andThen .now
  rw [osa_eq, refuse_eq]
  refine wpAny_bind (wpAny_bind (I.type.here (wpAny_bind (hmr.here ?_))))
  rw [refuse_ex _ hm]
  exact wpAny_pure (wpAny_bind (I.type.here (wpAny_bind ((looks_findIn X ht).here (wpAny_bind (wpAny_pure h))))))
/-- x.name = v, x an exception that has no dict yet -/
theorem set_exc {Q : Unit → Shared → Prop} {vs : Array Value} (S : ExS K C) (X : K.In s.heap) (hx : s.heap.get? x = some ⟨.ref C, none, .fields vs, #[]⟩) (ht : findIn K (.ref C) name = some none)
    (h : ∀ h', h'.get? x = some ⟨.ref C, some s.heap.objs.size, .fields vs, #[]⟩ → h'.Ns1 s.heap.objs.size (fun y => if y = name then some v else none) → (∀ b o, b ≠ x → s.heap.get? b = some o → h'.get? b = some o) → Q () { s with heap := h', toks := s.toks + 2 }) :
    wpAny (model prog w) A (setAttr (.ref x) name v) Q E s := by
  have J : PySem.W.InstAt s.heap x ⟨.ref C, none, .fields vs, #[]⟩ C none := ⟨hx, rfl, rfl, trivial⟩
  refine set_plain X J S.sa (osa_exc (s := { s with toks := s.toks + 1 }) S X J ht ?_)
  obtain ⟨cd, hc, hm, hd⟩ := S.cls
  refine wpAny_bind (wpAny_pure (wpAny_bind (wpAny_bind (wpAny_loadPart hx (wpAny_bind (Looks.here (s := { s with toks := s.toks + 1 }) (looks_clsIn X hc) ?_))))))
  rw [hd]
  show wpAny _ _ (alloc emptyDict >>= fun d => update x (fun o => { o with dict := some d }) >>= fun _ => dictMade (.ref C) x d) _ _ _
  refine wpAny_bind (wpAny_alloc (wpAny_bind (wpAny_update (o := ⟨.ref C, none, .fields vs, #[]⟩) (Heap.get?_push_of_some _ hx) (wpAny_pure (a := some s.heap.objs.size) ?_))))
  have nx : s.heap.objs.size ≠ x := Nat.ne_of_gt (Heap.lt_size hx)
  have ex := Heap.get?_update_self (fun o : Obj => { o with dict := some s.heap.objs.size }) (Heap.get?_push_of_some emptyDict hx) rfl
  have eo : ∀ b o, b ≠ x → (s.heap.push emptyDict).get? b = some o → ((s.heap.push emptyDict).update x fun o : Obj => { o with dict := some s.heap.objs.size }).get? b = some o := fun b o n q => by
    rw [Heap.get?_update_other _ _ (Ne.symm n)]; exact q
  have e1 : (s.heap.push emptyDict).get? s.heap.objs.size = some emptyDict := Heap.get?_push_size s.heap rfl
  have n0 : (s.heap.push emptyDict).Ns s.heap.objs.size (fun _ => none) := ⟨emptyDict, #[], _, e1, rfl, (fun e he => absurd he (by simp)), fun _ => rfl⟩
  have n1 := (Heap.Ns1.of_empty n0).at (h' := (s.heap.push emptyDict).update x fun o : Obj => { o with dict := some s.heap.objs.size }) fun o q => eo _ _ nx q
  refine wpAny_bind (wpAny_pure (wpAny_bind ?_))
  refine wpAny_nsSet1 (s := { s with heap := (s.heap.push emptyDict).update x fun o : Obj => { o with dict := some s.heap.objs.size }, toks := s.toks + 1 }) n1 fun h' hn2 hs2 => ?_
  obtain ⟨oD, esD, epD, hoD, hdD, hcD⟩ := hn2.count (ns := [name]) (PySem.Within.cons name v (fun y hy => absurd rfl hy))
  refine wpAny_bind (wpAny_lookBehind hoD (by rw [hdD]; exact pastItsLine_dict (Nat.le_trans hcD (by simp))) ?_)
  refine wpAny_pure (h _ ((hs2.2 _ (Ne.symm nx)).trans ex) hn2 fun b o n q => ?_)
  have nb : b ≠ s.heap.objs.size := Nat.ne_of_lt (Heap.lt_size q)
  exact (hs2.2 _ nb).trans (eo b o n (Heap.get?_push_of_some _ q))
end
section
variable {prog : Program} {w : World} {A : Around} {E : Value → Shared → Prop} {h : Heap} {g : Array GenState} {d : Drawn} {t : Nat} {os : OsState} {nm q : Str} {C N : Addr} {bs bm bmB : List Value} {hdct : Bool} {sn : List Str} {sub : List Value} {ab : Bool} {col : Option Bool} {dd : Option Addr} {k0 k1 k2 k3 k5 : Option Value} {B newId initId : String}
/-- C(..), C an own class of exceptions with an __init__ -/
theorem exc_call_init (F : ExcBaseFacts B newId initId bmB) (T : OwnTail h bmB bm) {mN : Str → Option Value} {rest : List Value} {fI : Addr} {oI : Obj} {Q : Value → Shared → Prop}
    (hC : h.get? C = some (excClassObj nm q C N bs bm hdct sn sub ab col dd k0 k1 k2 k3 k5 newId)) (hn : h.Ns N mN) (hi : mN "__init__" = some (.ref fI)) (hfI : h.get? fI = some oI) (hfc : oI.cls = .type "function")
    (hq : ∀ h' e, Heap.MadeExcOf h h' e (.ref C) rest → wpAny (model prog w) (A.under (.builtin "type.__call__" ⟨.ref C :: rest, []⟩)) (call (.ref fI) (.ref e :: rest)) (fun r s' => r = .none ∧ Q (.ref e) s') E ⟨h', g, d, t, os⟩)
    (hrest : rest.length ≤ sizeLine) : wpAny (model prog w) A (call (.ref C) rest) Q E ⟨h, g, d, t, os⟩ := by
  have f1 := tc_lookup; have f2 := tc_bind (.ref C)
  have hT : (⟨h, g, d, t, os⟩ : Shared).TypeIs (.ref C) "type" := ⟨_, hC, rfl⟩
  refine wpAny_call (codeAny_of_tree (show wpAny _ _ (callAny (.ref C) _) _ _ _ from ?_))
  repeat (any_goals (first | assumption | (with_reducible refine wpAny_loadPart_at hC ?_) | wp_step))
  refine ⟨rfl, codeAny_call_builtin_at (Code.quiet_builtin _ (by decide +kernel)) entry_typeCall (wpAny_check_type_call_sub hC ?_)⟩
  repeat (first | (with_reducible refine wpAny_loadPart_at hC ?_) | (with_reducible refine wpAny_madeBy_exc hC ?_) | wp_step)
  refine codeAny_call_builtin_code (Code.quiet_builtin _ F.quiet) (wpAny_check_new_subT F T hC (codeAny_exc_new_subT F T hC ?_ hrest))
  show wpAny _ _ _ _ _ _
  have kp : ∀ b o, h.get? b = some o → ((h.push { cls := .type "tuple", data := .seq rest.toArray }).push { cls := .ref C, data := .fields #[.ref h.objs.size, .none, .none, .none, .bool false, .none] }).get? b = some o := by
    intro b o z; exact Heap.get?_push_of_some _ (Heap.get?_push_of_some _ z)
  have hget : ((h.push { cls := .type "tuple", data := .seq rest.toArray }).push { cls := .ref C, data := .fields #[.ref h.objs.size, .none, .none, .none, .bool false, .none] }).get? (h.objs.size + 1) = some { cls := .ref C, data := .fields #[.ref h.objs.size, .none, .none, .none, .bool false, .none] } := by heap_get
  have htup : ((h.push { cls := .type "tuple", data := .seq rest.toArray }).push { cls := .ref C, data := .fields #[.ref h.objs.size, .none, .none, .none, .bool false, .none] }).get? h.objs.size = some { cls := .type "tuple", data := .seq rest.toArray } := by
    exact Heap.get?_push_of_some _ (Heap.get?_push_at rfl rfl)
  have hcC : (Value.ref C :: bm).contains (.ref C) = true := by simp
  have hC1 := kp _ _ hC
  unfold isInstance
  repeat (first | (with_reducible refine wpAny_loadPart_at hget ?_) | ((with_reducible refine wpAny_isSubtype_exc hC1 ?_); rw [hcC]) | wp_step)
  refine wpAny_isSubtype_exc hC1 ?_
  rw [hcC]
  repeat wp_step
  show wpAny _ _ (typeLookup (.ref C) _) _ _ _
  refine wpAny_typeLookup_tail hC1 (hn.keeps kp) (T.keeps kp) F.mroIs F.init.lookup ?_
  rw [hi]
  refine wpAny_holding (wpAny_bind ?_)
  unfold bindSpecial
  refine wpAny_bind (wpAny_typeOf (T := "function") ⟨_, kp _ _ hfI, hfc⟩ ?_)
  rw [if_pos (by decide)]
  refine wpAny_pure (wpAny_bind (wpAny_mono (hq _ (h.objs.size + 1) ⟨kp, Heap.get?_none_of_le (Nat.le_succ _), h.objs.size, hget, Heap.get?_none_of_le (Nat.le_refl _), htup⟩) (fun r s' hr => ?_) fun _ _ x => x))
  obtain ⟨rfl, hQ⟩ := hr
  wp_walk
  exact hQ
/-- B.__init__(e, ..) of ValueError's: the args are laid anew -/
theorem base_init {e t0 : Addr} {rest : List Value} {Q : Value → Shared → Prop} (F : ExcBaseFacts B newId initId bmB) (T : OwnTail h bmB bm) (hC : h.get? C = some (excClassObj nm q C N bs bm hdct sn sub ab col dd k0 k1 k2 k3 k5 newId))
    (he : h.get? e = some { cls := .ref C, data := .fields #[.ref t0, .none, .none, .none, .bool false, .none] }) (hrest : rest.length ≤ sizeLine)
    (hq : ∀ h' t1, h'.get? e = some { cls := .ref C, data := .fields #[.ref t1, .none, .none, .none, .bool false, .none] } → (∀ b o, b ≠ e → h.get? b = some o → h'.get? b = some o) → Q .none ⟨h', g, d, t, os⟩) :
    wpAny (model prog w) A (call (.builtin initId) (.ref e :: rest)) Q E ⟨h, g, d, t, os⟩ := by
  refine wpAny_call (codeAny_call_builtin F.init.plain F.initEntry (wpAny_check_init_subT F T hC he rfl ?_))
  wp_walk
  refine hq _ h.objs.size ?_ fun b o n z => ?_
  · rw [Heap.get?_update_self _ (Heap.get?_push_of_some _ he) rfl]; rfl
  · rw [Heap.get?_update_other _ _ (Ne.symm n)]; exact Heap.get?_push_of_some _ z
end
end L2
set_option Elab.async false
set_option linter.all false
set_option maxRecDepth 100000
set_option maxHeartbeats 1000000
/-! exceptions with an __init__ and a field, over the layer -/
namespace L2
open PySem PySem.Spec PyProof.Rows PySem.W
local macro_rules | `(tactic| walk_at "om") => `(tactic| first | omega | (unfold Addr at *; omega))
theorem ns_of_in {K : Frag} {h : Heap} {N : Addr} {m : Str → Option Value} {n : Str} {v : Value} (X : K.In h) (G : h.Ns N m) (e : nsIn K N n = some (some v)) : m n = some v := by
  obtain ⟨o, es, ep, ho, hd, _, hf⟩ := G
  unfold nsIn at e; split at e
  · rename_i q; have z := (X _ _ q).symm.trans ho; cases z; cases hd
    split at e
    · rename_i en he; cases e; rw [← hf]; unfold nsFind findBy; rw [← Array.find?_toList, he]; rfl
    · split at e <;> cases e
  · cases e
/-- an own class of exceptions under ValueError, its __init__ at f -/
structure ExN (K : Frag) (C f : Addr) : Prop where
  ex : ∃ (nm q : Str) (N : Addr) (bs bm : List Value) (hdct : Bool) (sn : List Str) (sub : List Value) (ab : Bool) (col : Option Bool) (dd : Option Addr) (k0 k1 k2 k3 k5 : Option Value),
    K.lookup C = some (excClassObj nm q C N bs bm hdct sn sub ab col dd k0 k1 k2 k3 k5 "ValueError.__new__") ∧ nsOkIn K N = true ∧ nsIn K N "__init__" = some (some (.ref f)) ∧ tailIn K bmV bm = true
  fn : isFn K (.ref f) = true
theorem ExN.obj {K : Frag} {C f : Addr} {h : Heap} (T : ExN K C f) (X : K.In h) : ∃ bm N nm q bs hdct sn sub ab col dd k0 k1 k2 k3 k5 mN, h.get? C = some (excClassObj nm q C N bs bm hdct sn sub ab col dd k0 k1 k2 k3 k5 "ValueError.__new__") ∧ h.Ns N mN ∧ mN "__init__" = some (.ref f) ∧ OwnTail h bmV bm := by
  obtain ⟨nm, q, N, bs, bm, hdct, sn, sub, ab, col, dd, k0, k1, k2, k3, k5, h1, h2, h3, h4⟩ := T.ex
  have G : h.Ns N (h.nsMap N) := .of_isNs (isNs_of_in X h2)
  exact ⟨bm, N, nm, q, bs, hdct, sn, sub, ab, col, dd, k0, k1, k2, k3, k5, _, X _ _ h1, G, ns_of_in X G h3, tail_of_in X h4⟩
theorem ExN.fun {K : Frag} {C f : Addr} {h : Heap} (T : ExN K C f) (X : K.In h) : ∃ o, h.get? f = some o ∧ o.cls = .type "function" := by
  have e : typeIn K (.ref f) = some (.type "function") := beq_iff_eq.mp T.fn
  obtain ⟨o, h1, h2⟩ := Option.map_eq_some_iff.mp e
  exact ⟨o, X _ _ h1, h2⟩
/-- a new exception, as it is made; one with its dict -/
def excN (e C : Addr) : HO := .ext fun h => ∃ t : Addr, h.get? e = some { cls := .ref C, data := .fields #[.ref t, .none, .none, .none, .bool false, .none] }
def excD (e C dx : Addr) : HO := .ext fun h => ∃ t : Addr, h.get? e = some { cls := .ref C, dict := some dx, data := .fields #[.ref t, .none, .none, .none, .bool false, .none] }
theorem upd_eq {H : Hp} {a : Addr} {o : HO} (h : H a = some o) : upd H a o = H := by
  funext b; unfold upd; split
  · rename_i e; rw [e, h]
  · rfl
def drop (H : Hp) (e : Addr) : Hp := fun b => if b = e then none else H b
theorem drop_same {H : Hp} {e : Addr} : drop H e e = none := if_pos rfl
theorem drop_ne {H : Hp} {e b : Addr} (h : b ≠ e) : drop H e b = H b := if_neg h
section
variable {X : Cx} {pins : List (Addr × Obj)} {σ : St} {H : Hp} {s : Shared}
/-- nothing lies at e: nor did it at the entry, no frame, no cell, no pin -/
structure NewAt (X : Cx) (pins : List (Addr × Obj)) (H : Hp) (e : Addr) : Prop where
  free : H e = none
  old : ∀ b o, X.s₀.heap.get? b = some o → b ∉ X.ex → b ≠ e
  loc : X.env.locals ≠ e
  cell : ∀ x c, X.env.cells.lookup x = some c → c ≠ e
  pin : ∀ p ∈ X.pn ++ pins, p.1 ≠ e
theorem Inv.newAt (I : Inv X pins σ H s) {e : Addr} (h : s.heap.get? e = none) : NewAt X pins H e := by
  have ne : ∀ b o, s.heap.get? b = some o → b ≠ e := fun b o q z => by rw [z, h] at q; cases q
  refine ⟨?_, fun b o q hx => ?_, ?_, fun x c q => ?_, fun p hp => ne _ _ (I.pin p hp).1⟩
  · cases z : H e with
    | none => rfl
    | some o => obtain ⟨ob, y⟩ := (I.hok e o z).there; exact absurd rfl (ne e ob y)
  · obtain ⟨o', y⟩ := I.base.there b o q hx; exact ne b o' y
  · obtain ⟨m, ⟨o, _, _, y, _⟩, _⟩ := I.loc; exact ne _ o y
  · obtain ⟨v, o, y, _⟩ := I.cell x c q; exact ne _ o y
theorem Inv.track {e : Addr} {o : HO} (I : Inv X pins σ H s) (n : NewAt X pins H e) (ok : ObjOk X.prog X.w (upd H e o) s.heap e o) : Inv X pins σ (upd H e o) s := by
  have keep : ∀ b u, H b = some u → upd H e o b = some u := fun b u q => by rw [upd_ne (ne_of_none q n.free)]; exact q
  refine ⟨I.ok, I.os, I.bare, ⟨I.base.keep, I.base.slot, fun b ob q z hx => ?_, I.base.there, fun b xs q => keep _ _ (I.base.tups b xs q), fun b ob u q => keep _ _ (I.base.frzs b ob u q), fun b ps q => ?_⟩, I.loc, I.cell, ?_, fun x c q => ?_, fun p hp => ?_, fun b u q => ?_, I.len⟩
  · rw [upd_ne (n.old b ob q hx)]; exact I.base.free b ob q z hx
  · obtain ⟨m, y⟩ := I.base.tbls b ps q; exact ⟨m, keep _ _ y⟩
  · rw [upd_ne n.loc]; exact I.free
  · rw [upd_ne (n.cell x c q)]; exact I.freeC x c q
  · obtain ⟨q, z, a, b, d⟩ := I.pin p hp
    refine ⟨q, ?_, a, b, d⟩; rw [upd_ne (n.pin p hp)]; exact z
  · by_cases hb : b = e
    · subst hb; rw [upd_same] at q; cases q; exact ok
    · rw [upd_ne hb] at q
      exact (I.hok b u q).stay (fun _ _ _ z => z) (fun c z => keep _ _ z) fun c xs z => keep _ _ z
/-- e is tracked no more -/
theorem Inv.drop {e : Addr} {φ : Heap → Prop} (I : Inv X pins σ H s) (he : H e = some (.ext φ)) : Inv X pins σ (drop H e) s := by
  have keep : ∀ b u, H b = some u → (∀ ψ, u ≠ .ext ψ) → L2.drop H e b = some u := fun b u q nx => by
    rw [drop_ne (fun z => by rw [z, he] at q; cases q; exact nx _ rfl)]; exact q
  have none' : ∀ b, H b = none → L2.drop H e b = none := fun b q => by
    by_cases z : b = e
    · rw [z]; exact drop_same
    · rw [drop_ne z]; exact q
  refine ⟨I.ok, I.os, I.bare, ⟨I.base.keep, I.base.slot, fun b ob q z hx => none' _ (I.base.free b ob q z hx), I.base.there, fun b xs q => keep _ _ (I.base.tups b xs q) (fun _ z => nomatch z), fun b ob u q => keep _ _ (I.base.frzs b ob u q) (fun _ z => nomatch z), fun b ps q => ?_⟩, I.loc, I.cell, none' _ I.free, fun x c q => none' _ (I.freeC x c q), fun p hp => ?_, fun b u q => ?_, I.len⟩
  · obtain ⟨m, y⟩ := I.base.tbls b ps q; exact ⟨m, keep _ _ y (fun _ z => nomatch z)⟩
  · obtain ⟨q, z, a, b, d⟩ := I.pin p hp
    exact ⟨q, none' _ z, a, b, d⟩
  · have hb : b ≠ e := fun z => by rw [z, drop_same] at q; cases q
    rw [drop_ne hb] at q
    exact (I.hok b u q).stay (fun _ _ _ z => z) (fun c z => keep _ _ z (fun _ y => nomatch y)) fun c xs z => keep _ _ z (fun _ y => nomatch y)
end
/-! ### the base's __init__, an f-string, the field -/
def tBInit (K : Frag) (t : TA) : TE := fun σ H Q => t σ H fun vs H1 => ∃ ea C f r, vs = .ref ea :: r ∧ H1 ea = some (excN ea C) ∧ ExN K C f ∧ r.length ≤ sizeLine ∧ Q .non H1
section
variable {X : Cx} {V₀ : Addr} {x : Str} {p apos pos : Pos} {e : Expr} {es : List Expr} {t : TA} {te : TE}
theorem pe_binit {pl : Sem Bool} (hg : Gl X x) (hm : X.mg x = some (.ref V₀)) (hr : readsIn X.K V₀ (.type "type") = true) (hf : findCls X.K (.ref V₀) (.type "type") "__init__" = some (.val (.builtin "ValueError.__init__")))
    (hs : specialIn X.K (.ref V₀) "__getattribute__" = some (some (.builtin "type.__getattribute__"))) (ha : PA X (e :: es) t) (hdb : (x == ("__debug__" : Str)) = false := by decide)
    (hst : starEach (e :: es) X.env = (false, eval e X.env) :: starEach es X.env := by rfl) (hpl : (backTo pos (starEach es X.env)).any (·.1) = false := by rfl)
    (ht : eval (.Call (.Attribute (.Name x p) "__init__" apos) (e :: es) [] pos) X.env = (do
      let ov ← eval (.Name x p) X.env
      standAt apos.atName
      let (f, first) ← holding [ov] (getMethod ov "__init__" pl)
      callWith pos f first (backTo pos (starEach (e :: es) X.env)) (backToKw pos (keywordEach [] X.env))) := by rfl) :
    PE X (.Call (.Attribute (.Name x p) "__init__" apos) (e :: es) [] pos) (tBInit X.K t) := by
  intro pins s σ H Q I h
  refine methodCall_KW (pl := pl) (ld_glob I hg hm (method_cls I.kIn hs (cls_value I.kIn hr hf rfl ?_)) hdb) ht
  refine PyProof.Rows.callWith_builtin1 (thn (ha pos pins _ σ H _ (I.tok _) h) fun us s1 ⟨vs, H1, I1, r1, ea, C, f, r, ev, he, T, hl, q⟩ => ?_) hst hpl
  subst ev
  cases r1 with
  | cons ra rr =>
    cases ra
    obtain ⟨⟨t0, h0⟩, _⟩ := I1.hok ea _ he
    obtain ⟨bm, N, nm, qn, bs, hdct, sn, sub, ab, col, dd, k0, k1, k2, k3, k5, mN, hC, hN, hi, TL⟩ := T.obj I1.kIn
    obtain ⟨hh, gg, d, tt, os⟩ := s1
    refine base_init F.excBase_ValueError TL hC h0 (by rw [← rr.length]; exact hl) fun h' t1 h1 kp => ?_
    have J := I1.write (x := ea) (e := ea) (o := excN ea C) (h' := h') (t' := tt) (by rw [he]; trivial) (.inl rfl) (fun b u n z => kp b u n z) ⟨_, h1⟩ ⟨⟨t1, h1⟩, ⟨_, h1⟩, fun g1 g2 ⟨t2, z⟩ k => ⟨t2, k _ z⟩⟩
    rw [upd_eq he] at J
    exact ⟨.non, H1, J, rfl, q⟩
/-- f"a{i}b", i an int of some figures: some text -/
def tFStr (te : TE) : TE := fun σ H Q => te σ H fun x H1 => ∃ i : Int, x = .int i ∧ i.natAbs.log2 < 1920 ∧ ∀ z : Str, Q (.str z) H1
theorem pe_fstr3 {a b : Str} {v : Expr} {j1 j2 : Nat} {p1 p2 p3 : Pos} (he : PE X v te) (ha : a.length ≤ 1000 := by decide) (hb : b.length ≤ 1000 := by decide) :
    PE X (.JoinedStr [.Constant (.str a) j1 p1, .FormattedValue v (-1) none p2, .Constant (.str b) j2 p3] pos) (tFStr te) := by
  intro pins s σ H Q I h
  refine JoinedStr_many (joinParts_cons (Calls.Constant_str ⟨?_, joinParts_cons (FormattedValue_plain (thn (he pins _ σ H _ (I.tok _) h) fun u s1 ⟨x, H1, I1, r1, i, ex, hi, q⟩ => ?_))⟩))
  · rw [strLen_append, sizeLine_eq]; have : (Str.empty).length = 0 := rfl; omega
  · subst ex
    obtain ⟨tk, rfl⟩ := r1
    have hl := int_text_length_le (k := 1920) (by decide) hi
    have e0 : (Str.empty).length = 0 := rfl
    refine formatField_int_small hi ⟨?_, joinParts_cons (Calls.Constant_str ⟨?_, joinParts_nil ⟨.str _, H1, I1.tok _, ⟨_, rfl⟩, q _⟩ ?_⟩)⟩
    all_goals simp only [strLen_append, PySem.ofString_length, sizeLine_eq]
    all_goals omega
/-- self.f = v, self a new exception -/
def sFldX (K : Frag) (ta tv : TE) (f : Str) : TS := fun D σ H => tv σ H fun y H1 => ta σ H1 fun x H2 => ∃ a C, x = .ref a ∧ H2 a = some (excN a C) ∧ ExS K C ∧ NoAttr K C f ∧
  ∀ dx, H2 dx = none → dx ≠ a → D.nx σ (upd (upd H2 a (excD a C dx)) dx (.xd [(f, y)]))
theorem ps_fldX {o value : Expr} {ta tv : TE} {f : Str} {pos' : Pos} (ha : PE X o ta) (hv : PE X value tv) (hs : swapsWith value (some (.Attribute o f pos')) pos.line X.env = pure false) : PS X (.Assign [.Attribute o f pos'] value pos) (sFldX X.K ta tv f) := by
  intro pins s σ H D I h
  refine plainObj_wpAny_Assign_Attribute (thn (hv pins s σ H _ I h) fun u s1 ⟨y, H1, I1, ry, q⟩ => thn (ha pins s1 σ H1 _ I1 q) fun ov s2 ⟨x, H2, I2, rx, a, C, ex, ea, S, n, q2⟩ => ?_) hs
  subst ex
  obtain rfl : ov = Value.ref a := rx
  obtain ⟨⟨t0, h0⟩, _⟩ := I2.hok a _ ea
  refine set_exc S I2.kIn h0 n fun h' e1 n1 kp => ?_
  have na : s2.heap.objs.size ≠ a := Nat.ne_of_gt (Heap.lt_size h0)
  have hf : H2 s2.heap.objs.size = none := I2.hok.fresh (Nat.le_refl _)
  have J := I2.write (x := a) (e := a) (o := excD a C s2.heap.objs.size) (h' := h') (t' := s2.toks + 2) (by rw [ea]; trivial) (.inl rfl) (fun b u n z => kp b u n z) ⟨_, e1⟩ ⟨⟨t0, e1⟩, ⟨_, e1⟩, fun g1 g2 ⟨t2, z⟩ k => ⟨t2, k _ z⟩⟩
  have N0 := I2.newAt (e := s2.heap.objs.size) (Heap.get?_none_of_le (Nat.le_refl _))
  have N1 : NewAt X pins (upd H2 a (excD a C s2.heap.objs.size)) s2.heap.objs.size := ⟨by rw [upd_ne na]; exact hf, N0.old, N0.loc, N0.cell, N0.pin⟩
  refine ⟨σ, _, J.track N1 (o := .xd [(f, y)]) ⟨_, n1, fun g => ?_⟩, q2 _ hf na⟩
  by_cases z : g = f
  · subst z; simp [List.lookup, RelO, ry]
  · have : (g == f) = false := by simpa using z
    simp [List.lookup, this, z, RelO]
end
end L2
set_option Elab.async false
set_option linter.all false
set_option maxRecDepth 100000
set_option maxHeartbeats 1000000
/-! raise C(..), C with an __init__; a field of a caught exception -/
namespace L2
open PySem PySem.Spec PyProof.Rows PySem.W
section
variable {M : Model} {A : Around} {E : Value → Shared → Prop} {env : Env} {nm q : Str} {C N : Addr} {bs bm : List Value} {hdct : Bool} {sn : List Str} {sub : List Value} {ab : Bool} {col : Option Bool} {dd : Option Addr} {k0 k1 k2 k3 k5 : Option Value} {newId : String}
theorem raise_obj {s : Shared} {x : Sem Value} {Q : Flow → Shared → Prop} (hb : bm.contains (.type "BaseException") = true) (hh : A.handled = none)
    (h : wpAny M A x (fun v s1 => ∃ (e t : Addr) (d : Option Addr), v = .ref e ∧ s1.heap.get? C = some (excClassObj nm q C N bs bm hdct sn sub ab col dd k0 k1 k2 k3 k5 newId) ∧ s1.heap.get? e = some { cls := .ref C, dict := d, data := .fields #[.ref t, .none, .none, .none, .bool false, .none] } ∧ E (.ref e) s1) E s) :
    wpAny M A (raiseStmt env (some x) none) Q E s := by
  have hB : (Value.ref C :: bm).contains (.type "BaseException") = true := by rw [List.contains_cons, hb, Bool.or_true]
  unfold raiseStmt
  refine wpAny_bind (wpAny_mono h (fun v s1 z => ?_) fun _ _ y => y)
  obtain ⟨e, t, d, rfl, hC, he, hE⟩ := z
  obtain ⟨hp, g, dr, tk, os⟩ := s1
  repeat (first | (with_reducible refine wpAny_loadPart_at he ?_) | (with_reducible refine wpAny_loadPart_at hC ?_) | ((with_reducible refine wpAny_isSubtype_exc hC ?_); rw [hB]) | wp_step)
  exact wpAny_raiseNew_none hh hE
end
def tRaiseI (C : Addr) (sp : Sp) (E : St → XK) (t : TA) : TS := fun _ σ H => t σ H fun vs H1 => vs.length ≤ sizeLine ∧ ∀ ea, H1 ea = none → sp (.ref ea :: vs) (upd H1 ea (excN ea C)) (fun v H2 => v = .non ∧ ∃ dx, H2 ea = some (excD ea C dx) ∧ E σ (.ref C) (some dx) (drop H2 ea)) E0
section
variable {X : Cx} {C f : Addr} {fd : FuncData} {ps : List Str} {sp : Sp} {k : Nat} {x : Str} {np cpos pos : Pos} {e : Expr} {es : List Expr} {t : TA} {E : St → XK}
theorem ps_raiseI (hc : X.calm = true) (T : ExN X.K C f) (Fi : FnOk X.prog X.w X.K X.mg X.base CX0 k f fd ps sp) (hr : Room (k + 1) X.A) (hb : Binds X.K fd ps []) (hg : Gl X x) (hm : X.mg x = some (.ref C)) (hT : TakesN X E) (ha : PA X (e :: es) t)
    (hdb : (x == ("__debug__" : Str)) = false := by decide) (he : starEach (e :: es) X.env = (false, eval e X.env) :: starEach es X.env := by rfl) (hpl : (backTo cpos (starEach es X.env)).any (·.1) = false := by rfl) :
    PS X (.Raise (some (.Call (.Name x np) (e :: es) [] cpos)) none pos) (tRaiseI C sp E t) := by
  intro pins s σ H D I h
  obtain ⟨bm, N, nm, qn, bs, hdct, sn, sub, ab, col, dd, k0, k1, k2, k3, k5, mN, hC, hN, hi, TL⟩ := T.obj I.ok.mod.kin
  obtain ⟨oI, hfI, hfc⟩ := T.fun I.ok.mod.kin
  have hplain : (backTo cpos (starEach (e :: es) X.env)).any (·.1) = false := by rw [he]; show (false || _) = false; rw [Bool.false_or]; exact hpl
  rw [arm_exec_Raise]
  refine wpAny_bind (wpAny_standAt (raise_obj (nm := nm) (q := qn) (C := C) (N := N) (bs := bs) (bm := bm) (k5 := k5) (k0 := k0) (k1 := k1) (k2 := k2) (k3 := k3) (dd := dd) (col := col) (ab := ab) (sub := sub) (sn := sn) (hdct := hdct) (newId := "ValueError.__new__") (TL.hasType F.excBase_ValueError.hasBase) (I.ok.hd hc)
    (wpAny_bind (wpAny_mono (wpAny_Call_ofName (ld_glob I hg hm ?_ hdb)) (fun v s3 h3 => wpAny_bind (wpAny_standAt (wpAny_pure h3))) fun _ _ x => x))))
  have z := ha cpos pins s σ H _ I h
  unfold callWith
  refine wpAny_bind (wpAny_holding (wpAny_mono (show wpAny _ _ (evalArgs (.ref C) true (backTo cpos (starEach (e :: es) X.env)) []) (fun a s2 => a.kw = [] ∧ ∃ vs H1, Inv X pins σ H1 s2 ∧ Vals vs a.pos ∧ (vs.length ≤ sizeLine ∧ ∀ ea, H1 ea = none → sp (.ref ea :: vs) (upd H1 ea (excN ea C)) (fun v H2 => v = .non ∧ ∃ dx, H2 ea = some (excD ea C dx) ∧ E σ (.ref C) (some dx) (drop H2 ea)) E0)) X.xe s from ?_) (fun a s2 h2 => wpAny_bind (wpAny_standAt ?_)) fun _ _ x => x))
  · rw [he] at z ⊢
    exact Calls.evalArgs_plain (thn z fun us s2 ⟨vs, H2, I2, r, q2⟩ => ⟨rfl, vs, H2, I2, r, q2⟩)
  obtain ⟨us, kw⟩ := a
  obtain ⟨rfl, vs, H2, I2, r, zl, q2⟩ := h2
  obtain ⟨hp, g, dr, tk, os⟩ := s2
  simp only [hplain]
  refine wpAny_bind (wpAny_keeperOf_exc (I2.bk _ _ hC) ?_)
  have r : Vals vs us := r
  refine wpAny_bind (exc_call_init F.excBase_ValueError (TL.keeps I2.bk) (I2.bk _ _ hC) (hN.keeps I2.bk) hi (I2.bk _ _ hfI) hfc (fun h' ea hme => ?_) (by show us.length ≤ sizeLine; rw [← r.length]; exact zl))
  have n2 := I2.newAt hme.new
  obtain ⟨t0, ht0, _, _⟩ := hme.there
  have I3 : Inv X pins σ (upd H2 ea (excN ea C)) ⟨h', g, dr, tk, os⟩ := (I2.kept (h' := h') (t' := tk) hme.keeps).track n2 ⟨⟨t0, ht0⟩, ⟨_, ht0⟩, fun g1 g2 ⟨t2, z⟩ k => ⟨t2, k _ z⟩⟩
  have q3 := q2 ea n2.free
  have hl := Fi.len _ _ _ _ q3
  have r3 : Vals (.ref ea :: vs) (.ref ea :: us) := .cons rfl r
  have hb3 := hb ⟨h', g, dr, tk, os⟩ (.ref ea :: us) I3.kIn (by rw [List.append_nil, ← r3.length]; exact hl)
  rw [List.append_nil] at hb3
  refine wpAny_call (codeAny_mono (Fi.run _ X.stack _ _ ⟨.ref ea :: us, []⟩ (.ref ea :: us) (.ref ea :: vs) _ E0 (hr.make C us []) (I3.env0.make C us []) hb3 r3 q3) fun r s' hq => ?_)
  cases r with
  | error e => exact False.elim hq
  | ok fl =>
    cases fl with
    | next => exact False.elim hq
    | brk => exact False.elim hq
    | cont => exact False.elim hq
    | ret u =>
      obtain ⟨v, H4, I4, rv, ev, dx, hd, qE⟩ := I3.after hq
      subst ev
      obtain rfl : u = Value.none := rv
      refine ⟨rfl, wpAny_bind (wpAny_holding (wpAny_point (wpAny_pure ?_)))⟩
      obtain ⟨⟨t1, ht1⟩, _⟩ := I4.hok ea _ hd
      exact ⟨ea, t1, some dx, rfl, I4.bk _ _ hC, ht1, hT pins σ (drop H4 ea) s' ea _ _ (I4.drop hd) drop_same n2.old n2.pin ht1 rfl rfl qE⟩
end
/-! ### e.f of a caught exception -/
section
variable {prog : Program} {w : World} {A : Around} {E : Value → Shared → Prop} {s : Shared} {K : Frag} {x C : Addr} {ox : Obj} {od : Option Obj} {name : Str} {v : Value}
theorem exc_get {expr : Bool} {Q : Value → Shared → Prop} (T : ExT K C) (X : K.In s.heap) (I : PySem.W.InstAt s.heap x ox C od) (hf : findObj K C od name = some (.value v)) (hh : handedIn v = true) (h : Q v { s with toks := s.toks + 1 }) :
    wpAny (model prog w) A (getAttr (.ref x) name expr) Q E s := by
  obtain ⟨hp, g, d, t, os⟩ := s
  have L0 := I.type (M := model prog w)
  have L1 := looks_findIn (M := model prog w) X T.ga
  have L2 := looks_findIn (M := model prog w) X T.gt
  have L3 := looks_find (M := model prog w) X I hf
  have f3 := F.excAttr_ValueError.ga.bind (.ref x)
  unfold getAttr getAttrBy
  refine wpAny_bind (wpAny_mkText (wpAny_holding (wpAny_bind (L0.at (wpAny_bind (L1.at ?_))))))
  show wpAny _ _ (if (onTheHeap (Value.ref C) && Value.builtin "BaseException.__getattribute__" == Value.builtin "object.__getattribute__") = true then _ else _) _ _ _
  rw [if_neg (by simp [onTheHeap])]
  unfold getAttrByItsOwn
  refine wpAny_bind (show wpAny _ _ (typeLookup (.ref C) "__getattr__") _ _ _ from L2.at ?_)
  refine wpAny_bind (wpAny_attempt (wpAny_holding ?_))
  unfold callGetattribute
  rw [if_neg (show ¬ (expr && onTheHeap (Value.builtin "BaseException.__getattribute__")) = true by cases expr <;> decide)]
  unfold boundAndCalled
  rw [f3]
  refine wpAny_bind (wpAny_pure (wpAny_call ?_))
  refine codeAny_call_builtin F.excAttr_ValueError.ga.plain F.entry_bexc_ga (check_ga (s := ⟨hp, g, d, t + 1, os⟩) T X I ?_)
  refine wpAny_bind (wpAny_pure (wpAny_bind (wpAny_pure (wpAny_bind (L0.at (wpAny_bind (L3.at (wpAny_pure ?_))))))))
  show wpAny _ _ (handedOut v) _ _ _
  rw [handedOut_of hh]; exact wpAny_pure h
end
def tFldE (K : Frag) (ta : TE) (f : Str) : TE := fun σ H Q => ta σ H fun x H1 => ∃ ea C dx fs v, x = .ref ea ∧ H1 ea = some (excO ea C (some dx)) ∧ H1 dx = some (.xd fs) ∧ ExT K C ∧ hasDictIn K C = true ∧ NoAttr K C f ∧ fs.lookup f = some v ∧ flatV v = true ∧ Q v H1
theorem pe_fldE {X : Cx} {K : Frag} {e : Expr} {f : Str} {pos : Pos} {ta : TE} (hK : X.K = K) (he : PE X e ta) (hb : attributeBase e f X.env (eval e X.env) = eval e X.env) : PE X (.Attribute e f pos) (tFldE K ta f) := by
  subst hK
  intro pins s σ H Q I h
  refine attr_of hb (thn (he pins s σ H _ I h) fun u s1 ⟨x, H1, I1, rx, ea, C, dx, fs, v, ex, e1, e2, T, hd, n, l, fv, q⟩ => ?_)
  subst ex
  obtain rfl : u = Value.ref ea := rx
  obtain ⟨⟨o, vs, h1, h2, h3, h4⟩, _⟩ := I1.hok ea _ e1
  obtain ⟨mA, n1, hr⟩ := I1.hok dx _ e2
  obtain ⟨od, h5, h6⟩ := lookIn_ns n1
  have J : PySem.W.InstAt s1.heap ea o C (some od) := ⟨h1, h2, by unfold notCls; rw [h4], by rw [h3]; exact h5⟩
  have rl := hr f
  rw [l] at rl
  cases em : mA f with
  | none => rw [em] at rl; exact False.elim rl
  | some u =>
    rw [em] at rl
    have rl : RelV v u := rl
    have hh : handedIn u = true := by
      cases v with
      | non => cases rl; rfl
      | bl b => cases rl; rfl
      | int i => obtain ⟨t, rfl⟩ := rl; rfl
      | str z => obtain ⟨t, rfl⟩ := rl; rfl
      | _ => simp [flatV] at fv
    exact exc_get T I1.kIn J (findObj_own hd n rfl (by rw [h6, em])) hh ⟨v, H1, I1.tok _, rl, q⟩
end L2
namespace L2
open PySem PySem.Spec PyProof.Rows PySem.W
theorem ExS.of {K : Frag} {C N : Addr} {nm q : Str} {bs bm : List Value} {hdct : Bool} {sn : List Str} {sub : List Value} {ab : Bool} {col : Option Bool} {dd : Option Addr} {k0 k1 k2 k3 k5 : Option Value} {newId : String}
    (l : K.lookup C = some (excClassObj nm q C N bs bm hdct sn sub ab col dd k0 k1 k2 k3 k5 newId)) (em : exMro bm = true) (hd : hdct = true) (sa : findIn K (.ref C) "__setattr__" = some (some (.builtin "object.__setattr__"))) : ExS K C :=
  ⟨⟨_, by unfold clsIn; rw [l], em, hd⟩, sa⟩
/-! ### min of a list of ints -/
theorem call_minL {X : Cx} (hc : X.calm = true) : CallR X (.builtin "min") (fun xs H Q => ∃ (p : Addr) (ns : List Int), xs = [.ref p] ∧ SqL X.K H p (ns.map V.int) ∧ ns ≠ [] ∧ ∀ m : Int, m ∈ ns → (∀ n ∈ ns, m ≤ n) → Q (.int m) H) := by
  intro pins s σ H xs us Q I r h
  obtain ⟨p, ns, rfl, hq, hne, q⟩ := h
  obtain ⟨u, rfl, rx⟩ := vals1 r
  cases rx
  obtain ⟨its, rv, pl, hz⟩ := I.list hq
  have hi : IntsAre its ns := intsAre_of rv
  have hl := pl.isList
  obtain ⟨zs, ez⟩ := hi.allInts.items
  have en : ns = zs.toList.map (·.1) := (hi.numsOf.symm.trans (by rw [← nums_intItems, ← ez]))
  have pz : 0 < zs.size := by
    have z : 0 < ns.length := List.length_pos_iff.mpr hne
    rw [en, List.length_map, Array.length_toList] at z; exact z
  rw [ez] at hl
  refine min_intList (I.ok.hd hc) hl pz fun v h' tk hv hk => ?_
  obtain ⟨t, rfl⟩ := intItems_at hv; obtain ⟨h1, h2⟩ := argBest_lt (numAt zs) (zs.size - 1)
  refine ⟨.int _, H, I.kept hk, ⟨_, rfl⟩, q _ ?_ fun n hn => ?_⟩
  · rw [en, numAt_eq]; exact getD_mem (by rw [List.length_map, Array.length_toList] <;> omega)
  · rw [en] at hn; obtain ⟨j, hj, rfl⟩ := mem_getD hn
    rw [List.length_map, Array.length_toList] at hj; rw [← numAt_eq]; exact h2 j (by omega)
end L2
set_option Elab.async false
set_option linter.all false
set_option maxRecDepth 100000
set_option maxHeartbeats 1000000
/-! a cut: what holds between a statement and the rest, said once for all its branches -/
namespace L2
open PySem PySem.Spec PyProof.Rows PySem.W
def tCut (t u : TS) : TS := fun D σ H => ∃ R : St → Hp → Prop, t { D with nx := R } σ H ∧ ∀ σ' H', R σ' H' → u D σ' H'
theorem pss_cut {X : Cx} {st : Stmt} {rest : List Stmt} {t u : TS} (h1 : PS X st t) (h2 : PSs X rest u) : PSs X (st :: rest) (tCut t u) := by
  intro pins s σ H D I ⟨R, h, hR⟩
  refine wpAny_execs_cons (thn (h1 pins s σ H { D with nx := R } I h) fun f s1 q => ?_)
  cases f with
  | next =>
    obtain ⟨σ', H', I', q⟩ := q
    exact h2 pins s1 σ' H' D I' (hR σ' H' q)
  | ret v => exact q
  | brk => exact q
  | cont => exact q
end L2
set_option Elab.async false
set_option linter.all false
set_option maxRecDepth 100000
set_option maxHeartbeats 1000000
/-! sorted of a list of ints; max of one -/
namespace L2
open PySem PySem.Spec PyProof.Rows PySem.W
section
variable {X : Cx}
end
/-! ### zip of two lists -/
section
variable {X : Cx} {pins : List (Addr × Obj)} {σ : St} {H : Hp} {s : Shared}
end
section
variable {X : Cx} {elts : List Expr} {k0} {tp : Pos}
end
end L2
set_option Elab.async false
set_option linter.all false
set_option maxRecDepth 100000
set_option maxHeartbeats 1000000
/-! volumes: rows made anew, a number put into a row, copies; data trees over what is tracked -/
namespace L2
open PySem PySem.Spec PyProof.Rows PySem.W
theorem ndp1 {a : Str} : [a].Nodup := by simp
theorem ndp2 {a b : Str} (h : a ≠ b) : [a, b].Nodup := by simp [h]
theorem ndp3 {a b c : Str} (h1 : a ≠ b) (h2 : a ≠ c) (h3 : b ≠ c) : [a, b, c].Nodup := by simp [h1, h2, h3]
theorem take_snoc {α : Type} {xs : List α} {i : Nat} {x : α} (h : xs[i]? = some x) : xs.take (i + 1) = xs.take i ++ [x] := by
  rw [List.take_add_one, h]; rfl
theorem nodup_at {α : Type} {l : List α} (hN : l.Nodup) {i j : Nat} {x : α} (a : l[i]? = some x) (b : l[j]? = some x) : i = j := by
  obtain ⟨hi, ei⟩ := List.getElem?_eq_some_iff.mp a
  obtain ⟨hj, ej⟩ := List.getElem?_eq_some_iff.mp b
  have p := List.pairwise_iff_getElem.mp hN
  rcases Nat.lt_trichotomy i j with h | h | h
  · exact absurd (ei.trans ej.symm) (p i j hi hj h)
  · exact h
  · exact absurd (ej.trans ei.symm) (p j i hj hi h)
/-- rows of ints that came since H0 -/
structure Rows (H0 H : Hp) (as : List Addr) (rows : List (List Int)) : Prop where
  len : as.length = rows.length
  nd : as.Nodup
  new : ∀ a ∈ as, H0 a = none
  row : ∀ (i : Nat) a r, as[i]? = some a → rows[i]? = some r → H a = some (.lst (r.map V.int))
  same : Same H0 H
theorem Rows.nil {H : Hp} : Rows H H [] [] := ⟨rfl, List.nodup_nil, fun _ h => (nomatch h), fun i a r h => by simp at h, Same.refl H⟩
theorem Rows.at {H0 H : Hp} {as : List Addr} {rows : List (List Int)} (x : Rows H0 H as rows) {a : Addr} (h : a ∈ as) : ∃ o, H a = some o := by
  obtain ⟨i, hi, e⟩ := List.getElem_of_mem h
  have h1 : as[i]? = some a := by rw [List.getElem?_eq_getElem hi, e]
  have hr : i < rows.length := by rw [← x.len]; exact hi
  exact ⟨_, x.row i a rows[i] h1 (List.getElem?_eq_getElem hr)⟩
theorem Rows.on {H0 H H' : Hp} {as : List Addr} {rows : List (List Int)} (x : Rows H0 H as rows) (s : Same H H') : Rows H0 H' as rows :=
  ⟨x.len, x.nd, x.new, fun i a r h1 h2 => s _ _ (x.row i a r h1 h2), x.same.trans s⟩
theorem Rows.add {H0 H H1 : Hp} {as : List Addr} {rows : List (List Int)} {q : Addr} {r : List Int} (x : Rows H0 H as rows) (s : Same H H1) (hq : H q = none) (h1 : H1 q = some (.lst (r.map V.int))) : Rows H0 H1 (as ++ [q]) (rows ++ [r]) := by
  refine ⟨by simp [x.len], List.nodup_append.mpr ⟨x.nd, by simp, fun a hm b hb => ?_⟩, fun a hm => ?_, fun i a r' e1 e2 => ?_, x.same.trans s⟩
  · have : b = q := by simpa using hb
    subst this
    obtain ⟨o, e⟩ := x.at hm
    exact ne_of_none e hq
  · rcases List.mem_append.mp hm with hm | hm
    · exact x.new a hm
    · have : a = q := by simpa using hm
      subst this
      exact x.same.free hq
  · by_cases hi : i < as.length
    · rw [List.getElem?_append_left hi] at e1
      rw [List.getElem?_append_left (by rw [← x.len]; exact hi)] at e2
      exact s _ _ (x.row i a r' e1 e2)
    · have hl : i < (as ++ [q]).length := (List.getElem?_eq_some_iff.mp e1).1
      have : i = as.length := by simp at hl; omega
      subst this
      rw [x.len] at e2
      simp at e1 e2
      subst e1 e2
      exact h1
theorem Rows.vol {H0 H : Hp} {as : List Addr} {rows : List (List Int)} {v : Addr} (x : Rows H0 H as rows) (hv : H v = none) : Vol (upd H v (.lst (as.map V.ref))) v as rows :=
  ⟨upd_same, x.len, x.nd, fun i a r e1 e2 => (Same.upd0 hv) _ _ (x.row i a r e1 e2)⟩
/-- a number is put into a row -/
theorem Vol.put {H : Hp} {v a : Addr} {as : List Addr} {rows : List (List Int)} {i j : Nat} {r : List Int} {n : Int} (x : Vol H v as rows) (ha : as[i]? = some a) (hr : rows[i]? = some r) :
    Vol (upd H a (.lst ((r.map V.int).set j (.int n)))) v as (rows.set i (r.set j n)) := by
  have hi : i < as.length := (List.getElem?_eq_some_iff.mp ha).1
  refine ⟨by rw [upd_ne (Ne.symm (x.ne (List.mem_of_getElem? ha)))]; exact x.top, by simp [x.len], x.nd, fun k b r' e1 e2 => ?_⟩
  by_cases hk : k = i
  · subst hk
    rw [ha] at e1
    cases e1
    rw [List.getElem?_set_self (by rw [← x.len]; exact hi)] at e2
    cases e2
    rw [upd_same, List.map_set]
  · rw [List.getElem?_set_ne (Ne.symm hk)] at e2
    have nb : b ≠ a := fun z => by
      subst z
      exact hk (nodup_at x.nd e1 ha)
    rw [upd_ne nb]
    exact x.row k b r' e1 e2
/-- [list(x) for x in v]: a new volume with the same rows -/
theorem comp_rows {K : PySem.W.Frag} {v : Addr} {as : List Addr} {rows : List (List Int)} {σ : St} {H : Hp} {Q : VK} (hV : Vol H v as rows) (hn : rows.length ≤ 1000)
    (k : ∀ (D : Addr) (bs : List Addr) (H' : Hp), H D = none → (∀ b ∈ bs, H b = none) → Vol H' D bs rows → Same H H' → Q (.ref D) H') :
    CompR [none] (gName 0) tTrue (tCB (fun xs H Q => ∃ p ys, xs = [.ref p] ∧ (SqL K H p ys ∨ SqT K H p ys) ∧ ∀ l, H l = none → Q (.ref l) (upd H l (.lst ys))) (tCons (tVar 0) tNil)) σ Q (Itl K v) H := by
  refine comp_list (cap := [none]) (K := K) (a := v) (xs := as.map V.ref) (small_len (by rw [List.length_map, hV.len]; exact hn)) (fun i ys σ H' => ∃ bs, ys = bs.map V.ref ∧ i ≤ rows.length ∧ bs.length = i ∧ σ.length = 1 ∧ Rows H H' bs (rows.take i))
    ⟨[], rfl, Nat.zero_le _, rfl, rfl, by rw [List.take_zero]; exact Rows.nil⟩ (fun i ys σ H' ⟨bs, h1, h2, h3, h4, h5⟩ => ⟨by rw [List.length_map, hV.len]; exact h2, by rw [h1, List.length_map, h3]; exact Nat.le_refl _, SqL.of (h5.same _ _ hV.top)⟩) ?_ ?_
  · rintro i x ys σ H' hx ⟨bs, rfl, h2, h3, h4, h5⟩
    rw [List.getElem?_map] at hx
    cases e : as[i]? with
    | none => rw [e] at hx; cases hx
    | some a =>
      rw [e] at hx
      cases hx
      have hi : i < rows.length := by rw [← hV.len]; exact (List.getElem?_eq_some_iff.mp e).1
      have er : rows[i]? = some rows[i] := List.getElem?_eq_getElem hi
      match σ, h4 with
      | [s1], _ =>
        refine ⟨_, rfl, a, _, rfl, .inl (SqL.of (h5.same _ _ (hV.row i a rows[i] e er))), fun l hl => ⟨bs ++ [l], by simp, hi, by simp [h3], rfl, ?_⟩⟩
        rw [take_snoc er]
        exact h5.add (Same.upd0 hl) hl upd_same
  · rintro ys σ H' ⟨bs, rfl, h2, h3, h4, h5⟩ D hD
    have e : rows.take (as.map V.ref).length = rows := by rw [List.length_map, hV.len, List.take_length]
    rw [e] at h5
    exact k D bs _ (h5.same.free hD) h5.new (h5.vol hD) (h5.same.upd hD)
end L2
set_option Elab.async false
set_option linter.all false
set_option maxRecDepth 100000
set_option maxHeartbeats 1000000
/-! set of a list of ints, its len -/
namespace L2
open PySem PySem.Spec PyProof.Rows PySem.W
def dd (ns : List Int) : List Int := firstMet (fun i => ns.getD i 0) ns.length
section
variable {X : Cx}
end
end L2
set_option Elab.async false
set_option linter.all false
set_option maxRecDepth 100000
set_option maxHeartbeats 1000000
/-! o.m(..) where the class of o is one of several -/
namespace L2
open PySem PySem.Spec PyProof.Rows PySem.W
section
variable {X : Cx} {CX : CXT} {k : Nat} {D : Addr → Prop} {sp : Addr → Sp} {dvs : List V} {ds : List Value} {E : XK} {m : Str} {pos apos : Pos} {e o : Expr} {es : List Expr} {ta : TE} {t : TA}
end
end L2
set_option Elab.async false
set_option linter.all false
set_option maxRecDepth 100000
set_option maxHeartbeats 1000000
/-! enumerate(l, start=NAME) where NAME is 4; lists of rows; writes whose rows are apart -/
namespace PySem
open Sem (wp)
open AutoSeq1 (wpAny_loadPart')
section
variable {prog : Program} {w : World} {A : Around} {E : Value → Shared → Prop} {s : Shared}
end
end PySem
namespace L2
open PySem PySem.Spec PyProof.Rows PySem.W
section
variable {X : Cx} {elts : List Expr} {k0} {tp : Pos}
end
/-- a list of rows of ints, not apart -/
structure Rs (H : Hp) (v : Addr) (as : List Addr) (rows : List (List Int)) : Prop where
  top : H v = some (.lst (as.map V.ref))
  len : as.length = rows.length
  row : ∀ (i : Nat) a r, as[i]? = some a → rows[i]? = some r → H a = some (.lst (r.map V.int))
theorem Rs.same {H H' : Hp} {v : Addr} {as : List Addr} {rows : List (List Int)} (h : Rs H v as rows) (s : Same H H') : Rs H' v as rows := ⟨s _ _ h.top, h.len, fun i a r e1 e2 => s _ _ (h.row i a r e1 e2)⟩
/-- writes: pairs of a block and a row -/
abbrev Wt := Int × List Int
def trW (x : Wt) : Tr := .tup [.flat (.int x.1), trI x.2]
structure Wr (H : Hp) (w : Addr) (ts : List Addr) (ws : List Wt) : Prop where
  top : H w = some (.lst (ts.map V.ref))
  len : ts.length = ws.length
  item : ∀ (i : Nat) t x, ts[i]? = some t → ws[i]? = some x → ∃ ra, H t = some (.tup [.int x.1, .ref ra]) ∧ H ra = some (.lst (x.2.map V.int))
theorem Wr.same {H H' : Hp} {w : Addr} {ts : List Addr} {ws : List Wt} (h : Wr H w ts ws) (s : Same H H') : Wr H' w ts ws :=
  ⟨s _ _ h.top, h.len, fun i t x e1 e2 => let ⟨ra, h1, h2⟩ := h.item i t x e1 e2; ⟨ra, s _ _ h1, s _ _ h2⟩⟩
theorem Wr.holds {K : PySem.W.Frag} {H : Hp} {w : Addr} {ts : List Addr} {ws : List Wt} (h : Wr H w ts ws) : Holds K H 3 (.ref w) (.lst (ws.map trW)) := by
  refine .lst (SqL.of h.top) (by simp [h.len]) fun i x t e1 e2 => ?_
  rw [List.getElem?_map] at e1 e2
  cases ea : ts[i]? with
  | none => rw [ea] at e1; cases e1
  | some ta =>
    cases ew : ws[i]? with
    | none => rw [ew] at e2; cases e2
    | some y =>
      rw [ea] at e1
      rw [ew] at e2
      cases e1
      cases e2
      obtain ⟨ra, h1, h2⟩ := h.item i ta y ea ew
      refine .tup (SqT.of h1) rfl fun j x t f1 f2 => ?_
      match j with
      | 0 => cases f1; cases f2; exact .flat rfl
      | 1 => cases f1; cases f2; exact holds_ints (SqL.of h2)
      | j + 2 => simp at f1
/-- pairs with rows of their own that came since H0 -/
structure Wrs (H0 H : Hp) (ts ras : List Addr) (ws : List Wt) : Prop where
  lt : ts.length = ws.length
  lr : ras.length = ws.length
  nd : ras.Nodup
  new : ∀ a ∈ ras, H0 a = none
  tup : ∀ (i : Nat) t a x, ts[i]? = some t → ras[i]? = some a → ws[i]? = some x → H t = some (.tup [.int x.1, .ref a])
  row : ∀ (i : Nat) a x, ras[i]? = some a → ws[i]? = some x → H a = some (.lst (x.2.map V.int))
  same : Same H0 H
theorem Wrs.nil {H : Hp} : Wrs H H [] [] [] := ⟨rfl, rfl, List.nodup_nil, fun _ h => (nomatch h), fun i t a x h => by simp at h, fun i a x h => by simp at h, Same.refl H⟩
theorem Wrs.at {H0 H : Hp} {ts ras : List Addr} {ws : List Wt} (x : Wrs H0 H ts ras ws) {a : Addr} (h : a ∈ ras) : ∃ ns : List Int, H a = some (.lst (ns.map V.int)) := by
  obtain ⟨i, hi, e⟩ := List.getElem_of_mem h
  have h1 : ras[i]? = some a := by rw [List.getElem?_eq_getElem hi, e]
  have hr : i < ws.length := by rw [← x.lr]; exact hi
  exact ⟨_, x.row i a ws[i] h1 (List.getElem?_eq_getElem hr)⟩
theorem Wrs.on {H0 H H' : Hp} {ts ras : List Addr} {ws : List Wt} (x : Wrs H0 H ts ras ws) (s : Same H H') : Wrs H0 H' ts ras ws :=
  ⟨x.lt, x.lr, x.nd, x.new, fun i t a y h1 h2 h3 => s _ _ (x.tup i t a y h1 h2 h3), fun i a r h1 h2 => s _ _ (x.row i a r h1 h2), x.same.trans s⟩
theorem Wrs.add {H0 H H1 : Hp} {ts ras : List Addr} {ws : List Wt} {t q : Addr} {y : Wt} (x : Wrs H0 H ts ras ws) (s : Same H H1) (hq : H q = none) (h1 : H1 t = some (.tup [.int y.1, .ref q])) (h2 : H1 q = some (.lst (y.2.map V.int))) : Wrs H0 H1 (ts ++ [t]) (ras ++ [q]) (ws ++ [y]) := by
  refine ⟨by simp [x.lt], by simp [x.lr], List.nodup_append.mpr ⟨x.nd, by simp, fun a hm b hb => ?_⟩, fun a hm => ?_, fun i t' a r' e0 e1 e2 => ?_, fun i a r' e1 e2 => ?_, x.same.trans s⟩
  · have : b = q := by simpa using hb
    subst this
    obtain ⟨o, e⟩ := x.at hm
    exact ne_of_none e hq
  · rcases List.mem_append.mp hm with hm | hm
    · exact x.new a hm
    · have : a = q := by simpa using hm
      subst this
      exact x.same.free hq
  · by_cases hi : i < ras.length
    · rw [List.getElem?_append_left (by rw [x.lt, ← x.lr]; exact hi)] at e0
      rw [List.getElem?_append_left hi] at e1
      rw [List.getElem?_append_left (by rw [← x.lr]; exact hi)] at e2
      exact s _ _ (x.tup i t' a r' e0 e1 e2)
    · have hl : i < (ras ++ [q]).length := (List.getElem?_eq_some_iff.mp e1).1
      have : i = ras.length := by simp at hl; omega
      subst this
      rw [x.lr, ← x.lt] at e0
      rw [x.lr] at e2
      simp at e0 e1 e2
      subst e0 e1 e2
      exact h1
  · by_cases hi : i < ras.length
    · rw [List.getElem?_append_left hi] at e1
      rw [List.getElem?_append_left (by rw [← x.lr]; exact hi)] at e2
      exact s _ _ (x.row i a r' e1 e2)
    · have hl : i < (ras ++ [q]).length := (List.getElem?_eq_some_iff.mp e1).1
      have : i = ras.length := by simp at hl; omega
      subst this
      rw [x.lr] at e2
      simp at e1 e2
      subst e1 e2
      exact h2
/-- the list of them stands at w -/
structure WrA (H0 H : Hp) (w : Addr) (ts ras : List Addr) (ws : List Wt) : Prop extends Wrs H0 H ts ras ws where
  top : H w = some (.lst (ts.map V.ref))
  nw : w ∉ ras
theorem Wrs.list {H0 H : Hp} {w : Addr} {ts ras : List Addr} {ws : List Wt} (x : Wrs H0 H ts ras ws) (hw : H w = none) : WrA H0 (upd H w (.lst (ts.map V.ref))) w ts ras ws :=
  ⟨x.on (Same.upd0 hw), upd_same, fun z => let ⟨_, e⟩ := x.at z; by rw [hw] at e; cases e⟩
/-- a number is put into a row of them -/
theorem WrA.put {H0 H : Hp} {w a : Addr} {ts ras : List Addr} {ws : List Wt} {i j : Nat} {y : Wt} {n : Int} (x : WrA H0 H w ts ras ws) (ha : ras[i]? = some a) (hy : ws[i]? = some y) :
    WrA H0 (upd H a (.lst ((y.2.map V.int).set j (.int n)))) w ts ras (ws.set i (y.1, y.2.set j n)) := by
  have hi : i < ras.length := (List.getElem?_eq_some_iff.mp ha).1
  have hiw : i < ws.length := by rw [← x.lr]; exact hi
  have hA := x.row i a y ha hy
  have n0 : H0 a = none := x.new a (List.mem_of_getElem? ha)
  refine ⟨⟨by rw [List.length_set]; exact x.lt, by rw [List.length_set]; exact x.lr, x.nd, x.new, fun k t b r' e0 e1 e2 => ?_, fun k b r' e1 e2 => ?_, fun c u e => ?_⟩, ?_, x.nw⟩
  · have ht : ∀ z, H t = some (.tup z) → upd H a (.lst ((y.2.map V.int).set j (.int n))) t = some (.tup z) := fun z h => by
      rw [upd_ne (fun z' => by rw [z', hA] at h; cases h)]; exact h
    by_cases hk : k = i
    · subst hk
      rw [List.getElem?_set_self hiw] at e2
      cases e2
      exact ht _ (x.tup k t b y e0 e1 hy)
    · rw [List.getElem?_set_ne (Ne.symm hk)] at e2
      exact ht _ (x.tup k t b r' e0 e1 e2)
  · by_cases hk : k = i
    · subst hk
      rw [ha] at e1
      cases e1
      rw [List.getElem?_set_self hiw] at e2
      cases e2
      rw [upd_same, List.map_set]
    · rw [List.getElem?_set_ne (Ne.symm hk)] at e2
      have nb : b ≠ a := fun z => by
        subst z
        exact hk (nodup_at x.nd e1 ha)
      rw [upd_ne nb]
      exact x.row k b r' e1 e2
  · rw [upd_ne (fun z => by rw [z, n0] at e; cases e)]
    exact x.same c u e
  · rw [upd_ne (fun z => x.nw (by rw [z]; exact List.mem_of_getElem? ha))]
    exact x.top
theorem Wrs.base {H0 H1 H : Hp} {ts ras : List Addr} {ws : List Wt} (x : Wrs H1 H ts ras ws) (s : Same H0 H1) : Wrs H0 H ts ras ws := ⟨x.lt, x.lr, x.nd, fun a h => s.free (x.new a h), x.tup, x.row, s.trans x.same⟩
theorem WrA.base {H0 H1 H : Hp} {w : Addr} {ts ras : List Addr} {ws : List Wt} (x : WrA H1 H w ts ras ws) (s : Same H0 H1) : WrA H0 H w ts ras ws := ⟨x.toWrs.base s, x.top, x.nw⟩
theorem Wrs.one {H0 H : Hp} {t q : Addr} {y : Wt} (s : Same H0 H) (h0 : H0 q = none) (h1 : H t = some (.tup [.int y.1, .ref q])) (h2 : H q = some (.lst (y.2.map V.int))) : Wrs H0 H [t] [q] [y] := by
  refine ⟨rfl, rfl, by simp, fun a h => ?_, fun i t' a x e0 e1 e2 => ?_, fun i a x e1 e2 => ?_, s⟩
  · have : a = q := by simpa using h
    rw [this]; exact h0
  · match i with
    | 0 => cases e0; cases e1; cases e2; exact h1
    | i + 1 => simp at e0
  · match i with
    | 0 => cases e1; cases e2; exact h2
    | i + 1 => simp at e1
theorem getApp {α : Type} {xs ys : List α} {i n : Nat} {x : α} (hn : xs.length = n) (h : (xs ++ ys)[i]? = some x) : (i < n ∧ xs[i]? = some x) ∨ (n ≤ i ∧ ys[i - n]? = some x) := by
  by_cases hi : i < n
  · exact .inl ⟨hi, by rw [List.getElem?_append_left (by omega)] at h; exact h⟩
  · exact .inr ⟨by omega, by rw [List.getElem?_append_right (by omega), hn] at h; exact h⟩
/-- pairs, not apart, without their list -/
structure WI (H : Hp) (ts : List Addr) (ws : List Wt) : Prop where
  len : ts.length = ws.length
  item : ∀ (i : Nat) t x, ts[i]? = some t → ws[i]? = some x → ∃ ra, H t = some (.tup [.int x.1, .ref ra]) ∧ H ra = some (.lst (x.2.map V.int))
theorem WI.same {H H' : Hp} {ts : List Addr} {ws : List Wt} (h : WI H ts ws) (s : Same H H') : WI H' ts ws :=
  ⟨h.len, fun i t x e1 e2 => let ⟨ra, h1, h2⟩ := h.item i t x e1 e2; ⟨ra, s _ _ h1, s _ _ h2⟩⟩
theorem WI.nil {H : Hp} : WI H [] [] := ⟨rfl, fun i t x e => by simp at e⟩
theorem WI.one {H : Hp} {t q : Addr} {y : Wt} (h1 : H t = some (.tup [.int y.1, .ref q])) (h2 : H q = some (.lst (y.2.map V.int))) : WI H [t] [y] := by
  refine ⟨rfl, fun i t' x e0 e1 => ?_⟩
  match i with
  | 0 => cases e0; cases e1; exact ⟨q, h1, h2⟩
  | i + 1 => simp at e0
theorem WI.app {H : Hp} {ts ts2 : List Addr} {ws ws2 : List Wt} (x : WI H ts ws) (y : WI H ts2 ws2) : WI H (ts ++ ts2) (ws ++ ws2) := by
  refine ⟨by simp [x.len, y.len], fun i t z e0 e1 => ?_⟩
  rcases getApp x.len e0 with ⟨hi, e0⟩ | ⟨hi, e0⟩
  · rcases getApp (rfl : ws.length = ws.length) e1 with ⟨_, e1⟩ | ⟨h3, _⟩
    · exact x.item i t z e0 e1
    · exact absurd h3 (by omega)
  · rcases getApp (rfl : ws.length = ws.length) e1 with ⟨h3, _⟩ | ⟨_, e1⟩
    · exact absurd h3 (by omega)
    · exact y.item _ t z e0 e1
theorem Wr.wi {H : Hp} {w : Addr} {ts : List Addr} {ws : List Wt} (h : Wr H w ts ws) : WI H ts ws := ⟨h.len, h.item⟩
theorem holds_refl {K : PySem.W.Frag} {H : Hp} {n : Nat} {v : V} {t : Tr} (h : Holds K H n v t) : eqT t t = true := by
  have all : ∀ {xs : List V} {ts : List Tr}, xs.length = ts.length → (∀ (i : Nat) x t, xs[i]? = some x → ts[i]? = some t → eqT t t = true) → eqTs ts ts = true := fun {xs ts} hl ih => by
    rw [eqTs_all rfl, List.all_eq_true]
    intro i hi
    have hi : i < ts.length := by simpa using hi
    rw [List.getElem?_eq_getElem hi]
    exact ih i xs[i] ts[i] (List.getElem?_eq_getElem (by omega)) (List.getElem?_eq_getElem hi)
  induction h with
  | flat h => simp only [L2.eqT]; exact eqV_refl h
  | lst h hl he ih => simp only [L2.eqT]; exact all hl ih
  | tup h hl he ih => simp only [L2.eqT]; exact all hl ih
end L2
set_option Elab.async false
set_option linter.all false
set_option maxRecDepth 100000
set_option maxHeartbeats 1000000
/-! displays of whole numbers at once -/
namespace L2
open PySem PySem.Spec PyProof.Rows PySem.W
def intOf : Expr → Option Int
  | .Constant (.int n) _ _ => some n
  | .UnaryOp .USub (.Constant (.int n) _ _) _ => some (-n)
  | _ => none
def intsOf : List Expr → Option (List Int)
  | [] => some []
  | e :: es => (intOf e).bind fun n => (intsOf es).map (n :: ·)
def tIntsA (ns : List Int) : TA := fun _ H Q => Q (ns.map V.int) H
def tInts (ns : List Int) : TE := fun _ H Q => ns.length ≤ sizeLine ∧ ∀ p, H p = none → Q (.ref p) (upd H p (.lst (ns.map V.int)))
section
variable {X : Cx}
theorem pe_intOf {e : Expr} {n : Int} (h : intOf e = some n) : PE X e (tC (.int n)) := by
  unfold intOf at h
  split at h
  · cases h
    exact pe_int
  · cases h
    exact fun pins s σ H Q I hq => pe_un un_neg pe_int pins s σ H Q I ⟨_, rfl, hq⟩
  · cases h
theorem star_intOf {e : Expr} {n : Int} {es : List Expr} (h : intOf e = some n) : starEach (e :: es) X.env = (false, eval e X.env) :: starEach es X.env := by
  unfold intOf at h
  split at h
  · rfl
  · rfl
  · cases h
theorem pa_ints : ∀ {es : List Expr} {ns : List Int}, intsOf es = some ns → PA X es (tIntsA ns)
  | [], ns, h => by
    cases h
    exact pa_nil
  | e :: es, ns, h => by
    unfold intsOf at h
    cases hn : intOf e with
    | none => rw [hn] at h; cases h
    | some n =>
      cases hs : intsOf es with
      | none => rw [hn, hs] at h; cases h
      | some ms =>
        rw [hn, hs] at h
        cases h
        intro pos pins s σ H Q I hq
        exact pa_cons (pe_intOf hn) (pa_ints hs) (star_intOf hn) pos pins s σ H Q I hq
theorem pe_ints {es : List Expr} {ns : List Int} {pos : Pos} (h : intsOf es = some ns) : PE X (.List es pos) (tInts ns) := by
  intro pins s σ H Q I hq
  refine pe_lst (pa_ints h) pins s σ H Q I ?_
  obtain ⟨h1, h2⟩ := hq
  exact ⟨by rw [List.length_map]; exact h1, h2⟩
end
end L2
set_option Elab.async false
set_option linter.all false
set_option maxRecDepth 100000
set_option maxHeartbeats 1000000
namespace L2
open PySem PySem.Spec PyProof.Rows
/-! ### a comprehension over a tuple; triples of whole numbers in lists -/
theorem ndp4 {a b c d : Str} (h1 : a ≠ b) (h2 : a ≠ c) (h3 : a ≠ d) (h4 : b ≠ c) (h5 : b ≠ d) (h6 : c ≠ d) : [a, b, c, d].Nodup := by simp [h1, h2, h3, h4, h5, h6]
theorem comp_tup {K : PySem.W.Frag} {a : Addr} {xs : List V} {cap : List (Option Nat)} {g : TG} {tt : TT} {te : TE} {σ : St} {H : Hp} {Q : VK} (hm : xs.length ≤ sizeLine) (Pv : Nat → List V → St → Hp → Prop) (h0 : Pv 0 [] (capS cap σ) H)
    (hl : ∀ i ys σ H, Pv i ys σ H → i ≤ xs.length ∧ ys.length ≤ i ∧ SqT K H a xs)
    (hs : ∀ i x ys σ H, xs[i]? = some x → Pv i ys σ H → g x σ H fun σ2 H2 => tt σ2 H2 fun b H3 => if b = true then te σ2 H3 fun v H4 => Pv (i + 1) (ys ++ [v]) σ2 H4 else Pv (i + 1) ys σ2 H3)
    (hd : ∀ ys σ H, Pv xs.length ys σ H → ∀ D, H D = none → Q (.ref D) (upd H D (.lst ys))) :
    CompR cap g tt te σ Q (Itt K a) H := by
  refine ⟨xs.length, Pv, hm, h0, fun i ys σ' H p => ?_⟩
  obtain ⟨h1, h2, h3⟩ := hl i ys σ' H p
  refine ⟨h1, h2, ?_⟩
  by_cases hi : i < xs.length
  · obtain ⟨x, hx⟩ : ∃ x, xs[i]? = some x := ⟨xs[i], List.getElem?_eq_getElem hi⟩
    refine .inr ⟨⟨xs, x, h3, hx⟩, hi, fun x' H' ⟨e1, e2⟩ => ?_⟩
    subst e1
    exact hs i x' ys σ' H' (e2 xs h3) p
  · have : i = xs.length := Nat.le_antisymm h1 (Nat.le_of_not_lt hi)
    subst this
    exact .inl ⟨⟨xs, h3, Nat.le_refl _⟩, hd ys σ' H p⟩
theorem int_ne {a b : Int} (h : ¬ a = b) : ¬ (V.int a = V.int b) := fun z => h (by injection z)
theorem getD_at {r : List Int} {j : Nat} (h : j < r.length) : atI (r.map V.int) (j : Int) = some (.int (r.getD j 0)) :=
  atI_nat (by rw [List.getElem?_map, List.getD_eq_getElem?_getD, List.getElem?_eq_getElem h]; rfl)
abbrev T3 := Int × Int × Int
def trT (p : T3) : Tr := .tup [.flat (.int p.1), .flat (.int p.2.1), .flat (.int p.2.2)]
def tupT (p : T3) : HO := .tup [.int p.1, .int p.2.1, .int p.2.2]
/-- triples without their list -/
structure TI3 (H : Hp) (ts : List Addr) (ps : List T3) : Prop where
  len : ts.length = ps.length
  item : ∀ (i : Nat) t p, ts[i]? = some t → ps[i]? = some p → H t = some (tupT p)
/-- a list of triples -/
structure Ts (H : Hp) (w : Addr) (ts : List Addr) (ps : List T3) : Prop where
  top : H w = some (.lst (ts.map V.ref))
  it : TI3 H ts ps
theorem TI3.tups {H H' : Hp} {ts : List Addr} {ps : List T3} (h : TI3 H ts ps) (s : ∀ b xs, H b = some (.tup xs) → H' b = some (.tup xs)) : TI3 H' ts ps := ⟨h.len, fun i t p e1 e2 => s _ _ (h.item i t p e1 e2)⟩
theorem TI3.same {H H' : Hp} {ts : List Addr} {ps : List T3} (h : TI3 H ts ps) (s : Same H H') : TI3 H' ts ps := h.tups fun _ _ e => s _ _ e
theorem Ts.same {H H' : Hp} {w : Addr} {ts : List Addr} {ps : List T3} (h : Ts H w ts ps) (s : Same H H') : Ts H' w ts ps := ⟨s _ _ h.top, h.it.same s⟩
theorem Ts.holds {K : PySem.W.Frag} {H : Hp} {w : Addr} {ts : List Addr} {ps : List T3} (h : Ts H w ts ps) : Holds K H 2 (.ref w) (.lst (ps.map trT)) := by
  refine .lst (SqL.of h.top) (by simp [h.it.len]) fun i x t e1 e2 => ?_
  rw [List.getElem?_map] at e1 e2
  cases ea : ts[i]? with
  | none => rw [ea] at e1; cases e1
  | some ta =>
    cases ew : ps[i]? with
    | none => rw [ew] at e2; cases e2
    | some y =>
      rw [ea] at e1
      rw [ew] at e2
      cases e1
      cases e2
      exact holds_flats (xs := [.int y.1, .int y.2.1, .int y.2.2]) (SqT.of (h.it.item i ta y ea ew)) rfl
theorem TI3.nil {H : Hp} : TI3 H [] [] := ⟨rfl, fun i t p e => by simp at e⟩
theorem TI3.one {H : Hp} {t : Addr} {p : T3} (h : H t = some (tupT p)) : TI3 H [t] [p] := ⟨rfl, fun i t' p' e1 e2 => by
  match i with
  | 0 => cases e1; cases e2; exact h
  | i + 1 => simp at e1⟩
theorem TI3.app {H : Hp} {ts ts2 : List Addr} {ps ps2 : List T3} (x : TI3 H ts ps) (y : TI3 H ts2 ps2) : TI3 H (ts ++ ts2) (ps ++ ps2) := by
  refine ⟨by simp [x.len, y.len], fun i t z e0 e1 => ?_⟩
  rcases getApp x.len e0 with ⟨hi, e0⟩ | ⟨hi, e0⟩
  · rcases getApp (rfl : ps.length = ps.length) e1 with ⟨_, e1⟩ | ⟨h3, _⟩
    · exact x.item i t z e0 e1
    · exact absurd h3 (by omega)
  · rcases getApp (rfl : ps.length = ps.length) e1 with ⟨h3, _⟩ | ⟨_, e1⟩
    · exact absurd h3 (by omega)
    · exact y.item _ t z e0 e1
theorem TI3.add {H H' : Hp} {ts : List Addr} {ps : List T3} {t : Addr} {p : T3} (h : TI3 H ts ps) (s : ∀ b xs, H b = some (.tup xs) → H' b = some (.tup xs)) (ht : H' t = some (tupT p)) : TI3 H' (ts ++ [t]) (ps ++ [p]) := (h.tups s).app (.one ht)
/-- a new object, or a list that is written over, leaves the tuples -/
theorem tups_new {H : Hp} {b : Addr} {o : HO} (h : H b = none) : ∀ c xs, H c = some (.tup xs) → upd H b o c = some (.tup xs) := fun c xs e => by rw [upd_ne (ne_of_none e h)]; exact e
theorem tups_lst {H : Hp} {b : Addr} {o : HO} {ys : List V} (h : H b = some (.lst ys)) : ∀ c xs, H c = some (.tup xs) → upd H b o c = some (.tup xs) := fun c xs e => by
  rw [upd_ne (fun z => by rw [z, h] at e; cases e)]; exact e
/-! ### places that are not as they should be -/
end L2
set_option Elab.async false
set_option linter.all false
set_option maxRecDepth 100000
set_option maxHeartbeats 1000000
namespace K41
open PySem L2 PyProof.Rows
/-! ### the text by places -/
def top (i : Nat) : Stmt := PySem.Challenge.pw_volumemend_k41_numbers_out_of_bounds.main.body.getD i (.Pass ⟨0, 0, 0, 0⟩)
abbrev s_NoVolume_init : Stmt := inClass (top 9) 0
abbrev s_Layout_init : Stmt := inClass (top 16) 0
abbrev s_Layout_many : Stmt := inClass (top 16) 1
abbrev s_Layout_record_at : Stmt := inClass (top 16) 2
abbrev s_Layout_names_at : Stmt := inClass (top 16) 3
abbrev s_Layout_data_at : Stmt := inClass (top 16) 4
abbrev s_is_number : Stmt := top 17
abbrev s_is_row : Stmt := top 18
abbrev s_check_form : Stmt := top 19
abbrev s_bounds_wrong : Stmt := top 46
abbrev s_places_broken : Stmt := top 84
abbrev s_wrong : Stmt := top 85
abbrev s_mend : Stmt := top 86
abbrev s_faults : Stmt := top 87
abbrev s_l_cell : Stmt := top 89
abbrev s_l_mixed : Stmt := top 90
abbrev s_l_layout : Stmt := top 91
abbrev s_l_number : Stmt := top 92
abbrev s_l_any : Stmt := top 93
abbrev s_l_told : Stmt := top 94
abbrev s_l_near : Stmt := top 95
abbrev s_l_row : Stmt := top 96
abbrev s_l_spoiled : Stmt := top 97
abbrev s_l_refused : Stmt := top 98
abbrev s_law : Stmt := top 99
theorem sc_NoVolume_init : FnScope ["self", "at"] ["self", "at"] (defScope s_NoVolume_init) := ⟨rfl, rfl, rfl, by decide +kernel, rfl, by decide +kernel, by decide +kernel⟩
theorem sc_Layout_init : FnScope ["self", "files", "slots", "data"] ["self", "files", "slots", "data"] (defScope s_Layout_init) := ⟨rfl, rfl, rfl, by decide +kernel, rfl, by decide +kernel, by decide +kernel⟩
theorem sc_Layout_many : FnScope ["self"] ["self"] (defScope s_Layout_many) := ⟨rfl, rfl, rfl, by decide +kernel, rfl, by decide +kernel, by decide +kernel⟩
theorem sc_Layout_record_at : FnScope ["self", "f"] ["self", "f"] (defScope s_Layout_record_at) := ⟨rfl, rfl, rfl, by decide +kernel, rfl, by decide +kernel, by decide +kernel⟩
theorem sc_Layout_names_at : FnScope ["self", "e"] ["self", "e"] (defScope s_Layout_names_at) := ⟨rfl, rfl, rfl, by decide +kernel, rfl, by decide +kernel, by decide +kernel⟩
theorem sc_Layout_data_at : FnScope ["self", "i"] ["self", "i"] (defScope s_Layout_data_at) := ⟨rfl, rfl, rfl, by decide +kernel, rfl, by decide +kernel, by decide +kernel⟩
theorem sc_is_number : FnScope ["value"] ["value"] (defScope s_is_number) := ⟨rfl, rfl, rfl, by decide +kernel, rfl, by decide +kernel, by decide +kernel⟩
theorem sc_is_row : FnScope ["value"] ["value"] (defScope s_is_row) := ⟨rfl, rfl, rfl, by decide +kernel, rfl, by decide +kernel, by decide +kernel⟩
theorem sc_check_form : FnScope ["layout", "volume", "at", "row"] ["layout", "volume"] (defScope s_check_form) := ⟨rfl, rfl, rfl, by decide +kernel, rfl, by decide +kernel, by decide +kernel⟩
theorem sc_bounds_wrong : FnScope ["volume", "told", "block", "row"] ["volume"] (defScope s_bounds_wrong) := ⟨rfl, rfl, rfl, by decide +kernel, rfl, by decide +kernel, by decide +kernel⟩
theorem sc_places_broken : FnScope ["layout", "volume", "clause"] ["layout", "volume", "clause"] (defScope s_places_broken) := ⟨rfl, rfl, rfl, by decide +kernel, rfl, by decide +kernel, by decide +kernel⟩
theorem sc_wrong : FnScope ["layout", "volume", "clause"] ["layout", "volume", "clause"] (defScope s_wrong) := ⟨rfl, rfl, rfl, by decide +kernel, rfl, by decide +kernel, by decide +kernel⟩
theorem sc_mend : FnScope ["layout", "volume", "told", "changes", "clause", "block", "place", "number"] ["layout", "volume"] (defScope s_mend) := ⟨rfl, rfl, rfl, by decide +kernel, rfl, by decide +kernel, by decide +kernel⟩
theorem sc_faults : FnScope ["layout", "volume"] ["layout", "volume"] (defScope s_faults) := ⟨rfl, rfl, rfl, by decide +kernel, rfl, by decide +kernel, by decide +kernel⟩
theorem sc_l_cell : FnScope ["_law_script", "_law_k"] ["_law_script", "_law_k"] (defScope s_l_cell) := ⟨rfl, rfl, rfl, by decide +kernel, rfl, by decide +kernel, by decide +kernel⟩
theorem sc_l_mixed : FnScope ["_law_cell_here", "_law_k", "_law_number_here"] ["_law_cell_here", "_law_k"] (defScope s_l_mixed) := ⟨rfl, rfl, rfl, by decide +kernel, rfl, by decide +kernel, by decide +kernel⟩
theorem sc_l_layout : FnScope ["_law_script", "_law_files", "_law_slots", "_law_data"] ["_law_script"] (defScope s_l_layout) := ⟨rfl, rfl, rfl, by decide +kernel, rfl, by decide +kernel, by decide +kernel⟩
theorem sc_l_number : FnScope ["_law_cell_here", "_law_k", "_law_number_here"] ["_law_cell_here", "_law_k"] (defScope s_l_number) := ⟨rfl, rfl, rfl, by decide +kernel, rfl, by decide +kernel, by decide +kernel⟩
theorem sc_l_any : FnScope ["_law_layout_here", "_law_cell_here", "_law_many"] ["_law_layout_here", "_law_cell_here"] (defScope s_l_any) := ⟨rfl, rfl, rfl, by decide +kernel, rfl, by decide +kernel, by decide +kernel⟩
theorem sc_l_told : FnScope ["_law_layout_here", "_law_volume", "_law_clause", "_law_due", "_law_handed", "_law_found", "_law_one"] ["_law_layout_here", "_law_volume", "_law_clause", "_law_due"] (defScope s_l_told) := ⟨rfl, rfl, rfl, by decide +kernel, rfl, by decide +kernel, by decide +kernel⟩
theorem sc_l_near : FnScope ["_law_layout_here", "_law_script", "_law_many", "_law_cell_here", "_law_volume", "_law_one", "_law_some"] ["_law_layout_here", "_law_script"] (defScope s_l_near) := ⟨rfl, rfl, rfl, by decide +kernel, rfl, by decide +kernel, by decide +kernel⟩
theorem sc_l_row : FnScope ["_law_row_here", "_law_cell_here", "_law_way", "_law_at"] ["_law_row_here", "_law_cell_here"] (defScope s_l_row) := ⟨rfl, rfl, rfl, by decide +kernel, rfl, by decide +kernel, by decide +kernel⟩
theorem sc_l_spoiled : FnScope ["_law_volume", "_law_cell_here", "_law_found", "_law_places", "_law_k", "_law_at"] ["_law_volume", "_law_cell_here"] (defScope s_l_spoiled) := ⟨rfl, rfl, rfl, by decide +kernel, rfl, by decide +kernel, by decide +kernel⟩
theorem sc_l_refused : FnScope ["_law_way", "_law_layout_here", "_law_volume", "_law_at", "e"] ["_law_way", "_law_layout_here", "_law_volume", "_law_at"] (defScope s_l_refused) := ⟨rfl, rfl, rfl, by decide +kernel, rfl, by decide +kernel, by decide +kernel⟩
theorem sc_law : FnScope ["_law_script", "_law_layout_here", "_law_volume", "_law_due", "_law_block", "_law_place", "_law_words", "_law_spoiled_here", "_law_at"] ["_law_script"] (defScope s_law) := ⟨rfl, rfl, rfl, by decide +kernel, rfl, by decide +kernel, by decide +kernel⟩
/-! ### what the top has written -/
set_option genInjectivity false in
set_option genSizeOfSpec false in
structure Tx (K : PySem.W.Frag) (mg : Str → Option Value) where
  C_Layout : Addr
  cl_Layout : Cls K C_Layout
  g_Layout : mg "Layout" = some (.ref C_Layout)
  n_Layout_files : NoAttr K C_Layout "files"
  n_Layout_slots : NoAttr K C_Layout "slots"
  n_Layout_data : NoAttr K C_Layout "data"
  C_VolumeError : Addr
  g_VolumeError : mg "VolumeError" = some (.ref C_VolumeError)
  C_NoLayout : Addr
  g_NoLayout : mg "NoLayout" = some (.ref C_NoLayout)
  C_NoVolume : Addr
  g_NoVolume : mg "NoVolume" = some (.ref C_NoVolume)
  f_NoVolume_init : Addr
  fd_NoVolume_init : FuncData
  F_NoVolume_init : Fun K "__init__" "NoVolume.__init__" s_NoVolume_init f_NoVolume_init fd_NoVolume_init
  b_NoVolume_init : Binds K fd_NoVolume_init ["self", "at"] []
  f_Layout_init : Addr
  fd_Layout_init : FuncData
  F_Layout_init : Fun K "__init__" "Layout.__init__" s_Layout_init f_Layout_init fd_Layout_init
  b_Layout_init : Binds K fd_Layout_init ["self", "files", "slots", "data"] []
  mk_Layout : Mk K C_Layout f_Layout_init
  f_Layout_many : Addr
  fd_Layout_many : FuncData
  F_Layout_many : Fun K "many" "Layout.many" s_Layout_many f_Layout_many fd_Layout_many
  b_Layout_many : Binds K fd_Layout_many ["self"] []
  m_Layout_many : Meth K C_Layout "many" f_Layout_many
  f_Layout_record_at : Addr
  fd_Layout_record_at : FuncData
  F_Layout_record_at : Fun K "record_at" "Layout.record_at" s_Layout_record_at f_Layout_record_at fd_Layout_record_at
  b_Layout_record_at : Binds K fd_Layout_record_at ["self", "f"] []
  m_Layout_record_at : Meth K C_Layout "record_at" f_Layout_record_at
  f_Layout_names_at : Addr
  fd_Layout_names_at : FuncData
  F_Layout_names_at : Fun K "names_at" "Layout.names_at" s_Layout_names_at f_Layout_names_at fd_Layout_names_at
  b_Layout_names_at : Binds K fd_Layout_names_at ["self", "e"] []
  m_Layout_names_at : Meth K C_Layout "names_at" f_Layout_names_at
  f_Layout_data_at : Addr
  fd_Layout_data_at : FuncData
  F_Layout_data_at : Fun K "data_at" "Layout.data_at" s_Layout_data_at f_Layout_data_at fd_Layout_data_at
  b_Layout_data_at : Binds K fd_Layout_data_at ["self", "i"] []
  m_Layout_data_at : Meth K C_Layout "data_at" f_Layout_data_at
  f_is_number : Addr
  fd_is_number : FuncData
  F_is_number : Fun K "is_number" "is_number" s_is_number f_is_number fd_is_number
  b_is_number : Binds K fd_is_number ["value"] []
  g_is_number : mg "is_number" = some (.ref f_is_number)
  f_is_row : Addr
  fd_is_row : FuncData
  F_is_row : Fun K "is_row" "is_row" s_is_row f_is_row fd_is_row
  b_is_row : Binds K fd_is_row ["value"] []
  g_is_row : mg "is_row" = some (.ref f_is_row)
  f_check_form : Addr
  fd_check_form : FuncData
  F_check_form : Fun K "check_form" "check_form" s_check_form f_check_form fd_check_form
  b_check_form : Binds K fd_check_form ["layout", "volume"] []
  g_check_form : mg "check_form" = some (.ref f_check_form)
  f_bounds_wrong : Addr
  fd_bounds_wrong : FuncData
  F_bounds_wrong : Fun K "bounds_wrong" "bounds_wrong" s_bounds_wrong f_bounds_wrong fd_bounds_wrong
  b_bounds_wrong : Binds K fd_bounds_wrong ["volume"] []
  g_bounds_wrong : mg "bounds_wrong" = some (.ref f_bounds_wrong)
  f_places_broken : Addr
  fd_places_broken : FuncData
  F_places_broken : Fun K "places_broken" "places_broken" s_places_broken f_places_broken fd_places_broken
  b_places_broken : Binds K fd_places_broken ["layout", "volume", "clause"] []
  g_places_broken : mg "places_broken" = some (.ref f_places_broken)
  f_wrong : Addr
  fd_wrong : FuncData
  F_wrong : Fun K "wrong" "wrong" s_wrong f_wrong fd_wrong
  b_wrong : Binds K fd_wrong ["layout", "volume", "clause"] []
  g_wrong : mg "wrong" = some (.ref f_wrong)
  f_mend : Addr
  fd_mend : FuncData
  F_mend : Fun K "mend" "mend" s_mend f_mend fd_mend
  b_mend : Binds K fd_mend ["layout", "volume"] []
  g_mend : mg "mend" = some (.ref f_mend)
  f_faults : Addr
  fd_faults : FuncData
  F_faults : Fun K "faults" "faults" s_faults f_faults fd_faults
  b_faults : Binds K fd_faults ["layout", "volume"] []
  g_faults : mg "faults" = some (.ref f_faults)
  f_l_cell : Addr
  fd_l_cell : FuncData
  F_l_cell : Fun K "_law_cell" "_law_cell" s_l_cell f_l_cell fd_l_cell
  b_l_cell : Binds K fd_l_cell ["_law_script", "_law_k"] []
  g_l_cell : mg "_law_cell" = some (.ref f_l_cell)
  f_l_mixed : Addr
  fd_l_mixed : FuncData
  F_l_mixed : Fun K "_law_mixed" "_law_mixed" s_l_mixed f_l_mixed fd_l_mixed
  b_l_mixed : Binds K fd_l_mixed ["_law_cell_here", "_law_k"] []
  g_l_mixed : mg "_law_mixed" = some (.ref f_l_mixed)
  f_l_layout : Addr
  fd_l_layout : FuncData
  F_l_layout : Fun K "_law_layout" "_law_layout" s_l_layout f_l_layout fd_l_layout
  b_l_layout : Binds K fd_l_layout ["_law_script"] []
  g_l_layout : mg "_law_layout" = some (.ref f_l_layout)
  f_l_number : Addr
  fd_l_number : FuncData
  F_l_number : Fun K "_law_number" "_law_number" s_l_number f_l_number fd_l_number
  b_l_number : Binds K fd_l_number ["_law_cell_here", "_law_k"] []
  g_l_number : mg "_law_number" = some (.ref f_l_number)
  f_l_any : Addr
  fd_l_any : FuncData
  F_l_any : Fun K "_law_any" "_law_any" s_l_any f_l_any fd_l_any
  b_l_any : Binds K fd_l_any ["_law_layout_here", "_law_cell_here"] []
  g_l_any : mg "_law_any" = some (.ref f_l_any)
  f_l_told : Addr
  fd_l_told : FuncData
  F_l_told : Fun K "_law_told" "_law_told" s_l_told f_l_told fd_l_told
  b_l_told : Binds K fd_l_told ["_law_layout_here", "_law_volume", "_law_clause", "_law_due"] []
  g_l_told : mg "_law_told" = some (.ref f_l_told)
  f_l_near : Addr
  fd_l_near : FuncData
  F_l_near : Fun K "_law_near" "_law_near" s_l_near f_l_near fd_l_near
  b_l_near : Binds K fd_l_near ["_law_layout_here", "_law_script"] []
  g_l_near : mg "_law_near" = some (.ref f_l_near)
  f_l_row : Addr
  fd_l_row : FuncData
  F_l_row : Fun K "_law_row" "_law_row" s_l_row f_l_row fd_l_row
  b_l_row : Binds K fd_l_row ["_law_row_here", "_law_cell_here"] []
  g_l_row : mg "_law_row" = some (.ref f_l_row)
  f_l_spoiled : Addr
  fd_l_spoiled : FuncData
  F_l_spoiled : Fun K "_law_spoiled" "_law_spoiled" s_l_spoiled f_l_spoiled fd_l_spoiled
  b_l_spoiled : Binds K fd_l_spoiled ["_law_volume", "_law_cell_here"] []
  g_l_spoiled : mg "_law_spoiled" = some (.ref f_l_spoiled)
  f_l_refused : Addr
  fd_l_refused : FuncData
  F_l_refused : Fun K "_law_refused" "_law_refused" s_l_refused f_l_refused fd_l_refused
  b_l_refused : Binds K fd_l_refused ["_law_way", "_law_layout_here", "_law_volume", "_law_at"] []
  g_l_refused : mg "_law_refused" = some (.ref f_l_refused)
  f_law : Addr
  fd_law : FuncData
  F_law : Fun K "law" "law" s_law f_law fd_law
  b_law : Binds K fd_law ["_law_script"] []
  g_law : mg "law" = some (.ref f_law)
  t_WIDE : Tok
  g_WIDE : mg "WIDE" = some (.int 8 t_WIDE)
  t_RECORDS_AT : Tok
  g_RECORDS_AT : mg "RECORDS_AT" = some (.int 10 t_RECORDS_AT)
  t_TOP : Tok
  g_TOP : mg "TOP" = some (.int 999999999999 t_TOP)
  p_CLAUSES : Addr
  g_CLAUSES : mg "CLAUSES" = some (.ref p_CLAUSES)
  o_CLAUSES : ∃ (o : Obj) (its : Array Value) (n : Nat), K.lookup p_CLAUSES = some o ∧ o.cls = .type "tuple" ∧ o.data = .seq its n ∧ its.size ≤ sizeLine ∧ Vals [.str "bounds", .str "head", .str "journal", .str "kind", .str "size", .str "piece", .str "name", .str "ring", .str "found", .str "count", .str "map"] its.toList
  xn_NoVolume : ExN K C_NoVolume f_NoVolume_init
  xs_NoVolume : ExS K C_NoVolume
  xh_NoVolume : PySem.W.hasDictIn K C_NoVolume = true
  n_NoVolume_at : NoAttr K C_NoVolume "at"
  ex_NoLayout : PySem.W.excIn K C_NoLayout bmV "ValueError.__new__" = true
  xt_NoVolume : ExT K C_NoVolume
  k_match : PySem.W.exmOne K (.ref C_NoVolume) (.ref C_VolumeError) = some true
  k_self : PySem.W.kitOne K (.ref C_NoVolume) (.ref C_NoVolume) = some true
  v_reads : PySem.W.readsIn K C_VolumeError (.type "type") = true
  v_init : PySem.W.findCls K (.ref C_VolumeError) (.type "type") "__init__" = some (.val (.builtin "ValueError.__init__"))
  v_ga : PySem.W.specialIn K (.ref C_VolumeError) "__getattribute__" = some (some (.builtin "type.__getattribute__"))
  z_len : mg "len" = none
  z_range : mg "range" = none
  z_isinstance : mg "isinstance" = none
  z_int : mg "int" = none
  z_bool : mg "bool" = none
  z_list : mg "list" = none
  z_tuple : mg "tuple" = none
  z_all : mg "all" = none
  z_enumerate : mg "enumerate" = none
  z_min : mg "min" = none
/-! ### the data -/
def lay (F E B : Int) : List (Str × V) := putF "data" (.int B) (putF "slots" (.int E) (putF "files" (.int F) []))
theorem fs : ¬ (("files" : Str) = "slots") := by decide +kernel
theorem fd : ¬ (("files" : Str) = "data") := by decide +kernel
theorem sd : ¬ (("slots" : Str) = "data") := by decide +kernel
theorem lay_files (F E B : Int) : (lay F E B).lookup ("files" : Str) = some (.int F) := by
  unfold lay
  rw [lookup_putF, if_neg fd, lookup_putF, if_neg fs, lookup_putF, if_pos rfl]
theorem lay_slots (F E B : Int) : (lay F E B).lookup ("slots" : Str) = some (.int E) := by
  unfold lay
  rw [lookup_putF, if_neg sd, lookup_putF, if_pos rfl]
theorem lay_data (F E B : Int) : (lay F E B).lookup ("data" : Str) = some (.int B) := by
  unfold lay
  rw [lookup_putF, if_pos rfl]
theorem lay_no (F E B : Int) {m : Str} (h1 : ¬ m = "files") (h2 : ¬ m = "slots") (h3 : ¬ m = "data") : (lay F E B).lookup m = none := by
  unfold lay
  rw [lookup_putF, if_neg h3, lookup_putF, if_neg h2, lookup_putF, if_neg h1]
  rfl
/-- a layout stands at p -/
def Lay (C : Addr) (H : Hp) (p : Addr) (F E B : Int) : Prop := ∃ dx, H p = some (.ins C dx (lay F E B))
structure LayOk (F E B : Int) : Prop where
  f1 : 2 ≤ F
  f2 : F ≤ 12
  e1 : 1 ≤ E
  e2 : E ≤ 8
  b1 : 2 ≤ B
  b2 : B ≤ 40
theorem Lay.same {C : Addr} {H H' : Hp} {p : Addr} {F E B : Int} (h : Lay C H p F E B) (s : Same H H') : Lay C H' p F E B := let ⟨dx, e⟩ := h; ⟨dx, s _ _ e⟩
/-! ### trees over what is tracked -/
inductive Hd (H : Hp) : Nat → V → Tr → Prop where
  | flat {n : Nat} {v : V} (h : flatV v = true) : Hd H n v (.flat v)
  | lst {n : Nat} {a : Addr} {xs : List V} {ts : List Tr} (h : H a = some (.lst xs)) (hl : xs.length = ts.length) (he : ∀ (i : Nat) x t, xs[i]? = some x → ts[i]? = some t → Hd H n x t) : Hd H (n + 1) (.ref a) (.lst ts)
  | tup {n : Nat} {a : Addr} {xs : List V} {ts : List Tr} (h : H a = some (.tup xs)) (hl : xs.length = ts.length) (he : ∀ (i : Nat) x t, xs[i]? = some x → ts[i]? = some t → Hd H n x t) : Hd H (n + 1) (.ref a) (.tup ts)
theorem Hd.same {H H' : Hp} (s : Same H H') {n : Nat} {v : V} {t : Tr} (h : Hd H n v t) : Hd H' n v t := by
  induction h with
  | flat h => exact .flat h
  | lst h hl he ih => exact .lst (s _ _ h) hl ih
  | tup h hl he ih => exact .tup (s _ _ h) hl ih
theorem Hd.holds {K : PySem.W.Frag} {H : Hp} {n : Nat} {v : V} {t : Tr} (h : Hd H n v t) : Holds K H n v t := by
  induction h with
  | flat h => exact .flat h
  | lst h hl he ih => exact .lst (SqL.of h) hl ih
  | tup h hl he ih => exact .tup (SqT.of h) hl ih
def isNumT : Tr → Bool
  | .flat (.int _) => true
  | _ => false
def isRowT : Tr → Bool
  | .lst ts => decide (ts.length = 8) && ts.all isNumT
  | _ => false
/-- where a list of rows is none of m rows -/
def formT (m : Int) (ts : List Tr) : Option Int := if (ts.length : Int) = m then (ts.findIdx? fun t => !isRowT t).map fun n => (n : Int) else some (-1)
/-! ### the promises -/
def spXInit (C : Addr) : Sp := fun vs H Q _ => ∃ (e : Addr) (k : Int), vs = [.ref e, .int k] ∧ H e = some (excN e C) ∧ k.natAbs.log2 < 1920 ∧ ∀ dx, H dx = none → dx ≠ e → Q .non (upd (upd H e (excD e C dx)) dx (.xd [("at", .int k)]))
def spInit (C N : Addr) : Sp := fun vs H Q X => ∃ (p dx : Addr) (F E B : Int), vs = [.ref p, .int F, .int E, .int B] ∧ H p = some (.ins C dx []) ∧
  (LayOk F E B → ∀ H' : Hp, H' p = some (.ins C dx (lay F E B)) → (∀ b o, H b = some o → b ≠ p → H' b = some o) → Q .non H') ∧ (¬ LayOk F E B → X (.ref N) none H)
def spAt (C : Addr) (g : Int → Int → Int → Int → Int) : Sp := fun vs H Q _ => ∃ (p : Addr) (F E B n : Int), vs = [.ref p, .int n] ∧ Lay C H p F E B ∧ Q (.int (g F E B n)) H
def spMany (C : Addr) : Sp := fun vs H Q _ => ∃ (p : Addr) (F E B : Int), vs = [.ref p] ∧ Lay C H p F E B ∧ Q (.int (10 + F + E + B)) H
def spIsNum : Sp := fun vs H Q _ => ∃ (x : V) (n : Nat) (t : Tr), vs = [x] ∧ Hd H n x t ∧ Q (.bl (isNumT t)) H
def spIsRow : Sp := fun vs H Q _ => ∃ (x : V) (n : Nat) (t : Tr), vs = [x] ∧ Hd H n x t ∧ ∀ H', Same H H' → Q (.bl (isRowT t)) H'
def spForm (C N : Addr) : Sp := fun vs H Q X => ∃ (p v : Addr) (F E B : Int) (ts : List Tr), vs = [.ref p, .ref v] ∧ Lay C H p F E B ∧ Hd H 3 (.ref v) (.lst ts) ∧ ts.length ≤ 1000 ∧
  (formT (10 + F + E + B) ts = none → ∀ H', Same H H' → Q .non H') ∧ ∀ k, formT (10 + F + E + B) ts = some k → ∀ dx H', Same H H' → H' dx = some (.xd [("at", .int k)]) → X (.ref N) (some dx) H'
def spCell (K : PySem.W.Frag) : Sp := fun vs H Q _ => ∃ (a : Addr) (ns : List Int) (k : Nat), vs = [.ref a, .int k] ∧ SqL K H a (ns.map V.int) ∧ ns.length ≤ 63 ∧ ∀ i, Q (.int i) H
def spMixed : Sp := fun vs H Q _ => ∃ c k : Int, vs = [.int c, .int k] ∧ ∀ i : Int, 0 ≤ i → i < 2147483647 → Q (.int i) H
def spNumber : Sp := fun vs H Q _ => ∃ c k : Int, vs = [.int c, .int k] ∧ ∀ i : Int, Q (.int i) H
def spLayout (K : PySem.W.Frag) (C : Addr) : Sp := fun vs H Q _ => ∃ (a : Addr) (ns : List Int), vs = [.ref a] ∧ SqL K H a (ns.map V.int) ∧ ns.length ≤ 63 ∧ ∀ (p : Addr) (F E B : Int) (H' : Hp), LayOk F E B → Lay C H' p F E B → Same H H' → Q (.ref p) H'
section
variable {P : Program} {w : World} {K : PySem.W.Frag} {mg : Str → Option Value} {base : Heap}
theorem ok_xinit (T : Tx K mg) : FnOk P w K mg base CX0 1 T.f_NoVolume_init T.fd_NoVolume_init ["self", "at"] (spXInit T.C_NoVolume) := by
  refine T.F_NoVolume_init.ok sc_NoVolume_init (fun vs H Q E h => ?_) (fun cdv A outer s H vs Q E hr h => ?_)
  · obtain ⟨e, k, rfl, _⟩ := h
    rfl
  · obtain ⟨e, k, rfl, he, hk, q⟩ := h
    refine ⟨_, pss_cons (ps_expr (pe_binit rfl T.g_VolumeError T.v_reads T.v_init T.v_ga (pa_cons (pv 0) (pa_cons (pe_fstr3 (pv 1)) pa_nil)))) (pss_one (ps_fldX (pv 0) (pv 1) rfl)), ?_⟩
    refine ⟨_, rfl, _, rfl, k, rfl, hk, fun z => ⟨e, T.C_NoVolume, T.f_NoVolume_init, _, rfl, he, T.xn_NoVolume, (by show 1 ≤ sizeLine; decide), ?_⟩⟩
    exact ⟨_, rfl, _, rfl, e, T.C_NoVolume, rfl, he, T.xs_NoVolume, T.n_NoVolume_at, fun dx h1 h2 => q dx h1 h2⟩
theorem ok_init (T : Tx K mg) : FnOk P w K mg base (CX1 P w) 1 T.f_Layout_init T.fd_Layout_init ["self", "files", "slots", "data"] (spInit T.C_Layout T.C_NoLayout) := by
  refine T.F_Layout_init.okX sc_Layout_init (fun vs H Q E h => ?_) (fun cdv A outer s H vs Q X hr h => ?_)
  · obtain ⟨p, dx, F, E, B, rfl, _⟩ := h
    rfl
  · obtain ⟨p, dx, F, E, B, rfl, hp, k, kx⟩ := h
    refine ⟨_, pss_cons (ps_if (pt_not (pt_chain op_le op_le pe_int (pv 1) pe_int)) (pss_one (ps_raise rfl T.ex_NoLayout rfl T.g_NoLayout takesN_cx (pa_cons pe_str pa_nil))) pss_nil)
      (pss_cons (ps_if (pt_not (pt_chain op_le op_le pe_int (pv 2) pe_int)) (pss_one (ps_raise rfl T.ex_NoLayout rfl T.g_NoLayout takesN_cx (pa_cons pe_str pa_nil))) pss_nil)
      (pss_cons (ps_if (pt_not (pt_chain op_le op_le pe_int (pv 3) pe_int)) (pss_one (ps_raise rfl T.ex_NoLayout rfl T.g_NoLayout takesN_cx (pa_cons pe_str pa_nil))) pss_nil)
      (pss_cons (ps_fld (pv 0) (pv 1) rfl) (pss_cons (ps_fld (pv 0) (pv 2) rfl) (pss_one (ps_fld (pv 0) (pv 3) rfl)))))), ?_⟩
    have no : ¬ LayOk F E B → [V.str "x"].length ≤ sizeLine ∧ X (.ref T.C_NoLayout) none H := fun h => ⟨by decide, kx h⟩
    refine ⟨_, rfl, _, _, rfl, rfl, _, rfl, ite2 (fun f1 => ?_) (fun f1 => ⟨_, rfl, iteT (no fun ok => f1 (by simpa using ok.f1))⟩)⟩
    refine ⟨_, _, rfl, rfl, _, rfl, ite2 (fun f2 => no fun ok => by simp [ok.f2] at f2) (fun f2 => ?_)⟩
    refine ⟨_, rfl, _, _, rfl, rfl, _, rfl, ite2 (fun e1 => ?_) (fun e1 => ⟨_, rfl, iteT (no fun ok => e1 (by simpa using ok.e1))⟩)⟩
    refine ⟨_, _, rfl, rfl, _, rfl, ite2 (fun e2 => no fun ok => by simp [ok.e2] at e2) (fun e2 => ?_)⟩
    refine ⟨_, rfl, _, _, rfl, rfl, _, rfl, ite2 (fun b1 => ?_) (fun b1 => ⟨_, rfl, iteT (no fun ok => b1 (by simpa using ok.b1))⟩)⟩
    refine ⟨_, _, rfl, rfl, _, rfl, ite2 (fun b2 => no fun ok => by simp [ok.b2] at b2) (fun b2 => ?_)⟩
    have ok : LayOk F E B := ⟨by simpa using f1, by simpa using f2, by simpa using e1, by simpa using e2, by simpa using b1, by simpa using b2⟩
    refine ⟨_, rfl, _, rfl, p, T.C_Layout, dx, _, rfl, hp, T.cl_Layout, T.n_Layout_files, (by show 0 < 1000; decide), ?_⟩
    refine ⟨_, rfl, _, rfl, p, T.C_Layout, dx, _, rfl, upd_same, T.cl_Layout, T.n_Layout_slots, Nat.lt_of_le_of_lt (length_putF _ _ _) (by decide), ?_⟩
    refine ⟨_, rfl, _, rfl, p, T.C_Layout, dx, _, rfl, upd_same, T.cl_Layout, T.n_Layout_data, Nat.lt_of_le_of_lt (length_putF _ _ _) (Nat.lt_of_le_of_lt (Nat.add_le_add_right (length_putF _ _ _) 1) (by decide)), ?_⟩
    refine k ok _ upd_same fun b o e hb => ?_
    rw [upd_ne hb, upd_ne hb, upd_ne hb]
    exact e
theorem ok_record_at (T : Tx K mg) : FnOk P w K mg base CX0 1 T.f_Layout_record_at T.fd_Layout_record_at ["self", "f"] (spAt T.C_Layout fun _ _ _ n => 10 + n) := by
  refine T.F_Layout_record_at.ok sc_Layout_record_at (fun vs H Q E h => ?_) (fun cdv A outer s H vs Q E hr h => ?_)
  · obtain ⟨p, F, E, B, n, rfl, _⟩ := h
    rfl
  · obtain ⟨p, F, E, B, n, rfl, hp, k⟩ := h
    refine ⟨_, pss_one (ps_ret (pe_op op_add (pe_glob (v := .int 10) rfl T.g_RECORDS_AT ⟨_, rfl⟩) (pv 1))), ?_⟩
    exact ⟨_, rfl, _, _, rfl, rfl, k⟩
theorem ok_names_at (T : Tx K mg) : FnOk P w K mg base CX0 2 T.f_Layout_names_at T.fd_Layout_names_at ["self", "e"] (spAt T.C_Layout fun F _ _ n => 10 + F + n) := by
  refine T.F_Layout_names_at.ok sc_Layout_names_at (fun vs H Q E h => ?_) (fun cdv A outer s H vs Q E hr h => ?_)
  · obtain ⟨p, F, E, B, n, rfl, _⟩ := h
    rfl
  · obtain ⟨p, F, E, B, n, rfl, ⟨dx, hp⟩, k⟩ := h
    refine ⟨_, pss_one (ps_ret (pe_op op_add (pe_meth (pv 0) T.cl_Layout T.m_Layout_record_at (ok_record_at T) hr T.b_Layout_record_at .nil pass0 (pa_cons (pe_fld (pv 0) rfl) pa_nil)) (pv 1))), ?_⟩
    exact ⟨_, rfl, p, dx, _, rfl, hp, lay_no _ _ _ (by decide +kernel) (by decide +kernel) (by decide +kernel), _, rfl, p, T.C_Layout, dx, _, _, rfl, hp, T.cl_Layout, T.n_Layout_files, lay_files _ _ _, p, F, E, B, F, rfl, ⟨dx, hp⟩, _, rfl, _, _, rfl, rfl, k⟩
theorem ok_data_at (T : Tx K mg) : FnOk P w K mg base CX0 3 T.f_Layout_data_at T.fd_Layout_data_at ["self", "i"] (spAt T.C_Layout fun F E _ n => 10 + F + E + n) := by
  refine T.F_Layout_data_at.ok sc_Layout_data_at (fun vs H Q E h => ?_) (fun cdv A outer s H vs Q E hr h => ?_)
  · obtain ⟨p, F, E, B, n, rfl, _⟩ := h
    rfl
  · obtain ⟨p, F, E, B, n, rfl, ⟨dx, hp⟩, k⟩ := h
    refine ⟨_, pss_one (ps_ret (pe_op op_add (pe_meth (pv 0) T.cl_Layout T.m_Layout_names_at (ok_names_at T) hr T.b_Layout_names_at .nil pass0 (pa_cons (pe_fld (pv 0) rfl) pa_nil)) (pv 1))), ?_⟩
    exact ⟨_, rfl, p, dx, _, rfl, hp, lay_no _ _ _ (by decide +kernel) (by decide +kernel) (by decide +kernel), _, rfl, p, T.C_Layout, dx, _, _, rfl, hp, T.cl_Layout, T.n_Layout_slots, lay_slots _ _ _, p, F, E, B, E, rfl, ⟨dx, hp⟩, _, rfl, _, _, rfl, rfl, k⟩
theorem ok_many (T : Tx K mg) : FnOk P w K mg base CX0 4 T.f_Layout_many T.fd_Layout_many ["self"] (spMany T.C_Layout) := by
  refine T.F_Layout_many.ok sc_Layout_many (fun vs H Q E h => ?_) (fun cdv A outer s H vs Q E hr h => ?_)
  · obtain ⟨p, F, E, B, rfl, _⟩ := h
    rfl
  · obtain ⟨p, F, E, B, rfl, ⟨dx, hp⟩, k⟩ := h
    refine ⟨_, pss_one (ps_ret (pe_meth (pv 0) T.cl_Layout T.m_Layout_data_at (ok_data_at T) hr T.b_Layout_data_at .nil pass0 (pa_cons (pe_fld (pv 0) rfl) pa_nil))), ?_⟩
    exact ⟨_, rfl, p, dx, _, rfl, hp, lay_no _ _ _ (by decide +kernel) (by decide +kernel) (by decide +kernel), _, rfl, p, T.C_Layout, dx, _, _, rfl, hp, T.cl_Layout, T.n_Layout_data, lay_data _ _ _, p, F, E, B, B, rfl, ⟨dx, hp⟩, k⟩
theorem ok_cell (T : Tx K mg) : FnOk P w K mg base CX0 1 T.f_l_cell T.fd_l_cell ["_law_script", "_law_k"] (spCell K) := by
  refine T.F_l_cell.ok sc_l_cell (fun vs H Q E h => ?_) (fun cdv A outer s H vs Q E hr h => ?_)
  · obtain ⟨a, ns, k, rfl, _⟩ := h
    rfl
  · obtain ⟨a, ns, k, rfl, hS, hl, q⟩ := h
    refine ⟨_, pss_cons (ps_if (pt_cmpR op_lt (pv 1) (pe_callB call_len_seq rfl T.z_len PySem.boot_len (pa_cons (pv 0) pa_nil)) (nomark _)) (pss_one (ps_ret (pe_ix ix_list (pv 0) (pv 1) (fun _ _ => rfl)))) pss_nil) (pss_one (ps_ret pe_int)), ?_⟩
    refine ⟨_, rfl, _, rfl, a, _, rfl, .inl hS, _, _, rfl, rfl, _, rfl, ite2 (fun h => ?_) (fun _ => q 0)⟩
    have hk : k < ns.length := by
      have := of_decide_eq_true h
      rw [List.length_map] at this
      omega
    exact ⟨_, rfl, _, rfl, a, _, k, .int ns[k], rfl, rfl, hS, atI_nat (by rw [List.getElem?_map, List.getElem?_eq_getElem hk]; rfl), q _⟩
theorem ok_mixed (T : Tx K mg) : FnOk P w K mg base CX0 1 T.f_l_mixed T.fd_l_mixed ["_law_cell_here", "_law_k"] spMixed := by
  refine T.F_l_mixed.ok sc_l_mixed (fun vs H Q E h => ?_) (fun cdv A outer s H vs Q E hr h => ?_)
  · obtain ⟨c, k, rfl, _⟩ := h
    rfl
  · obtain ⟨c, k, rfl, q⟩ := h
    refine ⟨_, pss_cons (ps_set (i := 2) sc_l_mixed.nd rfl (Or.inl rfl) (pe_op op_mod (pe_op op_mul (pe_op op_add (pe_op op_add (pv 0) (pe_op op_mul pe_int (pv 1))) pe_int) pe_int) pe_int))
      (pss_one (ps_ret (pe_op op_mod (pe_op op_mul (pv 2) (pe_op op_add (pe_op op_fdiv (pv 2) pe_int) pe_int)) pe_int))), ?_⟩
    refine ⟨_, rfl, _, rfl, _, _, rfl, rfl, .inl ⟨by decide, by decide⟩, _, _, rfl, rfl, _, _, rfl, rfl, _, _, rfl, rfl, .inr ⟨by decide, by decide⟩, _, _, rfl, rfl, (by show (0 : Int) < 2147483647; decide), ?_⟩
    have h0 := Int.emod_nonneg ((c + 7919 * k + 1) * 48271) (show (2147483647 : Int) ≠ 0 by decide)
    have h1 := Int.emod_lt_of_pos ((c + 7919 * k + 1) * 48271) (show (0 : Int) < 2147483647 by decide)
    generalize (c + 7919 * k + 1) * 48271 % 2147483647 = N at h0 h1 ⊢
    exact ⟨_, rfl, _, rfl, _, _, rfl, rfl, ⟨by decide, by decide⟩, _, _, rfl, rfl, _, _, rfl, rfl, .inl ⟨by omega, by omega⟩, _, _, rfl, rfl, (by show (0 : Int) < 2147483647; decide), q _ (Int.emod_nonneg _ (by decide)) (Int.emod_lt_of_pos _ (by decide))⟩
theorem ok_number (T : Tx K mg) : FnOk P w K mg base CX0 2 T.f_l_number T.fd_l_number ["_law_cell_here", "_law_k"] spNumber := by
  refine T.F_l_number.ok sc_l_number (fun vs H Q E h => ?_) (fun cdv A outer s H vs Q E hr h => ?_)
  · obtain ⟨c, k, rfl, _⟩ := h
    rfl
  · obtain ⟨c, k, rfl, q⟩ := h
    refine ⟨_, pss_cons (ps_set (i := 2) sc_l_number.nd rfl (Or.inl rfl) (pe_call (ok_mixed T) hr rfl T.g_l_mixed T.F_l_mixed.kp T.b_l_mixed .nil pass0 (pa_cons (pv 0) (pa_cons (pv 1) pa_nil))))
      (pss_cons (ps_if (pt_cmpR op_eq (pe_op op_mod (pv 2) pe_int) pe_int (nomark _)) (pss_one (ps_ret (pe_op op_sub pe_int (pe_op op_mod (pe_op op_mul (pe_op op_mul (pe_op op_mul (pe_op op_mul (pe_op op_fdiv (pv 2) pe_int) (pv 2)) (pv 2)) (pe_call (ok_mixed T) hr rfl T.g_l_mixed T.F_l_mixed.kp T.b_l_mixed .nil pass0 (pa_cons (pv 0) (pa_cons (pe_op op_add (pv 1) pe_int) pa_nil)))) (pv 2)) (pe_op op_pow pe_int pe_int))))) pss_nil)
      (pss_cons (ps_if (pt_cmpR op_eq (pe_op op_mod (pv 2) pe_int) pe_int (nomark _)) (pss_one (ps_ret (pe_op op_mod (pe_op op_mul (pe_op op_mul (pe_op op_mul (pe_op op_mul (pe_op op_fdiv (pv 2) pe_int) (pv 2)) (pv 2)) (pe_call (ok_mixed T) hr rfl T.g_l_mixed T.F_l_mixed.kp T.b_l_mixed .nil pass0 (pa_cons (pv 0) (pa_cons (pe_op op_add (pv 1) pe_int) pa_nil)))) (pv 2)) (pe_op op_pow pe_int pe_int)))) pss_nil)
      (pss_cons (ps_if (pt_cmpR op_lt (pe_op op_mod (pv 2) pe_int) pe_int (nomark _)) (pss_one (ps_ret (pe_op op_mod (pe_op op_mul (pe_op op_fdiv (pv 2) pe_int) (pv 2)) (pe_op op_pow pe_int pe_int)))) pss_nil)
      (pss_one (ps_ret (pe_op op_mod (pe_op op_fdiv (pv 2) pe_int) pe_int)))))), ?_⟩
    refine ⟨_, rfl, _, rfl, c, k, rfl, fun N h0 h1 => ?_⟩
    have hN : -(2 ^ 64) < N ∧ N < 2 ^ 64 := ⟨by omega, by omega⟩
    refine ⟨_, rfl, _, _, rfl, rfl, (by show (0 : Int) < 8; decide), rfl, _, rfl, ite2 (fun _ => ?_) (fun _ => ?_)⟩
    · refine ⟨_, rfl, _, _, rfl, rfl, ⟨by decide, by decide⟩, _, rfl, _, _, rfl, rfl, .inr hN, _, rfl, _, _, rfl, rfl, .inr hN, _, rfl, _, rfl, _, _, rfl, rfl, c, _, rfl, fun M g0 g1 => ?_⟩
      have hM : -(2 ^ 64) < M ∧ M < 2 ^ 64 := ⟨by omega, by omega⟩
      exact ⟨_, _, rfl, rfl, .inr hM, _, rfl, _, _, rfl, rfl, .inr hN, _, _, rfl, rfl, ⟨by decide, by decide, by decide⟩, _, _, rfl, rfl, (by show (0 : Int) < 10 ^ 40; decide), _, _, rfl, rfl, q _⟩
    refine ⟨_, rfl, _, _, rfl, rfl, (by show (0 : Int) < 8; decide), rfl, _, rfl, ite2 (fun _ => ?_) (fun _ => ?_)⟩
    · refine ⟨_, rfl, _, _, rfl, rfl, ⟨by decide, by decide⟩, _, rfl, _, _, rfl, rfl, .inr hN, _, rfl, _, _, rfl, rfl, .inr hN, _, rfl, _, rfl, _, _, rfl, rfl, c, _, rfl, fun M g0 g1 => ?_⟩
      have hM : -(2 ^ 64) < M ∧ M < 2 ^ 64 := ⟨by omega, by omega⟩
      exact ⟨_, _, rfl, rfl, .inr hM, _, rfl, _, _, rfl, rfl, .inr hN, _, _, rfl, rfl, ⟨by decide, by decide, by decide⟩, _, _, rfl, rfl, (by show (0 : Int) < 10 ^ 40; decide), q _⟩
    refine ⟨_, rfl, _, _, rfl, rfl, (by show (0 : Int) < 8; decide), _, _, rfl, rfl, _, rfl, ite2 (fun _ => ?_) (fun _ => ?_)⟩
    · exact ⟨_, rfl, _, _, rfl, rfl, ⟨by decide, by decide⟩, _, rfl, _, _, rfl, rfl, .inr hN, _, _, rfl, rfl, ⟨by decide, by decide, by decide⟩, _, _, rfl, rfl, (by show (0 : Int) < 10 ^ 12; decide), q _⟩
    exact ⟨_, rfl, _, _, rfl, rfl, ⟨by decide, by decide⟩, _, _, rfl, rfl, (by show (0 : Int) < 50; decide), q _⟩
end
end K41
set_option Elab.async false
set_option linter.all false
set_option maxRecDepth 100000
set_option maxHeartbeats 1000000
namespace K41
open PySem L2 PyProof.Rows
section
variable {P : Program} {w : World} {K : PySem.W.Frag} {mg : Str → Option Value} {base : Heap}
theorem nd1 {a : Str} : [a].Nodup := by simp
theorem take_one {α : Type} {xs : List α} {i : Nat} {x : α} (h : xs[i]? = some x) : xs.take (i + 1) = xs.take i ++ [x] := by
  rw [List.take_add_one, h]; rfl
/-! ### what is a row -/
theorem ok_is_number (T : Tx K mg) : FnOk P w K mg base CX0 1 T.f_is_number T.fd_is_number ["value"] spIsNum := by
  refine T.F_is_number.ok sc_is_number (fun vs H Q E h => ?_) (fun cdv A outer s H vs Q E hr h => ?_)
  · obtain ⟨x, n, t, rfl, _⟩ := h
    rfl
  · obtain ⟨x, n, t, rfl, hx, k⟩ := h
    refine ⟨_, pss_one (ps_ret (pe_and (pe_callB call_isT rfl T.z_isinstance (by kernel_rfl) (pa_cons (pv 0) (pa_cons (pe_bltn (v := .ty "int") rfl T.z_int (by kernel_rfl) rfl) pa_nil)))
      (pe_one (pe_not (pe_callB call_isT rfl T.z_isinstance (by kernel_rfl) (pa_cons (pv 0) (pa_cons (pe_bltn (v := .ty "bool") rfl T.z_bool (by kernel_rfl) rfl) pa_nil))))))), ?_⟩
    cases hx with
    | flat h =>
      cases x with
      | non => exact ⟨_, rfl, _, _, _, false, rfl, TyOf.non, rfl, false, rfl, iteF k⟩
      | bl b => exact ⟨_, rfl, _, _, _, true, rfl, TyOf.bl b, rfl, true, rfl, iteT ⟨_, rfl, _, _, _, true, rfl, TyOf.bl b, rfl, true, rfl, k⟩⟩
      | int i => exact ⟨_, rfl, _, _, _, true, rfl, TyOf.int i, rfl, true, rfl, iteT ⟨_, rfl, _, _, _, false, rfl, TyOf.int i, rfl, false, rfl, k⟩⟩
      | str z => exact ⟨_, rfl, _, _, _, false, rfl, TyOf.str z, rfl, false, rfl, iteF k⟩
      | byt _ => simp [flatV] at h
      | flt _ => simp [flatV] at h
      | ref _ => simp [flatV] at h
      | ty _ => simp [flatV] at h
    | lst h _ _ => exact ⟨_, rfl, _, _, _, false, rfl, TyOf.lst h, rfl, false, rfl, iteF k⟩
    | tup h _ _ => exact ⟨_, rfl, _, _, _, false, rfl, TyOf.tup h, rfl, false, rfl, iteF k⟩
theorem ok_is_row (T : Tx K mg) : FnOk P w K mg base CX0 2 T.f_is_row T.fd_is_row ["value"] spIsRow := by
  refine T.F_is_row.ok sc_is_row (fun vs H Q E h => ?_) (fun cdv A outer s H vs Q E hr h => ?_)
  · obtain ⟨x, n, t, rfl, _⟩ := h
    rfl
  · obtain ⟨x, n, t, rfl, hx, k⟩ := h
    refine ⟨_, pss_cons (ps_if (PW.pt (pw_or (pt_not (pt_val (pe_callB call_isT rfl T.z_isinstance (by kernel_rfl) (pa_cons (pv 0) (pa_cons (pe_bltn (v := .ty "list") rfl T.z_list (by kernel_rfl) rfl) pa_nil)))))
        (pw_or1 (pt_cmpR op_ne (pe_callB call_len_seq rfl T.z_len PySem.boot_len (pa_cons (pv 0) pa_nil)) (pe_glob (v := .int 8) rfl T.g_WIDE ⟨_, rfl⟩) (nomark _))))) (pss_one (ps_ret pe_bl)) pss_nil)
      (pss_one (ps_ret (pe_callB (call_allL rfl) rfl T.z_all boot_all (pa_cons (pe_comp (N' := ["number"]) (cap := [none]) rfl (compOk_of (by kernel_rfl)) (pi_list (pv 0))
        (fun cells C s₀ H₀ fp pins => ⟨pg_name (i := 0) nd1 rfl (Or.inl rfl) (.inr rfl), pifs_nil, pe_call (ok_is_number T) hr rfl T.g_is_number T.F_is_number.kp T.b_is_number .nil pass0 (pa_cons (pv 0) pa_nil)⟩)) pa_nil)))), ?_⟩
    have k0 : Q (.bl (isRowT t)) H := k H (Same.refl H)
    cases hx with
    | flat h =>
      cases x with
      | non => exact ⟨_, rfl, _, _, _, false, rfl, TyOf.non, rfl, false, rfl, iteT k0⟩
      | bl b => exact ⟨_, rfl, _, _, _, false, rfl, TyOf.bl b, rfl, false, rfl, iteT k0⟩
      | int i => exact ⟨_, rfl, _, _, _, false, rfl, TyOf.int i, rfl, false, rfl, iteT k0⟩
      | str z => exact ⟨_, rfl, _, _, _, false, rfl, TyOf.str z, rfl, false, rfl, iteT k0⟩
      | byt _ => simp [flatV] at h
      | flt _ => simp [flatV] at h
      | ref _ => simp [flatV] at h
      | ty _ => simp [flatV] at h
    | tup h _ _ => exact ⟨_, rfl, _, _, _, false, rfl, TyOf.tup h, rfl, false, rfl, iteT k0⟩
    | @lst m a xs ts ha hl he =>
      refine ⟨_, rfl, _, _, _, true, rfl, TyOf.lst ha, rfl, true, rfl, iteF ?_⟩
      refine ⟨_, rfl, a, _, rfl, .inl (SqL.of ha), rfl, _, rfl, ?_⟩
      by_cases h8 : xs.length = 8
      · refine iteNS (by rw [h8]; rfl) ?_
        refine ⟨_, rfl, a, rfl, ⟨_, SqL.of ha⟩, ?_⟩
        refine comp_list (cap := [none]) (K := K) (a := a) (xs := xs) (small_len (by rw [h8]; decide)) (fun i ys σ H' => i ≤ xs.length ∧ ys = ((ts.take i).map isNumT).map V.bl ∧ σ.length = 1 ∧ H' = H)
          (by exact ⟨Nat.zero_le _, rfl, rfl, rfl⟩) (fun i ys σ H' ⟨h1, h2, h3, h4⟩ => ⟨h1, by rw [h2]; simp; omega, by rw [h4]; exact SqL.of ha⟩) ?_ ?_
        · rintro i x ys σ H' hx ⟨h1, rfl, h3, rfl⟩
          have hi : i < xs.length := (List.getElem?_eq_some_iff.mp hx).1
          have et : ts[i]? = some ts[i] := List.getElem?_eq_getElem (by omega)
          match σ, h3 with
          | [s1], _ =>
            refine ⟨_, rfl, x, m, ts[i], rfl, he i x _ hx et, hi, ?_, rfl, rfl⟩
            rw [take_one et, List.map_append, List.map_append]
            rfl
        · rintro ys σ H' ⟨h1, rfl, h3, rfl⟩ D hD
          refine ⟨D, ts.map isNumT, rfl, SqL.of (by rw [upd_same, hl, List.take_length]), ?_⟩
          have : (ts.map isNumT).all id = isRowT (.lst ts) := by
            rw [List.all_map]
            show _ = (decide (ts.length = 8) && ts.all isNumT)
            rw [decide_eq_true (by omega : ts.length = 8), Bool.true_and]
            rfl
          rw [this]
          exact k _ (Same.upd0 hD)
      · refine iteNF (by intro z; injection z with z; omega) ?_
        have : isRowT (.lst ts) = false := by
          show (decide (ts.length = 8) && _) = false
          rw [decide_eq_false (by omega), Bool.false_and]
        rw [this] at k0
        exact k0
theorem raised {H H1 : Hp} {ea dx : Addr} {n d x : HO} (s : Same H H1) (he : H1 ea = none) (hd : upd H1 ea n dx = none) (ne : dx ≠ ea) : Same H (drop (upd (upd (upd H1 ea n) ea d) dx x) ea) := fun b o e => by
  have e1 := s b o e
  have b1 : b ≠ ea := ne_of_none e1 he
  have e2 : upd H1 ea n b = some o := by rw [upd_ne b1]; exact e1
  have b2 : b ≠ dx := ne_of_none e2 hd
  rw [drop_ne b1, upd_ne b2, upd_ne b1]
  exact e2
theorem ok_check_form (T : Tx K mg) : FnOk P w K mg base (CX1 P w) 5 T.f_check_form T.fd_check_form ["layout", "volume"] (spForm T.C_Layout T.C_NoVolume) := by
  refine T.F_check_form.okX sc_check_form (fun vs H Q E h => ?_) (fun cdv A outer s H vs Q X hr h => ?_)
  · obtain ⟨p, v, F, E, B, ts, rfl, _⟩ := h
    rfl
  · obtain ⟨p, v, F, E, B, ts, rfl, ⟨dx, hp⟩, hV, hn, k, kx⟩ := h
    have r2 : Room 2 _ := hr.mono (by decide)
    have r4 : Room 4 _ := hr.mono (by decide)
    refine ⟨_, pss_cons (ps_if (pt_cmpR op_ne (pe_callB call_len_seq rfl T.z_len PySem.boot_len (pa_cons (pv 1) pa_nil)) (pe_meth0 (pv 0) T.cl_Layout T.m_Layout_many (ok_many T) r4 T.b_Layout_many .nil pass0) (nomark _))
          (pss_one (ps_raiseI rfl T.xn_NoVolume (ok_xinit T) r2 T.b_NoVolume_init rfl T.g_NoVolume takesN_cx (pa_cons (pe_un un_neg pe_int) pa_nil))) pss_nil)
      (pss_one (ps_for PassesOwn.leaving rfl (pi_enum rfl T.z_enumerate (pa_cons (pv 1) pa_nil)) (pg_tup rfl (pgs_cons (pg_name (i := 2) sc_check_form.nd rfl (Or.inl rfl)) (pgs_cons (pg_name (i := 3) sc_check_form.nd rfl (Or.inl rfl)) pgs_nil)))
        (pss_one (ps_if (pt_not (pt_val (pe_call (ok_is_row T) r2 rfl T.g_is_row T.F_is_row.kp T.b_is_row .nil pass0 (pa_cons (pv 3) pa_nil))))
          (pss_one (ps_raiseI rfl T.xn_NoVolume (ok_xinit T) r2 T.b_NoVolume_init rfl T.g_NoVolume takesN_cx (pa_cons (pv 2) pa_nil))) pss_nil)))), ?_⟩
    cases hV with
    | @lst m a xs ts hv hl he =>
    refine ⟨_, rfl, v, _, rfl, .inl (SqL.of hv), _, rfl, p, dx, _, rfl, hp, lay_no _ _ _ (by decide +kernel) (by decide +kernel) (by decide +kernel), p, F, E, B, rfl, ⟨dx, hp⟩, rfl, _, rfl, ?_⟩
    by_cases hm : (ts.length : Int) = 10 + F + E + B
    · refine iteNS (by rw [hl, hm]) ?_
      have fT : formT (10 + F + E + B) ts = (ts.findIdx? fun t => !isRowT t).map fun n => (n : Int) := if_pos hm
      refine ⟨_, rfl, v, rfl, ⟨_, SqL.of hv⟩, for_enum (K := K) (a := v) (lo := 0) (xs := xs) (fun i σ H' => ∃ s2 s3, σ = [some (.ref p), some (.ref v), s2, s3] ∧ Same H H' ∧ ∀ (j : Nat) t, j < i → ts[j]? = some t → isRowT t = true)
        ⟨none, none, rfl, Same.refl H, fun j t h => by omega⟩ (fun i σ H' _ ⟨_, _, _, s1, _⟩ => SqL.of (s1 _ _ hv)) ?_ ?_⟩
      · rintro i x σ H' q hx ⟨s2, s3, rfl, s1, all⟩ hq
        have hi : i < ts.length := by rw [← hl]; exact (List.getElem?_eq_some_iff.mp hx).1
        have et : ts[i]? = some ts[i] := List.getElem?_eq_getElem hi
        refine ⟨q, _, rfl, SqT.of upd_same, rfl, _, _, rfl, _, _, rfl, rfl, ?_⟩
        refine ⟨_, rfl, x, _, ts[i], rfl, ((he i x _ hx et).same s1).same (Same.upd0 hq), fun H2 t2 => ⟨_, rfl, ?_⟩⟩
        have sH : Same H H2 := (s1.upd hq).trans t2
        cases eR : isRowT ts[i] with
        | true => exact iteF ⟨_, _, rfl, sH, fun j t hj ej => by
            by_cases z : j < i
            · exact all j t z ej
            · have : j = i := by omega
              subst this
              rw [et] at ej
              cases ej
              exact eR⟩
        | false =>
          refine iteT ⟨_, rfl, (by show 1 ≤ sizeLine; decide), fun ea hea => ⟨ea, _, rfl, upd_same, ?_, fun d hd ne => ⟨rfl, d, ?_, ?_⟩⟩⟩
          · show ((0 : Int) + (i : Int)).natAbs.log2 < 1920
            have := Nat.log2_le_self ((0 : Int) + (i : Int)).natAbs
            omega
          · rw [upd_ne (Ne.symm ne), upd_same]
          · refine kx _ ?_ d _ (raised sH hea hd ne) (by rw [drop_ne ne, upd_same])
            rw [fT]
            have : ts.findIdx? (fun t => !isRowT t) = some i := by
              rw [List.findIdx?_eq_some_iff_getElem]
              refine ⟨hi, by simp [eR], fun j hj => ?_⟩
              simp [all j _ hj (List.getElem?_eq_getElem (by omega))]
            rw [this]
            simp
      · rintro σ H' ⟨s2, s3, rfl, s1, all⟩
        refine k ?_ H' s1
        rw [fT]
        have : ts.findIdx? (fun t => !isRowT t) = none := by
          rw [List.findIdx?_eq_none_iff]
          intro t ht
          obtain ⟨j, hj⟩ := List.getElem?_of_mem ht
          have hj' : j < ts.length := (List.getElem?_eq_some_iff.mp hj).1
          simp [all j t (by omega) hj]
        rw [this]
        rfl
    · refine iteNF (by rw [hl]; intro z; injection z with z; exact hm z) ?_
      refine ⟨_, rfl, (by show 1 ≤ sizeLine; decide), fun ea hea => ⟨ea, _, rfl, upd_same, (by decide), fun d hd ne => ⟨rfl, d, ?_, ?_⟩⟩⟩
      · rw [upd_ne (Ne.symm ne), upd_same]
      · exact kx _ (if_neg hm) d _ (raised (Same.refl H) hea hd ne) (by rw [drop_ne ne, upd_same])
theorem ok_layout (T : Tx K mg) : FnOk P w K mg base CX0 3 T.f_l_layout T.fd_l_layout ["_law_script"] (spLayout K T.C_Layout) := by
  refine T.F_l_layout.ok sc_l_layout (fun vs H Q E h => ?_) (fun cdv A outer s H vs Q E hr h => ?_)
  · obtain ⟨a, ns, rfl, _⟩ := h
    rfl
  · obtain ⟨a, ns, rfl, hS, hl, k⟩ := h
    have hr1 : Room 1 _ := hr.mono (by decide)
    have hr2 : Room 2 _ := hr.mono (by decide)
    refine ⟨_, pss_cons (ps_set (i := 1) sc_l_layout.nd rfl (Or.inl rfl) (pe_op op_add pe_int (pe_op op_mod (pe_call (ok_mixed T) hr1 rfl T.g_l_mixed T.F_l_mixed.kp T.b_l_mixed .nil pass0 (pa_cons (pe_call (ok_cell T) hr1 rfl T.g_l_cell T.F_l_cell.kp T.b_l_cell .nil pass0 (pa_cons (pv 0) (pa_cons pe_int pa_nil))) (pa_cons pe_int pa_nil))) pe_int)))
      (pss_cons (ps_set (i := 2) sc_l_layout.nd rfl (Or.inl rfl) (pe_op op_add pe_int (pe_op op_mod (pe_call (ok_mixed T) hr1 rfl T.g_l_mixed T.F_l_mixed.kp T.b_l_mixed .nil pass0 (pa_cons (pe_call (ok_cell T) hr1 rfl T.g_l_cell T.F_l_cell.kp T.b_l_cell .nil pass0 (pa_cons (pv 0) (pa_cons pe_int pa_nil))) (pa_cons pe_int pa_nil))) pe_int)))
      (pss_cons (ps_set (i := 3) sc_l_layout.nd rfl (Or.inl rfl) (pe_op op_add pe_int (pe_op op_mod (pe_call (ok_mixed T) hr1 rfl T.g_l_mixed T.F_l_mixed.kp T.b_l_mixed .nil pass0 (pa_cons (pe_call (ok_cell T) hr1 rfl T.g_l_cell T.F_l_cell.kp T.b_l_cell .nil pass0 (pa_cons (pv 0) (pa_cons pe_int pa_nil))) (pa_cons pe_int pa_nil))) pe_int)))
      (pss_one (ps_ret (pe_makeX T.mk_Layout (ok_init T) hr2 rfl T.g_Layout T.b_Layout_init .nil takes0 (pa_cons (pv 1) (pa_cons (pv 2) (pa_cons (pv 3) pa_nil)))))))), ?_⟩
    refine ⟨_, rfl, a, ns, 0, rfl, hS, hl, fun c1 => ⟨c1, 1, rfl, fun m1 _ _ => ⟨_, _, rfl, rfl, (by show (0 : Int) < 11; decide), _, _, rfl, rfl, ?_⟩⟩⟩
    refine ⟨_, rfl, a, ns, 0, rfl, hS, hl, fun c2 => ⟨c2, 2, rfl, fun m2 _ _ => ⟨_, _, rfl, rfl, (by show (0 : Int) < 8; decide), _, _, rfl, rfl, ?_⟩⟩⟩
    refine ⟨_, rfl, a, ns, 0, rfl, hS, hl, fun c3 => ⟨c3, 3, rfl, fun m3 _ _ => ⟨_, _, rfl, rfl, (by show (0 : Int) < 39; decide), _, _, rfl, rfl, ?_⟩⟩⟩
    have ok : LayOk (2 + m1 % 11) (1 + m2 % 8) (2 + m3 % 39) := ⟨by omega, by omega, by omega, by omega, by omega, by omega⟩
    refine ⟨_, rfl, _, rfl, _, rfl, fun x dx nx ndx ne => ⟨x, dx, _, _, _, rfl, upd_same, fun _ H' e1 kp => ⟨rfl, k x _ _ _ H' ok ⟨dx, e1⟩ fun b o e => kp b o ?_ (ne_of_none e nx)⟩, fun no => absurd ok no⟩⟩
    rw [upd_ne (ne_of_none e nx), upd_ne (ne_of_none e ndx)]
    exact e
end
end K41
set_option Elab.async false
set_option linter.all false
set_option maxRecDepth 100000
set_option maxHeartbeats 1000000
namespace K41
open PySem L2 PyProof.Rows
section
variable {P : Program} {w : World} {K : PySem.W.Frag} {mg : Str → Option Value} {base : Heap}
theorem Vol.rowAt {H : Hp} {v : Addr} {as : List Addr} {rows : List (List Int)} (x : Vol H v as rows) {i : Nat} {r : List Int} (e : rows[i]? = some r) : ∃ a, as[i]? = some a ∧ atI (as.map V.ref) (i : Int) = some (.ref a) ∧ H a = some (.lst (r.map V.int)) := by
  have hi : i < as.length := by rw [x.len]; exact (List.getElem?_eq_some_iff.mp e).1
  have ea : as[i]? = some as[i] := List.getElem?_eq_getElem hi
  exact ⟨as[i], ea, atI_nat (by rw [List.getElem?_map, ea]; rfl), x.row i _ r ea e⟩
theorem Lay.lst {C : Addr} {H : Hp} {p a : Addr} {F E B : Int} {zs : List V} {o : HO} (h : Lay C H p F E B) (ha : H a = some (.lst zs)) : Lay C (upd H a o) p F E B := by
  obtain ⟨dx, e⟩ := h
  exact ⟨dx, by rw [upd_ne (fun z => by rw [z, ha] at e; cases e)]; exact e⟩
/-- the volume that the mender's words are asked of -/
def VolOk (C : Addr) (H : Hp) (p v : Addr) (F E B : Int) (as : List Addr) (rows : List (List Int)) : Prop := Lay C H p F E B ∧ LayOk F E B ∧ Vol H v as rows ∧ (rows.length : Int) = 10 + F + E + B ∧ ∀ r ∈ rows, r.length = 8
theorem VolOk.same {C : Addr} {H H' : Hp} {p v : Addr} {F E B : Int} {as : List Addr} {rows : List (List Int)} (h : VolOk C H p v F E B as rows) (s : Same H H') : VolOk C H' p v F E B as rows := ⟨h.1.same s, h.2.1, h.2.2.1.same s, h.2.2.2⟩
/-- a row becomes another list -/
theorem VolOk.set {C : Addr} {H : Hp} {p v q : Addr} {F E B : Int} {as : List Addr} {rows : List (List Int)} {i : Nat} {r : List Int} (h : VolOk C H p v F E B as rows) (hq : H q = some (.lst (r.map V.int))) (nq : q ∉ as) (nv : q ≠ v) (l8 : r.length = 8) :
    VolOk C (upd H v (.lst ((as.map V.ref).set i (.ref q)))) p v F E B (as.set i q) (rows.set i r) := by
  refine ⟨h.1.lst h.2.2.1.top, h.2.1, h.2.2.1.set hq nq nv, by rw [List.length_set]; exact h.2.2.2.1, fun x hx => ?_⟩
  rcases List.mem_or_eq_of_mem_set hx with hx | hx
  · exact h.2.2.2.2 x hx
  · rw [hx]; exact l8
/-- a number of a row becomes another one -/
theorem VolOk.put {C : Addr} {H : Hp} {p v a : Addr} {F E B : Int} {as : List Addr} {rows : List (List Int)} {i j : Nat} {r : List Int} {n : Int} (h : VolOk C H p v F E B as rows) (ha : as[i]? = some a) (hr : rows[i]? = some r) :
    VolOk C (upd H a (.lst ((r.map V.int).set j (.int n)))) p v F E B as (rows.set i (r.set j n)) := by
  refine ⟨h.1.lst (h.2.2.1.row i a r ha hr), h.2.1, h.2.2.1.put ha hr, by rw [List.length_set]; exact h.2.2.2.1, fun x hx => ?_⟩
  rcases List.mem_or_eq_of_mem_set hx with hx | hx
  · exact h.2.2.2.2 x hx
  · rw [hx, List.length_set]; exact h.2.2.2.2 r (List.mem_of_getElem? hr)
theorem at_mem {ns : List Int} {i : Int} (h0 : 0 ≤ i) (h1 : i < ns.length) : ∃ k ∈ ns, atI (ns.map V.int) i = some (.int k) := by
  obtain ⟨j, rfl⟩ := Int.eq_ofNat_of_zero_le h0
  have hj : j < ns.length := by omega
  refine ⟨ns.getD j 0, ?_, getD_at hj⟩
  rw [List.getD_eq_getElem?_getD, List.getElem?_eq_getElem hj]
  exact List.getElem_mem hj
def spAny (C : Addr) : Sp := fun vs H Q _ => ∃ (p : Addr) (F E B c : Int), vs = [.ref p, .int c] ∧ Lay C H p F E B ∧ LayOk F E B ∧ ∀ (v : Addr) (as : List Addr) (rows : List (List Int)) (H' : Hp), Same H H' → H v = none → (∀ b ∈ as, H b = none) → Vol H' v as rows → (rows.length : Int) = 10 + F + E + B → (∀ r ∈ rows, r.length = 8) → Q (.ref v) H'
theorem ok_any (T : Tx K mg) : FnOk P w K mg base CX0 3 T.f_l_any T.fd_l_any ["_law_layout_here", "_law_cell_here"] (spAny T.C_Layout) := by
  refine T.F_l_any.ok sc_l_any (fun vs H Q E h => ?_) (fun cdv A outer s H vs Q E hr h => ?_)
  · obtain ⟨p, F, E, B, c, rfl, _⟩ := h
    rfl
  · obtain ⟨p, F, E, B, c, rfl, ⟨dx, hp⟩, ok, k⟩ := h
    have hr2 : Room 2 _ := hr.mono (by decide)
    refine ⟨_, pss_cons (ps_set (i := 2) sc_l_any.nd rfl (Or.inl rfl) (pe_op op_add (pe_op op_add (pe_op op_add pe_int (pe_fld (pv 0) rfl)) (pe_fld (pv 0) rfl)) (pe_fld (pv 0) rfl)))
      (pss_one (ps_ret (pe_comp (N' := ["_law_block", "_law_cell_here"]) (cap := [none, some 1]) rfl (compOk_of (by kernel_rfl)) (pi_range1 rfl T.z_range (pa_cons (pv 2) pa_nil))
        (fun cells C s₀ H₀ fp pins => ⟨pg_name (i := 0) (ndp2 (by decide +kernel)) rfl (Or.inr rfl) (.inl rfl), pifs_nil,
          pe_comp (N' := ["_law_place", "_law_block", "_law_cell_here"]) (cap := [none, some 0, some 1]) rfl (compOk_of (by kernel_rfl)) (pi_range1 rfl T.z_range (pa_cons pe_int pa_nil))
            (fun cells C s₀ H₀ fp pins => ⟨pg_name (i := 0) (ndp3 (by decide +kernel) (by decide +kernel) (by decide +kernel)) rfl (Or.inl rfl) (.inr rfl), pifs_nil,
              pe_call (ok_number T) hr2 rfl T.g_l_number T.F_l_number.kp T.b_l_number .nil pass0 (pa_cons (pv 2) (pa_cons (pe_op op_add (pe_op op_mul pe_int (pv 1)) (pv 0)) pa_nil))⟩)⟩)))), ?_⟩
    have f1 := ok.f1; have f2 := ok.f2; have e1 := ok.e1; have e2 := ok.e2; have b1 := ok.b1; have b2 := ok.b2
    have hN : (10 + F + E + B).toNat ≤ 1000 := by omega
    refine ⟨_, rfl, p, T.C_Layout, dx, _, _, rfl, hp, T.cl_Layout, T.n_Layout_files, lay_files _ _ _, _, _, rfl, rfl, _, rfl, p, T.C_Layout, dx, _, _, rfl, hp, T.cl_Layout, T.n_Layout_slots, lay_slots _ _ _, _, _, rfl, rfl, _, rfl, p, T.C_Layout, dx, _, _, rfl, hp, T.cl_Layout, T.n_Layout_data, lay_data _ _ _, _, _, rfl, rfl, ?_⟩
    refine ⟨_, rfl, (10 + F + E + B), rfl, by omega, by omega, ?_⟩
    refine comp_range (cap := [none, some 1]) (σ := [some (.ref p), some (.int c), some (.int (10 + F + E + B))]) (small_len hN) (fun i ys σ H' => ∃ (as : List Addr) (rows : List (List Int)), ys = as.map V.ref ∧ as.length = i ∧ i ≤ (10 + F + E + B).toNat ∧ (∃ s0, σ = [s0, some (.int c)]) ∧ Rows H H' as rows ∧ ∀ r ∈ rows, r.length = 8)
      (by exact ⟨[], [], rfl, rfl, Nat.zero_le _, ⟨none, rfl⟩, Rows.nil, fun _ h => (nomatch h)⟩) (fun i ys σ H' ⟨as, rows, h1, h2, h3, _⟩ => ⟨h3, by rw [h1]; simp [h2]⟩) ?_ ?_
    · rintro i ys σ H' hi ⟨as, rows, rfl, h2, h3, ⟨s0, rfl⟩, hR, h8⟩
      refine ⟨(8 : Int), rfl, by decide, by decide, ?_⟩
      refine comp_range (cap := [none, some 0, some 1]) (σ := [some (.int (0 + i)), some (.int c)]) (small_len (n := 8) (by decide)) (fun j zs σ' H2 => ∃ ns : List Int, zs = ns.map V.int ∧ ns.length = j ∧ j ≤ 8 ∧ (∃ s0, σ' = [s0, some (.int (0 + i)), some (.int c)]) ∧ H2 = H')
        (by exact ⟨[], rfl, rfl, Nat.zero_le _, ⟨none, rfl⟩, rfl⟩) (fun j zs σ' H2 ⟨ns, h1, h2, h3, _⟩ => ⟨h3, by rw [h1]; simp [h2]⟩) ?_ ?_
      · rintro j zs σ' H2 hj ⟨ns, rfl, g2, g3, ⟨s0', rfl⟩, rfl⟩
        refine ⟨_, rfl, _, rfl, _, _, rfl, rfl, .inl ⟨by decide, by decide⟩, _, rfl, _, _, rfl, rfl, c, _, rfl, fun z => ⟨ns ++ [z], by simp, by simp [g2], hj, ⟨_, rfl⟩, rfl⟩⟩
      · rintro zs σ' H2 ⟨ns, rfl, g2, g3, ⟨s0', rfl⟩, rfl⟩ D hD
        refine ⟨as ++ [D], rows ++ [ns], by simp, by simp [h2], hi, ⟨_, rfl⟩, hR.add (Same.upd0 hD) hD upd_same, fun r hr => ?_⟩
        rcases List.mem_append.mp hr with hr | hr
        · exact h8 r hr
        · have : r = ns := by simpa using hr
          rw [this]; exact g2
    · rintro ys σ H' ⟨as, rows, rfl, h2, h3, ⟨s0, rfl⟩, hR, h8⟩ v hv
      exact k v as rows _ (hR.same.upd hv) (hR.same.free hv) hR.new (hR.vol hv) (by have := hR.len; omega) h8
/-! ### a good volume -/
def spFormG (C : Addr) : Sp := fun vs H Q _ => ∃ (p v : Addr) (F E B : Int) (as : List Addr) (rows : List (List Int)), vs = [.ref p, .ref v] ∧ VolOk C H p v F E B as rows ∧ ∀ H', Same H H' → Q .non H'
theorem trIs0 (ns : List Int) : ∀ (i : Nat) (x : V) (t : Tr), (ns.map V.int)[i]? = some x → (ns.map fun i => Tr.flat (.int i))[i]? = some t → ∃ j, x = .int j ∧ t = .flat (.int j) := fun i x t e1 e2 => by
  rw [List.getElem?_map] at e1 e2
  cases e : ns[i]? with
  | none => rw [e] at e1; cases e1
  | some j => rw [e] at e1 e2; cases e1; cases e2; exact ⟨j, rfl, rfl⟩
theorem Hd.ints {G : Hp} {n : Nat} {a : Addr} {ns : List Int} (h : G a = some (.lst (ns.map V.int))) : Hd G (n + 1) (.ref a) (trI ns) :=
  .lst h (by simp) fun i x t e1 e2 => by
    obtain ⟨j, rfl, rfl⟩ := trIs0 ns i x t e1 e2
    exact .flat rfl
theorem all_ints (ns : List Int) : (ns.map fun i => Tr.flat (.int i)).all isNumT = true := by
  rw [List.all_eq_true]
  intro t h
  obtain ⟨i, _, rfl⟩ := List.mem_map.mp h
  rfl
theorem row_ints (ns : List Int) : isRowT (trI ns) = decide (ns.length = 8) := by
  show (decide ((ns.map fun i => Tr.flat (.int i)).length = 8) && _) = _
  rw [all_ints, Bool.and_true, List.length_map]
theorem ok_check_formG (T : Tx K mg) : FnOk P w K mg base CX0 5 T.f_check_form T.fd_check_form ["layout", "volume"] (spFormG T.C_Layout) := by
  refine T.F_check_form.ok sc_check_form (fun vs H Q E h => ?_) (fun cdv A outer s H vs Q E hr h => ?_)
  · obtain ⟨p, v, F, E, B, as, rows, rfl, _⟩ := h
    rfl
  · obtain ⟨p, v, F, E, B, as, rows, rfl, ⟨⟨dx, hp⟩, ok, hV, hn, h8⟩, k⟩ := h
    refine ⟨_, pss_cons (ps_if (pt_cmpR op_ne (pe_callB call_len_seq rfl T.z_len PySem.boot_len (pa_cons (pv 1) pa_nil)) (pe_meth0 (pv 0) T.cl_Layout T.m_Layout_many (ok_many T) hr T.b_Layout_many .nil pass0) (nomark _)) pss_never pss_nil)
      (pss_one (ps_for PassesOwn.never rfl (pi_enum rfl T.z_enumerate (pa_cons (pv 1) pa_nil)) (pg_tup rfl (pgs_cons (pg_name (i := 2) sc_check_form.nd rfl (Or.inl rfl)) (pgs_cons (pg_name (i := 3) sc_check_form.nd rfl (Or.inl rfl)) pgs_nil)))
        (pss_one (ps_if (pt_not (pt_val (pe_call (ok_is_row T) (hr.mono (by decide)) rfl T.g_is_row T.F_is_row.kp T.b_is_row .nil pass0 (pa_cons (pv 3) pa_nil)))) pss_never pss_nil)))), ?_⟩
    refine ⟨_, rfl, v, _, rfl, .inl (SqL.of hV.top), _, rfl, p, dx, _, rfl, hp, lay_no _ _ _ (by decide +kernel) (by decide +kernel) (by decide +kernel), p, F, E, B, rfl, ⟨dx, hp⟩, rfl, _, rfl, ?_⟩
    refine iteNS (by rw [List.length_map, hV.len, hn]) ?_
    refine ⟨_, rfl, v, rfl, ⟨_, SqL.of hV.top⟩, for_enum (K := K) (a := v) (lo := 0) (xs := as.map V.ref) (fun i σ H' => ∃ s2 s3, σ = [some (.ref p), some (.ref v), s2, s3] ∧ Same H H')
      ⟨none, none, rfl, Same.refl H⟩ (fun i σ H' _ ⟨_, _, _, s1⟩ => SqL.of (s1 _ _ hV.top)) ?_ ?_⟩
    · rintro i x σ H' q hx ⟨s2, s3, rfl, s1⟩ hq
      rw [List.getElem?_map] at hx
      cases e : as[i]? with
      | none => rw [e] at hx; cases hx
      | some a =>
        rw [e] at hx
        cases hx
        have hi : i < rows.length := by rw [← hV.len]; exact (List.getElem?_eq_some_iff.mp e).1
        have er : rows[i]? = some rows[i] := List.getElem?_eq_getElem hi
        have ha := s1 _ _ (hV.row i a rows[i] e er)
        have l8 := h8 _ (List.getElem_mem hi)
        refine ⟨q, _, rfl, SqT.of upd_same, rfl, _, _, rfl, _, _, rfl, rfl, ?_⟩
        refine ⟨_, rfl, .ref a, 2, trI rows[i], rfl, .ints (by rw [upd_ne (ne_of_none ha hq)]; exact ha), fun H2 s2' => ?_⟩
        rw [row_ints, l8]
        exact ⟨true, rfl, iteF ⟨_, _, rfl, (s1.upd hq).trans s2'⟩⟩
    · rintro σ H' ⟨s2, s3, rfl, s1⟩
      exact k H' s1
/-! ### bounds_wrong -/
abbrev bad (n : Int) : Prop := n < 0 ∨ 1000000000000 ≤ n
def bRow (b : Int) (r : List Int) (n : Nat) : List T3 := (List.range n).filterMap fun p => if bad (r.getD p 0) then some (b, ((p : Nat) : Int), 0) else none
theorem bRow_succ (b : Int) (r : List Int) (n : Nat) : bRow b r (n + 1) = bRow b r n ++ (if bad (r.getD n 0) then [(b, (n : Int), 0)] else []) := by
  unfold bRow
  rw [List.range_succ, List.filterMap_append]
  congr 1
  by_cases h : bad (r.getD n 0)
  · rw [if_pos h]; simp only [List.filterMap_cons, List.filterMap_nil, if_pos h]
  · rw [if_neg h]; simp only [List.filterMap_cons, List.filterMap_nil, if_neg h]
theorem bRow_len (b : Int) (r : List Int) (n : Nat) : (bRow b r n).length ≤ n := by
  have := List.length_filterMap_le (fun (p : Nat) => if bad (r.getD p 0) then some ((b, ((p : Nat) : Int), 0) : T3) else none) (List.range n)
  rw [List.length_range] at this
  exact this
def bAll (rows : List (List Int)) : Nat → List T3
  | 0 => []
  | n + 1 => bAll rows n ++ bRow (n : Int) (rows.getD n []) 8
theorem bAll_len (rows : List (List Int)) : ∀ n, (bAll rows n).length ≤ 8 * n
  | 0 => Nat.le_refl _
  | n + 1 => by
    show (bAll rows n ++ bRow (n : Int) (rows.getD n []) 8).length ≤ 8 * (n + 1)
    rw [List.length_append]
    have := bAll_len rows n
    have := bRow_len (n : Int) (rows.getD n []) 8
    omega
def spBounds : Sp := fun vs H Q _ => ∃ (v : Addr) (as : List Addr) (rows : List (List Int)), vs = [.ref v] ∧ Vol H v as rows ∧ rows.length ≤ 100 ∧ (∀ r ∈ rows, r.length = 8) ∧
  ∀ (q : Addr) (ts : List Addr) (H' : Hp), Same H H' → H q = none → Ts H' q ts (bAll rows rows.length) → Q (.ref q) H'
theorem ok_bounds (T : Tx K mg) : FnOk P w K mg base CX0 1 T.f_bounds_wrong T.fd_bounds_wrong ["volume"] spBounds := by
  refine T.F_bounds_wrong.ok sc_bounds_wrong (fun vs H Q E h => ?_) (fun cdv A outer s H vs Q E hr h => ?_)
  · obtain ⟨v, as, rows, rfl, _⟩ := h
    rfl
  · obtain ⟨v, as, rows, rfl, hV, ln, h8, k⟩ := h
    refine ⟨_, pss_cons (ps_set (i := 1) sc_bounds_wrong.nd rfl (Or.inl rfl) (pe_lst pa_nil))
      (pss_cons (ps_for PassesOwn.never rfl (pi_enum rfl T.z_enumerate (pa_cons (pv 0) pa_nil)) (pg_tup rfl (pgs_cons (pg_name (i := 2) sc_bounds_wrong.nd rfl (Or.inr rfl)) (pgs_cons (pg_name (i := 3) sc_bounds_wrong.nd rfl (Or.inl rfl)) pgs_nil)))
        (pss_one (ps_expr (pe_bm PySem.F.plainAttrs_list PySem.F.slot_list_extend PySem.F.type_list_extend mt_extend (pv 1) (pa_cons (pe_comp (N' := ["place", "number", "block"]) (cap := [none, none, some 2]) rfl (compOk_of (by kernel_rfl)) (pi_enum rfl T.z_enumerate (pa_cons (pv 3) pa_nil))
          (fun cells C s₀ H₀ fp pins => ⟨pg_pair (i := 0) (j := 1) (K := K) rfl rfl (ndp3 (by decide +kernel) (by decide +kernel) (by decide +kernel)) rfl rfl rfl rfl, pifs_one (pt_not (pt_chain op_le op_le pe_int (pv 1) (pe_glob (v := .int 999999999999) rfl T.g_TOP ⟨_, rfl⟩))), pe_tup (pa_cons (pv 2) (pa_cons (pv 0) (pa_cons pe_int pa_nil)))⟩)) pa_nil)))))
      (pss_one (ps_ret (pv 1)))), ?_⟩
    refine ⟨(by show 0 ≤ sizeLine; decide), fun tl ftl => ?_⟩
    have s0 : Same H (upd H tl (.lst [])) := Same.upd0 ftl
    have V0 := hV.same s0
    have la : as.length = rows.length := hV.len
    refine ⟨_, rfl, v, rfl, ⟨_, SqL.of V0.top⟩, for_enum (K := K) (a := v) (lo := 0) (xs := as.map V.ref) (fun i σ H' => ∃ x2 x3 ts, σ = [some (.ref v), some (.ref tl), x2, x3] ∧ i ≤ rows.length ∧ Same H H' ∧ Ts H' tl ts (bAll rows i))
      ⟨none, none, [], rfl, Nat.zero_le _, s0, upd_same, TI3.nil⟩ (fun i σ H' _ ⟨_, _, _, _, _, s1, _⟩ => SqL.of (s1 _ _ hV.top)) ?_ ?_⟩
    · rintro i x σ H' q hx ⟨x2, x3, ts, rfl, _, s1, hT⟩ hq
      rw [List.getElem?_map] at hx
      cases e : as[i]? with
      | none => rw [e] at hx; cases hx
      | some a =>
        rw [e] at hx
        cases hx
        have hi : i < rows.length := by rw [← la]; exact (List.getElem?_eq_some_iff.mp e).1
        have er : rows[i]? = some (rows.getD i []) := by rw [List.getD_eq_getElem?_getD, List.getElem?_eq_getElem hi]; rfl
        have l8 := h8 _ (List.mem_of_getElem? er)
        have e0 : (0 : Int) + (i : Int) = (i : Int) := by omega
        rw [e0]
        have sq : Same H' (upd H' q (.tup [.int (i : Int), .ref a])) := Same.upd0 hq
        refine ⟨q, _, rfl, SqT.of upd_same, rfl, _, _, rfl, _, _, rfl, rfl, ?_⟩
        have S1 := s1.trans sq
        have hT1 := hT.same sq
        generalize upd H' q (.tup [.int (i : Int), .ref a]) = H1 at S1 hT1 ⊢
        have ha := S1 _ _ (hV.row i a _ e er)
        refine ⟨_, rfl, .inl ⟨rfl, _, SqL.of hT1.top⟩, ?_⟩
        refine ⟨_, rfl, a, rfl, ⟨_, SqL.of ha⟩, ?_⟩
        refine comp_enum (cap := [none, none, some 2]) (σ := [some (.ref v), some (.ref tl), some (.int (i : Int)), some (.ref a)]) (K := K) (a := a) (lo := 0) (xs := (rows.getD i []).map V.int) (small_len (by rw [List.length_map, l8]; decide)) (fun j ys σ H2 => j ≤ 8 ∧ ∃ us, ys = us.map V.ref ∧ us.length ≤ j ∧ (∃ s0 s1, σ = [s0, s1, some (.int (i : Int))]) ∧ Same H1 H2 ∧ TI3 H2 us (bRow (i : Int) (rows.getD i []) j))
          (by exact ⟨Nat.zero_le _, [], rfl, Nat.zero_le _, ⟨none, none, rfl⟩, Same.refl _, TI3.nil⟩) (fun j ys σ H2 ⟨h1, us, h2, h3, _, h5, _⟩ => ⟨by rw [List.length_map, l8]; exact h1, by rw [h2, List.length_map]; exact h3, SqL.of (h5 _ _ ha)⟩) ?_ ?_
        · rintro j y ys σ H2 t hy ⟨h1, us, rfl, h3, ⟨y0, y1, rfl⟩, sH, hJ⟩ ft
          rw [List.getElem?_map] at hy
          cases en : (rows.getD i [])[j]? with
          | none => rw [en] at hy; cases hy
          | some n =>
            rw [en] at hy
            cases hy
            have j8 : j < 8 := by have := (List.getElem?_eq_some_iff.mp en).1; omega
            have dn : (rows.getD i []).getD j 0 = n := by rw [List.getD_eq_getElem?_getD (l := rows.getD i []), en]; rfl
            have e0 : (0 : Int) + (j : Int) = (j : Int) := by omega
            rw [e0]
            have st : Same H2 (upd H2 t (.tup [.int (j : Int), .int n])) := Same.upd0 ft
            refine ⟨t, _, rfl, SqT.of upd_same, rfl, _, _, rfl, _, _, rfl, rfl, ?_⟩
            have S3 := sH.trans st
            have hJ3 := hJ.same st
            generalize upd H2 t (.tup [.int (j : Int), .int n]) = H3 at S3 hJ3 ⊢
            rw [bRow_succ, dn]
            have yes : bad n → ∀ u, H3 u = none → j + 1 ≤ 8 ∧ ∃ us', us.map V.ref ++ [V.ref u] = us'.map V.ref ∧ us'.length ≤ j + 1 ∧ (∃ s0 s1, [some (V.int (j : Int)), some (.int n), some (.int (i : Int))] = [s0, s1, some (.int (i : Int))]) ∧ Same H1 (upd H3 u (.tup [.int (i : Int), .int (j : Int), .int 0])) ∧ TI3 (upd H3 u (.tup [.int (i : Int), .int (j : Int), .int 0])) us' (bRow (i : Int) (rows.getD i []) j ++ if bad n then [((i : Int), (j : Int), 0)] else []) := fun hb u fu => by
              refine ⟨j8, us ++ [u], by simp, by rw [List.length_append]; simp; omega, ⟨_, _, rfl⟩, S3.upd fu, ?_⟩
              rw [if_pos hb]
              exact hJ3.add (p := ((i : Int), (j : Int), 0)) (tups_new fu) upd_same
            have no : ¬ bad n → j + 1 ≤ 8 ∧ ∃ us', us.map V.ref = us'.map V.ref ∧ us'.length ≤ j + 1 ∧ (∃ s0 s1, [some (V.int (j : Int)), some (.int n), some (.int (i : Int))] = [s0, s1, some (.int (i : Int))]) ∧ Same H1 H3 ∧ TI3 H3 us' (bRow (i : Int) (rows.getD i []) j ++ if bad n then [((i : Int), (j : Int), 0)] else []) := fun hb => by
              refine ⟨j8, us, rfl, by omega, ⟨_, _, rfl⟩, S3, ?_⟩
              rw [if_neg hb, List.append_nil]
              exact hJ3
            refine ⟨_, rfl, _, _, rfl, rfl, _, rfl, ite2 (fun h1 => ?_) (fun h1 => ⟨_, rfl, iteT ⟨_, rfl, _, rfl, (by show 3 ≤ sizeLine; decide), fun u fu => yes (.inl ?_) u fu⟩⟩)⟩
            · have h1' : 0 ≤ n := of_decide_eq_true h1
              refine ⟨_, _, rfl, rfl, _, rfl, ite2 (fun h2 => ?_) (fun h2 => no fun hb => ?_)⟩
              · refine ⟨_, rfl, _, rfl, (by show 3 ≤ sizeLine; decide), fun u fu => yes (.inr ?_) u fu⟩
                have : ¬ n ≤ 999999999999 := by simpa using h2
                omega
              · have : n ≤ 999999999999 := by simpa using h2
                rcases hb with hb | hb <;> omega
            · have : ¬ 0 ≤ n := fun z => h1 (decide_eq_true z)
              omega
        rintro ys σ H2 ⟨_, us, rfl, h3, _, sH, hJ⟩ D fD
        rw [List.length_map, l8] at hJ
        have hTl := (sH.upd (o := .lst (us.map V.ref)) fD) _ _ hT1.top
        have lts : ts.length ≤ 800 := by rw [hT1.it.len]; have := bAll_len rows i; omega
        have lus : us.length ≤ 8 := by rw [hJ.len]; exact bRow_len ..
        refine ⟨tl, D, _, _, rfl, rfl, hTl, upd_same, small_len (by rw [List.length_map, List.length_map]; omega), _, _, ts ++ us, rfl, hi, ((S1.trans sH).upd fD).updF ftl, ⟨by rw [upd_same, List.map_append], ?_⟩⟩
        show TI3 _ _ (bAll rows i ++ bRow (i : Int) (rows.getD i []) 8)
        exact (((hT1.it.same sH).app hJ).same (Same.upd0 fD)).tups (tups_lst hTl)
    rintro σ H' ⟨x2, x3, ts, rfl, _, s1, hT⟩
    rw [List.length_map, la] at hT
    exact ⟨_, rfl, k tl ts H' s1 ftl hT⟩
/-! ### wrong, told -/
def what (F E B : Int) (rows : List (List Int)) (c : Str) (xs : List T3) : Prop := c = "bounds" ∧ xs = bAll rows rows.length ∧ rows.length ≤ 100
theorem what_len {F E B : Int} {rows : List (List Int)} {c : Str} {xs : List T3} (h : what F E B rows c xs) (ok : LayOk F E B) : xs.length ≤ 900 := by
  obtain ⟨_, rfl, hl⟩ := h
  have := bAll_len rows rows.length
  omega
def spWrong (C : Addr) : Sp := fun vs H Q _ => ∃ (p v : Addr) (c : Str) (F E B : Int) (as : List Addr) (rows : List (List Int)) (xs : List T3), vs = [.ref p, .ref v, .str c] ∧ VolOk C H p v F E B as rows ∧ what F E B rows c xs ∧
  ∀ (q : Addr) (ts : List Addr) (H' : Hp), Same H H' → H q = none → Ts H' q ts xs → Q (.ref q) H'
theorem ok_places (T : Tx K mg) : FnOk P w K mg base CX0 6 T.f_places_broken T.fd_places_broken ["layout", "volume", "clause"] (spWrong T.C_Layout) := by
  refine T.F_places_broken.ok sc_places_broken (fun vs H Q E h => ?_) (fun cdv A outer s H vs Q E hr h => ?_)
  · obtain ⟨p, v, c, F, E, B, as, rows, xs, rfl, _⟩ := h
    rfl
  · obtain ⟨p, v, c, F, E, B, as, rows, xs, rfl, hV, hc, k⟩ := h
    have r1 : Room 1 _ := hr.mono (by decide)
    refine ⟨_, pss_cons (ps_if (pt_cmpR op_eq (pv 2) pe_str (nomark _)) (pss_one (ps_ret (pe_call (ok_bounds T) r1 rfl T.g_bounds_wrong T.F_bounds_wrong.kp T.b_bounds_wrong .nil pass0 (pa_cons (pv 1) pa_nil)))) pss_nil) pss_never, ?_⟩
    obtain ⟨rfl, rfl, hl⟩ := hc
    exact ⟨_, rfl, rfl, _, rfl, iteD rfl ⟨_, rfl, v, as, rows, rfl, hV.2.2.1, hl, hV.2.2.2.2, k⟩⟩

theorem ok_wrong (T : Tx K mg) : FnOk P w K mg base CX0 7 T.f_wrong T.fd_wrong ["layout", "volume", "clause"] (spWrong T.C_Layout) := by
  refine T.F_wrong.ok sc_wrong (fun vs H Q E h => ?_) (fun cdv A outer s H vs Q E hr h => ?_)
  · obtain ⟨p, v, c, F, E, B, as, rows, xs, rfl, _⟩ := h
    rfl
  · obtain ⟨p, v, c, F, E, B, as, rows, xs, rfl, hV, hc, k⟩ := h
    have r5 : Room 5 _ := hr.mono (by decide)
    have r6 : Room 6 _ := hr.mono (by decide)
    refine ⟨_, pss_cons (ps_expr (pe_call (ok_check_formG T) r5 rfl T.g_check_form T.F_check_form.kp T.b_check_form .nil pass0 (pa_cons (pv 0) (pa_cons (pv 1) pa_nil))))
      (pss_one (ps_ret (pe_call (ok_places T) r6 rfl T.g_places_broken T.F_places_broken.kp T.b_places_broken .nil pass0 (pa_cons (pv 0) (pa_cons (pv 1) (pa_cons (pv 2) pa_nil)))))), ?_⟩
    refine ⟨_, rfl, _, rfl, p, v, F, E, B, as, rows, rfl, hV, fun H1 s1 => ?_⟩
    exact ⟨_, rfl, _, rfl, _, rfl, p, v, c, F, E, B, as, rows, xs, rfl, hV.same s1, hc, fun q ts H' s2 fq hT => k q ts H' (s1.trans s2) (s1.free fq) hT⟩
def spLTold (C : Addr) : Sp := fun vs H Q _ => ∃ (p v d : Addr) (c : Str) (F E B : Int) (as ds : List Addr) (rows : List (List Int)) (xs : List T3), vs = [.ref p, .ref v, .str c, .ref d] ∧ VolOk C H p v F E B as rows ∧ what F E B rows c xs ∧ Ts H d ds xs ∧
  ∀ H', Same H H' → Q (.bl true) H'
theorem ok_told (T : Tx K mg) : FnOk P w K mg base CX0 8 T.f_l_told T.fd_l_told ["_law_layout_here", "_law_volume", "_law_clause", "_law_due"] (spLTold T.C_Layout) := by
  refine T.F_l_told.ok sc_l_told (fun vs H Q E h => ?_) (fun cdv A outer s H vs Q E hr h => ?_)
  · obtain ⟨p, v, d, c, F, E, B, as, ds, rows, xs, rfl, _⟩ := h
    rfl
  · obtain ⟨p, v, d, c, F, E, B, as, ds, rows, xs, rfl, hV, hc, hD, k⟩ := h
    have hu : _ + 60 < cLine := Nat.lt_of_le_of_lt (Nat.add_le_add_left (by decide : 60 ≤ 64) _) hr.units
    have r7 : Room 7 _ := hr.mono (by decide)
    refine ⟨_, pss_cons (ps_setComp (i := 4) (N' := ["_law_row_here"]) (cap := [none]) sc_l_told.nd rfl rfl rfl (compOk_of (by kernel_rfl)) (pi_list (pv 1)) (fun cells C s₀ H₀ fp pins => ⟨pg_name (i := 0) ndp1 rfl (Or.inl rfl) (.inr rfl), pifs_nil, pe_callTy (call_list_ofK (K := K) rfl) rfl T.z_list (by kernel_rfl) (pa_cons (pv 0) pa_nil)⟩))
      (pss_cons (ps_set (i := 5) sc_l_told.nd rfl (Or.inl rfl) (pe_call (ok_wrong T) r7 rfl T.g_wrong T.F_wrong.kp T.b_wrong .nil pass0 (pa_cons (pv 0) (pa_cons (pv 4) (pa_cons (pv 2) pa_nil)))))
      (pss_cons (ps_if (PW.pt (pw_or (pt_not (pt_val (pe_callB call_isT rfl T.z_isinstance (by kernel_rfl) (pa_cons (pv 5) (pa_cons (pe_bltn (v := .ty "list") rfl T.z_list (by kernel_rfl) rfl) pa_nil)))))
        (pw_or (pt_cmpR (op_neT hu) (pv 5) (pv 3) (nomark _)) (pw_or1 (pt_cmpR (op_neT hu) (pv 4) (pv 1) (nomark _)))))) (pss_one (ps_ret pe_bl)) pss_nil)
      (pss_cons (ps_for PassesOwn.never rfl (pi_list (pv 5)) (pg_name (i := 6) sc_l_told.nd rfl (Or.inl rfl))
        (pss_one (ps_if (PW.pt (pw_or (pt_not (pt_val (pe_callB call_isT rfl T.z_isinstance (by kernel_rfl) (pa_cons (pv 6) (pa_cons (pe_bltn (v := .ty "tuple") rfl T.z_tuple (by kernel_rfl) rfl) pa_nil)))))
          (pw_or1 (pt_cmpR (op_neT hu) (pe_comp (N' := ["_law_part"]) (cap := [none]) rfl (compOk_of (by kernel_rfl)) (pi_tup (pv 6)) (fun cells C s₀ H₀ fp pins => ⟨pg_name (i := 0) ndp1 rfl (Or.inl rfl) (.inr rfl), pifs_one (pt_val (pe_callB (call_isTK (K := K) rfl) rfl T.z_isinstance (by kernel_rfl) (pa_cons (pv 0) (pa_cons (pe_bltn (v := .ty "bool") rfl T.z_bool (by kernel_rfl) rfl) pa_nil)))), pv 0⟩)) (pe_lst pa_nil) (nomark _))))) (pss_one (ps_ret pe_bl)) pss_nil)))
      (pss_cons (ps_expr (pe_bm PySem.F.plainAttrs_list PySem.F.slot_list_append PySem.F.type_list_append mt_append (pv 5) (pa_cons (pe_tup (pa_ints rfl)) pa_nil)))
      (pss_one (ps_ret (pe_cmpR (op_eqT hu) (pe_call (ok_wrong T) r7 rfl T.g_wrong T.F_wrong.kp T.b_wrong .nil pass0 (pa_cons (pv 0) (pa_cons (pv 4) (pa_cons (pv 2) pa_nil)))) (pv 3) (nomark _)))))))), ?_⟩
    obtain ⟨hL, ok, hVv, hn, h8⟩ := hV
    have := ok.f2
    have := ok.e2
    have := ok.b2
    refine ⟨_, rfl, v, rfl, ⟨_, SqL.of hVv.top⟩, comp_rows hVv (by omega) fun Dh bh H1 nDh nbh V1 s1 => ?_⟩
    refine ⟨_, rfl, _, rfl, _, rfl, p, Dh, c, F, E, B, bh, rows, xs, rfl, ⟨hL.same s1, ok, V1, hn, h8⟩, hc, fun q ts H2 s2 fq hT => ?_⟩
    have s12 := s1.trans s2
    refine ⟨_, rfl, _, _, _, true, rfl, TyOf.lst hT.top, rfl, true, rfl, iteF ?_⟩
    refine ⟨_, rfl, _, rfl, q, d, 2, 2, _, _, rfl, rfl, by decide, by decide, hT.holds, (hD.same s12).holds, (fun _ h => nomatch h), (fun _ h => nomatch h), _, rfl, iteBF (by rw [holds_refl (K := K) hT.holds]; rfl) ?_⟩
    refine ⟨_, rfl, _, rfl, Dh, v, 2, 2, trV rows, trV rows, rfl, rfl, by decide, by decide, holds_vol (V1.same s2), holds_vol (hVv.same s12), (fun _ h => nomatch h), (fun _ h => nomatch h), _, rfl, iteBF (by rw [eqT_V]; simp) ?_⟩
    refine ⟨_, rfl, q, rfl, ⟨_, SqL.of hT.top⟩, for_list (K := K) (a := q) (xs := ts.map V.ref) (fun i σ H' => ∃ x6, σ = [some (.ref p), some (.ref v), some (.str c), some (.ref d), some (.ref Dh), some (.ref q), x6] ∧ Same H2 H')
      ⟨none, rfl, Same.refl _⟩ (fun i σ H' _ ⟨_, _, sH⟩ => SqL.of (sH _ _ hT.top)) ?_ ?_⟩
    · rintro i x σ H' hx ⟨x6, rfl, sH⟩
      rw [List.getElem?_map] at hx
      cases et : ts[i]? with
      | none => rw [et] at hx; cases hx
      | some t =>
        rw [et] at hx
        cases hx
        have hi : i < xs.length := by rw [← hT.it.len]; exact (List.getElem?_eq_some_iff.mp et).1
        have ht := sH _ _ (hT.it.item i t xs[i] et (List.getElem?_eq_getElem hi))
        generalize xs[i] = y at ht
        refine ⟨_, rfl, _, _, _, true, rfl, TyOf.tup ht, rfl, true, rfl, iteF ?_⟩
        refine ⟨_, rfl, t, rfl, ⟨_, SqT.of ht⟩, ?_⟩
        refine comp_tup (cap := [none]) (K := K) (a := t) (xs := [.int y.1, .int y.2.1, .int y.2.2]) (by show 3 ≤ sizeLine; decide) (fun i ys σ H3 => i ≤ 3 ∧ ys = [] ∧ σ.length = 1 ∧ H3 = H')
          (by exact ⟨Nat.zero_le _, rfl, rfl, rfl⟩) (fun i ys σ H3 ⟨h1, h2, h3, h4⟩ => ⟨h1, by rw [h2]; exact Nat.zero_le _, by rw [h4]; exact SqT.of ht⟩) ?_ ?_
        · rintro j z ys σ' H3 hz ⟨h1, rfl, h3, rfl⟩
          have hj : j < 3 := (List.getElem?_eq_some_iff.mp hz).1
          have : ∃ n, z = .int n := by
            match j, hj with
            | 0, _ => cases hz; exact ⟨_, rfl⟩
            | 1, _ => cases hz; exact ⟨_, rfl⟩
            | 2, _ => cases hz; exact ⟨_, rfl⟩
          obtain ⟨n, rfl⟩ := this
          match σ', h3 with
          | [z0], _ => exact ⟨_, rfl, _, _, _, false, rfl, TyOf.int n, rfl, false, rfl, iteF ⟨hj, rfl, rfl, rfl⟩⟩
        rintro ys σ' H3 ⟨h1, rfl, h3, rfl⟩ Dm hDm
        refine ⟨(by show 0 ≤ sizeLine; decide), fun l fl => ?_⟩
        refine ⟨Dm, l, 1, 1, .lst [], .lst [], rfl, rfl, by decide, by decide, holds_flatsL (xs := []) (SqL.of ((Same.upd0 fl) _ _ upd_same)) rfl, holds_flatsL (xs := []) (SqL.of upd_same) rfl, (fun _ h => nomatch h), (fun _ h => nomatch h), _, rfl, iteBF rfl ?_⟩
        exact ⟨_, rfl, (sH.upd hDm).upd fl⟩
    rintro σ H' ⟨x6, rfl, sH⟩
    have hTq := sH _ _ hT.top
    have lx := what_len hc ok
    refine ⟨_, rfl, .inl ⟨rfl, _, SqL.of hTq⟩, (by show 3 ≤ sizeLine; decide), fun t ft => ?_⟩
    refine ⟨q, _, _, rfl, rfl, (Same.upd0 ft) _ _ hTq, (by rw [List.length_map, hT.it.len]; exact Nat.lt_of_le_of_lt lx (by decide)), ?_⟩
    have S1 : ∀ {o1 o2 : HO}, Same H1 (upd (upd H' t o1) q o2) := fun {_ _} => ((s2.trans sH).upd ft).updF fq
    have S0 : ∀ {o1 o2 : HO}, Same H (upd (upd H' t o1) q o2) := fun {_ _} => s1.trans S1
    refine ⟨_, rfl, _, rfl, _, rfl, p, Dh, c, F, E, B, bh, rows, xs, rfl, ⟨hL.same S0, ok, V1.same S1, hn, h8⟩, hc, fun q' ts' H3 s3 fq' hT' => ?_⟩
    refine ⟨_, rfl, q', d, 2, 2, _, _, rfl, rfl, by decide, by decide, hT'.holds, (hD.same (S0.trans s3)).holds, (fun _ h => nomatch h), (fun _ h => nomatch h), ?_⟩
    have e : eqT (.lst (xs.map trT)) (.lst (xs.map trT)) = true := holds_refl (K := K) hT'.holds
    show Q (.bl (eqT (.lst (xs.map trT)) (.lst (xs.map trT)))) H3
    rw [e]
    exact k H3 (S0.trans s3)
end
end K41
set_option Elab.async false
set_option linter.all false
set_option maxRecDepth 100000
set_option maxHeartbeats 1000000
namespace K41
open PySem L2 PyProof.Rows
section
variable {P : Program} {w : World} {K : PySem.W.Frag} {mg : Str → Option Value} {base : Heap}
def Row8 (H : Hp) (a : Addr) : Prop := ∃ ns : List Int, ns.length = 8 ∧ H a = some (.lst (ns.map V.int))
theorem Row8.same {H H' : Hp} {a : Addr} (h : Row8 H a) (s : Same H H') : Row8 H' a := let ⟨ns, h1, h2⟩ := h; ⟨ns, h1, s _ _ h2⟩
/-! ### a row that is none -/
def fresh (H H' : Hp) : Hp := fun b => match H b with
  | none => H' b
  | some _ => none
theorem fresh_at {H H' : Hp} {b : Addr} (h : H b = none) : fresh H H' b = H' b := by unfold fresh; rw [h]
theorem fresh_in {H H' : Hp} {b : Addr} {o : HO} (h : fresh H H' b = some o) : H b = none ∧ H' b = some o := by
  unfold fresh at h
  cases e : H b with
  | none => rw [e] at h; exact ⟨rfl, h⟩
  | some u => rw [e] at h; cases h
theorem two_app {R : V → Tr → Prop} {xs ys : List V} {ts us : List Tr} (l : xs.length = ts.length) (h1 : ∀ (i : Nat) x t, xs[i]? = some x → ts[i]? = some t → R x t) (h2 : ∀ (i : Nat) x t, ys[i]? = some x → us[i]? = some t → R x t) :
    ∀ (i : Nat) x t, (xs ++ ys)[i]? = some x → (ts ++ us)[i]? = some t → R x t := fun i x t e1 e2 => by
  by_cases hi : i < xs.length
  · rw [List.getElem?_append_left hi] at e1
    rw [List.getElem?_append_left (by omega)] at e2
    exact h1 i x t e1 e2
  · rw [List.getElem?_append_right (by omega)] at e1
    rw [List.getElem?_append_right (by omega), ← l] at e2
    exact h2 _ x t e1 e2
theorem two_one {R : V → Tr → Prop} {y : V} {u : Tr} (h : R y u) : ∀ (i : Nat) x t, [y][i]? = some x → [u][i]? = some t → R x t
  | 0, x, t, e1, e2 => by cases e1; cases e2; exact h
  | i + 1, x, t, e1, e2 => by simp at e1
theorem Hd.mixed {G : Hp} {n : Nat} {a : Addr} {us ws : List Int} {y : V} {ty : Tr} (h : G a = some (.lst (us.map V.int ++ [y] ++ ws.map V.int))) (hy : Hd G n y ty) :
    Hd G (n + 1) (.ref a) (.lst (us.map (fun i => Tr.flat (.int i)) ++ [ty] ++ ws.map fun i => Tr.flat (.int i))) :=
  .lst h (by simp) (two_app (by simp) (two_app (by simp) (fun i x t e1 e2 => by obtain ⟨j, rfl, rfl⟩ := trIs0 us i x t e1 e2; exact .flat rfl) (two_one hy)) (fun i x t e1 e2 => by obtain ⟨j, rfl, rfl⟩ := trIs0 ws i x t e1 e2; exact .flat rfl))
theorem no_row {us ws : List Tr} {ty : Tr} (h : isNumT ty = false) : isRowT (.lst (us ++ [ty] ++ ws)) = false := by
  show (_ && (us ++ [ty] ++ ws).all isNumT) = false
  rw [List.all_append, List.all_append]
  simp [h]
theorem cut_ints (ns : List Int) (lo hi : Option Int) : ∃ us : List Int, cutV (ns.map V.int) lo hi = us.map V.int := by
  unfold cutV
  rw [← List.map_drop, ← List.map_take]
  exact ⟨_, rfl⟩
theorem cut7 {ns : List Int} (h : ns.length = 8) : ∃ us : List Int, us.length = 7 ∧ cutV (ns.map V.int) none (some 7) = us.map V.int := by
  unfold cutV
  rw [List.length_map, h]
  have e1 : HT.sIx 8 8 (some 7) = 7 := by decide
  have e2 : HT.sIx 8 0 none = 0 := by decide
  rw [e1, e2, ← List.map_drop, ← List.map_take]
  exact ⟨_, by simp [h], rfl⟩
theorem odd_at {m : Int} (h0 : 0 ≤ m) (h1 : m < 4) (q1 : Addr) : ∃ y ty, atI [V.bl true, .non, .str "5", .ref q1] m = some y ∧ isNumT ty = false ∧ ∀ G : Hp, G q1 = some (.lst [.int 5]) → Hd G 1 y ty := by
  have hm : m = 0 ∨ m = 1 ∨ m = 2 ∨ m = 3 := by omega
  rcases hm with rfl | rfl | rfl | rfl
  · exact ⟨_, .flat (.bl true), atI_nat (j := 0) rfl, rfl, fun G _ => .flat rfl⟩
  · exact ⟨_, .flat .non, atI_nat (j := 1) rfl, rfl, fun G _ => .flat rfl⟩
  · exact ⟨_, .flat (.str "5"), atI_nat (j := 2) rfl, rfl, fun G _ => .flat rfl⟩
  · exact ⟨_, trI [5], atI_nat (j := 3) rfl, rfl, fun G e => .ints (ns := [5]) e⟩
def spRow : Sp := fun vs H Q _ => ∃ (a : Addr) (ns : List Int) (c : Int), vs = [.ref a, .int c] ∧ H a = some (.lst (ns.map V.int)) ∧ ns.length = 8 ∧ ∀ (x : V) (t : Tr) (H' : Hp), Same H H' → Hd (fresh H H') 2 x t → isRowT t = false → Q x H'
theorem ok_row (T : Tx K mg) : FnOk P w K mg base CX0 1 T.f_l_row T.fd_l_row ["_law_row_here", "_law_cell_here"] spRow := by
  refine T.F_l_row.ok sc_l_row (fun vs H Q E h => ?_) (fun cdv A outer s H vs Q E hr h => ?_)
  · obtain ⟨a, ns, c, rfl, _⟩ := h
    rfl
  · obtain ⟨a, ns, c, rfl, ha, h8, k⟩ := h
    refine ⟨_, pss_cons (ps_set (i := 2) sc_l_row.nd rfl (Or.inl rfl) (pe_op op_mod (pv 1) pe_int))
      (pss_cons (ps_set (i := 3) sc_l_row.nd rfl (Or.inl rfl) (pe_op op_mod (pe_op op_fdiv (pv 1) pe_int) pe_int))
      (pss_cons (ps_if (pt_cmpR op_eq (pv 2) pe_int (nomark _)) (pss_one (ps_ret (pe_slice sl_list (pv 0) po_none (po_some pe_int)))) pss_nil)
      (pss_cons (ps_if (pt_cmpR op_eq (pv 2) pe_int (nomark _)) (pss_one (ps_ret (pe_op op_cat (pv 0) (pe_lst (pa_cons pe_int pa_nil))))) pss_nil)
      (pss_cons (ps_if (pt_cmpR op_eq (pv 2) pe_int (nomark _)) (pss_one (ps_ret (pe_callTy call_tuple_of rfl T.z_tuple (by kernel_rfl) (pa_cons (pv 0) pa_nil)))) pss_nil)
      (pss_cons (ps_if (pt_cmpR op_eq (pv 2) pe_int (nomark _)) (pss_one (ps_ret pe_non)) pss_nil)
      (@pss_one _ _ _ (ps_ret (pe_op op_cat (pe_op op_cat (pe_slice sl_list (pv 0) po_none (po_some (pv 3))) (@pe_lst _ _ _ _ (@pa_cons _ _ _ _ _ (@pe_ix _ _ _ _ _ _ _ ix_list (@pe_lst _ _ _ _ (@pa_cons _ _ _ _ _ pe_bl (@pa_cons _ _ _ _ _ pe_non (@pa_cons _ _ _ _ _ pe_str (@pa_cons _ _ _ _ _ (@pe_lst _ _ _ _ (@pa_cons _ _ _ _ _ pe_int pa_nil rfl)) pa_nil rfl) rfl) rfl) rfl)) (pe_op op_sub (pv 2) pe_int) (fun _ _ => rfl)) pa_nil rfl))) (pe_slice sl_list (pv 0) (po_some (pe_op op_add (pv 3) pe_int)) po_none))))))))), ?_⟩
    refine ⟨_, rfl, _, _, rfl, rfl, (by show (0 : Int) < 8; decide), ?_⟩
    refine ⟨_, rfl, _, _, rfl, rfl, ⟨by decide, by decide⟩, _, _, rfl, rfl, (by show (0 : Int) < 8; decide), ?_⟩
    have w0 := Int.emod_nonneg c (show (8 : Int) ≠ 0 by decide)
    have w1 := Int.emod_lt_of_pos c (show (0 : Int) < 8 by decide)
    refine ⟨_, rfl, rfl, _, rfl, ite2 (fun _ => ?_) (fun n0 => ?_)⟩
    · refine ⟨_, rfl, _, rfl, a, _, rfl, SqL.of ha, fun r fr => ?_⟩
      obtain ⟨us, l7, eu⟩ := cut7 h8
      rw [eu]
      exact k _ (trI us) _ (Same.upd0 fr) (.ints (by rw [fresh_at fr, upd_same])) (by rw [row_ints, l7]; rfl)
    refine ⟨_, rfl, rfl, _, rfl, ite2 (fun _ => ?_) (fun n1 => ?_)⟩
    · refine ⟨_, rfl, (by show 1 ≤ sizeLine; decide), fun d fd => ?_⟩
      refine ⟨a, d, _, _, rfl, rfl, (Same.upd0 fd) _ _ ha, upd_same, (by rw [List.length_map, h8]; show 9 ≤ sizeLine; decide), fun r fr => ?_⟩
      have fr0 : H r = none := (Same.upd0 fd).free fr
      exact k _ (trI (ns ++ [0])) _ ((Same.upd0 fd).upd fr) (.ints (by rw [fresh_at fr0, upd_same, List.map_append]; rfl)) (by rw [row_ints, List.length_append, h8]; rfl)
    refine ⟨_, rfl, rfl, _, rfl, ite2 (fun _ => ?_) (fun n2 => ?_)⟩
    · refine ⟨_, rfl, a, _, rfl, .inl ⟨SqL.of ha, fun r fr => ?_⟩⟩
      exact k _ (.tup (ns.map fun i => Tr.flat (.int i))) _ (Same.upd0 fr) (.tup (by rw [fresh_at fr, upd_same]) (by simp) fun i x t e1 e2 => by obtain ⟨j, rfl, rfl⟩ := trIs0 ns i x t e1 e2; exact .flat rfl) rfl
    refine ⟨_, rfl, rfl, _, rfl, ite2 (fun _ => ?_) (fun n3 => ?_)⟩
    · exact k _ (.flat .non) _ (Same.refl H) (.flat rfl) rfl
    have m0 : c % 8 ≠ 0 := fun z => n0 (decide_eq_true (congrArg V.int z))
    have m1 : c % 8 ≠ 1 := fun z => n1 (decide_eq_true (congrArg V.int z))
    have m2 : c % 8 ≠ 2 := fun z => n2 (decide_eq_true (congrArg V.int z))
    have m3 : c % 8 ≠ 3 := fun z => n3 (decide_eq_true (congrArg V.int z))
    refine ⟨_, rfl, _, rfl, _, rfl, a, _, rfl, SqL.of ha, fun p1 e1 => ?_⟩
    obtain ⟨us, eu⟩ := cut_ints ns none (some (c / 8 % 8))
    rw [eu]
    have lu : us.length ≤ 8 := by have := cutV_length (ns.map V.int) none (some (c / 8 % 8)); rw [eu] at this; simpa [h8] using this
    have t1 : Same H (upd H p1 (.lst (us.map V.int))) := Same.upd0 e1
    have g0 : upd H p1 (.lst (us.map V.int)) p1 = some (.lst (us.map V.int)) := upd_same
    generalize upd H p1 (.lst (us.map V.int)) = H1 at t1 g0 ⊢
    refine ⟨(by show 1 ≤ sizeLine; decide), fun q1 f1 => ⟨(by show 4 ≤ sizeLine; decide), fun L fL => ?_⟩⟩
    obtain ⟨y, ty, ey, ny, hy⟩ := odd_at (m := c % 8 - 4) (by omega) (by omega) q1
    refine ⟨_, rfl, _, _, rfl, rfl, L, _, _, y, rfl, rfl, SqL.of upd_same, ey, ?_⟩
    have n1' : H q1 = none := t1.free f1
    have g1 : upd (upd H1 q1 (.lst [.int 5])) L (.lst [V.bl true, .non, .str "5", .ref q1]) q1 = some (.lst [.int 5]) := (Same.upd0 fL) _ _ upd_same
    have z3 := (t1.upd (o := .lst [.int 5]) f1).upd (o := .lst [V.bl true, .non, .str "5", .ref q1]) fL
    have g2 : upd (upd H1 q1 (.lst [.int 5])) L (.lst [V.bl true, .non, .str "5", .ref q1]) p1 = some (.lst (us.map V.int)) := (Same.upd0 fL) _ _ ((Same.upd0 f1) _ _ g0)
    generalize upd (upd H1 q1 (.lst [.int 5])) L (.lst [V.bl true, .non, .str "5", .ref q1]) = G at g1 g2 z3 ⊢
    refine ⟨(by show 1 ≤ sizeLine; decide), fun d e2 => ?_⟩
    refine ⟨p1, d, _, _, rfl, rfl, (Same.upd0 e2) _ _ g2, upd_same, (by rw [List.length_map]; exact small_len (by show us.length + 1 ≤ 1000; omega)), fun c1 e3 => ?_⟩
    have s4 : Same G (upd (upd G d (.lst [y])) c1 (.lst (us.map V.int ++ [y]))) := (Same.upd0 e2).upd e3
    refine ⟨_, rfl, _, rfl, _, _, rfl, rfl, _, rfl, a, _, rfl, SqL.of (s4 _ _ (z3 _ _ ha)), fun p2 e4 => ?_⟩
    obtain ⟨ws, ew⟩ := cut_ints ns (some (c / 8 % 8 + 1)) none
    rw [ew]
    have lw : ws.length ≤ 8 := by have := cutV_length (ns.map V.int) (some (c / 8 % 8 + 1)) none; rw [ew] at this; simpa [h8] using this
    refine ⟨c1, p2, _, _, rfl, rfl, (Same.upd0 e4) _ _ upd_same, upd_same, (by rw [List.length_append, List.length_map, List.length_map]; exact small_len (by show us.length + 1 + ws.length ≤ 1000; omega)), fun r e5 => ?_⟩
    have s6 := (s4.upd (o := .lst (ws.map V.int)) e4).upd (o := .lst (us.map V.int ++ [y] ++ ws.map V.int)) e5
    have nr : H r = none := z3.free ((s4.upd e4).free e5)
    refine k _ _ _ (z3.trans s6) (Hd.mixed (us := us) (ws := ws) (y := y) (ty := ty) (by rw [fresh_at nr, upd_same]) (hy _ ?_)) (no_row ny)
    rw [fresh_at n1']; exact s6 _ _ g1
end
end K41
set_option Elab.async false
set_option linter.all false
set_option maxRecDepth 100000
set_option maxHeartbeats 1000000
namespace K41
open PySem L2 PyProof.Rows
section
variable {P : Program} {w : World} {K : PySem.W.Frag} {mg : Str → Option Value} {base : Heap}
/-! ### without what is written over -/
def dr (l : List Addr) (H : Hp) : Hp := fun b => if b ∈ l then none else H b
theorem dr_same {l : List Addr} {H : Hp} : Same (dr l H) H := fun b o h => by
  unfold dr at h
  by_cases hb : b ∈ l
  · rw [if_pos hb] at h; cases h
  · rw [if_neg hb] at h; exact h
theorem dr_mono {l : List Addr} {H H' : Hp} (s : Same H H') : Same (dr l H) (dr l H') := fun b o h => by
  unfold dr at h ⊢
  by_cases hb : b ∈ l
  · rw [if_pos hb] at h; cases h
  · rw [if_neg hb] at h ⊢; exact s b o h
theorem dr_upd {l : List Addr} {H : Hp} {a : Addr} {o : HO} (h : a ∈ l) : dr l (upd H a o) = dr l H := by
  funext b
  unfold dr
  by_cases hb : b ∈ l
  · rw [if_pos hb, if_pos hb]
  · rw [if_neg hb, if_neg hb, upd_ne (fun z => hb (by rw [z]; exact h))]
theorem dr_of {l : List Addr} {H H' : Hp} (s : Same H H') (h : ∀ a ∈ l, H a = none) : Same H (dr l H') := fun b o e => by
  unfold dr
  rw [if_neg (fun hb => by rw [h b hb] at e; cases e)]
  exact s b o e
theorem dr_fresh {l : List Addr} {H H' : Hp} (h : ∀ a ∈ l, ∃ o, H a = some o) : Same (fresh H H') (dr l H') := fun b o e => by
  obtain ⟨e1, e2⟩ := fresh_in e
  unfold dr
  rw [if_neg (fun hb => by obtain ⟨u, eu⟩ := h b hb; rw [e1] at eu; cases eu)]
  exact e2
theorem two_set {R : V → Tr → Prop} {xs : List V} {ts : List Tr} {j : Nat} {y : V} {u : Tr} (h : ∀ (i : Nat) x t, xs[i]? = some x → ts[i]? = some t → R x t) (hy : R y u) :
    ∀ (i : Nat) x t, (xs.set j y)[i]? = some x → (ts.set j u)[i]? = some t → R x t := fun i x t e1 e2 => by
  rw [List.getElem?_set] at e1 e2
  by_cases z : j = i
  · rw [if_pos z] at e1 e2
    split at e1
    · split at e2
      · cases e1; cases e2; exact hy
      · cases e2
    · cases e1
  · rw [if_neg z] at e1 e2
    exact h i x t e1 e2
def Spoilt (ts : List Tr) (ps : List Int) : Prop := (∀ (i : Nat) t, ts[i]? = some t → (isRowT t = false ↔ (i : Int) ∈ ps)) ∧ ∀ p ∈ ps, 0 ≤ p ∧ p < ts.length
theorem Spoilt.set {ts : List Tr} {ps : List Int} (h : Spoilt ts ps) {j : Nat} {u : Tr} (hj : j < ts.length) (hu : isRowT u = false) : Spoilt (ts.set j u) (ps ++ [(j : Int)]) := by
  refine ⟨fun i t e => ?_, fun p hp => ?_⟩
  · rw [List.getElem?_set] at e
    by_cases z : j = i
    · rw [if_pos z, if_pos hj] at e
      cases e
      subst z
      exact ⟨fun _ => by simp, fun _ => hu⟩
    · rw [if_neg z] at e
      rw [h.1 i t e, List.mem_append, List.mem_singleton]
      exact ⟨fun q => .inl q, fun q => q.elim id fun q => absurd (by omega) z⟩
  · rw [List.length_set]
    rcases List.mem_append.mp hp with q | q
    · exact h.2 p q
    · rw [List.mem_singleton] at q
      subst q
      exact ⟨by omega, by omega⟩
def rowTree (H : Hp) (a : Addr) : Tr := match H a with
  | some (.lst xs) => .lst (xs.map .flat)
  | _ => .flat .non
theorem rowTree_of {H : Hp} {a : Addr} (h : Row8 H a) : Hd H 2 (.ref a) (rowTree H a) ∧ isRowT (rowTree H a) = true := by
  obtain ⟨ns, h8, e⟩ := h
  have : rowTree H a = trI ns := by
    unfold rowTree
    rw [e]
    show Tr.lst ((ns.map V.int).map .flat) = _
    rw [List.map_map]
    rfl
  rw [this, row_ints, h8]
  exact ⟨.ints e, rfl⟩
theorem form_some {m z : Int} {ts : List Tr} {ps : List Int} (hl : (ts.length : Int) = m) (sp : Spoilt ts ps) (hz : z ∈ ps) (mn : ∀ n ∈ ps, z ≤ n) : formT m ts = some z := by
  unfold formT
  rw [if_pos hl]
  obtain ⟨z0, z1⟩ := sp.2 z hz
  obtain ⟨j, rfl⟩ : ∃ j : Nat, z = (j : Int) := ⟨z.toNat, by omega⟩
  have hj : j < ts.length := by omega
  have : ts.findIdx? (fun t => !isRowT t) = some j := by
    rw [List.findIdx?_eq_some_iff_getElem]
    refine ⟨hj, ?_, fun i hi => ?_⟩
    · rw [(sp.1 j _ (List.getElem?_eq_getElem hj)).mpr hz]; rfl
    · have hi' : i < ts.length := by omega
      cases e : isRowT ts[i] with
      | true => simp
      | false =>
        have := mn _ ((sp.1 i _ (List.getElem?_eq_getElem hi')).mp e)
        omega
  rw [this]
  rfl
theorem form_bad {m : Int} {ts : List Tr} (h : (ts.length : Int) ≠ m) : formT m ts = some (-1) := if_neg h
def spSpoiled : Sp := fun vs H Q _ => ∃ (v : Addr) (as : List Addr) (c : Int), vs = [.ref v, .int c] ∧ H v = some (.lst (as.map V.ref)) ∧ (∀ a ∈ as, Row8 H a) ∧ 0 < as.length ∧ as.length ≤ 800 ∧
  ∀ (tp f : Addr) (z : Int) (ts : List Tr) (H' : Hp), Same H H' → H' tp = some (.tup [.ref f, .int z]) → Hd H' 3 (.ref f) (.lst ts) → ts.length ≤ 900 → formT as.length ts = some z → Q (.ref tp) H'
theorem two_take {R : V → Tr → Prop} {xs : List V} {ts : List Tr} {n : Nat} (h : ∀ (i : Nat) x t, xs[i]? = some x → ts[i]? = some t → R x t) : ∀ (i : Nat) x t, (xs.take n)[i]? = some x → (ts.take n)[i]? = some t → R x t := fun i x t e1 e2 => by
  rw [List.getElem?_take] at e1 e2
  by_cases z : i < n
  · rw [if_pos z] at e1 e2; exact h i x t e1 e2
  · rw [if_neg z] at e1; cases e1
theorem cut_last (xs : List V) : cutV xs none (some (-1)) = xs.take (xs.length - 1) := by
  unfold cutV
  rw [HT.sIx_none]
  have : HT.sIx xs.length xs.length (some (-1)) = xs.length - 1 := by
    show (if (-1 : Int) < 0 then ((-1 : Int) + (xs.length : Int)).toNat else min (-1 : Int).toNat xs.length) = _
    rw [if_pos (by decide)]
    omega
  rw [this]
  simp
theorem ok_spoiled (T : Tx K mg) : FnOk P w K mg base CX0 2 T.f_l_spoiled T.fd_l_spoiled ["_law_volume", "_law_cell_here"] spSpoiled := by
  refine T.F_l_spoiled.ok sc_l_spoiled (fun vs H Q E h => ?_) (fun cdv A outer s H vs Q E hr h => ?_)
  · obtain ⟨v, as, c, rfl, _⟩ := h
    rfl
  · obtain ⟨v, as, c, rfl, hv, rows, l0, l1, k⟩ := h
    refine ⟨_, pss_cons (ps_set (i := 2) sc_l_spoiled.nd rfl (Or.inl rfl) (pe_callTy call_list_of rfl T.z_list (by kernel_rfl) (pa_cons (pv 0) pa_nil)))
      (@pss_cons _ _ _ _ _ (@ps_if _ _ _ _ _ _ _ _ (pt_cmpR op_eq (pe_op op_mod (pv 1) pe_int) pe_int (nomark _)) (@pss_one _ _ _ (ps_ret (@pe_tup _ _ _ _ _ (@pa_cons _ _ _ _ _ (pe_op op_cat (pv 2) (@pe_lst _ _ _ _ (@pa_cons _ _ _ _ _ (@pe_ints _ _ _ _ rfl) pa_nil rfl))) (@pa_cons _ _ _ _ _ (pe_un un_neg pe_int) pa_nil rfl) rfl)))) pss_nil)
      (pss_cons (ps_if (pt_cmpR op_eq (pe_op op_mod (pv 1) pe_int) pe_int (nomark _)) (pss_one (ps_ret (pe_tup (pa_cons (pe_slice sl_list (pv 2) po_none (po_some (pe_un un_neg pe_int))) (pa_cons (pe_un un_neg pe_int) pa_nil))))) pss_nil)
      (pss_cons (ps_set (i := 3) sc_l_spoiled.nd rfl (Or.inl rfl) (pe_lst pa_nil))
      (pss_cons (ps_for PassesOwn.never rfl (pi_range1 rfl T.z_range (pa_cons (pe_op op_add pe_int (pe_op op_mod (pv 1) pe_int)) pa_nil)) (pg_name (i := 4) sc_l_spoiled.nd rfl (Or.inl rfl))
        (pss_cons (ps_set (i := 5) sc_l_spoiled.nd rfl (Or.inl rfl) (pe_op op_mod (pe_call (ok_mixed T) hr rfl T.g_l_mixed T.F_l_mixed.kp T.b_l_mixed .nil pass0 (pa_cons (pv 1) (pa_cons (pv 4) pa_nil))) (pe_callB call_len_seq rfl T.z_len PySem.boot_len (pa_cons (pv 0) pa_nil))))
        (pss_cons (ps_asg (pe_call (ok_row T) hr rfl T.g_l_row T.F_l_row.kp T.b_l_row .nil pass0 (pa_cons (pe_ix ix_list (pv 0) (pv 5) (fun _ _ => rfl)) (pa_cons (pe_call (ok_mixed T) hr rfl T.g_l_mixed T.F_l_mixed.kp T.b_l_mixed .nil pass0 (pa_cons (pv 1) (pa_cons (pe_op op_add pe_int (pv 4)) pa_nil))) pa_nil))) (pg_sub (pv 2) (pv 5) set_list))
        (pss_one (ps_expr (pe_bm PySem.F.plainAttrs_list PySem.F.slot_list_append PySem.F.type_list_append mt_append (pv 3) (pa_cons (pv 5) pa_nil)))))))
      (pss_one (ps_ret (pe_tup (pa_cons (pv 2) (pa_cons (pe_callB (call_minL rfl) rfl T.z_min (by kernel_rfl) (pa_cons (pv 3) pa_nil)) pa_nil))))))))), ?_⟩
    refine ⟨_, rfl, v, _, rfl, .inl (SqL.of hv), fun f ff => ?_⟩
    have sf : Same H (upd H f (.lst (as.map V.ref))) := Same.upd0 ff
    have hf0 : upd H f (.lst (as.map V.ref)) f = some (.lst (as.map V.ref)) := upd_same
    have good : ∀ {H' : Hp}, Same H H' → ∀ (i : Nat) x t, (as.map V.ref)[i]? = some x → (as.map (rowTree H))[i]? = some t → Hd H' 2 x t := fun {H'} sx i x t e1 e2 => by
      rw [List.getElem?_map] at e1 e2
      cases e : as[i]? with
      | none => rw [e] at e1; cases e1
      | some a =>
        rw [e] at e1 e2
        cases e1
        cases e2
        exact (rowTree_of (rows a (List.mem_of_getElem? e))).1.same sx
    generalize upd H f (.lst (as.map V.ref)) = H0 at sf hf0 ⊢
    refine ⟨_, rfl, _, _, rfl, rfl, (by show (0 : Int) < 8; decide), rfl, _, rfl, ite2 (fun _ => ?_) (fun _ => ?_)⟩
    · refine ⟨_, rfl, (by show 8 ≤ sizeLine; decide), fun z8 fz => ⟨(by show 1 ≤ sizeLine; decide), fun d fd => ?_⟩⟩
      have s1 := (Same.upd0 (o := .lst (([0, 0, 0, 0, 0, 0, 0, 0] : List Int).map V.int)) fz).upd (o := .lst [.ref z8]) fd
      have hz : upd (upd H0 z8 (.lst (([0, 0, 0, 0, 0, 0, 0, 0] : List Int).map V.int))) d (.lst [.ref z8]) z8 = some (.lst (([0, 0, 0, 0, 0, 0, 0, 0] : List Int).map V.int)) := (Same.upd0 fd) _ _ upd_same
      have hd : upd (upd H0 z8 (.lst (([0, 0, 0, 0, 0, 0, 0, 0] : List Int).map V.int))) d (.lst [.ref z8]) d = some (.lst [.ref z8]) := upd_same
      show _
      generalize upd (upd H0 z8 (.lst (([0, 0, 0, 0, 0, 0, 0, 0] : List Int).map V.int))) d (.lst [.ref z8]) = H1 at s1 hz hd ⊢
      refine ⟨f, d, _, _, rfl, rfl, s1 _ _ hf0, hd, (by rw [List.length_map]; exact small_len (by show as.length + 1 ≤ 1000; omega)), fun q fq => ?_⟩
      have S2 := (sf.trans s1).upd (o := .lst (as.map V.ref ++ [.ref z8])) fq
      refine ⟨_, rfl, (by show 2 ≤ sizeLine; decide), fun tp ftp => ?_⟩
      refine k tp q (-1) (as.map (rowTree H) ++ [trI [0, 0, 0, 0, 0, 0, 0, 0]]) _ (S2.upd ftp) upd_same (.lst ((Same.upd0 ftp) _ _ upd_same) (by simp) (two_app (by simp) (good (S2.upd ftp)) (two_one (.ints ((Same.upd0 ftp) _ _ ((Same.upd0 fq) _ _ hz)))))) (by simp; omega) (form_bad (by simp; omega))
    refine ⟨_, rfl, _, _, rfl, rfl, (by show (0 : Int) < 8; decide), rfl, _, rfl, ite2 (fun _ => ?_) (fun _ => ?_)⟩
    · refine ⟨_, rfl, _, rfl, _, rfl, f, _, rfl, SqL.of hf0, fun q fq => ?_⟩
      have S2 := sf.upd (o := .lst ((as.map V.ref).take ((as.map V.ref).length - 1))) fq
      show _
      rw [show cutV (as.map V.ref) none (some (-1)) = _ from cut_last _]
      refine ⟨_, rfl, (by show 2 ≤ sizeLine; decide), fun tp ftp => ?_⟩
      refine k tp q (-1) ((as.map (rowTree H)).take ((as.map V.ref).length - 1)) _ (S2.upd ftp) upd_same (.lst ((Same.upd0 ftp) _ _ upd_same) (by simp) (two_take (good (S2.upd ftp)))) (by simp; omega) (form_bad (by simp; omega))
    refine ⟨(by show 0 ≤ sizeLine; decide), fun pl fp => ?_⟩
    have fp0 : H pl = none := sf.free fp
    have ne : f ≠ pl := fun z => by rw [← z, hf0] at fp; cases fp
    have em : ∀ a ∈ [f, pl], H a = none := fun a h => by
      rcases List.mem_cons.mp h with rfl | h
      · exact ff
      · rw [List.mem_singleton] at h; subst h; exact fp0
    refine ⟨_, rfl, _, _, rfl, rfl, (by show (0 : Int) < 2; decide), _, _, rfl, rfl, 1 + c % 2, rfl, by omega, by omega, for_range (lo := 0) (n := (1 + c % 2).toNat) (fun i σ H' => ∃ s4 s5 xs ts ps, σ = [some (.ref v), some (.int c), some (.ref f), some (.ref pl), s4, s5] ∧ Same H H' ∧ H' f = some (.lst xs) ∧ H' pl = some (.lst (ps.map V.int)) ∧
        xs.length = ts.length ∧ ts.length = as.length ∧ (∀ (i : Nat) x t, xs[i]? = some x → ts[i]? = some t → Hd (dr [f, pl] H') 2 x t) ∧ Spoilt ts ps ∧ ps.length = i ∧ i ≤ (1 + c % 2).toNat) ?_ ?_ ?_⟩
    · refine ⟨none, none, as.map V.ref, as.map (rowTree H), [], rfl, sf.upd fp, (Same.upd0 fp) _ _ hf0, upd_same, by simp, by simp, fun i x t e1 e2 => good (dr_of (sf.upd fp) em) i x t e1 e2, ⟨fun i t e => ?_, fun _ h => nomatch h⟩, rfl, Nat.zero_le _⟩
      rw [List.getElem?_map] at e
      cases e' : as[i]? with
      | none => rw [e'] at e; cases e
      | some a =>
        rw [e'] at e
        cases e
        rw [(rowTree_of (rows a (List.mem_of_getElem? e'))).2]
        exact ⟨(fun z => nomatch z), (fun z => nomatch z)⟩
    · rintro i σ H' hi ⟨s4, s5, xs, ts, ps, rfl, s1, hf, hp, lx, lt, ht, sp, lp, _⟩
      refine ⟨_, rfl, _, rfl, c, _, rfl, fun m m0 m1 => ⟨_, rfl, v, _, rfl, .inl (SqL.of (s1 _ _ hv)), _, _, rfl, rfl, (by show (0 : Int) < ((as.map V.ref).length : Int); rw [List.length_map]; omega), ?_⟩⟩
      have a0 := Int.emod_nonneg m (b := ((as.map V.ref).length : Int)) (by rw [List.length_map]; omega)
      have a1 := Int.emod_lt_of_pos m (b := ((as.map V.ref).length : Int)) (by rw [List.length_map]; omega)
      obtain ⟨j, ea⟩ : ∃ j : Nat, m % ((as.map V.ref).length : Int) = (j : Int) := ⟨(m % ((as.map V.ref).length : Int)).toNat, by omega⟩
      rw [ea] at a0 a1
      rw [List.length_map] at a1
      have hj : j < as.length := by omega
      have ej : as[j]? = some as[j] := List.getElem?_eq_getElem hj
      have eat : atI (as.map V.ref) (j : Int) = some (.ref as[j]) := atI_nat (by rw [List.getElem?_map, ej]; rfl)
      obtain ⟨ns, h8, ens⟩ := rows as[j] (List.getElem_mem hj)
      refine ⟨_, rfl, _, rfl, v, _, _, .ref as[j], rfl, rfl, SqL.of (s1 _ _ hv), (by rw [ea]; exact eat), ?_⟩
      refine ⟨_, rfl, _, rfl, _, _, rfl, rfl, c, _, rfl, fun m' m0' m1' => ?_⟩
      refine ⟨as[j], ns, _, rfl, s1 _ _ ens, h8, fun x t H2 s2 hx nr => ?_⟩
      have hf2 := s2 _ _ hf
      have hp2 := s2 _ _ hp
      refine ⟨_, rfl, _, rfl, f, xs, _, j, rfl, rfl, hf2, (by rw [ea]; exact ixN_nat (by omega)), ?_⟩
      have hp3 : upd H2 f (.lst (xs.set j x)) pl = some (.lst (ps.map V.int)) := by rw [upd_ne (Ne.symm ne)]; exact hp2
      refine ⟨_, rfl, .inl ⟨rfl, _, SqL.of hp3⟩, _, rfl, pl, _, _, rfl, rfl, hp3, Nat.lt_of_le_of_lt (show (ps.map V.int).length ≤ 1000 by rw [List.length_map]; omega) (small1000 (Nat.le_refl 1000)), ?_⟩
      refine ⟨_, _, xs.set j x, ts.set j t, ps ++ [(j : Int)], rfl, ((s1.trans s2).updF ff).updF fp0, ?_, ?_, by simp [lx], by simp [lt], ?_, sp.set (by omega) nr, by simp [lp], hi⟩
      · rw [upd_ne ne, upd_same]
      · rw [upd_same, List.map_append, ← ea]; rfl
      · rw [dr_upd (by simp), dr_upd (by simp)]
        refine two_set (fun i x t e1 e2 => (ht i x t e1 e2).same (dr_mono s2)) (hx.same (dr_fresh fun a h => ?_))
        rcases List.mem_cons.mp h with rfl | h
        · exact ⟨_, hf⟩
        · rw [List.mem_singleton] at h; subst h; exact ⟨_, hp⟩
    · rintro σ H' ⟨s4, s5, xs, ts, ps, rfl, s1, hf, hp, lx, lt, ht, sp, lp, _⟩
      have np : ps ≠ [] := fun z => by rw [z] at lp; have : (0 : Nat) = _ := lp; have := Int.emod_nonneg c (show (2 : Int) ≠ 0 by decide); omega
      refine ⟨_, rfl, _, rfl, pl, ps, rfl, SqL.of hp, np, fun z hz mn => ⟨(by show 2 ≤ sizeLine; decide), fun tp ftp => ?_⟩⟩
      exact k tp f z ts _ (s1.upd ftp) upd_same (.lst ((Same.upd0 ftp) _ _ hf) lx fun i x t e1 e2 => ((ht i x t e1 e2).same dr_same).same (Same.upd0 ftp)) (by omega) (form_some (by rw [lt]) sp hz mn)
end
end K41
set_option Elab.async false
set_option linter.all false
set_option maxRecDepth 100000
set_option maxHeartbeats 1000000
namespace K41
open PySem L2 PyProof.Rows
section
variable {P : Program} {w : World} {K : PySem.W.Frag} {mg : Str → Option Value} {base : Heap}
/-! ### refused -/
def spRef (C N : Addr) (more : List V) : Sp := fun vs H Q X => ∃ (p v : Addr) (F E B z : Int) (ts : List Tr), vs = [.ref p, .ref v] ++ more ∧ Lay C H p F E B ∧ Hd H 3 (.ref v) (.lst ts) ∧ ts.length ≤ 1000 ∧ formT (10 + F + E + B) ts = some z ∧
  ∀ dx H', Same H H' → H' dx = some (.xd [("at", .int z)]) → X (.ref N) (some dx) H'
theorem okx_wrong (T : Tx K mg) : FnOk P w K mg base (CX1 P w) 6 T.f_wrong T.fd_wrong ["layout", "volume", "clause"] (spRef T.C_Layout T.C_NoVolume [.str "map"]) := by
  refine T.F_wrong.okX sc_wrong (fun vs H Q E h => ?_) (fun cdv A outer s H vs Q X hr h => ?_)
  · obtain ⟨p, v, F, E, B, z, ts, rfl, _⟩ := h
    rfl
  · obtain ⟨p, v, F, E, B, z, ts, rfl, hL, hV, hn, ez, kx⟩ := h
    have r5 : Room 5 _ := hr.mono (by decide)
    refine ⟨_, pss_cons (ps_expr (pe_callX (ok_check_form T) r5 rfl T.g_check_form T.F_check_form.kp T.b_check_form .nil takes_cx (pa_cons (pv 0) (pa_cons (pv 1) pa_nil)))) pss_never, ?_⟩
    refine ⟨_, rfl, _, rfl, p, v, F, E, B, ts, rfl, hL, hV, hn, fun en H1 s1 => ?_, fun z' ez' dx H1 s1 hdx => ?_⟩
    · rw [ez] at en; cases en
    · rw [ez] at ez'
      cases ez'
      exact kx dx H1 s1 hdx
theorem okx_mend (T : Tx K mg) : FnOk P w K mg base (CX1 P w) 6 T.f_mend T.fd_mend ["layout", "volume"] (spRef T.C_Layout T.C_NoVolume []) := by
  refine T.F_mend.okX sc_mend (fun vs H Q E h => ?_) (fun cdv A outer s H vs Q X hr h => ?_)
  · obtain ⟨p, v, F, E, B, z, ts, rfl, _⟩ := h
    rfl
  · obtain ⟨p, v, F, E, B, z, ts, rfl, hL, hV, hn, ez, kx⟩ := h
    have r5 : Room 5 _ := hr.mono (by decide)
    refine ⟨_, pss_cons (ps_expr (pe_callX (ok_check_form T) r5 rfl T.g_check_form T.F_check_form.kp T.b_check_form .nil takes_cx (pa_cons (pv 0) (pa_cons (pv 1) pa_nil)))) pss_never, ?_⟩
    refine ⟨_, rfl, _, rfl, p, v, F, E, B, ts, rfl, hL, hV, hn, fun en H1 s1 => ?_, fun z' ez' dx H1 s1 hdx => ?_⟩
    · rw [ez] at en; cases en
    · rw [ez] at ez'
      cases ez'
      exact kx dx H1 s1 hdx
theorem okx_faults (T : Tx K mg) : FnOk P w K mg base (CX1 P w) 6 T.f_faults T.fd_faults ["layout", "volume"] (spRef T.C_Layout T.C_NoVolume []) := by
  refine T.F_faults.okX sc_faults (fun vs H Q E h => ?_) (fun cdv A outer s H vs Q X hr h => ?_)
  · obtain ⟨p, v, F, E, B, z, ts, rfl, _⟩ := h
    rfl
  · obtain ⟨p, v, F, E, B, z, ts, rfl, hL, hV, hn, ez, kx⟩ := h
    have r5 : Room 5 _ := hr.mono (by decide)
    refine ⟨_, pss_cons (ps_expr (pe_callX (ok_check_form T) r5 rfl T.g_check_form T.F_check_form.kp T.b_check_form .nil takes_cx (pa_cons (pv 0) (pa_cons (pv 1) pa_nil)))) pss_never, ?_⟩
    refine ⟨_, rfl, _, rfl, p, v, F, E, B, ts, rfl, hL, hV, hn, fun en H1 s1 => ?_, fun z' ez' dx H1 s1 hdx => ?_⟩
    · rw [ez] at en; cases en
    · rw [ez] at ez'
      cases ez'
      exact kx dx H1 s1 hdx
def spRefused (C : Addr) : Sp := fun vs H Q _ => ∃ (p v : Addr) (F E B z : Int) (i : Nat) (ts : List Tr), vs = [.int i, .ref p, .ref v, .int z] ∧ i < 3 ∧ Lay C H p F E B ∧ Hd H 3 (.ref v) (.lst ts) ∧ ts.length ≤ 1000 ∧ formT (10 + F + E + B) ts = some z ∧ ∀ H', Same H H' → Q (.bl true) H'
theorem ok_refused (T : Tx K mg) : FnOk P w K mg base CX0 7 T.f_l_refused T.fd_l_refused ["_law_way", "_law_layout_here", "_law_volume", "_law_at"] (spRefused T.C_Layout) := by
  refine T.F_l_refused.ok sc_l_refused (fun vs H Q E h => ?_) (fun cdv A outer s H vs Q E hr h => ?_)
  · obtain ⟨p, v, F, E, B, z, i, ts, rfl, _⟩ := h
    rfl
  · obtain ⟨p, v, F, E, B, z, i, ts, rfl, hi, hL, hV, hn, ez, k⟩ := h
    have r6 : Room 6 _ := hr.mono (by decide)
    refine ⟨_, pss_cons (ps_try (i := 4) (C := T.C_VolumeError) rfl T.g_VolumeError rfl rfl sc_l_refused.nd rfl rfl
        (fun W pn X hT => pss_cons (ps_if (pt_cmpR op_eq (pv 0) pe_int (nomark _)) (pss_one (ps_expr (pe_callX (okx_wrong T) r6 rfl T.g_wrong T.F_wrong.kp T.b_wrong .nil hT (pa_cons (pv 1) (pa_cons (pv 2) (pa_cons pe_str pa_nil)))))) pss_nil)
          (pss_cons (ps_if (pt_cmpR op_eq (pv 0) pe_int (nomark _)) (pss_one (ps_expr (pe_callX (okx_mend T) r6 rfl T.g_mend T.F_mend.kp T.b_mend .nil hT (pa_cons (pv 1) (pa_cons (pv 2) pa_nil))))) pss_nil)
          (pss_one (ps_if (pt_cmpR op_eq (pv 0) pe_int (nomark _)) (pss_one (ps_expr (pe_callX (okx_faults T) r6 rfl T.g_faults T.F_faults.kp T.b_faults .nil hT (pa_cons (pv 1) (pa_cons (pv 2) pa_nil))))) pss_nil))))
        (fun ea => pss_one (ps_ret (pe_and (pe_callB (call_isE (K := K) rfl) rfl T.z_isinstance (by kernel_rfl) (pa_cons (pv 4) (pa_cons (pe_glob (v := .ref T.C_NoVolume) rfl T.g_NoVolume rfl) pa_nil)))
          (pe_and (pe_not (pe_callB (call_isTK (K := K) rfl) rfl T.z_isinstance (by kernel_rfl) (pa_cons (pe_fldE (K := K) rfl (pv 4) rfl) (pa_cons (pe_bltn (v := .ty "bool") rfl T.z_bool (by kernel_rfl) rfl) pa_nil))))
          (pe_one (pe_cmpR op_eq (pe_fldE (K := K) rfl (pv 4) rfl) (pv 3) (nomark _)))))))
        pss_nil)
      (pss_one (ps_ret pe_bl)), ?_⟩
    have fin : ∀ (dx ea : Addr) (H1 : Hp), Same H H1 → H1 dx = some (.xd [("at", .int z)]) → H1 ea = none → ∀ H2, H2 = upd H1 ea (excO ea T.C_NoVolume (some dx)) → Same H H2 ∧ H2 ea = some (excO ea T.C_NoVolume (some dx)) ∧ H2 dx = some (.xd [("at", .int z)]) ∧ DictOf H2 (some dx) := fun dx ea H1 s1 hdx hea H2 e2 => by
      have nd : dx ≠ ea := ne_of_none hdx hea
      have ed : H2 dx = some (.xd [("at", .int z)]) := by rw [e2, upd_ne nd]; exact hdx
      exact ⟨by rw [e2]; exact s1.upd hea, by rw [e2, upd_same], ed, .inr ⟨dx, _, rfl, ed⟩⟩
    match i, hi with
    | 0, _ =>
      refine ⟨_, rfl, rfl, _, rfl, iteD rfl ?_⟩
      refine ⟨_, rfl, _, rfl, p, v, F, E, B, z, ts, rfl, hL, hV, hn, ez, fun dx H1 s1 hdx => ⟨T.C_NoVolume, rfl, T.k_match, fun ea hea => ?_⟩⟩
      obtain ⟨S2, ee, ed, eD⟩ := fin dx ea H1 s1 hdx hea _ rfl
      refine ⟨_, rfl, ea, T.C_NoVolume, some dx, _, _, true, rfl, ee, eD, T.xt_NoVolume, rfl, T.k_self, true, rfl, iteT ?_⟩
      refine ⟨_, rfl, ea, T.C_NoVolume, dx, _, .int z, rfl, ee, ed, T.xt_NoVolume, T.xh_NoVolume, T.n_NoVolume_at, rfl, rfl, _, _, _, false, rfl, TyOf.int z, rfl, _, rfl, true, rfl, iteT ?_⟩
      refine ⟨_, rfl, ea, T.C_NoVolume, dx, _, .int z, rfl, ee, ed, T.xt_NoVolume, T.xh_NoVolume, T.n_NoVolume_at, rfl, rfl, _, rfl, rfl, ?_⟩
      have kk := k _ S2
      rw [decide_eq_true rfl]
      exact kk
    | 1, _ =>
      refine ⟨_, rfl, rfl, _, rfl, iteDF (int_ne (by decide)) ?_⟩
      refine ⟨_, rfl, rfl, _, rfl, iteD rfl ?_⟩
      refine ⟨_, rfl, _, rfl, p, v, F, E, B, z, ts, rfl, hL, hV, hn, ez, fun dx H1 s1 hdx => ⟨T.C_NoVolume, rfl, T.k_match, fun ea hea => ?_⟩⟩
      obtain ⟨S2, ee, ed, eD⟩ := fin dx ea H1 s1 hdx hea _ rfl
      refine ⟨_, rfl, ea, T.C_NoVolume, some dx, _, _, true, rfl, ee, eD, T.xt_NoVolume, rfl, T.k_self, true, rfl, iteT ?_⟩
      refine ⟨_, rfl, ea, T.C_NoVolume, dx, _, .int z, rfl, ee, ed, T.xt_NoVolume, T.xh_NoVolume, T.n_NoVolume_at, rfl, rfl, _, _, _, false, rfl, TyOf.int z, rfl, _, rfl, true, rfl, iteT ?_⟩
      refine ⟨_, rfl, ea, T.C_NoVolume, dx, _, .int z, rfl, ee, ed, T.xt_NoVolume, T.xh_NoVolume, T.n_NoVolume_at, rfl, rfl, _, rfl, rfl, ?_⟩
      have kk := k _ S2
      rw [decide_eq_true rfl]
      exact kk
    | 2, _ =>
      refine ⟨_, rfl, rfl, _, rfl, iteDF (int_ne (by decide)) ?_⟩
      refine ⟨_, rfl, rfl, _, rfl, iteDF (int_ne (by decide)) ?_⟩
      refine ⟨_, rfl, rfl, _, rfl, iteD rfl ?_⟩
      refine ⟨_, rfl, _, rfl, p, v, F, E, B, z, ts, rfl, hL, hV, hn, ez, fun dx H1 s1 hdx => ⟨T.C_NoVolume, rfl, T.k_match, fun ea hea => ?_⟩⟩
      obtain ⟨S2, ee, ed, eD⟩ := fin dx ea H1 s1 hdx hea _ rfl
      refine ⟨_, rfl, ea, T.C_NoVolume, some dx, _, _, true, rfl, ee, eD, T.xt_NoVolume, rfl, T.k_self, true, rfl, iteT ?_⟩
      refine ⟨_, rfl, ea, T.C_NoVolume, dx, _, .int z, rfl, ee, ed, T.xt_NoVolume, T.xh_NoVolume, T.n_NoVolume_at, rfl, rfl, _, _, _, false, rfl, TyOf.int z, rfl, _, rfl, true, rfl, iteT ?_⟩
      refine ⟨_, rfl, ea, T.C_NoVolume, dx, _, .int z, rfl, ee, ed, T.xt_NoVolume, T.xh_NoVolume, T.n_NoVolume_at, rfl, rfl, _, rfl, rfl, ?_⟩
      have kk := k _ S2
      rw [decide_eq_true rfl]
      exact kk
end
end K41
set_option Elab.async false
set_option linter.all false
set_option maxRecDepth 100000
set_option maxHeartbeats 1000000
namespace K41
open PySem L2 PyProof.Rows
section
variable {P : Program} {w : World} {K : PySem.W.Frag} {mg : Str → Option Value} {base : Heap}
/-- a volume under way: rows of eight, apart, made since -/
structure VW (H0 H : Hp) (v : Addr) (as : List Addr) (rows : List (List Int)) (n : Int) : Prop where
  same : Same H0 H
  nv : H0 v = none
  na : ∀ a ∈ as, H0 a = none
  vol : Vol H v as rows
  len : (rows.length : Int) = n
  l8 : ∀ r ∈ rows, r.length = 8
theorem VW.on {H0 H H' : Hp} {v : Addr} {as : List Addr} {rows : List (List Int)} {n : Int} (h : VW H0 H v as rows n) (s : Same H H') : VW H0 H' v as rows n := ⟨h.same.trans s, h.nv, h.na, h.vol.same s, h.len, h.l8⟩
theorem VW.set {H0 H : Hp} {v q : Addr} {as : List Addr} {rows : List (List Int)} {n : Int} {i : Nat} {r : List Int} (h : VW H0 H v as rows n) (fq : H q = none) (l8 : r.length = 8) : VW H0 (upd (upd H q (.lst (r.map V.int))) v (.lst ((as.map V.ref).set i (.ref q)))) v (as.set i q) (rows.set i r) n := by
  have h1 := h.on (Same.upd0 (o := .lst (r.map V.int)) fq)
  have f := h.vol.fresh fq
  refine ⟨h1.same.updF h.nv, h.nv, fun a ha => ?_, h1.vol.set upd_same f.1 f.2, by rw [List.length_set]; exact h.len, fun x hx => ?_⟩
  · rcases List.mem_or_eq_of_mem_set ha with ha | ha
    · exact h.na a ha
    · rw [ha]; exact h.same.free fq
  · rcases List.mem_or_eq_of_mem_set hx with hx | hx
    · exact h.l8 x hx
    · rw [hx]; exact l8
theorem VW.put {H0 H : Hp} {v a : Addr} {as : List Addr} {rows : List (List Int)} {n m : Int} {i j : Nat} {r : List Int} (h : VW H0 H v as rows n) (ha : as[i]? = some a) (hr : rows[i]? = some r) : VW H0 (upd H a (.lst ((r.map V.int).set j (.int m)))) v as (rows.set i (r.set j m)) n := by
  refine ⟨h.same.updF (h.na a (List.mem_of_getElem? ha)), h.nv, h.na, h.vol.put ha hr, by rw [List.length_set]; exact h.len, fun x hx => ?_⟩
  rcases List.mem_or_eq_of_mem_set hx with hx | hx
  · exact h.l8 x hx
  · rw [hx, List.length_set]; exact h.l8 r (List.mem_of_getElem? hr)
theorem VW.at {H0 H : Hp} {v : Addr} {as : List Addr} {rows : List (List Int)} {n : Int} (h : VW H0 H v as rows n) {i : Nat} (hi : (i : Int) < n) : ∃ a r, as[i]? = some a ∧ rows[i]? = some r ∧ r.length = 8 ∧ atI (as.map V.ref) (i : Int) = some (.ref a) ∧ H a = some (.lst (r.map V.int)) := by
  have hl : i < rows.length := by have := h.len; omega
  have e := List.getElem?_eq_getElem hl
  obtain ⟨a, h1, h2, h3⟩ := Vol.rowAt h.vol e
  exact ⟨a, _, h1, e, h.l8 _ (List.getElem_mem hl), h2, h3⟩

/-! ### a volume near the bounds -/
def spNear (K : PySem.W.Frag) (C : Addr) : Sp := fun vs H Q _ => ∃ (p a : Addr) (F E B : Int) (ns : List Int), vs = [.ref p, .ref a] ∧ Lay C H p F E B ∧ LayOk F E B ∧ SqL K H a (ns.map V.int) ∧ ns.length ≤ 63 ∧
  ∀ (v : Addr) (as : List Addr) (rows : List (List Int)) (H' : Hp), VW H H' v as rows (10 + F + E + B) → Q (.ref v) H'
theorem ok_near (T : Tx K mg) : FnOk P w K mg base CX0 2 T.f_l_near T.fd_l_near ["_law_layout_here", "_law_script"] (spNear K T.C_Layout) := by
  refine T.F_l_near.ok sc_l_near (fun vs H Q E h => ?_) (fun cdv A outer s H vs Q E hr h => ?_)
  · obtain ⟨p, a, F, E, B, ns, rfl, _⟩ := h
    rfl
  · obtain ⟨p, a, F, E, B, ns, rfl, ⟨dx, hp⟩, ok, hS, hl, k⟩ := h
    have r1 : Room 1 _ := hr.mono (by decide)
    refine ⟨_, @pss_cons _ _ _ _ _ (ps_set (i := 2) sc_l_near.nd rfl (Or.inl rfl) (pe_op op_add (pe_op op_add (pe_op op_add pe_int (pe_fld (pv 0) rfl)) (pe_fld (pv 0) rfl)) (pe_fld (pv 0) rfl)))
      (@pss_cons _ _ _ _ _ (ps_set (i := 3) sc_l_near.nd rfl (Or.inr rfl) (pe_call (ok_cell T) r1 rfl T.g_l_cell T.F_l_cell.kp T.b_l_cell .nil pass0 (pa_cons (pv 1) (pa_cons pe_int pa_nil))))
      (@pss_cons _ _ _ _ _ (ps_setComp (i := 4) (N' := ["_law_block", "_law_cell_here"]) (cap := [none, some 3]) sc_l_near.nd rfl rfl rfl (compOk_of (by kernel_rfl)) (pi_range1 rfl T.z_range (pa_cons (pv 2) pa_nil))
        (fun cells C s₀ H₀ fp pins => ⟨pg_name (i := 0) (ndp2 (by decide +kernel)) rfl (Or.inr rfl) (.inl rfl), pifs_nil,
          pe_comp (N' := ["_law_place", "_law_block", "_law_cell_here"]) (cap := [none, some 0, some 1]) rfl (compOk_of (by kernel_rfl)) (pi_range1 rfl T.z_range (pa_cons pe_int pa_nil))
            (fun cells C s₀ H₀ fp pins => ⟨pg_name (i := 0) (ndp3 (by decide +kernel) (by decide +kernel) (by decide +kernel)) rfl (Or.inl rfl) (.inr rfl), pifs_nil,
              pe_op op_mod (pe_op op_mul (pe_call (ok_mixed T) r1 rfl T.g_l_mixed T.F_l_mixed.kp T.b_l_mixed .nil pass0 (pa_cons (pv 2) (pa_cons (pe_op op_add (pe_op op_mul pe_int (pv 1)) (pv 0)) pa_nil))) pe_int) (pe_op op_pow pe_int pe_int)⟩)⟩))
      (@pss_cons _ _ _ _ _ (ps_for PassesOwn.never rfl (pi_list (pe_slice sl_list (pv 1) (po_some pe_int) (po_some (pe_op op_add pe_int (pe_op op_mod (pe_op op_fdiv (pe_call (ok_cell T) r1 rfl T.g_l_cell T.F_l_cell.kp T.b_l_cell .nil pass0 (pa_cons (pv 1) (pa_cons pe_int pa_nil))) pe_int) pe_int))))) (pg_name (i := 5) sc_l_near.nd rfl (Or.inl rfl))
        (@pss_cons _ _ _ _ _ (@ps_set _ _ 6 _ _ _ _ sc_l_near.nd rfl (Or.inl rfl) (@pe_lst _ _ _ _ (@pa_cons _ _ _ _ _ (pe_un un_neg pe_int) (@pa_cons _ _ _ _ _ (pe_op op_pow pe_int pe_int) (@pa_cons _ _ _ _ _ (pe_op op_sub (pe_op op_pow pe_int pe_int) pe_int) (@pa_cons _ _ _ _ _ pe_int (@pa_cons _ _ _ _ _ (pe_op op_sub pe_int (pe_op op_mod (pv 5) (pe_op op_pow pe_int pe_int))) (@pa_cons _ _ _ _ _ (pe_op op_add (pe_op op_pow pe_int pe_int) (pe_op op_mod (pv 5) (pe_op op_pow pe_int pe_int))) pa_nil rfl) rfl) rfl) rfl) rfl) rfl)) rfl (.inr rfl))
        (@pss_one _ _ _ (ps_asg (pe_ix ix_list (pv 6) (pe_op op_mod (pe_op op_fdiv (pv 5) pe_int) pe_int) (fun _ _ => rfl)) (pg_sub (pe_ix ix_list (pv 4) (pe_op op_mod (pe_op op_fdiv (pv 5) pe_int) (pv 2)) (fun _ _ => rfl)) (pe_op op_mod (pv 5) pe_int) set_list)))))
      (@pss_one _ _ _ (ps_ret (pv 4)))))), ?_⟩
    have f1 := ok.f1; have f2 := ok.f2; have e1 := ok.e1; have e2 := ok.e2; have b1 := ok.b1; have b2 := ok.b2
    have hN : (10 + F + E + B).toNat ≤ 1000 := by omega
    refine ⟨_, rfl, p, T.C_Layout, dx, _, _, rfl, hp, T.cl_Layout, T.n_Layout_files, lay_files _ _ _, _, _, rfl, rfl, _, rfl, p, T.C_Layout, dx, _, _, rfl, hp, T.cl_Layout, T.n_Layout_slots, lay_slots _ _ _, _, _, rfl, rfl, _, rfl, p, T.C_Layout, dx, _, _, rfl, hp, T.cl_Layout, T.n_Layout_data, lay_data _ _ _, _, _, rfl, rfl, ?_⟩
    refine ⟨_, rfl, a, ns, 1, rfl, hS, hl, fun c => ?_⟩
    refine ⟨_, rfl, (10 + F + E + B), rfl, by omega, by omega, ?_⟩
    refine comp_range (cap := [none, some 3]) (σ := [some (.ref p), some (.ref a), some (.int (10 + F + E + B)), some (.int c), none, none, none]) (small_len hN) (fun i ys σ H' => ∃ (as : List Addr) (rows : List (List Int)), ys = as.map V.ref ∧ as.length = i ∧ i ≤ (10 + F + E + B).toNat ∧ (∃ s0, σ = [s0, some (.int c)]) ∧ Rows H H' as rows ∧ ∀ r ∈ rows, r.length = 8)
      (by exact ⟨[], [], rfl, rfl, Nat.zero_le _, ⟨none, rfl⟩, Rows.nil, fun _ h => (nomatch h)⟩) (fun i ys σ H' ⟨as, rows, h1, h2, h3, _⟩ => ⟨h3, by rw [h1]; simp [h2]⟩) ?_ ?_
    · rintro i ys σ H' hi ⟨as, rows, rfl, h2, h3, ⟨s0, rfl⟩, hR, h8⟩
      refine ⟨(8 : Int), rfl, by decide, by decide, ?_⟩
      refine comp_range (cap := [none, some 0, some 1]) (σ := [some (.int (0 + i)), some (.int c)]) (small_len (n := 8) (by decide)) (fun j zs σ' H2 => ∃ ns : List Int, zs = ns.map V.int ∧ ns.length = j ∧ j ≤ 8 ∧ (∃ s0, σ' = [s0, some (.int (0 + i)), some (.int c)]) ∧ H2 = H')
        (by exact ⟨[], rfl, rfl, Nat.zero_le _, ⟨none, rfl⟩, rfl⟩) (fun j zs σ' H2 ⟨ns, h1, h2, h3, _⟩ => ⟨h3, by rw [h1]; simp [h2]⟩) ?_ ?_
      · rintro j zs σ' H2 hj ⟨ns, rfl, g2, g3, ⟨s0', rfl⟩, rfl⟩
        refine ⟨_, rfl, _, rfl, _, _, rfl, rfl, .inl ⟨by decide, by decide⟩, _, rfl, _, _, rfl, rfl, c, _, rfl, fun z _ _ => ⟨_, _, rfl, rfl, .inr ⟨by decide, by decide⟩, _, _, rfl, rfl, ⟨by decide, by decide, by decide⟩, _, _, rfl, rfl, (by show (0 : Int) < 10 ^ 12; decide), ns ++ [z * 466 % 10 ^ 12], ?_, by simp [g2], hj, ⟨_, rfl⟩, rfl⟩⟩
        rw [List.map_append]
        rfl
      · rintro zs σ' H2 ⟨ns, rfl, g2, g3, ⟨s0', rfl⟩, rfl⟩ D hD
        refine ⟨as ++ [D], rows ++ [ns], by simp, by simp [h2], hi, ⟨_, rfl⟩, hR.add (Same.upd0 hD) hD upd_same, fun r hr => ?_⟩
        rcases List.mem_append.mp hr with hr | hr
        · exact h8 r hr
        · have : r = ns := by simpa using hr
          rw [this]; exact g2
    rintro ys σ H1 ⟨as, rows, rfl, h2, h3, _, hR, h8⟩ v fv
    have W0 : VW H (upd H1 v (.lst (as.map V.ref))) v as rows (10 + F + E + B) := ⟨hR.same.upd fv, hR.same.free fv, hR.new, hR.vol fv, by rw [← hR.len, h2]; omega, h8⟩
    clear hR h8 h2 h3
    generalize upd H1 v (.lst (as.map V.ref)) = H2 at W0 ⊢
    refine ⟨_, rfl, _, rfl, _, rfl, a, ns, 2, rfl, W0.same.seq hS, hl, fun c2 => ⟨_, _, rfl, rfl, ⟨by decide, by decide⟩, _, _, rfl, rfl, (by show (0 : Int) < 3; decide), _, _, rfl, rfl, _, rfl, a, _, rfl, W0.same.seq hS, fun L fL => ?_⟩⟩
    have cz : ∀ x ∈ cutV (ns.map V.int) (some 3) (some (3 + c2 / 2 % 3)), ∃ n : Int, x = .int n := fun x hx => by
      have := List.mem_of_mem_drop (List.mem_of_mem_take hx)
      obtain ⟨n, _, e⟩ := List.mem_map.mp this
      exact ⟨n, e.symm⟩
    show _
    have W1 := W0.on (Same.upd0 (o := .lst (cutV (ns.map V.int) (some 3) (some (3 + c2 / 2 % 3)))) fL)
    have hL : upd H2 L (.lst (cutV (ns.map V.int) (some 3) (some (3 + c2 / 2 % 3)))) L = some (.lst (cutV (ns.map V.int) (some 3) (some (3 + c2 / 2 % 3)))) := upd_same
    have nLa := W0.vol.fresh fL
    refine ⟨L, rfl, ⟨_, SqL.of hL⟩, ?_⟩
    generalize upd H2 L (.lst (cutV (ns.map V.int) (some 3) (some (3 + c2 / 2 % 3)))) = H3 at W1 hL ⊢
    generalize cutV (ns.map V.int) (some 3) (some (3 + c2 / 2 % 3)) = cs at cz hL
    refine for_list (K := K) (a := L) (xs := cs) (fun i σ H' => ∃ x5 x6 rows, σ = [some (.ref p), some (.ref a), some (.int (10 + F + E + B)), some (.int c), some (.ref v), x5, x6] ∧ H' L = some (.lst cs) ∧ VW H H' v as rows (10 + F + E + B))
      ⟨none, none, rows, rfl, hL, W1⟩ (fun i σ H' _ ⟨_, _, _, _, h, _⟩ => SqL.of h) ?_ ?_
    · rintro i x σ H5 hx ⟨x5, x6, rows, rfl, hL, W⟩
      obtain ⟨n, rfl⟩ := cz x (List.mem_of_getElem? hx)
      refine ⟨_, rfl, _, _, rfl, rfl, ⟨by decide, by decide, by decide⟩, _, _, rfl, rfl, ⟨by decide, by decide, by decide⟩, _, _, rfl, rfl, ?_⟩
      refine ⟨_, rfl, _, _, rfl, rfl, ⟨by decide, by decide, by decide⟩, _, _, rfl, rfl, (by show (0 : Int) < 10 ^ 40; decide), _, _, rfl, rfl, ?_⟩
      refine ⟨_, _, rfl, rfl, ⟨by decide, by decide, by decide⟩, _, rfl, _, _, rfl, rfl, ⟨by decide, by decide, by decide⟩, _, _, rfl, rfl, (by show (0 : Int) < 10 ^ 39; decide), _, _, rfl, rfl, ?_⟩
      refine ⟨(by show 6 ≤ sizeLine; decide), fun sl fsl => ?_⟩
      have W6 := W.on (Same.upd0 (o := .lst (([-1, 10 ^ 12, 10 ^ 12 - 1, 0, 0 - n % 10 ^ 40, 10 ^ 12 + n % 10 ^ 39] : List Int).map V.int)) fsl)
      have hL6 := (Same.upd0 (o := .lst (([-1, 10 ^ 12, 10 ^ 12 - 1, 0, 0 - n % 10 ^ 40, 10 ^ 12 + n % 10 ^ 39] : List Int).map V.int)) fsl) _ _ hL
      have hs6 : upd H5 sl (.lst (([-1, 10 ^ 12, 10 ^ 12 - 1, 0, 0 - n % 10 ^ 40, 10 ^ 12 + n % 10 ^ 39] : List Int).map V.int)) sl = _ := upd_same
      obtain ⟨m, _, em⟩ := at_mem (ns := [-1, 10 ^ 12, 10 ^ 12 - 1, 0, 0 - n % 10 ^ 40, 10 ^ 12 + n % 10 ^ 39]) (i := n / 512 % 6) (by omega) (by show n / 512 % 6 < 6; omega)
      have z0 := Int.emod_nonneg (n / 8) (b := 10 + F + E + B) (by omega)
      have z1 := Int.emod_lt_of_pos (n / 8) (b := 10 + F + E + B) (by omega)
      obtain ⟨b, eb⟩ := Int.eq_ofNat_of_zero_le z0
      obtain ⟨ab, r, eab, er, l8, atb, hab⟩ := W6.at (i := b) (by omega)
      obtain ⟨j, ej⟩ := Int.eq_ofNat_of_zero_le (show 0 ≤ n % 8 by omega)
      have hj : j < 8 := by omega
      refine ⟨_, rfl, _, rfl, _, _, rfl, rfl, ⟨by decide, by decide⟩, _, _, rfl, rfl, (by show (0 : Int) < 6; decide), sl, _, _, .int m, rfl, rfl, SqL.of hs6, em, ?_⟩
      refine ⟨_, rfl, _, rfl, _, _, rfl, rfl, ⟨by decide, by decide⟩, _, rfl, _, _, rfl, rfl, (by show 0 < 10 + F + E + B; omega), v, _, _, .ref ab, rfl, rfl, SqL.of W6.vol.top, (by show atI _ (n / 8 % (10 + F + E + B)) = _; rw [eb]; exact atb), _, rfl, _, _, rfl, rfl, (by show (0 : Int) < 8; decide), ab, _, _, j, rfl, rfl, hab, (by show ixN _ (n % 8) = _; rw [ej]; exact ixN_nat (by rw [List.length_map]; omega)), ?_⟩
      have nab : L ≠ ab := fun z => nLa.1 (by rw [z]; exact List.mem_of_getElem? eab)
      exact ⟨_, _, _, rfl, by rw [upd_ne nab]; exact hL6, W6.put eab er⟩
    rintro σ H5 ⟨x5, x6, rows, rfl, _, W⟩
    exact ⟨_, rfl, k v as rows H5 W⟩
end
end K41
set_option Elab.async false
set_option linter.all false
set_option maxRecDepth 100000
set_option maxHeartbeats 1000000
namespace K41
open PySem L2 PyProof.Rows
section
variable {P : Program} {w : World} {K : PySem.W.Frag} {mg : Str → Option Value} {base : Heap}
/-! ### the law -/
def wV : List V := [.str "bounds", .str "head", .str "journal", .str "kind", .str "size", .str "piece", .str "name", .str "ring", .str "found", .str "count", .str "map"]
def spLaw (K : PySem.W.Frag) : Sp := fun vs H Q _ => ∃ (a : Addr) (ns : List Int), vs = [.ref a] ∧ SqL K H a (ns.map V.int) ∧ ns.length ≤ 63 ∧ ∀ H', Q (.bl true) H'
theorem ok_law (T : Tx K mg) : FnOk P w K mg base CX0 12 T.f_law T.fd_law ["_law_script"] (spLaw K) := by
  refine T.F_law.ok sc_law (fun vs H Q E h => ?_) (fun cdv A outer s H vs Q E hr h => ?_)
  · obtain ⟨a, ns, rfl, _⟩ := h
    rfl
  · obtain ⟨a, ns, rfl, hS, hl, k⟩ := h
    have hu : _ + 60 < cLine := Nat.lt_of_le_of_lt (Nat.add_le_add_left (by decide : 60 ≤ 64) _) hr.units
    have r1 : Room 1 _ := hr.mono (by decide)
    have r2 : Room 2 _ := hr.mono (by decide)
    have r3 : Room 3 _ := hr.mono (by decide)
    have r7 : Room 7 _ := hr.mono (by decide)
    have r8 : Room 8 _ := hr.mono (by decide)
    refine ⟨_, pss_cons (ps_set (i := 1) sc_law.nd rfl (Or.inr rfl) (pe_call (ok_layout T) r3 rfl T.g_l_layout T.F_l_layout.kp T.b_l_layout .nil pass0 (pa_cons (pv 0) pa_nil)))
      (pss_cons (ps_set (i := 2) sc_law.nd rfl (Or.inl rfl) (pe_call (ok_any T) r3 rfl T.g_l_any T.F_l_any.kp T.b_l_any .nil pass0 (pa_cons (pv 1) (pa_cons (pe_call (ok_cell T) r1 rfl T.g_l_cell T.F_l_cell.kp T.b_l_cell .nil pass0 (pa_cons (pv 0) (pa_cons pe_int pa_nil))) pa_nil))))
      (pss_cut (ps_if (pt_cmpR op_eq (pe_op op_mod (pe_call (ok_cell T) r1 rfl T.g_l_cell T.F_l_cell.kp T.b_l_cell .nil pass0 (pa_cons (pv 0) (pa_cons pe_int pa_nil))) pe_int) pe_int (nomark _)) (pss_one (ps_set (i := 2) sc_law.nd rfl (Or.inl rfl) (pe_call (ok_near T) r2 rfl T.g_l_near T.F_l_near.kp T.b_l_near .nil pass0 (pa_cons (pv 1) (pa_cons (pv 0) pa_nil))))) pss_nil)
      (pss_cons (ps_set (i := 3) sc_law.nd rfl (Or.inl rfl) (pe_lst pa_nil))
      (pss_cons (ps_for PassesOwn.never rfl (pi_range1 rfl T.z_range (pa_cons (pe_callB call_len_seq rfl T.z_len PySem.boot_len (pa_cons (pv 2) pa_nil)) pa_nil)) (pg_name (i := 4) sc_law.nd rfl (Or.inl rfl))
        (pss_one (ps_for PassesOwn.never rfl (pi_range1 rfl T.z_range (pa_cons pe_int pa_nil)) (pg_name (i := 5) sc_law.nd rfl (Or.inl rfl))
          (pss_one (ps_if (PW.pt (pw_or (pt_cmpR op_lt (pe_ix ix_list (pe_ix ix_list (pv 2) (pv 4) (fun _ _ => rfl)) (pv 5) (fun _ _ => rfl)) pe_int (nomark _)) (pw_or1 (pt_cmpR op_ge (pe_ix ix_list (pe_ix ix_list (pv 2) (pv 4) (fun _ _ => rfl)) (pv 5) (fun _ _ => rfl)) (pe_op op_pow pe_int pe_int) (nomark _)))))
            (pss_one (ps_expr (pe_bm PySem.F.plainAttrs_list PySem.F.slot_list_append PySem.F.type_list_append mt_append (pv 3) (pa_cons (pe_tup (pa_cons (pv 4) (pa_cons (pv 5) (pa_cons pe_int pa_nil)))) pa_nil)))) pss_nil)))))
      (@pss_cons _ _ _ _ _ (@ps_set _ _ 6 _ _ _ _ sc_law.nd rfl (Or.inl rfl) (@pe_tup _ _ _ _ _ (@pa_cons _ _ _ _ _ pe_str (@pa_cons _ _ _ _ _ pe_str (@pa_cons _ _ _ _ _ pe_str (@pa_cons _ _ _ _ _ pe_str (@pa_cons _ _ _ _ _ pe_str (@pa_cons _ _ _ _ _ pe_str (@pa_cons _ _ _ _ _ pe_str (@pa_cons _ _ _ _ _ pe_str (@pa_cons _ _ _ _ _ pe_str (@pa_cons _ _ _ _ _ pe_str (@pa_cons _ _ _ _ _ pe_str pa_nil rfl) rfl) rfl) rfl) rfl) rfl) rfl) rfl) rfl) rfl) rfl)) rfl (.inr rfl))
      (pss_cons (ps_if (PW.pt (pw_or (pt_cmpR (op_neU hu) (pe_glob (v := .ref T.p_CLAUSES) rfl T.g_CLAUSES rfl) (pv 6) (nomark _)) (pw_or1 (pt_not (pt_val (pe_call (ok_told T) r8 rfl T.g_l_told T.F_l_told.kp T.b_l_told .nil pass0 (pa_cons (pv 1) (pa_cons (pv 2) (pa_cons pe_str (pa_cons (pv 3) pa_nil)))))))))) (pss_one (ps_ret pe_bl)) pss_nil)
      (pss_cons (ps_asg (pe_call (ok_spoiled T) r2 rfl T.g_l_spoiled T.F_l_spoiled.kp T.b_l_spoiled .nil pass0 (pa_cons (pv 2) (pa_cons (pe_call (ok_cell T) r1 rfl T.g_l_cell T.F_l_cell.kp T.b_l_cell .nil pass0 (pa_cons (pv 0) (pa_cons pe_int pa_nil))) pa_nil))) (pg_tup rfl (pgs_cons (pg_name (i := 7) sc_law.nd rfl (Or.inr rfl)) (pgs_cons (pg_name (i := 8) sc_law.nd rfl (Or.inr rfl)) pgs_nil))))
      (pss_one (ps_ret (pe_callB (call_allL rfl) rfl T.z_all boot_all (pa_cons (pe_comp (N' := ["_law_way", "_law_layout_here", "_law_spoiled_here", "_law_at"]) (cap := [none, some 1, some 7, some 8]) rfl (compOk_of (by kernel_rfl)) (pi_range1 rfl T.z_range (pa_cons pe_int pa_nil))
        (fun cells C s₀ H₀ fp pins => ⟨pg_name (i := 0) (ndp4 (by decide +kernel) (by decide +kernel) (by decide +kernel) (by decide +kernel) (by decide +kernel) (by decide +kernel)) rfl (Or.inl rfl) (.inr rfl), pifs_nil, pe_call (ok_refused T) r7 rfl T.g_l_refused T.F_l_refused.kp T.b_l_refused .nil pass0 (pa_cons (pv 0) (pa_cons (pv 1) (pa_cons (pv 2) (pa_cons (pv 3) pa_nil))))⟩)) pa_nil))))))))))), ?_⟩
    refine ⟨_, rfl, a, ns, rfl, hS, hl, fun p F E B H1 ok L1 s1 => ?_⟩
    have f1 := ok.f1; have f2 := ok.f2; have e1 := ok.e1; have e2 := ok.e2; have b1 := ok.b1; have b2 := ok.b2
    refine ⟨_, rfl, _, rfl, a, ns, 1, rfl, s1.seq hS, hl, fun c1 => ⟨p, F, E, B, c1, rfl, L1, ok, fun v as rows H2 s2 nv na hV lv h8 => ?_⟩⟩
    refine ⟨fun σ H' => ∃ v as rows, σ = [some (.ref a), some (.ref p), some (.ref v), none, none, none, none, none, none] ∧ Same H H' ∧ VolOk T.C_Layout H' p v F E B as rows, ?_, ?_⟩
    · refine ⟨_, rfl, a, ns, 2, rfl, (s1.trans s2).seq hS, hl, fun c2 => ⟨_, _, rfl, rfl, (by show (0 : Int) < 2; decide), rfl, _, rfl, ite2 (fun _ => ?_) (fun _ => ⟨v, as, rows, rfl, s1.trans s2, L1.same s2, ok, hV, lv, h8⟩)⟩⟩
      refine ⟨_, rfl, _, rfl, p, a, F, E, B, ns, rfl, L1.same s2, ok, (s1.trans s2).seq hS, hl, fun v as rows H3 W => ⟨v, as, rows, rfl, (s1.trans s2).trans W.same, (L1.same s2).same W.same, ok, W.vol, W.len, W.l8⟩⟩
    clear hV h8 lv nv na
    rintro σ H3 ⟨v, as, rows, rfl, S3, O3⟩
    have lr := O3.2.2.2.1
    have h8 := O3.2.2.2.2
    have V3 := O3.2.2.1
    have la : as.length = rows.length := V3.len
    refine ⟨(by show 0 ≤ sizeLine; decide), fun d fd => ?_⟩
    have s0 : Same H3 (upd H3 d (.lst [])) := Same.upd0 fd
    have fdH : H d = none := S3.free fd
    refine ⟨_, rfl, v, _, rfl, .inl (SqL.of (s0 _ _ V3.top)), ((as.map V.ref).length : Int), rfl, by omega, by rw [List.length_map]; omega, ?_⟩
    rw [List.length_map, la]
    refine for_range (fun i σ H' => ∃ x4 x5 ts, σ = [some (.ref a), some (.ref p), some (.ref v), some (.ref d), x4, x5, none, none, none] ∧ i ≤ rows.length ∧ Same H3 H' ∧ Ts H' d ts (bAll rows i))
      ⟨none, none, [], rfl, Nat.zero_le _, s0, upd_same, TI3.nil⟩ ?_ ?_
    · rintro i σ H' hi ⟨x4, x5, ts, rfl, _, sH, hT⟩
      have hi : i < rows.length := by omega
      have e0 : (0 : Int) + (i : Int) = (i : Int) := by omega
      rw [e0]
      have er : rows[i]? = some (rows.getD i []) := by rw [List.getD_eq_getElem?_getD, List.getElem?_eq_getElem hi]; rfl
      have l8 := h8 _ (List.mem_of_getElem? er)
      obtain ⟨ra, ea, at1, ha⟩ := Vol.rowAt V3 er
      refine ⟨8, rfl, by decide, by decide, ?_⟩
      refine for_range (fun j σ H' => j ≤ 8 ∧ ∃ x5 ts, σ = [some (.ref a), some (.ref p), some (.ref v), some (.ref d), some (.int (i : Int)), x5, none, none, none] ∧ Same H3 H' ∧ Ts H' d ts (bAll rows i ++ bRow (i : Int) (rows.getD i []) j))
        ⟨Nat.zero_le _, x5, ts, rfl, sH, by rw [show bRow (i : Int) (rows.getD i []) 0 = [] from rfl, List.append_nil]; exact hT⟩ ?_ ?_
      · rintro j σ H5 hj ⟨_, x5, ts, rfl, sH, hT⟩
        have hj : j < 8 := hj
        have e0 : (0 : Int) + (j : Int) = (j : Int) := by omega
        rw [e0]
        have atj : atI ((rows.getD i []).map V.int) (j : Int) = some (.int ((rows.getD i []).getD j 0)) := getD_at (j := j) (by omega)
        rw [bRow_succ, ← List.append_assoc]
        have lts : ts.length ≤ 900 := by rw [hT.it.len, List.length_append]; have h1 := bAll_len rows i; have h2 := bRow_len (i : Int) (rows.getD i []) j; omega
        generalize (rows.getD i []).getD j 0 = n at atj
        have yes : bad n → ∀ t, H5 t = none → j + 1 ≤ 8 ∧ ∃ x5 ts', [some (.ref a), some (.ref p), some (.ref v), some (.ref d), some (V.int (i : Int)), some (.int (j : Int)), none, none, none] = [some (.ref a), some (.ref p), some (.ref v), some (.ref d), some (.int (i : Int)), x5, none, none, none] ∧ Same H3 (upd (upd H5 t (.tup [.int (i : Int), .int (j : Int), .int 0])) d (.lst (ts.map V.ref ++ [.ref t]))) ∧ Ts (upd (upd H5 t (.tup [.int (i : Int), .int (j : Int), .int 0])) d (.lst (ts.map V.ref ++ [.ref t]))) d ts' (bAll rows i ++ bRow (i : Int) (rows.getD i []) j ++ if bad n then [((i : Int), (j : Int), 0)] else []) := fun hb t ft => by
          refine ⟨hj, _, ts ++ [t], rfl, (sH.upd ft).updF fd, ⟨by rw [upd_same]; simp, ?_⟩⟩
          rw [if_pos hb]
          exact (hT.it.add (p := ((i : Int), (j : Int), 0)) (tups_new ft) upd_same).tups (tups_lst ((Same.upd0 ft) _ _ hT.top))
        refine ⟨_, rfl, _, rfl, v, _, _, .ref ra, rfl, rfl, SqL.of (sH _ _ V3.top), at1, _, rfl, ra, _, _, _, rfl, rfl, SqL.of (sH _ _ ha), atj, _, _, rfl, rfl, _, rfl, ite2 (fun h1 => iteT ?_) (fun h1 => ?_)⟩
        · refine ⟨_, rfl, .inl ⟨rfl, _, SqL.of hT.top⟩, _, rfl, _, rfl, (by show 3 ≤ sizeLine; decide), fun t ft => ?_⟩
          exact ⟨d, _, _, rfl, rfl, (Same.upd0 ft) _ _ hT.top, (by rw [List.length_map]; exact Nat.lt_of_le_of_lt lts (by decide)), yes (.inl (of_decide_eq_true h1)) t ft⟩
        refine ⟨_, rfl, _, rfl, v, _, _, .ref ra, rfl, rfl, SqL.of (sH _ _ V3.top), at1, _, rfl, ra, _, _, _, rfl, rfl, SqL.of (sH _ _ ha), atj, _, _, rfl, rfl, ⟨by decide, by decide, by decide⟩, _, _, rfl, rfl, _, rfl, ite2 (fun h2 => ?_) (fun h2 => ?_)⟩
        · refine ⟨_, rfl, .inl ⟨rfl, _, SqL.of hT.top⟩, _, rfl, _, rfl, (by show 3 ≤ sizeLine; decide), fun t ft => ?_⟩
          have h2' : (10 : Int) ^ 12 ≤ n := of_decide_eq_true h2
          have e12 : (10 : Int) ^ 12 = 1000000000000 := by decide
          exact ⟨d, _, _, rfl, rfl, (Same.upd0 ft) _ _ hT.top, (by rw [List.length_map]; exact Nat.lt_of_le_of_lt lts (by decide)), yes (.inr (by omega)) t ft⟩
        · have nb : ¬ bad n := fun z => by
            rcases z with z | z
            · exact h1 (decide_eq_true z)
            · refine h2 (decide_eq_true ?_)
              show (10 : Int) ^ 12 ≤ n
              have e : (10 : Int) ^ 12 = 1000000000000 := by decide
              omega
          refine ⟨hj, _, ts, rfl, sH, ?_⟩
          rw [if_neg nb, List.append_nil]
          exact hT
      rintro σ H5 ⟨_, x5, ts, rfl, sH, hT⟩
      exact ⟨_, _, ts, rfl, hi, sH, hT⟩
    rintro σ H4 ⟨x4, x5, ts, rfl, _, s4, hT⟩
    have eR : ((rows.length : Int)).toNat = rows.length := by omega
    have hT : Ts H4 d ts (bAll rows rows.length) := by
      first | exact hT | (rw [eR] at hT; exact hT)
    have O4 := O3.same s4
    refine ⟨(by show 11 ≤ sizeLine; decide), fun wd fw => ?_⟩
    have hw : upd H4 wd (.tup wV) wd = some (.tup wV) := upd_same
    have s5 : Same H4 (upd H4 wd (.tup wV)) := Same.upd0 fw
    show _
    refine ⟨_, rfl, T.p_CLAUSES, wd, 1, 1, wV.map Tr.flat, wV.map Tr.flat, rfl, rfl, by decide, by decide, holds_flats (xs := wV) (.inr T.o_CLAUSES) rfl, holds_flats (xs := wV) (SqT.of hw) rfl, _, rfl, iteBF ?_ ?_⟩
    · have := holds_refl (K := K) (holds_flats (n := 0) (xs := wV) (SqT.of hw) rfl)
      simp only [L2.eqT] at this
      show (!L2.eqTs (wV.map Tr.flat) (wV.map Tr.flat)) = false
      rw [this]
      rfl
    have hT5 := hT.same s5
    have O5 := O4.same s5
    have S5 := (S3.trans s4).trans s5
    refine ⟨_, rfl, _, rfl, _, rfl, p, v, d, "bounds", F, E, B, as, ts, rows, _, rfl, O5, ⟨rfl, rfl, by omega⟩, hT5, fun H6 s6 => ⟨_, rfl, iteF ?_⟩⟩
    have O6 := O5.same s6
    have S6 := S5.trans s6
    have row8 : ∀ b ∈ as, Row8 H6 b := fun b hb => by
      obtain ⟨i, hi, e⟩ := List.getElem_of_mem hb
      have hi' : i < rows.length := by omega
      exact ⟨rows[i], h8 _ (List.getElem_mem hi'), O6.2.2.1.row i b rows[i] (by rw [List.getElem?_eq_getElem hi, e]) (List.getElem?_eq_getElem hi')⟩
    refine ⟨_, rfl, _, rfl, a, ns, 7, rfl, S6.seq hS, hl, fun c7 => ⟨v, as, c7, rfl, O6.2.2.1.top, row8, by omega, by omega, fun tp f z ts' H7 s7 htp hf lts' ez => ?_⟩⟩
    refine ⟨tp, _, rfl, SqT.of htp, rfl, _, _, rfl, _, _, rfl, rfl, ?_⟩
    have L7 := O6.1.same s7
    have ez' : formT (10 + F + E + B) ts' = some z := by rw [← lr, ← la]; exact ez
    refine ⟨3, rfl, by decide, by decide, ?_⟩
    refine comp_range (cap := [none, some 1, some 7, some 8]) (σ := [some (.ref a), some (.ref p), some (.ref v), some (.ref d), x4, x5, some (.ref wd), some (.ref f), some (.int z)]) (small_len (n := 3) (by decide)) (fun i ys σ H' => i ≤ 3 ∧ ys = (List.replicate i true).map V.bl ∧ (∃ s0, σ = [s0, some (.ref p), some (.ref f), some (.int z)]) ∧ Same H7 H')
      (by exact ⟨Nat.zero_le _, rfl, ⟨none, rfl⟩, Same.refl _⟩) (fun i ys σ H' ⟨h1, h2, _⟩ => ⟨h1, by rw [h2]; simp⟩) ?_ ?_
    · rintro i ys σ H' hi ⟨_, rfl, ⟨s0, rfl⟩, sH⟩
      have hi : i < 3 := hi
      have e0 : (0 : Int) + (i : Int) = (i : Int) := by omega
      rw [e0]
      refine ⟨_, rfl, _, rfl, _, rfl, _, rfl, p, f, F, E, B, z, i, ts', rfl, hi, L7.same sH, hf.same sH, by omega, ez', fun H8 s8 => ⟨hi, ?_, ⟨_, rfl⟩, sH.trans s8⟩⟩
      rw [List.replicate_succ', List.map_append]
      rfl
    rintro ys σ H' ⟨_, rfl, _, sH⟩ D fD
    exact ⟨D, List.replicate 3 true, rfl, SqL.of upd_same, k _⟩
end
end K41
set_option Elab.async false
set_option linter.all false
set_option maxRecDepth 100000
set_option maxHeartbeats 1000000
namespace K41
open PySem L2 PyProof.Rows
/-! ### the making of it, and the end -/
theorem all_mk {l : PySem.W.OpenLaw} {w : World} {K : PySem.W.Frag} {h : Heap} {mg : Str → Option Value} {fa : Addr} (X : K.In h) (G : h.Ns mainGlobals mg) (hfa : mg "law" = some (.ref fa))
    {C_Layout : Addr}
    {C_VolumeError : Addr}
    {C_NoLayout : Addr}
    {C_NoVolume : Addr}
    {f_NoVolume_init : Addr} {od_NoVolume_init an_NoVolume_init : Option Addr} {sl_NoVolume_init : Array (Option Value)} {oc_NoVolume_init kV_NoVolume_init dc_NoVolume_init pm_NoVolume_init cd_NoVolume_init ct_NoVolume_init : Value}
    {f_Layout_init : Addr} {od_Layout_init an_Layout_init : Option Addr} {sl_Layout_init : Array (Option Value)} {oc_Layout_init kV_Layout_init dc_Layout_init pm_Layout_init cd_Layout_init ct_Layout_init : Value}
    {f_Layout_many : Addr} {od_Layout_many an_Layout_many : Option Addr} {sl_Layout_many : Array (Option Value)} {oc_Layout_many kV_Layout_many dc_Layout_many pm_Layout_many cd_Layout_many ct_Layout_many : Value}
    {f_Layout_record_at : Addr} {od_Layout_record_at an_Layout_record_at : Option Addr} {sl_Layout_record_at : Array (Option Value)} {oc_Layout_record_at kV_Layout_record_at dc_Layout_record_at pm_Layout_record_at cd_Layout_record_at ct_Layout_record_at : Value}
    {f_Layout_names_at : Addr} {od_Layout_names_at an_Layout_names_at : Option Addr} {sl_Layout_names_at : Array (Option Value)} {oc_Layout_names_at kV_Layout_names_at dc_Layout_names_at pm_Layout_names_at cd_Layout_names_at ct_Layout_names_at : Value}
    {f_Layout_data_at : Addr} {od_Layout_data_at an_Layout_data_at : Option Addr} {sl_Layout_data_at : Array (Option Value)} {oc_Layout_data_at kV_Layout_data_at dc_Layout_data_at pm_Layout_data_at cd_Layout_data_at ct_Layout_data_at : Value}
    {f_is_number : Addr} {od_is_number an_is_number : Option Addr} {sl_is_number : Array (Option Value)} {oc_is_number kV_is_number dc_is_number pm_is_number cd_is_number ct_is_number : Value}
    {f_is_row : Addr} {od_is_row an_is_row : Option Addr} {sl_is_row : Array (Option Value)} {oc_is_row kV_is_row dc_is_row pm_is_row cd_is_row ct_is_row : Value}
    {f_check_form : Addr} {od_check_form an_check_form : Option Addr} {sl_check_form : Array (Option Value)} {oc_check_form kV_check_form dc_check_form pm_check_form cd_check_form ct_check_form : Value}
    {f_bounds_wrong : Addr} {od_bounds_wrong an_bounds_wrong : Option Addr} {sl_bounds_wrong : Array (Option Value)} {oc_bounds_wrong kV_bounds_wrong dc_bounds_wrong pm_bounds_wrong cd_bounds_wrong ct_bounds_wrong : Value}
    {f_places_broken : Addr} {od_places_broken an_places_broken : Option Addr} {sl_places_broken : Array (Option Value)} {oc_places_broken kV_places_broken dc_places_broken pm_places_broken cd_places_broken ct_places_broken : Value}
    {f_wrong : Addr} {od_wrong an_wrong : Option Addr} {sl_wrong : Array (Option Value)} {oc_wrong kV_wrong dc_wrong pm_wrong cd_wrong ct_wrong : Value}
    {f_mend : Addr} {od_mend an_mend : Option Addr} {sl_mend : Array (Option Value)} {oc_mend kV_mend dc_mend pm_mend cd_mend ct_mend : Value}
    {f_faults : Addr} {od_faults an_faults : Option Addr} {sl_faults : Array (Option Value)} {oc_faults kV_faults dc_faults pm_faults cd_faults ct_faults : Value}
    {f_l_cell : Addr} {od_l_cell an_l_cell : Option Addr} {sl_l_cell : Array (Option Value)} {oc_l_cell kV_l_cell dc_l_cell pm_l_cell cd_l_cell ct_l_cell : Value}
    {f_l_mixed : Addr} {od_l_mixed an_l_mixed : Option Addr} {sl_l_mixed : Array (Option Value)} {oc_l_mixed kV_l_mixed dc_l_mixed pm_l_mixed cd_l_mixed ct_l_mixed : Value}
    {f_l_layout : Addr} {od_l_layout an_l_layout : Option Addr} {sl_l_layout : Array (Option Value)} {oc_l_layout kV_l_layout dc_l_layout pm_l_layout cd_l_layout ct_l_layout : Value}
    {f_l_number : Addr} {od_l_number an_l_number : Option Addr} {sl_l_number : Array (Option Value)} {oc_l_number kV_l_number dc_l_number pm_l_number cd_l_number ct_l_number : Value}
    {f_l_any : Addr} {od_l_any an_l_any : Option Addr} {sl_l_any : Array (Option Value)} {oc_l_any kV_l_any dc_l_any pm_l_any cd_l_any ct_l_any : Value}
    {f_l_told : Addr} {od_l_told an_l_told : Option Addr} {sl_l_told : Array (Option Value)} {oc_l_told kV_l_told dc_l_told pm_l_told cd_l_told ct_l_told : Value}
    {f_l_near : Addr} {od_l_near an_l_near : Option Addr} {sl_l_near : Array (Option Value)} {oc_l_near kV_l_near dc_l_near pm_l_near cd_l_near ct_l_near : Value}
    {f_l_row : Addr} {od_l_row an_l_row : Option Addr} {sl_l_row : Array (Option Value)} {oc_l_row kV_l_row dc_l_row pm_l_row cd_l_row ct_l_row : Value}
    {f_l_spoiled : Addr} {od_l_spoiled an_l_spoiled : Option Addr} {sl_l_spoiled : Array (Option Value)} {oc_l_spoiled kV_l_spoiled dc_l_spoiled pm_l_spoiled cd_l_spoiled ct_l_spoiled : Value}
    {f_l_refused : Addr} {od_l_refused an_l_refused : Option Addr} {sl_l_refused : Array (Option Value)} {oc_l_refused kV_l_refused dc_l_refused pm_l_refused cd_l_refused ct_l_refused : Value}
    {f_law : Addr} {od_law an_law : Option Addr} {sl_law : Array (Option Value)} {oc_law kV_law dc_law pm_law cd_law ct_law : Value}
    {t_WIDE : Tok}
    {t_RECORDS_AT : Tok}
    {t_TOP : Tok}
    {p_CLAUSES : Addr} {d_CLAUSES : Option Addr} {n_CLAUSES : Nat} {s_CLAUSES : Array (Option Value)} {t0_CLAUSES t1_CLAUSES t2_CLAUSES t3_CLAUSES t4_CLAUSES t5_CLAUSES t6_CLAUSES t7_CLAUSES t8_CLAUSES t9_CLAUSES t10_CLAUSES : Tok}
    {nm_NoVolume q_NoVolume : Str} {N_NoVolume : Addr} {bs_NoVolume bm_NoVolume : List Value} {hd_NoVolume : Bool} {sn_NoVolume : List Str} {sub_NoVolume : List Value} {ab_NoVolume : Bool} {col_NoVolume : Option Bool} {dd_NoVolume : Option Addr} {k0_NoVolume k1_NoVolume k2_NoVolume k3_NoVolume k5_NoVolume : Option Value}
    (aC_Layout : PySem.W.nsIn K mainGlobals "Layout" = some (some (.ref C_Layout)))
    (pg_Layout : PySem.W.plainGet K C_Layout Str.empty = true)
    (hd_Layout : PySem.W.hasDictIn K C_Layout = true)
    (po_Layout : PySem.W.plainOver K C_Layout = true)
    (sa_Layout : PySem.W.findIn K (.ref C_Layout) "__setattr__" = some (some (.builtin "object.__setattr__")))
    (n_Layout_files : PySem.W.findIn K (.ref C_Layout) "files" = some none)
    (n_Layout_slots : PySem.W.findIn K (.ref C_Layout) "slots" = some none)
    (n_Layout_data : PySem.W.findIn K (.ref C_Layout) "data" = some none)
    (aC_VolumeError : PySem.W.nsIn K mainGlobals "VolumeError" = some (some (.ref C_VolumeError)))
    (aC_NoLayout : PySem.W.nsIn K mainGlobals "NoLayout" = some (some (.ref C_NoLayout)))
    (aC_NoVolume : PySem.W.nsIn K mainGlobals "NoVolume" = some (some (.ref C_NoVolume)))
    (a_NoVolume_init : PySem.W.findIn K (.ref C_NoVolume) "__init__" = some (some (.ref f_NoVolume_init)))
    (i_NoVolume_init : PySem.W.isFn K (.ref f_NoVolume_init) = true)
    (l_NoVolume_init : K.lookup f_NoVolume_init = some ⟨oc_NoVolume_init, od_NoVolume_init, .func (PySem.W.fnOf "__init__" "NoVolume.__init__" (defArgs s_NoVolume_init) (defBody s_NoVolume_init) (defScope s_NoVolume_init) .none kV_NoVolume_init dc_NoVolume_init pm_NoVolume_init an_NoVolume_init cd_NoVolume_init ct_NoVolume_init), sl_NoVolume_init⟩)
    (c_NoVolume_init : PySem.W.codeIn K cd_NoVolume_init "NoVolume.__init__" = true)
    (k_NoVolume_init : PySem.W.keepIn K (.ref f_NoVolume_init) = true)
    (a_Layout_init : PySem.W.findIn K (.ref C_Layout) "__init__" = some (some (.ref f_Layout_init)))
    (i_Layout_init : PySem.W.isFn K (.ref f_Layout_init) = true)
    (l_Layout_init : K.lookup f_Layout_init = some ⟨oc_Layout_init, od_Layout_init, .func (PySem.W.fnOf "__init__" "Layout.__init__" (defArgs s_Layout_init) (defBody s_Layout_init) (defScope s_Layout_init) .none kV_Layout_init dc_Layout_init pm_Layout_init an_Layout_init cd_Layout_init ct_Layout_init), sl_Layout_init⟩)
    (c_Layout_init : PySem.W.codeIn K cd_Layout_init "Layout.__init__" = true)
    (k_Layout_init : PySem.W.keepIn K (.ref f_Layout_init) = true)
    (mk_Layout : PySem.W.makesIn K C_Layout = true)
    (kc_Layout : PySem.W.keepIn K (.ref C_Layout) = true)
    (a_Layout_many : PySem.W.findIn K (.ref C_Layout) "many" = some (some (.ref f_Layout_many)))
    (i_Layout_many : PySem.W.isFn K (.ref f_Layout_many) = true)
    (l_Layout_many : K.lookup f_Layout_many = some ⟨oc_Layout_many, od_Layout_many, .func (PySem.W.fnOf "many" "Layout.many" (defArgs s_Layout_many) (defBody s_Layout_many) (defScope s_Layout_many) .none kV_Layout_many dc_Layout_many pm_Layout_many an_Layout_many cd_Layout_many ct_Layout_many), sl_Layout_many⟩)
    (c_Layout_many : PySem.W.codeIn K cd_Layout_many "Layout.many" = true)
    (k_Layout_many : PySem.W.keepIn K (.ref f_Layout_many) = true)
    (a_Layout_record_at : PySem.W.findIn K (.ref C_Layout) "record_at" = some (some (.ref f_Layout_record_at)))
    (i_Layout_record_at : PySem.W.isFn K (.ref f_Layout_record_at) = true)
    (l_Layout_record_at : K.lookup f_Layout_record_at = some ⟨oc_Layout_record_at, od_Layout_record_at, .func (PySem.W.fnOf "record_at" "Layout.record_at" (defArgs s_Layout_record_at) (defBody s_Layout_record_at) (defScope s_Layout_record_at) .none kV_Layout_record_at dc_Layout_record_at pm_Layout_record_at an_Layout_record_at cd_Layout_record_at ct_Layout_record_at), sl_Layout_record_at⟩)
    (c_Layout_record_at : PySem.W.codeIn K cd_Layout_record_at "Layout.record_at" = true)
    (k_Layout_record_at : PySem.W.keepIn K (.ref f_Layout_record_at) = true)
    (a_Layout_names_at : PySem.W.findIn K (.ref C_Layout) "names_at" = some (some (.ref f_Layout_names_at)))
    (i_Layout_names_at : PySem.W.isFn K (.ref f_Layout_names_at) = true)
    (l_Layout_names_at : K.lookup f_Layout_names_at = some ⟨oc_Layout_names_at, od_Layout_names_at, .func (PySem.W.fnOf "names_at" "Layout.names_at" (defArgs s_Layout_names_at) (defBody s_Layout_names_at) (defScope s_Layout_names_at) .none kV_Layout_names_at dc_Layout_names_at pm_Layout_names_at an_Layout_names_at cd_Layout_names_at ct_Layout_names_at), sl_Layout_names_at⟩)
    (c_Layout_names_at : PySem.W.codeIn K cd_Layout_names_at "Layout.names_at" = true)
    (k_Layout_names_at : PySem.W.keepIn K (.ref f_Layout_names_at) = true)
    (a_Layout_data_at : PySem.W.findIn K (.ref C_Layout) "data_at" = some (some (.ref f_Layout_data_at)))
    (i_Layout_data_at : PySem.W.isFn K (.ref f_Layout_data_at) = true)
    (l_Layout_data_at : K.lookup f_Layout_data_at = some ⟨oc_Layout_data_at, od_Layout_data_at, .func (PySem.W.fnOf "data_at" "Layout.data_at" (defArgs s_Layout_data_at) (defBody s_Layout_data_at) (defScope s_Layout_data_at) .none kV_Layout_data_at dc_Layout_data_at pm_Layout_data_at an_Layout_data_at cd_Layout_data_at ct_Layout_data_at), sl_Layout_data_at⟩)
    (c_Layout_data_at : PySem.W.codeIn K cd_Layout_data_at "Layout.data_at" = true)
    (k_Layout_data_at : PySem.W.keepIn K (.ref f_Layout_data_at) = true)
    (a_is_number : PySem.W.nsIn K mainGlobals "is_number" = some (some (.ref f_is_number)))
    (l_is_number : K.lookup f_is_number = some ⟨oc_is_number, od_is_number, .func (PySem.W.fnOf "is_number" "is_number" (defArgs s_is_number) (defBody s_is_number) (defScope s_is_number) .none kV_is_number dc_is_number pm_is_number an_is_number cd_is_number ct_is_number), sl_is_number⟩)
    (c_is_number : PySem.W.codeIn K cd_is_number "is_number" = true)
    (k_is_number : PySem.W.keepIn K (.ref f_is_number) = true)
    (a_is_row : PySem.W.nsIn K mainGlobals "is_row" = some (some (.ref f_is_row)))
    (l_is_row : K.lookup f_is_row = some ⟨oc_is_row, od_is_row, .func (PySem.W.fnOf "is_row" "is_row" (defArgs s_is_row) (defBody s_is_row) (defScope s_is_row) .none kV_is_row dc_is_row pm_is_row an_is_row cd_is_row ct_is_row), sl_is_row⟩)
    (c_is_row : PySem.W.codeIn K cd_is_row "is_row" = true)
    (k_is_row : PySem.W.keepIn K (.ref f_is_row) = true)
    (a_check_form : PySem.W.nsIn K mainGlobals "check_form" = some (some (.ref f_check_form)))
    (l_check_form : K.lookup f_check_form = some ⟨oc_check_form, od_check_form, .func (PySem.W.fnOf "check_form" "check_form" (defArgs s_check_form) (defBody s_check_form) (defScope s_check_form) .none kV_check_form dc_check_form pm_check_form an_check_form cd_check_form ct_check_form), sl_check_form⟩)
    (c_check_form : PySem.W.codeIn K cd_check_form "check_form" = true)
    (k_check_form : PySem.W.keepIn K (.ref f_check_form) = true)
    (a_bounds_wrong : PySem.W.nsIn K mainGlobals "bounds_wrong" = some (some (.ref f_bounds_wrong)))
    (l_bounds_wrong : K.lookup f_bounds_wrong = some ⟨oc_bounds_wrong, od_bounds_wrong, .func (PySem.W.fnOf "bounds_wrong" "bounds_wrong" (defArgs s_bounds_wrong) (defBody s_bounds_wrong) (defScope s_bounds_wrong) .none kV_bounds_wrong dc_bounds_wrong pm_bounds_wrong an_bounds_wrong cd_bounds_wrong ct_bounds_wrong), sl_bounds_wrong⟩)
    (c_bounds_wrong : PySem.W.codeIn K cd_bounds_wrong "bounds_wrong" = true)
    (k_bounds_wrong : PySem.W.keepIn K (.ref f_bounds_wrong) = true)
    (a_places_broken : PySem.W.nsIn K mainGlobals "places_broken" = some (some (.ref f_places_broken)))
    (l_places_broken : K.lookup f_places_broken = some ⟨oc_places_broken, od_places_broken, .func (PySem.W.fnOf "places_broken" "places_broken" (defArgs s_places_broken) (defBody s_places_broken) (defScope s_places_broken) .none kV_places_broken dc_places_broken pm_places_broken an_places_broken cd_places_broken ct_places_broken), sl_places_broken⟩)
    (c_places_broken : PySem.W.codeIn K cd_places_broken "places_broken" = true)
    (k_places_broken : PySem.W.keepIn K (.ref f_places_broken) = true)
    (a_wrong : PySem.W.nsIn K mainGlobals "wrong" = some (some (.ref f_wrong)))
    (l_wrong : K.lookup f_wrong = some ⟨oc_wrong, od_wrong, .func (PySem.W.fnOf "wrong" "wrong" (defArgs s_wrong) (defBody s_wrong) (defScope s_wrong) .none kV_wrong dc_wrong pm_wrong an_wrong cd_wrong ct_wrong), sl_wrong⟩)
    (c_wrong : PySem.W.codeIn K cd_wrong "wrong" = true)
    (k_wrong : PySem.W.keepIn K (.ref f_wrong) = true)
    (a_mend : PySem.W.nsIn K mainGlobals "mend" = some (some (.ref f_mend)))
    (l_mend : K.lookup f_mend = some ⟨oc_mend, od_mend, .func (PySem.W.fnOf "mend" "mend" (defArgs s_mend) (defBody s_mend) (defScope s_mend) .none kV_mend dc_mend pm_mend an_mend cd_mend ct_mend), sl_mend⟩)
    (c_mend : PySem.W.codeIn K cd_mend "mend" = true)
    (k_mend : PySem.W.keepIn K (.ref f_mend) = true)
    (a_faults : PySem.W.nsIn K mainGlobals "faults" = some (some (.ref f_faults)))
    (l_faults : K.lookup f_faults = some ⟨oc_faults, od_faults, .func (PySem.W.fnOf "faults" "faults" (defArgs s_faults) (defBody s_faults) (defScope s_faults) .none kV_faults dc_faults pm_faults an_faults cd_faults ct_faults), sl_faults⟩)
    (c_faults : PySem.W.codeIn K cd_faults "faults" = true)
    (k_faults : PySem.W.keepIn K (.ref f_faults) = true)
    (a_l_cell : PySem.W.nsIn K mainGlobals "_law_cell" = some (some (.ref f_l_cell)))
    (l_l_cell : K.lookup f_l_cell = some ⟨oc_l_cell, od_l_cell, .func (PySem.W.fnOf "_law_cell" "_law_cell" (defArgs s_l_cell) (defBody s_l_cell) (defScope s_l_cell) .none kV_l_cell dc_l_cell pm_l_cell an_l_cell cd_l_cell ct_l_cell), sl_l_cell⟩)
    (c_l_cell : PySem.W.codeIn K cd_l_cell "_law_cell" = true)
    (k_l_cell : PySem.W.keepIn K (.ref f_l_cell) = true)
    (a_l_mixed : PySem.W.nsIn K mainGlobals "_law_mixed" = some (some (.ref f_l_mixed)))
    (l_l_mixed : K.lookup f_l_mixed = some ⟨oc_l_mixed, od_l_mixed, .func (PySem.W.fnOf "_law_mixed" "_law_mixed" (defArgs s_l_mixed) (defBody s_l_mixed) (defScope s_l_mixed) .none kV_l_mixed dc_l_mixed pm_l_mixed an_l_mixed cd_l_mixed ct_l_mixed), sl_l_mixed⟩)
    (c_l_mixed : PySem.W.codeIn K cd_l_mixed "_law_mixed" = true)
    (k_l_mixed : PySem.W.keepIn K (.ref f_l_mixed) = true)
    (a_l_layout : PySem.W.nsIn K mainGlobals "_law_layout" = some (some (.ref f_l_layout)))
    (l_l_layout : K.lookup f_l_layout = some ⟨oc_l_layout, od_l_layout, .func (PySem.W.fnOf "_law_layout" "_law_layout" (defArgs s_l_layout) (defBody s_l_layout) (defScope s_l_layout) .none kV_l_layout dc_l_layout pm_l_layout an_l_layout cd_l_layout ct_l_layout), sl_l_layout⟩)
    (c_l_layout : PySem.W.codeIn K cd_l_layout "_law_layout" = true)
    (k_l_layout : PySem.W.keepIn K (.ref f_l_layout) = true)
    (a_l_number : PySem.W.nsIn K mainGlobals "_law_number" = some (some (.ref f_l_number)))
    (l_l_number : K.lookup f_l_number = some ⟨oc_l_number, od_l_number, .func (PySem.W.fnOf "_law_number" "_law_number" (defArgs s_l_number) (defBody s_l_number) (defScope s_l_number) .none kV_l_number dc_l_number pm_l_number an_l_number cd_l_number ct_l_number), sl_l_number⟩)
    (c_l_number : PySem.W.codeIn K cd_l_number "_law_number" = true)
    (k_l_number : PySem.W.keepIn K (.ref f_l_number) = true)
    (a_l_any : PySem.W.nsIn K mainGlobals "_law_any" = some (some (.ref f_l_any)))
    (l_l_any : K.lookup f_l_any = some ⟨oc_l_any, od_l_any, .func (PySem.W.fnOf "_law_any" "_law_any" (defArgs s_l_any) (defBody s_l_any) (defScope s_l_any) .none kV_l_any dc_l_any pm_l_any an_l_any cd_l_any ct_l_any), sl_l_any⟩)
    (c_l_any : PySem.W.codeIn K cd_l_any "_law_any" = true)
    (k_l_any : PySem.W.keepIn K (.ref f_l_any) = true)
    (a_l_told : PySem.W.nsIn K mainGlobals "_law_told" = some (some (.ref f_l_told)))
    (l_l_told : K.lookup f_l_told = some ⟨oc_l_told, od_l_told, .func (PySem.W.fnOf "_law_told" "_law_told" (defArgs s_l_told) (defBody s_l_told) (defScope s_l_told) .none kV_l_told dc_l_told pm_l_told an_l_told cd_l_told ct_l_told), sl_l_told⟩)
    (c_l_told : PySem.W.codeIn K cd_l_told "_law_told" = true)
    (k_l_told : PySem.W.keepIn K (.ref f_l_told) = true)
    (a_l_near : PySem.W.nsIn K mainGlobals "_law_near" = some (some (.ref f_l_near)))
    (l_l_near : K.lookup f_l_near = some ⟨oc_l_near, od_l_near, .func (PySem.W.fnOf "_law_near" "_law_near" (defArgs s_l_near) (defBody s_l_near) (defScope s_l_near) .none kV_l_near dc_l_near pm_l_near an_l_near cd_l_near ct_l_near), sl_l_near⟩)
    (c_l_near : PySem.W.codeIn K cd_l_near "_law_near" = true)
    (k_l_near : PySem.W.keepIn K (.ref f_l_near) = true)
    (a_l_row : PySem.W.nsIn K mainGlobals "_law_row" = some (some (.ref f_l_row)))
    (l_l_row : K.lookup f_l_row = some ⟨oc_l_row, od_l_row, .func (PySem.W.fnOf "_law_row" "_law_row" (defArgs s_l_row) (defBody s_l_row) (defScope s_l_row) .none kV_l_row dc_l_row pm_l_row an_l_row cd_l_row ct_l_row), sl_l_row⟩)
    (c_l_row : PySem.W.codeIn K cd_l_row "_law_row" = true)
    (k_l_row : PySem.W.keepIn K (.ref f_l_row) = true)
    (a_l_spoiled : PySem.W.nsIn K mainGlobals "_law_spoiled" = some (some (.ref f_l_spoiled)))
    (l_l_spoiled : K.lookup f_l_spoiled = some ⟨oc_l_spoiled, od_l_spoiled, .func (PySem.W.fnOf "_law_spoiled" "_law_spoiled" (defArgs s_l_spoiled) (defBody s_l_spoiled) (defScope s_l_spoiled) .none kV_l_spoiled dc_l_spoiled pm_l_spoiled an_l_spoiled cd_l_spoiled ct_l_spoiled), sl_l_spoiled⟩)
    (c_l_spoiled : PySem.W.codeIn K cd_l_spoiled "_law_spoiled" = true)
    (k_l_spoiled : PySem.W.keepIn K (.ref f_l_spoiled) = true)
    (a_l_refused : PySem.W.nsIn K mainGlobals "_law_refused" = some (some (.ref f_l_refused)))
    (l_l_refused : K.lookup f_l_refused = some ⟨oc_l_refused, od_l_refused, .func (PySem.W.fnOf "_law_refused" "_law_refused" (defArgs s_l_refused) (defBody s_l_refused) (defScope s_l_refused) .none kV_l_refused dc_l_refused pm_l_refused an_l_refused cd_l_refused ct_l_refused), sl_l_refused⟩)
    (c_l_refused : PySem.W.codeIn K cd_l_refused "_law_refused" = true)
    (k_l_refused : PySem.W.keepIn K (.ref f_l_refused) = true)
    (a_law : PySem.W.nsIn K mainGlobals "law" = some (some (.ref f_law)))
    (l_law : K.lookup f_law = some ⟨oc_law, od_law, .func (PySem.W.fnOf "law" "law" (defArgs s_law) (defBody s_law) (defScope s_law) .none kV_law dc_law pm_law an_law cd_law ct_law), sl_law⟩)
    (c_law : PySem.W.codeIn K cd_law "law" = true)
    (k_law : PySem.W.keepIn K (.ref f_law) = true)
    (a_WIDE : PySem.W.nsIn K mainGlobals "WIDE" = some (some (.int 8 t_WIDE)))
    (a_RECORDS_AT : PySem.W.nsIn K mainGlobals "RECORDS_AT" = some (some (.int 10 t_RECORDS_AT)))
    (a_TOP : PySem.W.nsIn K mainGlobals "TOP" = some (some (.int 999999999999 t_TOP)))
    (a_CLAUSES : PySem.W.nsIn K mainGlobals "CLAUSES" = some (some (.ref p_CLAUSES)))
    (q_CLAUSES : K.lookup p_CLAUSES = some ⟨.type "tuple", d_CLAUSES, .seq #[.str "bounds" t0_CLAUSES, .str "head" t1_CLAUSES, .str "journal" t2_CLAUSES, .str "kind" t3_CLAUSES, .str "size" t4_CLAUSES, .str "piece" t5_CLAUSES, .str "name" t6_CLAUSES, .str "ring" t7_CLAUSES, .str "found" t8_CLAUSES, .str "count" t9_CLAUSES, .str "map" t10_CLAUSES] n_CLAUSES, s_CLAUSES⟩)
    (lC_NoVolume : K.lookup C_NoVolume = some (excClassObj nm_NoVolume q_NoVolume C_NoVolume N_NoVolume bs_NoVolume bm_NoVolume hd_NoVolume sn_NoVolume sub_NoVolume ab_NoVolume col_NoVolume dd_NoVolume k0_NoVolume k1_NoVolume k2_NoVolume k3_NoVolume k5_NoVolume "ValueError.__new__"))
    (no_NoVolume : PySem.W.nsOkIn K N_NoVolume = true)
    (ni_NoVolume : PySem.W.nsIn K N_NoVolume "__init__" = some (some (.ref f_NoVolume_init)))
    (tl_NoVolume : PySem.W.tailIn K [.type "ValueError", .type "Exception", .type "BaseException", .type "object"] bm_NoVolume = true)
    (em_NoVolume : exMro bm_NoVolume = true)
    (eh_NoVolume : hd_NoVolume = true)
    (sa_NoVolume : PySem.W.findIn K (.ref C_NoVolume) "__setattr__" = some (some (.builtin "object.__setattr__")))
    (xh_NoVolume : PySem.W.hasDictIn K C_NoVolume = true)
    (n_NoVolume_at : PySem.W.findIn K (.ref C_NoVolume) "at" = some none)
    (ex_NoLayout : PySem.W.excIn K C_NoLayout [.type "ValueError", .type "Exception", .type "BaseException", .type "object"] "ValueError.__new__" = true)
    (xt_ga_NoVolume : PySem.W.findIn K (.ref C_NoVolume) "__getattribute__" = some (some (.builtin "BaseException.__getattribute__")))
    (xt_gt_NoVolume : PySem.W.findIn K (.ref C_NoVolume) "__getattr__" = some none)
    (xt_ha_NoVolume : PySem.W.findIn K (.ref C_NoVolume) "__class__" = some (some (.builtin "object.__class__")))
    (xt_mO_NoVolume : PySem.W.mroIn K C_NoVolume (.type "object") = some true)
    (xt_mB_NoVolume : PySem.W.mroIn K C_NoVolume (.type "BaseException") = some true)
    (xt_hn_NoVolume : PySem.W.specialIn K (.builtin "object.__class__") "__get__" = some (some (.builtin "getset_descriptor.__get__")))
    (xt_tk_NoVolume : PySem.W.takesIn K (.builtin "object.__class__") = some true)
    (fa_k_match : PySem.W.exmOne K (.ref C_NoVolume) (.ref C_VolumeError) = some true)
    (fa_k_self : PySem.W.kitOne K (.ref C_NoVolume) (.ref C_NoVolume) = some true)
    (fa_v_reads : PySem.W.readsIn K C_VolumeError (.type "type") = true)
    (fa_v_init : PySem.W.findCls K (.ref C_VolumeError) (.type "type") "__init__" = some (.val (.builtin "ValueError.__init__")))
    (fa_v_ga : PySem.W.specialIn K (.ref C_VolumeError) "__getattribute__" = some (some (.builtin "type.__getattribute__")))
    (z_len : PySem.W.nsIn K mainGlobals "len" = some none)
    (z_range : PySem.W.nsIn K mainGlobals "range" = some none)
    (z_isinstance : PySem.W.nsIn K mainGlobals "isinstance" = some none)
    (z_int : PySem.W.nsIn K mainGlobals "int" = some none)
    (z_bool : PySem.W.nsIn K mainGlobals "bool" = some none)
    (z_list : PySem.W.nsIn K mainGlobals "list" = some none)
    (z_tuple : PySem.W.nsIn K mainGlobals "tuple" = some none)
    (z_all : PySem.W.nsIn K mainGlobals "all" = some none)
    (z_enumerate : PySem.W.nsIn K mainGlobals "enumerate" = some none)
    (z_min : PySem.W.nsIn K mainGlobals "min" = some none)
    : ∃ fd : FuncData, (∀ (s : Shared) (v : Value), BindsTo s fd ⟨[v], []⟩ [("_law_script", v)]) ∧ ∀ base : Heap, K.In base → base.Ns mainGlobals mg → FnOk l.prog w K mg base CX0 12 fa fd ["_law_script"] (spLaw K) := by
  have e : f_law = fa := by
    have z := (PySem.W.mg_of X G a_law).symm.trans hfa
    injection z with z
    injection z
  subst e
  let T : Tx K mg := {
    C_Layout := C_Layout,
    cl_Layout := ⟨pg_Layout, hd_Layout, po_Layout, sa_Layout⟩,
    g_Layout := PySem.W.mg_of X G aC_Layout,
    n_Layout_files := n_Layout_files,
    n_Layout_slots := n_Layout_slots,
    n_Layout_data := n_Layout_data,
    C_VolumeError := C_VolumeError,
    g_VolumeError := PySem.W.mg_of X G aC_VolumeError,
    C_NoLayout := C_NoLayout,
    g_NoLayout := PySem.W.mg_of X G aC_NoLayout,
    C_NoVolume := C_NoVolume,
    g_NoVolume := PySem.W.mg_of X G aC_NoVolume,
    f_NoVolume_init := f_NoVolume_init,
    fd_NoVolume_init := PySem.W.fnOf "__init__" "NoVolume.__init__" (defArgs s_NoVolume_init) (defBody s_NoVolume_init) (defScope s_NoVolume_init) .none kV_NoVolume_init dc_NoVolume_init pm_NoVolume_init an_NoVolume_init cd_NoVolume_init ct_NoVolume_init,
    F_NoVolume_init := fun_mk (st := s_NoVolume_init) l_NoVolume_init c_NoVolume_init k_NoVolume_init,
    b_NoVolume_init := (fun_mk (st := s_NoVolume_init) l_NoVolume_init c_NoVolume_init k_NoVolume_init).binds (ps := ["self", "at"]) fun _ _ _ _ _ _ us hl => match us, hl with | [_, _], _ => rfl,
    f_Layout_init := f_Layout_init,
    fd_Layout_init := PySem.W.fnOf "__init__" "Layout.__init__" (defArgs s_Layout_init) (defBody s_Layout_init) (defScope s_Layout_init) .none kV_Layout_init dc_Layout_init pm_Layout_init an_Layout_init cd_Layout_init ct_Layout_init,
    F_Layout_init := fun_mk (st := s_Layout_init) l_Layout_init c_Layout_init k_Layout_init,
    b_Layout_init := (fun_mk (st := s_Layout_init) l_Layout_init c_Layout_init k_Layout_init).binds (ps := ["self", "files", "slots", "data"]) fun _ _ _ _ _ _ us hl => match us, hl with | [_, _, _, _], _ => rfl,
    mk_Layout := ⟨mk_Layout, a_Layout_init, i_Layout_init, kc_Layout⟩,
    f_Layout_many := f_Layout_many,
    fd_Layout_many := PySem.W.fnOf "many" "Layout.many" (defArgs s_Layout_many) (defBody s_Layout_many) (defScope s_Layout_many) .none kV_Layout_many dc_Layout_many pm_Layout_many an_Layout_many cd_Layout_many ct_Layout_many,
    F_Layout_many := fun_mk (st := s_Layout_many) l_Layout_many c_Layout_many k_Layout_many,
    b_Layout_many := (fun_mk (st := s_Layout_many) l_Layout_many c_Layout_many k_Layout_many).binds (ps := ["self"]) fun _ _ _ _ _ _ us hl => match us, hl with | [_], _ => rfl,
    m_Layout_many := ⟨a_Layout_many, i_Layout_many, k_Layout_many⟩,
    f_Layout_record_at := f_Layout_record_at,
    fd_Layout_record_at := PySem.W.fnOf "record_at" "Layout.record_at" (defArgs s_Layout_record_at) (defBody s_Layout_record_at) (defScope s_Layout_record_at) .none kV_Layout_record_at dc_Layout_record_at pm_Layout_record_at an_Layout_record_at cd_Layout_record_at ct_Layout_record_at,
    F_Layout_record_at := fun_mk (st := s_Layout_record_at) l_Layout_record_at c_Layout_record_at k_Layout_record_at,
    b_Layout_record_at := (fun_mk (st := s_Layout_record_at) l_Layout_record_at c_Layout_record_at k_Layout_record_at).binds (ps := ["self", "f"]) fun _ _ _ _ _ _ us hl => match us, hl with | [_, _], _ => rfl,
    m_Layout_record_at := ⟨a_Layout_record_at, i_Layout_record_at, k_Layout_record_at⟩,
    f_Layout_names_at := f_Layout_names_at,
    fd_Layout_names_at := PySem.W.fnOf "names_at" "Layout.names_at" (defArgs s_Layout_names_at) (defBody s_Layout_names_at) (defScope s_Layout_names_at) .none kV_Layout_names_at dc_Layout_names_at pm_Layout_names_at an_Layout_names_at cd_Layout_names_at ct_Layout_names_at,
    F_Layout_names_at := fun_mk (st := s_Layout_names_at) l_Layout_names_at c_Layout_names_at k_Layout_names_at,
    b_Layout_names_at := (fun_mk (st := s_Layout_names_at) l_Layout_names_at c_Layout_names_at k_Layout_names_at).binds (ps := ["self", "e"]) fun _ _ _ _ _ _ us hl => match us, hl with | [_, _], _ => rfl,
    m_Layout_names_at := ⟨a_Layout_names_at, i_Layout_names_at, k_Layout_names_at⟩,
    f_Layout_data_at := f_Layout_data_at,
    fd_Layout_data_at := PySem.W.fnOf "data_at" "Layout.data_at" (defArgs s_Layout_data_at) (defBody s_Layout_data_at) (defScope s_Layout_data_at) .none kV_Layout_data_at dc_Layout_data_at pm_Layout_data_at an_Layout_data_at cd_Layout_data_at ct_Layout_data_at,
    F_Layout_data_at := fun_mk (st := s_Layout_data_at) l_Layout_data_at c_Layout_data_at k_Layout_data_at,
    b_Layout_data_at := (fun_mk (st := s_Layout_data_at) l_Layout_data_at c_Layout_data_at k_Layout_data_at).binds (ps := ["self", "i"]) fun _ _ _ _ _ _ us hl => match us, hl with | [_, _], _ => rfl,
    m_Layout_data_at := ⟨a_Layout_data_at, i_Layout_data_at, k_Layout_data_at⟩,
    f_is_number := f_is_number,
    fd_is_number := PySem.W.fnOf "is_number" "is_number" (defArgs s_is_number) (defBody s_is_number) (defScope s_is_number) .none kV_is_number dc_is_number pm_is_number an_is_number cd_is_number ct_is_number,
    F_is_number := fun_mk (st := s_is_number) l_is_number c_is_number k_is_number,
    b_is_number := (fun_mk (st := s_is_number) l_is_number c_is_number k_is_number).binds (ps := ["value"]) fun _ _ _ _ _ _ us hl => match us, hl with | [_], _ => rfl,
    g_is_number := PySem.W.mg_of X G a_is_number,
    f_is_row := f_is_row,
    fd_is_row := PySem.W.fnOf "is_row" "is_row" (defArgs s_is_row) (defBody s_is_row) (defScope s_is_row) .none kV_is_row dc_is_row pm_is_row an_is_row cd_is_row ct_is_row,
    F_is_row := fun_mk (st := s_is_row) l_is_row c_is_row k_is_row,
    b_is_row := (fun_mk (st := s_is_row) l_is_row c_is_row k_is_row).binds (ps := ["value"]) fun _ _ _ _ _ _ us hl => match us, hl with | [_], _ => rfl,
    g_is_row := PySem.W.mg_of X G a_is_row,
    f_check_form := f_check_form,
    fd_check_form := PySem.W.fnOf "check_form" "check_form" (defArgs s_check_form) (defBody s_check_form) (defScope s_check_form) .none kV_check_form dc_check_form pm_check_form an_check_form cd_check_form ct_check_form,
    F_check_form := fun_mk (st := s_check_form) l_check_form c_check_form k_check_form,
    b_check_form := (fun_mk (st := s_check_form) l_check_form c_check_form k_check_form).binds (ps := ["layout", "volume"]) fun _ _ _ _ _ _ us hl => match us, hl with | [_, _], _ => rfl,
    g_check_form := PySem.W.mg_of X G a_check_form,
    f_bounds_wrong := f_bounds_wrong,
    fd_bounds_wrong := PySem.W.fnOf "bounds_wrong" "bounds_wrong" (defArgs s_bounds_wrong) (defBody s_bounds_wrong) (defScope s_bounds_wrong) .none kV_bounds_wrong dc_bounds_wrong pm_bounds_wrong an_bounds_wrong cd_bounds_wrong ct_bounds_wrong,
    F_bounds_wrong := fun_mk (st := s_bounds_wrong) l_bounds_wrong c_bounds_wrong k_bounds_wrong,
    b_bounds_wrong := (fun_mk (st := s_bounds_wrong) l_bounds_wrong c_bounds_wrong k_bounds_wrong).binds (ps := ["volume"]) fun _ _ _ _ _ _ us hl => match us, hl with | [_], _ => rfl,
    g_bounds_wrong := PySem.W.mg_of X G a_bounds_wrong,
    f_places_broken := f_places_broken,
    fd_places_broken := PySem.W.fnOf "places_broken" "places_broken" (defArgs s_places_broken) (defBody s_places_broken) (defScope s_places_broken) .none kV_places_broken dc_places_broken pm_places_broken an_places_broken cd_places_broken ct_places_broken,
    F_places_broken := fun_mk (st := s_places_broken) l_places_broken c_places_broken k_places_broken,
    b_places_broken := (fun_mk (st := s_places_broken) l_places_broken c_places_broken k_places_broken).binds (ps := ["layout", "volume", "clause"]) fun _ _ _ _ _ _ us hl => match us, hl with | [_, _, _], _ => rfl,
    g_places_broken := PySem.W.mg_of X G a_places_broken,
    f_wrong := f_wrong,
    fd_wrong := PySem.W.fnOf "wrong" "wrong" (defArgs s_wrong) (defBody s_wrong) (defScope s_wrong) .none kV_wrong dc_wrong pm_wrong an_wrong cd_wrong ct_wrong,
    F_wrong := fun_mk (st := s_wrong) l_wrong c_wrong k_wrong,
    b_wrong := (fun_mk (st := s_wrong) l_wrong c_wrong k_wrong).binds (ps := ["layout", "volume", "clause"]) fun _ _ _ _ _ _ us hl => match us, hl with | [_, _, _], _ => rfl,
    g_wrong := PySem.W.mg_of X G a_wrong,
    f_mend := f_mend,
    fd_mend := PySem.W.fnOf "mend" "mend" (defArgs s_mend) (defBody s_mend) (defScope s_mend) .none kV_mend dc_mend pm_mend an_mend cd_mend ct_mend,
    F_mend := fun_mk (st := s_mend) l_mend c_mend k_mend,
    b_mend := (fun_mk (st := s_mend) l_mend c_mend k_mend).binds (ps := ["layout", "volume"]) fun _ _ _ _ _ _ us hl => match us, hl with | [_, _], _ => rfl,
    g_mend := PySem.W.mg_of X G a_mend,
    f_faults := f_faults,
    fd_faults := PySem.W.fnOf "faults" "faults" (defArgs s_faults) (defBody s_faults) (defScope s_faults) .none kV_faults dc_faults pm_faults an_faults cd_faults ct_faults,
    F_faults := fun_mk (st := s_faults) l_faults c_faults k_faults,
    b_faults := (fun_mk (st := s_faults) l_faults c_faults k_faults).binds (ps := ["layout", "volume"]) fun _ _ _ _ _ _ us hl => match us, hl with | [_, _], _ => rfl,
    g_faults := PySem.W.mg_of X G a_faults,
    f_l_cell := f_l_cell,
    fd_l_cell := PySem.W.fnOf "_law_cell" "_law_cell" (defArgs s_l_cell) (defBody s_l_cell) (defScope s_l_cell) .none kV_l_cell dc_l_cell pm_l_cell an_l_cell cd_l_cell ct_l_cell,
    F_l_cell := fun_mk (st := s_l_cell) l_l_cell c_l_cell k_l_cell,
    b_l_cell := (fun_mk (st := s_l_cell) l_l_cell c_l_cell k_l_cell).binds (ps := ["_law_script", "_law_k"]) fun _ _ _ _ _ _ us hl => match us, hl with | [_, _], _ => rfl,
    g_l_cell := PySem.W.mg_of X G a_l_cell,
    f_l_mixed := f_l_mixed,
    fd_l_mixed := PySem.W.fnOf "_law_mixed" "_law_mixed" (defArgs s_l_mixed) (defBody s_l_mixed) (defScope s_l_mixed) .none kV_l_mixed dc_l_mixed pm_l_mixed an_l_mixed cd_l_mixed ct_l_mixed,
    F_l_mixed := fun_mk (st := s_l_mixed) l_l_mixed c_l_mixed k_l_mixed,
    b_l_mixed := (fun_mk (st := s_l_mixed) l_l_mixed c_l_mixed k_l_mixed).binds (ps := ["_law_cell_here", "_law_k"]) fun _ _ _ _ _ _ us hl => match us, hl with | [_, _], _ => rfl,
    g_l_mixed := PySem.W.mg_of X G a_l_mixed,
    f_l_layout := f_l_layout,
    fd_l_layout := PySem.W.fnOf "_law_layout" "_law_layout" (defArgs s_l_layout) (defBody s_l_layout) (defScope s_l_layout) .none kV_l_layout dc_l_layout pm_l_layout an_l_layout cd_l_layout ct_l_layout,
    F_l_layout := fun_mk (st := s_l_layout) l_l_layout c_l_layout k_l_layout,
    b_l_layout := (fun_mk (st := s_l_layout) l_l_layout c_l_layout k_l_layout).binds (ps := ["_law_script"]) fun _ _ _ _ _ _ us hl => match us, hl with | [_], _ => rfl,
    g_l_layout := PySem.W.mg_of X G a_l_layout,
    f_l_number := f_l_number,
    fd_l_number := PySem.W.fnOf "_law_number" "_law_number" (defArgs s_l_number) (defBody s_l_number) (defScope s_l_number) .none kV_l_number dc_l_number pm_l_number an_l_number cd_l_number ct_l_number,
    F_l_number := fun_mk (st := s_l_number) l_l_number c_l_number k_l_number,
    b_l_number := (fun_mk (st := s_l_number) l_l_number c_l_number k_l_number).binds (ps := ["_law_cell_here", "_law_k"]) fun _ _ _ _ _ _ us hl => match us, hl with | [_, _], _ => rfl,
    g_l_number := PySem.W.mg_of X G a_l_number,
    f_l_any := f_l_any,
    fd_l_any := PySem.W.fnOf "_law_any" "_law_any" (defArgs s_l_any) (defBody s_l_any) (defScope s_l_any) .none kV_l_any dc_l_any pm_l_any an_l_any cd_l_any ct_l_any,
    F_l_any := fun_mk (st := s_l_any) l_l_any c_l_any k_l_any,
    b_l_any := (fun_mk (st := s_l_any) l_l_any c_l_any k_l_any).binds (ps := ["_law_layout_here", "_law_cell_here"]) fun _ _ _ _ _ _ us hl => match us, hl with | [_, _], _ => rfl,
    g_l_any := PySem.W.mg_of X G a_l_any,
    f_l_told := f_l_told,
    fd_l_told := PySem.W.fnOf "_law_told" "_law_told" (defArgs s_l_told) (defBody s_l_told) (defScope s_l_told) .none kV_l_told dc_l_told pm_l_told an_l_told cd_l_told ct_l_told,
    F_l_told := fun_mk (st := s_l_told) l_l_told c_l_told k_l_told,
    b_l_told := (fun_mk (st := s_l_told) l_l_told c_l_told k_l_told).binds (ps := ["_law_layout_here", "_law_volume", "_law_clause", "_law_due"]) fun _ _ _ _ _ _ us hl => match us, hl with | [_, _, _, _], _ => rfl,
    g_l_told := PySem.W.mg_of X G a_l_told,
    f_l_near := f_l_near,
    fd_l_near := PySem.W.fnOf "_law_near" "_law_near" (defArgs s_l_near) (defBody s_l_near) (defScope s_l_near) .none kV_l_near dc_l_near pm_l_near an_l_near cd_l_near ct_l_near,
    F_l_near := fun_mk (st := s_l_near) l_l_near c_l_near k_l_near,
    b_l_near := (fun_mk (st := s_l_near) l_l_near c_l_near k_l_near).binds (ps := ["_law_layout_here", "_law_script"]) fun _ _ _ _ _ _ us hl => match us, hl with | [_, _], _ => rfl,
    g_l_near := PySem.W.mg_of X G a_l_near,
    f_l_row := f_l_row,
    fd_l_row := PySem.W.fnOf "_law_row" "_law_row" (defArgs s_l_row) (defBody s_l_row) (defScope s_l_row) .none kV_l_row dc_l_row pm_l_row an_l_row cd_l_row ct_l_row,
    F_l_row := fun_mk (st := s_l_row) l_l_row c_l_row k_l_row,
    b_l_row := (fun_mk (st := s_l_row) l_l_row c_l_row k_l_row).binds (ps := ["_law_row_here", "_law_cell_here"]) fun _ _ _ _ _ _ us hl => match us, hl with | [_, _], _ => rfl,
    g_l_row := PySem.W.mg_of X G a_l_row,
    f_l_spoiled := f_l_spoiled,
    fd_l_spoiled := PySem.W.fnOf "_law_spoiled" "_law_spoiled" (defArgs s_l_spoiled) (defBody s_l_spoiled) (defScope s_l_spoiled) .none kV_l_spoiled dc_l_spoiled pm_l_spoiled an_l_spoiled cd_l_spoiled ct_l_spoiled,
    F_l_spoiled := fun_mk (st := s_l_spoiled) l_l_spoiled c_l_spoiled k_l_spoiled,
    b_l_spoiled := (fun_mk (st := s_l_spoiled) l_l_spoiled c_l_spoiled k_l_spoiled).binds (ps := ["_law_volume", "_law_cell_here"]) fun _ _ _ _ _ _ us hl => match us, hl with | [_, _], _ => rfl,
    g_l_spoiled := PySem.W.mg_of X G a_l_spoiled,
    f_l_refused := f_l_refused,
    fd_l_refused := PySem.W.fnOf "_law_refused" "_law_refused" (defArgs s_l_refused) (defBody s_l_refused) (defScope s_l_refused) .none kV_l_refused dc_l_refused pm_l_refused an_l_refused cd_l_refused ct_l_refused,
    F_l_refused := fun_mk (st := s_l_refused) l_l_refused c_l_refused k_l_refused,
    b_l_refused := (fun_mk (st := s_l_refused) l_l_refused c_l_refused k_l_refused).binds (ps := ["_law_way", "_law_layout_here", "_law_volume", "_law_at"]) fun _ _ _ _ _ _ us hl => match us, hl with | [_, _, _, _], _ => rfl,
    g_l_refused := PySem.W.mg_of X G a_l_refused,
    f_law := f_law,
    fd_law := PySem.W.fnOf "law" "law" (defArgs s_law) (defBody s_law) (defScope s_law) .none kV_law dc_law pm_law an_law cd_law ct_law,
    F_law := fun_mk (st := s_law) l_law c_law k_law,
    b_law := (fun_mk (st := s_law) l_law c_law k_law).binds (ps := ["_law_script"]) fun _ _ _ _ _ _ us hl => match us, hl with | [_], _ => rfl,
    g_law := PySem.W.mg_of X G a_law,
    t_WIDE := t_WIDE,
    g_WIDE := PySem.W.mg_of X G a_WIDE,
    t_RECORDS_AT := t_RECORDS_AT,
    g_RECORDS_AT := PySem.W.mg_of X G a_RECORDS_AT,
    t_TOP := t_TOP,
    g_TOP := PySem.W.mg_of X G a_TOP,
    p_CLAUSES := p_CLAUSES,
    g_CLAUSES := PySem.W.mg_of X G a_CLAUSES,
    o_CLAUSES := ⟨_, _, _, q_CLAUSES, rfl, rfl, (by show 11 ≤ sizeLine; decide), .cons ⟨_, rfl⟩ (.cons ⟨_, rfl⟩ (.cons ⟨_, rfl⟩ (.cons ⟨_, rfl⟩ (.cons ⟨_, rfl⟩ (.cons ⟨_, rfl⟩ (.cons ⟨_, rfl⟩ (.cons ⟨_, rfl⟩ (.cons ⟨_, rfl⟩ (.cons ⟨_, rfl⟩ (.cons ⟨_, rfl⟩ (.nil)))))))))))⟩,
    xn_NoVolume := ⟨⟨_, _, _, _, _, _, _, _, _, _, _, _, _, _, _, _, lC_NoVolume, no_NoVolume, ni_NoVolume, tl_NoVolume⟩, i_NoVolume_init⟩,
    xs_NoVolume := ExS.of lC_NoVolume em_NoVolume eh_NoVolume sa_NoVolume,
    xh_NoVolume := xh_NoVolume,
    n_NoVolume_at := n_NoVolume_at,
    ex_NoLayout := ex_NoLayout,
    xt_NoVolume := ⟨xt_ga_NoVolume, xt_gt_NoVolume, cls_some xt_mO_NoVolume, xt_ha_NoVolume, xt_hn_NoVolume, xt_tk_NoVolume, xt_mO_NoVolume, xt_mB_NoVolume⟩,
    k_match := fa_k_match,
    k_self := fa_k_self,
    v_reads := fa_v_reads,
    v_init := fa_v_init,
    v_ga := fa_v_ga,
    z_len := PySem.W.mg_none_of X G z_len,
    z_range := PySem.W.mg_none_of X G z_range,
    z_isinstance := PySem.W.mg_none_of X G z_isinstance,
    z_int := PySem.W.mg_none_of X G z_int,
    z_bool := PySem.W.mg_none_of X G z_bool,
    z_list := PySem.W.mg_none_of X G z_list,
    z_tuple := PySem.W.mg_none_of X G z_tuple,
    z_all := PySem.W.mg_none_of X G z_all,
    z_enumerate := PySem.W.mg_none_of X G z_enumerate,
    z_min := PySem.W.mg_none_of X G z_min }
  exact ⟨T.fd_law, fun s v => .of_eq rfl, fun base _ _ => ok_law T⟩
theorem walk {l : PySem.W.OpenLaw} {q : Program} {loose : List Str} {XP : (Str → Option Value) → Heap → Prop} {YP : World → Heap → Prop} {d : DefRec} {K : Params → PySem.W.Frag} (hn : l.most = some 63) (hdf : d.params.defaults = [])
    (hY : ∀ (w : World) (h : Heap), YP w h → (K w.params).In h)
    (F : ∀ (w : World) (mg : Str → Option Value) (fa : Addr) (h : Heap), (K w.params).In h → h.Ns mainGlobals mg → mg d.name = some (.ref fa) →
      ∃ fd : FuncData, (∀ (s : Shared) (u : Value), BindsTo s fd ⟨[u], []⟩ [("_law_script", u)]) ∧ ∀ base : Heap, (K w.params).In base → base.Ns mainGlobals mg → FnOk l.prog w (K w.params) mg base CX0 12 fa fd ["_law_script"] (spLaw (K w.params))) :
    PySem.W.WalkO q loose XP YP l.row.toRowW d [] (fun f vs => PySem.call f vs) :=
  L2.walk_of (n := 63) (k := 12) (x := "_law_script") (CX := fun _ => CX0) (sp := fun w => spLaw (K w.params)) hn (by decide) hdf ⟨rfl, by decide, by decide⟩ hY F (fun _ _ a ns hl _ hS => ⟨a, ns, rfl, hS, hl, fun _ => rfl⟩) fun _ _ _ _ _ z => z
end K41
theorem PySem.W.Fast.tw8898187639864082607 : True := trivial
theorem PySem.W.Fast.tw10895824812233994037 : True := trivial
theorem PySem.W.Fast.tw8697970451547897623 : True := trivial
theorem PySem.W.Fast.tw17627223819496708856 : True := trivial
theorem PySem.W.Fast.tw16978519474709344125 : True := trivial
theorem PySem.W.Fast.tw7696931051016556579 : True := trivial
theorem PySem.W.Fast.tw4980147726330031643 : True := trivial
theorem PySem.W.Fast.tw2381780644695760580 : True := trivial
theorem PySem.W.Fast.tw10511562998476958733 : True := trivial
theorem PySem.W.Fast.tw13416859081712098151 : True := trivial
theorem PySem.W.Fast.tw4835118060551471498 : True := trivial
theorem PySem.W.Fast.tw14017152534727701577 : True := trivial
theorem PySem.W.Fast.tw18438507268970244018 : True := trivial
theorem PySem.W.Fast.tw2738589281044142468 : True := trivial
theorem PySem.W.Fast.tw7374023689583197915 : True := trivial
theorem PySem.W.Fast.tw5798226096793532422 : True := trivial
theorem PySem.W.Fast.tw6577719577439693623 : True := trivial
theorem PySem.W.Fast.tw13639462501003475635 : True := trivial
theorem PySem.W.Fast.tw4810377337308974522 : True := trivial
theorem PySem.W.Fast.tw13997826691655255609 : True := trivial
theorem PySem.W.Fast.tw18359075211283761312 : True := trivial
theorem PySem.W.Fast.tw9159216433511699912 : True := trivial
theorem PySem.W.Fast.tw7038313198624224796 : True := trivial
theorem PySem.W.Fast.tw11615764276157830088 : True := trivial
theorem PySem.W.Fast.tw16150740053716918410 : True := trivial
theorem PySem.W.Fast.tw18309821123121150497 : True := trivial
theorem PySem.W.Fast.tw6337409392900380389 : True := trivial
theorem PySem.W.Fast.tw14238297516230030069 : True := trivial
theorem PySem.W.Fast.tw16563981987887907000 : True := trivial
theorem PySem.W.Fast.tw1021852558432167671 : True := trivial
theorem PySem.W.Fast.tw12615563630852291629 : True := trivial
theorem PySem.W.Fast.tw1562982725056308859 : True := trivial
theorem PySem.W.Fast.tw4169521927736119888 : True := trivial
theorem PySem.W.Fast.tw130957282946092636 : True := trivial
theorem PySem.W.Fast.tw10255682472690120636 : True := trivial
theorem PySem.W.Fast.tw18096426714442028334 : True := trivial
theorem PySem.W.Fast.tw8771835541076396346 : True := trivial
theorem PySem.W.Fast.tw17289890191144539649 : True := trivial
theorem PySem.W.Fast.tw9384590627859857932 : True := trivial
theorem PySem.W.Fast.tw7972673121348806703 : True := trivial
theorem PySem.W.Fast.tw6384025453447478567 : True := trivial
theorem PySem.W.Fast.tw17293789095530229961 : True := trivial
theorem PySem.W.Fast.tw4515616977018169310 : True := trivial
theorem PySem.W.Fast.tw9740378785028723883 : True := trivial
theorem PySem.W.Fast.tw3322474452791059442 : True := trivial
theorem PySem.W.Fast.tw2927480119842591389 : True := trivial
theorem PySem.W.Fast.tw4104917085579056455 : True := trivial
theorem PySem.W.Fast.tw5501169973278010819 : True := trivial
theorem PySem.W.Fast.tw14440895213468148231 : True := trivial
theorem PySem.W.Fast.tw12110673190875172727 : True := trivial
theorem PySem.W.Fast.tw10158586147104441673 : True := trivial
theorem PySem.W.Fast.tw18335116958697049192 : True := trivial
theorem PySem.W.Fast.tw16839920741800573774 : True := trivial
theorem PySem.W.Fast.tw2186739729793299990 : True := trivial
theorem PySem.W.Fast.tw11551990958080414584 : True := trivial
theorem PySem.W.Fast.tw13092253964633004390 : True := trivial
theorem PySem.W.Fast.tw14735738191941752869 : True := trivial
theorem PySem.W.Fast.tw15288226383626290369 : True := trivial
theorem PySem.W.Fast.tw7136752710413751393 : True := trivial
theorem PySem.W.Fast.tw18288188217334359354 : True := trivial
theorem PySem.W.Fast.tw7593035835144321910 : True := trivial
theorem PySem.W.Fast.tw1126852678265739024 : True := trivial
theorem PySem.W.Fast.tw10261740060899580016 : True := trivial
theorem PySem.W.Fast.tw12883993277304915382 : True := trivial
theorem PySem.W.Fast.tw241298862617935463 : True := trivial
theorem PySem.W.Fast.tw15191610326976918438 : True := trivial
theorem PySem.W.Fast.tw11891671374980627337 : True := trivial
theorem PySem.W.Fast.tw14509118061505786040 : True := trivial
theorem PySem.W.Fast.tw11875947065500524717 : True := trivial
theorem PySem.W.Fast.tw254477028168416651 : True := trivial
theorem PySem.W.Fast.tw11198579974707306392 : True := trivial
theorem PySem.W.Fast.tw613080253247076407 : True := trivial
theorem PySem.W.Fast.tw12733364313300930158 : True := trivial
theorem PySem.W.Fast.tw9188382981161137924 : True := trivial
theorem PySem.W.Fast.tw5013905776645760577 : True := trivial
theorem PySem.W.Fast.tw11067903240030199436 : True := trivial
theorem PySem.W.Fast.tw6900660724269138332 : True := trivial
theorem PySem.W.Fast.tw2695803823291147591 : True := trivial
theorem PySem.W.Fast.tw2015156900240707608 : True := trivial
theorem PySem.W.Fast.tw10562565628887360405 : True := trivial
theorem PySem.W.Fast.tw11822514531925216774 : True := trivial
theorem PySem.W.Fast.tw13556033843657053095 : True := trivial
theorem PySem.W.Fast.tw1450339676571098518 : True := trivial
theorem PySem.W.Fast.tw8505569972424578518 : True := trivial
theorem PySem.W.Fast.tw9401001778228239579 : True := trivial
theorem PySem.W.Fast.tw17404639794660632624 : True := trivial
theorem PySem.W.Fast.tw7753502536147615390 : True := trivial
theorem PySem.W.Fast.tw15401887842111108612 : True := trivial
theorem PySem.W.Fast.tw7203658752730049952 : True := trivial
theorem PySem.W.Fast.tw16433884778854971799 : True := trivial
theorem PySem.W.Fast.tw14057859889731559324 : True := trivial
theorem PySem.W.Fast.tw6696034948955349975 : True := trivial
theorem PySem.W.Fast.tw10872772931737382900 : True := trivial
theorem PySem.W.Fast.tw3022305948199933099 : True := trivial
theorem PySem.W.Fast.tw10686327911895571411 : True := trivial
theorem PySem.W.Fast.tw591270390557089857 : True := trivial
theorem PySem.W.Fast.tw15900415275097792567 : True := trivial
theorem PySem.W.Fast.tw3605269928982880412 : True := trivial
theorem PySem.W.Fast.tw11031148658218762269 : True := trivial
theorem PySem.W.Fast.tw8312927759865753957 : True := trivial
theorem PySem.W.Fast.tw3126388643355568726 : True := trivial
theorem PySem.W.Fast.tw4051696736794254505 : True := trivial
theorem PySem.W.Fast.tw11432071392251002092 : True := trivial
theorem PySem.W.Fast.tw5971490793454397235 : True := trivial
theorem PySem.W.Fast.tw14328493832548064908 : True := trivial
theorem PySem.W.Fast.tw12900509514326897987 : True := trivial
theorem PySem.W.Fast.tw8806713402703357230 : True := trivial
theorem PySem.W.Fast.tw7647851873357009881 : True := trivial
theorem PySem.W.Fast.tw9025918028413925025 : True := trivial
theorem PySem.W.Fast.tw8513165439208917325 : True := trivial
theorem PySem.W.Fast.tw1321889565868298072 : True := trivial
theorem PySem.W.Fast.tw13596362146118356149 : True := trivial
theorem PySem.W.Fast.tw7949623029137825966 : True := trivial
theorem PySem.W.Fast.tw16508896424983677367 : True := trivial
theorem PySem.W.Fast.tw2774458582190249505 : True := trivial
theorem PySem.W.Fast.tw6090524720817421791 : True := trivial
theorem PySem.W.Fast.tw5691890961030902999 : True := trivial
theorem PySem.W.Fast.tw14344836844443879308 : True := trivial
theorem PySem.W.Fast.tw3200565736811481927 : True := trivial
theorem PySem.W.Fast.tw6156752199409191371 : True := trivial
theorem PySem.W.Fast.tw4674929405114161429 : True := trivial
theorem PySem.W.Fast.tw2096956138591512306 : True := trivial
theorem PySem.W.Fast.tw2092642459396397641 : True := trivial
theorem PySem.W.Fast.tw18417551311550200338 : True := trivial
theorem PySem.W.Fast.tw8013288699580157691 : True := trivial
theorem PySem.W.Fast.tw8112335039363122803 : True := trivial
theorem PySem.W.Fast.tw17710917547071371305 : True := trivial
theorem PySem.W.Fast.tw12573430647047890729 : True := trivial
theorem PySem.W.Fast.tw11604970072375051960 : True := trivial
theorem PySem.W.Fast.tw14210886086477405719 : True := trivial
theorem PySem.W.Fast.tw9816810360207755502 : True := trivial
theorem PySem.W.Fast.tw8081504844839388627 : True := trivial
theorem PySem.W.Fast.tw12966198924542396812 : True := trivial
theorem PySem.W.Fast.tw3845156583831381429 : True := trivial
theorem PySem.W.Fast.tw11947256582830199304 : True := trivial
theorem PySem.W.Fast.tw9313673170502659938 : True := trivial
theorem PySem.W.Fast.tw16637541350377938550 : True := trivial
theorem PySem.W.Fast.tw7785069667461210413 : True := trivial
theorem PySem.W.Fast.tw17397914538043609514 : True := trivial
theorem PySem.W.Fast.tw18283720677593334965 : True := trivial
theorem PySem.W.Fast.tw12478816515128436277 : True := trivial
theorem PySem.W.Fast.tw3908725243970044646 : True := trivial
theorem PySem.W.Fast.tw9626377015856450335 : True := trivial
theorem PySem.W.Fast.tw17244114789741780960 : True := trivial
theorem PySem.W.Fast.tw14978506324689388532 : True := trivial
theorem PySem.W.Fast.tw750519881462407132 : True := trivial
theorem PySem.W.Fast.tw5213427680720602743 : True := trivial
theorem PySem.W.Fast.tw17405862816599625821 : True := trivial
theorem PySem.W.Fast.tw431184305324615970 : True := trivial
theorem PySem.W.Fast.tw16130666041748046676 : True := trivial
theorem PySem.W.Fast.tw10983282800237500827 : True := trivial
theorem PySem.W.Fast.tw13537098217088521368 : True := trivial
theorem PySem.W.Fast.tw12695549278086130392 : True := trivial
theorem PySem.W.Fast.tw2882903760834295002 : True := trivial
theorem PySem.W.Fast.tw7668298294212019666 : True := trivial
theorem PySem.W.Fast.tw17065655179340783582 : True := trivial
theorem PySem.W.Fast.tw4611776706230366692 : True := trivial
theorem PySem.W.Fast.tw14260009788579554234 : True := trivial
theorem PySem.W.Fast.tw10419421002279864118 : True := trivial
theorem PySem.W.Fast.tw15018644847012130496 : True := trivial
theorem PySem.W.Fast.tw517408560859931747 : True := trivial
theorem PySem.W.Fast.tw11791749182553913190 : True := trivial
theorem PySem.W.Fast.tw7947039299028829242 : True := trivial
theorem PySem.W.Fast.tw14896874018154970275 : True := trivial
theorem PySem.W.Fast.tw455371198787186955 : True := trivial
theorem PySem.W.Fast.tw9303502284617936847 : True := trivial
theorem PySem.W.Fast.tw6597046348977280447 : True := trivial
theorem PySem.W.Fast.tw14456572675844115222 : True := trivial
theorem PySem.W.Fast.tw543418574568874395 : True := trivial
theorem PySem.W.Fast.tw4788456696653392757 : True := trivial
theorem PySem.W.Fast.tw7638628191357504921 : True := trivial
theorem PySem.W.Fast.tw11193358488422300602 : True := trivial
theorem PySem.W.Fast.tw7617338820275923877 : True := trivial
theorem PySem.W.Fast.tw16755952056307344596 : True := trivial
theorem PySem.W.Fast.tw4520400058408286828 : True := trivial
theorem PySem.W.Fast.tw8189015916076173086 : True := trivial
theorem PySem.W.Fast.tw14608073072195912268 : True := trivial
theorem PySem.W.Fast.tw7819410225129593504 : True := trivial
theorem PySem.W.Fast.tw6401109883816119704 : True := trivial
theorem PySem.W.Fast.tw2377931224262436655 : True := trivial
theorem PySem.W.Fast.tw4086155697619038061 : True := trivial
theorem PySem.W.Fast.tw9644302962998177953 : True := trivial
theorem PySem.W.Fast.tw17011911555952010934 : True := trivial
theorem PySem.W.Fast.tw405073350720071835 : True := trivial
theorem PySem.W.Fast.tw4662983149556341581 : True := trivial
theorem PySem.W.Fast.tw6517207817368015117 : True := trivial
theorem PySem.W.Fast.tw11786532366788990565 : True := trivial
theorem PySem.W.Fast.tw17045677411434048301 : True := trivial
theorem PySem.W.Fast.tw5361406775672610401 : True := trivial
theorem PySem.W.Fast.tw7373976317253815216 : True := trivial
theorem PySem.W.Fast.tw7948040873674147552 : True := trivial
theorem PySem.W.Fast.tw6675909961104836458 : True := trivial
theorem PySem.W.Fast.tw16212024842050563067 : True := trivial
theorem PySem.W.Fast.tw12676430338639370636 : True := trivial
theorem PySem.W.Fast.tw7396811203668908341 : True := trivial
theorem PySem.W.Fast.tw7672386293339423680 : True := trivial
theorem PySem.W.Fast.tw3054176564443213739 : True := trivial
theorem PySem.W.Fast.tw5922905451238370712 : True := trivial
theorem PySem.W.Fast.tw16828673582667361436 : True := trivial
theorem PySem.W.Fast.tw8116525309527338070 : True := trivial
theorem PySem.W.Fast.tw4379874833357203826 : True := trivial
theorem PySem.W.Fast.tw11903609262790065590 : True := trivial
theorem PySem.W.Fast.tw2121671449830867256 : True := trivial
theorem PySem.W.Fast.tw13402397939533949688 : True := trivial
theorem PySem.W.Fast.tw16705899379099705050 : True := trivial
theorem PySem.W.Fast.tw3454549934455288454 : True := trivial
theorem PySem.W.Fast.tw12023620224798288790 : True := trivial
theorem PySem.W.Fast.tw1393739094930640575 : True := trivial
theorem PySem.W.Fast.tw13636814158518275180 : True := trivial
theorem PySem.W.Fast.tw11959790916581676209 : True := trivial
theorem PySem.W.Fast.tw17570324386499063373 : True := trivial
theorem PySem.W.Fast.tw10589227296527060347 : True := trivial
theorem PySem.W.Fast.tw5193289203325208392 : True := trivial
theorem PySem.W.Fast.tw4775735396050051942 : True := trivial
theorem PySem.W.Fast.tw4534507541256826731 : True := trivial
theorem PySem.W.Fast.tw8851673207106540210 : True := trivial
theorem PySem.W.Fast.tw10195294842767140606 : True := trivial
theorem PySem.W.Fast.tw10169771652212670796 : True := trivial
theorem PySem.W.Fast.tw2773850782371068067 : True := trivial
theorem PySem.W.Fast.tw12183385354202192774 : True := trivial
theorem PySem.W.Fast.tw9757241216365834269 : True := trivial
theorem PySem.W.Fast.tw17279245266433782283 : True := trivial
theorem PySem.W.Fast.tw10986815345080923811 : True := trivial
theorem PySem.W.Fast.tw1434955558470107178 : True := trivial
theorem PySem.W.Fast.tw4872494225901767508 : True := trivial
theorem PySem.W.Fast.tw5334495673666868280 : True := trivial
theorem PySem.W.Fast.tw7127748649380797039 : True := trivial
theorem PySem.W.Fast.tw5186942922436185927 : True := trivial
theorem PySem.W.Fast.tw17010303620253459801 : True := trivial
theorem PySem.W.Fast.tw7911749682499046888 : True := trivial
theorem PySem.W.Fast.tw3389376292564172095 : True := trivial
theorem PySem.W.Fast.tw17687490408283005905 : True := trivial
theorem PySem.W.Fast.tw15769189075812043833 : True := trivial
theorem PySem.W.Fast.tw8816311308885410749 : True := trivial
theorem PySem.W.Fast.tw17702882555452213893 : True := trivial
theorem PySem.W.Fast.tw6397364347814793153 : True := trivial
theorem PySem.W.Fast.tw3846150109879884004 : True := trivial
theorem PySem.W.Fast.tw1462583093672695794 : True := trivial
theorem PySem.W.Fast.tw9485680144553864107 : True := trivial
theorem PySem.W.Fast.tw5618187478223599361 : True := trivial
theorem PySem.W.Fast.tw13249702695840116725 : True := trivial
theorem PySem.W.Fast.tw482502136196692026 : True := trivial
theorem PySem.W.Fast.tw7834715388661166204 : True := trivial
theorem PySem.W.Fast.tw17576898546484785102 : True := trivial
theorem PySem.W.Fast.tw14924524887301637721 : True := trivial
theorem PySem.W.Fast.tw4800397770002729720 : True := trivial
theorem PySem.W.Fast.tw8794909124629804953 : True := trivial
theorem PySem.W.Fast.tw13131424964616095617 : True := trivial
theorem PySem.W.Fast.tw8227085429113069857 : True := trivial
theorem PySem.W.Fast.tw9890520595248258886 : True := trivial
theorem PySem.W.Fast.tw10239746413126638324 : True := trivial
theorem PySem.W.Fast.tw5623269836535461679 : True := trivial
theorem PySem.W.Fast.tw897673864089690536 : True := trivial
theorem PySem.W.Fast.tw2695428867941117408 : True := trivial
theorem PySem.W.Fast.tw9517408904855026091 : True := trivial
theorem PySem.W.Fast.tw1445183489218846792 : True := trivial
theorem PySem.W.Fast.tw17026489304510806952 : True := trivial
theorem PySem.W.Fast.tw4391840953839380601 : True := trivial
theorem PySem.W.Fast.tw12291380086687233490 : True := trivial
theorem PySem.W.Fast.tw12502411686363356737 : True := trivial
theorem PySem.W.Fast.tw16385565956573549501 : True := trivial
theorem PySem.W.Fast.tw14413573292256142037 : True := trivial
theorem PySem.W.Fast.tw11111589323732532040 : True := trivial
theorem PySem.W.Fast.tw10798182026363626197 : True := trivial
theorem PySem.W.Fast.tw1076606575209921630 : True := trivial
theorem PySem.W.Fast.tw15786323796203226196 : True := trivial
theorem PySem.W.Fast.tw6136597731191331288 : True := trivial
theorem PySem.W.Fast.tw13595487463000500438 : True := trivial
theorem PySem.W.Fast.tw9719174761665994254 : True := trivial
theorem PySem.W.Fast.tw2063387758133882218 : True := trivial
theorem PySem.W.Fast.tw427900421156116704 : True := trivial
theorem PySem.W.Fast.tw15556194429422136558 : True := trivial
theorem PySem.W.Fast.tw15628623155422545730 : True := trivial
theorem PySem.W.Fast.tw12965620327645345078 : True := trivial
theorem PySem.W.Fast.tw2677822200882804116 : True := trivial
theorem PySem.W.Fast.tw7948134946037735370 : True := trivial
theorem PySem.W.Fast.tw10729961017795372967 : True := trivial
theorem PySem.W.Fast.tw8049960815936631335 : True := trivial
theorem PySem.W.Fast.tw6831121672753810466 : True := trivial
theorem PySem.W.Fast.tw15968836286106801716 : True := trivial
theorem PySem.W.Fast.tw13517113287557863558 : True := trivial
theorem PySem.W.Fast.tw16514036355876867949 : True := trivial
theorem PySem.W.Fast.tw16723298274100647478 : True := trivial
theorem PySem.W.Fast.tw10980986272475883308 : True := trivial
theorem PySem.W.Fast.tw18181945654711543823 : True := trivial
theorem PySem.W.Fast.tw4458154740817594087 : True := trivial
theorem PySem.W.Fast.tw17959314604777115135 : True := trivial
theorem PySem.W.Fast.tw5266257843018037379 : True := trivial
theorem PySem.W.Fast.tw15513213730630918922 : True := trivial
theorem PySem.W.Fast.tw18364360809609591391 : True := trivial
theorem PySem.W.Fast.tw16396548454253349838 : True := trivial
theorem PySem.W.Fast.tw9363554222514227920 : True := trivial
theorem PySem.W.Fast.tw13246121266394889757 : True := trivial
theorem PySem.W.Fast.tw10195994149191481486 : True := trivial
theorem PySem.W.Fast.tw1334871853141158437 : True := trivial
theorem PySem.W.Fast.tw8410808195614039679 : True := trivial
theorem PySem.W.Fast.tw5068624908041729725 : True := trivial
theorem PySem.W.Fast.tw12002975128357745578 : True := trivial
theorem PySem.W.Fast.tw7422308336705168045 : True := trivial
theorem PySem.W.Fast.tw17328133319586709867 : True := trivial
theorem PySem.W.Fast.tw14540959784030853120 : True := trivial
theorem PySem.W.Fast.tw4627740197954951553 : True := trivial
theorem PySem.W.Fast.tw18404912564771476148 : True := trivial
theorem PySem.W.Fast.tw3867776812896718809 : True := trivial
theorem PySem.W.Fast.tw16701988021816379196 : True := trivial
theorem PySem.W.Fast.tw9595858632466448012 : True := trivial
theorem PySem.W.Fast.tw4215273715113419369 : True := trivial
theorem PySem.W.Fast.tw3885634664237890436 : True := trivial
theorem PySem.W.Fast.tw1780625165614471274 : True := trivial
theorem PySem.W.Fast.tw10317645201463664040 : True := trivial
theorem PySem.W.Fast.tw6535525683181853298 : True := trivial
theorem PySem.W.Fast.tw2903468636881825592 : True := trivial
theorem PySem.W.Fast.tw3420617718231403127 : True := trivial
theorem PySem.W.Fast.tw14739460005670319541 : True := trivial
theorem PySem.W.Fast.tw717614667564725925 : True := trivial
theorem PySem.W.Fast.tw16230701602477382833 : True := trivial
theorem PySem.W.Fast.tw279166231337011675 : True := trivial
theorem PySem.W.Fast.tw1501374797255370073 : True := trivial
theorem PySem.W.Fast.tw6999608586067287364 : True := trivial
theorem PySem.W.Fast.tw1625879364537306247 : True := trivial
theorem PySem.W.Fast.tw1825404590947395598 : True := trivial
theorem PySem.W.Fast.tw8897502774368596200 : True := trivial
theorem PySem.W.Fast.tw1765073676459960141 : True := trivial
theorem PySem.W.Fast.tw8703923299561705285 : True := trivial
theorem PySem.W.Fast.tw6731444288975590047 : True := trivial
theorem PySem.W.Fast.tw2432687053097009108 : True := trivial
theorem PySem.W.Fast.tw2752109632194480435 : True := trivial
theorem PySem.W.Fast.tw12912998388365800288 : True := trivial
theorem PySem.W.Fast.tw13615579550730388993 : True := trivial
theorem PySem.W.Fast.tw17476541948887449883 : True := trivial
theorem PySem.W.Fast.tw9597957203312442285 : True := trivial
theorem PySem.W.Fast.tw17084264357820676269 : True := trivial
theorem PySem.W.Fast.tw10880726970270054783 : True := trivial
theorem PySem.W.Fast.tw13286344836470892410 : True := trivial
theorem PySem.W.Fast.tw8933465194760932179 : True := trivial
theorem PySem.W.Fast.tw5307816582394711829 : True := trivial
theorem PySem.W.Fast.tw12234451825934666257 : True := trivial
theorem PySem.W.Fast.tw5707721565562849517 : True := trivial
theorem PySem.W.Fast.tw233880930856077405 : True := trivial
theorem PySem.W.Fast.tw16646873131967064080 : True := trivial
theorem PySem.W.Fast.tw17023091976932186739 : True := trivial
theorem PySem.W.Fast.tw3845035145964714333 : True := trivial
theorem PySem.W.Fast.tw15423373923567375398 : True := trivial
theorem PySem.W.Fast.tw15482909742265798875 : True := trivial
theorem PySem.W.Fast.tw10307506546936358209 : True := trivial
theorem PySem.W.Fast.tw18332498233531237779 : True := trivial
theorem PySem.W.Fast.tw12028392694145012734 : True := trivial
theorem PySem.W.Fast.tw14736612322769077067 : True := trivial
theorem PySem.W.Fast.tw5877201986503947454 : True := trivial
theorem PySem.W.Fast.tw16678855711113739201 : True := trivial
theorem PySem.W.Fast.tw4672253834592440564 : True := trivial
theorem PySem.W.Fast.tw9126426491261438979 : True := trivial
theorem PySem.W.Fast.tw3602305888989496866 : True := trivial
theorem PySem.W.Fast.tw6402641715308621949 : True := trivial
theorem PySem.W.Fast.tw1723106298667672483 : True := trivial
theorem PySem.W.Fast.tw13332315465782481922 : True := trivial
theorem PySem.W.Fast.tw8810484862362646445 : True := trivial
theorem PySem.W.Fast.tw12618257977608521225 : True := trivial
theorem PySem.W.Fast.tw924203104647325946 : True := trivial
theorem PySem.W.Fast.tw6760900921738814040 : True := trivial
theorem PySem.W.Fast.tw14734951778543076888 : True := trivial
theorem PySem.W.Fast.tw16068396285052543366 : True := trivial
theorem PySem.W.Fast.tw17730960994355944081 : True := trivial
theorem PySem.W.Fast.tw15555678609225661430 : True := trivial
theorem PySem.W.Fast.tw13637560938202143162 : True := trivial
theorem PySem.W.Fast.tw17855123097901936636 : True := trivial
theorem PySem.W.Fast.tw18221953529459979893 : True := trivial
theorem PySem.W.Fast.tw14309748240464401362 : True := trivial
theorem PySem.W.Fast.tw2239307490142849338 : True := trivial
theorem PySem.W.Fast.tw16919799255735278950 : True := trivial
theorem PySem.W.Fast.tw14590118475973788190 : True := trivial
theorem PySem.W.Fast.tw15073537311558354564 : True := trivial
theorem PySem.W.Fast.tw4606917448042668408 : True := trivial
theorem PySem.W.Fast.tw13989491203250132778 : True := trivial
theorem PySem.W.Fast.tw13191805417228523385 : True := trivial
theorem PySem.W.Fast.tw15558619982355805736 : True := trivial
theorem PySem.W.Fast.tw3479007104590032212 : True := trivial
theorem PySem.W.Fast.tw13769224422622917645 : True := trivial
theorem PySem.W.Fast.tw7196124213002887105 : True := trivial
theorem PySem.W.Fast.tw8548042998342405022 : True := trivial
theorem PySem.W.Fast.tw4026276260258963700 : True := trivial
theorem PySem.W.Fast.tw15331848357776375729 : True := trivial
theorem PySem.W.Fast.tw6985840212017318755 : True := trivial
theorem PySem.W.Fast.tw9318480050848776362 : True := trivial
theorem PySem.W.Fast.tw12012000761778777301 : True := trivial
theorem PySem.W.Fast.tw13302409442353887429 : True := trivial
theorem PySem.W.Fast.tw11718856833769517055 : True := trivial
theorem PySem.W.Fast.tw10931905610271133730 : True := trivial
theorem PySem.W.Fast.tw8229800361568423241 : True := trivial
theorem PySem.W.Fast.tw6817000560624863957 : True := trivial
theorem PySem.W.Fast.tw774489092313601759 : True := trivial
theorem PySem.W.Fast.tw10753579977371462972 : True := trivial
theorem PySem.W.Fast.tw7475639796321070504 : True := trivial
theorem PySem.W.Fast.tw4837135679894665457 : True := trivial
theorem PySem.W.Fast.tw2503304353857072968 : True := trivial
theorem PySem.W.Fast.tw5466195049166420357 : True := trivial
theorem PySem.W.Fast.tw2994483546011008724 : True := trivial
theorem PySem.W.Fast.tw3274330002398713822 : True := trivial
theorem PySem.W.Fast.tw10408492590018081841 : True := trivial
theorem PySem.W.Fast.tw3396090508947158705 : True := trivial
theorem PySem.W.Fast.tw15464355308043982650 : True := trivial
theorem PySem.W.Fast.tw7128625593126097597 : True := trivial
theorem PySem.W.Fast.tw9717572271753911632 : True := trivial
theorem PySem.W.Fast.tw9472554649784947750 : True := trivial
theorem PySem.W.Fast.tw2599227697739945303 : True := trivial
theorem PySem.W.Fast.tw5240811351347136131 : True := trivial
theorem PySem.W.Fast.tw9032297777286224280 : True := trivial
theorem PySem.W.Fast.tw6895685029278737261 : True := trivial
theorem PySem.W.Fast.tw11721824501751175204 : True := trivial
theorem PySem.W.Fast.tw1473720289992757052 : True := trivial
theorem PySem.W.Fast.tw9449258723248686554 : True := trivial
theorem PySem.W.Fast.tw12853927433608505096 : True := trivial
theorem PySem.W.Fast.tw6272571340322453406 : True := trivial
theorem PySem.W.Fast.tw16857287266099361924 : True := trivial
theorem PySem.W.Fast.tw12606901179749121791 : True := trivial
theorem PySem.W.Fast.tw9551824211713014814 : True := trivial
theorem PySem.W.Fast.tw13767544590032199620 : True := trivial
theorem PySem.W.Fast.tw17652577012923245033 : True := trivial
theorem PySem.W.Fast.tw4027577785165799196 : True := trivial
theorem PySem.W.Fast.tw6228352184442712678 : True := trivial
theorem PySem.W.Fast.tw6940956722688218827 : True := trivial
theorem PySem.W.Fast.tw14469790124778090128 : True := trivial
theorem PySem.W.Fast.tw3260213090497171043 : True := trivial
theorem PySem.W.Fast.tw4527375091523488501 : True := trivial
theorem PySem.W.Fast.tw14255845852221638511 : True := trivial
theorem PySem.W.Fast.tw5116398897499207177 : True := trivial
theorem PySem.W.Fast.tw6443382751614951724 : True := trivial
theorem PySem.W.Fast.tw6127774790092958416 : True := trivial
theorem PySem.W.Fast.tw9809894901434717261 : True := trivial
theorem PySem.W.Fast.tw1985761503041850184 : True := trivial
theorem PySem.W.Fast.tw17550737509342157566 : True := trivial
theorem PySem.W.Fast.tw17373821028620212013 : True := trivial
theorem PySem.W.Fast.tw2100164402213976371 : True := trivial
theorem PySem.W.Fast.tw11780898718987628162 : True := trivial
theorem PySem.W.Fast.tw9673508824734615888 : True := trivial
theorem PySem.W.Fast.tw11767336614837983196 : True := trivial
theorem PySem.W.Fast.tw5654145612425688144 : True := trivial
theorem PySem.W.Fast.tw5476743067022643746 : True := trivial
theorem PySem.W.Fast.tw17507203419239395660 : True := trivial
theorem PySem.W.Fast.tw13505805209312915047 : True := trivial
theorem PySem.W.Fast.tw6975533713459183438 : True := trivial
theorem PySem.W.Fast.tw10400482023069972805 : True := trivial
theorem PySem.W.Fast.tw1802141816225799579 : True := trivial
theorem PySem.W.Fast.tw12047985416071533078 : True := trivial
theorem PySem.W.Fast.tw16536279146752973653 : True := trivial
theorem PySem.W.Fast.tw3278960906089500168 : True := trivial
theorem PySem.W.Fast.tw5768912803918277796 : True := trivial
theorem PySem.W.Fast.tw14001572690060749264 : True := trivial
theorem PySem.W.Fast.tw7358048277844086235 : True := trivial
theorem PySem.W.Fast.tw476281965066214274 : True := trivial
theorem PySem.W.Fast.tw11025011160538113049 : True := trivial
theorem PySem.W.Fast.tw7856227573922408956 : True := trivial
theorem PySem.W.Fast.tw6868070259485952165 : True := trivial
theorem PySem.W.Fast.tw5880747581452463647 : True := trivial
theorem PySem.W.Fast.tw3077483394608285203 : True := trivial
theorem PySem.W.Fast.tw15788072679698439834 : True := trivial
theorem PySem.W.Fast.tw1023372890153087665 : True := trivial
theorem PySem.W.Fast.tw12328543768270773888 : True := trivial
theorem PySem.W.Fast.tw674069476689906596 : True := trivial
theorem PySem.W.Fast.tw1694658561719358695 : True := trivial
theorem PySem.W.Fast.tw298413776310087954 : True := trivial
theorem PySem.W.Fast.tw14102093980450396361 : True := trivial
theorem PySem.W.Fast.tw13197466754406954125 : True := trivial
theorem PySem.W.Fast.tw11390223727144734127 : True := trivial
theorem PySem.W.Fast.tw14116859004818021555 : True := trivial
theorem PySem.W.Fast.tw14201237374563393708 : True := trivial
theorem PySem.W.Fast.tw7992768073088269701 : True := trivial
theorem PySem.W.Fast.tw6811071853614436635 : True := trivial
theorem PySem.W.Fast.tw15844398332599462335 : True := trivial
theorem PySem.W.Fast.tw16309732386191134002 : True := trivial
theorem PySem.W.Fast.tw14371627134535455329 : True := trivial
theorem PySem.W.Fast.tw584361480191682187 : True := trivial
theorem PySem.W.Fast.tw12395501243968267108 : True := trivial
theorem PySem.W.Fast.tw9429459027819812645 : True := trivial
theorem PySem.W.Fast.tw2403831980363837357 : True := trivial
theorem PySem.W.Fast.tw1789743035098070824 : True := trivial
theorem PySem.W.Fast.tw11268629016914257664 : True := trivial
theorem PySem.W.Fast.tw2360957070591017510 : True := trivial
theorem PySem.W.Fast.tw17167907120806802006 : True := trivial
theorem PySem.W.Fast.tw3865548236846136366 : True := trivial
theorem PySem.W.Fast.tw4902098310238624976 : True := trivial
theorem PySem.W.Fast.tw17694265543627297627 : True := trivial
theorem PySem.W.Fast.tw6474866689598499267 : True := trivial
theorem PySem.W.Fast.tw9436516545852917566 : True := trivial
theorem PySem.W.Fast.tw9074948142776248144 : True := trivial
theorem PySem.W.Fast.tw4232346175712735157 : True := trivial
theorem PySem.W.Fast.tw1652107330386749063 : True := trivial
theorem PySem.W.Fast.tw458296503392082442 : True := trivial
theorem PySem.W.Fast.tw11653247402172501996 : True := trivial
theorem PySem.W.Fast.tw15645935722253158100 : True := trivial
theorem PySem.W.Fast.tw16540757572953024443 : True := trivial
theorem PySem.W.Fast.tw1028795849863423474 : True := trivial
theorem PySem.W.Fast.tw7764095557713952399 : True := trivial
theorem PySem.W.Fast.tw15709540044767571641 : True := trivial
theorem PySem.W.Fast.tw7517145964554592029 : True := trivial
theorem PySem.W.Fast.tw17067963593648857701 : True := trivial
theorem PySem.W.Fast.tw17640863211404924717 : True := trivial
theorem PySem.W.Fast.tw1653561210590138178 : True := trivial
theorem PySem.W.Fast.tw6965446525370969780 : True := trivial
theorem PySem.W.Fast.tw6374291158566040273 : True := trivial
theorem PySem.W.Fast.tw5252599193297928845 : True := trivial
theorem PySem.W.Fast.tw333482574844003981 : True := trivial
theorem PySem.W.Fast.tw11113749125136959943 : True := trivial
theorem PySem.W.Fast.tw4098462226491607337 : True := trivial
theorem PySem.W.Fast.tw7771379546135007923 : True := trivial
theorem PySem.W.Fast.tw1867384267966316949 : True := trivial
theorem PySem.W.Fast.tw13087224566463213038 : True := trivial
theorem PySem.W.Fast.tw16344640168944622109 : True := trivial
theorem PySem.W.Fast.tw12667419062373824415 : True := trivial
theorem PySem.W.Fast.tw13958763393834198571 : True := trivial
theorem PySem.W.Fast.tw201693575765239785 : True := trivial
theorem PySem.W.Fast.tw7156758609004092088 : True := trivial
theorem PySem.W.Fast.tw1995951151715736457 : True := trivial
theorem PySem.W.Fast.tw18037766868696212461 : True := trivial
theorem PySem.W.Fast.tw14710115961829711578 : True := trivial
theorem PySem.W.Fast.tw3167774310814603432 : True := trivial
theorem PySem.W.Fast.tw13397126406766915159 : True := trivial
theorem PySem.W.Fast.tw17211405043691001049 : True := trivial
theorem PySem.W.Fast.tw11010462500672179632 : True := trivial
theorem PySem.W.Fast.tw11737827379360531699 : True := trivial
theorem PySem.W.Fast.tw6592192124330702206 : True := trivial
theorem PySem.W.Fast.tw15215184914793477931 : True := trivial
theorem PySem.W.Fast.tw1344756849890131248 : True := trivial
theorem PySem.W.Fast.tw8680004418582914674 : True := trivial
theorem PySem.W.Fast.tw15473962862379629994 : True := trivial
theorem PySem.W.Fast.tw5469171161936076995 : True := trivial
theorem PySem.W.Fast.tw7834416395349202118 : True := trivial
theorem PySem.W.Fast.tw4058962598241357379 : True := trivial
theorem PySem.W.Fast.tw489187271376888250 : True := trivial
theorem PySem.W.Fast.tw5282583894442875667 : True := trivial
theorem PySem.W.Fast.tw5573784629295038652 : True := trivial
theorem PySem.W.Fast.tw12837897045547888823 : True := trivial
theorem PySem.W.Fast.tw2221030503295539828 : True := trivial
theorem PySem.W.Fast.tw718959560814699699 : True := trivial
theorem PySem.W.Fast.tw15486847802114161962 : True := trivial
theorem PySem.W.Fast.tw8003044723075723288 : True := trivial
theorem PySem.W.Fast.tw7379317578877858369 : True := trivial
theorem PySem.W.Fast.tw7790407682127923832 : True := trivial
theorem PySem.W.Fast.tw3021564516146950207 : True := trivial
theorem PySem.W.Fast.tw13783098125820674863 : True := trivial
theorem PySem.W.Fast.tw2925293242897132300 : True := trivial
theorem PySem.W.Fast.tw6611812458963398484 : True := trivial
theorem PySem.W.Fast.tw6131929795762072961 : True := trivial
theorem PySem.W.Fast.tw11740735404094343516 : True := trivial
theorem PySem.W.Fast.tw484654545905647681 : True := trivial
theorem PySem.W.Fast.tw8913452277329781761 : True := trivial
theorem PySem.W.Fast.tw6470757311141484891 : True := trivial
theorem PySem.W.Fast.tw6706891165172253067 : True := trivial
theorem PySem.W.Fast.tw9577759154295000542 : True := trivial
theorem PySem.W.Fast.tw16070419410413061575 : True := trivial
theorem PySem.W.Fast.tw13995268391508611290 : True := trivial
theorem PySem.W.Fast.tw8494619788239690194 : True := trivial
theorem PySem.W.Fast.tw1834308048523307316 : True := trivial
theorem PySem.W.Fast.tw15935955690080396640 : True := trivial
theorem PySem.W.Fast.tw15664347208287470432 : True := trivial
theorem PySem.W.Fast.tw11610116020834234904 : True := trivial
theorem PySem.W.Fast.tw987566179180977370 : True := trivial
theorem PySem.W.Fast.tw14910438705325413661 : True := trivial
theorem PySem.W.Fast.tw6794931745231665741 : True := trivial
theorem PySem.W.Fast.tw13051404855761315482 : True := trivial
theorem PySem.W.Fast.tw14540587204416963915 : True := trivial
theorem PySem.W.Fast.tw15975019639770263375 : True := trivial
theorem PySem.W.Fast.tw12438670324973110915 : True := trivial
theorem PySem.W.Fast.tw11002911517158239557 : True := trivial
theorem PySem.W.Fast.tw5173473267745348776 : True := trivial
theorem PySem.W.Fast.tw781791032546949544 : True := trivial
theorem PySem.W.Fast.tw6075460670322325071 : True := trivial
theorem PySem.W.Fast.tw4483259015214263146 : True := trivial
theorem PySem.W.Fast.tw7141172233118147916 : True := trivial
theorem PySem.W.Fast.tw17778523150592812372 : True := trivial
theorem PySem.W.Fast.tw16734317997653872645 : True := trivial
theorem PySem.W.Fast.tw8239594486213095109 : True := trivial
theorem PySem.W.Fast.tw10021194896385189996 : True := trivial
theorem PySem.W.Fast.tw9966343966041871811 : True := trivial
theorem PySem.W.Fast.tw5710725497977071674 : True := trivial
theorem PySem.W.Fast.tw9930642771045403774 : True := trivial
theorem PySem.W.Fast.tw18152824670724926104 : True := trivial
theorem PySem.W.Fast.tw14429819676594202566 : True := trivial
theorem PySem.W.Fast.tw1781838148050386642 : True := trivial
theorem PySem.W.Fast.tw9779034989677967589 : True := trivial
theorem PySem.W.Fast.tw1374685737716316354 : True := trivial
theorem PySem.W.Fast.tw1998311056475731740 : True := trivial
open PySem PySem.W PyProof.Rows
set_option maxRecDepth 100000 in
set_option maxHeartbeats 0 in
theorem PySem.Challenge.cw_volumemend_k41_numbers_out_of_bounds_holds : PySem.Challenge.rw_volumemend_k41_numbers_out_of_bounds.Holds := by
  w_on; o_law; k_head; (case hw => w_witness2)
  k_fill
  refine K41.walk (l := PySem.Challenge.rw_volumemend_k41_numbers_out_of_bounds) rfl rfl (fun w h Y => PySem.W.kIn_of Y) ?F
  case F =>
    intro w mg fa h KX G hmg
    refine' K41.all_mk KX G hmg ?aC_Layout ?pg_Layout ?hd_Layout ?po_Layout ?sa_Layout ?n_Layout_files ?n_Layout_slots ?n_Layout_data ?aC_VolumeError ?aC_NoLayout ?aC_NoVolume ?a_NoVolume_init ?i_NoVolume_init ?l_NoVolume_init ?c_NoVolume_init ?k_NoVolume_init ?a_Layout_init ?i_Layout_init ?l_Layout_init ?c_Layout_init ?k_Layout_init ?mk_Layout ?kc_Layout ?a_Layout_many ?i_Layout_many ?l_Layout_many ?c_Layout_many ?k_Layout_many ?a_Layout_record_at ?i_Layout_record_at ?l_Layout_record_at ?c_Layout_record_at ?k_Layout_record_at ?a_Layout_names_at ?i_Layout_names_at ?l_Layout_names_at ?c_Layout_names_at ?k_Layout_names_at ?a_Layout_data_at ?i_Layout_data_at ?l_Layout_data_at ?c_Layout_data_at ?k_Layout_data_at ?a_is_number ?l_is_number ?c_is_number ?k_is_number ?a_is_row ?l_is_row ?c_is_row ?k_is_row ?a_check_form ?l_check_form ?c_check_form ?k_check_form ?a_bounds_wrong ?l_bounds_wrong ?c_bounds_wrong ?k_bounds_wrong ?a_places_broken ?l_places_broken ?c_places_broken ?k_places_broken ?a_wrong ?l_wrong ?c_wrong ?k_wrong ?a_mend ?l_mend ?c_mend ?k_mend ?a_faults ?l_faults ?c_faults ?k_faults ?a_l_cell ?l_l_cell ?c_l_cell ?k_l_cell ?a_l_mixed ?l_l_mixed ?c_l_mixed ?k_l_mixed ?a_l_layout ?l_l_layout ?c_l_layout ?k_l_layout ?a_l_number ?l_l_number ?c_l_number ?k_l_number ?a_l_any ?l_l_any ?c_l_any ?k_l_any ?a_l_told ?l_l_told ?c_l_told ?k_l_told ?a_l_near ?l_l_near ?c_l_near ?k_l_near ?a_l_row ?l_l_row ?c_l_row ?k_l_row ?a_l_spoiled ?l_l_spoiled ?c_l_spoiled ?k_l_spoiled ?a_l_refused ?l_l_refused ?c_l_refused ?k_l_refused ?a_law ?l_law ?c_law ?k_law ?a_WIDE ?a_RECORDS_AT ?a_TOP ?a_CLAUSES ?q_CLAUSES ?lC_NoVolume ?no_NoVolume ?ni_NoVolume ?tl_NoVolume ?em_NoVolume ?eh_NoVolume ?sa_NoVolume ?xh_NoVolume ?n_NoVolume_at ?ex_NoLayout ?xt_ga_NoVolume ?xt_gt_NoVolume ?xt_ha_NoVolume ?xt_mO_NoVolume ?xt_mB_NoVolume ?xt_hn_NoVolume ?xt_tk_NoVolume ?fa_k_match ?fa_k_self ?fa_v_reads ?fa_v_init ?fa_v_ga ?z_len ?z_range ?z_isinstance ?z_int ?z_bool ?z_list ?z_tuple ?z_all ?z_enumerate ?z_min
    (case aC_Layout => k_is)
    (case pg_Layout => k_is)
    (case hd_Layout => k_is)
    (case po_Layout => k_is)
    (case sa_Layout => k_is)
    (case n_Layout_files => k_is)
    (case n_Layout_slots => k_is)
    (case n_Layout_data => k_is)
    (case aC_VolumeError => k_is)
    (case aC_NoLayout => k_is)
    (case aC_NoVolume => k_is)
    (case a_NoVolume_init => k_is)
    (case i_NoVolume_init => k_is)
    (case l_NoVolume_init => k_is)
    (case c_NoVolume_init => k_is)
    (case k_NoVolume_init => k_is)
    (case a_Layout_init => k_is)
    (case i_Layout_init => k_is)
    (case l_Layout_init => k_is)
    (case c_Layout_init => k_is)
    (case k_Layout_init => k_is)
    (case mk_Layout => k_is)
    (case kc_Layout => k_is)
    (case a_Layout_many => k_is)
    (case i_Layout_many => k_is)
    (case l_Layout_many => k_is)
    (case c_Layout_many => k_is)
    (case k_Layout_many => k_is)
    (case a_Layout_record_at => k_is)
    (case i_Layout_record_at => k_is)
    (case l_Layout_record_at => k_is)
    (case c_Layout_record_at => k_is)
    (case k_Layout_record_at => k_is)
    (case a_Layout_names_at => k_is)
    (case i_Layout_names_at => k_is)
    (case l_Layout_names_at => k_is)
    (case c_Layout_names_at => k_is)
    (case k_Layout_names_at => k_is)
    (case a_Layout_data_at => k_is)
    (case i_Layout_data_at => k_is)
    (case l_Layout_data_at => k_is)
    (case c_Layout_data_at => k_is)
    (case k_Layout_data_at => k_is)
    (case a_is_number => k_is)
    (case l_is_number => k_is)
    (case c_is_number => k_is)
    (case k_is_number => k_is)
    (case a_is_row => k_is)
    (case l_is_row => k_is)
    (case c_is_row => k_is)
    (case k_is_row => k_is)
    (case a_check_form => k_is)
    (case l_check_form => k_is)
    (case c_check_form => k_is)
    (case k_check_form => k_is)
    (case a_bounds_wrong => k_is)
    (case l_bounds_wrong => k_is)
    (case c_bounds_wrong => k_is)
    (case k_bounds_wrong => k_is)
    (case a_places_broken => k_is)
    (case l_places_broken => k_is)
    (case c_places_broken => k_is)
    (case k_places_broken => k_is)
    (case a_wrong => k_is)
    (case l_wrong => k_is)
    (case c_wrong => k_is)
    (case k_wrong => k_is)
    (case a_mend => k_is)
    (case l_mend => k_is)
    (case c_mend => k_is)
    (case k_mend => k_is)
    (case a_faults => k_is)
    (case l_faults => k_is)
    (case c_faults => k_is)
    (case k_faults => k_is)
    (case a_l_cell => k_is)
    (case l_l_cell => k_is)
    (case c_l_cell => k_is)
    (case k_l_cell => k_is)
    (case a_l_mixed => k_is)
    (case l_l_mixed => k_is)
    (case c_l_mixed => k_is)
    (case k_l_mixed => k_is)
    (case a_l_layout => k_is)
    (case l_l_layout => k_is)
    (case c_l_layout => k_is)
    (case k_l_layout => k_is)
    (case a_l_number => k_is)
    (case l_l_number => k_is)
    (case c_l_number => k_is)
    (case k_l_number => k_is)
    (case a_l_any => k_is)
    (case l_l_any => k_is)
    (case c_l_any => k_is)
    (case k_l_any => k_is)
    (case a_l_told => k_is)
    (case l_l_told => k_is)
    (case c_l_told => k_is)
    (case k_l_told => k_is)
    (case a_l_near => k_is)
    (case l_l_near => k_is)
    (case c_l_near => k_is)
    (case k_l_near => k_is)
    (case a_l_row => k_is)
    (case l_l_row => k_is)
    (case c_l_row => k_is)
    (case k_l_row => k_is)
    (case a_l_spoiled => k_is)
    (case l_l_spoiled => k_is)
    (case c_l_spoiled => k_is)
    (case k_l_spoiled => k_is)
    (case a_l_refused => k_is)
    (case l_l_refused => k_is)
    (case c_l_refused => k_is)
    (case k_l_refused => k_is)
    (case a_law => k_is)
    (case l_law => k_is)
    (case c_law => k_is)
    (case k_law => k_is)
    (case a_WIDE => k_is)
    (case a_RECORDS_AT => k_is)
    (case a_TOP => k_is)
    (case a_CLAUSES => k_is)
    (case q_CLAUSES => k_is)
    (case lC_NoVolume => k_is)
    (case no_NoVolume => kernel_rfl)
    (case ni_NoVolume => k_is)
    (case tl_NoVolume => kernel_rfl)
    (case em_NoVolume => kernel_rfl)
    (case eh_NoVolume => rfl)
    (case sa_NoVolume => k_is)
    (case xh_NoVolume => k_is)
    (case n_NoVolume_at => k_is)
    (case ex_NoLayout => k_exc)
    (case xt_ga_NoVolume => k_is)
    (case xt_gt_NoVolume => k_is)
    (case xt_ha_NoVolume => k_is)
    (case xt_mO_NoVolume => k_is)
    (case xt_mB_NoVolume => k_is)
    (case xt_hn_NoVolume => k_is)
    (case xt_tk_NoVolume => k_is)
    (case fa_k_match => kts_exm)
    (case fa_k_self => kit_is)
    (case fa_v_reads => k_is)
    (case fa_v_init => k_is)
    (case fa_v_ga => k_is)
    (case z_len => k_is)
    (case z_range => k_is)
    (case z_isinstance => k_is)
    (case z_int => k_is)
    (case z_bool => k_is)
    (case z_list => k_is)
    (case z_tuple => k_is)
    (case z_all => k_is)
    (case z_enumerate => k_is)
    (case z_min => k_is)
