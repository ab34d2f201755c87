import PyProof.Rows.All
import Wide.All
import OpenK.AllK
import Wide.FinOn
import Lean
import PyProof.EqAt
import PyProof.EqKinds
import PyProof.TupleCall
import PyProof.EnumMake
import PyProof.EnumFor
import PyProof.StationsW
import PyProof.ExcClass
import PyProof.ExcInit
import PyProof.ExcClass2
import PyProof.DictItems
import KE.KPairComp
import PyProof.FactsDict
import PyProof.MeetsDictList
import PyProof.DictWalks
import KE.KDictList
import KE.KDictSum
import KE.KLam
import KE.KSortKey
import KE.KNestM
import KE.KSortTup
import PyProof.WalkInts
import PySem.Challenge.RW_volumemend_k32_names_told
set_option Elab.async false
set_option linter.all false
set_option maxRecDepth 100000
/-! THE HAND LAYER, for ints, bools, texts, own classes, LISTS and tuples (index, slices, in, append, pop ..), calls, loops. Paste it whole ahead of your own text; what your proof does not reach may be deleted. -/
namespace L2
open PySem PySem.Spec PyProof.Rows

/-- a key: an int or a str -/
abbrev Key := Sum Int Str
def keyIs : Key → Value → Bool
  | .inl k, v => Value.isInt k v
  | .inr x, v => Value.isStrOf x v
def keyH (w : World) : Key → Int
  | .inl k => hashInt k
  | .inr x => hashStr w x
theorem keyIs_shape : ∀ {k : Key} {v : Value}, keyIs k v = true → (∃ i t, k = Sum.inl i ∧ v = Value.int i t) ∨ (∃ x t, k = Sum.inr x ∧ v = Value.str x t)
  | .inl i, v, h => by
    obtain ⟨t, e⟩ := Value.isInt_shape (k := i) (v := v) h
    exact .inl ⟨i, t, rfl, e⟩
  | .inr x, v, h => by
    obtain ⟨t, e⟩ := Value.isStrOf_shape (x := x) (v := v) h
    exact .inr ⟨x, t, rfl, e⟩
theorem keyIs_int (i : Int) (t : Tok) : keyIs (.inl i) (.int i t) = true := by simp [keyIs, Value.isInt]
theorem keyIs_str (x : Str) (t : Tok) : keyIs (.inr x) (.str x t) = true := by simp [keyIs, Value.isStrOf]
theorem key_ll (a b : Int) : decide ((Sum.inl a : Key) = Sum.inl b) = (a == b) := by
  by_cases e : a = b
  · subst e; simp
  · have h : ¬ (Sum.inl a : Key) = Sum.inl b := fun q => e (Sum.inl.inj q)
    rw [decide_eq_false h]
    exact (beq_eq_false_iff_ne.mpr e).symm
theorem key_rr (a b : Str) : decide ((Sum.inr a : Key) = Sum.inr b) = decide (a = b) := by
  by_cases e : a = b
  · subst e; simp
  · have h : ¬ (Sum.inr a : Key) = Sum.inr b := fun q => e (Sum.inr.inj q)
    rw [decide_eq_false h, decide_eq_false e]
theorem key_lr (a : Int) (b : Str) : decide ((Sum.inl a : Key) = Sum.inr b) = false := decide_eq_false (fun q => nomatch q)
theorem key_rl (a : Str) (b : Int) : decide ((Sum.inr a : Key) = Sum.inl b) = false := decide_eq_false (fun q => nomatch q)

def mixKind (prog : Program) (w : World) : PySem.KeyKind prog w Key where
  is := keyIs
  hash := keyH w
  inj := fun v a b ha hb => by
    rcases keyIs_shape ha with ⟨i, t, rfl, rfl⟩ | ⟨x, t, rfl, rfl⟩
    · rcases keyIs_shape hb with ⟨j, u, rfl, e⟩ | ⟨y, u, rfl, e⟩
      · injection e with e1 _; rw [e1]
      · exact nomatch e
    · rcases keyIs_shape hb with ⟨j, u, rfl, e⟩ | ⟨y, u, rfl, e⟩
      · exact nomatch e
      · injection e with e1 _; rw [e1]
  byValue := fun k v h => by
    rcases keyIs_shape h with ⟨i, t, rfl, rfl⟩ | ⟨x, t, rfl, rfl⟩ <;> rfl
  pyHash := fun hv h => by
    rcases keyIs_shape hv with ⟨i, t, rfl, rfl⟩ | ⟨x, t, rfl, rfl⟩
    · exact wpAny_pyHash_int h
    · exact wpAny_pyHash_str h
  eqBool := fun hu hv h => by
    rcases keyIs_shape hu with ⟨i, t, rfl, rfl⟩ | ⟨x, t, rfl, rfl⟩
    · rcases keyIs_shape hv with ⟨j, u, rfl, rfl⟩ | ⟨y, u, rfl, rfl⟩
      · rw [key_ll] at h; exact wpAny_eqBool_int h
      · rw [key_lr] at h; exact SeqAt.EqAt.int_str i t y u _ _ _ _ h
    · rcases keyIs_shape hv with ⟨j, u, rfl, rfl⟩ | ⟨y, u, rfl, rfl⟩
      · rw [key_rl] at h; exact SeqAt.EqAt.str_int x t j u _ _ _ _ h
      · rw [key_rr] at h; exact wpAny_eqBool_str h
  «strs» := fun k x t v h => by
    rcases keyIs_shape h with ⟨i, u, rfl, e⟩ | ⟨y, u, rfl, e⟩
    · exact nomatch e
    · injection e with e1 _
      subst e1
      cases v <;> rfl

theorem mixKind_int (prog : Program) (w : World) (i : Int) (t : Tok) : (mixKind prog w).is (.inl i) (.int i t) = true := keyIs_int i t
theorem mixKind_str (prog : Program) (w : World) (x : Str) (t : Tok) : (mixKind prog w).is (.inr x) (.str x t) = true := keyIs_str x t
end L2

namespace L2
open PySem PySem.Spec PyProof.Rows

/-- a value, without the heap -/
inductive V where
  | non | bl (b : Bool) | int (i : Int) | str (x : Str) | byt (b : Array UInt8) | flt (b : UInt64) | ref (a : Addr) | ty (n : String)
  deriving DecidableEq

def RelV : V → Value → Prop
  | .non, u => u = Value.none
  | .bl b, u => u = Value.bool b
  | .int i, u => ∃ t, u = Value.int i t
  | .str x, u => ∃ t, u = Value.str x t
  | .byt b, u => ∃ t, u = Value.bytes b t
  | .flt b, u => ∃ t, u = Value.float b t
  | .ref a, u => u = Value.ref a
  | .ty n, u => u = Value.type n

abbrev Vals : List V → List Value → Prop := Paired RelV
theorem Vals.length {xs : List V} {us : List Value} (r : Vals xs us) : xs.length = us.length := Paired.length r
theorem Vals.get : ∀ {xs : List V} {us : List Value} {i : Nat} {x : V}, Vals xs us → xs[i]? = some x → ∃ u, us[i]? = some u ∧ RelV x u
  | _, _, _, _, .nil, e => by simp at e
  | _, _, 0, _, .cons r _, e => by simp at e; subst e; exact ⟨_, rfl, r⟩
  | _, _, i + 1, x, .cons _ t, e => by
    obtain ⟨u, h1, h2⟩ := Vals.get (i := i) (x := x) t (by simpa using e)
    exact ⟨u, by simpa using h1, h2⟩
theorem Vals.set {x : V} {u : Value} (r : RelV x u) : ∀ {xs : List V} {us : List Value} (i : Nat), Vals xs us → Vals (xs.set i x) (us.set i u)
  | _, _, _, .nil => .nil
  | _, _, 0, .cons _ t => .cons r t
  | _, _, i + 1, .cons q t => .cons q (Vals.set r i t)
theorem Vals.append : ∀ {xs ys : List V} {us ws : List Value}, Vals xs us → Vals ys ws → Vals (xs ++ ys) (us ++ ws)
  | _, _, _, _, .nil, s => s
  | _, _, _, _, .cons r t, s => .cons r (Vals.append t s)
theorem Vals.take : ∀ {xs : List V} {us : List Value} (n : Nat), Vals xs us → Vals (xs.take n) (us.take n)
  | _, _, 0, _ => .nil
  | _, _, _ + 1, .nil => .nil
  | _, _, n + 1, .cons r t => .cons r (Vals.take n t)
theorem Vals.drop : ∀ {xs : List V} {us : List Value} (n : Nat), Vals xs us → Vals (xs.drop n) (us.drop n)
  | _, _, 0, r => r
  | _, _, _ + 1, .nil => .nil
  | _, _, n + 1, .cons _ t => Vals.drop n t
theorem Vals.none_of : ∀ {xs : List V} {us : List Value} {i : Nat}, Vals xs us → xs[i]? = none → us[i]? = none := fun {xs us i} r e => by
  have h1 := r.length
  have h2 : xs.length ≤ i := List.getElem?_eq_none_iff.mp e
  exact List.getElem?_eq_none_iff.mpr (by omega)

def RelO : Option V → Option Value → Prop
  | some v, some u => RelV v u
  | none, none => True
  | _, _ => False
def KV {κ : Type} : List (κ × V) → List (κ × Value) → Prop := Paired fun (p : κ × V) (q : κ × Value) => p.1 = q.1 ∧ RelV p.2 q.2

/-- a key of a dict (00_mix): an int or a text -/
def kV : Key → V
  | .inl i => .int i
  | .inr x => .str x

/-- what stands at a tracked address -/
inductive HO where
  /-- a list -/
  | lst (xs : List V)
  /-- a tuple (never changes) -/
  | tup (xs : List V)
  /-- a dict whose keys are ints and texts; one whose keys are tuples of ints and texts (the empty one is both) -/
  | dK (kvs : List (Key × V)) | dT (kvs : List (List Key × V))
  /-- a set of ints: its members, its size -/
  | set (S : Int → Bool) (n : Nat)
  /-- an instance of the class at C, its dict at dx, its attributes -/
  | ins (C dx : Addr) (fs : List (Str × V))
  /-- the dict of the instance at x -/
  | own (x : Addr)
  /-- the dict of an exception -/
  | xd (fs : List (Str × V))
  /-- a bound method, f of x -/
  | met (f x : Addr)
  /-- a range object lo, lo + 1, .. below hi -/
  | rng (lo hi : Int)
  /-- a thing that is known to the object (the script; a dict while a loop walks it): read, never written while it is so -/
  | frz (o : Obj) (u : HO)
  /-- a code object's table -/
  | tbl (ps : Array Value)
  /-- any other thing, by what is true of its one object (a def of one's own: SetO a S n := HO.ext fun h => ..) -/
  | ext (φ : Heap → Prop)

abbrev Hp := Addr → Option HO
def upd (H : Hp) (a : Addr) (o : HO) : Hp := fun b => if b = a then some o else H b
theorem upd_same {H : Hp} {a : Addr} {o : HO} : upd H a o a = some o := by unfold upd; rw [if_pos rfl]
theorem upd_ne {H : Hp} {a b : Addr} {o : HO} (h : b ≠ a) : upd H a o b = H b := by unfold upd; rw [if_neg h]
/-- two objects of different content stand apart -/
theorem ne_of {H : Hp} {a b : Addr} {o u : HO} (h : H a = some o) (h' : H b = some u) (d : o ≠ u) : a ≠ b := by
  intro e; subst e; rw [h] at h'; exact d (Option.some.inj h')
theorem ne_of_none {H : Hp} {a b : Addr} {o : HO} (h : H a = some o) (h' : H b = none) : a ≠ b := by
  intro e; subst e; rw [h] at h'; cases h'

section
variable (P : Program) (w : World)
def ObjOk (H : Hp) (h : Heap) (a : Addr) : HO → Prop
  | .lst xs => xs.length ≤ sizeLine ∧ ∃ (its : List Value) (n : Nat), Vals xs its ∧ h.get? a = some { cls := .type "list", data := .seq its.toArray n }
  | .tup xs => xs.length ≤ sizeLine ∧ ∃ its : List Value, Vals xs its ∧ IsTup h a its.toArray
  | .dK kvs => kvs.length ≤ sizeLine ∧ (a == sysModules) = false ∧ ∃ vs, KV kvs vs ∧ h.DictOf (mixKind P w) a vs
  | .dT kvs => kvs.length ≤ sizeLine ∧ (a == sysModules) = false ∧ ∃ xs : List (List Key × Addr × Value),
      Paired (fun (p : List Key × V) (q : List Key × Addr × Value) => p.1 = q.1 ∧ H q.2.1 = some (.tup (p.1.map kV)) ∧ RelV p.2 q.2.2) kvs xs ∧
      ∃ o es ep, h.get? a = some o ∧ o.ExactDict ∧ o.data = .dict es ep ∧ es.toList = xs.map (entryOfKey (tupleKind (mixKind P w))) ∧ (xs.map (·.1)).Nodup
  | .set S n => h.SetOf (intKind P w) a S n
  | .ins C dx fs => H dx = some (.own a) ∧ fs.length ≤ 1000 ∧ dx ≠ a ∧ h.get? a = some (PySem.W.instObj C dx) ∧
      ∃ mA, h.Ns1 dx mA ∧ (∀ f, RelO (fs.lookup f) (mA f)) ∧ PySem.Within mA (fs.map (·.1))
  | .own _ => ∃ o, h.get? a = some o
  | .xd fs => ∃ mA, h.Ns1 a mA ∧ ∀ f, RelO (fs.lookup f) (mA f)
  | .rng lo hi => ∃ t u v, h.get? a = some { cls := .type "range", data := .fields #[.int lo t, .int hi u, .int 1 v] }
  | .frz o u => h.get? a = some o ∧ ObjOk H h a u
  | .tbl ps => h.get? a = some { cls := .none, data := .fields ps }
  | .met f x => h.get? a = some (PySem.W.methodObj (.ref f) (.ref x))
  | .ext φ => φ h ∧ (∃ o, h.get? a = some o) ∧ ∀ h1 h2 : Heap, φ h1 → (∀ o, h1.get? a = some o → h2.get? a = some o) → φ h2
/-- the abstract heap is held -/
def HOk (H : Hp) (h : Heap) : Prop := ∀ a o, H a = some o → ObjOk P w H h a o
end

section
variable {P : Program} {w : World} {H H' : Hp} {h h' : Heap} {a : Addr} {o : HO}
theorem ObjOk.lt (x : ObjOk P w H h a o) : a < h.objs.size := by
  cases o with
  | lst xs => obtain ⟨_, _, _, _, e⟩ := x; exact Heap.lt_size e
  | tup xs => obtain ⟨_, _, _, p⟩ := x; exact p.lt
  | dK kvs => obtain ⟨_, _, _, _, o, _, _, e, _⟩ := x; exact Heap.lt_size e
  | dT kvs => obtain ⟨_, _, _, _, o, _, _, e, _⟩ := x; exact Heap.lt_size e
  | set S n => obtain ⟨o, _, _, _, e, _⟩ := x; exact Heap.lt_size e
  | ins C dx fs => obtain ⟨_, _, _, e, _⟩ := x; exact Heap.lt_size e
  | own y => obtain ⟨_, e⟩ := x; exact Heap.lt_size e
  | xd fs => obtain ⟨_, ⟨_, _, _, e, _⟩, _⟩ := x; exact Heap.lt_size e
  | rng lo hi => obtain ⟨_, _, _, e⟩ := x; exact Heap.lt_size e
  | frz ob u => obtain ⟨e, _⟩ := x; exact Heap.lt_size e
  | tbl ps => exact Heap.lt_size (show h.get? a = some _ from x)
  | met f y => exact Heap.lt_size (show h.get? a = some _ from x)
  | ext φ => obtain ⟨_, ⟨_, e⟩, _⟩ := x; exact Heap.lt_size e
theorem Paired.mapP {α β : Type} {F G : α → β → Prop} : ∀ {l₁ : List α} {l₂ : List β}, Paired F l₁ l₂ → (∀ a b, F a b → G a b) → Paired G l₁ l₂
  | _, _, .nil, _ => .nil
  | _, _, .cons r t, f => .cons (f _ _ r) (Paired.mapP t f)
/-- what an object's description leans on: its own object, its own dict, the tuples -/
theorem ObjOk.stay (x : ObjOk P w H h a o) (k : ∀ b u, (b = a ∨ H b = some (.own a)) → h.get? b = some u → h'.get? b = some u)
    (ho : ∀ b, H b = some (.own a) → H' b = some (.own a)) (ht : ∀ b xs, H b = some (.tup xs) → H' b = some (.tup xs)) : ObjOk P w H' h' a o := by
  induction o with
  | lst xs => obtain ⟨z, its, n, r, e⟩ := x; exact ⟨z, its, n, r, k _ _ (.inl rfl) e⟩
  | tup xs => obtain ⟨z, its, r, ob, e, c⟩ := x; exact ⟨z, its, r, ob, k _ _ (.inl rfl) e, c⟩
  | dK kvs => obtain ⟨z, y, vs, r, ob, es, ep, e, c⟩ := x; exact ⟨z, y, vs, r, ob, es, ep, k _ _ (.inl rfl) e, c⟩
  | dT kvs =>
    obtain ⟨z, y, xs, r, ob, es, ep, e, c⟩ := x
    exact ⟨z, y, xs, Paired.mapP r fun p q z => ⟨z.1, ht _ _ z.2.1, z.2.2⟩, ob, es, ep, k _ _ (.inl rfl) e, c⟩
  | set S n => obtain ⟨ob, es, ep, t, e, c⟩ := x; exact ⟨ob, es, ep, t, k _ _ (.inl rfl) e, c⟩
  | ins C dx fs =>
    obtain ⟨d, z, ne, e, mA, ⟨od, es, ep, e2, c⟩, r⟩ := x
    exact ⟨ho _ d, z, ne, k _ _ (.inl rfl) e, mA, ⟨od, es, ep, k _ _ (.inr d) e2, c⟩, r⟩
  | own y => obtain ⟨ob, e⟩ := x; exact ⟨ob, k _ _ (.inl rfl) e⟩
  | xd fs => obtain ⟨mA, ⟨od, es, ep, e, c⟩, r⟩ := x; exact ⟨mA, ⟨od, es, ep, k _ _ (.inl rfl) e, c⟩, r⟩
  | rng lo hi => obtain ⟨t, u, v, e⟩ := x; exact ⟨t, u, v, k _ _ (.inl rfl) e⟩
  | frz ob u ih => obtain ⟨e, q⟩ := x; exact ⟨k _ _ (.inl rfl) e, ih q⟩
  | tbl ps =>
    have e : h.get? a = some { cls := .none, data := .fields ps } := x
    show h'.get? a = some { cls := .none, data := .fields ps }
    exact k a _ (.inl rfl) e
  | met f y =>
    have e : h.get? a = some (PySem.W.methodObj (.ref f) (.ref y)) := x
    show h'.get? a = some (PySem.W.methodObj (.ref f) (.ref y))
    exact k a _ (.inl rfl) e
  | ext φ => obtain ⟨p, ⟨o, e⟩, st⟩ := x; exact ⟨st _ _ p fun o q => k _ _ (.inl rfl) q, ⟨o, k _ _ (.inl rfl) e⟩, st⟩
theorem HOk.lt (x : HOk P w H h) (e : H a = some o) : a < h.objs.size := (x a o e).lt
theorem HOk.fresh (x : HOk P w H h) (e : h.objs.size ≤ a) : H a = none := by
  cases q : H a with
  | none => rfl
  | some u => exact absurd (Nat.lt_of_lt_of_le (x.lt q) e) (Nat.lt_irrefl _)
/-- every object of the heap is kept -/
theorem HOk.kept (x : HOk P w H h) (k : ∀ b u, h.get? b = some u → h'.get? b = some u) : HOk P w H h' := fun a o e =>
  (x a o e).stay (fun b u _ q => k b u q) (fun _ q => q) fun _ _ q => q
/-- a new object is laid and tracked -/
theorem HOk.laid (x : HOk P w H h) (k : ∀ b u, h.get? b = some u → h'.get? b = some u) (hp : h.objs.size ≤ a) (new : ObjOk P w (upd H a o) h' a o) : HOk P w (upd H a o) h' := fun b u e => by
  have hn := x.fresh hp
  by_cases hb : b = a
  · subst hb; rw [upd_same] at e; cases e; exact new
  · rw [upd_ne hb] at e
    exact (x b u e).stay (fun c v _ q => k c v q) (fun c q => by rw [upd_ne (ne_of_none q hn)]; exact q) fun c xs q => by rw [upd_ne (ne_of_none q hn)]; exact q
end

/-- what may be read as u: it is u, or a known u -/
def Rd (H : Hp) (a : Addr) (u : HO) : Prop := H a = some u ∨ ∃ o, H a = some (.frz o u)
theorem Rd.of {H : Hp} {a : Addr} {u : HO} (h : H a = some u) : Rd H a u := .inl h
theorem Rd.ok {P : Program} {w : World} {H : Hp} {h : Heap} {a : Addr} {u : HO} (r : Rd H a u) (x : HOk P w H h) : ObjOk P w H h a u := by
  rcases r with r | ⟨o, r⟩
  · exact x a u r
  · obtain ⟨_, q⟩ := x a _ r
    exact q
/-- what may be written -/
def Mut : Option HO → Prop
  | some (.lst _) => True
  | some (.dK _) => True
  | some (.dT _) => True
  | some (.set _ _) => True
  | some (.ins _ _ _) => True
  | some (.ext _) => True
  | _ => False
section
variable {P : Program} {w : World} {H : Hp} {h h' : Heap} {x e : Addr} {o' : HO}
/-- the object at e is changed: x itself, or the dict of the instance x -/
theorem HOk.write (ok : HOk P w H h) (mu : Mut (H x)) (he : e = x ∨ H e = some (.own x)) (k : ∀ b u, b ≠ e → h.get? b = some u → h'.get? b = some u) (heo : ∃ u, h'.get? e = some u)
    (new : ObjOk P w (upd H x o') h' x o') : HOk P w (upd H x o') h' := fun b u q => by
  have nown : ∀ c y, H c = some (.own y) → c ≠ x := fun c y r z => by subst z; rw [r] at mu; exact mu
  have ntup : ∀ c xs, H c = some (.tup xs) → c ≠ x := fun c xs r z => by subst z; rw [r] at mu; exact mu
  by_cases hb : b = x
  · subst hb; rw [upd_same] at q; cases q; exact new
  · rw [upd_ne hb] at q
    by_cases hbe : b = e
    · have q' : H b = some (.own x) := by
        rcases he with z | z
        · exact absurd (hbe.trans z) hb
        · rw [hbe]; exact z
      rw [q] at q'; cases q'
      obtain ⟨v, hv⟩ := heo
      exact ⟨v, by rw [hbe]; exact hv⟩
    · refine (ok b u q).stay (fun c v hc r => k c v ?_ r) (fun c r => by rw [upd_ne (nown c b r)]; exact r) fun c xs r => by rw [upd_ne (ntup c xs r)]; exact r
      rcases hc with rfl | hc
      · exact hbe
      · rintro rfl
        rcases he with z | z
        · exact nown c b hc z
        · rw [hc] at z; cases z; exact hb rfl
end

/-! ### kept unless tracked; of the frames at fs (the callers') the slots may change (an exception that passes writes there); of the records at ex (iterators) nothing is said -/
structure Un (fs ex : List Addr) (H H' : Hp) (h h' : Heap) : Prop where
  keep : ∀ b o, h.get? b = some o → H b = none → b ∉ fs → b ∉ ex → h'.get? b = some o
  slot : ∀ b o, h.get? b = some o → H b = none → b ∈ fs → b ∉ ex → ∃ sl, h'.get? b = some { o with slots := sl }
  free : ∀ b o, h.get? b = some o → H b = none → b ∉ ex → H' b = none
  there : ∀ b o, h.get? b = some o → b ∉ ex → ∃ o', h'.get? b = some o'
  tups : ∀ b xs, H b = some (.tup xs) → H' b = some (.tup xs)
  frzs : ∀ b o u, H b = some (.frz o u) → H' b = some (.frz o u)
  tbls : ∀ b ps, H b = some (.tbl ps) → ∃ more, H' b = some (.tbl (ps ++ more))
section
variable {fs fs' ex ex' : List Addr} {H H1 H2 : Hp} {h h1 h2 h' : Heap} {a x e : Addr} {o : HO}
theorem Un.any (u : Un fs ex H H1 h h1) {b : Addr} {ob : Obj} (q : h.get? b = some ob) (n : H b = none) (hx : b ∉ ex) : ∃ sl, h1.get? b = some { ob with slots := sl } := by
  by_cases hb : b ∈ fs
  · exact u.slot b ob q n hb hx
  · exact ⟨ob.slots, u.keep b ob q n hb hx⟩
theorem Un.trans (a : Un fs ex H H1 h h1) (b : Un fs ex H1 H2 h1 h2) : Un fs ex H H2 h h2 where
  keep := fun c ob q n hc hx => b.keep c ob (a.keep c ob q n hc hx) (a.free c ob q n hx) hc hx
  slot := fun c ob q n hc hx => by
    obtain ⟨sl, e1⟩ := a.slot c ob q n hc hx
    obtain ⟨sl', e2⟩ := b.slot c _ e1 (a.free c ob q n hx) hc hx
    exact ⟨sl', e2⟩
  free := fun c ob q n hx => by
    obtain ⟨o', e1⟩ := a.there c ob q hx
    exact b.free c o' e1 (a.free c ob q n hx) hx
  there := fun c ob q hx => by
    obtain ⟨o', e1⟩ := a.there c ob q hx
    exact b.there c o' e1 hx
  tups := fun c xs q => b.tups c xs (a.tups c xs q)
  frzs := fun c ob xs q => b.frzs c ob xs (a.frzs c ob xs q)
  tbls := fun c ps q => by
    obtain ⟨m1, e1⟩ := a.tbls c ps q
    obtain ⟨m2, e2⟩ := b.tbls c _ e1
    exact ⟨m1 ++ m2, by rw [e2, Array.append_assoc]⟩
theorem Un.kept (k : ∀ b u, h.get? b = some u → h'.get? b = some u) : Un fs ex H H h h' :=
  ⟨fun b ob q _ _ _ => k b ob q, fun b ob q _ _ _ => ⟨ob.slots, k b ob q⟩, fun _ _ _ n _ => n, fun b ob q _ => ⟨ob, k b ob q⟩, fun _ _ q => q, fun _ _ _ q => q, fun _ ps q => ⟨#[], by rw [q]; simp⟩⟩
theorem Un.refl : Un fs ex H H h h := Un.kept fun _ _ q => q
theorem Un.laid (k : ∀ b u, h.get? b = some u → h'.get? b = some u) (hp : h.objs.size ≤ a) (hn : H a = none) : Un fs ex H (upd H a o) h h' where
  keep := fun b u q _ _ _ => k b u q
  slot := fun b u q _ _ _ => ⟨u.slots, k b u q⟩
  free := fun b u q n _ => by rw [upd_ne (Nat.ne_of_lt (Nat.lt_of_lt_of_le (Heap.lt_size q) hp))]; exact n
  there := fun b u q _ => ⟨u, k b u q⟩
  tups := fun b xs q => by rw [upd_ne (ne_of_none q hn)]; exact q
  frzs := fun b u xs q => by rw [upd_ne (ne_of_none q hn)]; exact q
  tbls := fun b ps q => ⟨#[], by rw [upd_ne (ne_of_none q hn), q]; simp⟩
theorem Un.write (mu : Mut (H x)) (he : e = x ∨ H e = some (.own x)) (k : ∀ b u, b ≠ e → h.get? b = some u → h'.get? b = some u) (heo : ∃ u, h'.get? e = some u) : Un fs ex H (upd H x o) h h' := by
  have hx : ∀ b, H b = none → b ≠ x := fun b n z => by subst z; rw [n] at mu; exact mu
  have hb : ∀ b, H b = none → b ≠ e := fun b n z => by
    subst z
    rcases he with r | r
    · exact hx b n r
    · rw [n] at r; cases r
  have hm : ∀ b u, H b = some u → ¬ Mut (some u) → b ≠ x := fun b u q nm z => by subst z; rw [q] at mu; exact nm mu
  refine ⟨fun b u q n _ _ => k b u (hb b n) q, fun b u q n _ _ => ⟨u.slots, k b u (hb b n) q⟩, fun b u q n _ => by rw [upd_ne (hx b n)]; exact n, fun b u q _ => ?_,
    fun b xs q => by rw [upd_ne (hm b _ q fun z => z)]; exact q, fun b u xs q => by rw [upd_ne (hm b _ q fun z => z)]; exact q, fun b ps q => ⟨#[], by rw [upd_ne (hm b _ q fun z => z), q]; simp⟩⟩
  by_cases hbe : b = e
  · subst hbe; exact heo
  · exact ⟨u, k b u hbe q⟩
theorem Un.mono (u : Un fs ex H H1 h h1) (hs : ∀ b ∈ fs, b ∈ fs') (hx : ∀ b ∈ ex, b ∈ ex') : Un fs' ex' H H1 h h1 :=
  ⟨fun b ob q n hb he => u.keep b ob q n (fun z => hb (hs b z)) fun z => he (hx b z), fun _ _ q n _ he => u.any q n fun z => he (hx _ z), fun b ob q n he => u.free b ob q n fun z => he (hx b z), fun b ob q he => u.there b ob q fun z => he (hx b z), u.tups, u.frzs, u.tbls⟩
end

/-! ### the heap without what is tracked -/
def trk (h : Heap) (H : Hp) : List Addr := (List.range h.objs.size).filter fun a => (H a).isSome
def hidT (h : Heap) (H : Hp) : Heap := PySem.W.hideAll h (trk h H)
theorem hidT_size (h : Heap) (H : Hp) : (hidT h H).objs.size = h.objs.size := PySem.W.hideAll_size _ _
theorem hidT_get {h : Heap} {H : Hp} {b : Addr} {o : Obj} (e : h.get? b = some o) (n : H b = none) : (hidT h H).get? b = some o :=
  PySem.W.hideAll_get _ e fun hm => by
    have q : (H b).isSome = true := (List.mem_filter.mp hm).2
    rw [n] at q; simp at q
theorem of_hidT {h : Heap} {H : Hp} {b : Addr} {o : Obj} (e : (hidT h H).get? b = some o) : h.get? b = some o ∧ H b = none := by
  have e' : h.get? b = some o := PySem.W.of_hideAll (trk h H) e
  refine ⟨e', ?_⟩
  cases q : H b with
  | none => rfl
  | some x =>
    have hm : b ∈ trk h H := List.mem_filter.mpr ⟨List.mem_range.mpr (Heap.lt_size e'), by simp [q]⟩
    have z : (hidT h H).get? b = none := PySem.W.hideAll_none (trk h H) hm
    rw [z] at e; cases e

/-! ### OpenK's ledger, filled with every new object but one -/
def allNews (g h : Heap) (L : Addr) : List (Addr × Obj) := (List.range h.objs.size).filterMap fun a => if a = L ∨ (g.get? a).isSome = true then none else (h.get? a).map fun o => (a, o)
def rest (g h : Heap) (L d : Addr) : List (Addr × Obj) := (allNews g h L).filter fun p => decide (p.1 ≠ d)
end L2

namespace L2
open PySem PySem.Spec PyProof.Rows

/-- the module's facts, over the base: the heap at the law's entry without what is tracked there -/
structure Mod (K : PySem.W.Frag) (mg : Str → Option Value) (base : Heap) : Prop where
  kin : K.In base
  glob : base.Ns mainGlobals mg
  blt : ∃ mb, base.Ns builtinsNs mb ∧ ∀ x : Str, x ≠ "__name__" → mb x = bootBuiltins x
  nolimit : base.NoLimit

/-- the context: a def's body (or a comprehension's block) running. base: fixed through the whole law; s₀, H₀: the entry; outer: the frames whose slots others may change (a def's callers); stack: all frames that run;
   ex: iterators that were made ahead of the entry and are walked here (a comprehension's); fn: the names whose cells were made at the entry (a def: all; a comprehension's block: its own); calm: not within an except suite; pn: pins that every state bears; xe: what is wanted of an exception that leaves the code -/
structure Cx where
  prog : Program
  w : World
  K : PySem.W.Frag
  mg : Str → Option Value
  base : Heap
  A : Around
  N : List Str
  s₀ : Shared
  H₀ : Hp
  env : Env
  outer : List Env
  stack : List Env
  ex : List Addr
  fn : Str → Bool
  calm : Bool
  pn : List (Addr × Obj)
  xe : Value → Shared → Prop
/-- the callers' frames -/
def frs (l : List Env) : List Addr := l.filterMap (·.frame)
abbrev Cx.fs (X : Cx) : List Addr := frs X.outer

def Vis (sc : Scope) (x : Str) : Prop := sc.names.lookup x = some .local ∨ sc.names.lookup x = some .cell ∨ sc.names.lookup x = some .free
def Loc (sc : Scope) (x : Str) : Prop := sc.names.lookup x = some .local ∨ sc.names.lookup x = some .cell
def Look (env : Env) (h : Heap) (m : Str → Option Value) (x : Str) (u : Value) : Prop :=
  (env.kindOf x = some .local ∧ m x = some u) ∨ ((env.kindOf x = some .cell ∨ env.kindOf x = some .free) ∧ ∃ c, env.cells.lookup x = some c ∧ h.IsCell c (some u))

structure Cx.Ok (X : Cx) : Prop where
  mod : Mod X.K X.mg X.base
  kind : X.env.scope.kind = .function
  glob : X.env.globals = mainGlobals
  blt : X.env.builtins = builtinsNs
  above : X.s₀.heap.objs.size ≤ X.env.locals
  inj : ∀ x y c, X.env.cells.lookup x = some c → X.env.cells.lookup y = some c → x = y
  has : ∀ x, (X.env.kindOf x = some .cell ∨ X.env.kindOf x = some .free) → ∃ c, X.env.cells.lookup x = some c
  cab : ∀ x c, X.fn x = true → X.env.cells.lookup x = some c → X.s₀.heap.objs.size ≤ c
  hd : X.calm = true → X.A.handled = none
  frames : X.A.frames = some X.stack
  stk : X.stack = X.outer ∨ (X.stack = X.env :: X.outer ∧ X.env.frame = some X.env.locals)
  exf : ∀ b ∈ X.ex, b ≠ X.env.locals ∧ ∀ x c, X.env.cells.lookup x = some c → c ≠ b
  bs : ∀ b o, X.base.get? b = some o → X.s₀.heap.get? b = some o ∧ X.H₀ b = none
  bsz : X.base.objs.size ≤ X.s₀.heap.objs.size
  noex : ∀ b o, X.base.get? b = some o → b ∉ X.ex
  exfs : ∀ b ∈ X.ex, b ∉ X.fs
  funs : X.s₀.heap.FunFrames X.base X.outer
  frf : ∀ b ∈ X.fs, X.H₀ b = none

structure Inv (X : Cx) (pins : List (Addr × Obj)) (σ : List (Option V)) (H : Hp) (s : Shared) : Prop where
  ok : X.Ok
  os : s.os = X.s₀.os
  bare : AllBare s.gens
  base : Un X.fs X.ex X.H₀ H X.s₀.heap s.heap
  loc : ∃ m, s.heap.Ns X.env.locals m ∧ ∀ (i : Nat) (x : Str) (v : V), X.N[i]? = some x → σ[i]? = some (some v) → Vis X.env.scope x → ∃ u, RelV v u ∧ Look X.env s.heap m x u
  cell : ∀ x c, X.env.cells.lookup x = some c → ∃ v, s.heap.IsCell c v
  free : H X.env.locals = none
  freeC : ∀ x c, X.env.cells.lookup x = some c → H c = none
  pin : ∀ p ∈ X.pn ++ pins, s.heap.get? p.1 = some p.2 ∧ H p.1 = none ∧ p.1 ≠ X.env.locals ∧ p.1 ∉ X.fs ∧ ∀ v, p.2.data ≠ .cell v
  hok : HOk X.prog X.w H s.heap
  len : σ.length = X.N.length

section
variable {X : Cx} {pins : List (Addr × Obj)} {σ : List (Option V)} {H H' : Hp} {s : Shared} {h' : Heap}

theorem Cx.Ok.nofr (ok : X.Ok) {b : Addr} {o : Obj} (e : X.base.get? b = some o) : b ∉ X.fs := fun hb => by
  have := (ok.funs.mem hb).1
  rw [e] at this; cases this
theorem Inv.bs (I : Inv X pins σ H s) : ∀ b o, X.base.get? b = some o → s.heap.get? b = some o ∧ H b = none := fun b o e =>
  ⟨I.base.keep b o (I.ok.bs b o e).1 (I.ok.bs b o e).2 (I.ok.nofr e) (I.ok.noex b o e), I.base.free b o (I.ok.bs b o e).1 (I.ok.bs b o e).2 (I.ok.noex b o e)⟩
theorem Inv.bk (I : Inv X pins σ H s) : ∀ b o, X.base.get? b = some o → s.heap.get? b = some o := fun b o e => (I.bs b o e).1
theorem Inv.mod (I : Inv X pins σ H s) : Mod X.K X.mg X.base := I.ok.mod
theorem Inv.kIn (I : Inv X pins σ H s) : X.K.In s.heap := I.ok.mod.kin.keeps I.bk
theorem Inv.nolimit (I : Inv X pins σ H s) : s.heap.NoLimit := I.ok.mod.nolimit.keeps I.bk
/-- the frame over the base: for OpenK's rules (K.In X.base is I.mod.kin) -/
theorem Inv.fr (I : Inv X pins σ H s) : ∃ m, Fr X.base X.env.locals s.heap m :=
  let ⟨m, hn, _⟩ := I.loc
  ⟨m, hn, I.bk, Nat.le_trans I.ok.bsz I.ok.above⟩
theorem Inv.lt (I : Inv X pins σ H s) : X.env.locals < s.heap.objs.size := let ⟨_, hn, _⟩ := I.loc; hn.lt
theorem Inv.sz (I : Inv X pins σ H s) : X.s₀.heap.objs.size ≤ s.heap.objs.size := Nat.le_trans I.ok.above (Nat.le_of_lt I.lt)
theorem Inv.nofs (I : Inv X pins σ H s) {a : Addr} (h : s.heap.objs.size ≤ a) : a ∉ X.fs := fun hb => by
  obtain ⟨_, o, ho, _⟩ := I.ok.funs.mem hb
  exact absurd (Nat.lt_of_lt_of_le (Heap.lt_size ho) (Nat.le_trans I.sz h)) (Nat.lt_irrefl _)
theorem Inv.cne (I : Inv X pins σ H s) : ∀ x c, X.env.cells.lookup x = some c → c ≠ X.env.locals := fun x c e z => by
  obtain ⟨v, o, ho, hd⟩ := I.cell x c e
  obtain ⟨m, ⟨o', es, ep, ho', hd', _⟩, _⟩ := I.loc
  rw [z, ho'] at ho; cases ho; rw [hd'] at hd; cases hd
theorem Inv.funs (I : Inv X pins σ H s) : s.heap.FunFrames X.base X.outer := by
  have all : ∀ (l : List Env), (∀ b ∈ frs l, b ∈ X.fs) → X.s₀.heap.FunFrames X.base l → s.heap.FunFrames X.base l := by
    intro l
    induction l with
    | nil => intro _ _; trivial
    | cons env r ih =>
      intro hs hl
      obtain ⟨hk, ⟨L, o, hf, hn, ho, hd⟩, hr⟩ := hl
      have hL : L ∈ X.fs := hs L (by unfold frs; rw [List.filterMap_cons, hf]; exact List.mem_cons_self)
      obtain ⟨sl, e⟩ := I.base.slot L o ho (I.ok.frf L hL) hL fun z => I.ok.exfs L z hL
      exact ⟨hk, ⟨L, _, hf, hn, e, hd⟩, ih (fun b hb => hs b (by unfold frs; rw [List.filterMap_cons, hf]; exact List.mem_cons_of_mem _ hb)) hr⟩
  exact all X.outer (fun _ hb => hb) I.ok.funs

/-- the frames that run, for a call -/
theorem Inv.stack (I : Inv X pins σ H s) : s.heap.FunFrames X.base X.stack := by
  rcases I.ok.stk with e | ⟨e, hf⟩
  · rw [e]; exact I.funs
  · rw [e]
    obtain ⟨m, hn, _⟩ := I.loc
    refine .cons (by rw [I.ok.kind]; decide) hf hn ?_ I.funs
    exact Heap.get?_none_of_le (Nat.le_trans I.ok.bsz I.ok.above)
theorem Inv.stkSub (I : Inv X pins σ H s) : ∀ b ∈ frs X.stack, b ∈ X.env.locals :: X.fs := fun b hb => by
  rcases I.ok.stk with e | ⟨e, hf⟩
  · rw [e] at hb; exact List.mem_cons_of_mem _ hb
  · rw [e] at hb
    unfold frs at hb
    rw [List.filterMap_cons, hf] at hb
    exact hb
theorem Inv.stkFree (I : Inv X pins σ H s) : ∀ b ∈ frs X.stack, H b = none := fun b hb => by
  rcases List.mem_cons.mp (I.stkSub b hb) with e | hb
  · rw [e]; exact I.free
  · obtain ⟨_, o, ho, _⟩ := I.ok.funs.mem hb
    exact I.base.free b o ho (I.ok.frf b hb) fun z => I.ok.exfs b z hb

/-- THE STEP: the untracked objects but the frame and the records at ch are kept (the callers' frames up to slots), the frame's map is kept, the new abstract heap is held -/
theorem Inv.step {g' : Array GenState} {t' : Nat} {d' : Drawn} {ch : List Addr} (I : Inv X pins σ H s)
    (hch : ∀ b ∈ ch, (b ∈ X.ex ∨ X.s₀.heap.objs.size ≤ b) ∧ b ≠ X.env.locals ∧ (∀ x c, X.env.cells.lookup x = some c → c ≠ b) ∧ ∀ p ∈ X.pn ++ pins, p.1 ≠ b)
    (keep : ∀ b o, b ≠ X.env.locals → b ∉ X.fs → b ∉ ch → s.heap.get? b = some o → H b = none → h'.get? b = some o)
    (slot : ∀ b o, b ≠ X.env.locals → b ∈ X.fs → b ∉ ch → s.heap.get? b = some o → H b = none → ∃ sl, h'.get? b = some { o with slots := sl }) (free : ∀ b o, b ∉ ch → s.heap.get? b = some o → H b = none → H' b = none)
    (there : ∀ b o, b ∉ ch → s.heap.get? b = some o → ∃ o', h'.get? b = some o')
    (tups : ∀ b xs, H b = some (.tup xs) → H' b = some (.tup xs)) (frzs : ∀ b o u, H b = some (.frz o u) → H' b = some (.frz o u)) (tbls : ∀ b ps, H b = some (.tbl ps) → ∃ more, H' b = some (.tbl (ps ++ more)))
    (ns : ∀ m, s.heap.Ns X.env.locals m → h'.Ns X.env.locals m) (hok : HOk X.prog X.w H' h') (hg : AllBare g') :
    Inv X pins σ H' { s with heap := h', gens := g', drawn := d', toks := t' } := by
  have neL : ∀ b o, X.s₀.heap.get? b = some o → b ≠ X.env.locals := fun b o e => Nat.ne_of_lt (Nat.lt_of_lt_of_le (Heap.lt_size e) I.ok.above)
  have neC : ∀ b o, X.s₀.heap.get? b = some o → b ∉ X.ex → b ∉ ch := fun b o e hx hb => by
    rcases (hch b hb).1 with z | z
    · exact hx z
    · exact absurd (Nat.lt_of_lt_of_le (Heap.lt_size e) z) (Nat.lt_irrefl _)
  have cellK : ∀ x c, X.env.cells.lookup x = some c → ∀ v, s.heap.IsCell c v → h'.IsCell c v := fun x c e v ⟨o, ho, hd⟩ => by
    have nch : c ∉ ch := fun z => (hch c z).2.2.1 x c e rfl
    by_cases hc : c ∈ X.fs
    · obtain ⟨sl, q⟩ := slot c o (I.cne x c e) hc nch ho (I.freeC x c e)
      exact ⟨_, q, hd⟩
    · exact ⟨o, keep c o (I.cne x c e) hc nch ho (I.freeC x c e), hd⟩
  refine ⟨I.ok, I.os, hg, ⟨fun b o e n hb hx => ?_, fun b o e n hb hx => ?_, fun b o e n hx => ?_, fun b o e hx => ?_, fun b xs e => tups b xs (I.base.tups b xs e), fun b o xs e => frzs b o xs (I.base.frzs b o xs e), fun b ps e => ?_⟩, ?_, fun x c e => ?_, ?_, fun x c e => ?_, fun p hp => ?_, hok, I.len⟩
  · exact keep b o (neL b o e) hb (neC b o e hx) (I.base.keep b o e n hb hx) (I.base.free b o e n hx)
  · obtain ⟨sl, e1⟩ := I.base.slot b o e n hb hx
    obtain ⟨sl', e2⟩ := slot b _ (neL b o e) hb (neC b o e hx) e1 (I.base.free b o e n hx)
    exact ⟨sl', e2⟩
  · obtain ⟨o', e1⟩ := I.base.there b o e hx
    exact free b o' (neC b o e hx) e1 (I.base.free b o e n hx)
  · obtain ⟨o', e1⟩ := I.base.there b o e hx
    exact there b o' (neC b o e hx) e1
  · obtain ⟨m1, e1⟩ := I.base.tbls b ps e
    obtain ⟨m2, e2⟩ := tbls b _ e1
    exact ⟨m1 ++ m2, by rw [e2, Array.append_assoc]⟩
  · obtain ⟨m, hn, hl⟩ := I.loc
    refine ⟨m, ns m hn, fun i x v e1 e2 e3 => ?_⟩
    obtain ⟨u, r, l⟩ := hl i x v e1 e2 e3
    refine ⟨u, r, ?_⟩
    rcases l with l | ⟨k, c, e, z⟩
    · exact .inl l
    · exact .inr ⟨k, c, e, cellK x c e _ z⟩
  · obtain ⟨v, z⟩ := I.cell x c e
    exact ⟨v, cellK x c e v z⟩
  · obtain ⟨m, ⟨o, _, _, ho, _⟩, _⟩ := I.loc
    exact free _ o (fun z => (hch _ z).2.1 rfl) ho I.free
  · obtain ⟨v, o, ho, hd⟩ := I.cell x c e
    exact free c o (fun z => (hch c z).2.2.1 x c e rfl) ho (I.freeC x c e)
  · obtain ⟨e, n, ne, nf, d⟩ := I.pin p hp
    have nch : p.1 ∉ ch := fun z => (hch p.1 z).2.2.2 p hp rfl
    exact ⟨keep p.1 p.2 ne nf nch e n, free p.1 p.2 nch e n, ne, nf, d⟩
/-- .. where the frame's own object is kept too -/
theorem Inv.un {t' : Nat} (I : Inv X pins σ H s) (u : Un X.fs [] H H' s.heap h') (hok : HOk X.prog X.w H' h') : Inv X pins σ H' { s with heap := h', toks := t' } := by
  obtain ⟨m, ⟨o, es, ep, ho, r⟩, _⟩ := id I.loc
  obtain ⟨sl, hL⟩ := u.any ho I.free (by simp)
  exact I.step (g' := s.gens) (d' := s.drawn) (ch := []) (fun _ z => nomatch z) (fun b o _ hb _ e n => u.keep b o e n hb (by simp)) (fun b o _ hb _ e n => u.slot b o e n hb (by simp)) (fun b o _ e n => u.free b o e n (by simp)) (fun b o _ e => u.there b o e (by simp)) u.tups u.frzs u.tbls (fun m' hm => by
    obtain ⟨o', es', ep', ho', r'⟩ := hm
    rw [ho] at ho'; cases ho'
    exact ⟨_, es', ep', hL, r'⟩) hok I.bare
/-- behind a call (or a comprehension's block): the slots of this frame may have changed too, the records at ch may have turned -/
theorem Inv.call {g' : Array GenState} {t' : Nat} {d' : Drawn} {ch : List Addr} (I : Inv X pins σ H s) (u : Un (frs X.stack) ch H H' s.heap h') (hok : HOk X.prog X.w H' h') (hg : AllBare g')
    (hch : ∀ b ∈ ch, (b ∈ X.ex ∨ X.s₀.heap.objs.size ≤ b) ∧ b ≠ X.env.locals ∧ (∀ x c, X.env.cells.lookup x = some c → c ≠ b) ∧ ∀ p ∈ X.pn ++ pins, p.1 ≠ b) :
    Inv X pins σ H' { s with heap := h', gens := g', drawn := d', toks := t' } := by
  obtain ⟨m, ⟨o, es, ep, ho, r⟩, _⟩ := id I.loc
  obtain ⟨sl, hL⟩ := u.any ho I.free fun z => (hch _ z).2.1 rfl
  exact I.step (ch := ch) hch (fun b o hL hb hc e n => u.keep b o e n (fun z => (List.mem_cons.mp (I.stkSub b z)).elim hL hb) hc) (fun b o _ _ hc e n => u.any e n hc) (fun b o hc e n => u.free b o e n hc) (fun b o hc e => u.there b o e hc) u.tups u.frzs u.tbls (fun m' hm => by
    obtain ⟨o', es', ep', ho', r'⟩ := hm
    rw [ho] at ho'; cases ho'
    exact ⟨_, es', ep', hL, r'⟩) hok hg
/-- an untracked record of ours (an iterator) has turned -/
theorem Inv.turned {t' : Nat} {it : Addr} (I : Inv X pins σ H s) (k : ∀ b o, b ≠ it → s.heap.get? b = some o → h'.get? b = some o) (hn : H it = none) (hL : it ≠ X.env.locals)
    (h1 : it ∈ X.ex ∨ X.s₀.heap.objs.size ≤ it) (h2 : ∀ x c, X.env.cells.lookup x = some c → c ≠ it) (h3 : ∀ p ∈ X.pn ++ pins, p.1 ≠ it) : Inv X pins σ H { s with heap := h', toks := t' } := by
  have nit : ∀ b u, H b = some u → b ≠ it := fun b u e z => by rw [z, hn] at e; cases e
  refine I.step (g' := s.gens) (d' := s.drawn) (ch := [it]) (fun b hb => ?_) (fun b o _ _ hc e _ => k b o (fun z => hc (by simp [z])) e) (fun b o _ _ hc e _ => ⟨o.slots, k b o (fun z => hc (by simp [z])) e⟩) (fun _ _ _ _ n => n)
    (fun b o hc e => ⟨o, k b o (fun z => hc (by simp [z])) e⟩) (fun _ _ e => e) (fun _ _ _ e => e) (fun b ps e => ⟨#[], by rw [e]; simp⟩) (fun m hm => ?_) (fun b u e => ?_) I.bare
  · have e : b = it := by simpa using hb
    subst e
    exact ⟨h1, hL, h2, h3⟩
  · obtain ⟨o, es, ep, ho, r⟩ := hm
    exact ⟨o, es, ep, k _ o (Ne.symm hL) ho, r⟩
  · refine (I.hok b u e).stay (fun c v hc q => k c v ?_ q) (fun _ q => q) fun _ _ q => q
    rcases hc with z | z
    · rw [z]; exact nit b u e
    · exact nit c _ z
theorem Inv.tok (I : Inv X pins σ H s) (t : Nat) : Inv X pins σ H { s with toks := t } := I.un (h' := s.heap) (t' := t) Un.refl I.hok
/-- all objects kept -/
theorem Inv.kept {t' : Nat} (I : Inv X pins σ H s) (k : ∀ b u, s.heap.get? b = some u → h'.get? b = some u) : Inv X pins σ H { s with heap := h', toks := t' } := I.un (Un.kept k) (I.hok.kept k)
/-- a new object laid and tracked -/
theorem Inv.laid {a : Addr} {o : HO} {t' : Nat} (I : Inv X pins σ H s) (k : ∀ b u, s.heap.get? b = some u → h'.get? b = some u) (hp : s.heap.objs.size ≤ a) (new : ObjOk X.prog X.w (upd H a o) h' a o) :
    Inv X pins σ (upd H a o) { s with heap := h', toks := t' } := I.un (Un.laid k hp (I.hok.fresh hp)) (I.hok.laid k hp new)
/-- an object written -/
theorem Inv.write {x e : Addr} {o : HO} {t' : Nat} (I : Inv X pins σ H s) (mu : Mut (H x)) (he : e = x ∨ H e = some (.own x)) (k : ∀ b u, b ≠ e → s.heap.get? b = some u → h'.get? b = some u) (heo : ∃ u, h'.get? e = some u)
    (new : ObjOk X.prog X.w (upd H x o) h' x o) : Inv X pins σ (upd H x o) { s with heap := h', toks := t' } := I.un (Un.write mu he k heo) (I.hok.write mu he k heo new)
theorem Inv.pins_of {pins' : List (Addr × Obj)} (I : Inv X pins σ H s) (h : ∀ p ∈ pins', s.heap.get? p.1 = some p.2 ∧ H p.1 = none ∧ p.1 ≠ X.env.locals ∧ p.1 ∉ X.fs ∧ ∀ v, p.2.data ≠ .cell v) : Inv X pins' σ H s :=
  ⟨I.ok, I.os, I.bare, I.base, I.loc, I.cell, I.free, I.freeC, fun p hp => (List.mem_append.mp hp).elim (fun z => I.pin p (List.mem_append_left _ z)) (h p), I.hok, I.len⟩

theorem nodup_ix {N : List Str} (hN : N.Nodup) {i j : Nat} {x : Str} (a : N[i]? = some x) (b : N[j]? = some x) : i = j := by
  obtain ⟨h1, e1⟩ := List.getElem?_eq_some_iff.mp a
  obtain ⟨h2, e2⟩ := List.getElem?_eq_some_iff.mp b
  exact (List.getElem_inj hN).mp (e1.trans e2.symm)

/-- a name is stored; what changed -/
theorem store_ok2 {M : Model} {A : Around} {E : Value → Shared → Prop} {i : Nat} {x : Str} {v : V} {u : Value} {Q : Unit → Shared → Prop} (I : Inv X pins σ H s) (hN : X.N.Nodup) (hi : X.N[i]? = some x) (hx : Loc X.env.scope x) (r : RelV v u)
    (h : ∀ s', Inv X pins (σ.set i (some v)) H s' → (∃ a, Heap.SameBut a s.heap s'.heap ∧ (a = X.env.locals ∨ X.env.cells.lookup x = some a)) → Q () s') (hf : X.fn x = true ∨ X.env.scope.names.lookup x = some .local := by first | exact .inl rfl | exact .inr rfl | assumption) : wpAny M A (storeName X.env x u) Q E s := by
  obtain ⟨m, hn, hl⟩ := id I.loc
  have hcls : (X.env.scope.kind == .class || (X.env.scope.kind == .module && X.env.locals != X.env.globals)) = false := by rw [I.ok.kind]; rfl
  have hiσ : i < σ.length := by rw [I.len]; exact (List.getElem?_eq_some_iff.mp hi).1
  have cne := I.cne
  have tracked : ∀ {a : Addr} {h' : Heap}, (∃ o, s.heap.get? a = some o ∧ H a = none) → Heap.SameBut a s.heap h' → HOk X.prog X.w H h' := fun {a h'} ha hs b ob e => by
    obtain ⟨_, _, hfree⟩ := ha
    refine (I.hok b ob e).stay (fun c w' hc q => (hs.2 c ?_).trans q) (fun _ q => q) fun _ _ q => q
    rintro rfl
    rcases hc with rfl | hc
    · rw [hfree] at e; cases e
    · rw [hfree] at hc; cases hc
  rcases hx with hk | hk
  · refine wpAny_storeName_local hk hn (fun h' hn' hs => ?_) hcls
    obtain ⟨oL, _, _, hoL, _⟩ := id hn
    refine h _ ⟨I.ok, I.os, I.bare, ⟨fun b o e n hb hx => ?_, fun b o e n hb hx => ?_, I.base.free, fun b o e hx => ?_, I.base.tups, I.base.frzs, I.base.tbls⟩, ⟨_, hn', fun j y v' e1 e2 e3 => ?_⟩, fun y c e => ?_, I.free, I.freeC, fun p hp => ?_, tracked ⟨oL, hoL, I.free⟩ hs, by simpa using I.len⟩ ⟨_, hs, .inl rfl⟩
    · exact (hs.2 b (Nat.ne_of_lt (Nat.lt_of_lt_of_le (Heap.lt_size e) I.ok.above))).trans (I.base.keep b o e n hb hx)
    · obtain ⟨sl, e1⟩ := I.base.slot b o e n hb hx
      exact ⟨sl, (hs.2 b (Nat.ne_of_lt (Nat.lt_of_lt_of_le (Heap.lt_size e) I.ok.above))).trans e1⟩
    · obtain ⟨o', e1⟩ := I.base.there b o e hx
      exact ⟨o', (hs.2 b (Nat.ne_of_lt (Nat.lt_of_lt_of_le (Heap.lt_size e) I.ok.above))).trans e1⟩
    · by_cases hj : j = i
      · subst hj
        rw [hi] at e1; cases e1
        rw [List.getElem?_set_self hiσ] at e2
        cases e2
        exact ⟨u, r, .inl ⟨hk, by simp⟩⟩
      · rw [List.getElem?_set_ne (Ne.symm hj)] at e2
        obtain ⟨u', r', q⟩ := hl j y v' e1 e2 e3
        refine ⟨u', r', ?_⟩
        rcases q with ⟨k, e⟩ | ⟨k, c, e, z⟩
        · refine .inl ⟨k, ?_⟩
          have : y ≠ x := fun e => hj (nodup_ix hN e1 (e ▸ hi))
          simp [this, e]
        · exact .inr ⟨k, c, e, z.sameBut hs (cne y c e)⟩
    · obtain ⟨w', z⟩ := I.cell y c e
      exact ⟨w', z.sameBut hs (cne y c e)⟩
    · obtain ⟨e, n, ne, nf, d⟩ := I.pin p hp
      exact ⟨(hs.2 p.1 ne).trans e, n, ne, nf, d⟩
  · have hfn : X.fn x = true := by
      rcases hf with z | z
      · exact z
      · rw [z] at hk; cases hk
    obtain ⟨c, hc⟩ := I.ok.has x (.inl hk)
    obtain ⟨w', z⟩ := I.cell x c hc
    refine wpAny_storeName_cell I.ok.kind hk hc z (fun h' hc' hs => ?_)
    obtain ⟨oc, hoc, hocd⟩ := id z
    refine h { s with heap := h' } ⟨I.ok, I.os, I.bare, ⟨fun b o e n hb hx => ?_, fun b o e n hb hx => ?_, I.base.free, fun b o e hx => ?_, I.base.tups, I.base.frzs, I.base.tbls⟩, ⟨m, hn.sameBut hs (Ne.symm (cne x c hc)), fun j y v' e1 e2 e3 => ?_⟩, fun y c' e => ?_, I.free, I.freeC, fun p hp => ?_, tracked ⟨oc, hoc, I.freeC x c hc⟩ hs, by simpa using I.len⟩ ⟨c, hs, .inr hc⟩
    · exact (hs.2 b (Nat.ne_of_lt (Nat.lt_of_lt_of_le (Heap.lt_size e) (I.ok.cab x c hfn hc)))).trans (I.base.keep b o e n hb hx)
    · obtain ⟨sl, e1⟩ := I.base.slot b o e n hb hx
      exact ⟨sl, (hs.2 b (Nat.ne_of_lt (Nat.lt_of_lt_of_le (Heap.lt_size e) (I.ok.cab x c hfn hc)))).trans e1⟩
    · obtain ⟨o', e1⟩ := I.base.there b o e hx
      exact ⟨o', (hs.2 b (Nat.ne_of_lt (Nat.lt_of_lt_of_le (Heap.lt_size e) (I.ok.cab x c hfn hc)))).trans e1⟩
    · by_cases hj : j = i
      · subst hj
        rw [hi] at e1; cases e1
        rw [List.getElem?_set_self hiσ] at e2
        cases e2
        exact ⟨u, r, .inr ⟨.inl hk, c, hc, hc'⟩⟩
      · rw [List.getElem?_set_ne (Ne.symm hj)] at e2
        obtain ⟨u', r', q⟩ := hl j y v' e1 e2 e3
        refine ⟨u', r', ?_⟩
        rcases q with q | ⟨k, c', e, z'⟩
        · exact .inl q
        · refine .inr ⟨k, c', e, z'.sameBut hs ?_⟩
          rintro rfl
          exact hj (nodup_ix hN e1 (I.ok.inj _ _ _ e hc ▸ hi))
    · by_cases hcc : c' = c
      · subst hcc; exact ⟨_, hc'⟩
      · obtain ⟨w2, z2⟩ := I.cell y c' e
        exact ⟨w2, z2.sameBut hs hcc⟩
    · obtain ⟨e, n, ne, nf, d⟩ := I.pin p hp
      refine ⟨(hs.2 p.1 ?_).trans e, n, ne, nf, d⟩
      intro q
      rw [q, hoc] at e
      have q' : oc = p.2 := Option.some.inj e
      exact d w' (by rw [← q']; exact hocd)
theorem store_ok {M : Model} {A : Around} {E : Value → Shared → Prop} {i : Nat} {x : Str} {v : V} {u : Value} {Q : Unit → Shared → Prop} (I : Inv X pins σ H s) (hN : X.N.Nodup) (hi : X.N[i]? = some x) (hx : Loc X.env.scope x) (r : RelV v u)
    (h : ∀ s', Inv X pins (σ.set i (some v)) H s' → Q () s') (hf : X.fn x = true ∨ X.env.scope.names.lookup x = some .local := by first | exact .inl rfl | exact .inr rfl | assumption) : wpAny M A (storeName X.env x u) Q E s :=
  store_ok2 I hN hi hx r (fun s' I' _ => h s' I') hf
/-- behind a call or a block, the state as it is -/
theorem Inv.call' {s' : Shared} {ch : List Addr} (I : Inv X pins σ H s) (ho : s'.os = s.os) (u : Un (frs X.stack) ch H H' s.heap s'.heap) (hok : HOk X.prog X.w H' s'.heap) (hg : AllBare s'.gens)
    (hch : ∀ b ∈ ch, (b ∈ X.ex ∨ X.s₀.heap.objs.size ≤ b) ∧ b ≠ X.env.locals ∧ (∀ x c, X.env.cells.lookup x = some c → c ≠ b) ∧ ∀ p ∈ X.pn ++ pins, p.1 ≠ b) : Inv X pins σ H' s' := by
  obtain ⟨h', g', d', t', o'⟩ := s'
  have e : o' = s.os := ho
  subst e
  exact I.call (g' := g') (t' := t') (d' := d') u hok hg hch
end

/-! ### the judgements -/
/-- an exception: its class, its own dict's address (where it has one), the abstract heap behind it -/
abbrev XK := Value → Option Addr → Hp → Prop
abbrev St := List (Option V)
abbrev VK := V → Hp → Prop
/-- an expression's reading; a test's; an argument list's -/
abbrev TE := St → Hp → VK → Prop
abbrev TT := St → Hp → (Bool → Hp → Prop) → Prop
abbrev TA := St → Hp → (List V → Hp → Prop) → Prop
/-- what is wanted behind a statement -/
structure Ends where
  nx : St → Hp → Prop
  rt : VK
  bk : St → Hp → Prop := fun _ _ => False
  ct : St → Hp → Prop := fun _ _ => False
abbrev TS := Ends → St → Hp → Prop

def EP (X : Cx) (pins : List (Addr × Obj)) (σ : St) (Q : VK) (u : Value) (s' : Shared) : Prop := ∃ v H', Inv X pins σ H' s' ∧ RelV v u ∧ Q v H'
def TP (X : Cx) (pins : List (Addr × Obj)) (σ : St) (Q : Bool → Hp → Prop) (b : Bool) (s' : Shared) : Prop := ∃ H', Inv X pins σ H' s' ∧ Q b H'
def AP (X : Cx) (pins : List (Addr × Obj)) (σ : St) (Q : List V → Hp → Prop) (us : List Value) (s' : Shared) : Prop := ∃ vs H', Inv X pins σ H' s' ∧ Vals vs us ∧ Q vs H'
def SP (X : Cx) (pins : List (Addr × Obj)) (D : Ends) (f : Flow) (s' : Shared) : Prop :=
  match f with
  | .next => ∃ σ' H', Inv X pins σ' H' s' ∧ D.nx σ' H'
  | .brk => ∃ σ' H', Inv X pins σ' H' s' ∧ D.bk σ' H'
  | .cont => ∃ σ' H', Inv X pins σ' H' s' ∧ D.ct σ' H'
  | .ret u => ∃ v σ' H', Inv X pins σ' H' s' ∧ RelV v u ∧ D.rt v H'

def PE (X : Cx) (e : Expr) (t : TE) : Prop :=
  ∀ (pins : List (Addr × Obj)) (s : Shared) (σ : St) (H : Hp) (Q : VK), Inv X pins σ H s → t σ H Q → wpAny (model X.prog X.w) X.A (eval e X.env) (EP X pins σ Q) X.xe s
def PT (X : Cx) (e : Expr) (t : TT) : Prop :=
  ∀ (pins : List (Addr × Obj)) (s : Shared) (σ : St) (H : Hp) (Q : Bool → Hp → Prop), Inv X pins σ H s → t σ H Q → wpAny (model X.prog X.w) X.A (isTrue e X.env (eval e X.env)) (TP X pins σ Q) X.xe s
/-- a test whatever its 'whole' is (and, or) -/
def PW (X : Cx) (e : Expr) (t : TT) : Prop :=
  ∀ (whole : Sem Value) (pins : List (Addr × Obj)) (s : Shared) (σ : St) (H : Hp) (Q : Bool → Hp → Prop), Inv X pins σ H s → t σ H Q → wpAny (model X.prog X.w) X.A (isTrue e X.env whole) (TP X pins σ Q) X.xe s
theorem PW.pt {X : Cx} {e : Expr} {t : TT} (h : PW X e t) : PT X e t := h _
/-- an argument list (no star), from the left -/
def PA (X : Cx) (es : List Expr) (t : TA) : Prop :=
  ∀ (pos : Pos) (pins : List (Addr × Obj)) (s : Shared) (σ : St) (H : Hp) (Q : List V → Hp → Prop), Inv X pins σ H s → t σ H Q → wpAny (model X.prog X.w) X.A (spliced (backTo pos (starEach es X.env))) (AP X pins σ Q) X.xe s
def PS (X : Cx) (st : Stmt) (t : TS) : Prop :=
  ∀ (pins : List (Addr × Obj)) (s : Shared) (σ : St) (H : Hp) (D : Ends), Inv X pins σ H s → t D σ H → wpAny (model X.prog X.w) X.A (exec st X.env) (SP X pins D) X.xe s
def PSs (X : Cx) (st : List Stmt) (t : TS) : Prop :=
  ∀ (pins : List (Addr × Obj)) (s : Shared) (σ : St) (H : Hp) (D : Ends), Inv X pins σ H s → t D σ H → wpAny (model X.prog X.w) X.A (execs st X.env) (SP X pins D) X.xe s
/-- weaken the end -/
theorem thn {α : Type} {t : Sem α} {Q Q' : α → Shared → Prop} {M : Model} {A : Around} {E : Value → Shared → Prop} {s : Shared} (h : wpAny M A t Q E s) (hQ : ∀ a s, Q a s → Q' a s) : wpAny M A t Q' E s := wpAny_mono h hQ fun _ _ x => x
end L2

namespace L2
open PySem PySem.Spec PyProof.Rows
section
variable {X : Cx}

/-! ### names and constants -/
def tVar (i : Nat) : TE := fun σ H Q => ∃ v, σ[i]? = some (some v) ∧ Q v H
def tC (v : V) : TE := fun _ H Q => Q v H
theorem pe_var {i : Nat} {x : Str} {pos : Pos} (hN : X.N[i]? = some x) (hv : Vis X.env.scope x) (hd : (x == ("__debug__" : Str)) = false := by decide) (hcd : (x == ("__classdict__" : Str)) = false := by decide) : PE X (.Name x pos) (tVar i) := by
  intro pins s σ H Q I h
  obtain ⟨v, e, h⟩ := h
  obtain ⟨m, hn, hl⟩ := I.loc
  obtain ⟨u, r, l⟩ := hl i x v hN e hv
  have fin : EP X pins σ Q u s := ⟨v, H, I, r, h⟩
  rcases l with ⟨hk, hm⟩ | ⟨hk, c, hc, hcell⟩
  · exact wpAny_Name (wpAny_loadName_local I.ok.kind hk hn hm fin) hd
  · rcases hk with hk | hk
    · exact wpAny_Name (wpAny_loadName_cell I.ok.kind hk hc hcell fin) hd
    · exact wpAny_Name (wpAny_loadName_free I.ok.kind hk hc hcell fin hcd) hd
theorem pe_int {i j pos} : PE X (.Constant (.int i) j pos) (tC (.int i)) := fun _ _ _ H _ I h => wpAny_Constant_int ⟨.int i, H, I.tok _, ⟨_, rfl⟩, h⟩
theorem pe_bl {b j pos} : PE X (.Constant (.bool b) j pos) (tC (.bl b)) := fun _ _ _ H _ I h => Constant_bool ⟨.bl b, H, I, rfl, h⟩
theorem pe_non {j pos} : PE X (.Constant .none j pos) (tC .non) := fun _ _ _ H _ I h => Constant_none ⟨.non, H, I, rfl, h⟩
theorem pe_str {x j pos} : PE X (.Constant (.str x) j pos) (tC (.str x)) := fun _ _ _ H _ I h => Calls.Constant_str ⟨.str x, H, I.tok _, ⟨_, rfl⟩, h⟩

/-- a global name of the def -/
def Gl (X : Cx) (x : Str) : Prop := X.env.kindOf x = some .globalImplicit
theorem ld_glob {E : Value → Shared → Prop} {pins : List (Addr × Obj)} {s : Shared} {σ : St} {H : Hp} {x : Str} {u : Value} {pos : Pos} {Q : Value → Shared → Prop} (I : Inv X pins σ H s) (hg : Gl X x) (hm : X.mg x = some u) (h : Q u s)
    (hd : (x == ("__debug__" : Str)) = false := by decide) : wpAny (model X.prog X.w) X.A (eval (.Name x pos) X.env) Q E s :=
  Calls.Name_function_global I.ok.kind hg (Calls.loadGlobal_global (by rw [I.ok.glob]; exact I.mod.glob.keeps I.bk) hm h) hd
theorem ld_blt {E : Value → Shared → Prop} {pins : List (Addr × Obj)} {s : Shared} {σ : St} {H : Hp} {x : Str} {u : Value} {pos : Pos} {Q : Value → Shared → Prop} (I : Inv X pins σ H s) (hg : Gl X x) (hm : X.mg x = none) (hv : bootBuiltins x = some u) (h : Q u s)
    (hn : x ≠ "__name__" := by decide) (hd : (x == ("__debug__" : Str)) = false := by decide) : wpAny (model X.prog X.w) X.A (eval (.Name x pos) X.env) Q E s := by
  obtain ⟨mb, h1, h2⟩ := I.mod.blt
  exact Calls.Name_function_global I.ok.kind hg (Calls.loadGlobal_builtin (by rw [I.ok.glob]; exact I.mod.glob.keeps I.bk) hm (by rw [I.ok.blt]; exact h1.keeps I.bk) ((h2 x hn).trans hv) h) hd
/-- a module's constant, a class, a function, as a value -/
theorem pe_glob {x : Str} {v : V} {u : Value} {pos : Pos} (hg : Gl X x) (hm : X.mg x = some u) (r : RelV v u) (hd : (x == ("__debug__" : Str)) = false := by decide) : PE X (.Name x pos) (tC v) :=
  fun _ _ _ H _ I h => ld_glob I hg hm ⟨v, H, I, r, h⟩ hd
theorem pe_bltn {x : Str} {v : V} {u : Value} {pos : Pos} (hg : Gl X x) (hm : X.mg x = none) (hv : bootBuiltins x = some u) (r : RelV v u) (hn : x ≠ "__name__" := by decide) (hd : (x == ("__debug__" : Str)) = false := by decide) : PE X (.Name x pos) (tC v) :=
  fun _ _ _ H _ I h => ld_blt I hg hm hv ⟨v, H, I, r, h⟩ hn hd

/-! ### arithmetic -/
variable {a b : Expr} {ta tb : TE} {pos : Pos}
/-! ### comparisons -/
def PC (X : Cx) (op : CmpOp) (a b : Expr) (t : TE) : Prop :=
  ∀ (pins : List (Addr × Obj)) (s : Shared) (σ : St) (H : Hp) (Q : VK), Inv X pins σ H s → t σ H Q →
    wpAny (model X.prog X.w) X.A (eval a X.env) (fun v s₁ => wpAny (model X.prog X.w) X.A (eval b X.env) (fun u s₂ => wpAny (model X.prog X.w) X.A (compareOp op v u) (EP X pins σ Q) X.xe s₂) X.xe s₁) X.xe s
theorem nobehind (b : Expr) {op : CmpOp} (h : op ≠ .In) (h2 : op ≠ .NotIn) : behindInMarks op b = false := by
  have e1 : (op == CmpOp.In) = false := by cases op <;> first | rfl | exact absurd rfl h
  have e2 : (op == CmpOp.NotIn) = false := by cases op <;> first | rfl | exact absurd rfl h2
  cases b <;> simp [behindInMarks, e1, e2]
/-- a comparison as a value, as a test -/
def tB (t : TE) : TT := fun σ H Q => t σ H fun x H1 => ∃ c, x = .bl c ∧ Q c H1
theorem pt_cmp {op : CmpOp} {t : TE} (h : PC X op a b t) (h1 : behindInMarks op b = false := by first | exact nobehind _ (by decide) (by decide) | rfl) : PT X (.Compare a [op] [b] pos) (tB t) := by
  intro pins s σ H Q I hw
  refine wpAny_isTrue_Compare1 (thn (h pins s σ H _ I hw) fun v s1 h1 => thn h1 fun u s2 h2 => thn h2 fun c s3 ⟨x, H1, I1, r1, q1⟩ => ?_) h1
  obtain ⟨d, rfl, q⟩ := q1
  cases r1
  exact wpAny_truthy_bool ⟨H1, I1, q⟩
/-- an expression whose value is a bool, as a test -/
theorem pt_val {e : Expr} {t : TE} (h : PE X e t) (he : ∀ whole, isTrue e X.env whole = (do let v ← whole; standAt e.pos; holding [v] (truthy v)) := by intro _; rfl) : PT X e (tB t) := by
  intro pins s σ H Q I hw
  refine isTrue_plain (thn (h pins s σ H _ I hw) fun v s1 ⟨x, H1, I1, r1, q1⟩ => ?_) (he _)
  obtain ⟨d, rfl, q⟩ := q1
  cases r1
  exact wpAny_truthy_bool ⟨H1, I1, q⟩

/-! ### and, or, not -/
variable {tA tB' : TT} {rest : List Expr}
def tAnd (t u : TT) : TT := fun σ H Q => t σ H fun c H1 => if c = true then u σ H1 Q else Q false H1
def tOr (t u : TT) : TT := fun σ H Q => t σ H fun c H1 => if c = true then Q true H1 else u σ H1 Q
def tNot (t : TT) : TT := fun σ H Q => t σ H fun c H1 => Q (!c) H1
theorem pw_and1 (ha : PT X a tA) : PW X (.BoolOp .And [a] pos) tA := by
  intro wh pins s σ H Q I h
  refine isTrue_and (thn (ha pins s σ H Q I h) fun c s1 e => ?_)
  cases c with
  | true => exact isTrue_and_nil e
  | false => exact e
theorem pw_or1 (ha : PT X a tA) : PW X (.BoolOp .Or [a] pos) tA := by
  intro wh pins s σ H Q I h
  refine isTrue_or (thn (ha pins s σ H Q I h) fun c s1 e => ?_)
  cases c with
  | false => exact isTrue_or_nil e
  | true => exact e
theorem pw_and (ha : PT X a tA) (hb : PW X (.BoolOp .And (b :: rest) pos) tB') : PW X (.BoolOp .And (a :: b :: rest) pos) (tAnd tA tB') := by
  intro wh pins s σ H Q I h
  refine isTrue_and (thn (ha pins s σ H _ I h) fun c s1 ⟨H1, I1, q1⟩ => ?_)
  cases c with
  | true => exact hb wh pins s1 σ H1 Q I1 q1
  | false => exact ⟨H1, I1, q1⟩
theorem pw_or (ha : PT X a tA) (hb : PW X (.BoolOp .Or (b :: rest) pos) tB') : PW X (.BoolOp .Or (a :: b :: rest) pos) (tOr tA tB') := by
  intro wh pins s σ H Q I h
  refine isTrue_or (thn (ha pins s σ H _ I h) fun c s1 ⟨H1, I1, q1⟩ => ?_)
  cases c with
  | true => exact ⟨H1, I1, q1⟩
  | false => exact hb wh pins s1 σ H1 Q I1 q1
theorem pt_not (ha : PT X a tA) : PT X (.UnaryOp .Not a pos) (tNot tA) := by
  intro pins s σ H Q I h
  exact isTrue_not (ha pins s σ H (fun c H1 => Q (!c) H1) I h)
end
end L2

namespace L2
open PySem PySem.Spec PyProof.Rows

/-! ### a list, a tuple that is read: tracked, frozen, or an object of the module -/
def SqL (K : PySem.W.Frag) (H : Hp) (a : Addr) (xs : List V) : Prop :=
  Rd H a (.lst xs) ∨
    ∃ (o : Obj) (its : Array Value) (n : Nat), K.lookup a = some o ∧ o.cls = .type "list" ∧ o.dict = none ∧ o.data = .seq its n ∧ its.size ≤ sizeLine ∧ Vals xs its.toList
def SqT (K : PySem.W.Frag) (H : Hp) (a : Addr) (xs : List V) : Prop :=
  Rd H a (.tup xs) ∨
    ∃ (o : Obj) (its : Array Value) (n : Nat), K.lookup a = some o ∧ o.cls = .type "tuple" ∧ o.data = .seq its n ∧ its.size ≤ sizeLine ∧ Vals xs its.toList
def absV : Value → Option V
  | .none => some .non
  | .bool b => some (.bl b)
  | .int i _ => some (.int i)
  | .str x _ => some (.str x)
  | .bytes b _ => some (.byt b)
  | .float b _ => some (.flt b)
  | .ref a => some (.ref a)
  | .type n => some (.ty n)
  | _ => none
theorem RelV.abs {x : V} {u : Value} (r : RelV x u) : absV u = some x := by
  cases x with
  | non => cases r; rfl
  | bl _ => cases r; rfl
  | int _ => obtain ⟨t, rfl⟩ := r; rfl
  | str _ => obtain ⟨t, rfl⟩ := r; rfl
  | byt _ => obtain ⟨t, rfl⟩ := r; rfl
  | flt _ => obtain ⟨t, rfl⟩ := r; rfl
  | ref _ => cases r; rfl
  | ty _ => cases r; rfl
theorem RelV.inj {x y : V} {u : Value} (r : RelV x u) (q : RelV y u) : x = y := Option.some.inj (r.abs.symm.trans q.abs)
theorem Vals.inj : ∀ {xs ys : List V} {us : List Value}, Vals xs us → Vals ys us → xs = ys
  | _, _, _, .nil, .nil => rfl
  | _, _, _, .cons r t, .cons r' t' => by rw [r.inj r', Vals.inj t t']
section
variable {X : Cx} {pins : List (Addr × Obj)} {σ : St} {H : Hp} {s : Shared} {a : Addr} {xs ys : List V}
theorem SqL.of {K : PySem.W.Frag} (h : H a = some (.lst xs)) : SqL K H a xs := .inl (.inl h)
theorem SqT.of {K : PySem.W.Frag} (h : H a = some (.tup xs)) : SqT K H a xs := .inl (.inl h)
theorem Inv.list (I : Inv X pins σ H s) (h : SqL X.K H a xs) : ∃ its : List Value, Vals xs its ∧ PlainL s.heap a its.toArray ∧ xs.length ≤ sizeLine := by
  rcases h with h | ⟨o, its, n, hk, hc, hd, hs, hz, r⟩
  · obtain ⟨z, its, n, r, e⟩ := h.ok I.hok
    exact ⟨its, r, ⟨_, n, e, rfl, rfl, rfl⟩, z⟩
  · refine ⟨its.toList, r, ⟨o, n, I.kIn a o hk, hc, hd, by simpa using hs⟩, ?_⟩
    have e := r.length
    simp only [Array.length_toList] at e
    omega
theorem Inv.tuple (I : Inv X pins σ H s) (h : SqT X.K H a xs) : ∃ its : List Value, Vals xs its ∧ IsTup s.heap a its.toArray ∧ xs.length ≤ sizeLine := by
  rcases h with h | ⟨o, its, n, hk, hc, hs, hz, r⟩
  · obtain ⟨z, its, r, p⟩ := h.ok I.hok
    exact ⟨its, r, p, z⟩
  · refine ⟨its.toList, r, ⟨o, I.kIn a o hk, hc, n, by simpa using hs⟩, ?_⟩
    have e := r.length
    simp only [Array.length_toList] at e
    omega
theorem Inv.list_inj (I : Inv X pins σ H s) (h : SqL X.K H a xs) (h' : SqL X.K H a ys) : xs = ys := by
  obtain ⟨its, r, ⟨o, n, e, _, _, d⟩, _⟩ := I.list h
  obtain ⟨its', r', ⟨o', n', e', _, _, d'⟩, _⟩ := I.list h'
  rw [e] at e'; cases e'
  rw [d] at d'
  injection d' with d1 _
  have : its = its' := by simpa using congrArg Array.toList d1
  subst this
  exact r.inj r'
theorem Inv.tuple_inj (I : Inv X pins σ H s) (h : SqT X.K H a xs) (h' : SqT X.K H a ys) : xs = ys := by
  obtain ⟨its, r, ⟨o, e, _, n, d⟩, _⟩ := I.tuple h
  obtain ⟨its', r', ⟨o', e', _, n', d'⟩, _⟩ := I.tuple h'
  rw [e] at e'; cases e'
  rw [d] at d'
  injection d' with d1 _
  have : its = its' := by simpa using congrArg Array.toList d1
  subst this
  exact r.inj r'
end

/-! ### another wish about exceptions -/
abbrev Cx.wish (X : Cx) (E : Value → Shared → Prop) : Cx := { X with xe := E }
/-- no exception leaves -/
abbrev Cx.nox (X : Cx) : Cx := X.wish fun _ _ => False
theorem Cx.Ok.wish {X : Cx} (ok : X.Ok) (E : Value → Shared → Prop) : (X.wish E).Ok :=
  ⟨ok.mod, ok.kind, ok.glob, ok.blt, ok.above, ok.inj, ok.has, ok.cab, ok.hd, ok.frames, ok.stk, ok.exf, ok.bs, ok.bsz, ok.noex, ok.exfs, ok.funs, ok.frf⟩
theorem Cx.Ok.unwish {X : Cx} {E : Value → Shared → Prop} (ok : (X.wish E).Ok) : X.Ok :=
  ⟨ok.mod, ok.kind, ok.glob, ok.blt, ok.above, ok.inj, ok.has, ok.cab, ok.hd, ok.frames, ok.stk, ok.exf, ok.bs, ok.bsz, ok.noex, ok.exfs, ok.funs, ok.frf⟩
section
variable {X : Cx} {pins : List (Addr × Obj)} {σ : St} {H : Hp} {s : Shared} {E : Value → Shared → Prop}
theorem Inv.wish (I : Inv X pins σ H s) (E : Value → Shared → Prop) : Inv (X.wish E) pins σ H s := ⟨I.ok.wish E, I.os, I.bare, I.base, I.loc, I.cell, I.free, I.freeC, I.pin, I.hok, I.len⟩
theorem Inv.unwish (I : Inv (X.wish E) pins σ H s) : Inv X pins σ H s := ⟨I.ok.unwish, I.os, I.bare, I.base, I.loc, I.cell, I.free, I.freeC, I.pin, I.hok, I.len⟩
theorem SP.unwish {D : Ends} {f : Flow} {s' : Shared} (h : SP (X.wish E) pins D f s') : SP X pins D f s' := by
  cases f with
  | next => obtain ⟨σ', H', I, q⟩ := h; exact ⟨σ', H', I.unwish, q⟩
  | brk => obtain ⟨σ', H', I, q⟩ := h; exact ⟨σ', H', I.unwish, q⟩
  | cont => obtain ⟨σ', H', I, q⟩ := h; exact ⟨σ', H', I.unwish, q⟩
  | ret u => obtain ⟨v, σ', H', I, r, q⟩ := h; exact ⟨v, σ', H', I.unwish, r, q⟩
theorem PE.nox {e : Expr} {t : TE} (h : PE X.nox e t) : PE X e t := fun pins s σ H Q I hw =>
  wpAny_mono (h pins s σ H Q (I.wish _) hw) (fun _ _ ⟨v, H', I', r, q⟩ => ⟨v, H', I'.unwish, r, q⟩) fun _ _ z => False.elim z
theorem PT.nox {e : Expr} {t : TT} (h : PT X.nox e t) : PT X e t := fun pins s σ H Q I hw =>
  wpAny_mono (h pins s σ H Q (I.wish _) hw) (fun _ _ ⟨H', I', q⟩ => ⟨H', I'.unwish, q⟩) fun _ _ z => False.elim z
theorem PSs.nox {st : List Stmt} {t : TS} (h : PSs X.nox st t) : PSs X st t := fun pins s σ H D I hw =>
  wpAny_mono (h pins s σ H D (I.wish _) hw) (fun _ _ q => q.unwish) fun _ _ z => False.elim z
end

/-! ### blocks and small statements -/
section
variable {X : Cx} {st : Stmt} {rest : List Stmt} {t u : TS} {e : Expr} {te : TE} {pos : Pos}
def tNext : TS := fun D σ H => D.nx σ H
def tSeq (t u : TS) : TS := fun D σ H => t { D with nx := u D } σ H
theorem pss_nil : PSs X [] tNext := fun _ _ σ H _ I h => wpAny_execs_nil ⟨σ, H, I, h⟩
theorem pss_cons (h1 : PS X st t) (h2 : PSs X rest u) : PSs X (st :: rest) (tSeq t u) := by
  intro pins s σ H D I h
  refine wpAny_execs_cons (thn (h1 pins s σ H { D with nx := u D } I h) fun f s1 q => ?_)
  cases f with
  | next =>
    obtain ⟨σ', H', I', q⟩ := q
    exact h2 pins s1 σ' H' D I' q
  | ret v => exact q
  | brk => exact q
  | cont => exact q
theorem pss_one (h1 : PS X st t) : PSs X [st] t := by
  intro pins s σ H D I h
  refine wpAny_execs_cons (thn (h1 pins s σ H D I h) fun f s1 q => ?_)
  cases f with
  | next => exact wpAny_execs_nil q
  | ret v => exact q
  | brk => exact q
  | cont => exact q
/-- in a def's body nothing is shown -/
theorem Inv.quiet {pins : List (Addr × Obj)} {σ : St} {H : Hp} {s : Shared} (I : Inv X pins σ H s) : interactive X.env = false := by simp [interactive, I.ok.kind]
/-- an expression whose value is dropped -/
def tDrop (te : TE) : TS := fun D σ H => te σ H fun _ H1 => D.nx σ H1
theorem ps_expr (he : PE X e te) (hs : swapsWith e none pos.line X.env = pure false := by rfl) : PS X (.Expr e pos) (tDrop te) := by
  intro pins s σ H D I h
  exact wpAny_Expr_any (thn (he pins s σ H _ I h) fun v s1 ⟨x, H1, I1, r1, q1⟩ => ⟨σ, H1, I1, q1⟩) I.quiet hs
def tRet (te : TE) : TS := fun D σ H => te σ H D.rt
theorem ps_ret (he : PE X e te) : PS X (.Return (some e) pos) (tRet te) := by
  intro pins s σ H D I h
  exact wpAny_Return_some (thn (he pins s σ H _ I h) fun v s1 ⟨x, H1, I1, r1, q1⟩ => ⟨x, σ, H1, I1, r1, q1⟩)
def tIfS (c : TT) (t u : TS) : TS := fun D σ H => c σ H fun b H1 => if b = true then t D σ H1 else u D σ H1
theorem ps_if {c : Expr} {a b : List Stmt} {tc : TT} (hc : PT X c tc) (ha : PSs X a t) (hb : PSs X b u) : PS X (.If c a b pos) (tIfS tc t u) := by
  intro pins s σ H D I h
  refine wpAny_If (thn (hc pins s σ H _ I h) fun d s1 ⟨H1, I1, q1⟩ => ?_)
  cases d with
  | true => exact ha pins s1 σ H1 D I1 q1
  | false => exact hb pins s1 σ H1 D I1 q1
end

/-! ### targets -/
abbrev TG := V → St → Hp → (St → Hp → Prop) → Prop
abbrev TGs := List V → St → Hp → (St → Hp → Prop) → Prop
def PG (X : Cx) (target : Expr) (t : TG) : Prop :=
  ∀ (pins : List (Addr × Obj)) (s : Shared) (σ : St) (H : Hp) (v : V) (u : Value) (Q : St → Hp → Prop), Inv X pins σ H s → RelV v u → t v σ H Q →
    wpAny (model X.prog X.w) X.A (assign target X.env u) (fun _ s' => ∃ σ' H', Inv X pins σ' H' s' ∧ Q σ' H') X.xe s
/-- several targets, one after another -/
def PGs (X : Cx) (ts : List Expr) (t : TGs) : Prop :=
  ∀ (pins : List (Addr × Obj)) (s : Shared) (σ : St) (H : Hp) (vs : List V) (us : List Value) (Q : St → Hp → Prop), Inv X pins σ H s → Vals vs us → t vs σ H Q →
    wpAny (model X.prog X.w) X.A (assignInOrder ((assignEach ts X.env).map (·.2)) us) (fun _ s' => ∃ σ' H', Inv X pins σ' H' s' ∧ Q σ' H') X.xe s
/-- o[i] = v, by values -/
abbrev TSet := V → V → V → Hp → (Hp → Prop) → Prop
def PSet (X : Cx) (t : TSet) : Prop :=
  ∀ (pins : List (Addr × Obj)) (s : Shared) (σ : St) (H : Hp) (o i v : V) (ov iv u : Value) (Q : Hp → Prop), Inv X pins σ H s → RelV o ov → RelV i iv → RelV v u → t o i v H Q →
    wpAny (model X.prog X.w) X.A (setItem ov iv u) (fun _ s' => ∃ H', Inv X pins σ H' s' ∧ Q H') X.xe s
section
variable {X : Cx} {pos : Pos}
def gName (i : Nat) : TG := fun v σ H Q => Q (σ.set i (some v)) H
theorem pg_name {i : Nat} {x : Str} (hN : X.N.Nodup) (hi : X.N[i]? = some x) (hx : Loc X.env.scope x) (hf : X.fn x = true ∨ X.env.scope.names.lookup x = some .local := by first | exact .inl rfl | exact .inr rfl | assumption) : PG X (.Name x pos) (gName i) := by
  intro pins s σ H v u Q I r h
  exact wpAny_assign_Name (store_ok I hN hi hx r (fun s' I' => ⟨_, H, I', h⟩) hf)
def gNil : TGs := fun vs σ H Q => vs = [] ∧ Q σ H
def gCons (t : TG) (u : TGs) : TGs := fun vs σ H Q => ∃ v r, vs = v :: r ∧ t v σ H fun σ' H' => u r σ' H' Q
theorem pgs_nil : PGs X [] gNil := by
  intro pins s σ H vs us Q I r h
  obtain ⟨e, h⟩ := h
  subst e
  cases r
  exact assignInOrder_nil ⟨σ, H, I, h⟩
theorem pgs_cons {e : Expr} {es : List Expr} {t : TG} {u : TGs} (h1 : PG X e t) (h2 : PGs X es u)
    (hs : (assignEach (e :: es) X.env).map (·.2) = assign e X.env :: (assignEach es X.env).map (·.2) := by rfl) : PGs X (e :: es) (gCons t u) := by
  intro pins s σ H vs us Q I r h
  obtain ⟨v, vr, e1, h⟩ := h
  subst e1
  cases r with
  | cons r rr =>
    rw [hs]
    refine assignInOrder_cons (thn (h1 pins s σ H _ _ _ I r h) fun _ s1 ⟨σ1, H1, I1, q1⟩ => ?_)
    exact h2 pins s1 σ1 H1 _ _ Q I1 rr q1
/-- (a, b, ..) = a tuple of that length -/
def gTup (K : PySem.W.Frag) (n : Nat) (t : TGs) : TG := fun v σ H Q => ∃ a xs, v = .ref a ∧ SqT K H a xs ∧ xs.length = n ∧ t xs σ H Q
theorem pg_tup {es : List Expr} {k : Nat} {t : TGs} {n : Nat} (hc : X.calm = true) (h : PGs X es t)
    (hn : (assignEach es X.env).length = n := by rfl) (hst : (assignEach es X.env).findIdx? (·.1) = none := by rfl) : PG X (.Tuple es k pos) (gTup X.K n t) := by
  intro pins s σ H v u Q I r hw
  obtain ⟨a, xs, e1, hq, hl, hw⟩ := hw
  subst e1
  cases r
  obtain ⟨its, rv, ht, hz⟩ := I.tuple hq
  refine assign_Tuple_tuple (I.ok.hd hc) ht (by simp [hn, ← hl, rv.length]) hst fun h' hx => ?_
  have I1 : Inv X pins σ H { s with heap := h' } := I.kept (t' := s.toks) fun b o e => hx b o (Nat.ne_of_lt (Heap.lt_size e)) e
  exact h pins _ σ H xs _ Q I1 (by simpa using rv) hw
/-- o[i] = .. -/
def gSub (to ti : TE) (t : TSet) : TG := fun v σ H Q => to σ H fun o H1 => ti σ H1 fun i H2 => t o i v H2 fun H3 => Q σ H3
theorem pg_sub {o i : Expr} {to ti : TE} {t : TSet} (ho : PE X o to) (hi : PE X i ti) (hs : PSet X t)
    (ha : ∀ v, assign (.Subscript o i pos) X.env v = (do
      let ov ← holding [v] (eval o X.env)
      let iv ← holding [v, ov] (eval i X.env)
      standAt pos
      holding [v, ov, iv] (setItem ov iv v)
      release [v, ov, iv] []) := by intro _; rfl) : PG X (.Subscript o i pos) (gSub to ti t) := by
  intro pins s σ H v u Q I r h
  rw [ha]
  refine wpAny_bind (wpAny_holding (thn (ho pins s σ H _ I h) fun ov s1 ⟨x, H1, I1, r1, q1⟩ => ?_))
  refine wpAny_bind (wpAny_holding (thn (hi pins s1 σ H1 _ I1 q1) fun iv s2 ⟨y, H2, I2, r2, q2⟩ => ?_))
  refine wpAny_bind (wpAny_standAt (wpAny_bind (wpAny_holding (thn (hs pins s2 σ H2 x y v ov iv u _ I2 r1 r2 r q2) fun _ s3 ⟨H3, I3, q3⟩ => ?_))))
  exact wpAny_release ⟨σ, H3, I3, q3⟩
/-- target = value -/
def tAsg (te : TE) (g : TG) : TS := fun D σ H => te σ H fun x H1 => g x σ H1 D.nx
theorem ps_asg {tg e : Expr} {te : TE} {g : TG} (he : PE X e te) (hg : PG X tg g) (hs : swapsWithSole [tg] e pos.line X.env = pure false := by rfl) (hw : swappedStores [tg] e X.env = pure none := by rfl)
    (h1 : (assignEach [tg] X.env).map (·.2) = [assign tg X.env] := by rfl) : PS X (.Assign [tg] e pos) (tAsg te g) := by
  intro pins s σ H D I h
  refine wpAny_Assign_stores (thn (he pins s σ H _ I h) fun v s1 ⟨x, H1, I1, r1, q1⟩ => ?_) hs hw
  rw [h1]
  exact thn (hg pins s1 σ H1 x v _ I1 r1 q1) fun _ s2 q => q
/-- name = value -/
theorem ps_set {i : Nat} {x : Str} {e : Expr} {te : TE} {pos' : Pos} (hN : X.N.Nodup) (hi : X.N[i]? = some x) (hx : Loc X.env.scope x) (he : PE X e te) (hs : swapsWith e (some (.Name x pos')) pos.line X.env = pure false := by rfl) (hf : X.fn x = true ∨ X.env.scope.names.lookup x = some .local := by first | exact .inl rfl | exact .inr rfl | assumption) :
    PS X (.Assign [.Name x pos'] e pos) (tAsg te (gName i)) := by
  intro pins s σ H D I h
  refine wpAny_Assign_Name (thn (he pins s σ H _ I h) fun v s1 ⟨y, H1, I1, r1, q1⟩ => ?_) hs
  exact store_ok I1 hN hi hx r1 (fun s2 I2 => ⟨_, H1, I2, q1⟩) hf
end

/-! ### while -/
section
variable {X : Cx} {pos : Pos}
/-- the invariant W with its measure -/
def tWhile (c : TT) (tb : TS) : TS := fun D σ H => ∃ W : Nat → St → Hp → Prop, (∃ m, W m σ H) ∧ ∀ m σ H, W m σ H →
  c σ H fun b H1 => if b = true then ∃ N : St → Hp → Prop, (∀ σ' H', N σ' H' → ∃ m', m' < m ∧ W m' σ' H') ∧ tb { D with nx := N, ct := N, bk := D.nx } σ H1 else D.nx σ H1
theorem ps_while {c : Expr} {body : List Stmt} {tc : TT} {tb : TS} (hp : PassesOwn (model X.prog X.w) X.A X.env X.xe) (hc : PT X c tc) (hb : PSs X body tb) : PS X (.While c body [] pos) (tWhile tc tb) := by
  intro pins s σ H D I h
  obtain ⟨W, ⟨m0, w0⟩, turn⟩ := h
  refine wpAny_While (codeAny_whileLoop (fun n s' => ∃ σ' H', Inv X pins σ' H' s' ∧ W n σ' H') ?_ m0 ⟨σ, H, I, w0⟩)
  rintro n s1 ⟨σ1, H1, I1, w1⟩
  refine wpAny_passesOwn hp (thn (hc pins s1 σ1 H1 _ I1 (turn n σ1 H1 w1)) fun b s2 ⟨H2, I2, q2⟩ => ?_)
  cases b with
  | true =>
    obtain ⟨N, hN, q2⟩ := q2
    rw [if_pos rfl]
    refine wpAny_passesOwn hp (thn (hb pins s2 σ1 H2 _ I2 q2) fun f s3 q3 => ?_)
    cases f with
    | next =>
      obtain ⟨σ3, H3, I3, n3⟩ := q3
      obtain ⟨m', hm, w3⟩ := hN σ3 H3 n3
      exact ⟨m', hm, σ3, H3, I3, w3⟩
    | cont =>
      obtain ⟨σ3, H3, I3, n3⟩ := q3
      obtain ⟨m', hm, w3⟩ := hN σ3 H3 n3
      exact ⟨m', hm, σ3, H3, I3, w3⟩
    | brk => exact q3
    | ret v => exact q3
  | false =>
    rw [if_neg Bool.false_ne_true]
    exact wpAny_execs_nil ⟨σ1, H2, I2, q2⟩
end

/-! ### what a loop or a comprehension walks -/
/-- at turn i: it yields x (the heap may grow), or it stops -/
structure It where
  go : Nat → Hp → Prop
  yld : Nat → Hp → V → Hp → Prop
  stop : Nat → Hp → Prop
/-- the iterator's own objects may turn: they are not the frame's, not pinned, younger than the entry (or a comprehension's own) -/
def FpOk (X : Cx) (pins : List (Addr × Obj)) (H : Hp) (b : Addr) : Prop :=
  H b = none ∧ b ≠ X.env.locals ∧ b ∉ X.fs ∧ (b ∈ X.ex ∨ X.s₀.heap.objs.size ≤ b) ∧ (∀ x c, X.env.cells.lookup x = some c → c ≠ b) ∧ ∀ p ∈ X.pn ++ pins, p.1 ≠ b
theorem Inv.fpOk {X : Cx} {pins : List (Addr × Obj)} {σ : St} {H H' : Hp} {s : Shared} {b : Addr} (I : Inv X pins σ H s) (hb : s.heap.objs.size ≤ b) (hn : H' b = none) : FpOk X pins H' b := by
  refine ⟨hn, Nat.ne_of_gt (Nat.lt_of_lt_of_le I.lt hb), I.nofs hb, .inr (Nat.le_trans I.sz hb), fun x c e z => ?_, fun p hp z => ?_⟩
  · obtain ⟨v, q⟩ := I.cell x c e
    exact absurd (Nat.lt_of_lt_of_le q.lt (by rw [z]; exact hb)) (Nat.lt_irrefl _)
  · exact absurd (Nat.lt_of_lt_of_le (Heap.lt_size (I.pin p hp).1) (by rw [z]; exact hb)) (Nat.lt_irrefl _)
structure Turn (P : Program) (w : World) (K : PySem.W.Frag) (tg : Expr) (J : It) (fp : List Addr) (it : Addr) (tn : Nat → Heap → Prop) : Prop where
  mem : it ∈ fp
  obj : ∀ i h, tn i h → ∀ b ∈ fp, ∃ o, h.get? b = some o ∧ ∀ v, o.data ≠ .cell v
  keep : ∀ i h h', tn i h → (∀ b ∈ fp, ∀ o, h.get? b = some o → h'.get? b = some o) → tn i h'
  item : ∀ (X : Cx), X.prog = P → X.w = w → X.K = K → X.calm = true → ∀ (i : Nat) (pins : List (Addr × Obj)) (s : Shared) (σ : St) (H : Hp) (E : Value → Shared → Prop), Inv X pins σ H s → (∀ b ∈ fp, FpOk X pins H b) → tn i s.heap → J.go i H →
    wpAny (model P w) X.A (pyNext (.ref it)) (fun r s1 => ∃ u, r = some u ∧
      wpAny (model P w) X.A (letOwnedTupleGo tg (.ref it) u) (fun _ s2 => ∃ x H', Inv X pins σ H' s2 ∧ RelV x u ∧ J.yld i H x H' ∧ tn (i + 1) s2.heap ∧ ∀ b ∈ fp, H' b = none) E s1) E s
  done : ∀ (X : Cx), X.prog = P → X.w = w → X.K = K → X.calm = true → ∀ (i : Nat) (pins : List (Addr × Obj)) (s : Shared) (σ : St) (H : Hp) (E : Value → Shared → Prop), Inv X pins σ H s → (∀ b ∈ fp, FpOk X pins H b) → tn i s.heap → J.stop i H →
    wpAny (model P w) X.A (pyNext (.ref it)) (fun r s1 => r = none ∧ Inv X pins σ H s1) E s
  self : ∀ (A : Around) (i : Nat) (s : Shared) (Q : Value → Shared → Prop) (E : Value → Shared → Prop), tn i s.heap → Q (.ref it) s → wpAny (model P w) A (pyIter (.ref it)) Q E s
abbrev TI := St → Hp → (It → Hp → Prop) → Prop
/-- an iterator has come -/
def PIE (X : Cx) (pins : List (Addr × Obj)) (σ : St) (tg : Expr) (R : It → Hp → Prop) (itv : Value) (s2 : Shared) : Prop :=
  ∃ (it : Addr) (fp : List Addr) (tn : Nat → Heap → Prop) (J : It) (H' : Hp), itv = .ref it ∧ Inv X pins σ H' s2 ∧ Turn X.prog X.w X.K tg J fp it tn ∧ tn 0 s2.heap ∧ (∀ b ∈ fp, FpOk X pins H' b) ∧ R J H'
def PI (X : Cx) (tg iter : Expr) (wi : TI) : Prop :=
  ∀ (pins : List (Addr × Obj)) (s : Shared) (σ : St) (H : Hp) (R : It → Hp → Prop), Inv X pins σ H s → wi σ H R →
    wpAny (model X.prog X.w) X.A (eval iter X.env) (fun v s1 => wpAny (model X.prog X.w) X.A (pyIter v) (PIE X pins σ tg R) X.xe s1) X.xe s

/-- the step ahead of the store is nothing for an iterator that keeps no tuple -/
theorem go_of {M : Model} {A : Around} {E : Value → Shared → Prop} {s : Shared} {tg : Expr} {it : Addr} {u : Value} {o : Obj} {n : String} {vs : Array Value} {Q : Unit → Shared → Prop} (ho : s.heap.get? it = some o) (hc : o.cls = .type n) (hd : o.data = .fields vs)
    (hn : ["enumerate", "zip", "dict_itemiterator", "dict_reverseitemiterator", "odict_iterator", "itertools.zip_longest", "itertools.pairwise"].contains n = false) (hQ : Q () s) : wpAny M A (letOwnedTupleGo tg (.ref it) u) Q E s := by
  unfold letOwnedTupleGo
  cases tg <;> first
    | exact wpAny_pure hQ
    | (cases u <;> first
        | exact wpAny_pure hQ
        | (refine wpAny_bind (wpAny_load ho ?_)
           rw [hc, hd]
           show wpAny M A (if (["enumerate", "zip", "dict_itemiterator", "dict_reverseitemiterator", "odict_iterator", "itertools.zip_longest", "itertools.pairwise"].contains n && vs[0]? == some (rawInt _)) = true then _ else _) Q E s
           rw [if_neg (by intro h; rw [hn, Bool.false_and] at h; cases h)]
           exact wpAny_pure hQ))

/-- the list at a, as it stands at each turn (a loop may append to it) -/
def Itl (K : PySem.W.Frag) (a : Addr) : It :=
  ⟨fun i H => ∃ xs x, SqL K H a xs ∧ xs[i]? = some x, fun i H x H' => H' = H ∧ ∀ xs, SqL K H a xs → xs[i]? = some x, fun i H => ∃ xs, SqL K H a xs ∧ xs.length ≤ i⟩
/-- lo, lo + 1, .. (n of them) -/
def Itr (lo : Int) (n : Nat) : It := ⟨fun i _ => i < n, fun i H x H' => H' = H ∧ x = .int (lo + i), fun i _ => n ≤ i⟩
theorem turn_list {P : Program} {w : World} {K : PySem.W.Frag} {tg : Expr} (a it : Addr) : Turn P w K tg (Itl K a) [it] it (fun i h => h.IsListIter it a i) where
  mem := by simp
  obj := fun i h st b hb => by
    have e : b = it := by simpa using hb
    subst e
    obtain ⟨o, e, c, d⟩ := st
    exact ⟨o, e, fun v z => by rw [d] at z; cases z⟩
  keep := fun i h h' st k => st.at fun o e => k it (by simp) o e
  item := by
    intro X hP hw hK hc i pins s σ H E I hf st hg
    subst hP hw hK
    obtain ⟨xs, x, hq, hx⟩ := hg
    obtain ⟨its, rv, p, hz⟩ := I.list hq
    obtain ⟨u, hu, ru⟩ := rv.get hx
    obtain ⟨f0, f1, f2, f3, f4, f5⟩ := hf it (by simp)
    refine wpAny_pyNext_list_item st p.isList (x := u) (by simpa using hu) fun h' st' sb => ?_
    have I1 : Inv X pins σ H { s with heap := h' } := I.turned (t' := s.toks) (fun b o hb e => (sb.2 b hb).trans e) f0 f1 f3 f4 f5
    obtain ⟨o, e, c, d⟩ := id st'
    exact ⟨u, rfl, go_of (s := { s with heap := h' }) e c d (by decide) ⟨x, H, I1, ru, ⟨rfl, fun ys hy => by rw [I.list_inj hy hq]; exact hx⟩, st', fun b hb => (hf b hb).1⟩⟩
  done := by
    intro X hP hw hK hc i pins s σ H E I hf st hg
    subst hP hw hK
    obtain ⟨xs, hq, hx⟩ := hg
    obtain ⟨its, rv, p, hz⟩ := I.list hq
    obtain ⟨f0, f1, f2, f3, f4, f5⟩ := hf it (by simp)
    have hl := rv.length
    exact wpAny_pyNext_list_end (I.ok.hd hc) st p.isList (by simp; omega) fun h' eb => ⟨rfl, I.turned (t' := s.toks) (fun b o hb e => eb b o hb e) f0 f1 f3 f4 f5⟩
  self := fun _ _ _ _ _ st h => wpAny_pyIter_listiter st h
theorem turn_range {P : Program} {w : World} {K : PySem.W.Frag} {tg : Expr} (it : Addr) (lo : Int) (n : Nat) : Turn P w K tg (Itr lo n) [it] it (fun i h => IsRangeIter h it (lo + (i : Nat) * 1) ((n : Int) - (i : Nat)) 1) where
  mem := by simp
  obj := fun i h st b hb => by
    have e : b = it := by simpa using hb
    subst e
    exact ⟨_, st, fun v z => by
      have z' : Data.fields _ = Data.cell v := z
      cases z'⟩
  keep := fun i h h' st k => k it (by simp) _ st
  item := by
    intro X hP hw hK hc i pins s σ H E I hf st hg
    subst hP hw hK
    obtain ⟨f0, f1, f2, f3, f4, f5⟩ := hf it (by simp)
    have W := Walks.range (prog := X.prog) (w := X.w) (I.ok.hd hc) it lo 1 n
    refine W.item i s _ _ hg st fun v h' tk hv st' kk => ?_
    obtain ⟨t, rfl⟩ := hv
    have I1 : Inv X pins σ H { s with heap := h', toks := tk } := I.turned (fun b o hb e => kk b o (by simpa using hb) e) f0 f1 f3 f4 f5
    refine ⟨_, rfl, go_of (s := { s with heap := h', toks := tk }) (n := "range_iterator") st' rfl rfl (by decide) ⟨.int (lo + i), H, I1, ⟨t, ?_⟩, ⟨rfl, rfl⟩, st', fun b hb => (hf b hb).1⟩⟩
    rw [Int.mul_one]
  done := by
    intro X hP hw hK hc i pins s σ H E I hf st hg
    subst hP hw hK
    obtain ⟨f0, f1, f2, f3, f4, f5⟩ := hf it (by simp)
    exact wpAny_pyNext_range_end (I.ok.hd hc) st (by have : n ≤ i := hg; omega) fun h' eb => ⟨rfl, I.turned (t' := s.toks) (fun b o hb e => eb b o hb e) f0 f1 f3 f4 f5⟩
  self := fun _ _ _ _ _ st h => wpAny_pyIter_rangeiter st h
end L2

namespace L2
open PySem PySem.Spec PyProof.Rows
section
variable {X : Cx} {tg : Expr}
def iList (K : PySem.W.Frag) (tl : TE) : TI := fun σ H R => tl σ H fun x H1 => ∃ a, x = .ref a ∧ (∃ xs, SqL K H1 a xs) ∧ R (Itl K a) H1
theorem pi_list {l : Expr} {tl : TE} (hl : PE X l tl) : PI X tg l (iList X.K tl) := by
  intro pins s σ H R I h
  refine thn (hl pins s σ H _ I h) fun v s1 ⟨x, H1, I1, r1, q1⟩ => ?_
  obtain ⟨a, e, ⟨xs, hq⟩, q⟩ := q1
  subst e
  cases r1
  obtain ⟨its, rv, p, hz⟩ := I1.list hq
  refine wpAny_pyIter_list p.isList ?_
  refine ⟨s1.heap.objs.size, [s1.heap.objs.size], _, _, H1, rfl, I1.kept (t' := s1.toks) fun b o e => Heap.get?_push_of_some _ e, turn_list a _, ⟨_, Heap.get?_push_size _ rfl, rfl, rfl⟩, fun b hb => ?_, q⟩
  have e : b = s1.heap.objs.size := by simpa using hb
  subst e
  exact I1.fpOk (Nat.le_refl _) (I1.hok.fresh (Nat.le_refl _))
/-- a range object just made, walked -/
theorem range_it {pins : List (Addr × Obj)} {σ : St} {H : Hp} {s : Shared} {R : It → Hp → Prop} {E : Value → Shared → Prop} {lo hi : Int} {t u v : Tok} {tk : Nat} (I : Inv X pins σ H s) (h1 : -(2 ^ 62) ≤ lo) (h2 : lo < 2 ^ 62) (h3 : -(2 ^ 62) ≤ hi) (h4 : hi < 2 ^ 62)
    (q : R (Itr lo (hi - lo).toNat) H) : wpAny (model X.prog X.w) X.A (pyIter (.ref s.heap.objs.size)) (PIE X pins σ tg R) E { s with heap := s.heap.push { cls := .type "range", data := .fields #[.int lo t, .int hi u, .int 1 v] }, toks := tk } := by
  refine wpAny_pyIter_range (IsRange.new ..) (small_one h1 h2 h3 h4) ?_
  have I1 : Inv X pins σ H { s with heap := s.heap.push { cls := .type "range", data := .fields #[.int lo t, .int hi u, .int 1 v] }, toks := tk } := I.kept fun b o e => Heap.get?_push_of_some _ e
  refine ⟨(s.heap.push { cls := .type "range", data := .fields #[.int lo t, .int hi u, .int 1 v] }).objs.size, [(s.heap.push { cls := .type "range", data := .fields #[.int lo t, .int hi u, .int 1 v] }).objs.size], _, _, H, rfl,
    I1.kept (t' := tk) fun b o e => Heap.get?_push_of_some _ e, turn_range _ lo (hi - lo).toNat, ?_, fun b hb => ?_, q⟩
  · have e1 : lo + ((0 : Nat) : Int) * 1 = lo := by simp
    have e2 : (((hi - lo).toNat : Nat) : Int) - ((0 : Nat) : Int) = Builtin.Range.rangeSize lo hi 1 := by rw [rangeSize_one]; split <;> omega
    show IsRangeIter _ _ (lo + ((0 : Nat) : Int) * 1) ((((hi - lo).toNat : Nat) : Int) - ((0 : Nat) : Int)) 1
    rw [e1, e2]
    exact Heap.get?_push_size _ rfl
  · have e : b = (s.heap.push { cls := .type "range", data := .fields #[.int lo t, .int hi u, .int 1 v] }).objs.size := by simpa using hb
    subst e
    exact I1.fpOk (Nat.le_refl _) (I1.hok.fresh (Nat.le_refl _))
def iRng1 (ta : TA) : TI := fun σ H R => ta σ H fun vs H1 => ∃ j : Int, vs = [.int j] ∧ -(2 ^ 62) ≤ j ∧ j < 2 ^ 62 ∧ R (Itr 0 j.toNat) H1
def iRng2 (ta : TA) : TI := fun σ H R => ta σ H fun vs H1 => ∃ i j : Int, vs = [.int i, .int j] ∧ (-(2 ^ 62) ≤ i ∧ i < 2 ^ 62 ∧ -(2 ^ 62) ≤ j ∧ j < 2 ^ 62) ∧ R (Itr i (j - i).toNat) H1
theorem pi_range1 {a : Expr} {ta : TA} {p pos : Pos} (hg : Gl X "range") (hm : X.mg "range" = none) (ha : PA X [a] ta) (hs : starEach [a] X.env = [(false, eval a X.env)] := by rfl) : PI X tg (.Call (.Name "range" p) [a] [] pos) (iRng1 ta) := by
  intro pins s σ H R I h
  refine Call_ (ld_blt I hg hm boot_range (PyProof.Rows.callWith_type1 (thn (ha pos pins s σ H _ I h) fun us s1 ⟨vs, H1, I1, r1, q1⟩ => ?_) hs rfl))
  obtain ⟨j, e, q1, q2, q⟩ := q1
  subst e
  cases r1 with
  | cons r rr =>
    cases rr
    obtain ⟨t, rfl⟩ := r
    exact call_range_1 (range_it I1 (by omega) (by omega) q1 q2 (by simpa using q))
theorem pi_range2 {a b : Expr} {ta : TA} {p pos : Pos} (hg : Gl X "range") (hm : X.mg "range" = none) (ha : PA X [a, b] ta) (hs : starEach [a, b] X.env = [(false, eval a X.env), (false, eval b X.env)] := by rfl) (hs2 : starEach [b] X.env = [(false, eval b X.env)] := by rfl) :
    PI X tg (.Call (.Name "range" p) [a, b] [] pos) (iRng2 ta) := by
  intro pins s σ H R I h
  refine Call_ (ld_blt I hg hm boot_range (PyProof.Rows.callWith_type1 (thn (ha pos pins s σ H _ I h) fun us s1 ⟨vs, H1, I1, r1, q1⟩ => ?_) (by rw [hs, hs2]) (by rw [hs2]; rfl)))
  obtain ⟨i, j, e, ⟨q1, q2, q3, q4⟩, q⟩ := q1
  subst e
  cases r1 with
  | cons r rr =>
    cases rr with
    | cons r' rr =>
      cases rr
      obtain ⟨t, rfl⟩ := r
      obtain ⟨t', rfl⟩ := r'
      exact call_range_2 (range_it I1 q1 q2 q3 q4 q)

/-! ### for -/
/-- W: the invariant by the turn and a measure; N: what the body is to reach -/
def tFor (wi : TI) (g : TG) (tb : TS) : TS := fun D σ H => wi σ H fun J H1 => ∃ W : Nat → Nat → St → Hp → Prop, (∃ m, W 0 m σ H1) ∧ ∀ i m σ H, W i m σ H →
  (J.stop i H ∧ D.nx σ H) ∨ (J.go i H ∧ ∃ N : St → Hp → Prop, (∀ σ' H', N σ' H' → ∃ m', m' < m ∧ W (i + 1) m' σ' H') ∧ ∀ x H', J.yld i H x H' → g x σ H' fun σ2 H2 => tb { D with nx := N, ct := N, bk := D.nx } σ2 H2)
/-- the records at fp as they stand -/
def pinsAt (fp : List Addr) (h : Heap) : List (Addr × Obj) := fp.filterMap fun b => (h.get? b).map fun o => (b, o)
theorem mem_pinsAt {fp : List Addr} {h : Heap} {b : Addr} {o : Obj} (hb : b ∈ fp) (e : h.get? b = some o) : (b, o) ∈ pinsAt fp h := List.mem_filterMap.mpr ⟨b, hb, by rw [e]; rfl⟩
theorem of_pinsAt {fp : List Addr} {h : Heap} {p : Addr × Obj} (hp : p ∈ pinsAt fp h) : p.1 ∈ fp ∧ h.get? p.1 = some p.2 := by
  obtain ⟨b, hb, e⟩ := List.mem_filterMap.mp hp
  cases q : h.get? b with
  | none => rw [q] at e; cases e
  | some o =>
    rw [q] at e
    have e' : (b, o) = p := Option.some.inj e
    subst e'
    exact ⟨hb, q⟩
theorem Inv.pinned {pins : List (Addr × Obj)} {σ : St} {H : Hp} {s : Shared} {fp : List Addr} (I : Inv X pins σ H s) (hf : ∀ b ∈ fp, FpOk X pins H b) (ho : ∀ b ∈ fp, ∃ o, s.heap.get? b = some o ∧ ∀ v, o.data ≠ .cell v) : Inv X (pins ++ pinsAt fp s.heap) σ H s :=
  I.pins_of fun p hp => (List.mem_append.mp hp).elim (fun z => I.pin p (List.mem_append_right _ z)) fun z => by
    obtain ⟨hb, e⟩ := of_pinsAt z
    obtain ⟨f0, f1, f2, _⟩ := hf p.1 hb
    obtain ⟨o, e', d⟩ := ho p.1 hb
    rw [e] at e'; cases e'
    exact ⟨e, f0, f1, f2, d⟩
theorem Inv.unpinned {pins pl : List (Addr × Obj)} {σ : St} {H : Hp} {s : Shared} (I : Inv X (pins ++ pl) σ H s) : Inv X pins σ H s := I.pins_of fun p hp => I.pin p (List.mem_append_right _ (List.mem_append_left _ hp))
theorem ps_for {iter : Expr} {body : List Stmt} {wi : TI} {g : TG} {tb : TS} {pos : Pos} (hp : PassesOwn (model X.prog X.w) X.A X.env X.xe) (hc : X.calm = true) (hi : PI X tg iter wi) (hg : PG X tg g) (hb : PSs X body tb)
    (hs : ∀ x, foldedSetIterable iter X.env x = pure x := by intro _; rfl) : PS X (.For tg iter body [] pos) (tFor wi g tb) := by
  intro pins s σ H D I h
  refine wpAny_For (thn (hi pins s σ H _ I h) fun v s1 h1 => thn h1 fun itv s2 h2 => ?_) hs
  obtain ⟨it, fp, tn, J, H2, e, I2, T, st2, f2, W, ⟨m0, w0⟩, turn⟩ := h2
  subst e
  -- what stays true of the iterator's objects through the loop
  have stat : ∀ {H' : Hp}, (∀ b ∈ fp, H' b = none) → ∀ b ∈ fp, FpOk X pins H' b := fun hn b hb => ⟨hn b hb, (f2 b hb).2⟩
  refine codeAny_forLoop_any (fun n s' => ∃ i σ' H', Inv X pins σ' H' s' ∧ tn i s'.heap ∧ (∀ b ∈ fp, H' b = none) ∧ W i n σ' H') ?_ m0 ⟨0, σ, H2, I2, st2, fun b hb => (f2 b hb).1, w0⟩
  rintro n s3 ⟨i, σ3, H3, I3, st3, fr3, w3⟩
  rcases turn i n σ3 H3 w3 with ⟨stop, qn⟩ | ⟨go, N, hN, step⟩
  · refine wpAny_passesOwn hp (thn (T.done X rfl rfl rfl hc i pins s3 σ3 H3 X.xe I3 (stat fr3) st3 stop) fun r s4 ⟨hr, I4⟩ => ?_)
    subst hr
    exact wpAny_execs_nil ⟨σ3, H3, I4, qn⟩
  · refine wpAny_passesOwn hp (thn (T.item X rfl rfl rfl hc i pins s3 σ3 H3 X.xe I3 (stat fr3) st3 go) fun r s4 ⟨u, hr, h4⟩ => ?_)
    subst hr
    refine wpAny_passesOwn hp (thn h4 fun _ s5 ⟨x, H5, I5, r5, y5, st5, fr5⟩ => ?_)
    have I5' := I5.pinned (stat fr5) (T.obj _ _ st5)
    refine wpAny_passesOwn hp (thn (hg _ s5 σ3 H5 x u _ I5' r5 (step x H5 y5)) fun _ s6 ⟨σ6, H6, I6, q6⟩ => ?_)
    refine wpAny_passesOwn hp (thn (hb _ s6 σ6 H6 _ I6 q6) fun f s7 q7 => ?_)
    have again : ∀ {σ7 : St} {H7 : Hp}, Inv X (pins ++ pinsAt fp s5.heap) σ7 H7 s7 → N σ7 H7 → ∃ m, m < n ∧ ∃ i σ' H', Inv X pins σ' H' s7 ∧ tn i s7.heap ∧ (∀ b ∈ fp, H' b = none) ∧ W i m σ' H' := fun {σ7 H7} I7 n7 => by
      obtain ⟨m', hm, w7⟩ := hN σ7 H7 n7
      refine ⟨m', hm, i + 1, σ7, H7, I7.unpinned, T.keep _ _ _ st5 fun b hb o e => (I7.pin (b, o) (List.mem_append_right _ (List.mem_append_right _ (mem_pinsAt hb e)))).1, fun b hb => ?_, w7⟩
      obtain ⟨o, e, d⟩ := T.obj _ _ st5 b hb
      exact (I7.pin (b, o) (List.mem_append_right _ (List.mem_append_right _ (mem_pinsAt hb e)))).2.1
    cases f with
    | next => obtain ⟨σ7, H7, I7, n7⟩ := q7; exact again I7 n7
    | cont => obtain ⟨σ7, H7, I7, n7⟩ := q7; exact again I7 n7
    | brk => obtain ⟨σ7, H7, I7, q7⟩ := q7; exact ⟨σ7, H7, I7.unpinned, q7⟩
    | ret v => obtain ⟨x7, σ7, H7, I7, r7, q7⟩ := q7; exact ⟨x7, σ7, H7, I7.unpinned, r7, q7⟩
end

/-! ### the forms one uses -/
/-- over a list that the body leaves as it is -/
theorem for_list {K : PySem.W.Frag} {a : Addr} {xs : List V} {g : TG} {tb : TS} {D : Ends} {σ : St} {H : Hp} (Pv : Nat → St → Hp → Prop) (h0 : Pv 0 σ H) (hl : ∀ i σ H, i ≤ xs.length → Pv i σ H → SqL K H a xs)
    (hs : ∀ i x σ H, xs[i]? = some x → Pv i σ H → g x σ H fun σ2 H2 => tb { D with nx := Pv (i + 1), ct := Pv (i + 1), bk := D.nx } σ2 H2) (hd : ∀ σ H, Pv xs.length σ H → D.nx σ H) :
    ∃ W : Nat → Nat → St → Hp → Prop, (∃ m, W 0 m σ H) ∧ ∀ i m σ H, W i m σ H →
      ((Itl K a).stop i H ∧ D.nx σ H) ∨ ((Itl K a).go i H ∧ ∃ N : St → Hp → Prop, (∀ σ' H', N σ' H' → ∃ m', m' < m ∧ W (i + 1) m' σ' H') ∧ ∀ x H', (Itl K a).yld i H x H' → g x σ H' fun σ2 H2 => tb { D with nx := N, ct := N, bk := D.nx } σ2 H2) := by
  refine ⟨fun i m σ H => m = xs.length - i ∧ i ≤ xs.length ∧ Pv i σ H, ⟨xs.length, by simp, Nat.zero_le _, h0⟩, ?_⟩
  rintro i m σ H ⟨rfl, hi, p⟩
  have q := hl i σ H hi p
  by_cases hlt : i < xs.length
  · refine .inr ⟨⟨xs, xs[i], q, by simp [hlt]⟩, Pv (i + 1), fun σ' H' p' => ⟨xs.length - (i + 1), by omega, rfl, hlt, p'⟩, fun x H' y => ?_⟩
    obtain ⟨e, y⟩ := y
    subst e
    exact hs i x σ _ (y xs q) p
  · have e : i = xs.length := by omega
    subst e
    exact .inl ⟨⟨xs, q, Nat.le_refl _⟩, hd σ H p⟩
theorem for_range {lo : Int} {n : Nat} {g : TG} {tb : TS} {D : Ends} {σ : St} {H : Hp} (Pv : Nat → St → Hp → Prop) (h0 : Pv 0 σ H)
    (hs : ∀ i σ H, i < n → Pv i σ H → g (.int (lo + i)) σ H fun σ2 H2 => tb { D with nx := Pv (i + 1), ct := Pv (i + 1), bk := D.nx } σ2 H2) (hd : ∀ σ H, Pv n σ H → D.nx σ H) :
    ∃ W : Nat → Nat → St → Hp → Prop, (∃ m, W 0 m σ H) ∧ ∀ i m σ H, W i m σ H →
      ((Itr lo n).stop i H ∧ D.nx σ H) ∨ ((Itr lo n).go i H ∧ ∃ N : St → Hp → Prop, (∀ σ' H', N σ' H' → ∃ m', m' < m ∧ W (i + 1) m' σ' H') ∧ ∀ x H', (Itr lo n).yld i H x H' → g x σ H' fun σ2 H2 => tb { D with nx := N, ct := N, bk := D.nx } σ2 H2) := by
  refine ⟨fun i m σ H => m = n - i ∧ i ≤ n ∧ Pv i σ H, ⟨n, by simp, Nat.zero_le _, h0⟩, ?_⟩
  rintro i m σ H ⟨rfl, hi, p⟩
  by_cases hlt : i < n
  · refine .inr ⟨hlt, Pv (i + 1), fun σ' H' p' => ⟨n - (i + 1), by omega, rfl, hlt, p'⟩, fun x H' y => ?_⟩
    obtain ⟨e, y⟩ := y
    subst e y
    exact hs i σ _ hlt p
  · have e : i = n := by omega
    subst e
    exact .inl ⟨Nat.le_refl _, hd σ H p⟩
end L2

namespace L2
open PySem PySem.Spec PyProof.Rows

abbrev R2 := V → V → Hp → VK → Prop
/-- a two-place operation on values: f is binaryOp op, inplaceOp op or compareOp op -/
def OpR (X : Cx) (f : Value → Value → Sem Value) (r : R2) : Prop :=
  ∀ (pins : List (Addr × Obj)) (s : Shared) (σ : St) (H : Hp) (x y : V) (v u : Value) (Q : VK), Inv X pins σ H s → RelV x v → RelV y u → r x y H Q →
    wpAny (model X.prog X.w) X.A (f v u) (EP X pins σ Q) X.xe s
/-- a one-place operation -/
def UnR (X : Cx) (f : Value → Sem Value) (r : V → Hp → VK → Prop) : Prop :=
  ∀ (pins : List (Addr × Obj)) (s : Shared) (σ : St) (H : Hp) (x : V) (v : Value) (Q : VK), Inv X pins σ H s → RelV x v → r x H Q →
    wpAny (model X.prog X.w) X.A (f v) (EP X pins σ Q) X.xe s
/-- a call of a value that is known (a builtin, a type) with values -/
def CallR (X : Cx) (f : Value) (r : List V → Hp → VK → Prop) : Prop :=
  ∀ (pins : List (Addr × Obj)) (s : Shared) (σ : St) (H : Hp) (xs : List V) (us : List Value) (Q : VK), Inv X pins σ H s → Vals xs us → r xs H Q →
    wpAny (model X.prog X.w) X.A (call f us) (EP X pins σ Q) X.xe s
def tOp (r : R2) (ta tb : TE) : TE := fun σ H Q => ta σ H fun x H1 => tb σ H1 fun y H2 => r x y H2 Q
def tUn (r : V → Hp → VK → Prop) (ta : TE) : TE := fun σ H Q => ta σ H fun x H1 => r x H1 Q
/-- ints in, under C, and a value out -/
def rI (C : Int → Int → Prop) (g : Int → Int → V) : R2 := fun x y H Q => ∃ i j, x = .int i ∧ y = .int j ∧ C i j ∧ Q (g i j) H
def rI0 (g : Int → Int → V) : R2 := fun x y H Q => ∃ i j, x = .int i ∧ y = .int j ∧ Q (g i j) H
def rU (g : Int → V) : V → Hp → VK → Prop := fun x H Q => ∃ i, x = .int i ∧ Q (g i) H

section
variable {X : Cx} {a b c : Expr} {ta tb tc : TE} {pos : Pos}

theorem binT (ha : PE X a ta) (hb : PE X b tb) {pins : List (Addr × Obj)} {s : Shared} {σ : St} {H : Hp} {R : V → V → Hp → Prop} (I : Inv X pins σ H s)
    (h : ta σ H fun x H1 => tb σ H1 fun y H2 => R x y H2) {Q : Value → Shared → Prop} {f : Value → Value → Sem Value}
    (hf : ∀ v u s2 x y H2, Inv X pins σ H2 s2 → RelV x v → RelV y u → R x y H2 → wpAny (model X.prog X.w) X.A (f v u) Q X.xe s2) :
    wpAny (model X.prog X.w) X.A (eval a X.env) (fun v s₁ => wpAny (model X.prog X.w) X.A (eval b X.env) (fun u s₂ => wpAny (model X.prog X.w) X.A (f v u) Q X.xe s₂) X.xe s₁) X.xe s := by
  refine thn (ha pins s σ H _ I h) fun v s1 ⟨x, H1, I1, r1, q1⟩ => ?_
  refine thn (hb pins s1 σ H1 _ I1 q1) fun u s2 ⟨y, H2, I2, r2, q2⟩ => ?_
  exact hf v u s2 x y H2 I2 r1 r2 q2

theorem pe_op {op : Operator} {r : R2} (ho : OpR X (binaryOp op) r) (ha : PE X a ta) (hb : PE X b tb) : PE X (.BinOp a op b pos) (tOp r ta tb) := by
  intro pins s σ H Q I h
  exact wpAny_BinOp (binT ha hb I h fun v u s2 x y H2 I2 rx ry q => ho pins s2 σ H2 x y v u Q I2 rx ry q)
theorem pe_un {op : UnaryOp} {r : V → Hp → VK → Prop} (ho : UnR X (unaryOp op) r) (ha : PE X a ta) : PE X (.UnaryOp op a pos) (tUn r ta) := by
  intro pins s σ H Q I h
  exact UnaryOp_ (thn (ha pins s σ H _ I h) fun v s1 ⟨x, H1, I1, r1, q1⟩ => ho pins s1 σ H1 x v Q I1 r1 q1)
/-! ### ints -/
theorem opI {f : Value → Value → Sem Value} {C : Int → Int → Prop} {g : Int → Int → Int}
    (rule : ∀ (i j : Int) (t u : Tok) (s : Shared) (Q : Value → Shared → Prop) (E : Value → Shared → Prop), C i j → Q (.int (g i j) s.toks) { s with toks := s.toks + 1 } → wpAny (model X.prog X.w) X.A (f (.int i t) (.int j u)) Q E s) :
    OpR X f (rI C fun i j => .int (g i j)) := by
  intro pins s σ H x y v u Q I rx ry h
  obtain ⟨i, j, rfl, rfl, hc, q⟩ := h
  obtain ⟨t, rfl⟩ := rx
  obtain ⟨t', rfl⟩ := ry
  exact rule i j t t' s _ _ hc ⟨.int (g i j), H, I.tok _, ⟨_, rfl⟩, q⟩
theorem opI0 {f : Value → Value → Sem Value} {g : Int → Int → Int}
    (rule : ∀ (i j : Int) (t u : Tok) (s : Shared) (Q : Value → Shared → Prop) (E : Value → Shared → Prop), Q (.int (g i j) s.toks) { s with toks := s.toks + 1 } → wpAny (model X.prog X.w) X.A (f (.int i t) (.int j u)) Q E s) :
    OpR X f (rI0 fun i j => .int (g i j)) := by
  intro pins s σ H x y v u Q I rx ry h
  obtain ⟨i, j, rfl, rfl, q⟩ := h
  obtain ⟨t, rfl⟩ := rx
  obtain ⟨t', rfl⟩ := ry
  exact rule i j t t' s _ _ ⟨.int (g i j), H, I.tok _, ⟨_, rfl⟩, q⟩
theorem opB0 {f : Value → Value → Sem Value} {g : Int → Int → Bool}
    (rule : ∀ (i j : Int) (t u : Tok) (s : Shared) (Q : Value → Shared → Prop) (E : Value → Shared → Prop), Q (.bool (g i j)) s → wpAny (model X.prog X.w) X.A (f (.int i t) (.int j u)) Q E s) :
    OpR X f (rI0 fun i j => .bl (g i j)) := by
  intro pins s σ H x y v u Q I rx ry h
  obtain ⟨i, j, rfl, rfl, q⟩ := h
  obtain ⟨t, rfl⟩ := rx
  obtain ⟨t', rfl⟩ := ry
  exact rule i j t t' s _ _ ⟨.bl (g i j), H, I, rfl, q⟩

def CDiv (i j : Int) : Prop := 0 < j ∧ j < 1073741824
def CPow (i j : Int) : Prop := 0 ≤ j ∧ j ≤ 1000000 ∧ i.natAbs < 2 ^ 64
def CMul (i j : Int) : Prop := (-(2 ^ 64) < i ∧ i < 2 ^ 64) ∨ (-(2 ^ 64) < j ∧ j < 2 ^ 64)
theorem CMul.ok {i j : Int} (h : CMul i j) : IntMulOk i j := by
  rcases h with ⟨h1, h2⟩ | ⟨h1, h2⟩
  · exact .of_left (intBits_le_64 h1 h2)
  · exact .of_right (intBits_le_64 h1 h2)
theorem op_add : OpR X (binaryOp .Add) (rI0 fun i j => .int (i + j)) := opI0 fun _ _ _ _ _ _ _ q => add_int q
theorem op_sub : OpR X (binaryOp .Sub) (rI0 fun i j => .int (i - j)) := opI0 fun _ _ _ _ _ _ _ q => sub_int q
theorem op_mul : OpR X (binaryOp .Mult) (rI CMul fun i j => .int (i * j)) := opI fun _ _ _ _ _ _ _ hc q => mul_int q hc.ok
/-- // by a positive divisor -/
theorem op_fdiv : OpR X (binaryOp .FloorDiv) (rI CDiv fun i j => .int (i / j)) := opI fun i j _ _ _ _ _ hc q => by
  have h1 : (0 : Int) < j := hc.1
  have h2 : j < 1073741824 := hc.2
  exact floordiv_int (by omega) (by rw [Int.fdiv_eq_ediv_of_nonneg i (by omega)]; exact q) (.inl (PyProof.noPylong_small (by omega)))
/-- % by a positive divisor of any size -/
theorem op_mod : OpR X (binaryOp .Mod) (rI (fun _ j => 0 < j) fun i j => .int (i % j)) := opI fun i j _ _ _ _ _ hc q => by
  have h1 : (0 : Int) < j := hc
  exact mod_int' (by omega) (by rw [Int.fmod_eq_emod_of_nonneg i (by omega)]; exact q)
theorem op_pow : OpR X (binaryOp .Pow) (rI CPow fun i j => .int (i ^ j.toNat)) := opI fun _ _ _ _ _ _ _ hc q => pow_int_small hc.1 hc.2.1 hc.2.2 q
theorem unI {f : Value → Sem Value} {g : Int → Int}
    (rule : ∀ (i : Int) (t : Tok) (s : Shared) (Q : Value → Shared → Prop) (E : Value → Shared → Prop), Q (.int (g i) s.toks) { s with toks := s.toks + 1 } → wpAny (model X.prog X.w) X.A (f (.int i t)) Q E s) :
    UnR X f (rU fun i => .int (g i)) := by
  intro pins s σ H x v Q I rx h
  obtain ⟨i, rfl, q⟩ := h
  obtain ⟨t, rfl⟩ := rx
  exact rule i t s _ _ ⟨.int (g i), H, I.tok _, ⟨_, rfl⟩, q⟩
theorem un_neg : UnR X (unaryOp .USub) (rU fun i => .int (-i)) := unI fun _ _ _ _ _ q => neg_int q
/-! ### bools among ints: n += (a < b) -/
end

/-! ### comparisons -/
/-- the scalars that == tells apart as data does -/
def scal : V → V → Bool
  | .non, .non => true | .non, .int _ => true | .int _, .non => true | .non, .bl _ => true | .bl _, .non => true | .non, .str _ => true | .str _, .non => true
  | .int _, .int _ => true | .bl _, .bl _ => true | .str _, .str _ => true | .byt _, .byt _ => true
  | .int _, .str _ => true | .str _, .int _ => true | .bl _, .str _ => true | .str _, .bl _ => true
  | _, _ => false
def rEq : R2 := fun x y H Q => scal x y = true ∧ Q (.bl (decide (x = y))) H
def rNe : R2 := fun x y H Q => scal x y = true ∧ Q (.bl (!decide (x = y))) H

theorem dec_int {i j : Int} : decide (V.int i = V.int j) = (i == j) := by
  rw [Bool.eq_iff_iff]
  simp
theorem dec_bl {i j : Bool} : decide (V.bl i = V.bl j) = (i == j) := by
  rw [Bool.eq_iff_iff]
  simp
theorem dec_str {i j : Str} : decide (V.str i = V.str j) = (i == j) := by
  rw [Bool.eq_iff_iff]
  simp
theorem dec_byt {i j : Array UInt8} : decide (V.byt i = V.byt j) = (i.toList == j.toList) := by
  rw [Bool.eq_iff_iff]
  cases i
  cases j
  simp

section
variable {X : Cx} {a b c : Expr} {ta tb tc : TE} {pos : Pos}
theorem fin_bl {pins : List (Addr × Obj)} {σ : St} {H : Hp} {s : Shared} {Q : VK} {k k' : Bool} (I : Inv X pins σ H s) (q : Q (.bl k) H) (e : k = k') : EP X pins σ Q (.bool k') s := by
  subst e
  exact ⟨.bl k, H, I, rfl, q⟩
theorem op_eq : OpR X (compareOp .Eq) rEq := by
  intro pins s σ H x y v u Q I rx ry h
  obtain ⟨hs, q⟩ := h
  cases x with
  | non =>
    cases rx
    cases y with
    | non => cases ry; exact PySem.EqNone.eq_none_none (fin_bl I q (by simp))
    | bl j => cases ry; exact PySem.EqNone.eq_none_bool (fin_bl I q (by simp))
    | int j => obtain ⟨t', rfl⟩ := ry; exact PySem.EqNone.eq_none_int (fin_bl I q (by simp))
    | str j => obtain ⟨t', rfl⟩ := ry; exact PySem.EqNone.eq_none_str (fin_bl I q (by simp))
    | _ => exact absurd (show false = true from hs) Bool.false_ne_true
  | bl i =>
    cases rx
    cases y with
    | non => cases ry; exact PySem.EqNone.eq_bool_none (fin_bl I q (by simp))
    | bl j => cases ry; exact eq_bool (fin_bl I q dec_bl)
    | str j => obtain ⟨t', rfl⟩ := ry; exact PySem.EqMixed.eq_bool_str (fin_bl I q (by simp))
    | _ => exact absurd (show false = true from hs) Bool.false_ne_true
  | int i =>
    obtain ⟨t, rfl⟩ := rx
    cases y with
    | non => cases ry; exact PySem.EqNone.eq_int_none (fin_bl I q (by simp))
    | int j => obtain ⟨t', rfl⟩ := ry; exact eq_int (fin_bl I q dec_int)
    | str j => obtain ⟨t', rfl⟩ := ry; exact PySem.EqMixed.eq_int_str (fin_bl I q (by simp))
    | _ => exact absurd (show false = true from hs) Bool.false_ne_true
  | str i =>
    obtain ⟨t, rfl⟩ := rx
    cases y with
    | non => cases ry; exact PySem.EqNone.eq_str_none (fin_bl I q (by simp))
    | bl j => cases ry; exact PySem.EqMixed.eq_str_bool (fin_bl I q (by simp))
    | int j => obtain ⟨t', rfl⟩ := ry; exact PySem.EqMixed.eq_str_int (fin_bl I q (by simp))
    | str j => obtain ⟨t', rfl⟩ := ry; exact eq_str (fin_bl I q dec_str)
    | _ => exact absurd (show false = true from hs) Bool.false_ne_true
  | byt i =>
    obtain ⟨t, rfl⟩ := rx
    cases y with
    | byt j => obtain ⟨t', rfl⟩ := ry; exact PySem.W.eq_bytes (fin_bl I q dec_byt)
    | _ => exact absurd (show false = true from hs) Bool.false_ne_true
  | _ => cases y <;> exact absurd (show false = true from hs) Bool.false_ne_true
theorem op_ne : OpR X (compareOp .NotEq) rNe := by
  intro pins s σ H x y v u Q I rx ry h
  obtain ⟨hs, q⟩ := h
  cases x with
  | non =>
    cases rx
    cases y with
    | non => cases ry; exact PySem.EqNone.ne_none_none (fin_bl I q (by simp))
    | bl j => cases ry; exact PySem.EqNone.ne_none_bool (fin_bl I q (by simp))
    | int j => obtain ⟨t', rfl⟩ := ry; exact PySem.EqNone.ne_none_int (fin_bl I q (by simp))
    | str j => obtain ⟨t', rfl⟩ := ry; exact PySem.EqNone.ne_none_str (fin_bl I q (by simp))
    | _ => exact absurd (show false = true from hs) Bool.false_ne_true
  | bl i =>
    cases rx
    cases y with
    | non => cases ry; exact PySem.EqNone.ne_bool_none (fin_bl I q (by simp))
    | bl j => cases ry; exact ne_bool (fin_bl I q (congrArg not dec_bl))
    | str j => obtain ⟨t', rfl⟩ := ry; exact PySem.EqMixed.ne_bool_str (fin_bl I q (by simp))
    | _ => exact absurd (show false = true from hs) Bool.false_ne_true
  | int i =>
    obtain ⟨t, rfl⟩ := rx
    cases y with
    | non => cases ry; exact PySem.EqNone.ne_int_none (fin_bl I q (by simp))
    | int j => obtain ⟨t', rfl⟩ := ry; exact ne_int (fin_bl I q (congrArg not dec_int))
    | str j => obtain ⟨t', rfl⟩ := ry; exact PySem.EqMixed.ne_int_str (fin_bl I q (by simp))
    | _ => exact absurd (show false = true from hs) Bool.false_ne_true
  | str i =>
    obtain ⟨t, rfl⟩ := rx
    cases y with
    | non => cases ry; exact PySem.EqNone.ne_str_none (fin_bl I q (by simp))
    | bl j => cases ry; exact PySem.EqMixed.ne_str_bool (fin_bl I q (by simp))
    | int j => obtain ⟨t', rfl⟩ := ry; exact PySem.EqMixed.ne_str_int (fin_bl I q (by simp))
    | str j => obtain ⟨t', rfl⟩ := ry; exact ne_str (fin_bl I q (congrArg not dec_str))
    | _ => exact absurd (show false = true from hs) Bool.false_ne_true
  | byt i =>
    obtain ⟨t, rfl⟩ := rx
    cases y with
    | byt j => obtain ⟨t', rfl⟩ := ry; exact PySem.W.ne_bytes (fin_bl I q (congrArg not dec_byt))
    | _ => exact absurd (show false = true from hs) Bool.false_ne_true
  | _ => cases y <;> exact absurd (show false = true from hs) Bool.false_ne_true

theorem op_lt : OpR X (compareOp .Lt) (rI0 fun i j => .bl (decide (i < j))) := opB0 fun _ _ _ _ _ _ _ q => lt_int q
theorem op_le : OpR X (compareOp .LtE) (rI0 fun i j => .bl (decide (i ≤ j))) := opB0 fun _ _ _ _ _ _ _ q => le_int q
theorem op_gt : OpR X (compareOp .Gt) (rI0 fun i j => .bl (decide (j < i))) := opB0 fun _ _ _ _ _ _ _ q => gt_int q
/-- two rules for one operation: by cases -/
theorem OpR.or {f : Value → Value → Sem Value} {r r' : R2} (h : OpR X f r) (h' : OpR X f r') : OpR X f (fun x y H Q => r x y H Q ∨ r' x y H Q) := by
  intro pins s σ H x y v u Q I rx ry q
  rcases q with q | q
  · exact h pins s σ H x y v u Q I rx ry q
  · exact h' pins s σ H x y v u Q I rx ry q

theorem nomark (b : Expr) {op : CmpOp} (h : op ≠ .In := by decide) (h2 : op ≠ .NotIn := by decide) : behindInMarks op b = false := by
  have e1 : (op == CmpOp.In) = false := by cases op <;> first | rfl | exact absurd rfl h
  have e2 : (op == CmpOp.NotIn) = false := by cases op <;> first | rfl | exact absurd rfl h2
  cases b <;> simp [behindInMarks, e1, e2]
/-- a comparison as a value; hm: nomark b, or (for in, not in) by with_unfolding_all rfl -/
theorem pe_cmpR {op : CmpOp} {r : R2} (ho : OpR X (compareOp op) r) (ha : PE X a ta) (hb : PE X b tb) (hm : behindInMarks op b = false) : PE X (.Compare a [op] [b] pos) (tOp r ta tb) := by
  intro pins s σ H Q I h
  exact wpAny_Compare1 (binT ha hb I h fun v u s2 x y H2 I2 rx ry q => ho pins s2 σ H2 x y v u Q I2 rx ry q) hm
/-- a reading of a value as a test -/
def tTest (t : TE) : TT := fun σ H Q => t σ H fun x H' => ∃ k, x = .bl k ∧ Q k H'
theorem pt_cmpR {op : CmpOp} {r : R2} (ho : OpR X (compareOp op) r) (ha : PE X a ta) (hb : PE X b tb) (hm : behindInMarks op b = false) : PT X (.Compare a [op] [b] pos) (tTest (tOp r ta tb)) := by
  intro pins s σ H Q I h
  refine wpAny_isTrue_Compare1 (thn (ha pins s σ H _ I h) fun v s1 ⟨x, H1, I1, r1, q1⟩ => thn (hb pins s1 σ H1 _ I1 q1) fun u s2 ⟨y, H2, I2, r2, q2⟩ =>
    thn (ho pins s2 σ H2 x y v u _ I2 r1 r2 q2) fun c s3 ⟨z, H3, I3, r3, k, e, q3⟩ => ?_) hm
  subst e
  cases r3
  exact wpAny_truthy_bool ⟨H3, I3, q3⟩
/-- a op1 b op2 c -/
def tChain (r r' : R2) (ta tb tc : TE) : TE := fun σ H Q => ta σ H fun x H1 => tb σ H1 fun y H2 => r x y H2 fun z H3 => ∃ k, z = .bl k ∧
  (if k = true then tc σ H3 fun w' H4 => r' y w' H4 Q else Q (.bl false) H3)
theorem pt_chain {op op' : CmpOp} {r r' : R2} (ho : OpR X (compareOp op) r) (ho' : OpR X (compareOp op') r') (ha : PE X a ta) (hb : PE X b tb) (hc : PE X c tc)
    (hm : lastMarks [op, op'] [b, c] = false := by with_unfolding_all rfl) : PT X (.Compare a [op, op'] [b, c] pos) (tTest (tChain r r' ta tb tc)) := by
  intro pins s σ H Q I h
  refine isTrue_chain (thn (ha pins s σ H _ I h) fun v s1 ⟨x, H1, I1, r1, q1⟩ => test_link (thn (hb pins s1 σ H1 _ I1 q1) fun u s2 ⟨y, H2, I2, r2, q2⟩ =>
    thn (ho pins s2 σ H2 x y v u _ I2 r1 r2 q2) fun d s3 ⟨z, H3, I3, r3, k, e, q3⟩ => ?_)) hm
  subst e
  cases r3
  refine wpAny_truthy_bool ?_
  cases k with
  | false =>
    obtain ⟨k', e', q'⟩ := q3
    cases e'
    exact ite_ff ⟨H3, I3, q'⟩
  | true =>
    refine ite_tt (test_last (thn (hc pins s3 σ H3 _ I3 q3) fun w' s4 ⟨z', H4, I4, r4, q4⟩ => thn (ho' pins s4 σ H4 y z' u w' _ I4 r2 r4 q4) fun d' s5 ⟨z2, H5, I5, r5, k2, e2, q5⟩ => ?_))
    subst e2
    cases r5
    exact wpAny_truthy_bool ⟨H5, I5, q5⟩

/-! ### truth -/
theorem line63 : (sizeLine : Nat) < 2 ^ 63 := by rw [sizeLine_eq]; decide
/-! ### strs and bytes -/
/-! ### scalar builtins, by CallR -/
theorem vals1 {x : V} {us : List Value} (r : Vals [x] us) : ∃ u, us = [u] ∧ RelV x u := by
  cases r with
  | cons r1 r2 => cases r2; exact ⟨_, rfl, r1⟩
theorem vals2 {x y : V} {us : List Value} (r : Vals [x, y] us) : ∃ u w', us = [u, w'] ∧ RelV x u ∧ RelV y w' := by
  cases r with
  | cons r1 r2 =>
    cases r2 with
    | cons r3 r4 => cases r4; exact ⟨_, _, rfl, r1, r3⟩
theorem call_min2 (hc : X.calm = true) : CallR X (.builtin "min") (fun xs H Q => ∃ i j, xs = [.int i, .int j] ∧ Q (.int (if j < i then j else i)) H) := by
  intro pins s σ H xs us Q I r h
  obtain ⟨i, j, rfl, q⟩ := h
  obtain ⟨u, w', rfl, ⟨t, rfl⟩, ⟨t', rfl⟩⟩ := vals2 r
  refine min_two_ints (I.ok.hd hc) fun h' tk k => ⟨_, H, I.kept k, ?_, q⟩
  by_cases hj : j < i
  · rw [if_pos hj, if_pos hj]; exact ⟨_, rfl⟩
  · rw [if_neg hj, if_neg hj]; exact ⟨_, rfl⟩
theorem call_int1 : CallR X (.type "int") (fun xs H Q => (∃ i, xs = [.int i] ∧ Q (.int i) H) ∨ ∃ k, xs = [.bl k] ∧ Q (.int (if k then 1 else 0)) H) := by
  intro pins s σ H xs us Q I r h
  rcases h with ⟨i, rfl, q⟩ | ⟨k, rfl, q⟩
  · obtain ⟨u, rfl, t, rfl⟩ := vals1 r
    exact call_int_int ⟨.int i, H, I, ⟨_, rfl⟩, q⟩
  · obtain ⟨u, rfl, r1⟩ := vals1 r
    cases r1
    exact call_int_bool ⟨.int (if k then 1 else 0), H, I.tok _, ⟨_, rfl⟩, q⟩
end
end L2

namespace L2
open PySem PySem.Spec PyProof.Rows

/-! ### an instance, its attributes a map -/
structure ObjM (h : Heap) (x dx C : Addr) (mA : Str → Option Value) : Prop where
  obj : h.get? x = some (PySem.W.instObj C dx)
  ns : h.Ns1 dx mA
  ne : dx ≠ x

theorem lookIn_ns {h : Heap} {dx : Addr} {mA : Str → Option Value} (n : h.Ns1 dx mA) : ∃ od, h.get? dx = some od ∧ ∀ name, PySem.W.lookIn name od = some (mA name) := by
  obtain ⟨o, es, ep, ho, hd, hk, _, hm⟩ := n
  refine ⟨o, ho, fun name => ?_⟩
  have e := hm name
  unfold nsFind findBy at e
  rw [← Array.find?_toList] at e
  unfold PySem.W.lookIn
  rw [hd]
  dsimp only
  split
  · rename_i y q
    rw [q] at e
    exact congrArg some e
  · rename_i q
    rw [q] at e
    have a : es.toList.any (·.refKey) = false := by
      rw [List.any_eq_false]
      intro y hy
      obtain ⟨z, t, hkey⟩ := hk y (Array.mem_toList_iff.mp hy)
      simp [DictEntry.refKey, hkey]
    have a' : ¬ es.toList.any (·.refKey) = true := by rw [a]; exact Bool.false_ne_true
    rw [if_neg a']
    exact congrArg some e

theorem ObjM.look {h : Heap} {x dx C : Addr} {mA : Str → Option Value} (I : ObjM h x dx C mA) : ∃ od, PySem.W.InstAt h x (PySem.W.instObj C dx) C (some od) ∧ ∀ name, PySem.W.lookIn name od = some (mA name) :=
  let ⟨od, ho, hl⟩ := lookIn_ns I.ns
  ⟨od, ⟨I.obj, rfl, rfl, ho⟩, hl⟩

section
variable {prog : Program} {w : World} {A : Around} {E : Value → Shared → Prop} {s : Shared} {K : PySem.W.Frag} {x dx C f : Addr} {mA : Str → Option Value} {name : Str} {v : Value}

theorem get_map {expr : Bool} {Q : Value → Shared → Prop} (X : K.In s.heap) (I : ObjM s.heap x dx C mA) (hg : PySem.W.plainGet K C name = true) (hh : PySem.W.hasDictIn K C = true)
    (ha : PySem.W.findIn K (.ref C) name = some none) (hv : mA name = some v) (hv' : PySem.W.handedIn v = true) (h : Q v { s with toks := s.toks + 1 }) :
    wpAny (model prog w) A (getAttr (.ref x) name expr) Q E s := by
  obtain ⟨od, J, hl⟩ := I.look
  exact PySem.W.get_value X J (PySem.W.plainGet_of hg).1 (PySem.W.findObj_own hh ha rfl (by rw [hl, hv])) hv' h

theorem get_meth {pl : Sem Bool} {Q : Value × List Value → Shared → Prop} (X : K.In s.heap) (I : ObjM s.heap x dx C mA) (hg : PySem.W.plainGet K C name = true)
    (hf : PySem.W.findIn K (.ref C) name = some (some (.ref f))) (ht : PySem.W.isFn K (.ref f) = true) (hv : mA name = none) (h : Q (.ref f, [.ref x]) s) :
    wpAny (model prog w) A (getMethod (.ref x) name pl) Q E s := by
  obtain ⟨od, J, hl⟩ := I.look
  exact PySem.W.method_fn X J (PySem.W.plainGet_of hg).1 (PySem.W.plainGet_of hg).2 hf (beq_iff_eq.mp ht) (by show (PySem.W.lookIn name od).map (·.isSome) = some false; rw [hl, hv]; rfl) h

theorem set_map {ns : List Str} {Q : Unit → Shared → Prop} (X : K.In s.heap) (I : ObjM s.heap x dx C mA)
    (hs : PySem.W.findIn K (.ref C) "__setattr__" = some (some (.builtin "object.__setattr__"))) (hp : PySem.W.plainOver K C = true) (ht : PySem.W.takerIn K C name = some none) (hh : PySem.W.hasDictIn K C = true)
    (hw : PySem.Within mA ns) (hsz : ns.length ≤ sizeLine)
    (h : ∀ h', ObjM h' x dx C (fun y => if y = name then some v else mA y) → Heap.SameBut dx s.heap h' → Q () { s with heap := h', toks := s.toks + 2 }) :
    wpAny (model prog w) A (setAttr (.ref x) name v) Q E s := by
  obtain ⟨od, J, hl⟩ := I.look
  refine PySem.W.set_plain X J hs (PySem.W.osa_open (s := { s with toks := s.toks + 1 }) (r := none) X J hp ht fun b => ?_)
  obtain ⟨cd, hc, hd'⟩ := PySem.W.any_some hh
  have hx : s.heap.get? x = some ⟨.ref C, some dx, .plain, #[]⟩ := I.obj
  refine wpAny_bind (wpAny_pure (wpAny_bind (wpAny_bind (wpAny_loadPart hx (wpAny_bind (PySem.W.Looks.here (s := { s with toks := s.toks + 1 }) (PySem.W.looks_clsIn X hc) ?_))))))
  rw [hd']
  refine wpAny_pure (a := some dx) (wpAny_bind (wpAny_pure (wpAny_bind ?_)))
  refine wpAny_nsSet1 (s := { s with toks := s.toks + 1 }) I.ns fun h' hn2 hs2 => ?_
  obtain ⟨oD, esD, epD, hoD, hdD, hcD⟩ := hn2.count (PySem.Within.cons name v hw)
  refine wpAny_bind (wpAny_lookBehind hoD (by rw [hdD]; exact pastItsLine_dict (Nat.le_trans hcD (by rw [List.length_cons]; omega))) ?_)
  exact wpAny_pure (h _ ⟨(hs2.2 _ (Ne.symm I.ne)).trans I.obj, hn2, I.ne⟩ hs2)

/-- C(..): the dict at the heap's end, the instance behind it; then its __init__ -/
theorem make_map {R : Result → Shared → Prop} {vs : List Value} {kw : List (Str × Value)} (X : K.In s.heap) (hm : PySem.W.makesIn K C = true)
    (hi : PySem.W.findIn K (.ref C) "__init__" = some (some (.ref f))) (hf : PySem.W.typeIn K (.ref f) = some (.type "function"))
    (h : codeAny (model prog w) (A.under (.builtin "type.__call__" ⟨.ref C :: vs, kw⟩)) (.call (.ref f) ⟨.ref (s.heap.objs.size + 1) :: vs, kw⟩) (PySem.W.InitBack (s.heap.objs.size + 1) R)
      { s with heap := (s.heap.push PySem.W.emptyDict).push (PySem.W.instObj C s.heap.objs.size) }) :
    codeAny (model prog w) A (.call (.ref C) ⟨vs, kw⟩) R s := by
  obtain ⟨hh, g, d, t, os⟩ := s
  exact PySem.W.make_core (PySem.W.makes_of X hm) (PySem.W.looks_findIn X hi) (fun self => PySem.W.bind_fn X self hf) (.inl rfl) h
end

/-! ### the attributes as a list of pairs -/
def putF (f : Str) (v : V) : List (Str × V) → List (Str × V)
  | [] => [(f, v)]
  | (g, x) :: r => if g = f then (g, v) :: r else (g, x) :: putF f v r
theorem lookup_putF (f g : Str) (v : V) : ∀ fs : List (Str × V), (putF f v fs).lookup g = if g = f then some v else fs.lookup g
  | [] => by
    show List.lookup g [(f, v)] = _
    by_cases h : g = f
    · have hb : (g == f) = true := beq_iff_eq.mpr h
      simp only [List.lookup, hb, if_pos h]
    · have hb : (g == f) = false := beq_eq_false_iff_ne.mpr h
      simp only [List.lookup, hb, if_neg h]
  | (k, x) :: r => by
    have ih := lookup_putF f g v r
    rw [show putF f v ((k, x) :: r) = (if k = f then (k, v) :: r else (k, x) :: putF f v r) from rfl]
    by_cases hk : k = f
    · rw [if_pos hk]
      by_cases h : g = k
      · have hb : (g == k) = true := beq_iff_eq.mpr h
        simp only [List.lookup, hb, if_pos (h.trans hk)]
      · have hb : (g == k) = false := beq_eq_false_iff_ne.mpr h
        simp only [List.lookup, hb, if_neg (fun e : g = f => h (e.trans hk.symm))]
    · rw [if_neg hk]
      by_cases h : g = k
      · have hb : (g == k) = true := beq_iff_eq.mpr h
        simp only [List.lookup, hb, if_neg (fun e : g = f => hk (h.symm.trans e))]
      · have hb : (g == k) = false := beq_eq_false_iff_ne.mpr h
        simp only [List.lookup, hb]
        exact ih
theorem keys_putF (f : Str) (v : V) : ∀ fs : List (Str × V), f ∈ (putF f v fs).map (·.1) ∧ ∀ g, g ∈ fs.map (·.1) → g ∈ (putF f v fs).map (·.1)
  | [] => ⟨by simp [putF], fun g h => by simp at h⟩
  | (k, x) :: r => by
    obtain ⟨i1, i2⟩ := keys_putF f v r
    rw [show putF f v ((k, x) :: r) = (if k = f then (k, v) :: r else (k, x) :: putF f v r) from rfl]
    by_cases hk : k = f
    · rw [if_pos hk]
      subst hk
      exact ⟨by simp, fun g h => by simpa using h⟩
    · rw [if_neg hk]
      refine ⟨?_, fun g h => ?_⟩
      · rw [List.map_cons]
        exact List.mem_cons_of_mem _ i1
      · rw [List.map_cons] at h ⊢
        rcases List.mem_cons.mp h with e | e
        · exact List.mem_cons.mpr (.inl e)
        · exact List.mem_cons_of_mem _ (i2 g e)
theorem length_putF (f : Str) (v : V) : ∀ fs : List (Str × V), (putF f v fs).length ≤ fs.length + 1
  | [] => by simp [putF]
  | (k, x) :: r => by
    have ih := length_putF f v r
    rw [show putF f v ((k, x) :: r) = (if k = f then (k, v) :: r else (k, x) :: putF f v r) from rfl]
    by_cases hk : k = f
    · rw [if_pos hk, List.length_cons, List.length_cons]; omega
    · rw [if_neg hk, List.length_cons, List.length_cons]; omega

theorem RelO.some_of {v : V} {o : Option Value} (r : RelO (some v) o) : ∃ u, o = some u ∧ RelV v u := by
  cases o with
  | none => exact (show False from r).elim
  | some u => exact ⟨u, rfl, r⟩
theorem RelO.none_of {o : Option Value} (r : RelO none o) : o = none := by
  cases o with
  | none => rfl
  | some u => exact (show False from r).elim
theorem handed_of {v : V} {u : Value} (r : RelV v u) : PySem.W.handedIn u = true := by
  cases v with
  | non => cases (show u = Value.none from r); rfl
  | bl b => cases (show u = Value.bool b from r); rfl
  | int i => obtain ⟨t, e⟩ := (show ∃ t, u = Value.int i t from r); cases e; rfl
  | str x => obtain ⟨t, e⟩ := (show ∃ t, u = Value.str x t from r); cases e; rfl
  | byt b => obtain ⟨t, e⟩ := (show ∃ t, u = Value.bytes b t from r); cases e; rfl
  | flt b => obtain ⟨t, e⟩ := (show ∃ t, u = Value.float b t from r); cases e; rfl
  | ref a => cases (show u = Value.ref a from r); rfl
  | ty n => cases (show u = Value.type n from r); rfl

section
variable {P : Program} {w : World} {H H' : Hp} {h h' : Heap} {a C dx : Addr} {fs fs' : List (Str × V)}
theorem ins_get (hok : HOk P w H h) (e : H a = some (.ins C dx fs)) : ∃ mA, ObjM h a dx C mA ∧ (∀ f, RelO (fs.lookup f) (mA f)) ∧ PySem.Within mA (fs.map (·.1)) ∧ fs.length ≤ 1000 ∧ H dx = some (.own a) := by
  obtain ⟨d, z, ne, ob, mA, n, r, q⟩ := (show ObjOk P w H h a (.ins C dx fs) from hok a _ e)
  exact ⟨mA, ⟨ob, n, ne⟩, r, q, z, d⟩
end

/-! ### what of the text a class must have -/
structure Cls (K : PySem.W.Frag) (C : Addr) : Prop where
  pg : PySem.W.plainGet K C Str.empty = true
  hd : PySem.W.hasDictIn K C = true
  po : PySem.W.plainOver K C = true
  sa : PySem.W.findIn K (.ref C) "__setattr__" = some (some (.builtin "object.__setattr__"))
theorem Cls.get {K : PySem.W.Frag} {C : Addr} (c : Cls K C) (f : Str) : PySem.W.plainGet K C f = true := c.pg
/-- no class of it has the name -/
def NoAttr (K : PySem.W.Frag) (C : Addr) (f : Str) : Prop := PySem.W.findIn K (.ref C) f = some none
theorem NoAttr.taker {K : PySem.W.Frag} {C : Addr} {f : Str} (n : NoAttr K C f) : PySem.W.takerIn K C f = some none := by
  unfold PySem.W.takerIn
  rw [show PySem.W.findIn K (.ref C) f = some none from n]
  rfl
/-- a constant of the class -/
structure Con (K : PySem.W.Frag) (C : Addr) (f : Str) (v : V) (u : Value) : Prop where
  at_ : PySem.W.findIn K (.ref C) f = some (some u)
  rel : RelV v u
  get : PySem.W.specialIn K u "__get__" = some none
  cp : PySem.W.copiedNames.contains f = false
/-- a method: a plain def of the class or of one above it -/
structure Meth (K : PySem.W.Frag) (C : Addr) (m : Str) (f : Addr) : Prop where
  at_ : PySem.W.findIn K (.ref C) m = some (some (.ref f))
  fn : PySem.W.isFn K (.ref f) = true
  kp : PySem.W.keepIn K (.ref f) = true

section
variable {X : Cx} {pins : List (Addr × Obj)} {σ : St} {H : Hp} {s : Shared} {a C dx : Addr} {fs : List (Str × V)} {f : Str} {v : V} {A : Around} {E : Value → Shared → Prop}

theorem getattr_ok {b : Bool} {Q : Value → Shared → Prop} (I : Inv X pins σ H s) (e : H a = some (.ins C dx fs)) (c : Cls X.K C) (n : NoAttr X.K C f) (l : fs.lookup f = some v)
    (h : ∀ u s', Inv X pins σ H s' → RelV v u → Q u s') : wpAny (model X.prog X.w) A (getAttr (.ref a) f b) Q E s := by
  obtain ⟨mA, O, r, _, _, _⟩ := ins_get I.hok e
  obtain ⟨u, hu, ru⟩ := RelO.some_of (v := v) (o := mA f) (by rw [← l]; exact r f)
  exact get_map I.kIn O (c.get f) c.hd n hu (handed_of ru) (h u _ (I.tok _) ru)

theorem getmeth_ok {m : Str} {g : Addr} {pl : Sem Bool} {Q : Value × List Value → Shared → Prop} (I : Inv X pins σ H s) (e : H a = some (.ins C dx fs)) (c : Cls X.K C) (k : Meth X.K C m g) (l : fs.lookup m = none)
    (h : Q (.ref g, [.ref a]) s) : wpAny (model X.prog X.w) A (getMethod (.ref a) m pl) Q E s := by
  obtain ⟨mA, O, r, _, _, _⟩ := ins_get I.hok e
  have hn : mA m = none := RelO.none_of (by rw [← l]; exact r m)
  exact get_meth I.kIn O (c.get m) k.at_ k.fn hn h

theorem setattr_ok {y : V} {u : Value} {Q : Unit → Shared → Prop} (I : Inv X pins σ H s) (e : H a = some (.ins C dx fs)) (c : Cls X.K C) (n : NoAttr X.K C f) (hl : fs.length < 1000) (ry : RelV y u)
    (h : ∀ s', Inv X pins σ (upd H a (.ins C dx (putF f y fs))) s' → Q () s') : wpAny (model X.prog X.w) A (setAttr (.ref a) f u) Q E s := by
  obtain ⟨mA, O, r, wi, _, ho⟩ := ins_get I.hok e
  have hz : (fs.map (·.1)).length ≤ sizeLine := by rw [List.length_map, sizeLine_eq]; omega
  refine set_map I.kIn O c.sa c.po n.taker c.hd wi hz fun h' O' sb => h _ ?_
  have hd : ∃ o, h'.get? dx = some o := let ⟨o, _, _, e', _⟩ := O'.ns; ⟨o, e'⟩
  refine I.write (x := a) (e := dx) (by rw [e]; exact True.intro) (.inr ho) (fun b q hb z => (sb.2 b hb).trans z) hd ?_
  refine ⟨by rw [upd_ne O.ne]; exact ho, ?_, O.ne, O'.obj, _, O'.ns, fun g => ?_, fun g hg => ?_⟩
  · have := length_putF f y fs; omega
  · show RelO ((putF f y fs).lookup g) (if g = f then some u else mA g)
    rw [lookup_putF]
    by_cases q : g = f
    · rw [if_pos q, if_pos q]; exact ry
    · rw [if_neg q, if_neg q]; exact r g
  · by_cases q : g = f
    · rw [q]; exact (keys_putF f y fs).1
    · refine (keys_putF f y fs).2 g (wi g fun z => hg ?_)
      show (if g = f then some u else mA g) = none
      rw [if_neg q]; exact z

/-- a new instance, tracked, without attributes -/
theorem Inv.made (I : Inv X pins σ H s) : Inv X pins σ (upd (upd H s.heap.objs.size (.own (s.heap.objs.size + 1))) (s.heap.objs.size + 1) (.ins C s.heap.objs.size []))
    { s with heap := (s.heap.push PySem.W.emptyDict).push (PySem.W.instObj C s.heap.objs.size) } := by
  have e1 : (s.heap.push PySem.W.emptyDict).get? s.heap.objs.size = some PySem.W.emptyDict := Heap.get?_push_size s.heap rfl
  have e2 : ((s.heap.push PySem.W.emptyDict).push (PySem.W.instObj C s.heap.objs.size)).get? (s.heap.objs.size + 1) = some (PySem.W.instObj C s.heap.objs.size) := by
    have := Heap.get?_push_size (s.heap.push PySem.W.emptyDict) (o := PySem.W.instObj C s.heap.objs.size) rfl
    rwa [Heap.size_push] at this
  have e3 : (s.heap.push PySem.W.emptyDict).Ns s.heap.objs.size (fun _ => none) := ⟨PySem.W.emptyDict, #[], _, e1, rfl, (fun e he => absurd he (by simp)), fun _ => rfl⟩
  have I1 := I.laid (a := s.heap.objs.size) (o := .own (s.heap.objs.size + 1)) (h' := s.heap.push PySem.W.emptyDict) (t' := s.toks) (fun b u q => Heap.get?_push_of_some _ q) (Nat.le_refl _) ⟨_, e1⟩
  refine I1.laid (a := s.heap.objs.size + 1) (o := .ins C s.heap.objs.size []) (t' := s.toks) (fun b u q => Heap.get?_push_of_some _ q) (Nat.le_of_eq (Heap.size_push _ _)) ?_
  have ne : s.heap.objs.size ≠ s.heap.objs.size + 1 := Nat.ne_of_lt (Nat.lt_succ_self _)
  refine ⟨by rw [upd_ne ne, upd_same], Nat.zero_le _, ne, e2, fun _ => none, (Heap.Ns1.of_empty e3).at fun o q => Heap.get?_push_of_some _ q, fun _ => True.intro, fun y hy => absurd rfl hy⟩

/-- e.f where nothing but the object is asked: through attributeBase (super) and the last hold -/
theorem attr_of {prog : Program} {w : World} {env : Env} {e : Expr} {f : Str} {pos : Pos} {s : Shared} {Q : Value → Shared → Prop} (hb : attributeBase e f env (eval e env) = eval e env)
    (h : wpAny (model prog w) A (eval e env) (fun o s₁ => wpAny (model prog w) A (getAttr o f true) Q E s₁) E s) : wpAny (model prog w) A (eval (.Attribute e f pos) env) Q E s :=
  Attribute_any_ h (by rw [arm_eval_Attribute, hb])
end

/-! ### readings and rules -/
/-- e.f, an attribute of the instance -/
def tFld (K : PySem.W.Frag) (ta : TE) (f : Str) : TE := fun σ H Q => ta σ H fun x H1 => ∃ a C dx fs v, x = .ref a ∧ H1 a = some (.ins C dx fs) ∧ Cls K C ∧ NoAttr K C f ∧ fs.lookup f = some v ∧ Q v H1
/-- e.f = value -/
def sFld (K : PySem.W.Frag) (ta tv : TE) (f : Str) : TS := fun D σ H => tv σ H fun y H1 => ta σ H1 fun x H2 => ∃ a C dx fs, x = .ref a ∧ H2 a = some (.ins C dx fs) ∧ Cls K C ∧ NoAttr K C f ∧ fs.length < 1000 ∧
  D.nx σ (upd H2 a (.ins C dx (putF f y fs)))
section
variable {X : Cx} {o e value : Expr} {f : Str} {pos pos' tpos : Pos} {ta tv : TE}
theorem pe_fld (he : PE X e ta) (hb : attributeBase e f X.env (eval e X.env) = eval e X.env) : PE X (.Attribute e f pos) (tFld X.K ta f) := by
  intro pins s σ H Q I h
  refine attr_of hb (thn (he pins s σ H _ I h) fun u s1 ⟨x, H1, I1, rx, a, C, dx, fs, v, ex, ea, c, n, l, q⟩ => ?_)
  subst ex
  obtain rfl : u = Value.ref a := rx
  exact getattr_ok I1 ea c n l fun u' s2 I2 ru => ⟨v, H1, I2, ru, q⟩
theorem ps_fld (ha : PE X o ta) (hv : PE X value tv) (hs : swapsWith value (some (.Attribute o f pos')) pos.line X.env = pure false) : PS X (.Assign [.Attribute o f pos'] value pos) (sFld X.K ta tv f) := by
  intro pins s σ H D I h
  refine plainObj_wpAny_Assign_Attribute (thn (hv pins s σ H _ I h) fun u s1 ⟨y, H1, I1, ry, q⟩ => thn (ha pins s1 σ H1 _ I1 q) fun ov s2 ⟨x, H2, I2, rx, a, C, dx, fs, ex, ea, c, n, l, q2⟩ => ?_) hs
  subst ex
  obtain rfl : ov = Value.ref a := rx
  exact setattr_ok I2 ea c n l ry fun s3 I3 => ⟨σ, _, I3, q2⟩
end

/-! ### isinstance -/
section
variable {X : Cx} {pins : List (Addr × Obj)} {σ : St} {H : Hp} {s : Shared} {A : Around} {E : Value → Shared → Prop} {Q : Value → Shared → Prop} {c : Value} {b : Bool}
/-- the type of a value, as the fragment's deciders take it; for an instance its class -/
inductive TyOf (K : PySem.W.Frag) (H : Hp) : V → Value → Prop where
  | non : TyOf K H .non (.type "NoneType")
  | bl (x : Bool) : TyOf K H (.bl x) (.type "bool")
  | int (i : Int) : TyOf K H (.int i) (.type "int")
  | str (x : Str) : TyOf K H (.str x) (.type "str")
  | flt (x : UInt64) : TyOf K H (.flt x) (.type "float")
  | lst {a : Addr} {xs : List V} (e : H a = some (.lst xs)) : TyOf K H (.ref a) (.type "list")
  | frz {a : Addr} {o : Obj} {xs : List V} (e : H a = some (.frz o (.lst xs))) : TyOf K H (.ref a) (.type "list")
  | tup {a : Addr} {xs : List V} (e : H a = some (.tup xs)) : TyOf K H (.ref a) (.type "tuple")
  | dK {a : Addr} {kvs : List (Key × V)} (e : H a = some (.dK kvs)) : TyOf K H (.ref a) (.type "dict")
  | dT {a : Addr} {kvs : List (List Key × V)} (e : H a = some (.dT kvs)) : TyOf K H (.ref a) (.type "dict")
  | ins {a C dx : Addr} {fs : List (Str × V)} (e : H a = some (.ins C dx fs)) (cl : Cls K C) (ha : PySem.W.findIn K (.ref C) "__class__" = some (some (.builtin "object.__class__")))
      (hn : PySem.W.specialIn K (.builtin "object.__class__") "__get__" = some (some (.builtin "getset_descriptor.__get__"))) (htk : PySem.W.takesIn K (.builtin "object.__class__") = some true)
      (hm : PySem.W.mroIn K C (.type "object") = some true) : TyOf K H (.ref a) (.ref C)
/-- isinstance(x, c) for one class c, a built-in or an own one: kitOne's answer -/
theorem isinst_ok {x : V} {u t : Value} (I : Inv X pins σ H s) (rx : RelV x u) (ty : TyOf X.K H x t) (e : PySem.W.kitOne X.K t c = some b) (h : ∀ tk, Q (.bool b) { s with toks := tk }) :
    wpAny (model X.prog X.w) A (call (.builtin "isinstance") [u, c]) Q E s := by
  cases ty with
  | non => cases (show u = Value.none from rx); exact PySem.W.kia_one PySem.W.kitx_none I.kIn True.intro e (fun z => nomatch z) h
  | bl y => cases (show u = Value.bool y from rx); exact PySem.W.kia_one PySem.W.kitx_bool I.kIn True.intro e (fun z => nomatch z) h
  | int i => obtain ⟨t, q⟩ := (show ∃ t, u = Value.int i t from rx); cases q; exact PySem.W.kia_one PySem.W.kitx_int I.kIn True.intro e (fun z => nomatch z) h
  | str y => obtain ⟨t, q⟩ := (show ∃ t, u = Value.str y t from rx); cases q; exact PySem.W.kia_one PySem.W.kitx_str I.kIn True.intro e (fun z => nomatch z) h
  | flt y => obtain ⟨t, q⟩ := (show ∃ t, u = Value.float y t from rx); cases q; exact PySem.W.kia_one PySem.W.kitx_float I.kIn True.intro e (fun z => nomatch z) h
  | @lst a xs ea =>
    cases (show u = Value.ref a from rx)
    obtain ⟨_, _, n, _, h1⟩ := (show ObjOk X.prog X.w H s.heap a (.lst xs) from I.hok a _ ea)
    exact PySem.W.kia_one PySem.W.kitx_list I.kIn ⟨_, h1, rfl⟩ e (fun z => nomatch z) h
  | @frz a ob xs ea =>
    cases (show u = Value.ref a from rx)
    obtain ⟨_, _, _, n, _, h1⟩ := (show ObjOk X.prog X.w H s.heap a (.frz ob (.lst xs)) from I.hok a _ ea)
    exact PySem.W.kia_one PySem.W.kitx_list I.kIn ⟨_, h1, rfl⟩ e (fun z => nomatch z) h
  | @tup a xs ea =>
    cases (show u = Value.ref a from rx)
    obtain ⟨_, _, _, p⟩ := (show ObjOk X.prog X.w H s.heap a (.tup xs) from I.hok a _ ea)
    obtain ⟨o, h1, h2, _⟩ := p
    exact PySem.W.kia_one PySem.W.kitx_tuple I.kIn ⟨o, h1, h2⟩ e (fun z => nomatch z) h
  | @dK a kvs ea =>
    cases (show u = Value.ref a from rx)
    obtain ⟨_, _, vs, _, p⟩ := (show ObjOk X.prog X.w H s.heap a (.dK kvs) from I.hok a _ ea)
    obtain ⟨o, es, ep, h1, h2, _⟩ := p
    exact PySem.W.kia_one PySem.W.kitx_dict I.kIn ⟨o, h1, h2.1⟩ e (fun z => nomatch z) h
  | @dT a kvs ea =>
    cases (show u = Value.ref a from rx)
    obtain ⟨_, _, xs, _, o, es, ep, h1, h2, _⟩ := (show ObjOk X.prog X.w H s.heap a (.dT kvs) from I.hok a _ ea)
    exact PySem.W.kia_one PySem.W.kitx_dict I.kIn ⟨o, h1, h2.1⟩ e (fun z => nomatch z) h
  | @ins a C dx fs ea cl ha hn htk hm =>
    cases (show u = Value.ref a from rx)
    obtain ⟨mA, O, _⟩ := ins_get I.hok ea
    obtain ⟨od, J, _⟩ := O.look
    exact PySem.W.kia_one (PySem.W.kitx_own (cl.get _) cl.hd ha hn htk hm) I.kIn J e (fun z => nomatch z) h
end
end L2

namespace L2
open PySem PySem.Spec PyProof.Rows

/-! ### room -/
structure Room (k : Nat) (A : Around) : Prop where
  hd : A.handled = none
  dp : A.depth + 3 * k + 5 < recursionLimit
  un : A.units + 16 * k + 200 < cLine
theorem Room.mono {j k : Nat} {A : Around} (r : Room k A) (h : j ≤ k) : Room j A := ⟨r.hd, by have := r.dp; omega, by have := r.un; omega⟩
theorem Room.deeper {k : Nat} {A : Around} (r : Room (k + 1) A) (env : Env) : Room k (A.deeper env) :=
  ⟨r.hd, by have := r.dp; show A.depth + 1 + 3 * k + 5 < _; omega, by have := r.un; show A.units + 3 + 16 * k + 200 < _; omega⟩
theorem Room.in1 {k : Nat} {A : Around} (r : Room (k + 1) A) : Room k A.in1 :=
  ⟨r.hd, by have := r.dp; show A.depth + 3 * k + 5 < _; omega, by have := r.un; show A.units + 1 + 16 * k + 200 < _; omega⟩
theorem make_depth {A : Around} {C : Addr} {us : List Value} {kw : List (Str × Value)} : (A.under (.builtin "type.__call__" ⟨.ref C :: us, kw⟩)).depth = A.depth + 1 := by
  first | rfl | simp [Around.under, Code.weight, Code.isCreation, Code.isGuard, Code.isCaller, Code.frames, Code.isFrame, guardIds]
theorem make_units {A : Around} {C : Addr} {us : List Value} {kw : List (Str × Value)} : (A.under (.builtin "type.__call__" ⟨.ref C :: us, kw⟩)).units = A.units + 1 := by
  first | rfl | simp [Around.under, Code.cUnits, Code.frames, Code.isFrame]
theorem Room.make {k : Nat} {A : Around} (r : Room (k + 1) A) (C : Addr) (us : List Value) (kw : List (Str × Value)) : Room k (A.under (.builtin "type.__call__" ⟨.ref C :: us, kw⟩)) :=
  ⟨r.hd, by have := r.dp; rw [make_depth]; omega, by have := r.un; rw [make_units]; omega⟩
theorem Room.depth {k : Nat} {A : Around} (r : Room k A) : A.depth < recursionLimit := by have := r.dp; omega
theorem Room.units {k : Nat} {A : Around} (r : Room k A) : A.units + 64 < cLine := by have := r.un; omega
/-! ### argument lists and displays -/
def tNil : TA := fun _ H Q => Q [] H
def tCons (ta : TE) (tr : TA) : TA := fun σ H Q => ta σ H fun x H1 => tr σ H1 fun xs H2 => Q (x :: xs) H2
section
variable {X : Cx} {e : Expr} {es : List Expr} {te : TE} {t : TA} {pos : Pos}
theorem pa_nil : PA X [] tNil := fun _ _ _ _ H Q I h => Calls.spliced_nil ⟨[], H, I, .nil, h⟩
theorem pa_cons (ha : PE X e te) (hr : PA X es t) (hs : starEach (e :: es) X.env = (false, eval e X.env) :: starEach es X.env := by rfl) : PA X (e :: es) (tCons te t) := by
  intro pos pins s σ H Q I h
  rw [hs]
  show wpAny _ _ (spliced ((false, eval e X.env) :: backTo pos (starEach es X.env))) _ _ s
  refine Calls.spliced_cons (thn (ha pins s σ H _ I h) fun u s1 ⟨x, H1, I1, r1, q1⟩ => ?_)
  exact thn (hr pos pins s1 σ H1 _ I1 q1) fun us s2 ⟨xs, H2, I2, r2, q2⟩ => ⟨x :: xs, H2, I2, .cons r1 r2, q2⟩

/-- a tuple, a list of written items -/
def tTup (t : TA) : TE := fun σ H Q => t σ H fun xs H1 => xs.length ≤ sizeLine ∧ ∀ p, H1 p = none → Q (.ref p) (upd H1 p (.tup xs))
def tLst (t : TA) : TE := fun σ H Q => t σ H fun xs H1 => xs.length ≤ sizeLine ∧ ∀ p, H1 p = none → Q (.ref p) (upd H1 p (.lst xs))
theorem pe_tup {x1} (h : PA X es t) : PE X (.Tuple es x1 pos) (tTup t) := by
  intro pins s σ H Q I hq
  refine wpAny_Tuple_spliced (thn (h pos pins s σ H _ I hq) fun us s1 ⟨xs, H1, I1, r, z, q⟩ => ⟨by rw [← r.length]; exact z, ?_⟩)
  have hf : H1 s1.heap.objs.size = none := I1.hok.fresh (Nat.le_refl _)
  refine ⟨.ref s1.heap.objs.size, upd H1 s1.heap.objs.size (.tup xs), I1.laid (t' := s1.toks) (fun b u e => Heap.get?_push_of_some _ e) (Nat.le_refl _) ?_, rfl, q _ hf⟩
  exact ⟨z, us, r, ⟨_, Heap.get?_push_size _ rfl, rfl, _, rfl⟩⟩
theorem pe_lst (h : PA X es t) : PE X (.List es pos) (tLst t) := by
  intro pins s σ H Q I hq
  refine wpAny_List_spliced (thn (h pos pins s σ H _ I hq) fun us s1 ⟨xs, H1, I1, r, z, q⟩ => ⟨by rw [← r.length]; exact z, ?_⟩)
  have hf : H1 s1.heap.objs.size = none := I1.hok.fresh (Nat.le_refl _)
  refine ⟨.ref s1.heap.objs.size, upd H1 s1.heap.objs.size (.lst xs), I1.laid (t' := s1.toks) (fun b u e => Heap.get?_push_of_some _ e) (Nat.le_refl _) ?_, rfl, q _ hf⟩
  exact ⟨z, us, 0, r, Heap.get?_push_size _ rfl⟩
end

/-! ### what a def promises -/
/-- a def's promise: the bound arguments in the parameters' order, the heap, the wanted end, the wanted exception -/
abbrev Sp := List V → Hp → VK → XK → Prop
/-- how an exception lies behind a call (file 08 gives it): the callers' frames, abstract heap and state ahead of the call, the wish, the exception, the state -/
abbrev CXT := List Env → Hp → Shared → XK → Value → Shared → Prop

/-- the state at a call -/
structure Env0 (P : Program) (w : World) (K : PySem.W.Frag) (mg : Str → Option Value) (base : Heap) (A : Around) (outer : List Env) (s : Shared) (H : Hp) : Prop where
  frames : A.frames = some outer
  mod : Mod K mg base
  bs : ∀ b o, base.get? b = some o → s.heap.get? b = some o ∧ H b = none
  bsz : base.objs.size ≤ s.heap.objs.size
  funs : s.heap.FunFrames base outer
  frf : ∀ b ∈ frs outer, H b = none
  hok : HOk P w H s.heap
  bare : AllBare s.gens
/-- a call's end -/
def CE (outer : List Env) (P : Program) (w : World) (H : Hp) (s : Shared) (Q : VK) (u : Value) (s' : Shared) : Prop :=
  ∃ v H', s'.os = s.os ∧ AllBare s'.gens ∧ Un (frs outer) [] H H' s.heap s'.heap ∧ HOk P w H' s'.heap ∧ RelV v u ∧ Q v H'
def CR (CX : CXT) (outer : List Env) (P : Program) (w : World) (H : Hp) (s : Shared) (Q : VK) (E : XK) (r : Result) (s' : Shared) : Prop :=
  match r with
  | .ok (.ret u) => CE outer P w H s Q u s'
  | .ok _ => False
  | .error e => CX outer H s E e s'
structure FnOk (P : Program) (w : World) (K : PySem.W.Frag) (mg : Str → Option Value) (base : Heap) (CX : CXT) (k : Nat) (f : Addr) (fd : FuncData) (ps : List Str) (sp : Sp) : Prop where
  len : ∀ vs H Q E, sp vs H Q E → vs.length = ps.length
  run : ∀ (A : Around) (outer : List Env) (s : Shared) (H : Hp) (args : Args) (us : List Value) (vs : List V) (Q : VK) (E : XK), Room k A → Env0 P w K mg base A outer s H → BindsTo s fd args (ps.zip us) → Vals vs us → sp vs H Q E →
    codeAny (model P w) A (.call (.ref f) args) (CR CX outer P w H s Q E) s
theorem FnOk.mono {P : Program} {w : World} {K : PySem.W.Frag} {mg : Str → Option Value} {base : Heap} {CX : CXT} {j k : Nat} {f : Addr} {fd : FuncData} {ps : List Str} {sp : Sp} (F : FnOk P w K mg base CX j f fd ps sp) (h : j ≤ k) :
    FnOk P w K mg base CX k f fd ps sp := ⟨F.len, fun A outer s H args us vs Q E hr => F.run A outer s H args us vs Q E (hr.mono h)⟩
/-- a weaker promise -/
theorem FnOk.imp {P : Program} {w : World} {K : PySem.W.Frag} {mg : Str → Option Value} {base : Heap} {CX : CXT} {k : Nat} {f : Addr} {fd : FuncData} {ps : List Str} {sp sp' : Sp} (F : FnOk P w K mg base CX k f fd ps sp)
    (h : ∀ vs H Q E, sp' vs H Q E → sp vs H Q E) : FnOk P w K mg base CX k f fd ps sp' :=
  ⟨fun vs H Q E q => F.len vs H Q E (h _ _ _ _ q), fun A outer s H args us vs Q E hr he hb hv hs => F.run A outer s H args us vs Q E hr he hb hv (h _ _ _ _ hs)⟩

theorem Env0.make {P : Program} {w : World} {K : PySem.W.Frag} {mg : Str → Option Value} {base : Heap} {A : Around} {outer : List Env} {s : Shared} {H : Hp} (e : Env0 P w K mg base A outer s H) (C : Addr) (us : List Value) (kw : List (Str × Value)) :
    Env0 P w K mg base (A.under (.builtin "type.__call__" ⟨.ref C :: us, kw⟩)) outer s H := ⟨by first | exact e.frames | (simpa [Around.under, Code.envs, Code.isFrame, pushEnvs] using e.frames), e.mod, e.bs, e.bsz, e.funs, e.frf, e.hok, e.bare⟩
theorem Env0.in1 {P : Program} {w : World} {K : PySem.W.Frag} {mg : Str → Option Value} {base : Heap} {A : Around} {outer : List Env} {s : Shared} {H : Hp} (e : Env0 P w K mg base A outer s H) :
    Env0 P w K mg base A.in1 outer s H := ⟨e.frames, e.mod, e.bs, e.bsz, e.funs, e.frf, e.hok, e.bare⟩

section
variable {X : Cx} {pins : List (Addr × Obj)} {σ : St} {H : Hp} {s s' : Shared}
/-- from a body: what a callee wants -/
theorem Inv.env0 (I : Inv X pins σ H s) : Env0 X.prog X.w X.K X.mg X.base X.A X.stack s H :=
  ⟨I.ok.frames, I.ok.mod, I.bs, Nat.le_trans I.ok.bsz I.sz, I.stack, I.stkFree, I.hok, I.bare⟩
/-- behind a call -/
theorem Inv.after {Q : VK} {u : Value} (I : Inv X pins σ H s) (h : CE X.stack X.prog X.w H s Q u s') : EP X pins σ Q u s' := by
  obtain ⟨v, H', os, bare, un, hok, r, q⟩ := h
  obtain ⟨hh, g, d, t, os'⟩ := s'
  obtain rfl : os' = s.os := os
  exact ⟨v, H', I.call (h' := hh) (g' := g) (d' := d) (t' := t) (ch := []) un hok bare (fun b z => absurd z (by simp)), r, q⟩
end

/-! ### calls -/
/-- f(..): the written arguments, then the defaults dvs; E: what is wanted of an exception -/
def tCall (sp : Sp) (dvs : List V) (E : XK) (t : TA) : TE := fun σ H Q => t σ H fun vs H1 => sp (vs ++ dvs) H1 Q E
/-- o.m(..) of an instance of the class at C -/
def tMeth (C : Addr) (m : Str) (sp : Sp) (dvs : List V) (E : XK) (ta : TE) (t : TA) : TE := fun σ H Q => ta σ H fun x H1 => ∃ a dx fs, x = .ref a ∧ H1 a = some (.ins C dx fs) ∧ fs.lookup m = none ∧
  t σ H1 fun vs H2 => sp (x :: (vs ++ dvs)) H2 Q E
/-- how the parameters are bound: us the positional arguments, kw the keywords' values by name, ds the defaults that fill up -/
def Binds (K : PySem.W.Frag) (fd : FuncData) (ps : List Str) (ds : List Value) : Prop :=
  ∀ (s : Shared) (us : List Value), K.In s.heap → (us ++ ds).length = ps.length → BindsTo s fd ⟨us, []⟩ (ps.zip (us ++ ds))
/-- every parameter is given -/
theorem Binds.all {K : PySem.W.Frag} {fd : FuncData} {ps : List Str} (h : ∀ us : List Value, us.length = ps.length → bindArgs fd ⟨us, []⟩ = pure (ps.zip us)) : Binds K fd ps [] := fun s us _ hl => by
  rw [List.append_nil] at hl ⊢
  exact .of_eq (h us hl)

/-- an exception of a callee reaches what this body wants of exceptions -/
def Passes (CX : CXT) (X : Cx) (E : XK) : Prop := ∀ (pins : List (Addr × Obj)) (σ : St) (H : Hp) (s : Shared) (e : Value) (s' : Shared), Inv X pins σ H s → CX X.stack H s E e s' → X.xe e s'

section
variable {X : Cx} {CX : CXT} {k : Nat} {f C : Addr} {fd : FuncData} {ps : List Str} {sp : Sp} {dvs : List V} {ds : List Value} {E : XK} {x m : Str} {p pos apos : Pos} {e o : Expr} {es : List Expr} {ta : TE} {t : TA}

/-- the callee runs -/
theorem run_fn {pins : List (Addr × Obj)} {σ : St} {H : Hp} {s : Shared} {Q : VK} {us : List Value} {vs : List V} (F : FnOk X.prog X.w X.K X.mg X.base CX k f fd ps sp) (hr : Room k X.A) (hb : Binds X.K fd ps ds) (hd : Vals dvs ds) (hx : Passes CX X E)
    (I : Inv X pins σ H s) (r : Vals vs us) (h : sp (vs ++ dvs) H Q E) : wpAny (model X.prog X.w) X.A (call (.ref f) us) (EP X pins σ Q) X.xe s := by
  have r2 : Vals (vs ++ dvs) (us ++ ds) := r.append hd
  have hl : (us ++ ds).length = ps.length := by rw [← r2.length]; exact F.len _ _ _ _ h
  refine wpAny_call (codeAny_mono (F.run X.A X.stack s H ⟨us, []⟩ (us ++ ds) (vs ++ dvs) Q E hr I.env0 (hb s us I.kIn hl) r2 h) fun r s' hq => ?_)
  cases r with
  | error e => exact hx pins σ H s e s' I hq
  | ok fl =>
    cases fl with
    | ret u => exact I.after hq
    | next => exact False.elim hq
    | brk => exact False.elim hq
    | cont => exact False.elim hq

theorem pe_call (F : FnOk X.prog X.w X.K X.mg X.base CX k f fd ps sp) (hr : Room k X.A) (hg : Gl X x) (hm : X.mg x = some (.ref f)) (hk : PySem.W.keepIn X.K (.ref f) = true) (hb : Binds X.K fd ps ds) (hd : Vals dvs ds) (hx : Passes CX X E)
    (ha : PA X (e :: es) t) (hdb : (x == ("__debug__" : Str)) = false := by decide) (he : starEach (e :: es) X.env = (false, eval e X.env) :: starEach es X.env := by rfl) (hpl : (backTo pos (starEach es X.env)).any (·.1) = false := by rfl) :
    PE X (.Call (.Name x p) (e :: es) [] pos) (tCall sp dvs E t) := by
  intro pins s σ H Q I h
  refine wpAny_Call_Name_kw (ld_glob I hg hm ?_ hdb)
  refine PySem.W.callWith_K (h₀ := X.base) I.ok.mod.kin hk (thn (ha pos pins s σ H _ I h) fun us s1 ⟨vs, H1, I1, r, q⟩ => ⟨I1.kIn, ?_⟩) he hpl
  exact run_fn F hr hb hd hx I1 r q
/-- o.m(e, ..) -/
theorem pe_meth {pl : Sem Bool} (he : PE X o ta) (c : Cls X.K C) (hm : Meth X.K C m f) (F : FnOk X.prog X.w X.K X.mg X.base CX k f fd ps sp) (hr : Room k X.A) (hb : Binds X.K fd ps ds) (hd : Vals dvs ds) (hx : Passes CX X E) (ha : PA X (e :: es) t)
    (hst : starEach (e :: es) X.env = (false, eval e X.env) :: starEach es X.env := by rfl) (hpl : (backTo pos (starEach es X.env)).any (·.1) = false := by rfl)
    (ht : eval (.Call (.Attribute o m apos) (e :: es) [] pos) X.env = (do
      let ov ← eval o X.env
      standAt apos.atName
      let (f, first) ← holding [ov] (getMethod ov m pl)
      callWith pos f first (backTo pos (starEach (e :: es) X.env)) (backToKw pos (keywordEach [] X.env))) := by rfl) :
    PE X (.Call (.Attribute o m apos) (e :: es) [] pos) (tMeth C m sp dvs E ta t) := by
  intro pins s σ H Q I h
  refine PySem.W.methodCall_KW (pl := pl) (thn (he pins s σ H _ I h) fun u s1 ⟨x, H1, I1, rx, a, dx, fs, ex, ea, l, q⟩ => ?_) ht
  subst ex
  obtain rfl : u = Value.ref a := rx
  refine getmeth_ok I1 ea c hm l ?_
  refine PySem.W.callWith_K (first := [.ref a]) (h₀ := X.base) I.ok.mod.kin hm.kp (thn (ha pos pins s1 σ H1 _ I1 q) fun us s2 ⟨vs, H2, I2, r, q2⟩ => ⟨I2.kIn, ?_⟩) hst hpl
  exact run_fn (us := .ref a :: us) (vs := .ref a :: vs) F hr hb hd hx I2 (.cons rfl r) q2
/-- what a class must have to be made -/
structure Mk (K : PySem.W.Frag) (C f : Addr) : Prop where
  makes : PySem.W.makesIn K C = true
  init : PySem.W.findIn K (.ref C) "__init__" = some (some (.ref f))
  fn : PySem.W.isFn K (.ref f) = true
  kp : PySem.W.keepIn K (.ref C) = true

end

/-! ### keywords -/
section
variable {X : Cx} {CX : CXT} {k : Nat} {f C : Addr} {fd : FuncData} {ps ks : List Str} {sp : Sp} {E : XK} {x m : Str} {p pos apos kpos : Pos} {e o : Expr} {es : List Expr} {kws : List Keyword} {te ta : TE} {t tk : TA} {nm : Option Str}
/-- how a call with keywords binds: g puts the positional values us and the keywords' values ws (names ks) in the parameters' order, defaults among them -/
structure KBinds (K : PySem.W.Frag) (fd : FuncData) (ps ks : List Str) (g : List Value → List Value → List Value) (gV : List V → List V → List V) : Prop where
  to : ∀ (s : Shared) (us ws : List Value), K.In s.heap → (g us ws).length = ps.length → BindsTo s fd ⟨us, ks.zip ws⟩ (ps.zip (g us ws))
  rel : ∀ {vs : List V} {us : List Value} {zs : List V} {ws : List Value}, Vals vs us → Vals zs ws → Vals (gV vs zs) (g us ws)
variable {g : List Value → List Value → List Value} {gV : List V → List V → List V}
end

/-! ### a def's body keeps its promise -/
/-- names: the parameters first -/
structure FnScope (N P : List Str) (sc : Scope) : Prop where
  kind : sc.kind = .function
  co : sc.isCoroutine = false
  gen : sc.isGenerator = false
  nd : N.Nodup
  pre : N.take P.length = P
  par : ∀ x ∈ P, sc.names.lookup x = some .local ∨ sc.names.lookup x = some .cell
  nofree : ∀ y ∈ sc.names, y.2 ≠ .free

theorem bindL_out {kindOf : Str → Option NameKind} {x : Str} : ∀ {binds : List (Str × Value)} {m : Str → Option Value}, (∀ v, (x, v) ∉ binds) → bindL kindOf binds m x = m x
  | [], _, _ => rfl
  | (n, v) :: r, m, h => by
    unfold bindL
    rw [bindL_out fun w hw => h w (List.mem_cons_of_mem _ hw)]
    split
    · have : x ≠ n := by rintro rfl; exact h v List.mem_cons_self
      simp [this]
    · rfl
theorem bindC_out {kindOf : Str → Option NameKind} {x : Str} : ∀ {binds : List (Str × Value)} {m : Str → Option Value}, (∀ v, (x, v) ∉ binds) → bindC kindOf binds m x = m x
  | [], _, _ => rfl
  | (n, v) :: r, m, h => by
    unfold bindC
    rw [bindC_out fun w hw => h w (List.mem_cons_of_mem _ hw)]
    split
    · rfl
    · have : x ≠ n := by rintro rfl; exact h v List.mem_cons_self
      simp [this]
theorem bindL_get {kindOf : Str → Option NameKind} {x : Str} {v : Value} : ∀ {P : List Str} {vs : List Value} {i : Nat} {m : Str → Option Value}, P.Nodup → P[i]? = some x → vs[i]? = some v → kindOf x = some .local →
    bindL kindOf (P.zip vs) m x = some v
  | [], _, _, _, _, h, _, _ => by simp at h
  | _ :: _, [], _, _, _, _, h, _ => by simp at h
  | p :: P, w :: vs, 0, m, nd, h1, h2, hk => by
    simp at h1 h2; subst h1; subst h2
    show bindL kindOf ((p, w) :: P.zip vs) m p = _
    unfold bindL
    rw [bindL_out fun v hv => (List.nodup_cons.mp nd).1 (List.of_mem_zip hv).1, if_pos hk]
    simp
  | p :: P, w :: vs, i + 1, m, nd, h1, h2, hk => by
    show bindL kindOf ((p, w) :: P.zip vs) m x = _
    unfold bindL
    exact bindL_get (i := i) (List.nodup_cons.mp nd).2 (by simpa using h1) (by simpa using h2) hk
theorem bindC_get {kindOf : Str → Option NameKind} {x : Str} {v : Value} : ∀ {P : List Str} {vs : List Value} {i : Nat} {m : Str → Option Value}, P.Nodup → P[i]? = some x → vs[i]? = some v → kindOf x ≠ some .local →
    bindC kindOf (P.zip vs) m x = some v
  | [], _, _, _, _, h, _, _ => by simp at h
  | _ :: _, [], _, _, _, _, h, _ => by simp at h
  | p :: P, w :: vs, 0, m, nd, h1, h2, hk => by
    simp at h1 h2; subst h1; subst h2
    show bindC kindOf ((p, w) :: P.zip vs) m p = _
    unfold bindC
    rw [bindC_out fun v hv => (List.nodup_cons.mp nd).1 (List.of_mem_zip hv).1, if_neg hk]
    simp
  | p :: P, w :: vs, i + 1, m, nd, h1, h2, hk => by
    show bindC kindOf ((p, w) :: P.zip vs) m x = _
    unfold bindC
    exact bindC_get (i := i) (List.nodup_cons.mp nd).2 (by simpa using h1) (by simpa using h2) hk

/-- the names' values at the entry -/
def start (N : List Str) (vs : List V) : St := vs.map some ++ List.replicate (N.length - vs.length) none

/-- the context of a def's body, at its entry; an exception leaves the frame, then lies as CX says -/
def cxOf (CX : CXT) (P : Program) (w : World) (K : PySem.W.Frag) (mg : Str → Option Value) (base : Heap) (N : List Str) (qual : Str) (scope : Scope) (f : Addr) (cd : Value) (A : Around) (outer : List Env) (s : Shared) (H : Hp) (E : XK) : Cx where
  prog := P
  w := w
  K := K
  mg := mg
  base := base
  A := A.deeper (envOfC qual scope s.heap.objs.size f cd)
  N := N
  s₀ := s
  H₀ := H
  env := envOfC qual scope s.heap.objs.size f cd
  outer := outer
  stack := envOfC qual scope s.heap.objs.size f cd :: outer
  ex := []
  calm := true
  fn := fun _ => true
  pn := []
  xe := fun e s' => wpAny (model P w) (A.deeper (envOfC qual scope s.heap.objs.size f cd)) (leaving (envOfC qual scope s.heap.objs.size f cd) e) (fun _ s'' => CX outer H s E e s'') (fun e' s'' => CX outer H s E e' s'') s'

theorem cell_has {sc : Scope} {n : Nat} {x : Str} (h : sc.names.lookup x = some .cell) : ∃ c, (cellsFrom n sc.names []).lookup x = some c := by
  have q := PySem.W.cellsFrom_some sc.names n [] (.inl h)
  exact Option.isSome_iff_exists.mp q

theorem inv_start {CX : CXT} {P : Program} {w : World} {K : PySem.W.Frag} {mg : Str → Option Value} {base : Heap} {N ps : List Str} {qual : Str} {scope : Scope} {f : Addr} {cd : Value} {A : Around} {outer : List Env} {s s1 : Shared} {H : Hp} {E : XK} {us : List Value} {vs : List V}
    (S : FnScope N ps scope) (hd : A.handled = none) (e0 : Env0 P w K mg base A outer s H) (hl : vs.length = ps.length) (r : Vals vs us)
    (x : InCallC s s.heap.objs.size (bindL (envOfC qual scope s.heap.objs.size f cd).kindOf (ps.zip us) fun _ => none) (cellsFrom (s.heap.objs.size + 1) scope.names []) (bindC (envOfC qual scope s.heap.objs.size f cd).kindOf (ps.zip us) fun _ => none) s1) :
    Inv (cxOf CX P w K mg base N qual scope f cd A outer s H E) [] (start N vs) H s1 := by
  have hpl : ps.length ≤ N.length := by have := congrArg List.length S.pre; rw [List.length_take] at this; omega
  obtain ⟨h1, tk, rfl, hk⟩ := x.done
  have noA : ∀ b : Addr, b ∉ (cxOf CX P w K mg base N qual scope f cd A outer s H E).ex := fun b z => absurd (show b ∈ ([] : List Addr) from z) (by simp)
  refine ⟨⟨e0.mod, S.kind, rfl, rfl, Nat.le_refl _, fun y z c h1 h2 => ?_, fun y hy => ?_, fun y c _ h => ?_, fun _ => hd, Around.frames_deeper e0.frames, .inr ⟨rfl, rfl⟩, fun b z => absurd z (noA b), e0.bs, e0.bsz, fun b _ _ => noA b, fun b z => absurd z (noA b), e0.funs, e0.frf⟩,
    rfl, e0.bare, Un.kept hk, ⟨_, x.toInCall.ns, fun i y v h1 h2 h3 => ?_⟩, fun y c h => ⟨_, x.cell y c h⟩, e0.hok.fresh (Nat.le_refl _), fun y c h => ?_, fun p hp => absurd (show p ∈ ([] : List (Addr × Obj)) from hp) (by simp), e0.hok.kept hk, ?_⟩
  · exact name_of_addr x.apart (PySem.mem_of_lookup h1) (PySem.mem_of_lookup h2)
  · have hy : scope.names.lookup y = some .cell ∨ scope.names.lookup y = some .free := hy
    rcases hy with hy | hy
    · exact cell_has hy
    · exact absurd rfl (S.nofree _ (PySem.mem_of_lookup hy))
  · exact Nat.le_of_lt (x.above y c (PySem.mem_of_lookup h))
  · have hi : i < vs.length := by
      unfold start at h2
      by_cases hi : i < vs.length
      · exact hi
      · rw [List.getElem?_append_right (by simpa using hi)] at h2
        rw [List.getElem?_replicate] at h2
        split at h2 <;> cases h2
    have ha : vs[i]? = some v := by
      unfold start at h2
      rw [List.getElem?_append_left (by simpa using hi), List.getElem?_map] at h2
      cases e : vs[i]? with
      | none => rw [e] at h2; cases h2
      | some a => rw [e] at h2; cases h2; rfl
    obtain ⟨u, hu, rv⟩ := r.get ha
    have hp : ps[i]? = some y := by
      rw [← S.pre, List.getElem?_take_of_lt (by omega)]; exact h1
    have ndP : ps.Nodup := by rw [← S.pre]; exact S.nd.sublist (List.take_sublist _ _)
    refine ⟨u, rv, ?_⟩
    rcases S.par y (List.mem_of_getElem? hp) with k | k
    · exact .inl ⟨k, bindL_get ndP hp hu k⟩
    · obtain ⟨c, e⟩ := cell_has (n := s.heap.objs.size + 1) k
      refine .inr ⟨.inl k, c, e, ?_⟩
      have q := x.cell y c e
      rw [bindC_get ndP hp hu (by show scope.names.lookup y ≠ _; rw [k]; decide)] at q
      exact q
  · exact e0.hok.fresh (Nat.le_of_lt (x.above y c (PySem.mem_of_lookup h)))
  · unfold start
    show _ = N.length
    rw [List.length_append, List.length_map, List.length_replicate]
    omega

/-- THE RULE: a def (or a method) of the text, by its body. The body's reading t is chosen for each entry; it is run at the parameters' values -/
theorem fn_of {CX : CXT} {P : Program} {w : World} {K : PySem.W.Frag} {mg : Str → Option Value} {base : Heap} {k : Nat} {f : Addr} {name qual : Str} {params : Arguments} {body : List Stmt} {scope : Scope} {dV kV doc pm cdv ct oc : Value} {an od : Option Addr}
    {osl : Array (Option Value)} {N ps : List Str} {sp : Sp} (lk : K.lookup f = some ⟨oc, od, .func (PySem.W.fnOf name qual params body scope dV kV doc pm an cdv ct), osl⟩) (hcd : PySem.W.codeIn K cdv qual = true) (S : FnScope N ps scope)
    (len : ∀ vs H Q E, sp vs H Q E → vs.length = ps.length)
    (hbody : ∀ (A : Around) (outer : List Env) (s : Shared) (H : Hp) (vs : List V) (Q : VK) (E : XK), Room k (A.deeper (envOfC qual scope s.heap.objs.size f cdv)) → sp vs H Q E →
      ∃ t, PSs (cxOf CX P w K mg base N qual scope f cdv A outer s H E) body t ∧ t { nx := fun _ H' => Q .non H', rt := Q } (start N vs) H) :
    FnOk P w K mg base CX (k + 1) f (PySem.W.fnOf name qual params body scope dV kV doc pm an cdv ct) ps sp := by
  refine ⟨len, fun A outer s H args us vs Q E hr e0 hb r hsp => ?_⟩
  have hl := len _ _ _ _ hsp
  have KX : K.In s.heap := e0.mod.kin.keeps fun b o e => (e0.bs b o e).1
  have lim : s.heap.NoLimit := e0.mod.nolimit.keeps fun b o e => (e0.bs b o e).1
  have hkind : ∀ y ∈ ps.zip us, scope.names.lookup y.1 = some .local ∨ (scope.names.lookup y.1 = some .cell ∧ ((cellsFrom (s.heap.objs.size + 1) scope.names []).lookup y.1).isSome = true) := fun ⟨n, v⟩ hy => by
    rcases S.par n (List.of_mem_zip hy).1 with q | q
    · exact .inl q
    · exact .inr ⟨q, PySem.W.cellsFrom_some _ _ _ (.inl q)⟩
  refine codeAny_call_function hr.depth (KX _ _ lk) rfl S.co S.gen rfl (PySem.W.codeRec_of KX hcd) (hb _ _ _ _ ?_)
  refine wpAny_newFunctionEnv_cells S.kind hkind fun env he s1 x => ?_
  subst he
  refine ⟨lim.keeps x.toInCall.keep, codeAny_func ?_⟩
  obtain ⟨t, ht, hq⟩ := hbody A outer s H vs Q E (hr.deeper _) hsp
  have I : Inv (cxOf CX P w K mg base N qual scope f cdv A outer s H E) [] (start N vs) H s1 := inv_start S hr.hd e0 hl r x
  refine wpAny_mono (ht [] s1 (start N vs) H _ I hq) (fun fl s' hs => ?_) fun e s' hs => hs
  have fin : ∀ {σ' : St} {H' : Hp} {v : V} {u : Value}, Inv (cxOf CX P w K mg base N qual scope f cdv A outer s H E) [] σ' H' s' → RelV v u → Q v H' → CE outer P w H s Q u s' :=
    fun {σ' H' v u} J rv q => ⟨v, H', J.os, J.bare, J.base, J.hok, rv, q⟩
  cases fl with
  | ret u =>
    obtain ⟨v, σ', H', J, rv, q⟩ := hs
    exact fin J rv q
  | next =>
    obtain ⟨σ', H', J, q⟩ := hs
    exact fin (v := V.non) (u := Value.none) J rfl q
  | brk =>
    obtain ⟨_, _, _, q⟩ := hs
    exact False.elim q
  | cont =>
    obtain ⟨_, _, _, q⟩ := hs
    exact False.elim q
end L2

namespace L2
open PySem PySem.Spec PyProof.Rows
section
variable {X : Cx} {x : Str} {p pos : Pos} {e : Expr} {es : List Expr} {t : TA} {id T : String} {r : List V → Hp → VK → Prop}

def tCB (r : List V → Hp → VK → Prop) (t : TA) : TE := fun σ H Q => t σ H fun vs H1 => r vs H1 Q
/-- f(e, ..), f a built-in function -/
theorem pe_callB (hc : CallR X (.builtin id) r) (hg : Gl X x) (hm : X.mg x = none) (hv : bootBuiltins x = some (.builtin id)) (ha : PA X (e :: es) t) (hn : x ≠ "__name__" := by decide) (hdb : (x == ("__debug__" : Str)) = false := by decide)
    (he : starEach (e :: es) X.env = (false, eval e X.env) :: starEach es X.env := by rfl) (hpl : (backTo pos (starEach es X.env)).any (·.1) = false := by rfl) : PE X (.Call (.Name x p) (e :: es) [] pos) (tCB r t) := by
  intro pins s σ H Q I h
  refine wpAny_Call_Name_kw (ld_blt I hg hm hv ?_ hn hdb)
  exact PyProof.Rows.callWith_builtin1 (thn (ha pos pins s σ H _ I h) fun us s1 ⟨vs, H1, I1, r1, q1⟩ => hc pins s1 σ H1 vs us Q I1 r1 q1) he hpl
/-- T(e, ..), T a built-in type -/
theorem pe_callTy (hc : CallR X (.type T) r) (hg : Gl X x) (hm : X.mg x = none) (hv : bootBuiltins x = some (.type T)) (ha : PA X (e :: es) t) (hn : x ≠ "__name__" := by decide) (hdb : (x == ("__debug__" : Str)) = false := by decide)
    (he : starEach (e :: es) X.env = (false, eval e X.env) :: starEach es X.env := by rfl) (hpl : (backTo pos (starEach es X.env)).any (·.1) = false := by rfl) : PE X (.Call (.Name x p) (e :: es) [] pos) (tCB r t) := by
  intro pins s σ H Q I h
  refine wpAny_Call_Name_kw (ld_blt I hg hm hv ?_ hn hdb)
  exact PyProof.Rows.callWith_type1 (thn (ha pos pins s σ H _ I h) fun us s1 ⟨vs, H1, I1, r1, q1⟩ => hc pins s1 σ H1 vs us Q I1 r1 q1) he hpl
end
end L2

namespace HT
open PySem PyProof.Rows

section
open PySem.SeqAt
open PySem.AutoSeq1 (wpAny_loadPart')
open PySem.MeetsSeq PySem.MeetsSeq2 PySem.MeetsSeq3

end

section
variable {prog : Program} {w : World} {A : Around} {E : Value → Shared → Prop} {s : Shared}

/-! ### t[a:b], not the whole -/
/-- a slice's bound as a place among n (d where it is left out) -/
def sIx (n d : Nat) : Option Int → Nat
  | none => d
  | some v => if v < 0 then (v + (n : Int)).toNat else min v.toNat n
theorem sIx_le (n d : Nat) (hd : d ≤ n) (o : Option Int) : sIx n d o ≤ n := by
  cases o with
  | none => exact hd
  | some v =>
    show (if v < 0 then (v + (n : Int)).toNat else min v.toNat n) ≤ n
    by_cases hv : v < 0
    · rw [if_pos hv]; omega
    · rw [if_neg hv]; exact Nat.min_le_right _ _
theorem clip_eq (v : Int) (n d : Nat) : (if v < 0 then max (v + (n : Int)) 0 else min v (n : Int)) = ((sIx n d (some v) : Nat) : Int) := by
  show (if v < 0 then max (v + (n : Int)) 0 else min v (n : Int)) = (((if v < 0 then (v + (n : Int)).toNat else min v.toNat n) : Nat) : Int)
  by_cases hv : v < 0
  · simp only [if_pos hv]; omega
  · simp only [if_neg hv]; omega
theorem adjust_gen (lo hi : Option Int) (n : Nat) : Builtin.Slice.sliceAdjust lo hi 1 (n : Int) = (((sIx n 0 lo : Nat) : Int), ((sIx n n hi : Nat) : Int)) := by
  have h1 : ¬ ((1 : Int) < 0) := by omega
  unfold Builtin.Slice.sliceAdjust
  simp only [h1, if_false]
  refine Prod.ext ?_ ?_
  · cases lo with
    | none => rfl
    | some v => exact clip_eq v n 0
  · cases hi with
    | none => rfl
    | some v => exact clip_eq v n n
theorem places_gen (i j : Nat) : Builtin.Slice.slicePlaces (i : Int) (j : Int) 1 = j - i := by
  unfold Builtin.Slice.slicePlaces
  have h1 : (1 : Int) > 0 := by omega
  simp only [h1, if_true, Int.ediv_one]
  split <;> omega
theorem slicePart_ {v : Value} {o : Option Int} {Q : Option Int → Shared → Prop} (p : IsPart v o) (h : Q o s) : wpAny (model prog w) A (Builtin.Slice.slicePartIndex v) Q E s := by
  cases p with
  | none => exact slicePart_none h
  | int i t => exact slicePart_int h
theorem sliceApplied_gen {sl : Addr} {vl vu : Value} {lo hi : Option Int} {n : Nat} {Q : Int × Int × Nat → Shared → Prop} (hs : s.heap.IsSliceOf sl vl vu .none) (pl : IsPart vl lo) (pu : IsPart vu hi)
    (h : Q (((sIx n 0 lo : Nat) : Int), 1, sIx n n hi - sIx n 0 lo) s) : wpAny (model prog w) A (Builtin.Slice.sliceApplied (.ref sl) (pure (n : Int))) Q E s := by
  obtain ⟨os, hos, hcs, hds⟩ := id hs
  unfold Builtin.Slice.sliceApplied Builtin.Slice.sliceFields
  refine wpAny_bind (wpAny_bind (wpAny_field hos hds (x := vl) rfl (wpAny_bind (wpAny_field hos hds (x := vu) rfl (wpAny_bind (wpAny_field hos hds (x := .none) rfl (wpAny_pure ?_)))))))
  refine wpAny_bind (slicePart_none ?_)
  show wpAny _ _ (if ((1 : Int) == 0) = true then _ else _) _ _ s
  rw [if_neg (by decide)]
  refine wpAny_bind (slicePart_ pl (wpAny_bind (slicePart_ pu (wpAny_bind (wpAny_pure ?_)))))
  show wpAny _ _ (match Builtin.Slice.sliceAdjust lo hi 1 (n : Int) with | (lo, hi) => pure (lo, (1 : Int), Builtin.Slice.slicePlaces lo hi 1)) _ _ s
  rw [adjust_gen lo hi n]
  show wpAny _ _ (pure (((sIx n 0 lo : Nat) : Int), (1 : Int), Builtin.Slice.slicePlaces ((sIx n 0 lo : Nat) : Int) ((sIx n n hi : Nat) : Int) 1)) _ _ s
  rw [places_gen]
  exact wpAny_pure h
theorem pick_gen (xs : Array Value) (i k : Nat) : ((List.range k).filterMap fun (m : Nat) => xs[((i : Int) + (m : Int) * 1).toNat]?).toArray = ((xs.toList.drop i).take k).toArray := by
  have e : (fun (m : Nat) => xs[((i : Int) + (m : Int) * 1).toNat]?) = fun m => xs[i + m]? := by
    funext m
    have : ((i : Int) + (m : Int) * 1).toNat = i + m := by omega
    rw [this]
  rw [e]
  have := pick_run xs i k
  rw [List.filterMap_map] at this
  have e2 : ((fun x => xs[x]?) ∘ fun x => i + x) = fun m => xs[i + m]? := rfl
  rw [e2] at this
  rw [this]

theorem getItem_tuple_cut {t sl : Addr} {items : Array Value} {vl vu : Value} {lo hi : Option Int} {Q : Value → Shared → Prop} (ht : IsTup s.heap t items) (hs : s.heap.IsSliceOf sl vl vu .none) (pl : IsPart vl lo) (pu : IsPart vu hi)
    (hw : ¬ (sIx items.size 0 lo = 0 ∧ sIx items.size items.size hi = items.size))
    (h : Q (.ref s.heap.objs.size) { s with heap := s.heap.push { cls := .type "tuple", data := .seq ((items.toList.drop (sIx items.size 0 lo)).take (sIx items.size items.size hi - sIx items.size 0 lo)).toArray } })
    (hsz : items.size ≤ sizeLine) : wpAny (model prog w) A (getItem (.ref t) (.ref sl)) Q E s := by
  have htake : sizeOk (.seq ((items.toList.drop (sIx items.size 0 lo)).take (sIx items.size items.size hi - sIx items.size 0 lo)).toArray) := by
    show ((items.toList.drop (sIx items.size 0 lo)).take (sIx items.size items.size hi - sIx items.size 0 lo)).toArray.size ≤ sizeLine
    rw [List.size_toArray, List.length_take, List.length_drop, Array.length_toList]
    omega
  have hj : sIx items.size items.size hi ≤ items.size := sIx_le _ _ (Nat.le_refl _) hi
  obtain ⟨os, hos, hcs, hds⟩ := id hs
  have hTs : s.TypeIs (.ref sl) "slice" := ⟨os, hos, hcs⟩
  unfold getItem
  try with_reducible refine wpAny_holding ?_
  first | refine wpAny_bind (wpAny_pure ?_) | skip
  refine wpAny_bind (wpAny_sequenceKey ht.typeIs (by decide) ?_)
  refine wpAny_bind (wpAny_callSpecial?_slot (name := Str.ofString "__getitem__") ht.typeIs PyProof.Rows.slot_tuple_getitem
    (wpAny_call_entry PyProof.Rows.slot_tuple_getitem ht.typeIs entry_tuple_getitem ?_ (args_tuple_getitem _ _)))
  show wpAny _ _ (Builtin.Tuple.tupleItemsOf (.ref t) >>= _) _ _ s
  refine wpAny_bind (tupleItemsOf_ ht ?_)
  refine wpAny_bind (wpAny_typeOf hTs ?_)
  rw [if_pos (by decide)]
  refine wpAny_bind (sliceApplied_gen hs pl pu ?_)
  have hno : ¬ ((((sIx items.size 0 lo : Nat) : Int) == 0 && (1 : Int) == 1 && (sIx items.size items.size hi - sIx items.size 0 lo) == items.size) = true) := by
    intro q
    rw [Bool.and_eq_true, Bool.and_eq_true] at q
    have q1 : ((sIx items.size 0 lo : Nat) : Int) = 0 := eq_of_beq q.1.1
    have q2 : sIx items.size items.size hi - sIx items.size 0 lo = items.size := eq_of_beq q.2
    exact hw ⟨by omega, by omega⟩
  show wpAny _ _ (if (((sIx items.size 0 lo : Nat) : Int) == 0 && (1 : Int) == 1 && (sIx items.size items.size hi - sIx items.size 0 lo) == items.size) = true then _ else _) _ _ s
  rw [if_neg hno, pick_gen]
  first
    | exact wpAny_bind (m := Builtin.Tuple.tupleExact _) (wpAny_newObj_type (wpAny_pure ⟨_, rfl, wpAny_pure h⟩) htake)
    | exact wpAny_bind (m := Builtin.Tuple.tupleExact _) (wpAny_newObj_type (wpAny_bind (wpAny_pure (wpAny_pure ⟨_, rfl, wpAny_pure h⟩))) htake)
    | exact wpAny_bind (wpAny_bind (m := Builtin.Tuple.tupleExact _) (wpAny_newObj_type (wpAny_pure (wpAny_pure ⟨_, rfl, wpAny_pure h⟩)) htake))
    | exact wpAny_bind (wpAny_bind (m := Builtin.Tuple.tupleExact _) (wpAny_newObj_type (wpAny_pure ⟨_, rfl, wpAny_pure h⟩) htake))
end
end HT

namespace L2
open PySem PySem.Spec PyProof.Rows

/-! ### the parts of a slice -/
abbrev TO := St → Hp → (Option Int → Hp → Prop) → Prop
/-- a slice's part (left out, or an int) -/
def PO (X : Cx) (e : Option Expr) (t : TO) : Prop :=
  ∀ (pins : List (Addr × Obj)) (s : Shared) (σ : St) (H : Hp) (Q : Option Int → Hp → Prop), Inv X pins σ H s → t σ H Q →
    wpAny (model X.prog X.w) X.A (evalPart e X.env) (fun u s' => ∃ o H', Inv X pins σ H' s' ∧ IsPart u o ∧ Q o H') X.xe s
def tNoPart : TO := fun _ H Q => Q none H
def tPart (t : TE) : TO := fun σ H Q => t σ H fun x H1 => ∃ i, x = .int i ∧ Q (some i) H1

theorem intsAre_of {ns : List Int} : ∀ {us : List Value}, Vals (ns.map V.int) us → IntsAre us ns := by
  induction ns with
  | nil => intro us r; rw [List.map_nil] at r; cases r; exact .nil
  | cons n ns ih =>
    intro us r
    rw [List.map_cons] at r
    cases r with
    | cons r1 r2 =>
      obtain ⟨t, e⟩ := r1
      subst e
      exact .cons n t (ih r2)

section
variable {X : Cx} {e : Expr} {te : TE} {lo hi : Option Expr} {tl th : TO} {pos p2 : Pos}

theorem po_none : PO X none tNoPart := by
  intro pins s σ H Q I h
  rw [evalPart_none]
  exact wpAny_pure ⟨none, H, I, .none, h⟩
theorem po_some (h : PE X e te) : PO X (some e) (tPart te) := by
  intro pins s σ H Q I hw
  rw [evalPart_some]
  refine thn (h pins s σ H _ I hw) fun u s1 ⟨x, H1, I1, r1, q1⟩ => ?_
  obtain ⟨i, rfl, q⟩ := q1
  obtain ⟨t, rfl⟩ := r1
  exact ⟨some i, H1, I1, .int i t, q⟩

/-- what a slice of a value is, by values: the slice object stands at sl -/
def SlR (X : Cx) (r : V → Option Int → Option Int → Hp → VK → Prop) : Prop :=
  ∀ (pins : List (Addr × Obj)) (s : Shared) (σ : St) (H : Hp) (x : V) (v vl vu : Value) (lo hi : Option Int) (sl : Addr) (Q : VK), Inv X pins σ H s → RelV x v → s.heap.IsSliceOf sl vl vu .none → IsPart vl lo → IsPart vu hi → r x lo hi H Q →
    ∃ T id, typeLookup (.type T) "__getitem__" = pure (some (.builtin id)) ∧ s.TypeIs v T ∧ wpAny (model X.prog X.w) X.A (getItem v (.ref sl)) (EP X pins σ Q) X.xe s
theorem SlR.or {r r' : V → Option Int → Option Int → Hp → VK → Prop} (h : SlR X r) (h' : SlR X r') : SlR X (fun x lo hi H Q => r x lo hi H Q ∨ r' x lo hi H Q) := by
  intro pins s σ H x v vl vu lo hi sl Q I rx hs pl pu q
  rcases q with q | q
  · exact h pins s σ H x v vl vu lo hi sl Q I rx hs pl pu q
  · exact h' pins s σ H x v vl vu lo hi sl Q I rx hs pl pu q
def tSl (r : V → Option Int → Option Int → Hp → VK → Prop) (te : TE) (tl th : TO) : TE := fun σ H Q => te σ H fun x H1 => tl σ H1 fun l H2 => th σ H2 fun u H3 => r x l u H3 Q
/-- a[lo:hi], any a -/
theorem pe_slice {r : V → Option Int → Option Int → Hp → VK → Prop} (hr : SlR X r) (he : PE X e te) (hl : PO X lo tl) (hu : PO X hi th) : PE X (.Subscript e (.Slice lo hi none p2) pos) (tSl r te tl th) := by
  intro pins s σ H Q I h
  refine Subscript_ (thn (he pins s σ H _ I h) fun v s1 ⟨x, H1, I1, r1, q1⟩ => ?_)
  refine wpAny_Slice (thn (hl pins s1 σ H1 _ I1 q1) fun vl s2 ⟨l, H2, I2, pl, q2⟩ => thn (hu pins s2 σ H2 _ I2 q2) fun vu s3 ⟨u, H3, I3, pu, q3⟩ => ?_)
  rw [evalPart_none]
  refine wpAny_pure ?_
  have I4 : Inv X pins σ H3 { s3 with heap := s3.heap.push { cls := .type "slice", data := .fields #[vl, vu, .none] } } := I3.kept (t' := s3.toks) fun b ob q => Heap.get?_push_of_some _ q
  obtain ⟨T, id, hT, ht, hg⟩ := hr pins { s3 with heap := s3.heap.push { cls := .type "slice", data := .fields #[vl, vu, .none] } } σ H3 x v vl vu l u s3.heap.objs.size Q I4 r1 (Heap.IsSliceOf.new ..) pl pu q3
  show wpAny (model X.prog X.w) X.A (subscriptTail e (.Slice lo hi none p2) v (.ref s3.heap.objs.size)) (EP X pins σ Q) X.xe { s3 with heap := s3.heap.push { cls := .type "slice", data := .fields #[vl, vu, .none] } }
  exact tail_any (ops := [.ref s3.heap.objs.size, v]) ht hT hg (by with_unfolding_all rfl)

/-- the items of xs[lo:hi] -/
def cutV (xs : List V) (lo hi : Option Int) : List V := (xs.drop (HT.sIx xs.length 0 lo)).take (HT.sIx xs.length xs.length hi - HT.sIx xs.length 0 lo)
theorem cutV_length (xs : List V) (lo hi : Option Int) : (cutV xs lo hi).length ≤ xs.length := by
  unfold cutV
  rw [List.length_take, List.length_drop]
  omega
/-- t[lo:hi], not the whole of it (the whole would be t itself) -/
def rSlT (K : PySem.W.Frag) : V → Option Int → Option Int → Hp → VK → Prop := fun x lo hi H Q => ∃ a xs, x = .ref a ∧ SqT K H a xs ∧
  ¬ (HT.sIx xs.length 0 lo = 0 ∧ HT.sIx xs.length xs.length hi = xs.length) ∧ ∀ p, H p = none → Q (.ref p) (upd H p (.tup (cutV xs lo hi)))
theorem sl_tup : SlR X (rSlT X.K) := by
  intro pins s σ H x v vl vu lo hi sl Q I rx hs pl pu h
  obtain ⟨a, xs, rfl, hx, hw, q⟩ := h
  cases rx
  obtain ⟨its, r, ht, hz⟩ := I.tuple hx
  have hlen : its.toArray.size = xs.length := by rw [List.size_toArray]; exact r.length.symm
  refine ⟨"tuple", _, PyProof.Rows.slot_tuple_getitem.lookup, ht.typeIs, ?_⟩
  refine HT.getItem_tuple_cut ht hs pl pu (by rw [hlen]; exact hw) ?_ (by rw [hlen]; exact hz)
  rw [hlen]
  refine ⟨.ref s.heap.objs.size, _, I.laid (t' := s.toks) (o := .tup (cutV xs lo hi)) (fun b ob q => Heap.get?_push_of_some _ q) (Nat.le_refl _) ?_, rfl, q _ (I.hok.fresh (Nat.le_refl _))⟩
  exact ⟨Nat.le_trans (cutV_length xs lo hi) hz, _, (r.drop (HT.sIx xs.length 0 lo)).take (HT.sIx xs.length xs.length hi - HT.sIx xs.length 0 lo), IsTup.new _ _⟩

/-! ### t < u, t + u -/
end
end L2

namespace L2
open PySem PySem.Spec PyProof.Rows

/-! ### places -/
/-- the place that an index of any sign means -/
def ixN (n : Nat) (i : Int) : Option Nat := if 0 ≤ i then (if i < n then some i.toNat else none) else if -(n : Int) ≤ i then some (i + n).toNat else none
def atI {α : Type} (xs : List α) (i : Int) : Option α := (ixN xs.length i).bind fun j => xs[j]?
theorem ixN_seq {n : Nat} {i : Int} {j : Nat} (h : ixN n i = some j) : seqIndex? i n = some j ∧ j < n ∧ -(n : Int) ≤ i ∧ i < n := by
  unfold ixN at h
  by_cases h0 : 0 ≤ i
  · rw [if_pos h0] at h
    by_cases h1 : i < n
    · rw [if_pos h1] at h
      have e : i.toNat = j := Option.some.inj h
      exact ⟨by rw [seqIndex_of h0 h1, e], by omega, by omega, h1⟩
    · rw [if_neg h1] at h; cases h
  · rw [if_neg h0] at h
    by_cases h1 : -(n : Int) ≤ i
    · rw [if_pos h1] at h
      have e : (i + n).toNat = j := Option.some.inj h
      exact ⟨by rw [seqIndex_neg (by omega) h1, e], by omega, h1, by omega⟩
    · rw [if_neg h1] at h; cases h
theorem atI_get {α : Type} {xs : List α} {i : Int} {v : α} (h : atI xs i = some v) : ∃ j, seqIndex? i xs.length = some j ∧ xs[j]? = some v ∧ j < xs.length ∧ -(xs.length : Int) ≤ i ∧ i < xs.length := by
  unfold atI at h
  cases e : ixN xs.length i with
  | none => rw [e] at h; cases h
  | some j =>
    rw [e] at h
    obtain ⟨h1, h2, h3, h4⟩ := ixN_seq e
    exact ⟨j, h1, h, h2, h3, h4⟩
theorem atI_nat {α : Type} {xs : List α} {j : Nat} {v : α} (h : xs[j]? = some v) : atI xs (j : Int) = some v := by
  have hj : j < xs.length := (List.getElem?_eq_some_iff.mp h).1
  have e : ixN xs.length (j : Int) = some j := by
    unfold ixN
    rw [if_pos (by omega), if_pos (by omega)]; simp
  unfold atI; rw [e]; exact h
/-! ### what may be subscripted -/
/-- what stands as an index of a plain subscript -/
def PlainIx (b : Expr) : Prop := ∀ o i, subscripted b false o i = operate [o, i] (getItem o i)
/-- a subscript by values -/
def IxR (X : Cx) (r : R2) : Prop :=
  ∀ (value slice : Expr) (pins : List (Addr × Obj)) (s : Shared) (σ : St) (H : Hp) (x y : V) (v u : Value) (Q : VK), Inv X pins σ H s → RelV x v → RelV y u → r x y H Q →
    subscripted slice false v u = operate [v, u] (getItem v u) → wpAny (model X.prog X.w) X.A (subscriptTail value slice v u) (EP X pins σ Q) X.xe s
/-- a call of a builtin's method by values: the receiver, the arguments -/
def MtR (X : Cx) (id : String) (r : V → List V → Hp → VK → Prop) : Prop :=
  ∀ (pins : List (Addr × Obj)) (s : Shared) (σ : St) (H : Hp) (x : V) (xs : List V) (v : Value) (us : List Value) (Q : VK), Inv X pins σ H s → RelV x v → Vals xs us → r x xs H Q →
    wpAny (model X.prog X.w) X.A (call (.builtin id) (v :: us)) (EP X pins σ Q) X.xe s
section
variable {X : Cx} {a b : Expr} {ta tb : TE} {pos : Pos}
theorem IxR.or {r r' : R2} (h : IxR X r) (h' : IxR X r') : IxR X (fun x y H Q => r x y H Q ∨ r' x y H Q) := by
  intro value slice pins s σ H x y v u Q I rx ry q hs
  rcases q with q | q
  · exact h value slice pins s σ H x y v u Q I rx ry q hs
  · exact h' value slice pins s σ H x y v u Q I rx ry q hs
theorem MtR.or {id : String} {r r' : V → List V → Hp → VK → Prop} (h : MtR X id r) (h' : MtR X id r') : MtR X id (fun x xs H Q => r x xs H Q ∨ r' x xs H Q) := by
  intro pins s σ H x xs v us Q I rx rs q
  rcases q with q | q
  · exact h pins s σ H x xs v us Q I rx rs q
  · exact h' pins s σ H x xs v us Q I rx rs q
/-- a[b] -/
theorem pe_ix {r : R2} (hr : IxR X r) (ha : PE X a ta) (hb : PE X b tb) (hs : PlainIx b) : PE X (.Subscript a b pos) (tOp r ta tb) := by
  intro pins s σ H Q I h
  exact Subscript_ (binT ha hb I h fun v u s2 x y H2 I2 rx ry q => hr a b pins s2 σ H2 x y v u Q I2 rx ry q (hs _ _))

def rIxL (K : PySem.W.Frag) : R2 := fun x y H Q => ∃ p xs i v, x = .ref p ∧ y = .int i ∧ SqL K H p xs ∧ atI xs i = some v ∧ Q v H
def rIxT (K : PySem.W.Frag) : R2 := fun x y H Q => ∃ p xs i v, x = .ref p ∧ y = .int i ∧ SqT K H p xs ∧ atI xs i = some v ∧ Q v H
theorem ix_list : IxR X (rIxL X.K) := by
  intro value slice pins s σ H x y v u Q I rx ry h hs
  obtain ⟨p, xs, i, z, rfl, rfl, hq, he, q⟩ := h
  cases rx
  obtain ⟨t, rfl⟩ := ry
  obtain ⟨its, r, pl, hz⟩ := I.list hq
  obtain ⟨j, h1, h2, h3, h4, h5⟩ := atI_get he
  obtain ⟨w, ew, rw'⟩ := r.get h2
  have hl := r.length
  have hn := line63
  have fin : EP X pins σ Q w s := ⟨z, H, I, rw', q⟩
  by_cases h0 : 0 ≤ i
  · have hj : i.toNat = j := by
      rw [seqIndex_of h0 h5] at h1
      exact Option.some.inj h1
    exact item_listR pl.isList h0 (by omega) (by rw [hj]; simpa using ew) fin hs
  · have hj : (i + (its.toArray.size : Int)).toNat = j := by
      rw [seqIndex_neg (by omega) h4] at h1
      rw [List.size_toArray, ← hl]
      exact Option.some.inj h1
    exact subscriptTail_builtinR (x := w) pl.isList.typeIs slot_list_getitem.lookup
      (wpAny_getItem_list_neg (Q := fun r s' => r = w ∧ EP X pins σ Q r s') pl.isList (by omega) (by rw [List.size_toArray] <;> omega) (by omega) (by rw [hj]; simpa using ew) ⟨rfl, fin⟩) hs
theorem ix_tup : IxR X (rIxT X.K) := by
  intro value slice pins s σ H x y v u Q I rx ry h hs
  obtain ⟨p, xs, i, z, rfl, rfl, hq, he, q⟩ := h
  cases rx
  obtain ⟨t, rfl⟩ := ry
  obtain ⟨its, r, pl, hz⟩ := I.tuple hq
  obtain ⟨j, h1, h2, h3, h4, h5⟩ := atI_get he
  obtain ⟨w, ew, rw'⟩ := r.get h2
  have hl := r.length
  have hn := line63
  have fin : EP X pins σ Q w s := ⟨z, H, I, rw', q⟩
  exact subscriptTail_builtinR (x := w) pl.typeIs slot_tuple_getitem.lookup
    (getItem_tuple (j := j) (Q := fun r s' => r = w ∧ EP X pins σ Q r s') pl (by omega) (by omega) (by rw [List.size_toArray, ← hl]; exact h1) (by simpa using ew) ⟨rfl, fin⟩) hs
/-! ### xs[i] = v, any sign -/
/-- the list's object behind a store -/
theorem mapSeq_set (its : List Value) (n j : Nat) (u : Value) : Obj.mapSeq (·.setIfInBounds j u) { cls := .type "list", data := .seq its.toArray n } = { cls := .type "list", data := .seq (its.set j u).toArray n } := by
  simp [Obj.mapSeq]
theorem Inv.lst {pins : List (Addr × Obj)} {σ : St} {H : Hp} {s : Shared} {p : Addr} {xs : List V} (I : Inv X pins σ H s) (h : H p = some (.lst xs)) :
    ∃ (its : List Value) (n : Nat), Vals xs its ∧ s.heap.get? p = some { cls := .type "list", data := .seq its.toArray n } ∧ xs.length ≤ sizeLine := by
  obtain ⟨z, its, n, r, e⟩ := I.hok p _ h
  exact ⟨its, n, r, e, z⟩
/-- the list at p is written by an update of its object -/
theorem Inv.lstUpd {pins : List (Addr × Obj)} {σ : St} {H : Hp} {s : Shared} {p : Addr} {xs ys : List V} {its its' : List Value} {n n' : Nat} {f : Obj → Obj} (I : Inv X pins σ H s) (h : H p = some (.lst xs))
    (ho : s.heap.get? p = some { cls := .type "list", data := .seq its.toArray n }) (hf : f { cls := .type "list", data := .seq its.toArray n } = { cls := .type "list", data := .seq its'.toArray n' }) (r : Vals ys its') (hz : ys.length ≤ sizeLine) (t : Nat) :
    Inv X pins σ (upd H p (.lst ys)) { s with heap := s.heap.update p f, toks := t } := by
  have e : (s.heap.update p f).get? p = some { cls := .type "list", data := .seq its'.toArray n' } := by
    rw [Heap.get?_update_self f ho (by rw [hf] <;> rfl), hf]
  refine I.write (x := p) (e := p) (by rw [h]; trivial) (.inl rfl) (fun b u hb q => (Heap.get?_update_other _ _ (Ne.symm hb)).trans q) ⟨_, e⟩ ?_
  exact ⟨hz, its', n', r, e⟩
def rSetL : V → V → V → Hp → (Hp → Prop) → Prop := fun o i v H Q => ∃ p xs k j, o = .ref p ∧ i = .int k ∧ H p = some (.lst xs) ∧ ixN xs.length k = some j ∧ Q (upd H p (.lst (xs.set j v)))
theorem set_list : PSet X rSetL := by
  intro pins s σ H o i v ov iv u Q I ro ri rv h
  obtain ⟨p, xs, k, j, rfl, rfl, hp, hj, q⟩ := h
  cases ro
  obtain ⟨t, rfl⟩ := ri
  obtain ⟨its, n, r, ho, hz⟩ := I.lst hp
  obtain ⟨h1, h2, h3, h4⟩ := ixN_seq hj
  have hl := r.length
  have hn := line63
  have I' : Inv X pins σ (upd H p (.lst (xs.set j v))) { s with heap := s.heap.update p (Obj.mapSeq (·.setIfInBounds j u)) } :=
    I.lstUpd hp ho (mapSeq_set its n j u) (r.set rv j) (by rw [List.length_set]; exact hz) s.toks
  by_cases h0 : 0 ≤ k
  · have hk : k.toNat = j := by
      rw [seqIndex_of h0 h4] at h1
      exact Option.some.inj h1
    exact PySem.W.ki_setAt ho h0 (by omega) (by rw [List.size_toArray, ← hl]; exact h4) (by rw [hk]; exact ⟨_, I', q⟩)
  · have hk : (k + (its.toArray.size : Int)).toNat = j := by
      rw [seqIndex_neg (by omega) h3] at h1
      rw [List.size_toArray, ← hl]
      exact Option.some.inj h1
    exact PySem.W.ki_setBack ho (by omega) (by rw [List.size_toArray, ← hl]; exact h3) (by omega) (by rw [hk]; exact ⟨_, I', q⟩)

/-! ### slices -/
theorem slice_bounds (lo hi : Option Int) (n : Nat) : (sliceBounds lo hi none n).1 = ((HT.sIx n 0 lo : Nat) : Int) ∧ (sliceBounds lo hi none n).2.1 = ((HT.sIx n n hi : Nat) : Int) ∧ (sliceBounds lo hi none n).2.2 = 1 := by
  refine ⟨?_, ?_, rfl⟩
  · cases lo with
    | none => simp [sliceBounds, HT.sIx]
    | some i =>
      simp only [sliceBounds, HT.sIx, Option.getD_none, show (1 : Int) > 0 by decide, if_true]
      by_cases h : i < 0
      · simp only [h, if_true] <;> omega
      · simp only [h, if_false] <;> omega
  · cases hi with
    | none => simp [sliceBounds, HT.sIx]
    | some i =>
      simp only [sliceBounds, HT.sIx, Option.getD_none, show (1 : Int) > 0 by decide, if_true]
      by_cases h : i < 0
      · simp only [h, if_true] <;> omega
      · simp only [h, if_false] <;> omega
theorem slicePick_cut (its : List Value) (lo hi : Option Int) : slicePick its.toArray lo hi none = ((its.drop (HT.sIx its.length 0 lo)).take (HT.sIx its.length its.length hi - HT.sIx its.length 0 lo)).toArray := by
  obtain ⟨h1, h2, h3⟩ := slice_bounds lo hi its.toArray.size
  unfold slicePick
  rw [h1, h2, h3]
  simp only [sliceRange_one, pick_run, List.size_toArray] <;> rfl
/-- xs[lo:hi] of a list: a new list -/
def rSlL (K : PySem.W.Frag) : V → Option Int → Option Int → Hp → VK → Prop := fun x lo hi H Q => ∃ a xs, x = .ref a ∧ SqL K H a xs ∧ ∀ p, H p = none → Q (.ref p) (upd H p (.lst (cutV xs lo hi)))
theorem sl_list : SlR X (rSlL X.K) := by
  intro pins s σ H x v vl vu lo hi sl Q I rx hs pl pu h
  obtain ⟨a, xs, rfl, hx, q⟩ := h
  cases rx
  obtain ⟨its, r, ht, hz⟩ := I.list hx
  have hlen := r.length
  refine ⟨"list", _, slot_list_getitem.lookup, ht.isList.typeIs, ?_⟩
  refine wpAny_getItem_list_slice ht.isList hs pl pu .none (by simp) ?_ (by rw [List.size_toArray] <;> omega)
  rw [slicePick_cut, ← hlen]
  refine ⟨.ref s.heap.objs.size, _, I.laid (t' := s.toks) (o := .lst (cutV xs lo hi)) (fun b ob q => Heap.get?_push_of_some _ q) (Nat.le_refl _) ?_, rfl, q _ (I.hok.fresh (Nat.le_refl _))⟩
  exact ⟨Nat.le_trans (cutV_length xs lo hi) hz, _, 0, (r.drop (HT.sIx xs.length 0 lo)).take (HT.sIx xs.length xs.length hi - HT.sIx xs.length 0 lo), Heap.get?_push_size _ rfl⟩

/-! ### in, not in: flat items -/
def flatV : V → Bool
  | .non => true
  | .bl _ => true
  | .int _ => true
  | .str _ => true
  | _ => false
/-- == of flat values -/
def eqV : V → V → Bool
  | .non, .non => true
  | .bl a, .bl b => a == b
  | .bl a, .int b => (if a then 1 else 0) == b
  | .int a, .bl b => a == (if b then 1 else 0)
  | .int a, .int b => a == b
  | .str a, .str b => a == b
  | _, _ => false
theorem eqAt_V {A : Around} {s : Shared} {y x : V} {u v : Value} (ry : RelV y u) (rx : RelV x v) (fy : flatV y = true) (fx : flatV x = true) : SeqAt.EqAt A s u v (eqV y x) := by
  cases y with
  | non =>
    cases ry
    cases x with
    | non => cases rx; exact SeqAt.EqAt.same _
    | bl b => cases rx; exact SeqAt.EqAt.none_bool b
    | int b => obtain ⟨t, rfl⟩ := rx; exact SeqAt.EqAt.none_int b t
    | str b => obtain ⟨t, rfl⟩ := rx; exact SeqAt.EqAt.none_str b t
    | _ => exact absurd (show false = true from fx) Bool.false_ne_true
  | bl a =>
    cases ry
    cases x with
    | non => cases rx; exact SeqAt.EqAt.bool_none a
    | bl b => cases rx; exact SeqAt.EqAt.bool_bool a b
    | int b => obtain ⟨t, rfl⟩ := rx; exact SeqAt.EqAt.bool_int a b t
    | str b => obtain ⟨t, rfl⟩ := rx; exact SeqAt.EqAt.bool_str a b t
    | _ => exact absurd (show false = true from fx) Bool.false_ne_true
  | int a =>
    obtain ⟨t', rfl⟩ := ry
    cases x with
    | non => cases rx; exact SeqAt.EqAt.int_none a t'
    | bl b => cases rx; exact SeqAt.EqAt.int_bool a t' b
    | int b => obtain ⟨t, rfl⟩ := rx; exact SeqAt.EqAt.int_int a t' b t
    | str b => obtain ⟨t, rfl⟩ := rx; exact SeqAt.EqAt.int_str a t' b t
    | _ => exact absurd (show false = true from fx) Bool.false_ne_true
  | str a =>
    obtain ⟨t', rfl⟩ := ry
    cases x with
    | non => cases rx; exact SeqAt.EqAt.str_none a t'
    | bl b => cases rx; exact SeqAt.EqAt.str_bool a t' b
    | int b => obtain ⟨t, rfl⟩ := rx; exact SeqAt.EqAt.str_int a t' b t
    | str b => obtain ⟨t, rfl⟩ := rx; exact SeqAt.EqAt.str_str a t' b t
    | _ => exact absurd (show false = true from fx) Bool.false_ne_true
  | _ => exact absurd (show false = true from fy) Bool.false_ne_true
/-! ### len, list(x), tuple(x) of any list or tuple that is read -/
theorem call_len_seq : CallR X (.builtin "len") (fun xs H Q => ∃ p ys, xs = [.ref p] ∧ (SqL X.K H p ys ∨ SqT X.K H p ys) ∧ Q (.int ys.length) H) := by
  intro pins s σ H xs us Q I r h
  obtain ⟨p, ys, rfl, hq, q⟩ := h
  obtain ⟨u, rfl, rx⟩ := vals1 r
  cases rx
  have hn := line63
  rcases hq with hq | hq
  · obtain ⟨its, r', pl, hz⟩ := I.list hq
    have hlen := r'.length
    exact Calls.call_len_list pl.isList (by simp only [List.size_toArray] <;> omega) ⟨.int ys.length, H, I.tok _, ⟨s.toks + 1, by rw [List.size_toArray, hlen]⟩, q⟩
  · obtain ⟨its, r', pl, hz⟩ := I.tuple hq
    have hlen := r'.length
    exact len_tuple pl (by simp only [List.size_toArray] <;> omega) ⟨.int ys.length, H, I.tok _, ⟨s.toks + 1, by rw [List.size_toArray, hlen]⟩, q⟩
theorem CallR.or {f : Value} {r r' : List V → Hp → VK → Prop} (h : CallR X f r) (h' : CallR X f r') : CallR X f (fun xs H Q => r xs H Q ∨ r' xs H Q) := by
  intro pins s σ H xs us Q I rs q
  rcases q with q | q
  · exact h pins s σ H xs us Q I rs q
  · exact h' pins s σ H xs us Q I rs q
theorem call_list_of : CallR X (.type "list") (fun xs H Q => ∃ p ys, xs = [.ref p] ∧ (SqL X.K H p ys ∨ SqT X.K H p ys) ∧ ∀ l, H l = none → Q (.ref l) (upd H l (.lst ys))) := by
  intro pins s σ H xs us Q I r h
  obtain ⟨p, ys, rfl, hq, q⟩ := h
  obtain ⟨u, rfl, rx⟩ := vals1 r
  cases rx
  have fin : ∀ (its : List Value), Vals ys its → ys.length ≤ sizeLine → ∀ (h' : Heap) (c' : Nat), (∀ b o', s.heap.get? b = some o' → h'.get? b = some o') →
      h'.get? s.heap.objs.size = some { cls := .type "list", dict := none, data := .seq its.toArray c', slots := #[] } → EP X pins σ Q (.ref s.heap.objs.size) { s with heap := h' } := fun its r' hz h' c' kp e =>
    ⟨.ref s.heap.objs.size, _, I.laid (t' := s.toks) kp (Nat.le_refl _) (show ObjOk X.prog X.w _ h' _ (.lst ys) from ⟨hz, its, c', r', e⟩), rfl, q _ (I.hok.fresh (Nat.le_refl _))⟩
  rcases hq with hq | hq
  · obtain ⟨its, r', pl, hz⟩ := I.list hq
    have hlen := r'.length
    obtain ⟨o, ho, hc, n, hd⟩ := pl.isList
    exact call_list_seq p (.inl rfl) ho hc hd (fun h' c' kp e => fin its r' hz h' c' kp e) (by simp only [List.size_toArray] <;> omega)
  · obtain ⟨its, r', pl, hz⟩ := I.tuple hq
    have hlen := r'.length
    obtain ⟨o, ho, hc, n, hd⟩ := pl
    exact call_list_seq p (.inr rfl) ho hc hd (fun h' c' kp e => fin its r' hz h' c' kp e) (by simp only [List.size_toArray] <;> omega)
theorem call_tuple_of : CallR X (.type "tuple") (fun xs H Q => ∃ p ys, xs = [.ref p] ∧ ((SqL X.K H p ys ∧ ∀ l, H l = none → Q (.ref l) (upd H l (.tup ys))) ∨ (SqT X.K H p ys ∧ Q (.ref p) H))) := by
  intro pins s σ H xs us Q I r h
  obtain ⟨p, ys, rfl, h⟩ := h
  obtain ⟨u, rfl, rx⟩ := vals1 r
  cases rx
  rcases h with ⟨hq, q⟩ | ⟨hq, q⟩
  · obtain ⟨its, r', pl, hz⟩ := I.list hq
    have hlen := r'.length
    refine call_tuple_list pl.isList (fun h' kp => ?_) (by simp only [List.size_toArray] <;> omega)
    have I1 : Inv X pins σ H { s with heap := h' } := I.kept (t' := s.toks) kp
    have I2 : Inv X pins σ (upd H h'.objs.size (.tup ys)) { s with heap := h'.push { cls := .type "tuple", data := .seq its.toArray } } :=
      I1.laid (t' := s.toks) (fun b o e => Heap.get?_push_of_some _ e) (Nat.le_refl _) (show ObjOk X.prog X.w _ _ _ (.tup ys) from ⟨hz, its, r', IsTup.new _ _⟩)
    exact ⟨.ref h'.objs.size, _, I2, rfl, q _ (I1.hok.fresh (Nat.le_refl _))⟩
  · obtain ⟨its, r', pl, hz⟩ := I.tuple hq
    exact call_tuple_same pl ⟨.ref p, H, I, rfl, q⟩

/-! ### the call of a builtin's method: o.m(..) -/
/-- the value is of that builtin type -/
def tyV (K : PySem.W.Frag) (T : String) (x : V) (H : Hp) : Prop := match x with
  | .str _ => T = "str"
  | .int _ => T = "int"
  | .ref p => (T = "list" ∧ ∃ xs, SqL K H p xs) ∨ (T = "tuple" ∧ ∃ o, K.lookup p = some o ∧ o.cls = .type "tuple" ∧ o.dict = none) ∨
      (T = "dict" ∧ ((∃ kvs, H p = some (.dK kvs)) ∨ ∃ kvs, H p = some (.dT kvs))) ∨ (T = "set" ∧ ∃ S n, H p = some (.set S n))
  | _ => False
theorem tyV_is {pins : List (Addr × Obj)} {σ : St} {H : Hp} {s : Shared} {T : String} {x : V} {v : Value} (I : Inv X pins σ H s) (r : RelV x v) (ty : tyV X.K T x H) :
    s.TypeIs v T ∧ ∀ a, v = .ref a → ∃ ob, s.heap.get? a = some ob ∧ ob.dict = none := by
  cases x with
  | str z =>
    obtain ⟨t, rfl⟩ := r
    cases (show T = "str" from ty)
    exact ⟨typeIs_str s z t, fun _ e => nomatch e⟩
  | int i =>
    obtain ⟨t, rfl⟩ := r
    cases (show T = "int" from ty)
    exact ⟨typeIs_int s i t, fun _ e => nomatch e⟩
  | ref p =>
    cases r
    rcases ty with ⟨rfl, xs, hq⟩ | ⟨rfl, o, hk, hc, hd⟩ | ⟨rfl, hk⟩ | ⟨rfl, S, n, hk⟩
    · obtain ⟨its, _, pl, _⟩ := I.list hq
      refine ⟨pl.isList.typeIs, fun a e => ?_⟩
      cases e
      obtain ⟨o, n, e, c, hd, _⟩ := pl
      exact ⟨o, e, hd⟩
    · refine ⟨⟨o, I.kIn p o hk, hc⟩, fun a e => ?_⟩
      cases e
      exact ⟨o, I.kIn _ o hk, hd⟩
    · have z : ∃ o, s.heap.get? p = some o ∧ o.ExactDict := by
        rcases hk with ⟨kvs, hk⟩ | ⟨kvs, hk⟩
        · obtain ⟨_, _, _, _, o, _, _, e, ex, _⟩ := I.hok p _ hk
          exact ⟨o, e, ex⟩
        · obtain ⟨_, _, _, _, o, _, _, e, ex, _⟩ := I.hok p _ hk
          exact ⟨o, e, ex⟩
      obtain ⟨o, e, ex⟩ := z
      refine ⟨⟨o, e, ex.1⟩, fun a e2 => ?_⟩
      cases e2
      exact ⟨o, e, ex.2.1⟩
    · obtain ⟨o, _, _, _, e, ex, _⟩ := I.hok p _ hk
      refine ⟨⟨o, e, ex.1⟩, fun a e2 => ?_⟩
      cases e2
      exact ⟨o, e, ex.2.1⟩
  | _ => exact False.elim ty
def tBM0 (K : PySem.W.Frag) (T : String) (r : V → List V → Hp → VK → Prop) (to : TE) : TE := fun σ H Q => to σ H fun x H1 => tyV K T x H1 ∧ r x [] H1 Q
def tBM (K : PySem.W.Frag) (T : String) (r : V → List V → Hp → VK → Prop) (to : TE) (t : TA) : TE := fun σ H Q => to σ H fun x H1 => tyV K T x H1 ∧ t σ H1 fun xs H2 => r x xs H2 Q
variable {o e : Expr} {es : List Expr} {to : TE} {t : TA} {name : Str} {apos cpos : Pos} {T id : String} {r : V → List V → Hp → VK → Prop}
theorem pe_bm0 (pa : PlainAttrs T) (slot : Slot T name id) (hty : typeOf (.builtin id) = pure (.type "method_descriptor")) (hm : MtR X id r) (ho : PE X o to)
    (hbase : attributeBase o name X.env (eval o X.env) = eval o X.env := by rfl) (hline : (apos.endLine == cpos.line) = true := by rfl) : PE X (.Call (.Attribute o name apos) [] [] cpos) (tBM0 X.K T r to) := by
  intro pins s σ H Q I h
  refine wpAny_Call_method0_late hbase hline (thn (ho pins s σ H _ I h) fun v s1 ⟨x, H1, I1, r1, ty, q1⟩ => ?_)
  obtain ⟨h1, h2⟩ := tyV_is I1 r1 ty
  exact ⟨T, id, pa, slot, hty, h1, h2, Calls.callWith_builtin rfl (PySem.evalArgs_none (hm pins s1 σ H1 x [] v [] Q I1 r1 .nil q1))⟩
theorem pe_bm (pa : PlainAttrs T) (slot : Slot T name id) (hty : typeOf (.builtin id) = pure (.type "method_descriptor")) (hm : MtR X id r) (ho : PE X o to) (ha : PA X (e :: es) t)
    (hbase : attributeBase o name X.env (eval o X.env) = eval o X.env := by rfl)
    (hfew : ((backTo cpos (starEach (e :: es) X.env)).all (fun x => !x.1) && (backToKw cpos (keywordEach [] X.env)).all (fun x => x.1.isSome)
      && decide ((e :: es).length + ([] : List Keyword).length + (if ([] : List Keyword).isEmpty then 0 else 1) < 30)) = true := by rfl)
    (hline : (apos.endLine == cpos.line) = true := by rfl) (hs : starEach (e :: es) X.env = (false, eval e X.env) :: starEach es X.env := by rfl) (hplain : (backTo cpos (starEach es X.env)).any (·.1) = false := by rfl) :
    PE X (.Call (.Attribute o name apos) (e :: es) [] cpos) (tBM X.K T r to t) := by
  intro pins s σ H Q I h
  refine wpAny_Call_method_late hbase hfew hline rfl (thn (ho pins s σ H _ I h) fun v s1 ⟨x, H1, I1, r1, ty, q1⟩ => ?_)
  obtain ⟨h1, h2⟩ := tyV_is I1 r1 ty
  refine ⟨T, id, pa, slot, hty, h1, h2, ?_⟩
  have hA := ha cpos pins s1 σ H1 _ I1 q1
  rw [hs] at hA ⊢
  refine Calls.callWith_builtin (by show (false || (backTo cpos (starEach es X.env)).any (·.1)) = false; rw [hplain] <;> rfl) (Calls.evalArgs_plain ?_)
  exact thn hA fun us s2 ⟨vs, H2, I2, r2, q2⟩ => hm pins s2 σ H2 x vs v us Q I2 r1 r2 q2
/- xs.append(e), list.index on a module's tuple .. are MtR facts of 06m -/
end
end L2

namespace L2
open PySem PySem.Spec PyProof.Rows

def MtM (X : Cx) (id : String) (r : V → List V → Hp → VK → Prop) : Prop :=
  ∀ (pins : List (Addr × Obj)) (s : Shared) (σ : St) (H : Hp) (x : V) (xs : List V) (v : Value) (us : List Value) (Q : VK), Inv X pins σ H s → RelV x v → Vals xs us → r x xs H Q →
    wpAny (model X.prog X.w) X.A (call (.builtin id) (v :: us)) (EP X pins σ Q) X.xe s

/-! ### lists of values -/
theorem Vals.one : ∀ {x : V} {us : List Value}, Vals [x] us → ∃ u, us = [u] ∧ RelV x u
  | _, _, .cons r .nil => ⟨_, rfl, r⟩
theorem Vals.two : ∀ {x y : V} {us : List Value}, Vals [x, y] us → ∃ u v, us = [u, v] ∧ RelV x u ∧ RelV y v
  | _, _, _, .cons r (.cons q .nil) => ⟨_, _, rfl, r, q⟩
theorem Vals.zero : ∀ {us : List Value}, Vals [] us → us = []
  | _, .nil => rfl
theorem Vals.reverse {xs : List V} {us : List Value} (h : Vals xs us) : Vals xs.reverse us.reverse := by
  induction h with
  | nil => exact .nil
  | cons r t ih => rw [List.reverse_cons, List.reverse_cons]; exact Vals.append ih (.cons r .nil)
section
variable {X : Cx} {pins : List (Addr × Obj)} {σ : St} {H : Hp} {s : Shared} {l b : Addr} {xs ys zs : List V}

/-! ### the two steps: a tracked list is rewritten, a new list is laid -/
theorem Inv.lset {its its' : List Value} {n : Nat} {f : Array Value → Array Value} {t' : Nat} (I : Inv X pins σ H s) (hH : H l = some (.lst xs))
    (e : s.heap.get? l = some { cls := .type "list", data := .seq its.toArray n }) (hf : f its.toArray = its'.toArray) (hv : Vals ys its') (hz : ys.length ≤ sizeLine) :
    Inv X pins σ (upd H l (.lst ys)) { s with heap := s.heap.update l (Obj.mapSeq f), toks := t' } := by
  have q := PySem.IsL.update e f
  rw [hf] at q
  refine I.write (x := l) (e := l) (by rw [hH]; exact trivial) (.inl rfl) (fun b' u hb hu => (Heap.get?_update_other s.heap (Obj.mapSeq f) (Ne.symm hb)).trans hu) ⟨_, q⟩ ?_
  exact ⟨hz, its', _, hv, q⟩
theorem Inv.lnew {its : List Value} {t' : Nat} (I : Inv X pins σ H s) (hv : Vals ys its) (hz : ys.length ≤ sizeLine) :
    Inv X pins σ (upd H s.heap.objs.size (.lst ys)) { s with heap := s.heap.push { cls := .type "list", data := .seq its.toArray }, toks := t' } :=
  I.laid (fun _ _ q => Heap.get?_push_of_some _ q) (Nat.le_refl _) ⟨hz, its, 0, hv, Heap.get?_push_size _ rfl⟩
theorem Inv.fresh (I : Inv X pins σ H s) : H s.heap.objs.size = none := I.hok.fresh (Nat.le_refl _)
theorem Inv.lstM (I : Inv X pins σ H s) (hH : H l = some (.lst xs)) : xs.length ≤ sizeLine ∧ ∃ (its : List Value) (n : Nat), Vals xs its ∧ xs.length = its.length ∧ s.heap.get? l = some { cls := .type "list", data := .seq its.toArray n } := by
  obtain ⟨z, its, n, r, e⟩ := I.hok l _ hH
  exact ⟨z, its, n, r, r.length, e⟩

end

section
variable {X : Cx}

/-! ### methods -/
def rAppend : V → List V → Hp → VK → Prop := fun x vs H Q => ∃ l xs y, x = .ref l ∧ vs = [y] ∧ H l = some (.lst xs) ∧ xs.length < sizeLine ∧ Q .non (upd H l (.lst (xs ++ [y])))
theorem mt_append : MtM X "list.append" rAppend := by
  intro pins s σ H x vs v us Q I rx rv h
  obtain ⟨l, xs, y, rfl, rfl, hH, hz, q⟩ := h
  cases rx
  obtain ⟨u, rfl, ru⟩ := rv.one
  obtain ⟨z, its, n, r, hl, e⟩ := I.lstM hH
  refine call_meets F.slot_list_append ⟨_, e, rfl⟩ F.entry_list_append (F.args_list_append_2 _ _) (PySem.list_append l its.toArray n u (by rw [List.size_toArray]; omega)) ⟨e, ?_⟩
  refine ⟨.non, _, I.lset (its' := its ++ [u]) hH e (by simp) (r.append (.cons ru .nil)) ?_, rfl, q⟩
  rw [List.length_append, List.length_singleton]
  omega

def rClear : V → List V → Hp → VK → Prop := fun x vs H Q => ∃ l xs, x = .ref l ∧ vs = [] ∧ H l = some (.lst xs) ∧ Q .non (upd H l (.lst []))
theorem mt_clear : MtM X "list.clear" rClear := by
  intro pins s σ H x vs v us Q I rx rv h
  obtain ⟨l, xs, rfl, rfl, hH, q⟩ := h
  cases rx
  have hus := rv.zero
  subst hus
  obtain ⟨z, its, n, r, hl, e⟩ := I.lstM hH
  refine call_meets F.slot_list_clear ⟨_, e, rfl⟩ F.entry_list_clear (F.args_list_clear_1 _) (AutoSeq1.list_clear_list_0 l its.toArray n (by rw [List.size_toArray]; omega)) ⟨e, ?_⟩
  exact ⟨.non, _, I.lset (its' := []) (ys := []) hH e rfl .nil (Nat.zero_le _), rfl, q⟩

/-! ### list + list, list += list, list * int -/
def rCat : R2 := fun x y H Q => ∃ l b xs zs, x = .ref l ∧ y = .ref b ∧ H l = some (.lst xs) ∧ H b = some (.lst zs) ∧ xs.length + zs.length ≤ sizeLine ∧ ∀ p, H p = none → Q (.ref p) (upd H p (.lst (xs ++ zs)))
theorem op_cat : OpR X (binaryOp .Add) rCat := by
  intro pins s σ H x y v u Q I rx ry h
  obtain ⟨l, b, xs, zs, rfl, rfl, hH, hB, hz, q⟩ := h
  cases rx
  cases ry
  obtain ⟨z, its, n, r, hl, e⟩ := I.lstM hH
  obtain ⟨z2, its2, n2, r2, hl2, e2⟩ := I.lstM hB
  refine PySem.P.add_list e e2 ?_ (by rw [List.size_toArray, List.size_toArray]; omega)
  have ea : its.toArray ++ its2.toArray = (its ++ its2).toArray := by simp
  rw [ea]
  exact ⟨.ref _, _, I.lnew (t' := s.toks) (r.append r2) (by rw [List.length_append]; omega), rfl, q _ I.fresh⟩
/-! ### del xs[i] -/
end

/-! ### xs[a:b] = ys -/
section
variable {prog : Program} {w : World} {A : Around} {E : Value → Shared → Prop} {s : Shared}
set_option maxRecDepth 100000 in
end

section
variable {X : Cx}
end
end L2

namespace Att
open PySem PySem.W PySem.Calls PyProof.Rows

/-! ### the script -/
theorem ints_of_wellAll {P : Params} {h : Heap} : ∀ (ns : List Int) (vs : List Value), WellAll P h vs (ns.map WData.int) → IntsAre vs ns := by
  intro ns
  induction ns with
  | nil =>
    intro vs w
    rw [List.map_nil] at w
    cases w
    exact .nil
  | cons n ns ih =>
    intro vs w
    rw [List.map_cons] at w
    cases w with
    | cons a b =>
      cases a
      exact .cons _ _ (ih _ b)

theorem script_of {l : OpenLaw} {n : Nat} (hn : l.most = some n) {P : Params} {h : Heap} {args : List WData} {vals : List Value}
    (hpre : l.row.toRowW.claim.pre args = true) (hwl : WellAll P h vals args) :
    ∃ a vs ns, vals = [Value.ref a] ∧ args = [WData.list (ns.map WData.int)] ∧ h.get? a = some { cls := .type "list", data := .seq vs.toArray } ∧ IntsAre vs ns ∧ ns.length ≤ n := by
  have hsh : WShape.hasAll [] args [.list .int] = true := (pre_splitW hpre).1
  have hc : l.pre.holds [] { args := args } = true := (pre_splitW hpre).2
  obtain ⟨d, r, rfl, h1, h2⟩ := hasAllW_cons hsh
  obtain rfl := hasAllW_nil h2
  obtain ⟨xs, rfl, h3⟩ := hasW_list h1
  obtain ⟨ns, rfl⟩ := items_int h3
  have hlen : ns.length ≤ n := by
    unfold OpenLaw.pre at hc
    have h4 : (WTm.not (.lt (.lit (.int (n : Int))) (.len (.arg 0)))).holds [] { args := [.list (ns.map .int)] } = true := by
      have h4 := (holds_andW hc).1
      rw [hn] at h4
      exact h4
    have h5 := condW_of h4 (w_not (w_lt w_lit (w_len_list (w_arg rfl))))
    rw [List.length_map] at h5
    refine Nat.le_of_not_lt fun q => ?_
    have q' : (n : Int) < ((ns.length : Nat) : Int) := by omega
    first
      | (rw [decide_eq_true q'] at h5; exact absurd h5 (by decide))
      | (simp at h5; omega)
  cases hwl with
  | cons w1 w2 =>
    cases w2
    cases w1 with
    | list ho hall => exact ⟨_, _, ns, rfl, rfl, ho, ints_of_wellAll ns _ hall, hlen⟩

theorem post_true (l : OpenLaw) (args : List WData) : l.row.toRowW.claim.post args (.bool true) args = true :=
  postW_of (r := l.row.toRowW) (X := (true == true))
    (show WShape.has [] (.bool true) .bool = true by first | rfl | decide | simp [WShape.has, WShape.arms, WShape.armsAll])
    (show (WTm.eq .res (.lit (.bool true))).value [] { args := args, res := some (.bool true), after := args } = some (.bool (true == true)) from w_eq_bool (w_res rfl) w_lit) rfl

/-! ### the attachment: holds_open's last premise (the goal 'hc' behind k_head) from a wpAny of the law's body -/
/-- the same from a codeAny of the CALL (for a layer whose function contracts speak of calls) -/
theorem attach_call {l : OpenLaw} {n : Nat} {q : Program} {loose : List Str} {XP : (Str → Option Value) → Heap → Prop} {YP : World → Heap → Prop} {d : DefRec}
    (hn : l.most = some n) (hdf : d.params.defaults = [])
    (call : ∀ (w : World) (s₀ s₁ : Shared) (mg mb : Str → Option Value) (fa : Addr) (o : Obj) (pm cd doc : Value) (a : Addr) (vs : List Value) (ns : List Int),
      Ground q loose [] XP w s₀ mg mb s₁.heap → YP w s₁.heap →
      s₁.heap.get? fa = some o → o.data = .func (docDef d.name d.params d.body d.scope pm cd doc) → s₁.heap.CodeRec cd d.name → mg d.name = some (.ref fa) →
      s₁.heap.get? a = some { cls := .type "list", data := .seq vs.toArray } → IntsAre vs ns → ns.length ≤ n → s₁.gens = #[] →
      codeAny (model l.prog w) callerA (.call (.ref fa) ⟨[.ref a], []⟩) (fun r s' => r = .ok (.ret (.bool true)) ∧ OldK s₁.heap s'.heap ∧ s'.os = s₁.os ∧ AllBare s'.gens) s₁) :
    WalkO q loose XP YP l.row.toRowW d [] (fun f vs => PySem.call f vs) := by
  intro w s₀ s₁ mg mb G Y fa o pm cd doc dV kV ho hd hcd hD hmg hg args vals as hpre hlay hrd hwl hlo
  obtain rfl : dV = .none := Dflts.none hD hdf
  obtain rfl : kV = .none := Dflts.noKw hD
  obtain ⟨a, vs, ns, rfl, rfl, hobj, hints, hlen⟩ := script_of hn hpre hwl
  refine enter_call (codeAny_mono (call w s₀ s₁ mg mb fa o pm cd doc a vs ns G Y ho (fd_plain hd) hcd hmg hobj hints hlen hg) fun r s' hq => ?_)
  obtain ⟨rfl, h2, h3, h4⟩ := hq
  exact ⟨.inl ⟨.bool true, .bool true, [], rfl, fun _ => rfl, .bool true, post_true l _, fun _ => ⟨List.Pairwise.nil, fun _ hm => (nomatch hm)⟩⟩, h2, h3, h4⟩

/-! ### rules over ANY heap (no ledger) from facts about the written part K: the library's own take a ledger (News) for what they write -/
section
variable {prog : Program} {w : World} {A : Around} {E : Value → Shared → Prop} {s : Shared} {K : Frag}

/-! the whole heap as the ledger: makes every rule that writes through a ledger a rule over any heap -/
def ledger (h : Heap) (L d : Addr) : List (Addr × Obj) := (List.range h.objs.size).filterMap fun a => if a = L ∨ a = d then none else (h.get? a).map fun o => (a, o)
end
end Att

namespace L2
open PySem PySem.Spec PyProof.Rows

theorem vals_ints : ∀ {vs : List Value} {ns : List Int}, IntsAre vs ns → Vals (ns.map V.int) vs
  | _, _, .nil => .nil
  | _, _, .cons n t h => .cons ⟨t, rfl⟩ (vals_ints h)

/-- nothing is tracked but the script, known to the object (or it is an object of the module) -/
def Only (H : Hp) : Prop := ∀ b, H b = none ∨ ∃ o xs, H b = some (.frz o (.lst xs))

/-- THE HEAD: the law's promise, at the heap behind the top. F, the promise of the law's def, may use that base is part of the heap (so K.In base, base.Ns mainGlobals mg stand in Mod) -/
theorem law_call {P : Program} {w : World} {K : PySem.W.Frag} {mg mb : Str → Option Value} {CX : CXT} {k : Nat} {fa a : Addr} {fd : FuncData} {x : Str} {sp : Sp} {s₁ : Shared} {vs : List Value} {ns : List Int}
    (KX : K.In s₁.heap) (hns : s₁.heap.Ns mainGlobals mg) (hb : s₁.heap.Ns builtinsNs mb) (hbb : ∀ x : Str, x ≠ "__name__" → mb x = bootBuiltins x) (hlim : s₁.heap.NoLimit) (hg : s₁.gens = #[])
    (ha : s₁.heap.get? a = some { cls := .type "list", data := .seq vs.toArray }) (hi : IntsAre vs ns) (hl : ns.length ≤ sizeLine) (hr : Room k callerA)
    (F : ∀ base : Heap, K.In base → base.Ns mainGlobals mg → FnOk P w K mg base CX k fa fd [x] sp) (hbind : ∀ (s : Shared) (u : Value), BindsTo s fd ⟨[u], []⟩ [(x, u)])
    (hsp : ∀ H : Hp, Only H → SqL K H a (ns.map V.int) → sp [.ref a] H (fun v _ => v = .bl true) fun _ _ _ => False)
    (hCX : ∀ H e s', CX [] H s₁ (fun _ _ _ => False) e s' → False) :
    codeAny (model P w) callerA (.call (.ref fa) ⟨[.ref a], []⟩) (fun r s' => r = .ok (.ret (.bool true)) ∧ OldK s₁.heap s'.heap ∧ s'.os = s₁.os ∧ AllBare s'.gens) s₁ := by
  have rv := vals_ints hi
  have lenV := hi.length
  -- from an abstract heap in which nothing but the script may be tracked
  have core : ∀ H : Hp, Only H → SqL K H a (ns.map V.int) → HOk P w H s₁.heap → (∀ b, H b ≠ none → b = a) → (H a ≠ none → K.lookup a = none) →
      codeAny (model P w) callerA (.call (.ref fa) ⟨[.ref a], []⟩) (fun r s' => r = .ok (.ret (.bool true)) ∧ OldK s₁.heap s'.heap ∧ s'.os = s₁.os ∧ AllBare s'.gens) s₁ := by
    intro H hO hS hok hA hK
    have base_of : ∀ {b : Addr} {o : Obj}, s₁.heap.get? b = some o → H b = none → (hidT s₁.heap H).get? b = some o := fun e n => hidT_get e n
    have noA : ∀ {b : Addr} {o : Obj} {es : Array DictEntry} {ep : Nat}, s₁.heap.get? b = some o → o.data = .dict es ep → H b = none := fun {b o es ep} e d => by
      cases q : H b with
      | none => rfl
      | some u =>
        have e' : b = a := hA b (by rw [q]; simp)
        subst e'
        rw [ha] at e; cases e
        have d' : Data.seq vs.toArray _ = Data.dict es ep := d
        cases d'
    have nsK : ∀ {b : Addr} {m : Str → Option Value}, s₁.heap.Ns b m → (hidT s₁.heap H).Ns b m := fun {b m} ⟨o, es, ep, e, d, r⟩ => ⟨o, es, ep, base_of e (noA e d), d, r⟩
    have hKb : K.In (hidT s₁.heap H) := fun b o e => base_of (KX b o e) (by
      cases q : H b with
      | none => rfl
      | some u =>
        have e' : b = a := hA b (by rw [q]; simp)
        subst e'
        rw [hK (by rw [q]; simp)] at e; cases e)
    have hM : Mod K mg (hidT s₁.heap H) := ⟨hKb, nsK hns, ⟨mb, nsK hb, hbb⟩, let ⟨mc, h1, h2⟩ := hlim; ⟨mc, nsK h1, h2⟩⟩
    have e0 : Env0 P w K mg (hidT s₁.heap H) callerA [] s₁ H := ⟨rfl, hM, fun b o e => of_hidT e, Nat.le_of_eq (hidT_size _ _), trivial, fun b hb => absurd (show b ∈ ([] : List Addr) from hb) (by simp), hok, .of_eq hg⟩
    refine codeAny_mono ((F _ hKb (nsK hns)).run callerA [] s₁ H ⟨[.ref a], []⟩ [.ref a] [.ref a] _ _ hr e0 (hbind s₁ (.ref a)) (.cons rfl .nil) (hsp H hO hS)) fun r s' h => ?_
    cases r with
    | error e => exact (hCX H e s' h).elim
    | ok fl =>
      cases fl with
      | next => exact False.elim h
      | brk => exact False.elim h
      | cont => exact False.elim h
      | ret u =>
        obtain ⟨v, H', os, bare, un, hok', r', q⟩ := h
        have q' : v = .bl true := q
        subst q'
        obtain rfl : u = Value.bool true := r'
        refine ⟨rfl, OldK.of_keep fun b o e => ?_, os, bare⟩
        cases q : H b with
        | none => exact un.keep b o e q (by intro z; exact absurd (show b ∈ ([] : List Addr) from z) (by simp)) (by simp)
        | some u =>
          rcases hO b with z | ⟨ob, xs, z⟩
          · rw [q] at z; cases z
          · have z2 := un.frzs b ob _ z
            obtain ⟨e1, _⟩ := hok b _ z
            obtain ⟨e2, _⟩ := hok' b _ z2
            rw [e] at e1; cases e1
            exact e2
  cases hk : K.lookup a with
  | some o =>
    -- the script is one of the module's own objects
    have e := KX a o hk
    rw [ha] at e
    cases e
    refine core (fun _ => none) (fun _ => .inl rfl) (.inr ⟨_, vs.toArray, _, hk, rfl, rfl, rfl, by rw [List.size_toArray, lenV]; exact hl, by simpa using rv⟩) (fun b u z => by have z' : (none : Option HO) = some u := z; cases z') (fun b z => absurd rfl z) fun z => absurd rfl z
  | none =>
    refine core (fun b => if b = a then some (.frz { cls := .type "list", data := .seq vs.toArray } (.lst (ns.map V.int))) else none) (fun b => ?_) (.inl (.inr ⟨{ cls := .type "list", data := .seq vs.toArray }, if_pos rfl⟩)) (fun b u z => ?_) (fun b z => ?_) fun _ => hk
    · by_cases hb : b = a
      · exact .inr ⟨_, _, if_pos hb⟩
      · exact .inl (if_neg hb)
    · by_cases hb : b = a
      · have z' := (if_pos hb).symm.trans z
        cases z'
        subst hb
        exact ⟨ha, by rw [List.length_map]; exact hl, vs, _, rv, ha⟩
      · have z' := (if_neg hb).symm.trans z
        cases z'
    · by_cases hb : b = a
      · exact hb
      · exact absurd (if_neg hb) z
end L2

namespace L2
open PySem PySem.Spec PyProof.Rows

abbrev KOf {K : PySem.W.Frag} {h : Heap} (_ : K.In h) : PySem.W.Frag := K

/-- the goal that k_head leaves (case hc), from the law's promise. F gives the function object fd (K's own) once, then the promise over every base -/
theorem walk_of {l : PySem.W.OpenLaw} {n k : Nat} {q : Program} {loose : List Str} {XP : (Str → Option Value) → Heap → Prop} {YP : World → Heap → Prop} {d : DefRec} {K : Params → PySem.W.Frag} {CX : World → CXT} {sp : World → Sp} {x : Str}
    (hn : l.most = some n) (hn2 : n ≤ sizeLine) (hdf : d.params.defaults = []) (hr : Room k callerA)
    (hY : ∀ (w : World) (h : Heap), YP w h → (K w.params).In h)
    (F : ∀ (w : World) (mg : Str → Option Value) (fa : Addr) (h : Heap), (K w.params).In h → h.Ns mainGlobals mg → mg d.name = some (.ref fa) →
      ∃ fd : FuncData, (∀ (s : Shared) (u : Value), BindsTo s fd ⟨[u], []⟩ [(x, u)]) ∧
        ∀ base : Heap, (K w.params).In base → base.Ns mainGlobals mg → FnOk l.prog w (K w.params) mg base (CX w) k fa fd [x] (sp w))
    (hsp : ∀ (w : World) (H : Hp) (a : Addr) (ns : List Int), ns.length ≤ n → Only H → SqL (K w.params) H a (ns.map V.int) → sp w [.ref a] H (fun v _ => v = .bl true) fun _ _ _ => False)
    (hCX : ∀ (w : World) (H : Hp) (s : Shared) (e : Value) (s' : Shared), CX w [] H s (fun _ _ _ => False) e s' → False) :
    PySem.W.WalkO q loose XP YP l.row.toRowW d [] (fun f vs => PySem.call f vs) := by
  refine Att.attach_call hn hdf fun w s₀ s₁ mg mb fa o pm cd doc a vs ns G Y ho hd hcd hmg hobj hints hlen hg => ?_
  have KX := hY w _ Y
  obtain ⟨fd, hb, hF⟩ := F w mg fa _ KX G.T.g hmg
  exact law_call KX G.T.g G.T.b G.T.builtins G.T.nolimit hg hobj hints (Nat.le_trans hlen hn2) hr hF hb (fun H hO hS => hsp w H a ns hlen hO hS) fun H e s' => hCX w H s₁ e s'
end L2

/- THE LAST THEOREM (shape; LID, My.* are yours):
   My.Adr: a structure of the addresses that your layer names (classes, functions); My.Txt K t: a structure (Prop) of the equations over K;
   My.txt_mk : {K} {implicit addresses ..} (e1 : nsIn K mainGlobals "law" = some (some (.ref f))) (e2 : K.lookup f = some ⟨oc, od, .func (fnOf "law" "law" params body scope dV kV doc pm an cdv ct), sl⟩) (e3 : codeIn K cdv "law" = true) .. : ∃ t, My.Txt K t

set_option maxRecDepth 100000 in
set_option maxHeartbeats 0 in
theorem PySem.Challenge.cw_LID_holds : PySem.Challenge.rw_LID.Holds := by
  w_on; o_law; k_head; (case hw => w_witness2)
  k_fill
  refine L2.walk_of (l := PySem.Challenge.rw_LID) (n := 63) (k := 40) (x := "script") (CX := fun w => ..) (sp := fun _ => My.sp_law) rfl (by decide) rfl ⟨rfl, by decide, by decide⟩ (fun w h Y => PySem.W.kIn_of Y) ?F ?S ?C
  case F =>
    intro w mg fa h KX G hmg
    have T : ∃ t, My.Txt (L2.KOf KX) t := by
      dsimp only [L2.KOf]                          -- K must stand as «<heap const> w.params» for k_is
      refine' My.txt_mk ?e1 ?e2 ?e3 ..
      (case e1 => PySem.W.k_is)                    -- in the order: a name -> its address -> its object -> its parts
      (case e2 => PySem.W.k_is)
      ..
    obtain ⟨t, T⟩ := T
    have e0 := hmg.symm.trans (PySem.W.mg_of KX G T.law)
    cases e0                                       -- fa is the law's own address
    exact ⟨_, fun s u => .of_eq rfl, fun base kb nb => My.law_fn T kb nb⟩     -- if «.of_eq rfl» comes too early: refine' ⟨_, ?b, fun base kb nb => My.law_fn T kb nb⟩; exact fun s u => .of_eq rfl
  case S => exact fun w H a ns hl hO hS => ..
  case C => exact ..
(the tactic k_is has no namespace: write k_is) -/

/-! SHORT WORDS over the layer: a def of the text, its body, what a loop and a test want. -/
namespace L2
open PySem PySem.Spec PyProof.Rows

/-! ### the text by places -/
/-- the j-th statement of a class's body -/
def inClass (s : Stmt) (j : Nat) : Stmt := match s with
  | .ClassDef _ _ _ body _ _ _ _ _ _ _ => body.getD j (.Pass ⟨0, 0, 0, 0⟩)
  | _ => .Pass ⟨0, 0, 0, 0⟩
def defArgs (s : Stmt) : Arguments := match s with
  | .FunctionDef _ a _ _ _ _ _ _ _ _ => a
  | _ => { posonlyargs := [], args := [], vararg := none, kwonlyargs := [], kw_defaults := [], kwarg := none, defaults := [] }
def defBody (s : Stmt) : List Stmt := match s with
  | .FunctionDef _ _ b _ _ _ _ _ _ _ => b
  | _ => []
def defScope (s : Stmt) : Scope := match s with
  | .FunctionDef _ _ _ _ _ _ sc _ _ _ => sc
  | _ => { kind := .function, names := [], isGenerator := false, isCoroutine := false }

/-! ### no exception leaves a def -/
abbrev CX0 : CXT := fun _ _ _ _ _ _ => False
abbrev E0 : XK := fun _ _ _ => False
theorem pass0 {X : Cx} : Passes CX0 X E0 := fun _ _ _ _ _ _ _ h => h.elim

/-! ### a def (or method) of the text as it stands behind the top -/
structure Fun (K : PySem.W.Frag) (x qual : Str) (st : Stmt) (f : Addr) (fd : FuncData) : Prop where
  ex : ∃ (oc : Value) (od : Option Addr) (kV doc pm : Value) (an : Option Addr) (cdv ct : Value) (osl : Array (Option Value)),
    fd = PySem.W.fnOf x qual (defArgs st) (defBody st) (defScope st) .none kV doc pm an cdv ct ∧ K.lookup f = some ⟨oc, od, .func fd, osl⟩ ∧ PySem.W.codeIn K cdv qual = true
  kp : PySem.W.keepIn K (.ref f) = true
section
variable {P : Program} {w : World} {K : PySem.W.Frag} {mg : Str → Option Value} {base : Heap}
/-- THE RULE for a def: its body as a term of rules, and the reading of that term -/
theorem Fun.ok {x qual : Str} {st : Stmt} {f : Addr} {fd : FuncData} {N ps : List Str} {k : Nat} {sp : Sp} (F : Fun K x qual st f fd) (S : FnScope N ps (defScope st)) (len : ∀ vs H Q E, sp vs H Q E → vs.length = ps.length)
    (hbody : ∀ (cdv : Value) (A : Around) (outer : List Env) (s : Shared) (H : Hp) (vs : List V) (Q : VK) (E : XK), Room k (A.deeper (envOfC qual (defScope st) s.heap.objs.size f cdv)) → sp vs H Q E →
      ∃ t, PSs (cxOf CX0 P w K mg base N qual (defScope st) f cdv A outer s H E).nox (defBody st) t ∧ t { nx := fun _ H' => Q .non H', rt := Q } (start N vs) H) : FnOk P w K mg base CX0 (k + 1) f fd ps sp := by
  obtain ⟨oc, od, kV, doc, pm, an, cdv, ct, osl, rfl, lk, hcd⟩ := F.ex
  refine fn_of lk hcd S len fun A outer s H vs Q E hr hsp => ?_
  obtain ⟨t, h, q⟩ := hbody cdv A outer s H vs Q E hr hsp
  exact ⟨t, h.nox, q⟩
/-- how its arguments bind (no defaults): h is «fun _ _ _ _ _ _ us hl => match us, hl with | [_, _], _ => rfl», one _ a parameter -/
theorem Fun.binds {x qual : Str} {st : Stmt} {f : Addr} {fd : FuncData} {ps : List Str} (F : Fun K x qual st f fd)
    (h : ∀ (kV doc pm : Value) (an : Option Addr) (cdv ct : Value) (us : List Value), us.length = ps.length → bindArgs (PySem.W.fnOf x qual (defArgs st) (defBody st) (defScope st) .none kV doc pm an cdv ct) ⟨us, []⟩ = pure (ps.zip us)) : Binds K fd ps [] := by
  obtain ⟨oc, od, kV, doc, pm, an, cdv, ct, osl, rfl, lk, hcd⟩ := F.ex
  exact .all (h kV doc pm an cdv ct)
theorem fun_mk {x qual : Str} {st : Stmt} {f : Addr} {oc : Value} {od an : Option Addr} {osl : Array (Option Value)} {kV doc pm cdv ct : Value} (l : K.lookup f = some ⟨oc, od, .func (PySem.W.fnOf x qual (defArgs st) (defBody st) (defScope st) .none kV doc pm an cdv ct), osl⟩)
    (c : PySem.W.codeIn K cdv qual = true) (k : PySem.W.keepIn K (.ref f) = true) : Fun K x qual st f (PySem.W.fnOf x qual (defArgs st) (defBody st) (defScope st) .none kV doc pm an cdv ct) := ⟨⟨oc, od, kV, doc, pm, an, cdv, ct, osl, rfl, l, c⟩, k⟩
end
theorem small1000 {n : Nat} (h : n ≤ 1000) : n < sizeLine := Nat.lt_of_le_of_lt h (by decide)

/-! ### expressions in short: the name that stands in the i-th slot -/
section
variable {X : Cx}
theorem pv (i : Nat) {x : Str} {pos : Pos} (hN : X.N[i]? = some x := by rfl) (hv : Vis X.env.scope x := by first | exact Or.inl rfl | exact Or.inr (Or.inl rfl) | exact Or.inr (Or.inr rfl)) (hd : (x == ("__debug__" : Str)) = false := by decide)
    (hcd : (x == ("__classdict__" : Str)) = false := by decide) : PE X (.Name x pos) (tVar i) := pe_var hN hv hd hcd
end

/-! ### tests -/
theorem iteF {A B : Prop} (h : B) : if false = true then A else B := by
  rw [if_neg Bool.false_ne_true]
  exact h
theorem iteT {A B : Prop} (h : A) : if true = true then A else B := by
  rw [if_pos rfl]
  exact h
theorem ite2 {c A B : Prop} [Decidable c] (h1 : c → A) (h2 : ¬ c → B) : if c then A else B := by
  by_cases h : c
  · rw [if_pos h]
    exact h1 h
  · rw [if_neg h]
    exact h2 h
theorem iteNS {c A B : Prop} [Decidable c] (hc : c) (h : B) : if (!decide c) = true then A else B := by
  rw [decide_eq_true hc]
  exact iteF h

/-! ### heaps -/
/-- all that was tracked is as it was -/
def Same (H H' : Hp) : Prop := ∀ b o, H b = some o → H' b = some o
theorem Same.refl (H : Hp) : Same H H := fun _ _ h => h
theorem Same.trans {H H1 H2 : Hp} (a : Same H H1) (b : Same H1 H2) : Same H H2 := fun c o h => b c o (a c o h)
theorem Same.free {H H' : Hp} (e : Same H H') {l : Addr} (h : H' l = Option.none) : H l = Option.none := by
  cases q : H l with
  | none => rfl
  | some o =>
    rw [e l o q] at h
    cases h
theorem Same.seq {K : PySem.W.Frag} {H H' : Hp} {a : Addr} {xs : List V} (e : Same H H') (h : SqL K H a xs) : SqL K H' a xs := by
  rcases h with (h | ⟨o, h⟩) | h
  · exact .inl (.inl (e _ _ h))
  · exact .inl (.inr ⟨o, e _ _ h⟩)
  · exact .inr h

end L2
set_option Elab.async false
set_option linter.all false
set_option maxRecDepth 100000
set_option maxHeartbeats 1000000
namespace L2
open PySem PySem.Spec PyProof.Rows

/-! ### lists of pairs as tables -/
section
variable {κ : Type} [DecidableEq κ]
def valV (kvs : List (κ × V)) (k : κ) : Option V := (kvs.find? fun kv => decide (kv.1 = k)).map (·.2)
/-- in its place, or at the end -/
def putK (kvs : List (κ × V)) (k : κ) (v : V) : List (κ × V) :=
  if (kvs.any fun kv => decide (kv.1 = k)) = true then kvs.map (fun kv => if kv.1 = k then (kv.1, v) else kv) else kvs ++ [(k, v)]
def dropK (kvs : List (κ × V)) (k : κ) : List (κ × V) := kvs.filter fun kv => decide (kv.1 ≠ k)

theorem valV_pos {p : κ × V} {r : List (κ × V)} {k : κ} (e : p.1 = k) : valV (p :: r) k = some p.2 := by simp [valV, List.find?_cons, e]
theorem valV_neg {p : κ × V} {r : List (κ × V)} {k : κ} (e : ¬ p.1 = k) : valV (p :: r) k = valV r k := by simp [valV, List.find?_cons, e]
theorem valV_any (k : κ) : ∀ kvs : List (κ × V), (kvs.any fun kv => decide (kv.1 = k)) = (valV kvs k).isSome
  | [] => rfl
  | p :: r => by
    rw [List.any_cons]
    by_cases e : p.1 = k
    · simp only [valV_pos e, decide_eq_true e, Bool.true_or, Option.isSome_some]
    · rw [valV_neg e, decide_eq_false e, Bool.false_or]; exact valV_any k r
theorem length_putK (kvs : List (κ × V)) (k : κ) (v : V) : (putK kvs k v).length ≤ kvs.length + 1 := by
  unfold putK
  split
  · rw [List.length_map]; omega
  · rw [List.length_append, List.length_cons, List.length_nil]; omega
theorem putK_new {kvs : List (κ × V)} {k : κ} (v : V) (h : valV kvs k = none) : putK kvs k v = kvs ++ [(k, v)] := by
  unfold putK
  rw [valV_any, h]
  exact if_neg (by decide)

theorem RelO.isSome_eq {o : Option V} {u : Option Value} (r : RelO o u) : o.isSome = u.isSome := by
  cases o with
  | none => cases u with
    | none => rfl
    | some _ => exact (show False from r).elim
  | some _ => cases u with
    | none => exact (show False from r).elim
    | some _ => rfl
theorem RelO.getD {o : Option V} {u : Option Value} {d : V} {d' : Value} (r : RelO o u) (rd : RelV d d') : RelV (o.getD d) (u.getD d') := by
  cases o with
  | none => cases u with
    | none => exact rd
    | some _ => exact (show False from r).elim
  | some _ => cases u with
    | none => exact (show False from r).elim
    | some _ => exact r

/-- raw tables of the same keys -/
theorem KV.val {kvs : List (κ × V)} {vs : List (κ × Value)} (r : KV kvs vs) (k : κ) : RelO (valV kvs k) (valueAt vs k) := by
  unfold KV at r
  induction r with
  | nil => exact True.intro
  | @cons p q ps qs h t ih =>
    obtain ⟨h1, h2⟩ := h
    by_cases e : p.1 = k
    · have e' : q.1 = k := h1.symm.trans e
      have b : valueAt (q :: qs) k = some q.2 := by simp [valueAt, List.find?_cons, e']
      rw [valV_pos e, b]; exact h2
    · have e' : ¬ q.1 = k := fun z => e (h1.trans z)
      have b : valueAt (q :: qs) k = valueAt qs k := by simp [valueAt, List.find?_cons, e']
      rw [valV_neg e, b]; exact ih
theorem KV.any {kvs : List (κ × V)} {vs : List (κ × Value)} (r : KV kvs vs) (k : κ) : (kvs.any fun kv => decide (kv.1 = k)) = vs.any fun kv => decide (kv.1 = k) := by
  unfold KV at r
  induction r with
  | nil => rfl
  | cons h t ih => rw [List.any_cons, List.any_cons, ih, h.1]
theorem KV.repl {kvs : List (κ × V)} {vs : List (κ × Value)} (r : KV kvs vs) (k : κ) {y : V} {u : Value} (ry : RelV y u) :
    KV (kvs.map fun kv => if kv.1 = k then (kv.1, y) else kv) (vs.map fun kv => if kv.1 = k then (kv.1, u) else kv) := by
  unfold KV at r ⊢
  induction r with
  | nil => exact .nil
  | @cons p q ps qs h t ih =>
    rw [List.map_cons, List.map_cons]
    refine .cons ?_ ih
    obtain ⟨h1, h2⟩ := h
    by_cases e : p.1 = k
    · rw [if_pos e, if_pos (h1.symm.trans e)]; exact ⟨h1, ry⟩
    · rw [if_neg e, if_neg (fun z => e (h1.trans z))]; exact ⟨h1, h2⟩
theorem KV.put {kvs : List (κ × V)} {vs : List (κ × Value)} (r : KV kvs vs) (k : κ) {y : V} {u : Value} (ry : RelV y u) : KV (putK kvs k y) (stored vs k u) := by
  unfold putK stored
  rw [r.any k]
  by_cases e : (vs.any fun kv => decide (kv.1 = k)) = true
  · rw [if_pos e, if_pos e]; exact r.repl k ry
  · rw [if_neg e, if_neg e]; exact Paired.snoc r ⟨rfl, ry⟩
theorem KV.drop {kvs : List (κ × V)} {vs : List (κ × Value)} (r : KV kvs vs) (k : κ) : KV (dropK kvs k) (without vs k) := by
  unfold KV at r ⊢
  unfold dropK without
  induction r with
  | nil => exact .nil
  | @cons p q ps qs h t ih =>
    obtain ⟨h1, h2⟩ := h
    rw [List.filter_cons, List.filter_cons]
    by_cases e : p.1 = k
    · have a : ¬ decide (p.1 ≠ k) = true := by simp [e]
      have b : ¬ decide (q.1 ≠ k) = true := by simp [h1.symm.trans e]
      rw [if_neg a, if_neg b]; exact ih
    · have e' : ¬ q.1 = k := fun z => e (h1.trans z)
      have a : decide (p.1 ≠ k) = true := by simp [e]
      have b : decide (q.1 ≠ k) = true := by simp [e']
      rw [if_pos a, if_pos b]; exact .cons ⟨h1, h2⟩ ih
theorem KV.keys {kvs : List (κ × V)} {vs : List (κ × Value)} (r : KV kvs vs) : kvs.map (·.1) = vs.map (·.1) := by
  unfold KV at r
  induction r with
  | nil => rfl
  | cons h t ih => rw [List.map_cons, List.map_cons, ih, h.1]
theorem KV.length {kvs : List (κ × V)} {vs : List (κ × Value)} (r : KV kvs vs) : kvs.length = vs.length := Paired.length r
end


/-! ### a tracked dict, its keys ints and texts or tuples of these -/
theorem kV_is {P : Program} {w : World} {k : Key} {u : Value} (r : RelV (kV k) u) : (mixKind P w).is k u = true := by
  cases k with
  | inl i => obtain ⟨t, e⟩ := (show ∃ t, u = Value.int i t from r); subst e; exact mixKind_int P w i t
  | inr x => obtain ⟨t, e⟩ := (show ∃ t, u = Value.str x t from r); subst e; exact mixKind_str P w x t
theorem items_are {P : Program} {w : World} : ∀ {ks : List Key} {us : List Value}, Vals (ks.map kV) us → ItemsAre (mixKind P w) ks us
  | [], _, r => by rw [List.map_nil] at r; cases r; exact .nil
  | k :: ks, _, r => by
    rw [List.map_cons] at r
    cases r with
    | cons h t => exact .cons (kV_is h) (items_are t)

/-- raw entries of a dict with tuple keys -/
abbrev KT (H : Hp) : List (List Key × V) → List (List Key × Addr × Value) → Prop := Paired fun p q => p.1 = q.1 ∧ H q.2.1 = some (.tup (p.1.map kV)) ∧ RelV p.2 q.2.2
theorem KT.val {H : Hp} {kvs : List (List Key × V)} {xs : List (List Key × Addr × Value)} (r : KT H kvs xs) (k : List Key) : RelO (valV kvs k) ((atKey xs k).map (·.2)) := by
  induction r with
  | nil => exact True.intro
  | @cons p q ps qs h t ih =>
    obtain ⟨h1, _, h2⟩ := h
    by_cases e : p.1 = k
    · have e' : q.1 = k := h1.symm.trans e
      have b : atKey (q :: qs) k = some q.2 := by simp [atKey, List.find?_cons, e']
      rw [valV_pos e, b]; exact h2
    · have e' : ¬ q.1 = k := fun z => e (h1.trans z)
      have b : atKey (q :: qs) k = atKey qs k := by simp [atKey, List.find?_cons, e']
      rw [valV_neg e, b]; exact ih
theorem KT.repl {H : Hp} {kvs : List (List Key × V)} {xs : List (List Key × Addr × Value)} (r : KT H kvs xs) (k : List Key) {y : V} {u : Value} (ry : RelV y u) :
    KT H (kvs.map fun kv => if kv.1 = k then (kv.1, y) else kv) (xs.map (putAt k u)) := by
  induction r with
  | nil => exact .nil
  | @cons p q ps qs h t ih =>
    rw [List.map_cons, List.map_cons]
    refine .cons ?_ ih
    obtain ⟨h1, h2, h3⟩ := h
    unfold putAt
    by_cases e : p.1 = k
    · rw [if_pos e, if_pos (h1.symm.trans e)]; exact ⟨h1, h2, ry⟩
    · rw [if_neg e, if_neg (fun z => e (h1.trans z))]; exact ⟨h1, h2, h3⟩
theorem KT.put {H : Hp} {kvs : List (List Key × V)} {xs : List (List Key × Addr × Value)} (r : KT H kvs xs) (k : List Key) {b : Addr} {y : V} {u : Value} (hb : H b = some (.tup (k.map kV))) (ry : RelV y u) :
    KT H (putK kvs k y) (storedH xs k b u) := by
  have e : (kvs.any fun kv => decide (kv.1 = k)) = (atKey xs k).isSome := by
    rw [valV_any, (r.val k).isSome_eq, Option.isSome_map]
  unfold putK storedH
  rw [e]
  by_cases q : (atKey xs k).isSome = true
  · rw [if_pos q, if_pos q]; exact r.repl k ry
  · rw [if_neg q, if_neg q]; exact Paired.snoc r ⟨rfl, hb, ry⟩
theorem KT.keeps {H H' : Hp} {kvs : List (List Key × V)} {xs : List (List Key × Addr × Value)} (r : KT H kvs xs) (ht : ∀ b ys, H b = some (.tup ys) → H' b = some (.tup ys)) : KT H' kvs xs :=
  Paired.mapP r fun _ _ z => ⟨z.1, ht _ _ z.2.1, z.2.2⟩

section
variable {P : Program} {w : World} {H : Hp} {h : Heap} {a : Addr}
theorem rd_of {u : HO} (ok : HOk P w H h) (e : Rd H a u) : ObjOk P w H h a u := e.ok ok
theorem dk_rd {kvs : List (Key × V)} (ok : HOk P w H h) (e : Rd H a (.dK kvs)) : kvs.length ≤ sizeLine ∧ (a == sysModules) = false ∧ ∃ vs, KV kvs vs ∧ h.DictOf (mixKind P w) a vs :=
  show ObjOk P w H h a (.dK kvs) from rd_of ok e
theorem dk_of {kvs : List (Key × V)} (ok : HOk P w H h) (e : H a = some (.dK kvs)) : kvs.length ≤ sizeLine ∧ (a == sysModules) = false ∧ ∃ vs, KV kvs vs ∧ h.DictOf (mixKind P w) a vs := dk_rd ok (.inl e)
/-- a tracked tuple of ints and texts is a key -/
theorem key_of {ks : List Key} (ok : HOk P w H h) (e : H a = some (.tup (ks.map kV))) : (tupleKind (mixKind P w)).is h ks a := by
  obtain ⟨_, its, r, o, h1, h2, n, h3⟩ := (show ObjOk P w H h a (.tup (ks.map kV)) from ok a _ e)
  exact ⟨o, its.toArray, n, h1, h2, h3, by simpa using items_are r⟩
theorem dt_rd {kvs : List (List Key × V)} (ok : HOk P w H h) (e : Rd H a (.dT kvs)) : kvs.length ≤ sizeLine ∧ (a == sysModules) = false ∧
    ∃ xs, KT H kvs xs ∧ h.DictOfH (tupleKind (mixKind P w)) a xs := by
  obtain ⟨z, y, xs, r, o, es, ep, h1, h2, h3, h4, h5⟩ := (show ObjOk P w H h a (.dT kvs) from rd_of ok e)
  refine ⟨z, y, xs, r, o, es, ep, h1, h2, h3, h4, fun x hx => ?_, h5⟩
  have all : ∀ {l : List (List Key × V)} {m : List (List Key × Addr × Value)}, KT H l m → ∀ x ∈ m, (tupleKind (mixKind P w)).is h x.1 x.2.1 := by
    intro l m q
    induction q with
    | nil => intro x hx; exact nomatch hx
    | @cons p q ps qs hq t ih =>
      intro x hx
      rcases List.mem_cons.mp hx with e | hx
      · subst e
        exact key_of ok (by rw [← hq.1]; exact hq.2.1)
      · exact ih x hx
  exact all r x hx
theorem dt_of {kvs : List (List Key × V)} (ok : HOk P w H h) (e : H a = some (.dT kvs)) : kvs.length ≤ sizeLine ∧ (a == sysModules) = false ∧
    ∃ xs, KT H kvs xs ∧ h.DictOfH (tupleKind (mixKind P w)) a xs := dt_rd ok (.inl e)
end

/-- what the dict at a holds at the key y -/
def DGet (H : Hp) (a : Addr) (y : V) (r : Option V) : Prop :=
  (∃ kvs k, Rd H a (.dK kvs) ∧ y = kV k ∧ r = valV kvs k) ∨ ∃ kvs k b, Rd H a (.dT kvs) ∧ y = .ref b ∧ H b = some (.tup (k.map kV)) ∧ r = valV kvs k
/-- the heap behind a[y] = v -/
def DPut (H : Hp) (a : Addr) (y v : V) (H' : Hp) : Prop :=
  (∃ kvs k, H a = some (.dK kvs) ∧ y = kV k ∧ kvs.length < sizeLine ∧ H' = upd H a (.dK (putK kvs k v))) ∨
  ∃ kvs k b, H a = some (.dT kvs) ∧ y = .ref b ∧ H b = some (.tup (k.map kV)) ∧ kvs.length < sizeLine ∧ H' = upd H a (.dT (putK kvs k v))
theorem DGet.k {H : Hp} {a : Addr} {kvs : List (Key × V)} {k : Key} (e : H a = some (.dK kvs)) : DGet H a (kV k) (valV kvs k) := .inl ⟨kvs, k, .inl e, rfl, rfl⟩
theorem DGet.t {H : Hp} {a b : Addr} {kvs : List (List Key × V)} {k : List Key} (e : H a = some (.dT kvs)) (eb : H b = some (.tup (k.map kV))) : DGet H a (.ref b) (valV kvs k) := .inr ⟨kvs, k, b, .inl e, rfl, eb, rfl⟩
theorem DPut.k {H : Hp} {a : Addr} {kvs : List (Key × V)} {k : Key} {v : V} (e : H a = some (.dK kvs)) (hl : kvs.length < sizeLine) : DPut H a (kV k) v (upd H a (.dK (putK kvs k v))) := .inl ⟨kvs, k, e, rfl, hl, rfl⟩
theorem DPut.t {H : Hp} {a b : Addr} {kvs : List (List Key × V)} {k : List Key} {v : V} (e : H a = some (.dT kvs)) (eb : H b = some (.tup (k.map kV))) (hl : kvs.length < sizeLine) :
    DPut H a (.ref b) v (upd H a (.dT (putK kvs k v))) := .inr ⟨kvs, k, b, e, rfl, eb, hl, rfl⟩


section
variable {X : Cx} {pins : List (Addr × Obj)} {σ : St} {H : Hp} {s : Shared} {a : Addr} {y v : V} {u r : Value} {o : Option V} {A : Around} {E : Value → Shared → Prop}

theorem Inv.big (I : Inv X pins σ H s) : sysModules < s.heap.objs.size := by
  have h : mainGlobals < s.heap.objs.size := (I.mod.glob.keeps I.bk).lt
  exact Nat.lt_trans (by decide) h

/-- d[y], there -/
theorem d_getItem {Q : Value → Shared → Prop} (hu : A.units + 1 < cLine) (I : Inv X pins σ H s) (g : DGet H a y (some v)) (ry : RelV y u) (h : ∀ w' s', Inv X pins σ H s' → RelV v w' → Q w' s') :
    wpAny (model X.prog X.w) A (getItem (.ref a) u) Q E s := by
  rcases g with ⟨kvs, k, e, ey, l⟩ | ⟨kvs, k, b, e, ey, eb, l⟩
  · subst ey
    obtain ⟨z, hd, vs, rel, dd⟩ := dk_rd I.hok e
    obtain ⟨w', hw, rw'⟩ := RelO.some_of (v := v) (o := valueAt vs k) (by rw [l]; exact rel.val k)
    exact wpAny_getItem_of (kV_is ry) dd.mapOf hw (h w' _ (I.tok _) rw')
  · subst ey
    cases (show u = Value.ref b from ry)
    obtain ⟨z, hd, xs, rel, dd⟩ := dt_rd I.hok e
    obtain ⟨w', hw, rw'⟩ := RelO.some_of (v := v) (o := (atKey xs k).map (·.2)) (by rw [l]; exact rel.val k)
    obtain ⟨p, hp, hp2⟩ := Option.map_eq_some_iff.mp hw
    refine wpAny_getItem_heap (tupleKind_room_in1 hu) (key_of I.hok eb) dd hp ?_
    rw [hp2]
    exact h w' _ (I.tok _) rw'
/-- y in d -/
theorem d_in {Q : Value → Shared → Prop} (hu : A.units + 1 < cLine) (I : Inv X pins σ H s) (g : DGet H a y o) (ry : RelV y u) (h : ∀ s', Inv X pins σ H s' → Q (.bool o.isSome) s') :
    wpAny (model X.prog X.w) A (compareOp .In u (.ref a)) Q E s := by
  rcases g with ⟨kvs, k, e, ey, l⟩ | ⟨kvs, k, b, e, ey, eb, l⟩
  · subst ey
    obtain ⟨z, hd, vs, rel, dd⟩ := dk_rd I.hok e
    refine wpAny_in_of (kV_is ry) hd dd.mapOf ?_
    rw [← (rel.val k).isSome_eq, ← l]
    exact h _ (I.tok _)
  · subst ey
    cases (show u = Value.ref b from ry)
    obtain ⟨z, hd, xs, rel, dd⟩ := dt_rd I.hok e
    refine wpAny_in_heap (tupleKind_room_in1 hu) (key_of I.hok eb) hd dd ?_
    have q := (rel.val k).isSome_eq
    rw [Option.isSome_map] at q
    rw [← q, ← l]
    exact h _ (I.tok _)
theorem d_notIn {Q : Value → Shared → Prop} (hu : A.units + 1 < cLine) (I : Inv X pins σ H s) (g : DGet H a y o) (ry : RelV y u) (h : ∀ s', Inv X pins σ H s' → Q (.bool (!o.isSome)) s') :
    wpAny (model X.prog X.w) A (compareOp .NotIn u (.ref a)) Q E s := by
  rcases g with ⟨kvs, k, e, ey, l⟩ | ⟨kvs, k, b, e, ey, eb, l⟩
  · subst ey
    obtain ⟨z, hd, vs, rel, dd⟩ := dk_rd I.hok e
    refine wpAny_notIn_of (kV_is ry) hd dd.mapOf ?_
    rw [← (rel.val k).isSome_eq, ← l]
    exact h _ (I.tok _)
  · subst ey
    cases (show u = Value.ref b from ry)
    obtain ⟨z, hd, xs, rel, dd⟩ := dt_rd I.hok e
    refine wpAny_notIn_heap (tupleKind_room_in1 hu) (key_of I.hok eb) hd dd ?_
    have q := (rel.val k).isSome_eq
    rw [Option.isSome_map] at q
    rw [← q, ← l]
    exact h _ (I.tok _)
/-- a dict's object is replaced -/
theorem d_write {h' : Heap} {t' : Nat} {ob : HO} (I : Inv X pins σ H s) (mu : Mut (H a)) (hs : Heap.SameBut a s.heap h') (he : ∃ q, h'.get? a = some q) (new : ObjOk X.prog X.w (upd H a ob) h' a ob) :
    Inv X pins σ (upd H a ob) { s with heap := h', toks := t' } :=
  I.write (x := a) (e := a) mu (.inl rfl) (fun b q hb z => (hs.2 b hb).trans z) he new
theorem dk_new {P : Program} {w : World} {H' : Hp} {h' : Heap} {kvs : List (Key × V)} {vs : List (Key × Value)} (z : kvs.length ≤ sizeLine) (hd : (a == sysModules) = false) (rel : KV kvs vs) (dd : h'.DictOf (mixKind P w) a vs) :
    ObjOk P w H' h' a (.dK kvs) := ⟨z, hd, vs, rel, dd⟩
/-- d[y] = v -/
theorem d_setItem {H' : Hp} {Q : Unit → Shared → Prop} (hu : A.units + 1 < cLine) (I : Inv X pins σ H s) (g : DPut H a y v H') (ry : RelV y u) (rv : RelV v r) (h : ∀ s', Inv X pins σ H' s' → Q () s') :
    wpAny (model X.prog X.w) A (setItem (.ref a) u r) Q E s := by
  rcases g with ⟨kvs, k, e, ey, l, eH⟩ | ⟨kvs, k, b, e, ey, eb, l, eH⟩
  · subst ey eH
    obtain ⟨z, hd, vs, rel, dd⟩ := dk_of I.hok e
    have hz : vs.length ≤ sizeLine := by rw [← rel.length]; exact z
    have hl : (putK kvs k v).length ≤ sizeLine := by have := length_putK kvs k v; omega
    refine wpAny_setItem_pairs (hsz := hz) (kV_is ry) dd fun h' dd' hs => h _ ?_
    have he : ∃ q, h'.get? a = some q := let ⟨q, _, _, hq, _⟩ := dd'; ⟨q, hq⟩
    exact d_write I (by rw [e]; exact True.intro) hs he (dk_new hl hd (rel.put k rv) dd')
  · subst ey eH
    cases (show u = Value.ref b from ry)
    obtain ⟨z, hd, xs, rel, dd⟩ := dt_of I.hok e
    have hz : xs.length ≤ sizeLine := by rw [← Paired.length rel]; exact z
    have hl : (putK kvs k v).length ≤ sizeLine := by have := length_putK kvs k v; omega
    refine wpAny_setItem_heap (hsz := hz) (tupleKind_room_in1 hu) (key_of I.hok eb) dd fun h' dd' hs => h _ ?_
    obtain ⟨q, es, ep, hq, h2, h3, h4, _, h5⟩ := dd'
    refine d_write I (by rw [e]; exact True.intro) hs ⟨q, hq⟩ ⟨hl, hd, _, (rel.put k eb rv).keeps fun c ys ec => ?_, q, es, ep, hq, h2, h3, h4, h5⟩
    rw [upd_ne (ne_of ec e (fun z => nomatch z))]
    exact ec
end

section
variable {X : Cx} {pins : List (Addr × Obj)} {σ : St} {H : Hp} {s : Shared} {a : Addr} {kvs : List (Key × V)} {k : Key} {u : Value} {A : Around} {E : Value → Shared → Prop}
end


/-! ### readings and rules -/
/-- the element of a subscription, not a slice -/
def NoSl (i : Expr) : Prop := ∀ ov iv, subscripted i false ov iv = operate [ov, iv] (getItem ov iv)
theorem subD_of {prog : Program} {w : World} {A : Around} {E : Value → Shared → Prop} {s : Shared} {env : Env} {value slice : Expr} {pos : Pos} {T id : String} {Q : Value → Shared → Prop}
    (hl : typeLookup (.type T) "__getitem__" = pure (some (.builtin id))) (hs : NoSl slice)
    (h : wpAny (model prog w) A (eval value env) (fun o s₁ => wpAny (model prog w) A (eval slice env) (fun i s₂ => s₂.TypeIs o T ∧ wpAny (model prog w) A (getItem o i) Q E s₂) E s₁) E s) :
    wpAny (model prog w) A (eval (.Subscript value slice pos) env) Q E s := by
  refine Subscript_ (wpAny_mono h (fun o s₁ h₁ => wpAny_mono h₁ (fun i s₂ h₂ => ?_) fun _ _ x => x) fun _ _ x => x)
  obtain ⟨hT, h₂⟩ := h₂
  unfold subscriptTail
  refine wpAny_bind ?_
  rw [getitemInPython_of_ne hT.not_modules]
  refine wpAny_bind (wpAny_specialOf hT hl ?_)
  have fin : wpAny (model prog w) A (subscripted slice false o i) (fun r s₃ => wpAny (model prog w) A (letTemporaryGo value o r >>= fun _ => pure r) Q E s₃) E s₂ := by
    rw [hs o i]
    exact wpAny_operating (wpAny_mono h₂ (fun r s₃ h₃ => wpAny_bind (wpAny_letTemporaryGo (wpAny_pure h₃))) fun _ _ x => x)
  first
    | exact wpAny_pure (wpAny_bind fin)
    | exact wpAny_bind (wpAny_pure (wpAny_bind fin))
    | exact wpAny_bind fin

theorem dict_typeIs {X : Cx} {pins : List (Addr × Obj)} {σ : St} {H : Hp} {s : Shared} {a : Addr} {y : V} {o : Option V} (I : Inv X pins σ H s) (g : DGet H a y o) : s.TypeIs (.ref a) "dict" := by
  rcases g with ⟨kvs, k, e, _, _⟩ | ⟨kvs, k, b, e, _, _, _⟩
  · obtain ⟨_, _, vs, _, dd⟩ := dk_rd I.hok e
    exact dd.typeIs
  · obtain ⟨_, _, xs, _, dd⟩ := dt_rd I.hok e
    exact dd.typeIs
/-- d[y] -/
def tDGet (td ty : TE) : TE := fun σ H Q => td σ H fun x H1 => ty σ H1 fun y H2 => ∃ a v, x = .ref a ∧ DGet H2 a y (some v) ∧ Q v H2
/-- y in d, y not in d -/
def tDIn (ty td : TE) : TE := fun σ H Q => ty σ H fun y H1 => td σ H1 fun x H2 => ∃ a o, x = .ref a ∧ DGet H2 a y o ∧ Q (.bl o.isSome) H2
def tDNotIn (ty td : TE) : TE := fun σ H Q => ty σ H fun y H1 => td σ H1 fun x H2 => ∃ a o, x = .ref a ∧ DGet H2 a y o ∧ Q (.bl (!o.isSome)) H2
/-- d[y] = v -/
def sDPut (td ty tv : TE) : TS := fun D σ H => tv σ H fun v H1 => td σ H1 fun x H2 => ty σ H2 fun y H3 => ∃ a H4, x = .ref a ∧ DPut H3 a y v H4 ∧ D.nx σ H4
section
variable {X : Cx} {o i e value : Expr} {pos pos' tpos : Pos} {td ty tv : TE}
theorem pe_dget (hu : X.A.units + 1 < cLine) (ho : PE X o td) (hi : PE X i ty) (hs : NoSl i) : PE X (.Subscript o i pos) (tDGet td ty) := by
  intro pins s σ H Q I h
  refine subD_of PySem.F.slot_dict_getitem.lookup hs (thn (ho pins s σ H _ I h) fun u s1 ⟨x, H1, I1, rx, q1⟩ => thn (hi pins s1 σ H1 _ I1 q1) fun iv s2 ⟨y, H2, I2, ry, a, v, ex, g, q2⟩ => ?_)
  subst ex
  obtain rfl : u = Value.ref a := rx
  exact ⟨dict_typeIs I2 g, d_getItem hu I2 g ry fun w' s3 I3 rw' => ⟨v, H2, I3, rw', q2⟩⟩
theorem pc_din (hu : X.A.units + 1 < cLine) (hi : PE X i ty) (ho : PE X o td) : PC X .In i o (tDIn ty td) := by
  intro pins s σ H Q I h
  refine thn (hi pins s σ H _ I h) fun iv s1 ⟨y, H1, I1, ry, q1⟩ => thn (ho pins s1 σ H1 _ I1 q1) fun u s2 ⟨x, H2, I2, rx, a, ov, ex, g, q2⟩ => ?_
  subst ex
  obtain rfl : u = Value.ref a := rx
  exact d_in hu I2 g ry fun s3 I3 => ⟨.bl ov.isSome, H2, I3, rfl, q2⟩
theorem pc_dnotin (hu : X.A.units + 1 < cLine) (hi : PE X i ty) (ho : PE X o td) : PC X .NotIn i o (tDNotIn ty td) := by
  intro pins s σ H Q I h
  refine thn (hi pins s σ H _ I h) fun iv s1 ⟨y, H1, I1, ry, q1⟩ => thn (ho pins s1 σ H1 _ I1 q1) fun u s2 ⟨x, H2, I2, rx, a, ov, ex, g, q2⟩ => ?_
  subst ex
  obtain rfl : u = Value.ref a := rx
  exact d_notIn hu I2 g ry fun s3 I3 => ⟨.bl (!ov.isSome), H2, I3, rfl, q2⟩
theorem ps_dput (hu : X.A.units + 1 < cLine) (ho : PE X o td) (hi : PE X i ty) (hv : PE X value tv) (hs : swapsWith value (some (.Subscript o i pos')) pos.line X.env = pure false) :
    PS X (.Assign [.Subscript o i pos'] value pos) (sDPut td ty tv) := by
  intro pins s σ H D I h
  refine wpAny_Assign_Subscript (thn (hv pins s σ H _ I h) fun r s1 ⟨v, H1, I1, rv, q1⟩ => thn (ho pins s1 σ H1 _ I1 q1) fun u s2 ⟨x, H2, I2, rx, q2⟩ => thn (hi pins s2 σ H2 _ I2 q2) fun iv s3 ⟨y, H3, I3, ry, a, H4, ex, g, q3⟩ => ?_) hs
  subst ex
  obtain rfl : u = Value.ref a := rx
  exact d_setItem hu I3 g ry rv fun s4 I4 => ⟨σ, H4, I4, q3⟩
end


/-! ### displays -/
theorem dk_empty {P : Program} {w : World} {H : Hp} (h : Heap) (hb : sysModules < h.objs.size) : ObjOk P w H (h.push { cls := .type "dict", data := .dict #[] }) h.objs.size (.dK []) :=
  ⟨Nat.zero_le _, beq_eq_false_iff_ne.mpr (Ne.symm (Nat.ne_of_lt hb)), [], .nil, Heap.DictOf.new h⟩
theorem dt_empty {P : Program} {w : World} {H : Hp} (h : Heap) (hb : sysModules < h.objs.size) : ObjOk P w H (h.push { cls := .type "dict", data := .dict #[] }) h.objs.size (.dT []) :=
  ⟨Nat.zero_le _, beq_eq_false_iff_ne.mpr (Ne.symm (Nat.ne_of_lt hb)), [], .nil, _, #[], 0, Heap.get?_push_size _ rfl, ⟨rfl, rfl, rfl⟩, rfl, rfl, List.nodup_nil⟩
/-- {}, to be a dict of the kind that is wanted -/
def tDNewK : TE := fun _ H Q => ∀ p, H p = none → Q (.ref p) (upd H p (.dK []))
def tDNewT : TE := fun _ H Q => ∀ p, H p = none → Q (.ref p) (upd H p (.dT []))
section
variable {X : Cx} {pos : Pos}
theorem pe_dnewK : PE X (.Dict [] [] pos) tDNewK := fun pins s σ H Q I h =>
  wpAny_Dict_empty ⟨.ref s.heap.objs.size, _, I.laid (a := s.heap.objs.size) (o := .dK []) (t' := s.toks) (fun _ _ q => Heap.get?_push_of_some _ q) (Nat.le_refl _) (dk_empty s.heap I.big), rfl, h _ (I.hok.fresh (Nat.le_refl _))⟩
theorem pe_dnewT : PE X (.Dict [] [] pos) tDNewT := fun pins s σ H Q I h =>
  wpAny_Dict_empty ⟨.ref s.heap.objs.size, _, I.laid (a := s.heap.objs.size) (o := .dT []) (t' := s.toks) (fun _ _ q => Heap.get?_push_of_some _ q) (Nat.le_refl _) (dt_empty s.heap I.big), rfl, h _ (I.hok.fresh (Nat.le_refl _))⟩
end

abbrev VV : List (V × V) → List (Value × Value) → Prop := Paired fun p q => RelV p.1 q.1 ∧ RelV p.2 q.2
/-! ### methods -/
/-- a method call o.m(e) of a built-in, with one argument: what must be seen of the text -/
structure M1 (X : Cx) (o : Expr) (m : Str) (apos : Pos) (e : Expr) (cpos : Pos) : Prop where
  base : attributeBase o m X.env (eval o X.env) = eval o X.env
  few : ((backTo cpos (starEach [e] X.env)).all (fun x => !x.1) && (backToKw cpos (keywordEach [] X.env)).all (fun x => x.1.isSome)
    && decide (([e] : List Expr).length + ([] : List Keyword).length + (if ([] : List Keyword).isEmpty then 0 else 1) < 30)) = true
  line : (apos.endLine == cpos.line) = true
  trees : backTo cpos (starEach [e] X.env) = [(false, eval e X.env)]
structure M2 (X : Cx) (o : Expr) (m : Str) (apos : Pos) (e f : Expr) (cpos : Pos) : Prop where
  base : attributeBase o m X.env (eval o X.env) = eval o X.env
  few : ((backTo cpos (starEach [e, f] X.env)).all (fun x => !x.1) && (backToKw cpos (keywordEach [] X.env)).all (fun x => x.1.isSome)
    && decide (([e, f] : List Expr).length + ([] : List Keyword).length + (if ([] : List Keyword).isEmpty then 0 else 1) < 30)) = true
  line : (apos.endLine == cpos.line) = true
  trees : backTo cpos (starEach [e, f] X.env) = [(false, eval e X.env), (false, eval f X.env)]

/-- a is a dict, whatever its keys -/
def IsD (H : Hp) (a : Addr) : Prop := (∃ kvs, Rd H a (.dK kvs)) ∨ ∃ kvs, Rd H a (.dT kvs)
theorem isD_at {X : Cx} {pins : List (Addr × Obj)} {σ : St} {H : Hp} {s : Shared} {a : Addr} (I : Inv X pins σ H s) (d : IsD H a) :
    s.TypeIs (.ref a) "dict" ∧ (∀ b, Value.ref a = .ref b → ∃ ob, s.heap.get? b = some ob ∧ ob.dict = none) ∧ (a == sysModules) = false := by
  rcases d with ⟨kvs, e⟩ | ⟨kvs, e⟩
  · obtain ⟨_, hd, vs, _, dd⟩ := dk_rd I.hok e
    refine ⟨dd.typeIs, fun b q => ?_, hd⟩
    cases q
    obtain ⟨ob, _, _, h1, h2, _⟩ := dd
    exact ⟨ob, h1, h2.2.1⟩
  · obtain ⟨_, hd, xs, _, dd⟩ := dt_rd I.hok e
    refine ⟨dd.typeIs, fun b q => ?_, hd⟩
    cases q
    obtain ⟨ob, _, _, h1, h2, _⟩ := dd
    exact ⟨ob, h1, h2.2.1⟩

section
variable {X : Cx} {pins : List (Addr × Obj)} {σ : St} {H : Hp} {s : Shared} {a : Addr} {y d : V} {u r : Value} {o : Option V} {A : Around} {E : Value → Shared → Prop}
/-- d.get(y) -/
theorem d_get1 {Q : Value → Shared → Prop} (hu : A.units + 1 < cLine) (I : Inv X pins σ H s) (g : DGet H a y o) (ry : RelV y u) (h : ∀ w' s', Inv X pins σ H s' → RelV (o.getD .non) w' → Q w' s') :
    wpAny (model X.prog X.w) A (call (.builtin "dict.get") [.ref a, u]) Q E s := by
  rcases g with ⟨kvs, k, e, ey, l⟩ | ⟨kvs, k, b, e, ey, eb, l⟩
  · subst ey
    obtain ⟨z, hd, vs, rel, dd⟩ := dk_rd I.hok e
    refine call_meetsIn PySem.F.slot_dict_get dd.typeIs PySem.F.entry_dict_get (PySem.F.args_dict_get_2 _ _) (meets_dict_get (mixKind X.prog X.w) a (kV_is ry) hd) ⟨_, dd.mapOf, h _ _ (I.tok _) ?_⟩
    rw [l]
    exact (rel.val k).getD rfl
  · subst ey
    cases (show u = Value.ref b from ry)
    obtain ⟨z, hd, xs, rel, dd⟩ := dt_rd I.hok e
    refine call_meetsIn PySem.F.slot_dict_get dd.typeIs PySem.F.entry_dict_get (PySem.F.args_dict_get_2 _ _) (meetsH_dict_get (tupleKind (mixKind X.prog X.w)) a b hd) ⟨tupleKind_room_in1 hu, k, xs, key_of I.hok eb, dd, h _ _ (I.tok _) ?_⟩
    rw [l]
    exact (rel.val k).getD rfl
end

def tDGet1 (td ty : TE) : TE := fun σ H Q => td σ H fun x H1 => ∃ a, x = .ref a ∧ IsD H1 a ∧ ty σ H1 fun y H2 => ∃ o, DGet H2 a y o ∧ Q (o.getD .non) H2
section
variable {X : Cx} {o e f : Expr} {apos cpos : Pos} {td ty tx : TE}
theorem pe_dget1 (hu : X.A.units + 1 < cLine) (ho : PE X o td) (he : PE X e ty) (m : M1 X o "get" apos e cpos) : PE X (.Call (.Attribute o "get" apos) [e] [] cpos) (tDGet1 td ty) := by
  intro pins s σ H Q I h
  refine wpAny_Call_method m.base m.few m.line PySem.F.plainAttrs_dict PySem.F.slot_dict_get PySem.F.type_dict_get (thn (ho pins s σ H _ I h) fun u s1 ⟨x, H1, I1, rx, a, ex, d, q1⟩ => ?_)
  subst ex
  obtain rfl : u = Value.ref a := rx
  obtain ⟨t1, t2, _⟩ := isD_at I1 d
  refine ⟨t1, t2, ?_⟩
  rw [m.trees]
  refine Calls.callWith_builtin rfl (Calls.evalArgs_plain (Calls.spliced_cons (thn (he pins s1 σ H1 _ I1 q1) fun iv s2 ⟨y, H2, I2, ry, ov, g, q2⟩ => Calls.spliced_nil ?_)))
  exact d_get1 hu I2 g ry fun w' s3 I3 rw' => ⟨_, H2, I3, rw', q2⟩
end

/-! ### dict(d): a copy -/
section
variable {X : Cx} {pins : List (Addr × Obj)} {σ : St} {H : Hp} {s : Shared} {a : Addr} {kvs : List (Key × V)} {A : Around} {E : Value → Shared → Prop}
end


section
variable {X : Cx} {pins : List (Addr × Obj)} {σ : St} {H : Hp} {s : Shared} {a : Addr} {y : V} {u : Value} {A : Around} {E : Value → Shared → Prop}
end
end L2
namespace L2
open PySem PySem.Spec PyProof.Rows
section
variable {X : Cx}
end
/-! ### a dict's pairs: keys that differ -/
section
variable {κ : Type} [DecidableEq κ]
end
end L2
set_option maxRecDepth 100000
set_option maxHeartbeats 1000000
namespace PySem
open Sem (wp)
open AutoSeq1 (wpAny_loadPart')
section
variable {prog : Program} {w : World} {A : Around} {E : Value → Shared → Prop} {s : Shared}
end
section
variable {prog : Program} {w : World} {A : Around} {E : Value → Shared → Prop} {s : Shared}
end
end PySem
set_option Elab.async false
set_option linter.all false
set_option maxRecDepth 100000
set_option maxHeartbeats 1000000
/-! COMPREHENSIONS over the hand layer: a block of its own, whose names may be captured ones -/
namespace L2
open PySem PySem.Spec PyProof.Rows

/-! ### the cells of a comprehension's block -/
def closL (cells : List (Str × Addr)) (names : List (Str × NameKind)) : List (Str × Addr) :=
  (names.filterMap fun y => if y.2 == .free then (cells.lookup y.1).map (fun c => (y.1, c)) else none).reverse
theorem closL_mem {cells : List (Str × Addr)} {names : List (Str × NameKind)} {x : Str} {c : Addr} (h : (x, c) ∈ closL cells names) : (x, NameKind.free) ∈ names ∧ cells.lookup x = some c := by
  unfold closL at h
  rw [List.mem_reverse, List.mem_filterMap] at h
  obtain ⟨⟨y, k⟩, hy, e⟩ := h
  by_cases hk : k = .free
  · subst hk
    simp only [beq_self_eq_true, if_true] at e
    cases q : cells.lookup y with
    | none => rw [q] at e; cases e
    | some d =>
      rw [q] at e
      cases e
      exact ⟨hy, q⟩
  · have hb : (k == NameKind.free) = false := by simpa using hk
    simp [hb] at e
theorem lookup_of_mem {α : Type} : ∀ {l : List (Str × α)} {x : Str} {c : α}, (x, c) ∈ l → ∃ d, l.lookup x = some d
  | (k, v) :: r, x, c, h => by
    rw [List.lookup_cons]
    cases hb : x == k with
    | true => exact ⟨v, rfl⟩
    | false =>
      rcases List.mem_cons.mp h with e | h
      · cases e
        simp at hb
      · exact lookup_of_mem h
theorem closL_look {cells : List (Str × Addr)} {names : List (Str × NameKind)} {x : Str} {c : Addr} (h : (closL cells names).lookup x = some c) : (x, NameKind.free) ∈ names ∧ cells.lookup x = some c :=
  closL_mem (PySem.mem_of_lookup h)
theorem closL_has {cells : List (Str × Addr)} {names : List (Str × NameKind)} {x : Str} {c : Addr} (h : (x, NameKind.free) ∈ names) (hc : cells.lookup x = some c) : (closL cells names).lookup x = some c := by
  have hm : (x, c) ∈ closL cells names := by
    unfold closL
    rw [List.mem_reverse, List.mem_filterMap]
    exact ⟨(x, .free), h, by simp [hc]⟩
  obtain ⟨d, hd⟩ := lookup_of_mem hm
  have := (closL_look hd).2
  rw [hc] at this
  cases this
  exact hd
theorem closureFor_go {env : Env} (f : Str × NameKind → List (Str × Addr) → Sem (ForInStep (List (Str × Addr))))
    (hf : ∀ name kind cs, f (name, kind) cs = if kind == .free then (do let a ← cellOf env name; pure (.yield ((name, a) :: cs))) else pure (.yield cs)) :
    ∀ (names : List (Str × NameKind)) (acc : List (Str × Addr)), (∀ x ∈ names, x.2 = .free → ∃ c, env.cells.lookup x.1 = some c) →
      forIn names acc f = (pure (closL env.cells names ++ acc) : Sem (List (Str × Addr)))
  | [], acc, _ => by rw [List.forIn_nil]; rfl
  | (n, k) :: r, acc, h => by
    rw [List.forIn_cons, hf]
    have hr : ∀ x ∈ r, x.2 = .free → ∃ c, env.cells.lookup x.1 = some c := fun x hx => h x (List.mem_cons_of_mem _ hx)
    by_cases hk : k = .free
    · subst hk
      obtain ⟨c, hc⟩ := h (n, .free) List.mem_cons_self rfl
      have e1 : cellOf env n = pure c := by unfold cellOf; rw [show env.cells.lookup n = some c from hc]
      have e2 : closL env.cells ((n, NameKind.free) :: r) ++ acc = closL env.cells r ++ ((n, c) :: acc) := by
        unfold closL
        rw [List.filterMap_cons]
        simp only [beq_self_eq_true, if_true]
        rw [show env.cells.lookup n = some c from hc]
        simp
      rw [e2, ← closureFor_go f hf r ((n, c) :: acc) hr]
      simp only [beq_self_eq_true, if_true]
      rw [e1]
      rfl
    · have hb : (k == NameKind.free) = false := by simpa using hk
      have e2 : closL env.cells ((n, k) :: r) ++ acc = closL env.cells r ++ acc := by
        unfold closL
        rw [List.filterMap_cons]
        simp [hb]
      rw [e2, ← closureFor_go f hf r acc hr]
      simp only [hb, Bool.false_eq_true, if_false]
      rfl
theorem closureFor_eq {scope : Scope} {env : Env} (h : ∀ x ∈ scope.names, x.2 = .free → ∃ c, env.cells.lookup x.1 = some c) : closureFor scope env = pure (closL env.cells scope.names) := by
  unfold closureFor
  dsimp only
  rw [closureFor_go (env := env) _ ?hf scope.names [] h]
  case hf => intro name kind cs; rfl
  rw [List.append_nil]
  rfl
theorem cellsFrom_app : ∀ (names : List (Str × NameKind)) (n : Nat) (acc : List (Str × Addr)), cellsFrom n names acc = cellsFrom n names [] ++ acc
  | [], _, _ => rfl
  | (x, k) :: r, n, acc => by
    unfold cellsFrom
    split
    · rw [cellsFrom_app r (n + 1) ((x, n) :: acc), cellsFrom_app r (n + 1) [(x, n)]]; simp
    · exact cellsFrom_app r n acc
theorem cellsFrom_mem : ∀ {names : List (Str × NameKind)} {n : Nat} {x : Str} {c : Addr}, (x, c) ∈ cellsFrom n names [] → (x, NameKind.cell) ∈ names ∧ n ≤ c
  | [], _, _, _, h => by cases h
  | (y, k) :: r, n, x, c, h => by
    unfold cellsFrom at h
    split at h
    · rename_i hk
      rw [cellsFrom_app] at h
      rcases List.mem_append.mp h with h | h
      · obtain ⟨h1, h2⟩ := cellsFrom_mem h
        exact ⟨List.mem_cons_of_mem _ h1, by omega⟩
      · have : (x, c) = (y, n) := by simpa using h
        cases this
        have : k = .cell := by simpa using hk
        subst this
        exact ⟨List.mem_cons_self, Nat.le_refl _⟩
    · obtain ⟨h1, h2⟩ := cellsFrom_mem h
      exact ⟨List.mem_cons_of_mem _ h1, h2⟩
theorem cellsFrom_has : ∀ {names : List (Str × NameKind)} {n : Nat} {x : Str}, (x, NameKind.cell) ∈ names → ∃ c, (x, c) ∈ cellsFrom n names []
  | (y, k) :: r, n, x, h => by
    unfold cellsFrom
    split
    · rw [cellsFrom_app]
      rcases List.mem_cons.mp h with e | h
      · cases e; exact ⟨n, by simp⟩
      · obtain ⟨c, hc⟩ := cellsFrom_has (n := n + 1) h
        exact ⟨c, List.mem_append_left _ hc⟩
    · rename_i hk
      rcases List.mem_cons.mp h with e | h
      · cases e; simp at hk
      · exact cellsFrom_has h
theorem cellsFrom_lt : ∀ {names : List (Str × NameKind)} {h : Heap} {x : Str} {c : Addr}, (x, c) ∈ cellsFrom h.objs.size names [] → (pushCells h names).IsCell c none := fun {names h x c} hm => by
  have ok := cellsFrom_ok names h 0 [] ⟨fun _ _ hm => (nomatch hm), List.Pairwise.nil⟩ (Nat.zero_le _)
  exact (ok.empty x c hm).1
theorem cellsFrom_apart (names : List (Str × NameKind)) (h : Heap) : (cellsFrom h.objs.size names []).Pairwise fun x y => x.2 ≠ y.2 :=
  (cellsFrom_ok names h 0 [] ⟨fun _ _ hm => (nomatch hm), List.Pairwise.nil⟩ (Nat.zero_le _)).apart
theorem lookup_app {α : Type} (x : Str) : ∀ (a b : List (Str × α)) , (a ++ b).lookup x = (a.lookup x).or (b.lookup x)
  | [], b => by simp
  | (k, v) :: r, b => by
    show List.lookup x ((k, v) :: (r ++ b)) = _
    rw [List.lookup_cons, List.lookup_cons]
    cases hb : x == k with
    | true => rfl
    | false => exact lookup_app x r b

theorem wpAny_newCompEnv {M : Model} {A : Around} {E : Value → Shared → Prop} {s : Shared} {scope : Scope} {globals : Addr} {cl : List (Str × Addr)} {qual : Str} {env : Env} {Q : Env → Shared → Prop}
    (hQ : Q { scope, locals := s.heap.objs.size, globals, cells := cellsFrom (s.heap.objs.size + 1) scope.names [] ++ cl, qual, func := none, code := env.code, frame := env.frame, builtins := env.builtins }
      { s with heap := pushCells (s.heap.push { cls := .type "dict", data := .dict #[] }) scope.names }) :
    wpAny M A (newFunctionEnv scope globals cl [] qual none .none (some env)) Q E s := by
  simp only [newFunctionEnv, Option.isSome_some, if_true]
  refine wpAny_bind (wpAny_alloc ?_)
  refine wpAny_bind (wpAny_layCells _ (fun name kind cells => by cases hkc : kind == NameKind.cell <;> simp [hkc]) _ _ _ _ ?_)
  rw [show ({ s with heap := s.heap.push { cls := .type "dict", data := .dict #[] } } : Shared).heap.objs.size = s.heap.objs.size + 1 from Heap.size_push .., cellsFrom_app]
  rw [List.forIn_nil]
  exact wpAny_bind (wpAny_pure (wpAny_pure hQ))

/-! ### the loop of a comprehension of one clause -/
section
variable {prog : Program} {w : World} {A : Around} {R : Result → Shared → Prop} {s : Shared}
theorem compLoop_gen {elt target iter : Expr} {ifs : List Expr} {scope : Scope} {pos : Pos} {it acc : Value} {env : Env} (I : Nat → Shared → Prop)
    (turn : ∀ n s, I n s → wpAny (model prog w) A (pyNext it) (fun r s₁ => match r with
      | none => R (.ok .next) s₁
      | some v => wpAny (model prog w) A (letOwnedTupleGo target it v) (fun _ s₁' => wpAny (model prog w) A (assign target env v) (fun _ s₂ =>
          wpAny (model prog w) A (forIn ifs true fun c r => if r = true then do let ok ← isTrue c env (eval c env); pure (ForInStep.yield ok) else pure (ForInStep.yield r)) (fun ok s₃ =>
            if ok = true then wpAny (model prog w) A (eval elt env) (fun x s₄ =>
              wpAny (model prog w) A (call (.builtin "list.append") [acc, x]) (fun _ s₅ => ∃ m, m < n ∧ I m s₅) (fun _ _ => False) s₄) (fun _ _ => False) s₃
            else ∃ m, m < n ∧ I m s₃) (fun _ _ => False) s₂) (fun _ _ => False) s₁') (fun _ _ => False) s₁) (fun _ _ => False) s)
    (n : Nat) (h : I n s) :
    codeAny (model prog w) A (.compLoop (.ListComp elt [⟨target, iter, ifs, 0⟩] scope pos) 0 it acc env) R s := by
  refine codeAny_loop rfl I (fun n s hI => ?_) n h
  show wpAny _ A ((compTurn (.ListComp elt [⟨target, iter, ifs, 0⟩] scope pos) 0 it acc env).onRaise (fun x => do noteFrame x env; theTreesLotGoes x)) _ _ s
  refine wpAny_noted ?_
  rw [compTurn_list]
  refine wpAny_bind (wpAny_standAt (wpAny_bind (wpAny_mono (turn n s hI) (fun r s₁ h₁ => ?_) fun _ _ h' => h'.elim)))
  cases r with
  | none => exact wpAny_pure h₁
  | some v =>
    refine wpAny_bind (wpAny_mono h₁ (fun _ s₁' h₁' => ?_) fun _ _ h' => h'.elim)
    refine wpAny_bind (wpAny_mono h₁' (fun _ s₂ h₂ => wpAny_bind (wpAny_mono h₂ (fun ok s₃ h₃ => ?_) fun _ _ h' => h'.elim)) fun _ _ h' => h'.elim)
    cases ok with
    | false => exact wpAny_pure ⟨rfl, h₃⟩
    | true =>
      exact wpAny_bind (wpAny_bind (wpAny_mono h₃ (fun x s₄ h₄ => wpAny_bind (wpAny_mono h₄ (fun _ s₅ h₅ => wpAny_pure (wpAny_pure ⟨rfl, h₅⟩)) fun _ _ h' => h'.elim)) fun _ _ h' => h'.elim))
end

/-! ### the block's context -/
def ownCell (sc : Scope) (x : Str) : Bool := sc.names.lookup x == some .cell
def compCx (X : Cx) (scope : Scope) (N' : List Str) (cells : List (Str × Addr)) (C : Addr) (s₀ : Shared) (H₀ : Hp) (fp : List Addr) (pins : List (Addr × Obj)) : Cx :=
  { prog := X.prog, w := X.w, K := X.K, mg := X.mg, base := X.base, A := X.A, N := N', s₀ := s₀, H₀ := H₀, env := compEnvC scope cells C X.env, outer := X.stack, stack := X.stack, ex := fp, fn := ownCell scope, calm := X.calm, pn := X.pn ++ pins, xe := fun _ _ => False }
/-- the captured names' values at the block's start -/
def capS (cap : List (Option Nat)) (σ : St) : St := cap.map fun o => o.bind fun i => (σ[i]?).join
structure CompOk (X : Cx) (scope : Scope) (N' : List Str) (cap : List (Option Nat)) : Prop where
  kind : scope.kind = .function
  uniq : ∀ y ∈ scope.names, scope.names.lookup y.1 = some y.2
  fre : ∀ y ∈ scope.names, y.2 = .free → X.env.scope.names.lookup y.1 = some .cell ∨ X.env.scope.names.lookup y.1 = some .free
  len : cap.length = N'.length
  cap : ∀ (j i : Nat), cap[j]? = some (some i) → ∃ x, N'[j]? = some x ∧ X.N[i]? = some x ∧ scope.names.lookup x = some .free

theorem relabel_look {scope : Scope} {env : Env} (x : Str) : (relabel scope env).names.lookup x = (scope.names.lookup x).map fun k => if (k == .free && env.scope.kind == .function && env.kindOf x == some .cell) = true then .cell else k := by
  unfold relabel
  show List.lookup x (scope.names.map fun (n, k) => if (k == NameKind.free && env.scope.kind == .function && env.kindOf n == some .cell) = true then (n, NameKind.cell) else (n, k)) = _
  induction scope.names with
  | nil => rfl
  | cons y r ih =>
    obtain ⟨n, k⟩ := y
    rw [List.map_cons]
    dsimp only
    by_cases hc : (k == NameKind.free && env.scope.kind == .function && env.kindOf n == some .cell) = true
    · rw [if_pos hc, List.lookup_cons, List.lookup_cons]
      cases hb : x == n with
      | true =>
        have : x = n := beq_iff_eq.mp hb
        subst this
        simp only [Option.map_some, hc, if_true]
      | false => exact ih
    · rw [if_neg hc, List.lookup_cons, List.lookup_cons]
      cases hb : x == n with
      | true =>
        have : x = n := beq_iff_eq.mp hb
        subst this
        simp only [Option.map_some, hc, Bool.false_eq_true, if_false]
      | false => exact ih

/-- the tests of a clause -/
def PIfs (X : Cx) (ifs : List Expr) (t : TT) : Prop :=
  ∀ (pins : List (Addr × Obj)) (s : Shared) (σ : St) (H : Hp) (Q : Bool → Hp → Prop), Inv X pins σ H s → t σ H Q →
    wpAny (model X.prog X.w) X.A (forIn ifs true fun c r => if r = true then do let ok ← isTrue c X.env (eval c X.env); pure (ForInStep.yield ok) else pure (ForInStep.yield r)) (TP X pins σ Q) X.xe s
def tTrue : TT := fun _ H Q => Q true H
theorem pifs_nil {X : Cx} : PIfs X [] tTrue := fun _ _ _ H _ I h => wpAny_tests_nil ⟨H, I, h⟩
theorem pifs_one {X : Cx} {c : Expr} {t : TT} (hc : PT X c t) : PIfs X [c] t := fun pins s σ H Q I h => wpAny_tests_one (hc pins s σ H Q I h)

def CompR (cap : List (Option Nat)) (g : TG) (tt : TT) (te : TE) (σ : St) (Q : VK) (J : It) (H1 : Hp) : Prop := ∃ (n : Nat) (W : Nat → List V → St → Hp → Prop), n ≤ sizeLine ∧ W 0 [] (capS cap σ) H1 ∧
  ∀ i ys σ' H, W i ys σ' H → i ≤ n ∧ ys.length ≤ i ∧
    ((J.stop i H ∧ ∀ D, H D = none → Q (.ref D) (upd H D (.lst ys))) ∨
     (J.go i H ∧ i < n ∧ ∀ x H', J.yld i H x H' → g x σ' H' fun σ2 H2 => tt σ2 H2 fun b H3 => if b = true then te σ2 H3 fun v H4 => W (i + 1) (ys ++ [v]) σ2 H4 else W (i + 1) ys σ2 H3))
def tComp (wi : TI) (cap : List (Option Nat)) (g : TG) (tt : TT) (te : TE) : TE := fun σ H Q => wi σ H (CompR cap g tt te σ Q)
end L2
set_option Elab.async false
set_option linter.all false
set_option maxRecDepth 100000
set_option maxHeartbeats 2000000
namespace L2
open PySem PySem.Spec PyProof.Rows
local macro_rules | `(tactic| walk_at "om") => `(tactic| first | omega | (unfold Addr at *; omega))
section
variable {X : Cx} {pins : List (Addr × Obj)} {σ : St} {H : Hp} {s : Shared}
theorem Inv.frs_lt (I : Inv X pins σ H s) {b : Addr} (hb : b ∈ frs X.stack) : b < s.heap.objs.size := by
  rcases List.mem_cons.mp (I.stkSub b hb) with e | h
  · rw [e]; exact I.lt
  · exact Nat.lt_of_not_le fun z => I.nofs z h
theorem Inv.cell_lt (I : Inv X pins σ H s) {x : Str} {c : Addr} (h : X.env.cells.lookup x = some c) : c < s.heap.objs.size := let ⟨_, z⟩ := I.cell x c h; z.lt
theorem Inv.pin_lt (I : Inv X pins σ H s) {p : Addr × Obj} (h : p ∈ X.pn ++ pins) : p.1 < s.heap.objs.size := Heap.lt_size (I.pin p h).1

theorem comp_ok {scope : Scope} {N' : List Str} {cap : List (Option Nat)} {fp : List Addr} {h5 : Heap} {C : Addr} (I : Inv X pins σ H s) (ok : CompOk X scope N' cap) (f2 : ∀ b ∈ fp, FpOk X pins H b) (hlt : ∀ b ∈ fp, b < s.heap.objs.size)
    (hC : s.heap.objs.size ≤ C) (h5C : h5.objs.size = C + 1) :
    (compCx X scope N' (cellsFrom (C + 1) scope.names [] ++ closL X.env.cells scope.names) C s H fp pins).Ok where
  mod := I.ok.mod
  kind := by show (relabel scope X.env).kind = _; exact ok.kind
  glob := I.ok.glob
  blt := I.ok.blt
  above := hC
  inj := fun x y c hx hy => by
    have hx : (cellsFrom (C + 1) scope.names [] ++ closL X.env.cells scope.names).lookup x = some c := hx
    have hy : (cellsFrom (C + 1) scope.names [] ++ closL X.env.cells scope.names).lookup y = some c := hy
    rw [lookup_app] at hx hy
    have ap := cellsFrom_apart scope.names h5
    rw [h5C] at ap
    cases ex : (cellsFrom (C + 1) scope.names []).lookup x with
    | some d =>
      rw [ex] at hx; cases hx
      have mx := PySem.mem_of_lookup ex
      cases ey : (cellsFrom (C + 1) scope.names []).lookup y with
      | some e =>
        rw [ey] at hy; cases hy
        exact name_of_addr ap mx (PySem.mem_of_lookup ey)
      | none =>
        rw [ey] at hy
        have := I.cell_lt (closL_look hy).2
        have := (cellsFrom_mem mx).2
        walk_at "om"
    | none =>
      rw [ex] at hx
      have lx := I.cell_lt (closL_look hx).2
      cases ey : (cellsFrom (C + 1) scope.names []).lookup y with
      | some e =>
        rw [ey] at hy; cases hy
        have := (cellsFrom_mem (PySem.mem_of_lookup ey)).2
        walk_at "om"
      | none =>
        rw [ey] at hy
        exact I.ok.inj x y c (closL_look hx).2 (closL_look hy).2
  has := fun x hx => by
    have hx : (relabel scope X.env).names.lookup x = some .cell ∨ (relabel scope X.env).names.lookup x = some .free := hx
    rw [relabel_look] at hx
    show ∃ c, (cellsFrom (C + 1) scope.names [] ++ closL X.env.cells scope.names).lookup x = some c
    rw [lookup_app]
    cases e : scope.names.lookup x with
    | none => rw [e] at hx; rcases hx with hx | hx <;> cases hx
    | some k =>
      have hm := PySem.mem_of_lookup e
      by_cases hk : k = .cell
      · subst hk
        obtain ⟨c, hc⟩ := cellsFrom_has (n := C + 1) hm
        obtain ⟨d, hd⟩ := lookup_of_mem hc
        exact ⟨d, by rw [hd]; rfl⟩
      · have hf : k = .free := by
          rw [e] at hx
          simp only [Option.map_some] at hx
          cases k with
          | free => rfl
          | cell => exact absurd rfl hk
          | _ => rcases hx with hx | hx <;> simp at hx
        subst hf
        obtain ⟨c, hc⟩ := I.ok.has x (ok.fre (x, .free) hm rfl)
        cases q : (cellsFrom (C + 1) scope.names []).lookup x with
        | some d => exact ⟨d, rfl⟩
        | none => exact ⟨c, by rw [closL_has hm hc]; rfl⟩
  cab := fun x c hf hx => by
    have hf : ownCell scope x = true := hf
    have hx : (cellsFrom (C + 1) scope.names [] ++ closL X.env.cells scope.names).lookup x = some c := hx
    rw [lookup_app] at hx
    unfold ownCell at hf
    have hm : (x, NameKind.cell) ∈ scope.names := PySem.mem_of_lookup (by simpa using hf)
    obtain ⟨d, hd⟩ := cellsFrom_has (n := C + 1) hm
    obtain ⟨d', hd'⟩ := lookup_of_mem hd
    rw [hd'] at hx; cases hx
    have := (cellsFrom_mem (PySem.mem_of_lookup hd')).2
    show s.heap.objs.size ≤ c
    walk_at "om"
  hd := I.ok.hd
  frames := I.ok.frames
  stk := .inl rfl
  exf := fun b hb => by
    have hb' := hlt b hb
    refine ⟨by show b ≠ C; walk_at "om", fun x c hx => ?_⟩
    have hx : (cellsFrom (C + 1) scope.names [] ++ closL X.env.cells scope.names).lookup x = some c := hx
    rw [lookup_app] at hx
    cases ex : (cellsFrom (C + 1) scope.names []).lookup x with
    | some d =>
      rw [ex] at hx; cases hx
      have := (cellsFrom_mem (PySem.mem_of_lookup ex)).2
      walk_at "om"
    | none =>
      rw [ex] at hx
      exact (f2 b hb).2.2.2.2.1 x c (closL_look hx).2
  bs := I.bs
  bsz := Nat.le_trans I.ok.bsz I.sz
  noex := fun b o e hb => by
    rcases (f2 b hb).2.2.2.1 with z | z
    · exact I.ok.noex b o e z
    · exact absurd (Nat.lt_of_lt_of_le (Heap.lt_size e) (Nat.le_trans I.ok.bsz z)) (Nat.lt_irrefl _)
  exfs := fun b hb z => by
    rcases List.mem_cons.mp (I.stkSub b z) with e | h
    · exact (f2 b hb).2.1 e
    · exact (f2 b hb).2.2.1 h
  funs := I.stack
  frf := I.stkFree

/-- what is at the block's start -/
theorem comp_start {scope : Scope} {N' : List Str} {cap : List (Option Nat)} {fp : List Addr} {h5 h4 : Heap} {C D : Addr} {lo : Obj} {tk : Nat} (I : Inv X pins σ H s) (ok : CompOk X scope N' cap) (f2 : ∀ b ∈ fp, FpOk X pins H b) (hlt : ∀ b ∈ fp, b < s.heap.objs.size)
    (hD : D = s.heap.objs.size) (hC : C = D + 1) (h5C : h5.objs.size = C + 1) (e4 : h4 = pushCells h5 scope.names) (hns : h5.Ns C fun _ => none) (hlo : h5.get? D = some lo) (nc : ∀ v, lo.data ≠ .cell v)
    (old : ∀ b o, s.heap.get? b = some o → h5.get? b = some o) :
    Inv (compCx X scope N' (cellsFrom (C + 1) scope.names [] ++ closL X.env.cells scope.names) C s H fp pins) [(D, lo)] (capS cap σ) H { s with heap := h4, toks := tk } := by
  have k4 : ∀ b o, h5.get? b = some o → h4.get? b = some o := fun b o e => by rw [e4]; exact pushCells_keeps _ _ b o e
  have old4 : ∀ b o, s.heap.get? b = some o → h4.get? b = some o := fun b o e => k4 b o (old b o e)
  have look : ∀ x c, (cellsFrom (C + 1) scope.names [] ++ closL X.env.cells scope.names).lookup x = some c → ((x, c) ∈ cellsFrom (C + 1) scope.names [] ∧ C + 1 ≤ c) ∨ ((x, NameKind.free) ∈ scope.names ∧ X.env.cells.lookup x = some c) := fun x c hx => by
    rw [lookup_app] at hx
    cases ex : (cellsFrom (C + 1) scope.names []).lookup x with
    | some d =>
      rw [ex] at hx; cases hx
      exact .inl ⟨PySem.mem_of_lookup ex, (cellsFrom_mem (PySem.mem_of_lookup ex)).2⟩
    | none =>
      rw [ex] at hx
      exact .inr (closL_look hx)
  refine ⟨comp_ok I ok f2 hlt (by walk_at "om") h5C, rfl, I.bare, Un.kept old4, ⟨_, hns.keeps k4, fun j x v e1 e2 e3 => ?_⟩, fun x c hx => ?_, I.hok.fresh (by show s.heap.objs.size ≤ C; walk_at "om"), fun x c hx => ?_, fun p hp => ?_, I.hok.kept old4, ?_⟩
  · have e2 : (capS cap σ)[j]? = some (some v) := e2
    unfold capS at e2
    rw [List.getElem?_map] at e2
    cases q : cap[j]? with
    | none => rw [q] at e2; cases e2
    | some o =>
      rw [q] at e2
      cases o with
      | none => cases e2
      | some i =>
        obtain ⟨y, hy1, hy2, hy3⟩ := ok.cap j i q
        have : N'[j]? = some x := e1
        rw [hy1] at this
        have exy : y = x := Option.some.inj this
        subst exy
        have hv : σ[i]? = some (some v) := by
          simp only [Option.map_some, Option.bind_some, Option.some.injEq] at e2
          cases r : σ[i]? with
          | none => rw [r] at e2; cases e2
          | some o => rw [r] at e2; simp at e2; rw [e2]
        have hm := PySem.mem_of_lookup hy3
        have hk := ok.fre _ hm rfl
        obtain ⟨m, _, hl⟩ := I.loc
        obtain ⟨u, ru, lu⟩ := hl i y v hy2 hv (by rcases hk with z | z; exact .inr (.inl z); exact .inr (.inr z))
        refine ⟨u, ru, .inr ⟨?_, ?_⟩⟩
        · show (relabel scope X.env).names.lookup y = some .cell ∨ (relabel scope X.env).names.lookup y = some .free
          rw [relabel_look, hy3]
          simp only [Option.map_some]
          split <;> simp
        · rcases lu with ⟨z, _⟩ | ⟨_, c, hc, hcell⟩
          · have z : X.env.scope.names.lookup y = some .local := z
            rcases hk with q | q <;> (rw [z] at q; cases q)
          · refine ⟨c, ?_, hcell.keeps old4⟩
            show (cellsFrom (C + 1) scope.names [] ++ closL X.env.cells scope.names).lookup y = some c
            rw [lookup_app]
            cases ex : (cellsFrom (C + 1) scope.names []).lookup y with
            | none => rw [closL_has hm hc]; rfl
            | some d =>
              have := (cellsFrom_mem (PySem.mem_of_lookup ex)).1
              have := ok.uniq _ this
              rw [hy3] at this; cases this
  · rcases look x c hx with ⟨z, _⟩ | ⟨_, z⟩
    · rw [← h5C] at z
      have := cellsFrom_lt z
      exact ⟨_, by rw [e4]; exact this⟩
    · obtain ⟨v, q⟩ := I.cell x c z
      exact ⟨v, q.keeps old4⟩
  · rcases look x c hx with ⟨_, z⟩ | ⟨_, z⟩
    · exact I.hok.fresh (by walk_at "om")
    · exact I.freeC x c z
  · have hp : p ∈ (X.pn ++ pins) ++ [(D, lo)] := hp
    rcases List.mem_append.mp hp with hp | hp
    · obtain ⟨e, n, ne, nf, d⟩ := I.pin p hp
      have := I.pin_lt hp
      refine ⟨old4 _ _ e, n, by show p.1 ≠ C; walk_at "om", fun z => ?_, d⟩
      rcases List.mem_cons.mp (I.stkSub p.1 z) with q | q
      · exact ne q
      · exact nf q
    · have : p = (D, lo) := by simpa using hp
      subst this
      refine ⟨k4 _ _ hlo, I.hok.fresh (by show s.heap.objs.size ≤ D; walk_at "om"), by show D ≠ C; walk_at "om", fun z => ?_, nc⟩
      have : D < s.heap.objs.size := I.frs_lt z
      walk_at "om"
  · show (capS cap σ).length = N'.length
    unfold capS
    rw [List.length_map]
    exact ok.len

/-- behind the block -/
theorem comp_end {scope : Scope} {N' : List Str} {fp : List Addr} {cells : List (Str × Addr)} {C D : Addr} {lo : Obj} {σ' : St} {H' : Hp} {s' : Shared} {its : List Value} {k : Nat} {ys : List V} (I : Inv X pins σ H s)
    (I' : Inv (compCx X scope N' cells C s H fp pins) [(D, lo)] σ' H' s') (f2 : ∀ b ∈ fp, FpOk X pins H b) (hD : s.heap.objs.size ≤ D) (elo : lo = { cls := .type "list", data := .seq its.toArray k }) (hv : Vals ys its) (hl : ys.length ≤ sizeLine) :
    Inv X pins σ (upd H' D (.lst ys)) s' := by
  obtain ⟨pd, pn, pc, pf, _⟩ := I'.pin (D, lo) (by show _ ∈ (X.pn ++ pins) ++ [(D, lo)]; simp)
  have pd : s'.heap.get? D = some lo := pd
  have pn : H' D = none := pn
  have neD : ∀ b o, s.heap.get? b = some o → b ≠ D := fun b o e => Nat.ne_of_lt (Nat.lt_of_lt_of_le (Heap.lt_size e) hD)
  have B := I'.base
  refine I.call' (ch := fp) I'.os ⟨B.keep, B.slot, fun b o e n hx => ?_, B.there, fun b xs e => ?_, fun b o u e => ?_, fun b ps e => ?_⟩ (fun b u e => ?_) I'.bare fun b hb => ⟨(f2 b hb).2.2.2.1, (f2 b hb).2.1, (f2 b hb).2.2.2.2.1, (f2 b hb).2.2.2.2.2⟩
  · rw [upd_ne (neD b o e)]; exact B.free b o e n hx
  · have := B.tups b xs e
    rw [upd_ne (ne_of_none this pn)]; exact this
  · have := B.frzs b o u e
    rw [upd_ne (ne_of_none this pn)]; exact this
  · obtain ⟨m, e'⟩ := B.tbls b ps e
    exact ⟨m, by rw [upd_ne (ne_of_none e' pn)]; exact e'⟩
  · by_cases hb : b = D
    · subst hb
      rw [upd_same] at e; cases e
      exact ⟨hl, its, k, hv, by rw [pd, elo]⟩
    · rw [upd_ne hb] at e
      exact (I'.hok b u e).stay (fun _ _ _ q => q) (fun c q => by rw [upd_ne (ne_of_none q pn)]; exact q) fun c xs q => by rw [upd_ne (ne_of_none q pn)]; exact q
end

section
variable {X : Cx} {pins : List (Addr × Obj)} {σ : St} {H2 : Hp} {s2 : Shared}
theorem comp_run {elt tg iter : Expr} {ifs : List Expr} {scope : Scope} {pos : Pos} {N' : List Str} {cap : List (Option Nat)} {g : TG} {tt : TT} {te : TE} {it : Addr} {fp : List Addr} {tn : Nat → Heap → Prop} {J : It} {n : Nat} {W : Nat → List V → St → Hp → Prop} {Q : VK}
    {RR : Value → Addr → Result → Shared → Prop} {E : Value → Shared → Prop}
    (hc : X.calm = true) (ok : CompOk X scope N' cap)
    (hb : ∀ cells C s₀ H₀ fp pins, PG (compCx X scope N' cells C s₀ H₀ fp pins) tg g ∧ PIfs (compCx X scope N' cells C s₀ H₀ fp pins) ifs tt ∧ PE (compCx X scope N' cells C s₀ H₀ fp pins) elt te)
    (I2 : Inv X pins σ H2 s2) (T : Turn X.prog X.w X.K tg J fp it tn) (st2 : tn 0 s2.heap) (f2 : ∀ b ∈ fp, FpOk X pins H2 b) (hn : n ≤ sizeLine) (w0 : W 0 [] (capS cap σ) H2)
    (turn : ∀ i ys σ' H, W i ys σ' H → i ≤ n ∧ ys.length ≤ i ∧
      ((J.stop i H ∧ ∀ D, H D = none → Q (.ref D) (upd H D (.lst ys))) ∨
       (J.go i H ∧ i < n ∧ ∀ x H', J.yld i H x H' → g x σ' H' fun σ2 H2 => tt σ2 H2 fun b H3 => if b = true then te σ2 H3 fun v H4 => W (i + 1) (ys ++ [v]) σ2 H4 else W (i + 1) ys σ2 H3)))
    (hRR : ∀ (D C : Addr) (s' : Shared) (H' : Hp), Inv X pins σ H' s' → Q (.ref D) H' → (∃ m, s'.heap.Ns C m) → H' C = none → C ≠ X.env.locals → X.s₀.heap.objs.size ≤ C → (∀ x c, X.env.cells.lookup x = some c → c ≠ C) → (∀ p ∈ X.pn ++ pins, p.1 ≠ C) → RR (.ref D) C (.ok .next) s') :
    wpAny (model X.prog X.w) X.A (newList []) (fun acc s₃ => wpAny (model X.prog X.w) X.A (newFunctionEnv scope X.env.globals (closL X.env.cells scope.names) [] X.env.qual none .none (some X.env)) (fun cenv s₄ =>
      codeAny (model X.prog X.w) X.A (.compStart (.ListComp elt [⟨tg, iter, ifs, 0⟩] scope pos) 0 (.ref it) acc { cenv with scope := relabel scope X.env }) (RR acc cenv.locals) s₄) E s₃) E s2 := by
  refine wpAny_newObj_type (wpAny_newCompEnv ?_)
  dsimp only
  generalize hH3 : s2.heap.push { cls := .type "list", dict := none, data := .seq ([] : List Value).toArray } = h3
  have sz3 : h3.objs.size = s2.heap.objs.size + 1 := by rw [← hH3, Heap.size_push]
  generalize hH5 : h3.push { cls := .type "dict", data := .dict #[] } = h5
  have sz5 : h5.objs.size = h3.objs.size + 1 := by rw [← hH5, Heap.size_push]
  generalize hH4 : pushCells h5 scope.names = h4
  have hns5 : h5.Ns h3.objs.size fun _ => none := by rw [← hH5]; exact Heap.Ns.new ..
  have old5 : ∀ b o, s2.heap.get? b = some o → h5.get? b = some o := fun b o e => by rw [← hH5]; exact Heap.get?_push_of_some _ (by rw [← hH3]; exact Heap.get?_push_of_some _ e)
  have hlo5 : h5.get? s2.heap.objs.size = some { cls := .type "list", data := .seq ([] : List Value).toArray } := by rw [← hH5]; exact Heap.get?_push_of_some _ (by rw [← hH3]; exact Heap.get?_push_size _ rfl)
  have hlt : ∀ b ∈ fp, b < s2.heap.objs.size := fun b hb => let ⟨o, e, _⟩ := T.obj _ _ st2 b hb; Heap.lt_size e
  have I0 : ∀ tk, Inv (compCx X scope N' (cellsFrom (h3.objs.size + 1) scope.names [] ++ closL X.env.cells scope.names) h3.objs.size s2 H2 fp pins) [(s2.heap.objs.size, { cls := .type "list", data := .seq ([] : List Value).toArray })] (capS cap σ) H2 { s2 with heap := h4, toks := tk } := fun tk =>
    comp_start I2 ok f2 hlt rfl sz3 sz5 hH4.symm hns5 hlo5 (fun v z => by cases z) old5
  have k4 : ∀ b o, s2.heap.get? b = some o → h4.get? b = some o := fun b o e => by rw [← hH4]; exact pushCells_keeps _ _ b o (old5 b o e)
  have st4 : tn 0 h4 := T.keep _ _ _ st2 fun b _ o e => k4 b o e
  obtain ⟨pg, pif, pel⟩ := hb (cellsFrom (h3.objs.size + 1) scope.names [] ++ closL X.env.cells scope.names) h3.objs.size s2 H2 fp pins
  generalize hcs : cellsFrom (h3.objs.size + 1) scope.names [] ++ closL X.env.cells scope.names = cs at I0 pg pif pel ⊢
  -- the iterator's objects through the loop
  have stat : ∀ {lo : Obj} {σ' : St} {H' : Hp} {s' : Shared}, Inv (compCx X scope N' cs h3.objs.size s2 H2 fp pins) [(s2.heap.objs.size, lo)] σ' H' s' → (∀ b ∈ fp, H' b = none) → ∀ b ∈ fp, FpOk (compCx X scope N' cs h3.objs.size s2 H2 fp pins) [(s2.heap.objs.size, lo)] H' b := fun {lo σ' H' s'} I' fr b hb => by
    have q := f2 b hb
    have lb := hlt b hb
    refine ⟨fr b hb, by show b ≠ h3.objs.size; walk_at "om", I'.ok.exfs b hb, .inl hb, (I'.ok.exf b hb).2, fun p hp => ?_⟩
    have hp : p ∈ (X.pn ++ pins) ++ [(s2.heap.objs.size, lo)] := hp
    rcases List.mem_append.mp hp with hp | hp
    · exact q.2.2.2.2.2 p hp
    · have : p = (s2.heap.objs.size, lo) := by simpa using hp
      subst this
      show s2.heap.objs.size ≠ b
      walk_at "om"
  have loop : ∀ tk, codeAny (model X.prog X.w) X.A (.compLoop (.ListComp elt [⟨tg, iter, ifs, 0⟩] scope pos) 0 (.ref it) (.ref s2.heap.objs.size) (compEnvC scope cs h3.objs.size X.env)) (RR (.ref s2.heap.objs.size) h3.objs.size) { s2 with heap := h4, toks := tk } := fun tk => by
    refine compLoop_gen (fun k s' => ∃ (i : Nat) (ys : List V) (σ' : St) (H' : Hp) (its : List Value) (c : Nat), Inv (compCx X scope N' cs h3.objs.size s2 H2 fp pins) [(s2.heap.objs.size, { cls := .type "list", data := .seq its.toArray c })] σ' H' s' ∧ tn i s'.heap ∧ (∀ b ∈ fp, H' b = none) ∧
      Vals ys its ∧ W i ys σ' H' ∧ k = n + 1 - i) ?_ (n + 1) ⟨0, [], capS cap σ, H2, [], 0, I0 tk, st4, fun b hb => (f2 b hb).1, .nil, w0, rfl⟩
    rintro k s3 ⟨i, ys, σ3, H3, its, c, I3, st3, fr3, hv3, w3, rfl⟩
    obtain ⟨hi, hy, hcase⟩ := turn i ys σ3 H3 w3
    rcases hcase with ⟨stop, q⟩ | ⟨go, hlt', step⟩
    · refine thn (T.done (compCx X scope N' cs h3.objs.size s2 H2 fp pins) rfl rfl rfl hc i _ s3 σ3 H3 _ I3 (stat I3 fr3) st3 stop) fun r s4 ⟨hr, I4⟩ => ?_
      subst hr
      have Ie := comp_end I2 I4 f2 (Nat.le_refl _) rfl hv3 (by walk_at "om")
      obtain ⟨_, pn, _⟩ := I4.pin (s2.heap.objs.size, _) (by show _ ∈ (X.pn ++ pins) ++ [_]; exact List.mem_append_right _ (List.mem_singleton.mpr rfl))
      obtain ⟨m, hm, _⟩ := I4.loc
      refine hRR _ _ s4 _ Ie (q _ pn) ⟨m, hm⟩ ?_ ?_ ?_ ?_ ?_
      · rw [upd_ne (by walk_at "om")]; exact I4.free
      · have := I2.lt; walk_at "om"
      · have := I2.sz; walk_at "om"
      · intro x c e; have := I2.cell_lt e; walk_at "om"
      · intro p hp; have := I2.pin_lt hp; walk_at "om"
    · refine thn (T.item (compCx X scope N' cs h3.objs.size s2 H2 fp pins) rfl rfl rfl hc i _ s3 σ3 H3 _ I3 (stat I3 fr3) st3 go) fun r s4 ⟨u, hr, h4'⟩ => ?_
      subst hr
      refine thn h4' fun _ s5 ⟨x, H5, I5, r5, y5, st5, fr5⟩ => ?_
      have I5' := I5.pinned (stat I5 fr5) (T.obj _ _ st5)
      refine thn (pg _ s5 σ3 H5 x u _ I5' r5 (step x H5 y5)) fun _ s6 ⟨σ6, H6, I6, q6⟩ => ?_
      refine thn (pif _ s6 σ6 H6 _ I6 q6) fun b s7 ⟨H7, I7, q7⟩ => ?_
      have back : ∀ {σ8 : St} {H8 : Hp} {s8 : Shared} {o : List (Addr × Obj)}, Inv (compCx X scope N' cs h3.objs.size s2 H2 fp pins) (o ++ pinsAt fp s5.heap) σ8 H8 s8 → tn (i + 1) s8.heap ∧ ∀ b ∈ fp, H8 b = none := fun {σ8 H8 s8 o} I8 => by
        have pp : ∀ b ob, b ∈ fp → s5.heap.get? b = some ob → s8.heap.get? b = some ob ∧ H8 b = none := fun b ob hb e => by
          have := I8.pin (b, ob) (List.mem_append_right _ (List.mem_append_right _ (mem_pinsAt hb e)))
          exact ⟨this.1, this.2.1⟩
        refine ⟨T.keep _ _ _ st5 fun b hb ob e => (pp b ob hb e).1, fun b hb => ?_⟩
        obtain ⟨ob, e, _⟩ := T.obj _ _ st5 b hb
        exact (pp b ob hb e).2
      cases b with
      | false =>
        simp only [Bool.false_eq_true, if_false]
        simp only [Bool.false_eq_true, if_false] at q7
        obtain ⟨st7, fr7⟩ := back I7
        exact ⟨n + 1 - (i + 1), by walk_at "om", i + 1, ys, σ6, H7, its, c, I7.unpinned, st7, fr7, hv3, q7, rfl⟩
      | true =>
        simp only [if_true]
        simp only [if_true] at q7
        refine thn (pel _ s7 σ6 H7 _ I7 q7) fun y s8 ⟨v, H8, I8, r8, q8⟩ => ?_
        obtain ⟨st8, fr8⟩ := back I8
        have I8u := I8.unpinned
        obtain ⟨pd, pn, pc, pf, _⟩ := I8u.pin (s2.heap.objs.size, { cls := .type "list", data := .seq its.toArray c }) (List.mem_append_right _ (List.mem_singleton.mpr rfl))
        have pd : s8.heap.get? s2.heap.objs.size = some { cls := .type "list", data := .seq its.toArray c } := pd
        have hits : its.length ≤ sizeLine := by have := hv3.length; walk_at "om"
        refine wpAny_list_append_plain (s := s8) (hsz := by simpa using hits) ⟨c, pd⟩ fun h9 ⟨c9, pl9⟩ sb9 => ?_
        have k9 : ∀ b o, b ≠ s2.heap.objs.size → s8.heap.get? b = some o → h9.get? b = some o := fun b o hb e => (sb9.2 b hb).trans e
        have I8n : Inv (compCx X scope N' cs h3.objs.size s2 H2 fp pins) [] σ6 H8 s8 := I8u.pins_of (pins' := []) fun p hp => (nomatch hp)
        have I9 : Inv (compCx X scope N' cs h3.objs.size s2 H2 fp pins) [] σ6 H8 { s8 with heap := h9, toks := s8.toks } := I8n.turned k9 pn (by show s2.heap.objs.size ≠ h3.objs.size; walk_at "om") (.inr (Nat.le_refl _))
          (fun x c e z => by
            have e : cs.lookup x = some c := e
            rw [← hcs, lookup_app] at e
            cases ex : (cellsFrom (h3.objs.size + 1) scope.names []).lookup x with
            | some d =>
              rw [ex] at e; cases e
              have := (cellsFrom_mem (PySem.mem_of_lookup ex)).2
              walk_at "om"
            | none =>
              rw [ex] at e
              have := I2.cell_lt (closL_look e).2
              walk_at "om")
          (fun p hp => by
            have hp : p ∈ (X.pn ++ pins) ++ [] := hp
            rw [List.append_nil] at hp
            have := I2.pin_lt hp
            walk_at "om")
        have I9' : Inv (compCx X scope N' cs h3.objs.size s2 H2 fp pins) [(s2.heap.objs.size, { cls := .type "list", data := .seq (its ++ [y]).toArray c9 })] σ6 H8 { s8 with heap := h9, toks := s8.toks } := I9.pins_of fun p hp => by
          have : p = (s2.heap.objs.size, ({ cls := .type "list", data := .seq (its ++ [y]).toArray c9 } : Obj)) := by simpa using hp
          subst this
          refine ⟨?_, pn, pc, pf, fun v z => by cases z⟩
          show h9.get? s2.heap.objs.size = _
          rw [pl9]
          simp
        have stf : tn (i + 1) h9 := T.keep _ _ _ st8 fun b hb o e => k9 b o (by have := hlt b hb; walk_at "om") e
        exact ⟨n + 1 - (i + 1), by walk_at "om", i + 1, ys ++ [v], σ6, H8, its ++ [y], c9, I9', stf, fr8, Vals.append hv3 (.cons r8 .nil), q8, rfl⟩
  exact codeAny_compStart_list (loop _) (T.self _ 0 _ _ _ st4 (loop _))
end

section
variable {X : Cx}
theorem comp_hnames {scope : Scope} {N' : List Str} {cap : List (Option Nat)} (ok : CompOk X scope N' cap) : ∀ x ∈ scope.names, x.2 = .local → scope.names.lookup x.1 = some .local := fun x hx e => by rw [ok.uniq x hx, e]
theorem comp_clos {scope : Scope} {N' : List Str} {cap : List (Option Nat)} (okX : X.Ok) (ok : CompOk X scope N' cap) : closureFor scope X.env = pure (closL X.env.cells scope.names) :=
  closureFor_eq fun x hx e => okX.has x.1 (ok.fre x hx e)
/-- [elt for tg in iter if ..] as a value -/
theorem pe_comp {elt tg iter : Expr} {ifs : List Expr} {scope : Scope} {pos : Pos} {N' : List Str} {cap : List (Option Nat)} {wi : TI} {g : TG} {tt : TT} {te : TE} (hc : X.calm = true) (ok : CompOk X scope N' cap) (hi : PI X tg iter wi)
    (hb : ∀ cells C s₀ H₀ fp pins, PG (compCx X scope N' cells C s₀ H₀ fp pins) tg g ∧ PIfs (compCx X scope N' cells C s₀ H₀ fp pins) ifs tt ∧ PE (compCx X scope N' cells C s₀ H₀ fp pins) elt te)
    (hs : ∀ x, foldedSetIterable iter X.env x = pure x := by intro _; rfl) : PE X (.ListComp elt [⟨tg, iter, ifs, 0⟩] scope pos) (tComp wi cap g tt te) := by
  intro pins s σ H Q I h
  rw [eval_ListComp]
  refine wpAny_comprehension_free (use := none) rfl hs (comp_clos I.ok ok) ok.kind (comp_hnames ok) (thn (hi pins s σ H _ I h) fun v s1 h1 => thn h1 fun itv s2 h2 => ?_)
  obtain ⟨it, fp, tn, J, H2, e, I2, T, st2, f2, n, W, hn, w0, turn⟩ := h2
  subst e
  refine comp_run (RR := fun acc C => compPost (model X.prog X.w) X.A X.xe none (EP X pins σ Q) acc C) hc ok hb I2 T st2 f2 hn w0 turn ?_
  intro D C s' H' I' q hm fr c1 c2 c3 c4
  obtain ⟨m, hm⟩ := hm
  exact ⟨m, hm, fun h' sb => ⟨.ref D, H', I'.turned (t' := s'.toks) (fun b o hb e => (sb.2 b hb).trans e) fr c1 (.inr c2) c3 c4, rfl, q⟩⟩
/-- name = [elt for ..]: stored ahead of the block's end -/
theorem ps_setComp {i : Nat} {y : Str} {elt tg iter : Expr} {ifs : List Expr} {scope : Scope} {pos spos py : Pos} {N' : List Str} {cap : List (Option Nat)} {wi : TI} {g : TG} {tt : TT} {te : TE} (hN : X.N.Nodup) (hiy : X.N[i]? = some y) (hy : X.env.scope.names.lookup y = some .local)
    (hc : X.calm = true) (ok : CompOk X scope N' cap) (hi : PI X tg iter wi)
    (hb : ∀ cells C s₀ H₀ fp pins, PG (compCx X scope N' cells C s₀ H₀ fp pins) tg g ∧ PIfs (compCx X scope N' cells C s₀ H₀ fp pins) ifs tt ∧ PE (compCx X scope N' cells C s₀ H₀ fp pins) elt te)
    (hsw : swapsWith (.ListComp elt [⟨tg, iter, ifs, 0⟩] scope pos) (some (.Name y py)) spos.line X.env = pure true := by rfl)
    (hs : ∀ x, foldedSetIterable iter X.env x = pure x := by intro _; rfl) : PS X (.Assign [.Name y py] (.ListComp elt [⟨tg, iter, ifs, 0⟩] scope pos) spos) (tAsg (tComp wi cap g tt te) (gName i)) := by
  intro pins s σ H D I h
  rw [exec_Assign_Name_used _ _ _ _ hsw]
  refine wpAny_bind (wpAny_standAt (wpAny_bind ?_))
  show wpAny _ X.A (do let _ ← comprehension (.ListComp elt [⟨tg, iter, ifs, 0⟩] scope pos) scope X.env _ (newList []) false (eval iter X.env) (some (assign (.Name y py) X.env))) _ _ s
  refine wpAny_bind (wpAny_mono (wpAny_comprehension_free (use := some (assign (.Name y py) X.env)) (Q := fun _ s' => SP X pins D .next s') rfl hs (comp_clos I.ok ok) ok.kind (comp_hnames ok)
    (thn (hi pins s σ H _ I h) fun v s1 h1 => thn h1 fun itv s2 h2 => ?_)) (fun _ s' hq => wpAny_pure (wpAny_pure hq)) fun _ _ e => e)
  obtain ⟨it, fp, tn, J, H2, e, I2, T, st2, f2, n, W, hn, w0, turn⟩ := h2
  subst e
  refine comp_run (RR := fun acc C => compPost (model X.prog X.w) X.A X.xe (some (assign (.Name y py) X.env)) (fun _ s' => SP X pins D .next s') acc C) (Q := fun v H1 => gName i v σ H1 D.nx) hc ok hb I2 T st2 f2 hn w0 turn ?_
  intro D' C s' H' I' q hm fr c1 c2 c3 c4
  obtain ⟨m, hm⟩ := hm
  show wpAny _ X.A (assign (.Name y py) X.env (.ref D')) _ _ s'
  refine wpAny_assign_Name (store_ok2 I' hN hiy (.inl hy) (v := .ref D') rfl (fun s'' I'' ⟨a, sb, ha⟩ => ?_) (.inr hy))
  have aC : C ≠ a := by
    rcases ha with z | z
    · rw [z]; exact c1
    · exact (c3 _ _ z).symm
  refine ⟨m, hm.sameBut sb aC, fun h' sb' => ?_⟩
  exact ⟨_, H', I''.turned (t' := s''.toks) (fun b o hb e => (sb'.2 b hb).trans e) fr c1 (.inr c2) c3 c4, q⟩
end

/-! ### the forms one uses -/
/-- over a range -/
theorem comp_range {lo : Int} {m : Nat} {cap : List (Option Nat)} {g : TG} {tt : TT} {te : TE} {σ : St} {H : Hp} {Q : VK} (hm : m ≤ sizeLine) (Pv : Nat → List V → St → Hp → Prop) (h0 : Pv 0 [] (capS cap σ) H)
    (hl : ∀ i ys σ H, Pv i ys σ H → i ≤ m ∧ ys.length ≤ i)
    (hs : ∀ i ys σ H, i < m → Pv i ys σ H → g (.int (lo + i)) σ H fun σ2 H2 => tt σ2 H2 fun b H3 => if b = true then te σ2 H3 fun v H4 => Pv (i + 1) (ys ++ [v]) σ2 H4 else Pv (i + 1) ys σ2 H3)
    (hd : ∀ ys σ H, Pv m ys σ H → ∀ D, H D = none → Q (.ref D) (upd H D (.lst ys))) :
    CompR cap g tt te σ Q (Itr lo m) H := by
  refine ⟨m, Pv, hm, h0, fun i ys σ' H p => ⟨(hl i ys σ' H p).1, (hl i ys σ' H p).2, ?_⟩⟩
  by_cases hi : i < m
  · refine .inr ⟨hi, hi, fun x H' ⟨e1, e2⟩ => ?_⟩
    subst e1 e2
    exact hs i ys σ' H' hi p
  · have : i = m := by have := (hl i ys σ' H p).1; walk_at "om"
    subst this
    exact .inl ⟨Nat.le_refl _, hd ys σ' H p⟩
/-- over a list that stays -/
theorem comp_list {K : PySem.W.Frag} {a : Addr} {xs : List V} {cap : List (Option Nat)} {g : TG} {tt : TT} {te : TE} {σ : St} {H : Hp} {Q : VK} (hm : xs.length ≤ sizeLine) (Pv : Nat → List V → St → Hp → Prop) (h0 : Pv 0 [] (capS cap σ) H)
    (hl : ∀ i ys σ H, Pv i ys σ H → i ≤ xs.length ∧ ys.length ≤ i ∧ SqL K H a xs)
    (hs : ∀ i x ys σ H, xs[i]? = some x → Pv i ys σ H → g x σ H fun σ2 H2 => tt σ2 H2 fun b H3 => if b = true then te σ2 H3 fun v H4 => Pv (i + 1) (ys ++ [v]) σ2 H4 else Pv (i + 1) ys σ2 H3)
    (hd : ∀ ys σ H, Pv xs.length ys σ H → ∀ D, H D = none → Q (.ref D) (upd H D (.lst ys))) :
    CompR cap g tt te σ Q (Itl K a) H := by
  refine ⟨xs.length, Pv, hm, h0, fun i ys σ' H p => ?_⟩
  obtain ⟨h1, h2, h3⟩ := hl i ys σ' H p
  refine ⟨h1, h2, ?_⟩
  by_cases hi : i < xs.length
  · obtain ⟨x, hx⟩ : ∃ x, xs[i]? = some x := ⟨xs[i], List.getElem?_eq_getElem hi⟩
    refine .inr ⟨⟨xs, x, h3, hx⟩, hi, fun x' H' ⟨e1, e2⟩ => ?_⟩
    subst e1
    exact hs i x' ys σ' H' (e2 xs h3) p
  · have : i = xs.length := by walk_at "om"
    subst this
    exact .inl ⟨⟨xs, h3, Nat.le_refl _⟩, hd ys σ' H p⟩
end L2
set_option Elab.async false
set_option linter.all false
set_option maxRecDepth 100000
set_option maxHeartbeats 2000000
namespace L2
open PySem PySem.Spec PyProof.Rows
local macro_rules | `(tactic| walk_at "om") => `(tactic| first | omega | (unfold Addr at *; omega))
section
variable {X : Cx}
/-! ### isinstance, one class -/
theorem call_isT : CallR X (.builtin "isinstance") (fun xs H Q => ∃ x n t b, xs = [x, .ty n] ∧ TyOf X.K H x t ∧ PySem.W.kitOne X.K t (.type n) = some b ∧ Q (.bl b) H) := by
  intro pins s σ H xs us Q I r h
  obtain ⟨x, n, t, b, rfl, ty, e, q⟩ := h
  obtain ⟨u, w', rfl, rx, rc⟩ := vals2 r
  cases rc
  exact isinst_ok I rx ty e fun tk => ⟨.bl b, H, I.tok tk, rfl, q⟩
/-! ### sum of a list of ints -/
theorem call_sumL (hc : X.calm = true) : CallR X (.builtin "sum") (fun xs H Q => ∃ (p : Addr) (ns : List Int), xs = [.ref p] ∧ SqL X.K H p (ns.map V.int) ∧ Q (.int ns.sum) H) := by
  intro pins s σ H xs us Q I r h
  obtain ⟨p, ns, rfl, hq, q⟩ := h
  obtain ⟨u, rfl, rx⟩ := vals1 r
  cases rx
  obtain ⟨its, rv, pl, hz⟩ := I.list hq
  have hi : IntsAre its ns := intsAre_of rv
  have hn : numsOf its = ns := hi.numsOf
  have hl := pl.isList
  obtain ⟨zs, ez⟩ := hi.allInts.items
  rw [ez] at hl
  refine sum_intListG (I.ok.hd hc) hl fun h' tk t' hk => ?_
  have e : preSum (numAt zs) zs.size = ns.sum := by
    rw [preSum_eq, List.take_of_length_le (by simp), ← nums_intItems, ← ez, ← hn]
  rw [e]
  exact ⟨.int ns.sum, H, I.kept hk, ⟨_, rfl⟩, q⟩
/-! ### all of a list of bools -/
end

/-! ### == of data: lists, tuples, flat values -/
inductive Tr where
  | flat (v : V)
  | lst (xs : List Tr)
  | tup (xs : List Tr)
mutual
def eqT : Tr → Tr → Bool
  | .flat a, .flat b => eqV a b
  | .lst xs, .lst ys => eqTs xs ys
  | .tup xs, .tup ys => eqTs xs ys
  | _, _ => false
def eqTs : List Tr → List Tr → Bool
  | [], [] => true
  | x :: xs, y :: ys => eqT x y && eqTs xs ys
  | _, _ => false
end
theorem eqV_refl : ∀ {v : V}, flatV v = true → eqV v v = true
  | .non, _ => rfl
  | .bl b, _ => by simp [eqV]
  | .int i, _ => by simp [eqV]
  | .str x, _ => by simp [eqV]
/-- the value stands for the tree, of depth below n -/
inductive Holds (K : PySem.W.Frag) (H : Hp) : Nat → V → Tr → Prop where
  | flat {n : Nat} {v : V} (h : flatV v = true) : Holds K H n v (.flat v)
  | lst {n : Nat} {a : Addr} {xs : List V} {ts : List Tr} (h : SqL K H a xs) (hl : xs.length = ts.length) (he : ∀ (i : Nat) x t, xs[i]? = some x → ts[i]? = some t → Holds K H n x t) : Holds K H (n + 1) (.ref a) (.lst ts)
  | tup {n : Nat} {a : Addr} {xs : List V} {ts : List Tr} (h : SqT K H a xs) (hl : xs.length = ts.length) (he : ∀ (i : Nat) x t, xs[i]? = some x → ts[i]? = some t → Holds K H n x t) : Holds K H (n + 1) (.ref a) (.tup ts)
theorem eqTs_len : ∀ {xs ys : List Tr}, xs.length ≠ ys.length → eqTs xs ys = false
  | [], [], h => absurd rfl h
  | [], _ :: _, _ => by simp [eqTs]
  | _ :: _, [], _ => by simp [eqTs]
  | x :: xs, y :: ys, h => by
    have := eqTs_len (xs := xs) (ys := ys) (fun e => h (by simp [e]))
    simp [eqTs, this]
theorem eqTs_all : ∀ {xs ys : List Tr}, xs.length = ys.length → eqTs xs ys = (List.range xs.length).all fun i => match xs[i]?, ys[i]? with | some x, some y => eqT x y | _, _ => true
  | [], [], _ => by simp [eqTs]
  | x :: xs, y :: ys, h => by
    have ih := eqTs_all (xs := xs) (ys := ys) (by simpa using h)
    rw [List.length_cons, List.range_succ_eq_map, List.all_cons, List.all_map]
    simp only [eqTs]
    rw [ih]
    rfl
section
variable {X : Cx} {pins : List (Addr × Obj)} {σ : St} {H : Hp} {s : Shared}
/-- what stands for itself is equal to itself -/
theorem Holds.same (I : Inv X pins σ H s) : ∀ {n : Nat} {x : V} {t u : Tr}, Holds X.K H n x t → ∀ {m : Nat}, Holds X.K H m x u → eqT t u = true := by
  intro n x t u h
  induction h generalizing u with
  | flat hv =>
    intro m h'
    cases h' with
    | flat _ => simp only [eqT]; exact eqV_refl hv
    | lst => simp [flatV] at hv
    | tup => simp [flatV] at hv
  | @lst n a xs ts h hl he ih =>
    intro m h'
    cases h' with
    | flat hv => simp [flatV] at hv
    | @lst _ _ ys us h2 hl2 he2 =>
      have e := I.list_inj h h2
      subst e
      simp only [eqT]
      rw [eqTs_all (hl.symm.trans hl2), List.all_eq_true]
      intro i hi
      have hi : i < ts.length := by simpa using hi
      have hx : xs[i]? = some xs[i] := List.getElem?_eq_getElem (by walk_at "om")
      have ht : ts[i]? = some ts[i] := List.getElem?_eq_getElem hi
      have hu : us[i]? = some us[i] := List.getElem?_eq_getElem (by walk_at "om")
      rw [ht, hu]
      exact ih i _ _ hx ht (he2 i _ _ hx hu)
    | tup h2 =>
      exfalso
      obtain ⟨its, _, p, _⟩ := I.list h
      obtain ⟨its2, _, p2, _⟩ := I.tuple h2
      obtain ⟨o, ho, hc, _⟩ := p.isList
      obtain ⟨o2, ho2, hc2, _⟩ := p2
      rw [ho] at ho2; cases ho2
      rw [hc] at hc2
      injection hc2 with z
      exact absurd z (by decide)
  | @tup n a xs ts h hl he ih =>
    intro m h'
    cases h' with
    | flat hv => simp [flatV] at hv
    | lst h2 =>
      exfalso
      obtain ⟨its, _, p, _⟩ := I.list h2
      obtain ⟨its2, _, p2, _⟩ := I.tuple h
      obtain ⟨o, ho, hc, _⟩ := p.isList
      obtain ⟨o2, ho2, hc2, _⟩ := p2
      rw [ho] at ho2; cases ho2
      rw [hc] at hc2
      injection hc2 with z
      exact absurd z (by decide)
    | @tup _ _ ys us h2 hl2 he2 =>
      have e := I.tuple_inj h h2
      subst e
      simp only [eqT]
      rw [eqTs_all (hl.symm.trans hl2), List.all_eq_true]
      intro i hi
      have hi : i < ts.length := by simpa using hi
      have hx : xs[i]? = some xs[i] := List.getElem?_eq_getElem (by walk_at "om")
      have ht : ts[i]? = some ts[i] := List.getElem?_eq_getElem hi
      have hu : us[i]? = some us[i] := List.getElem?_eq_getElem (by walk_at "om")
      rw [ht, hu]
      exact ih i _ _ hx ht (he2 i _ _ hx hu)
/-- the items' answers of two rows -/
theorem items_eq {A : Around} {n m : Nat} {xs ys : List V} {ts us : List Tr} {its its2 : List Value} (rv : Vals xs its) (rv2 : Vals ys its2) (hl : xs.length = ts.length) (hl2 : ys.length = us.length)
    (he : ∀ (i : Nat) x t y u v w', xs[i]? = some x → ts[i]? = some t → ys[i]? = some y → us[i]? = some u → RelV x v → RelV y w' → SeqAt.EqAt A s v w' (eqT t u)) :
    ∀ j (h1 : j < its.toArray.size) (h2 : j < its2.toArray.size), SeqAt.EqAt A s its.toArray[j] its2.toArray[j] (match ts[j]?, us[j]? with | some x, some y => eqT x y | _, _ => true) := by
  intro j h1 h2
  have a1 := rv.length
  have a2 := rv2.length
  have h1' : j < its.length := by simpa using h1
  have h2' : j < its2.length := by simpa using h2
  have hx : xs[j]? = some xs[j] := List.getElem?_eq_getElem (by walk_at "om")
  have hy : ys[j]? = some ys[j] := List.getElem?_eq_getElem (by walk_at "om")
  have ht : ts[j]? = some ts[j] := List.getElem?_eq_getElem (by walk_at "om")
  have hu : us[j]? = some us[j] := List.getElem?_eq_getElem (by walk_at "om")
  obtain ⟨v, ev, r1⟩ := rv.get hx
  obtain ⟨w', ew, r2⟩ := rv2.get hy
  rw [ht, hu]
  have e1 : its.toArray[j] = v := by
    have : its[j]? = some its[j] := List.getElem?_eq_getElem h1'
    rw [this] at ev
    simpa using ev
  have e2 : its2.toArray[j] = w' := by
    have : its2[j]? = some its2[j] := List.getElem?_eq_getElem h2'
    rw [this] at ew
    simpa using ew
  rw [e1, e2]
  exact he j _ _ _ _ _ _ hx ht hy hu r1 r2
theorem eqAt_T (I : Inv X pins σ H s) : ∀ {n : Nat} {x : V} {t : Tr}, Holds X.K H n x t → ∀ {m : Nat} {y : V} {u : Tr} {v w' : Value} {A : Around}, Holds X.K H m y u → RelV x v → RelV y w' → A.units + n + 1 < cLine → SeqAt.EqAt A s v w' (eqT t u) := by
  intro n x t h
  induction h with
  | @flat n x hv =>
    intro m y u v w' A h' rx ry hu
    cases h' with
    | flat hv2 => simp only [eqT]; exact eqAt_V rx ry hv hv2
    | @lst _ a xs ts h =>
      cases ry
      obtain ⟨its, _, p, _⟩ := I.list h
      simp only [eqT]
      cases x with
      | non => cases rx; exact SeqAt.EqAt.none_list p.isList (by walk_at "om")
      | bl b => cases rx; exact SeqAt.EqAt.bool_list b p.isList (by walk_at "om")
      | int i => obtain ⟨t, rfl⟩ := rx; exact SeqAt.EqAt.int_list i t p.isList (by walk_at "om")
      | str x => obtain ⟨t, rfl⟩ := rx; exact SeqAt.EqAt.str_list x t p.isList (by walk_at "om")
      | _ => simp [flatV] at hv
    | @tup _ a xs ts h =>
      cases ry
      obtain ⟨its, _, p, _⟩ := I.tuple h
      simp only [eqT]
      cases x with
      | non => cases rx; exact SeqAt.EqAt.none_tuple p (by walk_at "om")
      | bl b => cases rx; exact SeqAt.EqAt.bool_tuple b p (by walk_at "om")
      | int i => obtain ⟨t, rfl⟩ := rx; exact SeqAt.EqAt.int_tuple i t p (by walk_at "om")
      | str x => obtain ⟨t, rfl⟩ := rx; exact SeqAt.EqAt.str_tuple x t p (by walk_at "om")
      | _ => simp [flatV] at hv
  | @lst n a xs ts h hl he ih =>
    intro m y u v w' A h' rx ry hu
    cases rx
    obtain ⟨its, rv, p, _⟩ := I.list h
    cases h' with
    | @flat _ y hv =>
      simp only [eqT]
      cases y with
      | non => cases ry; exact SeqAt.EqAt.list_none p.isList (by walk_at "om")
      | bl b => cases ry; exact SeqAt.EqAt.list_bool b p.isList (by walk_at "om")
      | int i => obtain ⟨t, rfl⟩ := ry; exact SeqAt.EqAt.list_int i t p.isList (by walk_at "om")
      | str x => obtain ⟨t, rfl⟩ := ry; exact SeqAt.EqAt.list_str x t p.isList (by walk_at "om")
      | _ => simp [flatV] at hv
    | @lst m b ys us h2 hl2 he2 =>
      cases ry
      by_cases hab : a = b
      · subst hab
        rw [Holds.same I (.lst h hl he) (Holds.lst h2 hl2 he2)]
        exact SeqAt.EqAt.same _
      · obtain ⟨its2, rv2, p2, _⟩ := I.list h2
        have a1 := rv.length
        have a2 := rv2.length
        simp only [eqT]
        by_cases hlen : ts.length = us.length
        · rw [eqTs_all hlen]
          have q := SeqAt.RcAt.lists (A := A) p.isList p2.isList (by simp; walk_at "om") (by walk_at "om") (items_eq (A := A.in1) (n := n) (m := m) rv rv2 hl hl2 fun i x t y u v w' h1 h2 h3 h4 r1 r2 => ih i x t h1 h2 (he2 i y u h3 h4) r1 r2 (by show A.units + 1 + n + 1 < cLine; walk_at "om"))
          have e : its.toArray.size = ts.length := by simp; walk_at "om"
          rw [e] at q
          exact .of_refs hab q
        · rw [eqTs_len hlen]
          exact .of_refs hab (SeqAt.RcAt.lists_lengths p.isList p2.isList (by simp; walk_at "om") (by walk_at "om"))
    | @tup m b ys us h2 hl2 he2 =>
      cases ry
      obtain ⟨its2, rv2, p2, _⟩ := I.tuple h2
      simp only [eqT]
      exact SeqAt.EqAt.list_tuple p.isList p2 (by walk_at "om")
  | @tup n a xs ts h hl he ih =>
    intro m y u v w' A h' rx ry hu
    cases rx
    obtain ⟨its, rv, p, _⟩ := I.tuple h
    cases h' with
    | @flat _ y hv =>
      simp only [eqT]
      cases y with
      | non => cases ry; exact SeqAt.EqAt.tuple_none p (by walk_at "om")
      | bl b => cases ry; exact SeqAt.EqAt.tuple_bool b p (by walk_at "om")
      | int i => obtain ⟨t, rfl⟩ := ry; exact SeqAt.EqAt.tuple_int i t p (by walk_at "om")
      | str x => obtain ⟨t, rfl⟩ := ry; exact SeqAt.EqAt.tuple_str x t p (by walk_at "om")
      | _ => simp [flatV] at hv
    | @lst m b ys us h2 hl2 he2 =>
      cases ry
      obtain ⟨its2, rv2, p2, _⟩ := I.list h2
      simp only [eqT]
      exact SeqAt.EqAt.tuple_list p p2.isList (by walk_at "om")
    | @tup m b ys us h2 hl2 he2 =>
      cases ry
      by_cases hab : a = b
      · subst hab
        rw [Holds.same I (.tup h hl he) (Holds.tup h2 hl2 he2)]
        exact SeqAt.EqAt.same _
      · obtain ⟨its2, rv2, p2, _⟩ := I.tuple h2
        have a1 := rv.length
        have a2 := rv2.length
        simp only [eqT]
        have q := SeqAt.RcAt.tuples (A := A) p p2 (by walk_at "om") (items_eq (A := A.in1) (n := n) (m := m) rv rv2 hl hl2 fun i x t y u v w' h1 h2 h3 h4 r1 r2 => ih i x t h1 h2 (he2 i y u h3 h4) r1 r2 (by show A.units + 1 + n + 1 < cLine; walk_at "om"))
        have e : ((List.range (min its.toArray.size its2.toArray.size)).all (fun j => match ts[j]?, us[j]? with | some x, some y => eqT x y | _, _ => true) && its.toArray.size == its2.toArray.size) = eqTs ts us := by
          have s1 : its.toArray.size = ts.length := by simp; walk_at "om"
          have s2 : its2.toArray.size = us.length := by simp; walk_at "om"
          rw [s1, s2]
          by_cases hlen : ts.length = us.length
          · rw [eqTs_all hlen, ← hlen, Nat.min_self]
            simp
          · rw [eqTs_len hlen]
            simp [hlen]
        rw [e] at q
        exact .of_refs hab q
end
section
variable {X : Cx}
/-- a == b of data, a a list or a tuple -/
def rEqT (K : PySem.W.Frag) (neg : Bool) : R2 := fun x y H Q => ∃ a b n m t u, x = .ref a ∧ y = .ref b ∧ n ≤ 50 ∧ m ≤ 50 ∧ Holds K H n x t ∧ Holds K H m y u ∧ (∀ z, u ≠ .tup z) ∧ (∀ z, t ≠ .tup z) ∧ Q (.bl (if neg then !(eqT t u) else eqT t u)) H
theorem op_eqT (hu : X.A.units + 60 < cLine) : OpR X (compareOp .Eq) (rEqT X.K false) := by
  intro pins s σ H x y v u Q I rx ry h
  obtain ⟨a, b, n, m, t, u', rfl, rfl, hn, hm, ht, hu', nt, nt', q⟩ := h
  simp only [Bool.false_eq_true, if_false] at q
  cases rx; cases ry
  cases ht with
  | flat hv => simp [flatV] at hv
  | tup => exact absurd rfl (nt' _)
  | @lst n _ xs ts h1 hl he =>
    cases hu' with
    | flat hv => simp [flatV] at hv
    | tup => exact absurd rfl (nt _)
    | @lst m _ ys us h2 hl2 he2 =>
      obtain ⟨its, rv, p, _⟩ := I.list h1
      obtain ⟨its2, rv2, p2, _⟩ := I.list h2
      have a1 := rv.length
      have a2 := rv2.length
      simp only [eqT] at q
      by_cases hlen : ts.length = us.length
      · rw [eqTs_all hlen] at q
        have e : its.toArray.size = ts.length := by simp; walk_at "om"
        rw [← e] at q
        exact SeqAt.eq_listAt p.isList p2.isList (by simp; walk_at "om") (by walk_at "om") (items_eq (A := X.A.in1) (n := n) (m := m) rv rv2 hl hl2 fun i x t y u v w' h1 h2 h3 h4 r1 r2 => eqAt_T I (he i x t h1 h2) (he2 i y u h3 h4) r1 r2 (by show X.A.units + 1 + n + 1 < cLine; walk_at "om")) ⟨.bl _, H, I, rfl, q⟩
      · rw [eqTs_len hlen] at q
        exact SeqAt.eq_list_lengthsAt p.isList p2.isList (by simp; walk_at "om") (by walk_at "om") ⟨.bl _, H, I, rfl, q⟩
theorem op_neT (hu : X.A.units + 60 < cLine) : OpR X (compareOp .NotEq) (rEqT X.K true) := by
  intro pins s σ H x y v u Q I rx ry h
  obtain ⟨a, b, n, m, t, u', rfl, rfl, hn, hm, ht, hu', nt, nt', q⟩ := h
  simp only [if_true] at q
  cases rx; cases ry
  cases ht with
  | flat hv => simp [flatV] at hv
  | tup => exact absurd rfl (nt' _)
  | @lst n _ xs ts h1 hl he =>
    cases hu' with
    | flat hv => simp [flatV] at hv
    | tup => exact absurd rfl (nt _)
    | @lst m _ ys us h2 hl2 he2 =>
      obtain ⟨its, rv, p, _⟩ := I.list h1
      obtain ⟨its2, rv2, p2, _⟩ := I.list h2
      have a1 := rv.length
      have a2 := rv2.length
      simp only [eqT] at q
      by_cases hlen : ts.length = us.length
      · rw [eqTs_all hlen] at q
        have e : its.toArray.size = ts.length := by simp; walk_at "om"
        rw [← e] at q
        exact SeqAt.RcNeAt.lists p.isList p2.isList (by simp; walk_at "om") (by walk_at "om") (items_eq (A := X.A.in1) (n := n) (m := m) rv rv2 hl hl2 fun i x t y u v w' h1 h2 h3 h4 r1 r2 => eqAt_T I (he i x t h1 h2) (he2 i y u h3 h4) r1 r2 (by show X.A.units + 1 + n + 1 < cLine; walk_at "om")) X.prog X.w X.xe _ ⟨.bl _, H, I, rfl, q⟩
      · rw [eqTs_len hlen] at q
        exact SeqAt.RcNeAt.lists_lengths p.isList p2.isList (by simp; walk_at "om") (by walk_at "om") X.prog X.w X.xe _ ⟨.bl _, H, I, rfl, q⟩
end

/-! ### enumerate(list), enumerate(list, start=1) -/
section
variable {X : Cx} {elts : List Expr} {k0} {tp : Pos}
end
end L2
set_option Elab.async false
set_option linter.all false
set_option maxRecDepth 100000
set_option maxHeartbeats 1000000
namespace L2
open PySem PySem.Spec PyProof.Rows
/-! ### a def with defaults -/
structure FunD (K : PySem.W.Frag) (x qual : Str) (st : Stmt) (f : Addr) (fd : FuncData) (dV : Value) : Prop where
  ex : ∃ (oc : Value) (od : Option Addr) (kV doc pm : Value) (an : Option Addr) (cdv ct : Value) (osl : Array (Option Value)),
    fd = PySem.W.fnOf x qual (defArgs st) (defBody st) (defScope st) dV kV doc pm an cdv ct ∧ K.lookup f = some ⟨oc, od, .func fd, osl⟩ ∧ PySem.W.codeIn K cdv qual = true
  kp : PySem.W.keepIn K (.ref f) = true
section
variable {P : Program} {w : World} {K : PySem.W.Frag} {mg : Str → Option Value} {base : Heap}
theorem FunD.ok {x qual : Str} {st : Stmt} {f : Addr} {fd : FuncData} {dV : Value} {N ps : List Str} {k : Nat} {sp : Sp} (F : FunD K x qual st f fd dV) (S : FnScope N ps (defScope st)) (len : ∀ vs H Q E, sp vs H Q E → vs.length = ps.length)
    (hbody : ∀ (cdv : Value) (A : Around) (outer : List Env) (s : Shared) (H : Hp) (vs : List V) (Q : VK) (E : XK), Room k (A.deeper (envOfC qual (defScope st) s.heap.objs.size f cdv)) → sp vs H Q E →
      ∃ t, PSs (cxOf CX0 P w K mg base N qual (defScope st) f cdv A outer s H E).nox (defBody st) t ∧ t { nx := fun _ H' => Q .non H', rt := Q } (start N vs) H) : FnOk P w K mg base CX0 (k + 1) f fd ps sp := by
  obtain ⟨oc, od, kV, doc, pm, an, cdv, ct, osl, rfl, lk, hcd⟩ := F.ex
  refine fn_of lk hcd S len fun A outer s H vs Q E hr hsp => ?_
  obtain ⟨t, h, q⟩ := hbody cdv A outer s H vs Q E hr hsp
  exact ⟨t, h.nox, q⟩
end
theorem Same.upd {H H' : Hp} (s : Same H H') {p : Addr} {o : HO} (h : H' p = Option.none) : Same H (upd H' p o) := fun b u e => by
  rw [upd_ne (ne_of_none (s b u e) h)]
  exact s b u e
theorem Same.upd0 {H : Hp} {p : Addr} {o : HO} (h : H p = Option.none) : Same H (L2.upd H p o) := (Same.refl H).upd h
theorem Same.updF {H H' : Hp} (s : Same H H') {p : Addr} {o : HO} (h : H p = Option.none) : Same H (L2.upd H' p o) := fun b u e => by
  rw [upd_ne (ne_of_none e h)]
  exact s b u e
/-- a def's promise, the same for more -/
theorem small_len {n : Nat} (h : n ≤ 1000) : n ≤ sizeLine := Nat.le_of_lt (small1000 h)
/-- the rows of a list of rows of ints -/
structure Vol (H : Hp) (v : Addr) (as : List Addr) (rows : List (List Int)) : Prop where
  top : H v = some (.lst (as.map V.ref))
  len : as.length = rows.length
  nd : as.Nodup
  row : ∀ (i : Nat) a r, as[i]? = some a → rows[i]? = some r → H a = some (.lst (r.map V.int))
theorem nodup_set {α : Type} [DecidableEq α] : ∀ {l : List α} {i : Nat} {q : α}, l.Nodup → q ∉ l → (l.set i q).Nodup
  | [], _, _, h, _ => h
  | x :: r, 0, q, h, hq => by
    rw [List.set_cons_zero]
    exact List.nodup_cons.mpr ⟨fun z => hq (List.mem_cons_of_mem _ z), (List.nodup_cons.mp h).2⟩
  | x :: r, i + 1, q, h, hq => by
    rw [List.set_cons_succ]
    refine List.nodup_cons.mpr ⟨fun z => ?_, nodup_set (List.nodup_cons.mp h).2 fun z => hq (List.mem_cons_of_mem _ z)⟩
    rcases List.mem_or_eq_of_mem_set z with z | z
    · exact (List.nodup_cons.mp h).1 z
    · exact hq (by rw [← z]; exact List.mem_cons_self)
theorem Vol.same {H H' : Hp} {v : Addr} {as : List Addr} {rows : List (List Int)} (x : Vol H v as rows) (s : Same H H') : Vol H' v as rows :=
  ⟨s _ _ x.top, x.len, x.nd, fun i a r h1 h2 => s _ _ (x.row i a r h1 h2)⟩
/-- ints as a tree -/
def trI (ns : List Int) : Tr := .lst (ns.map fun i => .flat (.int i))
def trV (rows : List (List Int)) : Tr := .lst (rows.map trI)
theorem holds_ints {K : PySem.W.Frag} {H : Hp} {n : Nat} {a : Addr} {ns : List Int} (h : SqL K H a (ns.map V.int)) : Holds K H (n + 1) (.ref a) (trI ns) := by
  refine .lst h (by simp) fun i x t hx ht => ?_
  rw [List.getElem?_map] at hx ht
  cases e : ns[i]? with
  | none => rw [e] at hx; cases hx
  | some z => rw [e] at hx ht; cases hx; cases ht; exact .flat rfl
theorem holds_vol {K : PySem.W.Frag} {H : Hp} {n : Nat} {v : Addr} {as : List Addr} {rows : List (List Int)} (h : Vol H v as rows) : Holds K H (n + 2) (.ref v) (trV rows) := by
  refine .lst (SqL.of h.top) (by simp [h.len]) fun i x t hx ht => ?_
  rw [List.getElem?_map] at hx ht
  cases e : as[i]? with
  | none => rw [e] at hx; cases hx
  | some a =>
    cases e2 : rows[i]? with
    | none => rw [e2] at ht; cases ht
    | some r => rw [e] at hx; rw [e2] at ht; cases hx; cases ht; exact holds_ints (SqL.of (h.row i a r e e2))
theorem eqT_ints : ∀ {ns ms : List Int}, eqTs (ns.map fun i => .flat (.int i)) (ms.map fun i => .flat (.int i)) = decide (ns = ms)
  | [], [] => by simp [eqTs]
  | [], _ :: _ => by simp [eqTs]
  | _ :: _, [] => by simp [eqTs]
  | n :: ns, m :: ms => by
    rw [List.map_cons, List.map_cons]
    simp only [eqTs, eqT, eqV]
    rw [eqT_ints]
    by_cases h : n = m <;> by_cases h2 : ns = ms <;> simp [h, h2]
theorem eqT_I (ns ms : List Int) : eqT (trI ns) (trI ms) = decide (ns = ms) := by
  unfold trI
  simp only [eqT]
  exact eqT_ints
theorem eqTs_V : ∀ {rs qs : List (List Int)}, eqTs (rs.map trI) (qs.map trI) = decide (rs = qs)
  | [], [] => by simp [eqTs]
  | [], _ :: _ => by simp [eqTs]
  | _ :: _, [] => by simp [eqTs]
  | r :: rs, q :: qs => by
    rw [List.map_cons, List.map_cons]
    simp only [eqTs]
    rw [eqTs_V, eqT_I]
    by_cases h : r = q <;> by_cases h2 : rs = qs <;> simp [h, h2]
theorem eqT_V (rs qs : List (List Int)) : eqT (trV rs) (trV qs) = decide (rs = qs) := by
  unfold trV
  simp only [eqT]
  exact eqTs_V

/-! ### tests that are known -/
theorem iteD {c A B : Prop} [Decidable c] (hc : c) (h : A) : if decide c = true then A else B := by rw [if_pos (decide_eq_true hc)]; exact h
theorem iteDF {c A B : Prop} [Decidable c] (hc : ¬ c) (h : B) : if decide c = true then A else B := by rw [if_neg (by simp [hc])]; exact h
theorem iteB {b : Bool} {A B : Prop} (hb : b = true) (h : A) : if b = true then A else B := by rw [if_pos hb]; exact h
theorem iteBF {b : Bool} {A B : Prop} (hb : b = false) (h : B) : if b = true then A else B := by rw [if_neg (by simp [hb])]; exact h
/-! ### a comprehension's names, by a look -/
def compB (N : List Str) (outer : List (Str × NameKind)) (sc : Scope) (N' : List Str) (cap : List (Option Nat)) : Bool :=
  (sc.kind == .function) && sc.names.all (fun y => sc.names.lookup y.1 == some y.2) && sc.names.all (fun y => y.2 != .free || (outer.lookup y.1 == some .cell || outer.lookup y.1 == some .free)) && cap.length == N'.length &&
    (List.range cap.length).all fun j => match cap[j]? with
      | some (some i) => (match N'[j]?, N[i]? with | some x, some y => x == y && sc.names.lookup x == some .free | _, _ => false)
      | _ => true
theorem compOk_of {X : Cx} {scope : Scope} {N' : List Str} {cap : List (Option Nat)} (h : compB X.N X.env.scope.names scope N' cap = true) : CompOk X scope N' cap := by
  unfold compB at h
  simp only [Bool.and_eq_true] at h
  obtain ⟨⟨⟨⟨h1, h2⟩, h3⟩, h4⟩, h5⟩ := h
  refine ⟨by simpa using h1, fun y hy => ?_, fun y hy e => ?_, by simpa using h4, fun j i e => ?_⟩
  · have := List.all_eq_true.mp h2 y hy
    simpa using this
  · have := List.all_eq_true.mp h3 y hy
    rw [e] at this
    simpa using this
  · have hj : j < cap.length := (List.getElem?_eq_some_iff.mp e).1
    have := List.all_eq_true.mp h5 j (by simpa using hj)
    rw [e] at this
    simp only at this
    split at this
    · rename_i x y ex ey
      simp only [Bool.and_eq_true, beq_iff_eq] at this
      obtain ⟨q1, q2⟩ := this
      subst q1
      exact ⟨x, ex, ey, q2⟩
    · cases this
/-! ### enumerate's forms -/
/-! ### rows of rows -/
theorem Vol.ne {H : Hp} {v : Addr} {as : List Addr} {rows : List (List Int)} (x : Vol H v as rows) {a : Addr} (h : a ∈ as) : a ≠ v := by
  obtain ⟨i, hi, e⟩ := List.getElem_of_mem h
  have h1 : as[i]? = some a := by rw [List.getElem?_eq_getElem hi, e]
  have hr : i < rows.length := by rw [← x.len]; exact hi
  have q := x.row i a rows[i] h1 (List.getElem?_eq_getElem hr)
  intro z
  rw [z, x.top] at q
  have q' : as.map V.ref = rows[i].map V.int := by injection (Option.some.inj q)
  cases as with
  | nil => cases h
  | cons b r =>
    cases e2 : rows[i] with
    | nil => rw [e2] at q'; cases q'
    | cons n m => rw [e2] at q'; simp at q'
/-- the row at i becomes the list at q -/
theorem Vol.set {H : Hp} {v q : Addr} {as : List Addr} {rows : List (List Int)} {i : Nat} {r : List Int} (x : Vol H v as rows) (hq : H q = some (.lst (r.map V.int))) (nq : q ∉ as) (nv : q ≠ v) :
    Vol (upd H v (.lst ((as.map V.ref).set i (.ref q)))) v (as.set i q) (rows.set i r) := by
  refine ⟨by rw [upd_same, List.map_set], by simp [x.len], ?_, fun j a r' h1 h2 => ?_⟩
  · exact nodup_set x.nd nq
  · by_cases hj : j = i
    · subst hj
      have hl : j < as.length := by have := (List.getElem?_eq_some_iff.mp h1).1; simpa using this
      rw [List.getElem?_set_self hl] at h1
      rw [List.getElem?_set_self (by rw [← x.len]; exact hl)] at h2
      cases h1; cases h2
      rw [upd_ne nv]; exact hq
    · rw [List.getElem?_set_ne (Ne.symm hj)] at h1 h2
      rw [upd_ne (x.ne (List.mem_of_getElem? h1))]
      exact x.row j a r' h1 h2
theorem Vol.fresh {H : Hp} {v q : Addr} {as : List Addr} {rows : List (List Int)} (x : Vol H v as rows) (h : H q = none) : q ∉ as ∧ q ≠ v := by
  refine ⟨fun z => ?_, fun z => by rw [z, x.top] at h; cases h⟩
  obtain ⟨i, hi, e⟩ := List.getElem_of_mem z
  have h1 : as[i]? = some q := by rw [List.getElem?_eq_getElem hi, e]
  have hr : i < rows.length := by rw [← x.len]; exact hi
  have q' := x.row i q rows[i] h1 (List.getElem?_eq_getElem hr)
  rw [h] at q'; cases q'
theorem ixN_nat {n i : Nat} (h : i < n) : ixN n (i : Int) = some i := by
  unfold ixN
  rw [if_pos (by omega), if_pos (by omega)]
  simp
end L2
set_option Elab.async false
set_option linter.all false
set_option maxRecDepth 100000
set_option maxHeartbeats 1000000
/-! the same rules with the written part K named: inside a comprehension's block a reading must not speak of the block's own context -/
namespace L2
open PySem PySem.Spec PyProof.Rows
section
variable {X : Cx} {K : PySem.W.Frag}
theorem ix_listK (h : X.K = K) : IxR X (rIxL K) := h ▸ ix_list
theorem ix_tupK (h : X.K = K) : IxR X (rIxT K) := h ▸ ix_tup
theorem call_list_ofK (h : X.K = K) : CallR X (.type "list") (fun xs H Q => ∃ p ys, xs = [.ref p] ∧ (SqL K H p ys ∨ SqT K H p ys) ∧ ∀ l, H l = none → Q (.ref l) (upd H l (.lst ys))) := by subst h; exact call_list_of
/-- (x, y) = a pair, in the slots i and j -/
theorem pg_pair {i j : Nat} {x y : Str} {px py tp : Pos} {k0} (h : X.K = K) (hc : X.calm = true) (hN : X.N.Nodup) (hi : X.N[i]? = some x) (hj : X.N[j]? = some y) (lx : X.env.scope.names.lookup x = some .local) (ly : X.env.scope.names.lookup y = some .local) :
    PG X (.Tuple [.Name x px, .Name y py] k0 tp) (gTup K 2 (gCons (gName i) (gCons (gName j) gNil))) := by
  subst h
  exact pg_tup hc (pgs_cons (pg_name hN hi (Or.inl lx) (.inr lx)) (pgs_cons (pg_name hN hj (Or.inl ly) (.inr ly)) pgs_nil))
end
end L2
set_option Elab.async false
set_option linter.all false
set_option maxRecDepth 100000
set_option maxHeartbeats 1000000
/-! the stations of an exception on its way, with its own dict told -/
namespace L2
open PySem
theorem dict_mapF (o : Obj) (f : Array Value → Array Value) : (Obj.mapFields f o).dict = o.dict := by
  obtain ⟨c, d, dt, sl⟩ := o
  cases dt <;> rfl
/-- the exception at e, of the class cls, its dict d, flies through the frames l; fl: the frame that holds it; base stays whatever comes -/
structure Fly (base : Heap) (l : List Env) (e : Addr) (cls : Value) (d : Option Addr) (fl : Value) (h : Heap) : Prop where
  st : base.StaysIn h
  en : base.get? e = none
  fr : h.FunFrames base l
  tr : ∃ oe vs T oT ts, h.get? e = some oe ∧ oe.cls = cls ∧ oe.dict = d ∧ oe.data = .fields vs ∧ vs[1]? = some (.ref T) ∧ base.get? T = none ∧ T ≠ e ∧ h.get? T = some oT ∧ oT.data = .fields ts ∧ ts[3]? = some fl
section
variable {M : Model} {A : Around} {E : Value → Shared → Prop} {s : Shared} {base : Heap} {env : Env} {outer l : List Env} {L e : Addr} {cls fl : Value} {d : Option Addr} {Q : Unit → Shared → Prop}
theorem Fly.there {h : Heap} (x : Fly base l e cls d fl h) : ∃ ob vs, h.get? e = some ob ∧ ob.cls = cls ∧ ob.dict = d ∧ ob.data = .fields vs := by
  obtain ⟨oe, vs, _, _, _, a, b, c, z, _⟩ := x.tr
  exact ⟨oe, vs, a, b, c, z⟩
/-- a new entry of the traceback -/
theorem entry_ok {oe : Obj} {vs : Array Value} {head : Value} {hn : Bool} (hfr : A.frames = some (env :: outer)) (hl : s.heap.FunFrames base (env :: outer)) (hf : env.frame = some L) (he : s.heap.get? e = some oe) (hb : base.StaysIn s.heap)
    (ne : base.get? e = none) (hd : oe.data = .fields vs) (hz : 1 < vs.size) (h : ∀ h', Fly base (env :: outer) e oe.cls oe.dict (rawInt L) h' → s.heap.UpToSlots h' → Q () { s with heap := h' }) :
    wpAny M A (do let a ← frameOf env; let pl ← entryPlaceOf L hn; let b ← EntryCells.newEntry head a .none (rawInt L) .none pl; setField (.ref e) 1 b) Q E s := by
  have nF : e ∉ (env :: outer).filterMap (·.frame) := by
    intro z; obtain ⟨_, o, ho, nf⟩ := hl.mem z
    rw [he] at ho; cases ho; exact nf vs hd
  refine wpAny_bind (wpAny_frameOf_fun hfr hl hf fun h1 q1 => wpAny_bind (wpAny_entryPlaceOf fun pl hpl => ?_))
  unfold EntryCells.newEntry newFields
  refine wpAny_bind (wpAny_newObj_type ?_ (hpl.sizeOk5 _ _ _ _ _))
  generalize eo : ({ cls := .type "traceback", dict := none, data := .fields ([head, .ref L, .none, rawInt L, .none] ++ (if pl.isEmpty then List.replicate 6 Value.none else pl)).toArray } : Obj) = ob
  have e1 : h1.get? e = some oe := (q1.2.1 e nF).trans he
  have b1 : base.StaysIn h1 := fun b o z => (q1.2.1 b fun y => by rw [(hl.mem y).1] at z; cases z).trans (hb b o z)
  have e2 : (h1.push ob).get? e = some oe := Heap.get?_push_of_some ob e1
  have nT : h1.objs.size ≠ e := Nat.ne_of_gt (Heap.lt_size e1)
  have d3 := Obj.data_mapFields hd (·.setIfInBounds 1 (Value.ref h1.objs.size))
  have e3 := Heap.get?_update_self (Obj.mapFields (·.setIfInBounds 1 (Value.ref h1.objs.size))) e2 (Obj.isFreed_of_fields d3)
  have kp : ∀ b o, b ≠ e → h1.get? b = some o → ((h1.push ob).update e (Obj.mapFields (·.setIfInBounds 1 (Value.ref h1.objs.size)))).get? b = some o := by
    intro b o n z
    rw [Heap.get?_update_other _ _ (Ne.symm n)]; exact Heap.get?_push_of_some _ z
  have nR : ∀ b o, s.heap.get? b = some o → (∀ ws, o.data ≠ .fields ws) → b ≠ e := by
    intro b o z nf y
    rw [y, he] at z; cases z; exact nf vs hd
  refine wpAny_setField e2 hd hz (h _ ?_ ?_)
  · have t3 : ((h1.push ob).update e (Obj.mapFields (·.setIfInBounds 1 (Value.ref h1.objs.size)))).get? h1.objs.size = some ob := by
      rw [Heap.get?_update_other _ _ (Ne.symm nT)]; refine Heap.get?_push_size h1 ?_; rw [← eo]; rfl
    refine ⟨fun b o z => kp b o (fun y => by rw [y, ne] at z; cases z) (b1 b o z), ne, hl.of_keeps fun b o z nf => ?_, ?_⟩
    · obtain ⟨sl, y⟩ := q1.2.2 b o z; exact ⟨_, kp b _ (nR b o z nf) y, rfl⟩
    · refine ⟨_, _, h1.objs.size, ob, _, e3, Obj.cls_mapFields _ _, dict_mapF _ _, d3, by simp [hz], b1.fresh, nT, t3, by rw [← eo], ?_⟩
      first | (simp; done) | (rcases hpl with rfl | ⟨_, _, _, _, _, _, _, rfl⟩ <;> simp)
  · intro b o z nf
    obtain ⟨sl, y⟩ := q1.2.2 b o z; exact ⟨sl, kp b _ (nR b o z nf) y⟩
/-- it lands: no frame holds it -/
theorem land (x : Fly base l e cls d fl s.heap) (h : ∀ h', Fly base l e cls d .none h' → s.heap.UpToSlots h' → Q () { s with heap := h' }) : wpAny M A (setFlight (.ref e) none) Q E s := by
  obtain ⟨hb, ne, hl, oe, vs, T, oT, ts, he, rfl, rfl, hd, h1, nT, Te, hT, dT, h3⟩ := x
  have z3 : 3 < ts.size := (Array.getElem?_eq_some_iff.mp h3).1
  have ot : ∀ b, b ≠ T → (s.heap.update T (Obj.mapFields (·.setIfInBounds 3 ((none : Option Addr).elim Value.none fun f => rawInt f)))).get? b = s.heap.get? b := fun b n => Heap.get?_update_other _ _ (Ne.symm n)
  have nR : ∀ b o, s.heap.get? b = some o → (∀ ws, o.data ≠ .fields ws) → b ≠ T := fun b o z nf y => by rw [y, hT] at z; cases z; exact nf ts dT
  unfold setFlight
  refine wpAny_bind (wpAny_field he hd h1 ?_)
  rw [if_pos (by simp : (Value.ref T != Value.none) = true)]
  refine wpAny_setField hT dT z3 (h _ ⟨fun b o z => (ot b fun y => by rw [y, nT] at z; cases z).trans (hb b o z), ne, hl.of_keeps fun b o z nf => ⟨o, (ot b (nR b o z nf)).trans z, rfl⟩, ?_⟩ fun b o z nf => ⟨o.slots, (ot b (nR b o z nf)).trans z⟩)
  exact ⟨oe, vs, T, _, _, (ot e (Ne.symm Te)).trans he, rfl, rfl, hd, h1, nT, Te, Heap.get?_update_self _ hT (Obj.isFreed_of_fields (Obj.data_mapFields dT _)), Obj.data_mapFields dT _, by simp [z3]⟩
/-- a new exception leaves the frame where it was raised -/
theorem leave_new {oe : Obj} {vs : Array Value} (hfr : A.frames = some (env :: outer)) (hf : env.frame = some L) (hl : s.heap.FunFrames base (env :: outer)) (he : s.heap.get? e = some oe) (hb : base.StaysIn s.heap) (ne : base.get? e = none)
    (hd : oe.data = .fields vs) (h1 : vs[1]? = some .none) (h : ∀ h', Fly base outer e oe.cls oe.dict .none h' → s.heap.UpToSlots h' → Q () { s with heap := h' }) : wpAny M A (leaving env (.ref e)) Q E s := by
  unfold leaving noteFrame
  simp only [hf]
  refine wpAny_bind (wpAny_bind (wpAny_field he hd h1 ?_))
  rw [if_neg (by decide)]
  exact entry_ok hfr hl hf he hb ne hd (Array.getElem?_eq_some_iff.mp h1).1 fun h1 f1 u1 => land (s := { s with heap := h1 }) f1 fun h2 f2 u2 => h h2 ⟨f2.st, f2.en, f2.fr.2.2, f2.tr⟩ (u1.trans u2)
end
end L2
set_option Elab.async false
set_option linter.all false
set_option maxRecDepth 100000
set_option maxHeartbeats 1000000
namespace L2
open PySem PySem.Spec PyProof.Rows
local macro_rules | `(tactic| walk_at "om") => `(tactic| first | omega | (unfold Addr at *; omega))
/-! ### exceptions over the layer: the heap at the raise, without the frames, lies in B -/
structure Fl (X : Cx) (pins : List (Addr × Obj)) (B : Heap) : Prop where
  k0 : ∀ b o, X.s₀.heap.get? b = some o → X.H₀ b = none → b ∉ X.fs → b ∉ X.ex → B.get? b = some o
  kt : ∀ b o, X.s₀.heap.get? b = some o → b ∉ X.fs → b ∉ X.ex → ∃ o', B.get? b = some o'
  kp : ∀ p ∈ X.pn ++ pins, B.get? p.1 = some p.2
theorem up_cell {h h' : Heap} {c : Addr} {v : Option Value} (up : h.UpToSlots h') (z : h.IsCell c v) : h'.IsCell c v := by
  obtain ⟨o, ho, hd⟩ := z
  obtain ⟨sl, q⟩ := up c o ho (fun vs e => by rw [hd] at e; cases e)
  exact ⟨_, q, hd⟩
theorem ObjOk.there {P : Program} {w : World} {H : Hp} {h : Heap} {a : Addr} {o : HO} (x : ObjOk P w H h a o) : ∃ ob, h.get? a = some ob := by
  cases o with
  | lst xs => obtain ⟨_, _, _, _, e⟩ := x; exact ⟨_, e⟩
  | tup xs => obtain ⟨_, _, _, ob, e, _⟩ := x; exact ⟨_, e⟩
  | dK kvs => obtain ⟨_, _, _, _, o, _, _, e, _⟩ := x; exact ⟨_, e⟩
  | dT kvs => obtain ⟨_, _, _, _, o, _, _, e, _⟩ := x; exact ⟨_, e⟩
  | set S n => obtain ⟨o, _, _, _, e, _⟩ := x; exact ⟨_, e⟩
  | ins C dx fs => obtain ⟨_, _, _, e, _⟩ := x; exact ⟨_, e⟩
  | own y => obtain ⟨_, e⟩ := x; exact ⟨_, e⟩
  | xd fs => obtain ⟨_, ⟨_, _, _, e, _⟩, _⟩ := x; exact ⟨_, e⟩
  | rng lo hi => obtain ⟨_, _, _, e⟩ := x; exact ⟨_, e⟩
  | frz ob u => obtain ⟨e, _⟩ := x; exact ⟨_, e⟩
  | tbl ps => exact ⟨_, (show h.get? a = some _ from x)⟩
  | met f y => exact ⟨_, (show h.get? a = some _ from x)⟩
  | ext φ => obtain ⟨_, ⟨_, e⟩, _⟩ := x; exact ⟨_, e⟩
section
variable {X : Cx} {pins : List (Addr × Obj)} {σ : St} {H : Hp} {s : Shared}
theorem Inv.flown {h' B : Heap} (I : Inv X pins σ H s) (hB : B.StaysIn h') (up : s.heap.UpToSlots h') (hok : HOk X.prog X.w H B) (F : Fl X pins B) : Inv X pins σ H { s with heap := h' } := by
  have sl : ∀ b o, X.s₀.heap.get? b = some o → X.H₀ b = none → b ∈ X.fs → b ∉ X.ex → ∃ sl, h'.get? b = some { o with slots := sl } := by
    intro b o e n hb hx
    obtain ⟨sl, e1⟩ := I.base.slot b o e n hb hx
    obtain ⟨_, o', ho', nf⟩ := I.ok.funs.mem hb
    rw [e] at ho'; cases ho'
    obtain ⟨sl', e2⟩ := up b _ e1 nf
    exact ⟨sl', e2⟩
  refine ⟨I.ok, I.os, I.bare, ⟨fun b o e n hb hx => hB b o (F.k0 b o e n hb hx), sl, I.base.free, fun b o e hx => ?_, I.base.tups, I.base.frzs, I.base.tbls⟩, ?_, fun x c e => ?_, I.free, I.freeC, fun p hp => ?_, hok.kept hB, I.len⟩
  · by_cases hb : b ∈ X.fs
    · obtain ⟨sl', q⟩ := sl b o e (I.ok.frf b hb) hb hx
      exact ⟨_, q⟩
    · obtain ⟨o', q⟩ := F.kt b o e hb hx
      exact ⟨o', hB b o' q⟩
  · obtain ⟨m, hn, hl⟩ := I.loc
    refine ⟨m, up.ns hn, fun i x v e1 e2 e3 => ?_⟩
    obtain ⟨u, r, l⟩ := hl i x v e1 e2 e3
    refine ⟨u, r, ?_⟩
    rcases l with l | ⟨k, c, e, z⟩
    · exact .inl l
    · exact .inr ⟨k, c, e, up_cell up z⟩
  · obtain ⟨v, z⟩ := I.cell x c e
    exact ⟨v, up_cell up z⟩
  · obtain ⟨_, n, ne, nf, d⟩ := I.pin p hp
    exact ⟨hB _ _ (F.kp p hp), n, ne, nf, d⟩
/-- an old object is no running frame of ours -/
theorem Inv.oldStk (I : Inv X pins σ H s) {b : Addr} {o : Obj} (e : X.s₀.heap.get? b = some o) (hb : b ∉ X.fs) : b ∉ frs X.stack := fun z => by
  rcases List.mem_cons.mp (I.stkSub b z) with q | q
  · have h1 := Heap.lt_size e
    have h2 := I.ok.above
    rw [q] at h1
    exact absurd (Nat.lt_of_lt_of_le h1 h2) (Nat.lt_irrefl _)
  · exact hb q
/-- the heap without the frames -/
def noFr (h : Heap) (l : List Env) : Heap := PySem.W.hideAll h (frs l)
theorem noFr_get {h : Heap} {l : List Env} {b : Addr} {o : Obj} (e : h.get? b = some o) (n : b ∉ frs l) : (noFr h l).get? b = some o := PySem.W.hideAll_get _ e n
theorem of_noFr {h : Heap} {l : List Env} : (noFr h l).StaysIn h := fun _ _ e => PySem.W.of_hideAll (frs l) e
theorem noFr_none {h : Heap} {l : List Env} : ∀ b ∈ frs l, (noFr h l).get? b = none := fun _ hb => PySem.W.hideAll_none (frs l) hb
theorem funs_base {h base B : Heap} : ∀ {l : List Env}, (∀ b ∈ frs l, B.get? b = none) → h.FunFrames base l → h.FunFrames B l
  | [], _, _ => trivial
  | env :: r, hB, ⟨hk, ⟨L, o, hf, _, ho, hd⟩, hr⟩ => by
    have e : frs (env :: r) = L :: frs r := by unfold frs; rw [List.filterMap_cons, hf]
    rw [e] at hB
    exact ⟨hk, ⟨L, o, hf, hB L List.mem_cons_self, ho, hd⟩, funs_base (fun b hb => hB b (List.mem_cons_of_mem _ hb)) hr⟩
theorem Inv.hokB (I : Inv X pins σ H s) : HOk X.prog X.w H (noFr s.heap X.stack) := fun a o e => by
  have nt : ∀ b u, H b = some u → b ∉ frs X.stack := fun b u q z => by rw [I.stkFree b z] at q; cases q
  refine (I.hok a o e).stay (fun b u hb q => noFr_get q ?_) (fun _ q => q) fun _ _ q => q
  rcases hb with rfl | hb
  · exact nt _ _ e
  · exact nt _ _ hb
theorem Inv.flB (I : Inv X pins σ H s) : Fl X pins (noFr s.heap X.stack) where
  k0 := fun b o e n hb hx => noFr_get (I.base.keep b o e n hb hx) (I.oldStk e hb)
  kt := fun b o e hb hx => let ⟨o', q⟩ := I.base.there b o e hx; ⟨o', noFr_get q (I.oldStk e hb)⟩
  kp := fun p hp => by
    obtain ⟨e, n, ne, nf, d⟩ := I.pin p hp
    refine noFr_get e fun z => ?_
    rcases List.mem_cons.mp (I.stkSub _ z) with q | q
    · exact ne q
    · exact nf q
/-- an exception of the class cls has come up from a callee -/
def XS (X : Cx) (pins : List (Addr × Obj)) (σ : St) (E : XK) (e : Value) (s' : Shared) : Prop :=
  ∃ (ea : Addr) (cls : Value) (d : Option Addr) (H' : Hp) (B : Heap), e = .ref ea ∧ Inv X pins σ H' s' ∧ Fly B X.stack ea cls d .none s'.heap ∧ HOk X.prog X.w H' B ∧ Fl X pins B ∧ E cls d H'
/-- how an exception lies behind a call -/
def CX1 (P : Program) (w : World) : CXT := fun outer H s E e s' =>
  ∃ (ea : Addr) (cls : Value) (d : Option Addr) (H' : Hp) (B : Heap), e = .ref ea ∧ s'.os = s.os ∧ AllBare s'.gens ∧ Fly B outer ea cls d .none s'.heap ∧ HOk P w H' B ∧ Un (frs outer) [] H H' s.heap s'.heap ∧
    (∀ b o, s.heap.get? b = some o → H b = none → b ∉ frs outer → B.get? b = some o) ∧ (∀ b o, s.heap.get? b = some o → b ∉ frs outer → ∃ o', B.get? b = some o') ∧ E cls d H'
theorem xs_of {E : XK} {e : Value} {s' : Shared} (I : Inv X pins σ H s) (h : CX1 X.prog X.w X.stack H s E e s') : XS X pins σ E e s' := by
  obtain ⟨ea, cls, d, H', B, rfl, os, bare, fl, hok, un, k0, kt, q⟩ := h
  refine ⟨ea, cls, d, H', B, rfl, I.call' (ch := []) os un (hok.kept fl.st) bare (fun b z => absurd z (by simp)), fl, hok, ⟨fun b o e n hb hx => ?_, fun b o e hb hx => ?_, fun p hp => ?_⟩, q⟩
  · exact k0 b o (I.base.keep b o e n hb hx) (I.base.free b o e n hx) (I.oldStk e hb)
  · obtain ⟨o', e'⟩ := I.base.there b o e hx
    exact kt b o' e' (I.oldStk e hb)
  · obtain ⟨e, n, ne, nf, _⟩ := I.pin p hp
    refine k0 _ _ e n fun z => ?_
    rcases List.mem_cons.mp (I.stkSub _ z) with q | q
    · exact ne q
    · exact nf q
/-- what this body wants of an exception that comes up; of one that is made here (its object as new, its dict d) -/
def Takes (X : Cx) (E : St → XK) : Prop := ∀ (pins : List (Addr × Obj)) (σ : St) (e : Value) (s' : Shared), XS X pins σ (E σ) e s' → X.xe e s'
def TakesN (X : Cx) (E : St → XK) : Prop := ∀ (pins : List (Addr × Obj)) (σ : St) (H : Hp) (s : Shared) (ea : Addr) (oe : Obj) (vs : Array Value), Inv X pins σ H s → H ea = none →
  (∀ b o, X.s₀.heap.get? b = some o → b ∉ X.ex → b ≠ ea) → (∀ p ∈ X.pn ++ pins, p.1 ≠ ea) → s.heap.get? ea = some oe → oe.data = .fields vs → vs[1]? = some .none → E σ oe.cls oe.dict H → X.xe (.ref ea) s
end
theorem takesN_cx {P : Program} {w : World} {K : PySem.W.Frag} {mg : Str → Option Value} {base : Heap} {N : List Str} {qual : Str} {scope : Scope} {f : Addr} {cd : Value} {A : Around} {outer : List Env} {s : Shared} {H : Hp} {E : XK} :
    TakesN (cxOf (CX1 P w) P w K mg base N qual scope f cd A outer s H E) (fun _ => E) := by
  intro pins σ H1 s1 ea oe vs I hn hold hpin he hd h1 q
  -- the exception itself must not lie in B
  let l := envOfC qual scope s.heap.objs.size f cd :: outer
  let B : Heap := PySem.W.hideAll (noFr s1.heap l) [ea]
  have bst : B.StaysIn s1.heap := fun b o e => of_noFr b o (PySem.W.of_hideAll [ea] e)
  have bget : ∀ b o, (noFr s1.heap l).get? b = some o → b ≠ ea → B.get? b = some o := fun b o e n => PySem.W.hideAll_get _ e (by simpa using n)
  have bne : B.get? ea = none := PySem.W.hideAll_none [ea] (by simp)
  have hokB : HOk P w H1 B := fun a o e => by
    have nt : ∀ b u, H1 b = some u → b ≠ ea := fun b u q z => by rw [z, hn] at q; cases q
    refine (I.hokB a o e).stay (fun b u hb q => bget b u q ?_) (fun _ q => q) fun _ _ q => q
    rcases hb with rfl | hb
    · exact nt _ _ e
    · exact nt _ _ hb
  have F : Fl (cxOf (CX1 P w) P w K mg base N qual scope f cd A outer s H E) pins B := by
    refine ⟨fun b o e n hb hx => bget b o (I.flB.k0 b o e n hb hx) (hold b o e hx), fun b o e hb hx => ?_, fun p hp => bget _ _ (I.flB.kp p hp) (hpin p hp)⟩
    obtain ⟨o', q'⟩ := I.flB.kt b o e hb hx
    exact ⟨o', bget b o' q' (hold b o e hx)⟩
  have hl : s1.heap.FunFrames B l := funs_base (fun b hb => by
    cases z : B.get? b with
    | none => rfl
    | some o =>
      have := noFr_none (h := s1.heap) b hb
      rw [PySem.W.of_hideAll [ea] z] at this
      cases this) I.stack
  refine leave_new (base := B) I.ok.frames rfl hl he bst bne hd h1 fun h' fl up => ?_
  have J := I.flown fl.st up hokB F
  exact ⟨ea, oe.cls, oe.dict, H1, B, rfl, I.os, I.bare, fl, hokB, J.base, fun b o e n hb => F.k0 b o e n hb (by intro z; cases z), fun b o e hb => F.kt b o e hb (by intro z; cases z), q⟩
/-! ### calls that may raise -/
def tMakeX (C : Addr) (sp : Sp) (dvs : List V) (E : St → XK) (t : TA) : TE := fun σ H Q => t σ H fun vs H1 => ∀ x dx, H1 x = none → H1 dx = none → dx ≠ x →
  sp (.ref x :: (vs ++ dvs)) (upd (upd H1 dx (.own x)) x (.ins C dx [])) (fun v H2 => v = .non ∧ Q (.ref x) H2) (E σ)
section
variable {X : Cx} {k : Nat} {f C : Addr} {fd : FuncData} {ps : List Str} {sp : Sp} {dvs : List V} {ds : List Value} {E : St → XK} {x m : Str} {p pos apos : Pos} {e o : Expr} {es : List Expr} {ta : TE} {t : TA}
theorem run_makeX {pins : List (Addr × Obj)} {σ : St} {H : Hp} {s : Shared} {Q : VK} {us : List Value} {vs : List V} (M : Mk X.K C f) (F : FnOk X.prog X.w X.K X.mg X.base (CX1 X.prog X.w) k f fd ps sp) (hr : Room (k + 1) X.A) (hb : Binds X.K fd ps ds) (hd : Vals dvs ds)
    (hx : Takes X E) (I : Inv X pins σ H s) (r : Vals vs us)
    (h : ∀ x dx, H x = none → H dx = none → dx ≠ x → sp (.ref x :: (vs ++ dvs)) (upd (upd H dx (.own x)) x (.ins C dx [])) (fun v H2 => v = .non ∧ Q (.ref x) H2) (E σ)) :
    wpAny (model X.prog X.w) X.A (call (.ref C) us) (EP X pins σ Q) X.xe s := by
  have hq := h (s.heap.objs.size + 1) s.heap.objs.size (I.hok.fresh (Nat.le_succ _)) (I.hok.fresh (Nat.le_refl _)) (Nat.ne_of_lt (Nat.lt_succ_self _))
  have I2 := Inv.made (C := C) I
  have r2 : Vals (V.ref (s.heap.objs.size + 1) :: (vs ++ dvs)) (Value.ref (s.heap.objs.size + 1) :: (us ++ ds)) := .cons rfl (r.append hd)
  have hl : (Value.ref (s.heap.objs.size + 1) :: us ++ ds).length = ps.length := by
    have e := r2.length
    rw [F.len _ _ _ _ hq] at e
    exact e.symm
  refine wpAny_call (make_map (f := f) I.kIn M.makes M.init (beq_iff_eq.mp M.fn) (codeAny_mono (F.run _ X.stack _ _ ⟨Value.ref (s.heap.objs.size + 1) :: us, []⟩ (Value.ref (s.heap.objs.size + 1) :: (us ++ ds)) _ _ (E σ) (hr.make C us [])
    (I2.env0.make C us []) (hb _ (Value.ref (s.heap.objs.size + 1) :: us) I2.kIn hl) r2 hq) fun r s' hq' => ?_))
  cases r with
  | error e => exact hx pins σ e s' (xs_of I2 hq')
  | ok fl =>
    cases fl with
    | ret u =>
      obtain ⟨v, H', I3, rv, ev, q3⟩ := I2.after hq'
      subst ev
      exact ⟨rv, ⟨V.ref (s.heap.objs.size + 1), H', I3, rfl, q3⟩⟩
    | next => exact False.elim hq'
    | brk => exact False.elim hq'
    | cont => exact False.elim hq'
theorem pe_makeX (M : Mk X.K C f) (F : FnOk X.prog X.w X.K X.mg X.base (CX1 X.prog X.w) k f fd ps sp) (hr : Room (k + 1) X.A) (hg : Gl X x) (hm : X.mg x = some (.ref C)) (hb : Binds X.K fd ps ds) (hd : Vals dvs ds) (hx : Takes X E)
    (ha : PA X (e :: es) t) (hdb : (x == ("__debug__" : Str)) = false := by decide) (he : starEach (e :: es) X.env = (false, eval e X.env) :: starEach es X.env := by rfl) (hpl : (backTo pos (starEach es X.env)).any (·.1) = false := by rfl) :
    PE X (.Call (.Name x p) (e :: es) [] pos) (tMakeX C sp dvs E t) := by
  intro pins s σ H Q I h
  refine wpAny_Call_Name_kw (ld_glob I hg hm ?_ hdb)
  refine PySem.W.callWith_K (h₀ := X.base) I.ok.mod.kin M.kp (thn (ha pos pins s σ H _ I h) fun us s1 ⟨vs, H1, I1, r, q⟩ => ⟨I1.kIn, ?_⟩) he hpl
  exact run_makeX M F hr hb hd hx I1 r q
end
/-- a def that lets none by is one that may let some by -/
theorem FnOk.any {P : Program} {w : World} {K : PySem.W.Frag} {mg : Str → Option Value} {base : Heap} {CX : CXT} {k : Nat} {f : Addr} {fd : FuncData} {ps : List Str} {sp : Sp} (F : FnOk P w K mg base CX0 k f fd ps sp) : FnOk P w K mg base CX k f fd ps sp :=
  ⟨F.len, fun A outer s H args us vs Q E hr e0 hb r h => codeAny_mono (F.run A outer s H args us vs Q E hr e0 hb r h) fun r s' q => by
    cases r with
    | error e => exact False.elim q
    | ok fl => cases fl <;> exact q⟩
/-- THE RULE for a def that may raise -/
theorem Fun.okX {P : Program} {w : World} {K : PySem.W.Frag} {mg : Str → Option Value} {base : Heap} {x qual : Str} {st : Stmt} {f : Addr} {fd : FuncData} {N ps : List Str} {k : Nat} {sp : Sp} (F : Fun K x qual st f fd) (S : FnScope N ps (defScope st)) (len : ∀ vs H Q E, sp vs H Q E → vs.length = ps.length)
    (hbody : ∀ (cdv : Value) (A : Around) (outer : List Env) (s : Shared) (H : Hp) (vs : List V) (Q : VK) (E : XK), Room k (A.deeper (envOfC qual (defScope st) s.heap.objs.size f cdv)) → sp vs H Q E →
      ∃ t, PSs (cxOf (CX1 P w) P w K mg base N qual (defScope st) f cdv A outer s H E) (defBody st) t ∧ t { nx := fun _ H' => Q .non H', rt := Q } (start N vs) H) : FnOk P w K mg base (CX1 P w) (k + 1) f fd ps sp := by
  obtain ⟨oc, od, kV, doc, pm, an, cdv, ct, osl, rfl, lk, hcd⟩ := F.ex
  exact fn_of lk hcd S len fun A outer s H vs Q E hr hsp => hbody cdv A outer s H vs Q E hr hsp
end L2
set_option Elab.async false
set_option linter.all false
set_option maxRecDepth 100000
set_option maxHeartbeats 1000000
namespace L2
open PySem PySem.Spec PyProof.Rows
/-! ### raise C(..), C an own class under ValueError without an __init__ -/
abbrev bmV : List Value := [.type "ValueError", .type "Exception", .type "BaseException", .type "object"]
/-- the class's object, out of the look -/
theorem exc_obj {K : PySem.W.Frag} {h : Heap} {C : Addr} {bmB : List Value} {newId : String} (X : K.In h) (q : PySem.W.excIn K C bmB newId = true) :
    ∃ bm N nm q bs hdct sn sub ab col dd k0 k1 k2 k3 k5 mN, h.get? C = some (excClassObj nm q C N bs bm hdct sn sub ab col dd k0 k1 k2 k3 k5 newId) ∧ h.Ns N mN ∧ mN "__init__" = none ∧ OwnTail h bmB bm := by
  unfold PySem.W.excIn at q; split at q
  · rename_i dd cd sl ho; split at q
    · rename_i C' bm k0 k1 k2 k3 n k5 hm hs
      simp only [Bool.and_eq_true, Bool.not_eq_true', beq_iff_eq] at q
      obtain ⟨⟨⟨⟨⟨e1, e2⟩, e3⟩, ht⟩, hk⟩, hi⟩ := q
      subst e1 e2
      obtain ⟨nm, bs, mro, ns, qn, hd, sn, sub, ab, col, del⟩ := cd
      dsimp only at hm e3 hk hi; subst hm e3
      have es : sl = #[k0, k1, k2, k3, some (.builtin n), k5] := by obtain ⟨l⟩ := sl; simp only at hs; rw [hs]
      subst es
      exact ⟨bm, ns, nm, qn, bs, hd, sn, sub, ab, col, dd, k0, k1, k2, k3, k5, _, X _ _ ho, .of_isNs (PySem.W.isNs_of_in X hk), PySem.W.nsMap_none_of_in X hk hi, PySem.W.tail_of_in X ht⟩
    · cases q
  · cases q
def tRaise (C : Addr) (E : St → XK) (t : TA) : TS := fun _ σ H => t σ H fun vs H1 => vs.length ≤ sizeLine ∧ E σ (.ref C) none H1
section
variable {X : Cx} {C : Addr} {x : Str} {np cpos pos : Pos} {e : Expr} {es : List Expr} {t : TA} {E : St → XK}
/-- a new exception is laid -/
theorem made_takes {pins : List (Addr × Obj)} {σ : St} {H : Hp} {s : Shared} {h' : Heap} {ea : Addr} {cls : Value} {args : List Value} (hT : TakesN X E) (I : Inv X pins σ H s) (hm : Heap.MadeExcOf s.heap h' ea cls args) (q : E σ cls none H) :
    X.xe (.ref ea) { s with heap := h' } := by
  obtain ⟨t, he, _, _⟩ := hm.there
  have new : ∀ b o, s.heap.get? b = some o → b ≠ ea := fun b o z y => by rw [y, hm.new] at z; cases z
  refine hT pins σ H { s with heap := h' } ea _ _ (I.kept hm.keeps) ?_ (fun b o z => ?_) (fun p hp => new _ _ (I.pin p hp).1) he rfl rfl q
  · cases z : H ea with
    | none => rfl
    | some o =>
      obtain ⟨ob, y⟩ := (I.hok ea o z).there
      exact absurd rfl (new ea ob y)
  · intro hx y
    subst y
    obtain ⟨o', y⟩ := I.base.there b o z hx
    exact new b o' y rfl
theorem ps_raise (hc : X.calm = true) (ex : PySem.W.excIn X.K C bmV "ValueError.__new__" = true) (hg : Gl X x) (hm : X.mg x = some (.ref C)) (hT : TakesN X E) (ha : PA X (e :: es) t)
    (hdb : (x == ("__debug__" : Str)) = false := by decide) (he : starEach (e :: es) X.env = (false, eval e X.env) :: starEach es X.env := by rfl) (hpl : (backTo cpos (starEach es X.env)).any (·.1) = false := by rfl) :
    PS X (.Raise (some (.Call (.Name x np) (e :: es) [] cpos)) none pos) (tRaise C E t) := by
  intro pins s σ H D I h
  obtain ⟨tl, N, nm, q, bs, hdct, sn, sub, ab, col, dd, k0, k1, k2, k3, k5, mN, hC, hN, hni, T⟩ := exc_obj I.ok.mod.kin ex
  refine wpAny_Raise_call_subT (nm := nm) (q := q) (k5 := k5) (k0 := k0) (k1 := k1) (k2 := k2) (k3 := k3) (dd := dd) (col := col) (ab := ab) (sub := sub) (sn := sn) (hdct := hdct) (bs := bs) (C := C) (N := N) (bm := tl) F.excBase_ValueError (mN := mN) (T.hasType F.excBase_ValueError.hasBase) (I.ok.hd hc) ?_ hni (ld_glob I hg hm ⟨rfl, ?_⟩ hdb)
  · rw [he]; show (false || _) = false; rw [Bool.false_or]; exact hpl
  · have z := ha cpos pins s σ H _ I h
    rw [he] at z ⊢
    exact Calls.evalArgs_plain (thn z fun us s2 ⟨vs, H2, I2, r, zl, q2⟩ => ⟨rfl, by rw [← r.length]; exact zl, I2.bk _ _ hC, hN.keeps I2.bk, T.keeps I2.bk, fun h' ea hme => made_takes hT I2 hme q2⟩)
end

/-! ### try: .. except C as n: .. -/
/-- the exception at ea, caught: of the class C, its dict d -/
def excO (ea C : Addr) (d : Option Addr) : HO := .ext fun h => ∃ o vs, h.get? ea = some o ∧ o.cls = .ref C ∧ o.dict = d ∧ o.data = .fields vs
/-- the suite's context: the exception at ea is handled; none leaves -/
abbrev Cx.suite (X : Cx) (ea : Addr) : Cx := { X with A := X.A.mark (some (.ref ea)), calm := false, xe := fun _ _ => False }
section
variable {X : Cx} {pins : List (Addr × Obj)} {σ : St} {H : Hp} {s : Shared}
theorem Inv.suite (I : Inv X pins σ H s) (ea : Addr) : Inv (X.suite ea) pins σ H s :=
  ⟨⟨I.ok.mod, I.ok.kind, I.ok.glob, I.ok.blt, I.ok.above, I.ok.inj, I.ok.has, I.ok.cab, (fun z => (by cases z)), I.ok.frames, I.ok.stk, I.ok.exf, I.ok.bs, I.ok.bsz, I.ok.noex, I.ok.exfs, I.ok.funs, I.ok.frf⟩, I.os, I.bare, I.base, I.loc, I.cell, I.free, I.freeC, I.pin, I.hok, I.len⟩
/-- the caught exception is tracked from here on -/
theorem Inv.caught {B : Heap} {l : List Env} {ea C : Addr} {d : Option Addr} {fl : Value} (I : Inv X pins σ H s) (f : Fly B l ea (.ref C) d fl s.heap) (hok : HOk X.prog X.w H B) (F : Fl X pins B) (hn : H ea = none) : Inv X pins σ (upd H ea (excO ea C d)) s := by
  obtain ⟨ob, vs, ho, hc, hdd, hd⟩ := f.there
  have keep : ∀ b u, H b = some u → upd H ea (excO ea C d) b = some u := fun b u e => by rw [upd_ne (ne_of_none e hn)]; exact e
  have data : ∀ b o, s.heap.get? b = some o → (∀ ws, o.data ≠ .fields ws) → b ≠ ea := fun b o e nf z => by rw [z, ho] at e; cases e; exact nf vs hd
  have new : ∀ b o, X.s₀.heap.get? b = some o → b ∉ X.ex → b ≠ ea := fun b o e hx z => by
    by_cases hb : b ∈ X.fs
    · obtain ⟨sl, q⟩ := I.base.slot b o e (I.ok.frf b hb) hb hx
      obtain ⟨_, o', e', nf⟩ := I.ok.funs.mem hb
      rw [e] at e'; cases e'
      exact data b _ q nf z
    · obtain ⟨o', q⟩ := F.kt b o e hb hx
      rw [z, f.en] at q; cases q
  refine ⟨I.ok, I.os, I.bare, ⟨I.base.keep, I.base.slot, fun b o e n hx => ?_, I.base.there, fun b xs e => keep _ _ (I.base.tups b xs e), fun b o u e => keep _ _ (I.base.frzs b o u e), fun b ps e => ?_⟩, I.loc, I.cell, ?_, fun x c e => ?_, fun p hp => ?_, fun b u e => ?_, I.len⟩
  · rw [upd_ne (new b o e hx)]; exact I.base.free b o e n hx
  · obtain ⟨m, q⟩ := I.base.tbls b ps e
    exact ⟨m, keep _ _ q⟩
  · obtain ⟨m, ⟨o, es, ep, e, dd, _⟩, _⟩ := I.loc
    rw [upd_ne (data _ o e fun ws z => by rw [dd] at z; cases z)]; exact I.free
  · obtain ⟨v, o, e', dd⟩ := I.cell x c e
    rw [upd_ne (data _ o e' fun ws z => by rw [dd] at z; cases z)]; exact I.freeC x c e
  · obtain ⟨e, n, ne, nf, z⟩ := I.pin p hp
    refine ⟨e, ?_, ne, nf, z⟩
    rw [upd_ne (fun y => by have := F.kp p hp; rw [y, f.en] at this; cases this)]; exact n
  · by_cases hb : b = ea
    · subst hb
      rw [upd_same] at e; cases e
      exact ⟨⟨ob, vs, ho, hc, hdd, hd⟩, ⟨ob, ho⟩, fun h1 h2 ⟨o, ws, a1, a2⟩ k => ⟨o, ws, k _ a1, a2⟩⟩
    · rw [upd_ne hb] at e
      exact (I.hok b u e).stay (fun _ _ _ q => q) (fun c q => keep _ _ q) fun c xs q => keep _ _ q
end
section
variable {X : Cx} {C : Addr} {x n : Str} {i : Nat} {np hp pos : Pos} {body suite orelse : List Stmt} {b₀ : Stmt} {tb : (St → XK) → TS} {th to : TS}
end
end L2
set_option Elab.async false
set_option linter.all false
set_option maxRecDepth 100000
set_option maxHeartbeats 1000000
/-! isinstance of a caught exception -/
namespace L2
open PySem PySem.Spec PyProof.Rows PySem.W
/-- what of the text an own class of exceptions must have -/
structure ExT (K : Frag) (C : Addr) : Prop where
  ga : findIn K (.ref C) "__getattribute__" = some (some (.builtin "BaseException.__getattribute__"))
  gt : findIn K (.ref C) "__getattr__" = some none
  cl : (clsIn K C).isSome = true
  ha : findIn K (.ref C) "__class__" = some (some (.builtin "object.__class__"))
  hn : specialIn K (.builtin "object.__class__") "__get__" = some (some (.builtin "getset_descriptor.__get__"))
  tk : takesIn K (.builtin "object.__class__") = some true
  mO : mroIn K C (.type "object") = some true
  mB : mroIn K C (.type "BaseException") = some true
section
variable {prog : Program} {w : World} {A : Around} {E : Value → Shared → Prop} {s : Shared} {K : Frag} {x C : Addr} {ox : Obj} {od : Option Obj} {name : Str}
end
/-- the dict of a caught exception: none, or one that is tracked -/
def DictOf (H : Hp) (d : Option Addr) : Prop := d = none ∨ ∃ dx fs, d = some dx ∧ H dx = some (.xd fs)
section
variable {X : Cx} {K : Frag}
end
/-- no exception comes: none is wanted -/
theorem takes0 {X : Cx} : Takes X (fun _ => E0) := fun _ _ _ _ ⟨_, _, _, _, _, _, _, _, _, _, q⟩ => q.elim
end L2
set_option Elab.async false
set_option linter.all false
set_option maxRecDepth 100000
set_option maxHeartbeats 1000000
/-! == and != of tuples -/
namespace L2
open PySem PySem.Spec PyProof.Rows
local macro_rules | `(tactic| walk_at "om") => `(tactic| first | omega | (unfold Addr at *; omega))
section
variable {X : Cx}
end
/-- a tuple of flat values, a list of flat values -/
theorem holds_flats {K : PySem.W.Frag} {H : Hp} {n : Nat} {a : Addr} {xs : List V} (h : SqT K H a xs) (hf : xs.all flatV = true) : Holds K H (n + 1) (.ref a) (.tup (xs.map .flat)) := by
  refine .tup h (by simp) fun i x t hx ht => ?_
  rw [List.getElem?_map, hx] at ht
  cases ht
  exact .flat (List.all_eq_true.mp hf x (List.mem_of_getElem? hx))
/-! ### and, or, chains of ints whose parts change nothing: one way behind them -/
section
variable {X : Cx} {a b c : Expr} {ta tb tc : TE} {pos : Pos} {rest : List Expr}
end
end L2
set_option Elab.async false
set_option linter.all false
set_option maxRecDepth 100000
set_option maxHeartbeats 1000000
/-! an own exception with an __init__ of its own: made, given a text, given a field -/
namespace L2
open PySem PySem.Spec PyProof.Rows PySem.W PySem.Builtin PySem.Builtin.ObjectAttr
/-- own classes, then ValueError's own row -/
def exMro : List Value → Bool
  | .ref _ :: r => exMro r
  | l => l == [.type "ValueError", .type "Exception", .type "BaseException", .type "object"]
/-- what of the text the class of such an exception must have, to be given a field -/
structure ExS (K : Frag) (C : Addr) : Prop where
  cls : ∃ cd, clsIn K C = some cd ∧ exMro cd.mro = true ∧ cd.hasDict = true
  sa : findIn K (.ref C) "__setattr__" = some (some (.builtin "object.__setattr__"))
section
variable {prog : Program} {w : World} {A : Around} {E : Value → Shared → Prop} {s : Shared} {K : Frag} {x C : Addr} {ox : Obj} {od : Option Obj} {name : Str} {v : Value}
end
section
variable {prog : Program} {w : World} {A : Around} {E : Value → Shared → Prop} {h : Heap} {g : Array GenState} {d : Drawn} {t : Nat} {os : OsState} {nm q : Str} {C N : Addr} {bs bm bmB : List Value} {hdct : Bool} {sn : List Str} {sub : List Value} {ab : Bool} {col : Option Bool} {dd : Option Addr} {k0 k1 k2 k3 k5 : Option Value} {B newId initId : String}
end
end L2
set_option Elab.async false
set_option linter.all false
set_option maxRecDepth 100000
set_option maxHeartbeats 1000000
/-! exceptions with an __init__ and a field, over the layer -/
namespace L2
open PySem PySem.Spec PyProof.Rows PySem.W
local macro_rules | `(tactic| walk_at "om") => `(tactic| first | omega | (unfold Addr at *; omega))
theorem ns_of_in {K : Frag} {h : Heap} {N : Addr} {m : Str → Option Value} {n : Str} {v : Value} (X : K.In h) (G : h.Ns N m) (e : nsIn K N n = some (some v)) : m n = some v := by
  obtain ⟨o, es, ep, ho, hd, _, hf⟩ := G
  unfold nsIn at e; split at e
  · rename_i q; have z := (X _ _ q).symm.trans ho; cases z; cases hd
    split at e
    · rename_i en he; cases e; rw [← hf]; unfold nsFind findBy; rw [← Array.find?_toList, he]; rfl
    · split at e <;> cases e
  · cases e
/-- an own class of exceptions under ValueError, its __init__ at f -/
structure ExN (K : Frag) (C f : Addr) : Prop where
  ex : ∃ (nm q : Str) (N : Addr) (bs bm : List Value) (hdct : Bool) (sn : List Str) (sub : List Value) (ab : Bool) (col : Option Bool) (dd : Option Addr) (k0 k1 k2 k3 k5 : Option Value),
    K.lookup C = some (excClassObj nm q C N bs bm hdct sn sub ab col dd k0 k1 k2 k3 k5 "ValueError.__new__") ∧ nsOkIn K N = true ∧ nsIn K N "__init__" = some (some (.ref f)) ∧ tailIn K bmV bm = true
  fn : isFn K (.ref f) = true
theorem ExN.obj {K : Frag} {C f : Addr} {h : Heap} (T : ExN K C f) (X : K.In h) : ∃ bm N nm q bs hdct sn sub ab col dd k0 k1 k2 k3 k5 mN, h.get? C = some (excClassObj nm q C N bs bm hdct sn sub ab col dd k0 k1 k2 k3 k5 "ValueError.__new__") ∧ h.Ns N mN ∧ mN "__init__" = some (.ref f) ∧ OwnTail h bmV bm := by
  obtain ⟨nm, q, N, bs, bm, hdct, sn, sub, ab, col, dd, k0, k1, k2, k3, k5, h1, h2, h3, h4⟩ := T.ex
  have G : h.Ns N (h.nsMap N) := .of_isNs (isNs_of_in X h2)
  exact ⟨bm, N, nm, q, bs, hdct, sn, sub, ab, col, dd, k0, k1, k2, k3, k5, _, X _ _ h1, G, ns_of_in X G h3, tail_of_in X h4⟩
theorem ExN.fun {K : Frag} {C f : Addr} {h : Heap} (T : ExN K C f) (X : K.In h) : ∃ o, h.get? f = some o ∧ o.cls = .type "function" := by
  have e : typeIn K (.ref f) = some (.type "function") := beq_iff_eq.mp T.fn
  obtain ⟨o, h1, h2⟩ := Option.map_eq_some_iff.mp e
  exact ⟨o, X _ _ h1, h2⟩
def drop (H : Hp) (e : Addr) : Hp := fun b => if b = e then none else H b
theorem drop_same {H : Hp} {e : Addr} : drop H e e = none := if_pos rfl
theorem drop_ne {H : Hp} {e b : Addr} (h : b ≠ e) : drop H e b = H b := if_neg h
section
variable {X : Cx} {pins : List (Addr × Obj)} {σ : St} {H : Hp} {s : Shared}
/-- nothing lies at e: nor did it at the entry, no frame, no cell, no pin -/
structure NewAt (X : Cx) (pins : List (Addr × Obj)) (H : Hp) (e : Addr) : Prop where
  free : H e = none
  old : ∀ b o, X.s₀.heap.get? b = some o → b ∉ X.ex → b ≠ e
  loc : X.env.locals ≠ e
  cell : ∀ x c, X.env.cells.lookup x = some c → c ≠ e
  pin : ∀ p ∈ X.pn ++ pins, p.1 ≠ e
theorem Inv.newAt (I : Inv X pins σ H s) {e : Addr} (h : s.heap.get? e = none) : NewAt X pins H e := by
  have ne : ∀ b o, s.heap.get? b = some o → b ≠ e := fun b o q z => by rw [z, h] at q; cases q
  refine ⟨?_, fun b o q hx => ?_, ?_, fun x c q => ?_, fun p hp => ne _ _ (I.pin p hp).1⟩
  · cases z : H e with
    | none => rfl
    | some o => obtain ⟨ob, y⟩ := (I.hok e o z).there; exact absurd rfl (ne e ob y)
  · obtain ⟨o', y⟩ := I.base.there b o q hx; exact ne b o' y
  · obtain ⟨m, ⟨o, _, _, y, _⟩, _⟩ := I.loc; exact ne _ o y
  · obtain ⟨v, o, y, _⟩ := I.cell x c q; exact ne _ o y
theorem Inv.track {e : Addr} {o : HO} (I : Inv X pins σ H s) (n : NewAt X pins H e) (ok : ObjOk X.prog X.w (upd H e o) s.heap e o) : Inv X pins σ (upd H e o) s := by
  have keep : ∀ b u, H b = some u → upd H e o b = some u := fun b u q => by rw [upd_ne (ne_of_none q n.free)]; exact q
  refine ⟨I.ok, I.os, I.bare, ⟨I.base.keep, I.base.slot, fun b ob q z hx => ?_, I.base.there, fun b xs q => keep _ _ (I.base.tups b xs q), fun b ob u q => keep _ _ (I.base.frzs b ob u q), fun b ps q => ?_⟩, I.loc, I.cell, ?_, fun x c q => ?_, fun p hp => ?_, fun b u q => ?_, I.len⟩
  · rw [upd_ne (n.old b ob q hx)]; exact I.base.free b ob q z hx
  · obtain ⟨m, y⟩ := I.base.tbls b ps q; exact ⟨m, keep _ _ y⟩
  · rw [upd_ne n.loc]; exact I.free
  · rw [upd_ne (n.cell x c q)]; exact I.freeC x c q
  · obtain ⟨q, z, a, b, d⟩ := I.pin p hp
    refine ⟨q, ?_, a, b, d⟩; rw [upd_ne (n.pin p hp)]; exact z
  · by_cases hb : b = e
    · subst hb; rw [upd_same] at q; cases q; exact ok
    · rw [upd_ne hb] at q
      exact (I.hok b u q).stay (fun _ _ _ z => z) (fun c z => keep _ _ z) fun c xs z => keep _ _ z
/-- e is tracked no more -/
theorem Inv.drop {e : Addr} {φ : Heap → Prop} (I : Inv X pins σ H s) (he : H e = some (.ext φ)) : Inv X pins σ (drop H e) s := by
  have keep : ∀ b u, H b = some u → (∀ ψ, u ≠ .ext ψ) → L2.drop H e b = some u := fun b u q nx => by
    rw [drop_ne (fun z => by rw [z, he] at q; cases q; exact nx _ rfl)]; exact q
  have none' : ∀ b, H b = none → L2.drop H e b = none := fun b q => by
    by_cases z : b = e
    · rw [z]; exact drop_same
    · rw [drop_ne z]; exact q
  refine ⟨I.ok, I.os, I.bare, ⟨I.base.keep, I.base.slot, fun b ob q z hx => none' _ (I.base.free b ob q z hx), I.base.there, fun b xs q => keep _ _ (I.base.tups b xs q) (fun _ z => nomatch z), fun b ob u q => keep _ _ (I.base.frzs b ob u q) (fun _ z => nomatch z), fun b ps q => ?_⟩, I.loc, I.cell, none' _ I.free, fun x c q => none' _ (I.freeC x c q), fun p hp => ?_, fun b u q => ?_, I.len⟩
  · obtain ⟨m, y⟩ := I.base.tbls b ps q; exact ⟨m, keep _ _ y (fun _ z => nomatch z)⟩
  · obtain ⟨q, z, a, b, d⟩ := I.pin p hp
    exact ⟨q, none' _ z, a, b, d⟩
  · have hb : b ≠ e := fun z => by rw [z, drop_same] at q; cases q
    rw [drop_ne hb] at q
    exact (I.hok b u q).stay (fun _ _ _ z => z) (fun c z => keep _ _ z (fun _ y => nomatch y)) fun c xs z => keep _ _ z (fun _ y => nomatch y)
end
/-! ### the base's __init__, an f-string, the field -/
section
variable {X : Cx} {V₀ : Addr} {x : Str} {p apos pos : Pos} {e : Expr} {es : List Expr} {t : TA} {te : TE}
end
end L2
set_option Elab.async false
set_option linter.all false
set_option maxRecDepth 100000
set_option maxHeartbeats 1000000
/-! raise C(..), C with an __init__; a field of a caught exception -/
namespace L2
open PySem PySem.Spec PyProof.Rows PySem.W
section
variable {M : Model} {A : Around} {E : Value → Shared → Prop} {env : Env} {nm q : Str} {C N : Addr} {bs bm : List Value} {hdct : Bool} {sn : List Str} {sub : List Value} {ab : Bool} {col : Option Bool} {dd : Option Addr} {k0 k1 k2 k3 k5 : Option Value} {newId : String}
end
section
variable {X : Cx} {C f : Addr} {fd : FuncData} {ps : List Str} {sp : Sp} {k : Nat} {x : Str} {np cpos pos : Pos} {e : Expr} {es : List Expr} {t : TA} {E : St → XK}
end
/-! ### e.f of a caught exception -/
section
variable {prog : Program} {w : World} {A : Around} {E : Value → Shared → Prop} {s : Shared} {K : Frag} {x C : Addr} {ox : Obj} {od : Option Obj} {name : Str} {v : Value}
end
end L2
namespace L2
open PySem PySem.Spec PyProof.Rows PySem.W
theorem ExS.of {K : Frag} {C N : Addr} {nm q : Str} {bs bm : List Value} {hdct : Bool} {sn : List Str} {sub : List Value} {ab : Bool} {col : Option Bool} {dd : Option Addr} {k0 k1 k2 k3 k5 : Option Value} {newId : String}
    (l : K.lookup C = some (excClassObj nm q C N bs bm hdct sn sub ab col dd k0 k1 k2 k3 k5 newId)) (em : exMro bm = true) (hd : hdct = true) (sa : findIn K (.ref C) "__setattr__" = some (some (.builtin "object.__setattr__"))) : ExS K C :=
  ⟨⟨_, by unfold clsIn; rw [l], em, hd⟩, sa⟩
/-! ### min of a list of ints -/
end L2
set_option Elab.async false
set_option linter.all false
set_option maxRecDepth 100000
set_option maxHeartbeats 1000000
/-! a cut: what holds between a statement and the rest, said once for all its branches -/
namespace L2
open PySem PySem.Spec PyProof.Rows PySem.W
def tCut (t u : TS) : TS := fun D σ H => ∃ R : St → Hp → Prop, t { D with nx := R } σ H ∧ ∀ σ' H', R σ' H' → u D σ' H'
theorem pss_cut {X : Cx} {st : Stmt} {rest : List Stmt} {t u : TS} (h1 : PS X st t) (h2 : PSs X rest u) : PSs X (st :: rest) (tCut t u) := by
  intro pins s σ H D I ⟨R, h, hR⟩
  refine wpAny_execs_cons (thn (h1 pins s σ H { D with nx := R } I h) fun f s1 q => ?_)
  cases f with
  | next =>
    obtain ⟨σ', H', I', q⟩ := q
    exact h2 pins s1 σ' H' D I' (hR σ' H' q)
  | ret v => exact q
  | brk => exact q
  | cont => exact q
end L2
set_option Elab.async false
set_option linter.all false
set_option maxRecDepth 100000
set_option maxHeartbeats 1000000
/-! sorted of a list of ints; max of one -/
namespace L2
open PySem PySem.Spec PyProof.Rows PySem.W
theorem ints_vals : ∀ {us : List Value} {ns : List Int}, IntsAre us ns → Vals (ns.map V.int) us
  | _, _, .nil => .nil
  | _, _, .cons _ _ h => .cons ⟨_, rfl⟩ (ints_vals h)
section
variable {X : Cx}
end
/-! ### zip of two lists -/
section
variable {X : Cx} {pins : List (Addr × Obj)} {σ : St} {H : Hp} {s : Shared}
/-- iterators' own records were written over -/
theorem Inv.poked {ch : List Addr} {h' : Heap} (I : Inv X pins σ H s) (k : ∀ b o, b ∉ ch → s.heap.get? b = some o → h'.get? b = some o) (f : ∀ b ∈ ch, FpOk X pins H b) : Inv X pins σ H { s with heap := h' } := by
  refine I.call' (ch := ch) rfl ⟨fun b o q _ _ hx => k b o hx q, fun b o q _ _ hx => ⟨o.slots, k b o hx q⟩, fun b o q n _ => n, fun b o q hx => ⟨o, k b o hx q⟩, fun _ _ q => q, fun _ _ _ q => q, fun b ps q => ⟨#[], by rw [q]; simp⟩⟩ (fun b ob q => ?_) I.bare fun b hb => ?_
  · refine (I.hok b ob q).stay (fun c v hc r => k c v (fun z => ?_) r) (fun _ r => r) fun _ _ r => r
    have n := (f c z).1
    rcases hc with w | w
    · rw [← w, n] at q; cases q
    · rw [n] at w; cases w
  · have fb := f b hb
    exact ⟨fb.2.2.2.1, fb.2.1, fb.2.2.2.2.1, fb.2.2.2.2.2⟩
end
section
variable {X : Cx} {elts : List Expr} {k0} {tp : Pos}
end
end L2
set_option Elab.async false
set_option linter.all false
set_option maxRecDepth 100000
set_option maxHeartbeats 1000000
/-! volumes: rows made anew, a number put into a row, copies; data trees over what is tracked -/
namespace L2
open PySem PySem.Spec PyProof.Rows PySem.W
theorem ndp1 {a : Str} : [a].Nodup := by simp
theorem ndp2 {a b : Str} (h : a ≠ b) : [a, b].Nodup := by simp [h]
theorem ndp3 {a b c : Str} (h1 : a ≠ b) (h2 : a ≠ c) (h3 : b ≠ c) : [a, b, c].Nodup := by simp [h1, h2, h3]
theorem take_snoc {α : Type} {xs : List α} {i : Nat} {x : α} (h : xs[i]? = some x) : xs.take (i + 1) = xs.take i ++ [x] := by
  rw [List.take_add_one, h]; rfl
theorem nodup_at {α : Type} {l : List α} (hN : l.Nodup) {i j : Nat} {x : α} (a : l[i]? = some x) (b : l[j]? = some x) : i = j := by
  obtain ⟨hi, ei⟩ := List.getElem?_eq_some_iff.mp a
  obtain ⟨hj, ej⟩ := List.getElem?_eq_some_iff.mp b
  have p := List.pairwise_iff_getElem.mp hN
  rcases Nat.lt_trichotomy i j with h | h | h
  · exact absurd (ei.trans ej.symm) (p i j hi hj h)
  · exact h
  · exact absurd (ej.trans ei.symm) (p j i hj hi h)
/-- rows of ints that came since H0 -/
structure Rows (H0 H : Hp) (as : List Addr) (rows : List (List Int)) : Prop where
  len : as.length = rows.length
  nd : as.Nodup
  new : ∀ a ∈ as, H0 a = none
  row : ∀ (i : Nat) a r, as[i]? = some a → rows[i]? = some r → H a = some (.lst (r.map V.int))
  same : Same H0 H
theorem Rows.nil {H : Hp} : Rows H H [] [] := ⟨rfl, List.nodup_nil, fun _ h => (nomatch h), fun i a r h => by simp at h, Same.refl H⟩
theorem Rows.at {H0 H : Hp} {as : List Addr} {rows : List (List Int)} (x : Rows H0 H as rows) {a : Addr} (h : a ∈ as) : ∃ o, H a = some o := by
  obtain ⟨i, hi, e⟩ := List.getElem_of_mem h
  have h1 : as[i]? = some a := by rw [List.getElem?_eq_getElem hi, e]
  have hr : i < rows.length := by rw [← x.len]; exact hi
  exact ⟨_, x.row i a rows[i] h1 (List.getElem?_eq_getElem hr)⟩
theorem Rows.on {H0 H H' : Hp} {as : List Addr} {rows : List (List Int)} (x : Rows H0 H as rows) (s : Same H H') : Rows H0 H' as rows :=
  ⟨x.len, x.nd, x.new, fun i a r h1 h2 => s _ _ (x.row i a r h1 h2), x.same.trans s⟩
theorem Rows.add {H0 H H1 : Hp} {as : List Addr} {rows : List (List Int)} {q : Addr} {r : List Int} (x : Rows H0 H as rows) (s : Same H H1) (hq : H q = none) (h1 : H1 q = some (.lst (r.map V.int))) : Rows H0 H1 (as ++ [q]) (rows ++ [r]) := by
  refine ⟨by simp [x.len], List.nodup_append.mpr ⟨x.nd, by simp, fun a hm b hb => ?_⟩, fun a hm => ?_, fun i a r' e1 e2 => ?_, x.same.trans s⟩
  · have : b = q := by simpa using hb
    subst this
    obtain ⟨o, e⟩ := x.at hm
    exact ne_of_none e hq
  · rcases List.mem_append.mp hm with hm | hm
    · exact x.new a hm
    · have : a = q := by simpa using hm
      subst this
      exact x.same.free hq
  · by_cases hi : i < as.length
    · rw [List.getElem?_append_left hi] at e1
      rw [List.getElem?_append_left (by rw [← x.len]; exact hi)] at e2
      exact s _ _ (x.row i a r' e1 e2)
    · have hl : i < (as ++ [q]).length := (List.getElem?_eq_some_iff.mp e1).1
      have : i = as.length := by simp at hl; omega
      subst this
      rw [x.len] at e2
      simp at e1 e2
      subst e1 e2
      exact h1
theorem Rows.vol {H0 H : Hp} {as : List Addr} {rows : List (List Int)} {v : Addr} (x : Rows H0 H as rows) (hv : H v = none) : Vol (upd H v (.lst (as.map V.ref))) v as rows :=
  ⟨upd_same, x.len, x.nd, fun i a r e1 e2 => (Same.upd0 hv) _ _ (x.row i a r e1 e2)⟩
theorem Vol.off {H : Hp} {v b : Addr} {as : List Addr} {rows : List (List Int)} {o : HO} (x : Vol H v as rows) (n1 : b ∉ as) (n2 : b ≠ v) : Vol (upd H b o) v as rows :=
  ⟨by rw [upd_ne (Ne.symm n2)]; exact x.top, x.len, x.nd, fun i a r e1 e2 => by rw [upd_ne (fun z => n1 (by rw [← z]; exact List.mem_of_getElem? e1))]; exact x.row i a r e1 e2⟩
/-- a number is put into a row -/
theorem Vol.put {H : Hp} {v a : Addr} {as : List Addr} {rows : List (List Int)} {i j : Nat} {r : List Int} {n : Int} (x : Vol H v as rows) (ha : as[i]? = some a) (hr : rows[i]? = some r) :
    Vol (upd H a (.lst ((r.map V.int).set j (.int n)))) v as (rows.set i (r.set j n)) := by
  have hi : i < as.length := (List.getElem?_eq_some_iff.mp ha).1
  refine ⟨by rw [upd_ne (Ne.symm (x.ne (List.mem_of_getElem? ha)))]; exact x.top, by simp [x.len], x.nd, fun k b r' e1 e2 => ?_⟩
  by_cases hk : k = i
  · subst hk
    rw [ha] at e1
    cases e1
    rw [List.getElem?_set_self (by rw [← x.len]; exact hi)] at e2
    cases e2
    rw [upd_same, List.map_set]
  · rw [List.getElem?_set_ne (Ne.symm hk)] at e2
    have nb : b ≠ a := fun z => by
      subst z
      exact hk (nodup_at x.nd e1 ha)
    rw [upd_ne nb]
    exact x.row k b r' e1 e2
/-- [list(x) for x in v]: a new volume with the same rows -/
theorem comp_rows {K : PySem.W.Frag} {v : Addr} {as : List Addr} {rows : List (List Int)} {σ : St} {H : Hp} {Q : VK} (hV : Vol H v as rows) (hn : rows.length ≤ 1000)
    (k : ∀ (D : Addr) (bs : List Addr) (H' : Hp), H D = none → (∀ b ∈ bs, H b = none) → Vol H' D bs rows → Same H H' → Q (.ref D) H') :
    CompR [none] (gName 0) tTrue (tCB (fun xs H Q => ∃ p ys, xs = [.ref p] ∧ (SqL K H p ys ∨ SqT K H p ys) ∧ ∀ l, H l = none → Q (.ref l) (upd H l (.lst ys))) (tCons (tVar 0) tNil)) σ Q (Itl K v) H := by
  refine comp_list (cap := [none]) (K := K) (a := v) (xs := as.map V.ref) (small_len (by rw [List.length_map, hV.len]; exact hn)) (fun i ys σ H' => ∃ bs, ys = bs.map V.ref ∧ i ≤ rows.length ∧ bs.length = i ∧ σ.length = 1 ∧ Rows H H' bs (rows.take i))
    ⟨[], rfl, Nat.zero_le _, rfl, rfl, by rw [List.take_zero]; exact Rows.nil⟩ (fun i ys σ H' ⟨bs, h1, h2, h3, h4, h5⟩ => ⟨by rw [List.length_map, hV.len]; exact h2, by rw [h1, List.length_map, h3]; exact Nat.le_refl _, SqL.of (h5.same _ _ hV.top)⟩) ?_ ?_
  · rintro i x ys σ H' hx ⟨bs, rfl, h2, h3, h4, h5⟩
    rw [List.getElem?_map] at hx
    cases e : as[i]? with
    | none => rw [e] at hx; cases hx
    | some a =>
      rw [e] at hx
      cases hx
      have hi : i < rows.length := by rw [← hV.len]; exact (List.getElem?_eq_some_iff.mp e).1
      have er : rows[i]? = some rows[i] := List.getElem?_eq_getElem hi
      match σ, h4 with
      | [s1], _ =>
        refine ⟨_, rfl, a, _, rfl, .inl (SqL.of (h5.same _ _ (hV.row i a rows[i] e er))), fun l hl => ⟨bs ++ [l], by simp, hi, by simp [h3], rfl, ?_⟩⟩
        rw [take_snoc er]
        exact h5.add (Same.upd0 hl) hl upd_same
  · rintro ys σ H' ⟨bs, rfl, h2, h3, h4, h5⟩ D hD
    have e : rows.take (as.map V.ref).length = rows := by rw [List.length_map, hV.len, List.take_length]
    rw [e] at h5
    exact k D bs _ (h5.same.free hD) h5.new (h5.vol hD) (h5.same.upd hD)
end L2
set_option Elab.async false
set_option linter.all false
set_option maxRecDepth 100000
set_option maxHeartbeats 1000000
/-! set of a list of ints, its len -/
namespace L2
open PySem PySem.Spec PyProof.Rows PySem.W
def dd (ns : List Int) : List Int := firstMet (fun i => ns.getD i 0) ns.length
section
variable {X : Cx}
end
end L2
set_option Elab.async false
set_option linter.all false
set_option maxRecDepth 100000
set_option maxHeartbeats 1000000
/-! o.m(..) where the class of o is one of several -/
namespace L2
open PySem PySem.Spec PyProof.Rows PySem.W
section
variable {X : Cx} {CX : CXT} {k : Nat} {D : Addr → Prop} {sp : Addr → Sp} {dvs : List V} {ds : List Value} {E : XK} {m : Str} {pos apos : Pos} {e o : Expr} {es : List Expr} {ta : TE} {t : TA}
end
end L2
set_option Elab.async false
set_option linter.all false
set_option maxRecDepth 100000
set_option maxHeartbeats 1000000
/-! enumerate(l, start=NAME) where NAME is 4; lists of rows; writes whose rows are apart -/
namespace PySem
open Sem (wp)
open AutoSeq1 (wpAny_loadPart')
section
variable {prog : Program} {w : World} {A : Around} {E : Value → Shared → Prop} {s : Shared}
end
end PySem
namespace L2
open PySem PySem.Spec PyProof.Rows PySem.W
section
variable {X : Cx} {elts : List Expr} {k0} {tp : Pos}
end
/-- a list of rows of ints, not apart -/
structure Rs (H : Hp) (v : Addr) (as : List Addr) (rows : List (List Int)) : Prop where
  top : H v = some (.lst (as.map V.ref))
  len : as.length = rows.length
  row : ∀ (i : Nat) a r, as[i]? = some a → rows[i]? = some r → H a = some (.lst (r.map V.int))
theorem Rs.same {H H' : Hp} {v : Addr} {as : List Addr} {rows : List (List Int)} (h : Rs H v as rows) (s : Same H H') : Rs H' v as rows := ⟨s _ _ h.top, h.len, fun i a r e1 e2 => s _ _ (h.row i a r e1 e2)⟩
/-- writes: pairs of a block and a row -/
abbrev Wt := Int × List Int
def trW (x : Wt) : Tr := .tup [.flat (.int x.1), trI x.2]
structure Wr (H : Hp) (w : Addr) (ts : List Addr) (ws : List Wt) : Prop where
  top : H w = some (.lst (ts.map V.ref))
  len : ts.length = ws.length
  item : ∀ (i : Nat) t x, ts[i]? = some t → ws[i]? = some x → ∃ ra, H t = some (.tup [.int x.1, .ref ra]) ∧ H ra = some (.lst (x.2.map V.int))
theorem Wr.same {H H' : Hp} {w : Addr} {ts : List Addr} {ws : List Wt} (h : Wr H w ts ws) (s : Same H H') : Wr H' w ts ws :=
  ⟨s _ _ h.top, h.len, fun i t x e1 e2 => let ⟨ra, h1, h2⟩ := h.item i t x e1 e2; ⟨ra, s _ _ h1, s _ _ h2⟩⟩
theorem Wr.holds {K : PySem.W.Frag} {H : Hp} {w : Addr} {ts : List Addr} {ws : List Wt} (h : Wr H w ts ws) : Holds K H 3 (.ref w) (.lst (ws.map trW)) := by
  refine .lst (SqL.of h.top) (by simp [h.len]) fun i x t e1 e2 => ?_
  rw [List.getElem?_map] at e1 e2
  cases ea : ts[i]? with
  | none => rw [ea] at e1; cases e1
  | some ta =>
    cases ew : ws[i]? with
    | none => rw [ew] at e2; cases e2
    | some y =>
      rw [ea] at e1
      rw [ew] at e2
      cases e1
      cases e2
      obtain ⟨ra, h1, h2⟩ := h.item i ta y ea ew
      refine .tup (SqT.of h1) rfl fun j x t f1 f2 => ?_
      match j with
      | 0 => cases f1; cases f2; exact .flat rfl
      | 1 => cases f1; cases f2; exact holds_ints (SqL.of h2)
      | j + 2 => simp at f1
/-- pairs with rows of their own that came since H0 -/
structure Wrs (H0 H : Hp) (ts ras : List Addr) (ws : List Wt) : Prop where
  lt : ts.length = ws.length
  lr : ras.length = ws.length
  nd : ras.Nodup
  new : ∀ a ∈ ras, H0 a = none
  tup : ∀ (i : Nat) t a x, ts[i]? = some t → ras[i]? = some a → ws[i]? = some x → H t = some (.tup [.int x.1, .ref a])
  row : ∀ (i : Nat) a x, ras[i]? = some a → ws[i]? = some x → H a = some (.lst (x.2.map V.int))
  same : Same H0 H
theorem Wrs.nil {H : Hp} : Wrs H H [] [] [] := ⟨rfl, rfl, List.nodup_nil, fun _ h => (nomatch h), fun i t a x h => by simp at h, fun i a x h => by simp at h, Same.refl H⟩
theorem Wrs.at {H0 H : Hp} {ts ras : List Addr} {ws : List Wt} (x : Wrs H0 H ts ras ws) {a : Addr} (h : a ∈ ras) : ∃ ns : List Int, H a = some (.lst (ns.map V.int)) := by
  obtain ⟨i, hi, e⟩ := List.getElem_of_mem h
  have h1 : ras[i]? = some a := by rw [List.getElem?_eq_getElem hi, e]
  have hr : i < ws.length := by rw [← x.lr]; exact hi
  exact ⟨_, x.row i a ws[i] h1 (List.getElem?_eq_getElem hr)⟩
theorem Wrs.on {H0 H H' : Hp} {ts ras : List Addr} {ws : List Wt} (x : Wrs H0 H ts ras ws) (s : Same H H') : Wrs H0 H' ts ras ws :=
  ⟨x.lt, x.lr, x.nd, x.new, fun i t a y h1 h2 h3 => s _ _ (x.tup i t a y h1 h2 h3), fun i a r h1 h2 => s _ _ (x.row i a r h1 h2), x.same.trans s⟩
theorem Wrs.add {H0 H H1 : Hp} {ts ras : List Addr} {ws : List Wt} {t q : Addr} {y : Wt} (x : Wrs H0 H ts ras ws) (s : Same H H1) (hq : H q = none) (h1 : H1 t = some (.tup [.int y.1, .ref q])) (h2 : H1 q = some (.lst (y.2.map V.int))) : Wrs H0 H1 (ts ++ [t]) (ras ++ [q]) (ws ++ [y]) := by
  refine ⟨by simp [x.lt], by simp [x.lr], List.nodup_append.mpr ⟨x.nd, by simp, fun a hm b hb => ?_⟩, fun a hm => ?_, fun i t' a r' e0 e1 e2 => ?_, fun i a r' e1 e2 => ?_, x.same.trans s⟩
  · have : b = q := by simpa using hb
    subst this
    obtain ⟨o, e⟩ := x.at hm
    exact ne_of_none e hq
  · rcases List.mem_append.mp hm with hm | hm
    · exact x.new a hm
    · have : a = q := by simpa using hm
      subst this
      exact x.same.free hq
  · by_cases hi : i < ras.length
    · rw [List.getElem?_append_left (by rw [x.lt, ← x.lr]; exact hi)] at e0
      rw [List.getElem?_append_left hi] at e1
      rw [List.getElem?_append_left (by rw [← x.lr]; exact hi)] at e2
      exact s _ _ (x.tup i t' a r' e0 e1 e2)
    · have hl : i < (ras ++ [q]).length := (List.getElem?_eq_some_iff.mp e1).1
      have : i = ras.length := by simp at hl; omega
      subst this
      rw [x.lr, ← x.lt] at e0
      rw [x.lr] at e2
      simp at e0 e1 e2
      subst e0 e1 e2
      exact h1
  · by_cases hi : i < ras.length
    · rw [List.getElem?_append_left hi] at e1
      rw [List.getElem?_append_left (by rw [← x.lr]; exact hi)] at e2
      exact s _ _ (x.row i a r' e1 e2)
    · have hl : i < (ras ++ [q]).length := (List.getElem?_eq_some_iff.mp e1).1
      have : i = ras.length := by simp at hl; omega
      subst this
      rw [x.lr] at e2
      simp at e1 e2
      subst e1 e2
      exact h2
/-- what is written over beside them -/
theorem Wrs.off {H0 H : Hp} {ts ras : List Addr} {ws : List Wt} {b : Addr} {o : HO} (x : Wrs H0 H ts ras ws) (n0 : H0 b = none) (n1 : b ∉ ras) (n2 : ∃ xs, H b = some (.lst xs)) : Wrs H0 (upd H b o) ts ras ws := by
  obtain ⟨xs, hb⟩ := n2
  refine ⟨x.lt, x.lr, x.nd, x.new, fun i t a y e0 e1 e2 => ?_, fun i a y e1 e2 => ?_, fun c u e => ?_⟩
  · have := x.tup i t a y e0 e1 e2
    rw [upd_ne (fun z => by rw [z, hb] at this; cases this)]
    exact this
  · rw [upd_ne (fun z => n1 (by rw [← z]; exact List.mem_of_getElem? e1))]
    exact x.row i a y e1 e2
  · rw [upd_ne (fun z => by rw [z, n0] at e; cases e)]
    exact x.same c u e
/-- the list of them stands at w -/
structure WrA (H0 H : Hp) (w : Addr) (ts ras : List Addr) (ws : List Wt) : Prop extends Wrs H0 H ts ras ws where
  top : H w = some (.lst (ts.map V.ref))
  nw : w ∉ ras
theorem Wrs.list {H0 H : Hp} {w : Addr} {ts ras : List Addr} {ws : List Wt} (x : Wrs H0 H ts ras ws) (hw : H w = none) : WrA H0 (upd H w (.lst (ts.map V.ref))) w ts ras ws :=
  ⟨x.on (Same.upd0 hw), upd_same, fun z => let ⟨_, e⟩ := x.at z; by rw [hw] at e; cases e⟩
theorem WrA.wr {H0 H : Hp} {w : Addr} {ts ras : List Addr} {ws : List Wt} (x : WrA H0 H w ts ras ws) : Wr H w ts ws := by
  refine ⟨x.top, x.lt, fun i t y e1 e2 => ?_⟩
  have hi : i < ras.length := by rw [x.lr]; exact (List.getElem?_eq_some_iff.mp e2).1
  exact ⟨ras[i], x.tup i t _ y e1 (List.getElem?_eq_getElem hi) e2, x.row i _ y (List.getElem?_eq_getElem hi) e2⟩
/-- a number is put into a row of them -/
theorem WrA.put {H0 H : Hp} {w a : Addr} {ts ras : List Addr} {ws : List Wt} {i j : Nat} {y : Wt} {n : Int} (x : WrA H0 H w ts ras ws) (ha : ras[i]? = some a) (hy : ws[i]? = some y) :
    WrA H0 (upd H a (.lst ((y.2.map V.int).set j (.int n)))) w ts ras (ws.set i (y.1, y.2.set j n)) := by
  have hi : i < ras.length := (List.getElem?_eq_some_iff.mp ha).1
  have hiw : i < ws.length := by rw [← x.lr]; exact hi
  have hA := x.row i a y ha hy
  have n0 : H0 a = none := x.new a (List.mem_of_getElem? ha)
  refine ⟨⟨by rw [List.length_set]; exact x.lt, by rw [List.length_set]; exact x.lr, x.nd, x.new, fun k t b r' e0 e1 e2 => ?_, fun k b r' e1 e2 => ?_, fun c u e => ?_⟩, ?_, x.nw⟩
  · have ht : ∀ z, H t = some (.tup z) → upd H a (.lst ((y.2.map V.int).set j (.int n))) t = some (.tup z) := fun z h => by
      rw [upd_ne (fun z' => by rw [z', hA] at h; cases h)]; exact h
    by_cases hk : k = i
    · subst hk
      rw [List.getElem?_set_self hiw] at e2
      cases e2
      exact ht _ (x.tup k t b y e0 e1 hy)
    · rw [List.getElem?_set_ne (Ne.symm hk)] at e2
      exact ht _ (x.tup k t b r' e0 e1 e2)
  · by_cases hk : k = i
    · subst hk
      rw [ha] at e1
      cases e1
      rw [List.getElem?_set_self hiw] at e2
      cases e2
      rw [upd_same, List.map_set]
    · rw [List.getElem?_set_ne (Ne.symm hk)] at e2
      have nb : b ≠ a := fun z => by
        subst z
        exact hk (nodup_at x.nd e1 ha)
      rw [upd_ne nb]
      exact x.row k b r' e1 e2
  · rw [upd_ne (fun z => by rw [z, n0] at e; cases e)]
    exact x.same c u e
  · rw [upd_ne (fun z => x.nw (by rw [z]; exact List.mem_of_getElem? ha))]
    exact x.top
theorem Wrs.base {H0 H1 H : Hp} {ts ras : List Addr} {ws : List Wt} (x : Wrs H1 H ts ras ws) (s : Same H0 H1) : Wrs H0 H ts ras ws := ⟨x.lt, x.lr, x.nd, fun a h => s.free (x.new a h), x.tup, x.row, s.trans x.same⟩
theorem WrA.base {H0 H1 H : Hp} {w : Addr} {ts ras : List Addr} {ws : List Wt} (x : WrA H1 H w ts ras ws) (s : Same H0 H1) : WrA H0 H w ts ras ws := ⟨x.toWrs.base s, x.top, x.nw⟩
theorem Wrs.one {H0 H : Hp} {t q : Addr} {y : Wt} (s : Same H0 H) (h0 : H0 q = none) (h1 : H t = some (.tup [.int y.1, .ref q])) (h2 : H q = some (.lst (y.2.map V.int))) : Wrs H0 H [t] [q] [y] := by
  refine ⟨rfl, rfl, by simp, fun a h => ?_, fun i t' a x e0 e1 e2 => ?_, fun i a x e1 e2 => ?_, s⟩
  · have : a = q := by simpa using h
    rw [this]; exact h0
  · match i with
    | 0 => cases e0; cases e1; cases e2; exact h1
    | i + 1 => simp at e0
  · match i with
    | 0 => cases e1; cases e2; exact h2
    | i + 1 => simp at e1
theorem getApp {α : Type} {xs ys : List α} {i n : Nat} {x : α} (hn : xs.length = n) (h : (xs ++ ys)[i]? = some x) : (i < n ∧ xs[i]? = some x) ∨ (n ≤ i ∧ ys[i - n]? = some x) := by
  by_cases hi : i < n
  · exact .inl ⟨hi, by rw [List.getElem?_append_left (by omega)] at h; exact h⟩
  · exact .inr ⟨by omega, by rw [List.getElem?_append_right (by omega), hn] at h; exact h⟩
/-- pairs, not apart, without their list -/
structure WI (H : Hp) (ts : List Addr) (ws : List Wt) : Prop where
  len : ts.length = ws.length
  item : ∀ (i : Nat) t x, ts[i]? = some t → ws[i]? = some x → ∃ ra, H t = some (.tup [.int x.1, .ref ra]) ∧ H ra = some (.lst (x.2.map V.int))
theorem WI.same {H H' : Hp} {ts : List Addr} {ws : List Wt} (h : WI H ts ws) (s : Same H H') : WI H' ts ws :=
  ⟨h.len, fun i t x e1 e2 => let ⟨ra, h1, h2⟩ := h.item i t x e1 e2; ⟨ra, s _ _ h1, s _ _ h2⟩⟩
theorem WI.nil {H : Hp} : WI H [] [] := ⟨rfl, fun i t x e => by simp at e⟩
theorem WI.one {H : Hp} {t q : Addr} {y : Wt} (h1 : H t = some (.tup [.int y.1, .ref q])) (h2 : H q = some (.lst (y.2.map V.int))) : WI H [t] [y] := by
  refine ⟨rfl, fun i t' x e0 e1 => ?_⟩
  match i with
  | 0 => cases e0; cases e1; exact ⟨q, h1, h2⟩
  | i + 1 => simp at e0
theorem WI.app {H : Hp} {ts ts2 : List Addr} {ws ws2 : List Wt} (x : WI H ts ws) (y : WI H ts2 ws2) : WI H (ts ++ ts2) (ws ++ ws2) := by
  refine ⟨by simp [x.len, y.len], fun i t z e0 e1 => ?_⟩
  rcases getApp x.len e0 with ⟨hi, e0⟩ | ⟨hi, e0⟩
  · rcases getApp (rfl : ws.length = ws.length) e1 with ⟨_, e1⟩ | ⟨h3, _⟩
    · exact x.item i t z e0 e1
    · exact absurd h3 (by omega)
  · rcases getApp (rfl : ws.length = ws.length) e1 with ⟨h3, _⟩ | ⟨_, e1⟩
    · exact absurd h3 (by omega)
    · exact y.item _ t z e0 e1
theorem Wr.wi {H : Hp} {w : Addr} {ts : List Addr} {ws : List Wt} (h : Wr H w ts ws) : WI H ts ws := ⟨h.len, h.item⟩
theorem WI.wr {H : Hp} {w : Addr} {ts : List Addr} {ws : List Wt} (h : WI H ts ws) (t : H w = some (.lst (ts.map V.ref))) : Wr H w ts ws := ⟨t, h.len, h.item⟩
theorem holds_refl {K : PySem.W.Frag} {H : Hp} {n : Nat} {v : V} {t : Tr} (h : Holds K H n v t) : eqT t t = true := by
  have all : ∀ {xs : List V} {ts : List Tr}, xs.length = ts.length → (∀ (i : Nat) x t, xs[i]? = some x → ts[i]? = some t → eqT t t = true) → eqTs ts ts = true := fun {xs ts} hl ih => by
    rw [eqTs_all rfl, List.all_eq_true]
    intro i hi
    have hi : i < ts.length := by simpa using hi
    rw [List.getElem?_eq_getElem hi]
    exact ih i xs[i] ts[i] (List.getElem?_eq_getElem (by omega)) (List.getElem?_eq_getElem hi)
  induction h with
  | flat h => simp only [L2.eqT]; exact eqV_refl h
  | lst h hl he ih => simp only [L2.eqT]; exact all hl ih
  | tup h hl he ih => simp only [L2.eqT]; exact all hl ih
end L2
set_option Elab.async false
set_option linter.all false
set_option maxRecDepth 100000
set_option maxHeartbeats 1000000
/-! displays of whole numbers at once -/
namespace L2
open PySem PySem.Spec PyProof.Rows PySem.W
def intOf : Expr → Option Int
  | .Constant (.int n) _ _ => some n
  | .UnaryOp .USub (.Constant (.int n) _ _) _ => some (-n)
  | _ => none
def intsOf : List Expr → Option (List Int)
  | [] => some []
  | e :: es => (intOf e).bind fun n => (intsOf es).map (n :: ·)
def tIntsA (ns : List Int) : TA := fun _ H Q => Q (ns.map V.int) H
def tInts (ns : List Int) : TE := fun _ H Q => ns.length ≤ sizeLine ∧ ∀ p, H p = none → Q (.ref p) (upd H p (.lst (ns.map V.int)))
section
variable {X : Cx}
theorem pe_intOf {e : Expr} {n : Int} (h : intOf e = some n) : PE X e (tC (.int n)) := by
  unfold intOf at h
  split at h
  · cases h
    exact pe_int
  · cases h
    exact fun pins s σ H Q I hq => pe_un un_neg pe_int pins s σ H Q I ⟨_, rfl, hq⟩
  · cases h
theorem star_intOf {e : Expr} {n : Int} {es : List Expr} (h : intOf e = some n) : starEach (e :: es) X.env = (false, eval e X.env) :: starEach es X.env := by
  unfold intOf at h
  split at h
  · rfl
  · rfl
  · cases h
theorem pa_ints : ∀ {es : List Expr} {ns : List Int}, intsOf es = some ns → PA X es (tIntsA ns)
  | [], ns, h => by
    cases h
    exact pa_nil
  | e :: es, ns, h => by
    unfold intsOf at h
    cases hn : intOf e with
    | none => rw [hn] at h; cases h
    | some n =>
      cases hs : intsOf es with
      | none => rw [hn, hs] at h; cases h
      | some ms =>
        rw [hn, hs] at h
        cases h
        intro pos pins s σ H Q I hq
        exact pa_cons (pe_intOf hn) (pa_ints hs) (star_intOf hn) pos pins s σ H Q I hq
theorem pe_ints {es : List Expr} {ns : List Int} {pos : Pos} (h : intsOf es = some ns) : PE X (.List es pos) (tInts ns) := by
  intro pins s σ H Q I hq
  refine pe_lst (pa_ints h) pins s σ H Q I ?_
  obtain ⟨h1, h2⟩ := hq
  exact ⟨by rw [List.length_map]; exact h1, h2⟩
end
end L2
set_option Elab.async false
set_option linter.all false
set_option maxRecDepth 100000
set_option maxHeartbeats 1000000
/-! for k, v in d.items(), in a loop and in a comprehension: the dict is frozen from then on -/
namespace L2
open PySem PySem.Spec PyProof.Rows PySem.W
def Itd (d : Addr) (ob : Obj) (kvs : List (Key × V)) : It :=
  ⟨fun i H => i < kvs.length ∧ H d = some (.frz ob (.dK kvs)),
   fun i H v H' => ∃ p k x, H p = none ∧ kvs[i]? = some (k, x) ∧ v = .ref p ∧ H' = upd H p (.tup [kV k, x]),
   fun i H => kvs.length ≤ i ∧ H d = some (.frz ob (.dK kvs))⟩
theorem kV_of {P : Program} {w : World} {k : Key} {u : Value} (h : (mixKind P w).is k u = true) : RelV (kV k) u := by
  rcases keyIs_shape h with ⟨i, t, rfl, rfl⟩ | ⟨x, t, rfl, rfl⟩
  · exact ⟨t, rfl⟩
  · exact ⟨t, rfl⟩
theorem KV.at {kvs : List (Key × V)} {vs : List (Key × Value)} (r : KV kvs vs) : ∀ {i : Nat} {k : Key} {x : V}, kvs[i]? = some (k, x) → ∃ u, vs[i]? = some (k, u) ∧ RelV x u := by
  induction r with
  | nil => intro i k x e; simp at e
  | @cons a b l1 l2 h t ih =>
    intro i k x e
    match i with
    | 0 =>
      rw [List.getElem?_cons_zero] at e
      cases e
      obtain ⟨h1, h2⟩ := h
      exact ⟨b.2, by rw [List.getElem?_cons_zero]; exact congrArg some (Prod.ext h1.symm rfl), h2⟩
    | i + 1 =>
      rw [List.getElem?_cons_succ] at e
      obtain ⟨u, h1, h2⟩ := ih e
      exact ⟨u, by rw [List.getElem?_cons_succ]; exact h1, h2⟩
theorem frz_at {X : Cx} {pins : List (Addr × Obj)} {σ : St} {H : Hp} {s : Shared} {d : Addr} {ob : Obj} {kvs : List (Key × V)} {es : Array DictEntry} {ep : Nat} (I : Inv X pins σ H s) (hd : H d = some (.frz ob (.dK kvs))) (he : ob.data = .dict es ep) :
    ∃ vs, KV kvs vs ∧ s.heap.DictAt (mixKind X.prog X.w) d vs ep := by
  obtain ⟨h1, _, _, vs, rel, o, es', ep', g1, g2, g3, g4⟩ := (show ObjOk X.prog X.w H s.heap d (.frz ob (.dK kvs)) from I.hok d _ hd)
  rw [h1] at g1
  cases g1
  rw [he] at g3
  cases g3
  exact ⟨vs, rel, ob, es, h1, g2, he, g4⟩
theorem turn_items {P : Program} {w : World} {K : PySem.W.Frag} {elts : List Expr} {k0} {tp : Pos} (it d : Addr) (ob : Obj) (kvs : List (Key × V)) (es : Array DictEntry) (ep : Nat) (he : ob.data = .dict es ep) :
    Turn P w K (.Tuple elts k0 tp) (Itd d ob kvs) [it] it (fun i h => ∃ ok ov, IsItemIter h it d i kvs.length ep ok ov) where
  mem := by simp
  obj := fun i h st c hc => by
    obtain ⟨ok, ov, hz⟩ := st
    have hc : c = it := by simpa using hc
    subst hc
    exact ⟨_, hz, fun v q => by cases q⟩
  keep := fun i h h' st k => by
    obtain ⟨ok, ov, hz⟩ := st
    exact ⟨ok, ov, k it (by simp) _ hz⟩
  item := by
    intro X hP hw hK hc i pins s σ H E I hf st hg
    subst hP hw hK
    obtain ⟨ok, ov, hit⟩ := st
    obtain ⟨hi, hd⟩ := hg
    obtain ⟨vs, rel, hm⟩ := frz_at I hd he
    have hx : kvs[i]? = some (kvs[i].1, kvs[i].2) := List.getElem?_eq_getElem hi
    obtain ⟨u, hu, ru⟩ := rel.at hx
    have lit : it < s.heap.objs.size := Heap.lt_size hit
    rw [rel.length] at hit ⊢
    refine wpAny_pyNext_items_item hit hm hu fun key h' hkey hout htup hsz hk => ⟨.ref s.heap.objs.size, rfl, ?_⟩
    refine wpAny_letOwnedTupleGo_items hout fun g hit2 sb => ?_
    have sb : Heap.SameBut it h' g := sb
    have k2 : ∀ c o, c ∉ [it] → s.heap.get? c = some o → g.get? c = some o := fun c o hc q => by
      have hc : ¬ c = it := by simpa using hc
      exact (sb.2 c hc).trans (hk c o hc q)
    have nH : H s.heap.objs.size = none := I.hok.fresh (Nat.le_refl _)
    have nA : NewAt X pins H s.heap.objs.size := I.newAt (by cases e : s.heap.get? s.heap.objs.size with | none => rfl | some o => exact absurd (Heap.lt_size e) (Nat.lt_irrefl _))
    have I1 : Inv X pins σ H { s with heap := g } := I.poked k2 fun c hc => hf c (by simpa using hc)
    have I2 : Inv X pins σ (upd H s.heap.objs.size (.tup [kV kvs[i].1, kvs[i].2])) { s with heap := g } := I1.track nA ⟨by show 2 ≤ sizeLine; decide, [key, u], .cons (kV_of hkey) (.cons ru .nil), _, (sb.2 _ (Nat.ne_of_gt lit)).trans htup, rfl, _, rfl⟩
    refine ⟨.ref s.heap.objs.size, _, I2, rfl, ⟨_, _, _, nH, hx, rfl, rfl⟩, ⟨_, _, hit2⟩, fun c hc => ?_⟩
    have hc' : c = it := by simpa using hc
    rw [upd_ne (by rw [hc']; exact Nat.ne_of_lt lit)]
    exact (hf c hc).1
  done := by
    intro X hP hw hK hc i pins s σ H E I hf st hg
    subst hP hw hK
    obtain ⟨ok, ov, hit⟩ := st
    obtain ⟨hi, hd⟩ := hg
    obtain ⟨vs, rel, hm⟩ := frz_at I hd he
    rw [rel.length] at hit
    refine wpAny_pyNext_items_end (I.ok.hd hc) hit hm (List.getElem?_eq_none (by rw [← rel.length]; exact hi)) fun g hk => ⟨rfl, I.poked (ch := [it]) (fun c o hc q => hk c o (by simpa using hc) q) fun c hc => hf c (by simpa using hc)⟩
  self := fun _ _ _ _ _ st h => by
    obtain ⟨ok, ov, hit⟩ := st
    exact kcp_self hit h
def iItems (to : TE) : TI := fun σ H R => to σ H fun x H1 => ∃ d kvs, x = .ref d ∧ H1 d = some (.dK kvs) ∧ ∀ ob, R (Itd d ob kvs) (upd H1 d (.frz ob (.dK kvs)))
section
variable {X : Cx} {elts : List Expr} {k0} {tp : Pos}
theorem pi_items {o : Expr} {to : TE} {apos cpos : Pos} (ho : PE X o to) (hbase : attributeBase o "items" X.env (eval o X.env) = eval o X.env := by rfl) (hline : (apos.endLine == cpos.line) = true := by rfl) :
    PI X (.Tuple elts k0 tp) (.Call (.Attribute o "items" apos) [] [] cpos) (iItems to) := by
  intro pins s σ H R I h
  refine wpAny_Call_method0_late hbase hline (thn (ho pins s σ H _ I h) fun v s1 ⟨x, H1, I1, r1, d, kvs, ex, hd, q⟩ => ?_)
  subst ex
  cases r1
  obtain ⟨z, hsys, vs, rel, ob, es, ep, g1, g2, g3, g4⟩ := dk_of I1.hok hd
  have dd : s1.heap.DictOf (mixKind X.prog X.w) d vs := ⟨ob, es, ep, g1, g2, g3, g4⟩
  have da : s1.heap.DictAt (mixKind X.prog X.w) d vs ep := ⟨ob, es, g1, g2, g3, g4⟩
  refine ⟨"dict", _, PySem.F.plainAttrs_dict, PySem.F.slot_dict_items, PySem.F.type_dict_items, dd.typeIs, fun b e => ?_, Calls.callWith_builtin rfl (PySem.evalArgs_none ?_)⟩
  · cases e
    exact ⟨ob, g1, g2.2.1⟩
  refine call_meetsIn PySem.F.slot_dict_items dd.typeIs PySem.F.entry_dict_items (PySem.F.args_dict_items_1 _) (meets_dict_items (mixKind X.prog X.w) d hsys) ⟨⟨vs, dd⟩, ?_⟩
  refine wpAny_pyIter_items (ep := ep) (s := { s1 with heap := s1.heap.push { cls := .type "dict_items", data := .fields #[.ref d] } }) ⟨_, Heap.get?_push_size _ rfl, rfl, rfl⟩ (da.push _) ?_
  generalize eh : (s1.heap.push { cls := .type "dict_items", data := .fields #[.ref d] }) = h1
  have z1 : h1.objs.size = s1.heap.objs.size + 1 := by rw [← eh]; exact Heap.size_push ..
  have k1 : ∀ b u, s1.heap.get? b = some u → (h1.push { cls := .type "dict_itemiterator", data := .fields #[.none, .bool false, .ref d, .int 0 0, .int vs.length 0, .int ep 0, .none, .none] }).get? b = some u := fun b u e => Heap.get?_push_of_some _ (by rw [← eh]; exact Heap.get?_push_of_some _ e)
  have I2 : Inv X pins σ H1 { s1 with heap := h1.push { cls := .type "dict_itemiterator", data := .fields #[.none, .bool false, .ref d, .int 0 0, .int vs.length 0, .int ep 0, .none, .none] } } := I1.kept (t' := s1.toks) k1
  have g1' := k1 _ _ g1
  have I3 : Inv X pins σ (upd H1 d (.frz ob (.dK kvs))) { s1 with heap := h1.push { cls := .type "dict_itemiterator", data := .fields #[.none, .bool false, .ref d, .int 0 0, .int vs.length 0, .int ep 0, .none, .none] } } :=
    d_write (s := { s1 with heap := h1.push { cls := .type "dict_itemiterator", data := .fields #[.none, .bool false, .ref d, .int 0 0, .int vs.length 0, .int ep 0, .none, .none] } }) (h' := h1.push { cls := .type "dict_itemiterator", data := .fields #[.none, .bool false, .ref d, .int 0 0, .int vs.length 0, .int ep 0, .none, .none] }) (t' := s1.toks) I2 (by rw [hd]; exact True.intro) ⟨rfl, fun b _ => rfl⟩ ⟨_, g1'⟩ ⟨g1', z, hsys, vs, rel, ob, es, ep, g1', g2, g3, g4⟩
  refine ⟨h1.objs.size, [h1.objs.size], _, Itd d ob kvs, _, rfl, I3, turn_items _ d ob kvs es ep g3, ⟨.none, .none, ?_⟩, fun b hb => ?_, q ob⟩
  · rw [rel.length]
    exact Heap.get?_push_size _ rfl
  · have hb : b = h1.objs.size := by simpa using hb
    have hge : s1.heap.objs.size ≤ b := by rw [hb, z1]; exact Nat.le_succ _
    refine I1.fpOk hge ?_
    rw [upd_ne (fun e => by rw [e] at hge; exact absurd (Nat.lt_of_lt_of_le (Heap.lt_size g1) hge) (Nat.lt_irrefl _))]
    exact I1.hok.fresh hge
end
theorem comp_items {d : Addr} {ob : Obj} {kvs : List (Key × V)} {cap : List (Option Nat)} {g : TG} {tt : TT} {te : TE} {σ : St} {H : Hp} {Q : VK} (hm : kvs.length ≤ sizeLine) (Pv : Nat → List V → St → Hp → Prop) (h0 : Pv 0 [] (capS cap σ) H)
    (hl : ∀ i ys σ H, Pv i ys σ H → i ≤ kvs.length ∧ ys.length ≤ i ∧ H d = some (.frz ob (.dK kvs)))
    (hs : ∀ i k x ys σ H p, kvs[i]? = some (k, x) → Pv i ys σ H → H p = none → g (.ref p) σ (upd H p (.tup [kV k, x])) fun σ2 H2 => tt σ2 H2 fun b H3 => if b = true then te σ2 H3 fun v H4 => Pv (i + 1) (ys ++ [v]) σ2 H4 else Pv (i + 1) ys σ2 H3)
    (hd : ∀ ys σ H, Pv kvs.length ys σ H → ∀ D, H D = none → Q (.ref D) (upd H D (.lst ys))) :
    CompR cap g tt te σ Q (Itd d ob kvs) H := by
  refine ⟨kvs.length, Pv, hm, h0, fun i ys σ' H p => ?_⟩
  obtain ⟨h1, h2, h3⟩ := hl i ys σ' H p
  refine ⟨h1, h2, ?_⟩
  by_cases hi : i < kvs.length
  · refine .inr ⟨⟨hi, h3⟩, hi, fun x H' ⟨r, k, u, hr, hk, ex, eH⟩ => ?_⟩
    subst ex eH
    exact hs i k u ys σ' H r hk p hr
  · have : i = kvs.length := by omega
    subst this
    exact .inl ⟨⟨Nat.le_refl _, h3⟩, hd ys σ' H p⟩
theorem for_items {d : Addr} {ob : Obj} {kvs : List (Key × V)} {g : TG} {tb : TS} {D : Ends} {σ : St} {H : Hp} (Pv : Nat → St → Hp → Prop) (h0 : Pv 0 σ H) (hl : ∀ i σ H, i ≤ kvs.length → Pv i σ H → H d = some (.frz ob (.dK kvs)))
    (hs : ∀ i k x σ H p, kvs[i]? = some (k, x) → Pv i σ H → H p = none → g (.ref p) σ (upd H p (.tup [kV k, x])) fun σ2 H2 => tb { D with nx := Pv (i + 1), ct := Pv (i + 1), bk := D.nx } σ2 H2) (hd : ∀ σ H, Pv kvs.length σ H → D.nx σ H) :
    ∃ W : Nat → Nat → St → Hp → Prop, (∃ m, W 0 m σ H) ∧ ∀ i m σ H, W i m σ H →
      ((Itd d ob kvs).stop i H ∧ D.nx σ H) ∨ ((Itd d ob kvs).go i H ∧ ∃ N : St → Hp → Prop, (∀ σ' H', N σ' H' → ∃ m', m' < m ∧ W (i + 1) m' σ' H') ∧ ∀ x H', (Itd d ob kvs).yld i H x H' → g x σ H' fun σ2 H2 => tb { D with nx := N, ct := N, bk := D.nx } σ2 H2) := by
  refine ⟨fun i m σ H => i ≤ kvs.length ∧ m = kvs.length - i ∧ Pv i σ H, ⟨_, Nat.zero_le _, rfl, h0⟩, fun i m σ H ⟨h1, h2, h3⟩ => ?_⟩
  have q1 := hl i σ H h1 h3
  by_cases hi : i < kvs.length
  · refine .inr ⟨⟨hi, q1⟩, Pv (i + 1), fun σ' H' p => ⟨kvs.length - (i + 1), by omega, by omega, rfl, p⟩, fun x H' ⟨p, k, u, hp, hk, ex, eH⟩ => ?_⟩
    subst ex eH
    exact hs i k u σ H p hk h3 hp
  · have : i = kvs.length := by omega
    subst this
    exact .inl ⟨⟨Nat.le_refl _, q1⟩, hd σ H h3⟩
end L2
set_option Elab.async false
set_option linter.all false
set_option maxRecDepth 100000
set_option maxHeartbeats 1000000
/-! two dicts with the same pairs are equal -/
namespace PySem
open Sem (wp)
open PySem.Spec PyProof.Rows
section
variable {prog : Program} {w : World} {K : Type} [DecidableEq K] {knd : KeyKind prog w K} {A : Around} {E : Value → Shared → Prop} {s : Shared}
end
end PySem
namespace L2
open PySem PySem.Spec PyProof.Rows PySem.W
section
variable {X : Cx}
end
/-! ### for k in d -/
def Itk (d : Addr) (ob : Obj) (kvs : List (Key × V)) : It :=
  ⟨fun i H => i < kvs.length ∧ H d = some (.frz ob (.dK kvs)),
   fun i H v H' => ∃ k x, kvs[i]? = some (k, x) ∧ v = kV k ∧ H' = H,
   fun i H => kvs.length ≤ i ∧ H d = some (.frz ob (.dK kvs))⟩
theorem turn_keys {P : Program} {w : World} {K : PySem.W.Frag} {x : Str} {np : Pos} (it d : Addr) (ob : Obj) (kvs : List (Key × V)) (es : Array DictEntry) (ep : Nat) (he : ob.data = .dict es ep) :
    Turn P w K (.Name x np) (Itk d ob kvs) [it] it (fun i h => h.IsKeyIter it d i kvs.length ep) where
  mem := by simp
  obj := fun i h st c hc => by
    obtain ⟨o, ho, hc', hd⟩ := st
    have hc : c = it := by simpa using hc
    subst hc
    exact ⟨_, ho, fun v q => by rw [hd] at q; cases q⟩
  keep := fun i h h' st k => by
    obtain ⟨o, ho, r⟩ := st
    exact ⟨o, k it (by simp) _ ho, r⟩
  item := by
    intro X hP hw hK hc i pins s σ H E I hf st hg
    subst hP hw hK
    obtain ⟨hi, hd⟩ := hg
    obtain ⟨vs, rel, hm⟩ := frz_at I hd he
    have hx : kvs[i]? = some (kvs[i].1, kvs[i].2) := List.getElem?_eq_getElem hi
    obtain ⟨u, hu, ru⟩ := rel.at hx
    rw [rel.length] at st ⊢
    refine wpAny_pyNext_dict_item st hm hu fun key h' hkey hit2 sb => ⟨key, rfl, ?_⟩
    have sb : Heap.SameBut it s.heap h' := sb
    have I1 : Inv X pins σ H { s with heap := h' } := I.poked (ch := [it]) (fun c o hc q => (sb.2 c (by simpa using hc)).trans q) fun c hc => hf c (by simpa using hc)
    obtain ⟨o2, ho2, hc2, hd2⟩ := id hit2
    exact go_of (s := { s with heap := h' }) ho2 hc2 hd2 (by decide) ⟨kV kvs[i].1, H, I1, kV_of hkey, ⟨_, _, hx, rfl, rfl⟩, hit2, fun c hc => (hf c hc).1⟩
  done := by
    intro X hP hw hK hc i pins s σ H E I hf st hg
    subst hP hw hK
    obtain ⟨hi, hd⟩ := hg
    obtain ⟨vs, rel, hm⟩ := frz_at I hd he
    rw [rel.length] at st
    refine wpAny_pyNext_dict_end (I.ok.hd hc) st hm (List.getElem?_eq_none (by rw [← rel.length]; exact hi)) fun g hk => ⟨rfl, I.poked (ch := [it]) (fun c o hc q => hk c o (by simpa using hc) q) fun c hc => hf c (by simpa using hc)⟩
  self := fun _ _ _ _ _ st h => wpAny_pyIter_keyiter st h
theorem comp_keys {d : Addr} {ob : Obj} {kvs : List (Key × V)} {cap : List (Option Nat)} {g : TG} {tt : TT} {te : TE} {σ : St} {H : Hp} {Q : VK} (hm : kvs.length ≤ sizeLine) (Pv : Nat → List V → St → Hp → Prop) (h0 : Pv 0 [] (capS cap σ) H)
    (hl : ∀ i ys σ H, Pv i ys σ H → i ≤ kvs.length ∧ ys.length ≤ i ∧ H d = some (.frz ob (.dK kvs)))
    (hs : ∀ i k x ys σ H, kvs[i]? = some (k, x) → Pv i ys σ H → g (kV k) σ H fun σ2 H2 => tt σ2 H2 fun b H3 => if b = true then te σ2 H3 fun v H4 => Pv (i + 1) (ys ++ [v]) σ2 H4 else Pv (i + 1) ys σ2 H3)
    (hd : ∀ ys σ H, Pv kvs.length ys σ H → ∀ D, H D = none → Q (.ref D) (upd H D (.lst ys))) :
    CompR cap g tt te σ Q (Itk d ob kvs) H := by
  refine ⟨kvs.length, Pv, hm, h0, fun i ys σ' H p => ?_⟩
  obtain ⟨h1, h2, h3⟩ := hl i ys σ' H p
  refine ⟨h1, h2, ?_⟩
  by_cases hi : i < kvs.length
  · refine .inr ⟨⟨hi, h3⟩, hi, fun x H' ⟨k, u, hk, ex, eH⟩ => ?_⟩
    subst ex eH
    exact hs i k u ys σ' _ hk p
  · have : i = kvs.length := by omega
    subst this
    exact .inl ⟨⟨Nat.le_refl _, h3⟩, hd ys σ' H p⟩
theorem for_keys {d : Addr} {ob : Obj} {kvs : List (Key × V)} {g : TG} {tb : TS} {D : Ends} {σ : St} {H : Hp} (Pv : Nat → St → Hp → Prop) (h0 : Pv 0 σ H) (hl : ∀ i σ H, i ≤ kvs.length → Pv i σ H → H d = some (.frz ob (.dK kvs)))
    (hs : ∀ i k x σ H, kvs[i]? = some (k, x) → Pv i σ H → g (kV k) σ H fun σ2 H2 => tb { D with nx := Pv (i + 1), ct := Pv (i + 1), bk := D.nx } σ2 H2) (hd : ∀ σ H, Pv kvs.length σ H → D.nx σ H) :
    ∃ W : Nat → Nat → St → Hp → Prop, (∃ m, W 0 m σ H) ∧ ∀ i m σ H, W i m σ H →
      ((Itk d ob kvs).stop i H ∧ D.nx σ H) ∨ ((Itk d ob kvs).go i H ∧ ∃ N : St → Hp → Prop, (∀ σ' H', N σ' H' → ∃ m', m' < m ∧ W (i + 1) m' σ' H') ∧ ∀ x H', (Itk d ob kvs).yld i H x H' → g x σ H' fun σ2 H2 => tb { D with nx := N, ct := N, bk := D.nx } σ2 H2) := by
  refine ⟨fun i m σ H => i ≤ kvs.length ∧ m = kvs.length - i ∧ Pv i σ H, ⟨_, Nat.zero_le _, rfl, h0⟩, fun i m σ H ⟨h1, h2, h3⟩ => ?_⟩
  have q1 := hl i σ H h1 h3
  by_cases hi : i < kvs.length
  · refine .inr ⟨⟨hi, q1⟩, Pv (i + 1), fun σ' H' p => ⟨kvs.length - (i + 1), by omega, by omega, rfl, p⟩, fun x H' ⟨k, u, hk, ex, eH⟩ => ?_⟩
    subst ex eH
    exact hs i k u σ _ hk h3
  · have : i = kvs.length := by omega
    subst this
    exact .inl ⟨⟨Nat.le_refl _, q1⟩, hd σ H h3⟩
end L2
set_option Elab.async false
set_option linter.all false
set_option maxRecDepth 100000
set_option maxHeartbeats 1000000
namespace L2
open PySem PySem.Spec PyProof.Rows
/-! ### a comprehension over a tuple; triples of whole numbers in lists -/
theorem ndp4 {a b c d : Str} (h1 : a ≠ b) (h2 : a ≠ c) (h3 : a ≠ d) (h4 : b ≠ c) (h5 : b ≠ d) (h6 : c ≠ d) : [a, b, c, d].Nodup := by simp [h1, h2, h3, h4, h5, h6]
theorem int_ne {a b : Int} (h : ¬ a = b) : ¬ (V.int a = V.int b) := fun z => h (by injection z)
abbrev T3 := Int × Int × Int
def trT (p : T3) : Tr := .tup [.flat (.int p.1), .flat (.int p.2.1), .flat (.int p.2.2)]
def tupT (p : T3) : HO := .tup [.int p.1, .int p.2.1, .int p.2.2]
/-- triples without their list -/
structure TI3 (H : Hp) (ts : List Addr) (ps : List T3) : Prop where
  len : ts.length = ps.length
  item : ∀ (i : Nat) t p, ts[i]? = some t → ps[i]? = some p → H t = some (tupT p)
/-- a list of triples -/
structure Ts (H : Hp) (w : Addr) (ts : List Addr) (ps : List T3) : Prop where
  top : H w = some (.lst (ts.map V.ref))
  it : TI3 H ts ps
theorem TI3.tups {H H' : Hp} {ts : List Addr} {ps : List T3} (h : TI3 H ts ps) (s : ∀ b xs, H b = some (.tup xs) → H' b = some (.tup xs)) : TI3 H' ts ps := ⟨h.len, fun i t p e1 e2 => s _ _ (h.item i t p e1 e2)⟩
theorem TI3.same {H H' : Hp} {ts : List Addr} {ps : List T3} (h : TI3 H ts ps) (s : Same H H') : TI3 H' ts ps := h.tups fun _ _ e => s _ _ e
theorem Ts.same {H H' : Hp} {w : Addr} {ts : List Addr} {ps : List T3} (h : Ts H w ts ps) (s : Same H H') : Ts H' w ts ps := ⟨s _ _ h.top, h.it.same s⟩
theorem Ts.holds {K : PySem.W.Frag} {H : Hp} {w : Addr} {ts : List Addr} {ps : List T3} (h : Ts H w ts ps) : Holds K H 2 (.ref w) (.lst (ps.map trT)) := by
  refine .lst (SqL.of h.top) (by simp [h.it.len]) fun i x t e1 e2 => ?_
  rw [List.getElem?_map] at e1 e2
  cases ea : ts[i]? with
  | none => rw [ea] at e1; cases e1
  | some ta =>
    cases ew : ps[i]? with
    | none => rw [ew] at e2; cases e2
    | some y =>
      rw [ea] at e1
      rw [ew] at e2
      cases e1
      cases e2
      exact holds_flats (xs := [.int y.1, .int y.2.1, .int y.2.2]) (SqT.of (h.it.item i ta y ea ew)) rfl
theorem TI3.nil {H : Hp} : TI3 H [] [] := ⟨rfl, fun i t p e => by simp at e⟩
theorem TI3.one {H : Hp} {t : Addr} {p : T3} (h : H t = some (tupT p)) : TI3 H [t] [p] := ⟨rfl, fun i t' p' e1 e2 => by
  match i with
  | 0 => cases e1; cases e2; exact h
  | i + 1 => simp at e1⟩
theorem TI3.app {H : Hp} {ts ts2 : List Addr} {ps ps2 : List T3} (x : TI3 H ts ps) (y : TI3 H ts2 ps2) : TI3 H (ts ++ ts2) (ps ++ ps2) := by
  refine ⟨by simp [x.len, y.len], fun i t z e0 e1 => ?_⟩
  rcases getApp x.len e0 with ⟨hi, e0⟩ | ⟨hi, e0⟩
  · rcases getApp (rfl : ps.length = ps.length) e1 with ⟨_, e1⟩ | ⟨h3, _⟩
    · exact x.item i t z e0 e1
    · exact absurd h3 (by omega)
  · rcases getApp (rfl : ps.length = ps.length) e1 with ⟨h3, _⟩ | ⟨_, e1⟩
    · exact absurd h3 (by omega)
    · exact y.item _ t z e0 e1
theorem TI3.add {H H' : Hp} {ts : List Addr} {ps : List T3} {t : Addr} {p : T3} (h : TI3 H ts ps) (s : ∀ b xs, H b = some (.tup xs) → H' b = some (.tup xs)) (ht : H' t = some (tupT p)) : TI3 H' (ts ++ [t]) (ps ++ [p]) := (h.tups s).app (.one ht)
/-! ### places that are not as they should be -/
end L2
set_option Elab.async false
set_option linter.all false
set_option maxRecDepth 100000
set_option maxHeartbeats 1000000
namespace L2
open PySem PySem.Spec PyProof.Rows PySem.W
/-! ### list(d), list(d.values()), any of bools, a list unpacked, a row in a list of rows -/
section
variable {X : Cx}
theorem vals_gets : ∀ {xs : List V} {us : List Value}, xs.length = us.length → (∀ (i : Nat) x u, xs[i]? = some x → us[i]? = some u → RelV x u) → Vals xs us
  | [], [], _, _ => .nil
  | x :: xs, u :: us, hl, h => .cons (h 0 x u rfl rfl) (vals_gets (by simpa using hl) fun i y v e1 e2 => h (i + 1) y v (by simpa using e1) (by simpa using e2))
end
/-! ### a list unpacked -/
section
variable {prog : Program} {w : World} {A : Around} {E : Value → Shared → Prop}
end
section
variable {X : Cx} {pos : Pos}
/-! ### a row in a list of rows -/
theorem map_int_inj {a b : List Int} (h : a.map V.int = b.map V.int) : a = b := by
  induction a generalizing b with
  | nil => cases b with | nil => rfl | cons => cases h
  | cons x r ih =>
    cases b with
    | nil => cases h
    | cons y t =>
      rw [List.map_cons, List.map_cons] at h
      injection h with h1 h2
      injection h1 with h1
      rw [h1, ih h2]
end
end L2
set_option Elab.async false
set_option linter.all false
set_option maxRecDepth 100000
set_option maxHeartbeats 1000000
/-! for x in d.values(): the dict is frozen from then on -/
namespace L2
open PySem PySem.Spec PyProof.Rows PySem.W
def Itw (d : Addr) (ob : Obj) (kvs : List (Key × V)) : It :=
  ⟨fun i H => i < kvs.length ∧ H d = some (.frz ob (.dK kvs)),
   fun i H v H' => ∃ k x, kvs[i]? = some (k, x) ∧ v = x ∧ H' = H,
   fun i H => kvs.length ≤ i ∧ H d = some (.frz ob (.dK kvs))⟩
theorem turn_values {P : Program} {w : World} {K : PySem.W.Frag} {tg : Expr} (it d : Addr) (ob : Obj) (kvs : List (Key × V)) (es : Array DictEntry) (ep : Nat) (he : ob.data = .dict es ep) :
    Turn P w K tg (Itw d ob kvs) [it] it (fun i h => h.IsValIter it d i kvs.length ep) where
  mem := by simp
  obj := fun i h st c hc => by
    obtain ⟨o, h1, _, h3⟩ := st
    have hc : c = it := by simpa using hc
    subst hc
    exact ⟨o, h1, fun v q => by rw [h3] at q; cases q⟩
  keep := fun i h h' st k => by
    obtain ⟨o, h1, h2⟩ := st
    exact ⟨o, k it (by simp) _ h1, h2⟩
  item := by
    intro X hP hw hK hc i pins s σ H E I hf st hg
    subst hP hw hK
    obtain ⟨hi, hd⟩ := hg
    obtain ⟨vs, rel, hm⟩ := frz_at I hd he
    have hx : kvs[i]? = some (kvs[i].1, kvs[i].2) := List.getElem?_eq_getElem hi
    obtain ⟨u, hu, ru⟩ := rel.at hx
    rw [rel.length] at st ⊢
    refine wpAny_pyNext_values_item st hm hu fun h' hit' sb => ⟨u, rfl, ?_⟩
    obtain ⟨o, g1, g2, g3⟩ := id hit'
    refine go_of (s := { s with heap := h' }) g1 g2 g3 (by decide) ?_
    have k2 : ∀ c o, c ∉ [it] → s.heap.get? c = some o → h'.get? c = some o := fun c o hc q => by
      have hc : ¬ c = it := by simpa using hc
      exact (sb.2 c hc).trans q
    exact ⟨kvs[i].2, H, I.poked k2 fun c hc => hf c (by simpa using hc), ru, ⟨_, _, hx, rfl, rfl⟩, hit', fun c hc => (hf c hc).1⟩
  done := by
    intro X hP hw hK hc i pins s σ H E I hf st hg
    subst hP hw hK
    obtain ⟨hi, hd⟩ := hg
    obtain ⟨vs, rel, hm⟩ := frz_at I hd he
    rw [rel.length] at st
    exact wpAny_pyNext_values_end (I.ok.hd hc) st hm (List.getElem?_eq_none (by rw [← rel.length]; exact hi)) fun g hk => ⟨rfl, I.poked (ch := [it]) (fun c o hc q => hk c o (by simpa using hc) q) fun c hc => hf c (by simpa using hc)⟩
  self := fun _ _ _ _ _ st h => wpAny_pyIter_valiter st h
def iValues (to : TE) : TI := fun σ H R => to σ H fun x H1 => ∃ d kvs, x = .ref d ∧ H1 d = some (.dK kvs) ∧ ∀ ob, R (Itw d ob kvs) (upd H1 d (.frz ob (.dK kvs)))
section
variable {X : Cx} {tg : Expr}
theorem pi_values {o : Expr} {to : TE} {apos cpos : Pos} (ho : PE X o to) (hbase : attributeBase o "values" X.env (eval o X.env) = eval o X.env := by rfl) (hline : (apos.endLine == cpos.line) = true := by rfl) :
    PI X tg (.Call (.Attribute o "values" apos) [] [] cpos) (iValues to) := by
  intro pins s σ H R I h
  refine wpAny_Call_method0_late hbase hline (thn (ho pins s σ H _ I h) fun v s1 ⟨x, H1, I1, r1, d, kvs, ex, hd, q⟩ => ?_)
  subst ex
  cases r1
  obtain ⟨z, hsys, vs, rel, ob, es, ep, g1, g2, g3, g4⟩ := dk_of I1.hok hd
  have dd : s1.heap.DictOf (mixKind X.prog X.w) d vs := ⟨ob, es, ep, g1, g2, g3, g4⟩
  have da : s1.heap.DictAt (mixKind X.prog X.w) d vs ep := ⟨ob, es, g1, g2, g3, g4⟩
  refine ⟨"dict", _, PySem.F.plainAttrs_dict, PySem.F.slot_dict_values, PySem.F.type_dict_values, dd.typeIs, fun b e => ?_, Calls.callWith_builtin rfl (PySem.evalArgs_none ?_)⟩
  · cases e
    exact ⟨ob, g1, g2.2.1⟩
  refine call_meetsIn PySem.F.slot_dict_values dd.typeIs PySem.F.entry_dict_values (PySem.F.args_dict_values_1 _) (meets_dict_values (mixKind X.prog X.w) d hsys) ⟨⟨vs, dd⟩, ?_⟩
  refine wpAny_pyIter_values (ep := ep) (s := { s1 with heap := s1.heap.push { cls := .type "dict_values", data := .fields #[.ref d] } }) ⟨_, Heap.get?_push_size _ rfl, rfl, rfl⟩ (da.push _) ?_
  generalize eh : (s1.heap.push { cls := .type "dict_values", data := .fields #[.ref d] }) = h1
  have z1 : h1.objs.size = s1.heap.objs.size + 1 := by rw [← eh]; exact Heap.size_push ..
  have k1 : ∀ b u, s1.heap.get? b = some u → (h1.push { cls := .type "dict_valueiterator", data := .fields #[.ref d, .int 0 0, .int vs.length 0, .int ep 0] }).get? b = some u := fun b u e => Heap.get?_push_of_some _ (by rw [← eh]; exact Heap.get?_push_of_some _ e)
  have I2 : Inv X pins σ H1 { s1 with heap := h1.push { cls := .type "dict_valueiterator", data := .fields #[.ref d, .int 0 0, .int vs.length 0, .int ep 0] } } := I1.kept (t' := s1.toks) k1
  have g1' := k1 _ _ g1
  have I3 : Inv X pins σ (upd H1 d (.frz ob (.dK kvs))) { s1 with heap := h1.push { cls := .type "dict_valueiterator", data := .fields #[.ref d, .int 0 0, .int vs.length 0, .int ep 0] } } :=
    d_write (s := { s1 with heap := h1.push { cls := .type "dict_valueiterator", data := .fields #[.ref d, .int 0 0, .int vs.length 0, .int ep 0] } }) (h' := h1.push { cls := .type "dict_valueiterator", data := .fields #[.ref d, .int 0 0, .int vs.length 0, .int ep 0] }) (t' := s1.toks) I2 (by rw [hd]; exact True.intro) ⟨rfl, fun b _ => rfl⟩ ⟨_, g1'⟩ ⟨g1', z, hsys, vs, rel, ob, es, ep, g1', g2, g3, g4⟩
  refine ⟨h1.objs.size, [h1.objs.size], _, Itw d ob kvs, _, rfl, I3, turn_values _ d ob kvs es ep g3, ?_, fun b hb => ?_, q ob⟩
  · rw [rel.length]
    exact ⟨_, Heap.get?_push_size _ rfl, rfl, rfl⟩
  · have hb : b = h1.objs.size := by simpa using hb
    have hge : s1.heap.objs.size ≤ b := by rw [hb, z1]; exact Nat.le_succ _
    refine I1.fpOk hge ?_
    rw [upd_ne (fun e => by rw [e] at hge; exact absurd (Nat.lt_of_lt_of_le (Heap.lt_size g1) hge) (Nat.lt_irrefl _))]
    exact I1.hok.fresh hge
end
end L2
set_option Elab.async false
set_option linter.all false
set_option maxRecDepth 100000
set_option maxHeartbeats 1000000
/-! o[i] of a list by values, for o[i] op= e -/
namespace L2
open PySem PySem.Spec PyProof.Rows PySem.W
variable {X : Cx}
end L2
set_option Elab.async false
set_option linter.all false
set_option maxRecDepth 100000
set_option maxHeartbeats 1000000
/-! sorted of a dict with whole numbers as keys; a tuple of whole numbers in a list of such -/
namespace L2
open PySem PySem.Spec PyProof.Rows PySem.W
section
variable {X : Cx}
structure RsT (H : Hp) (v : Addr) (as : List Addr) (rows : List (List Int)) : Prop where
  top : H v = some (.lst (as.map V.ref))
  len : as.length = rows.length
  row : ∀ (i : Nat) a r, as[i]? = some a → rows[i]? = some r → H a = some (.tup (r.map V.int))
theorem RsT.same {H H' : Hp} {v : Addr} {as : List Addr} {rows : List (List Int)} (h : RsT H v as rows) (s : Same H H') : RsT H' v as rows := ⟨s _ _ h.top, h.len, fun i a r e1 e2 => s _ _ (h.row i a r e1 e2)⟩
def isTupI (H : Hp) (ms : List Int) : Value → Bool
  | .ref b => (match H b with | some (.tup l) => decide (l = ms.map V.int) | _ => false)
  | _ => false
theorem isTupI_of {H : Hp} {b : Addr} {r ms : List Int} (h : H b = some (.tup (r.map V.int))) : isTupI H ms (.ref b) = decide (r = ms) := by
  show (match H b with | some (.tup l) => decide (l = ms.map V.int) | _ => false) = _
  rw [h]
  show decide (r.map V.int = ms.map V.int) = _
  by_cases e : r = ms
  · subst e; simp
  · rw [decide_eq_false e]
    exact decide_eq_false fun z => e (map_int_inj z)
theorem eqT_U (r ms : List Int) : eqT (.tup ((r.map V.int).map .flat)) (.tup ((ms.map V.int).map .flat)) = decide (r = ms) := by
  have h := eqT_I r ms
  unfold trI at h
  have e : ∀ l : List Int, (l.map V.int).map Tr.flat = l.map fun i => Tr.flat (.int i) := fun l => by rw [List.map_map]; rfl
  rw [e, e, ← h]
  simp only [L2.eqT]
theorem tup_all_ints (ns : List Int) : (ns.map V.int).all flatV = true := by
  rw [List.all_map, List.all_eq_true]
  intro x _
  rfl
def rInTups (neg : Bool) : R2 := fun x y H Q => ∃ (a p : Addr) (ms : List Int) (as : List Addr) (rows : List (List Int)), x = .ref a ∧ y = .ref p ∧ H a = some (.tup (ms.map V.int)) ∧ RsT H p as rows ∧ Q (.bl (if neg then !decide (ms ∈ rows) else decide (ms ∈ rows))) H
theorem inTups_core {pins : List (Addr × Obj)} {σ : St} {H : Hp} {s : Shared} (hu : X.A.units + 60 < cLine) (I : Inv X pins σ H s) {a p : Addr} {ms : List Int} {as : List Addr} {rows : List (List Int)} (ha : H a = some (.tup (ms.map V.int))) (hR : RsT H p as rows) :
    ∃ its : List Value, s.heap.IsList p its.toArray ∧ (∀ y, y ∈ its.toArray → SeqAt.EqAt X.A.in1 s y (.ref a) (isTupI H ms y)) ∧ its.toArray.any (isTupI H ms) = decide (ms ∈ rows) := by
  obtain ⟨its, r, pl, hz⟩ := I.list (SqL.of (K := X.K) hR.top)
  have el : as.length = its.length := by have := r.length; rw [List.length_map] at this; exact this
  have find : ∀ u ∈ its, ∃ (i : Nat) (b : Addr) (r' : List Int), u = Value.ref b ∧ rows[i]? = some r' ∧ H b = some (.tup (r'.map V.int)) := fun u hm => by
    obtain ⟨i, hi, e⟩ := List.getElem_of_mem hm
    have hi' : i < as.length := by omega
    have hi2 : i < rows.length := by rw [← hR.len]; exact hi'
    obtain ⟨u', h1, h2⟩ := r.get (i := i) (x := .ref as[i]) (by rw [List.getElem?_map, List.getElem?_eq_getElem hi']; rfl)
    rw [List.getElem?_eq_getElem hi, e] at h1
    cases h1
    cases h2
    exact ⟨i, _, rows[i], rfl, List.getElem?_eq_getElem hi2, hR.row i _ _ (List.getElem?_eq_getElem hi') (List.getElem?_eq_getElem hi2)⟩
  refine ⟨its, pl.isList, fun u hu' => ?_, ?_⟩
  · obtain ⟨i, b, r', rfl, er, hb⟩ := find u (by simpa using hu')
    rw [isTupI_of hb, ← eqT_U]
    exact eqAt_T I (holds_flats (n := 0) (SqT.of hb) (tup_all_ints r')) (holds_flats (n := 0) (SqT.of ha) (tup_all_ints ms)) rfl rfl (by have e1 : X.A.in1.units = X.A.units + 1 := rfl; omega)
  · rw [show its.toArray.any (isTupI H ms) = its.any (isTupI H ms) by simp]
    by_cases hin : ms ∈ rows
    · rw [decide_eq_true hin, List.any_eq_true]
      obtain ⟨i, hi, e⟩ := List.getElem_of_mem hin
      have hi' : i < as.length := by rw [hR.len]; exact hi
      obtain ⟨u', h1, h2⟩ := r.get (i := i) (x := .ref as[i]) (by rw [List.getElem?_map, List.getElem?_eq_getElem hi']; rfl)
      cases h2
      refine ⟨_, List.mem_of_getElem? h1, ?_⟩
      rw [isTupI_of (hR.row i _ _ (List.getElem?_eq_getElem hi') (List.getElem?_eq_getElem hi))]
      exact decide_eq_true e
    · rw [decide_eq_false hin, List.any_eq_false]
      intro u hm z
      obtain ⟨i, b, r', rfl, er, hb⟩ := find u hm
      rw [isTupI_of hb] at z
      exact hin (by rw [← of_decide_eq_true z]; exact List.mem_of_getElem? er)
theorem op_inTups (hu : X.A.units + 60 < cLine) : OpR X (compareOp .In) (rInTups false) := by
  intro pins s σ H x y v u Q I rx ry h
  obtain ⟨a, p, ms, as, rows, rfl, rfl, ha, hR, q⟩ := h
  cases rx
  cases ry
  obtain ⟨its, h1, h2, h3⟩ := inTups_core hu I ha hR
  refine SeqAt.in_listAt (isTupI H ms) h1 h2 ⟨.bl _, H, I, rfl, ?_⟩
  rw [h3]
  exact q
end
end L2
set_option Elab.async false
set_option linter.all false
set_option maxRecDepth 100000
set_option maxHeartbeats 1000000
/-! sorted(l, key=f): whatever stays true through the calls of f and sorted's own writes -/
namespace L2
open PySem PySem.Spec PyProof.Rows PySem.W

/-- stays true while sorted works on its own objects, which lie at n₀ or behind it -/
structure Stays (n₀ : Nat) (J : Shared → Prop) : Prop where
  size : ∀ s, J s → n₀ ≤ s.heap.objs.size
  push : ∀ (s : Shared) o, J s → J { s with heap := s.heap.push o }
  upd : ∀ (s : Shared) (a : Addr) (f : Obj → Obj), n₀ ≤ a → J s → J { s with heap := s.heap.update a f }

section
variable {prog : Program} {w : World} {A : Around} {E : Value → Shared → Prop} {s : Shared} {a kS : Addr} {vs : List Value} {kz : List Int} {keys : Array Value} {e e1 : Nat} {P : PySem.Fin → Shared → Prop} {n₀ : Nat} {J : Shared → Prop}

end

section
variable {prog : Program} {w : World} {A : Around} {E : Value → Shared → Prop} {s : Shared} {l : Addr} {vs : List Value} {kz : List Int} {Q : Value → Shared → Prop} {J : Shared → Prop}
end
end L2
set_option Elab.async false
set_option linter.all false
set_option maxRecDepth 100000
set_option maxHeartbeats 1000000
/-! a lambda of one parameter and one captured name, made and called from sorted -/
namespace L2
open PySem PySem.Spec PyProof.Rows PySem.W

section
variable {X : Cx} {pins : List (Addr × Obj)} {σ : St} {H : Hp} {s : Shared} {c P : Addr} {ps : Array Value} {params : Arguments} {body : Expr} {scope : Scope} {pos : Pos} {clos : List (Str × Addr)} {Q : Value → Shared → Prop}
end

structure LamScope (p c : Str) (sc : Scope) : Prop where
  kind : sc.kind = .function
  co : sc.isCoroutine = false
  gen : sc.isGenerator = false
  par : sc.names.lookup p = some .local
  cap : sc.names.lookup c = some .free
  nocell : ∀ x ∈ sc.names, x.2 ≠ .cell
  one : ∀ x ∈ sc.names, x.2 = .free → x.1 = c

section
variable {P : Program} {w : World} {K : PySem.W.Frag} {mg : Str → Option Value} {base : Heap} {A : Around} {outer : List Env} {s : Shared} {H : Hp} {name qual p c : Str} {params : Arguments} {body : Expr} {scope : Scope} {ca f c' : Addr} {pm ctv : Value} {t : TE} {Q : VK} {E : XK} {u uc : Value} {v vc : V}
end

section
variable {X : Cx} {pins : List (Addr × Obj)} {σ : St} {H : Hp}
/-- the state of a def stays through sorted's own writes -/
theorem Inv.stays {s : Shared} (I : Inv X pins σ H s) : Stays s.heap.objs.size (fun s' => Inv X pins σ H s' ∧ s.heap.objs.size ≤ s'.heap.objs.size) where
  size := fun s' j => j.2
  push := fun s' o j => ⟨j.1.kept (t' := s'.toks) fun b u e => Heap.get?_push_of_some _ e, by rw [Heap.size_push]; exact Nat.le_succ_of_le j.2⟩
  upd := fun s' a f la j => ⟨j.1.poked (ch := [a]) (fun b o hb e => ((Heap.SameBut.update s'.heap a f).2 b fun z => hb (by rw [z]; exact List.mem_singleton.mpr rfl)).trans e) fun b hb => by
      rw [List.mem_singleton.mp hb]
      exact I.fpOk la (I.hok.fresh la), by rw [Heap.size_update]; exact j.2⟩
end

section
variable {X : Cx} {e body : Expr} {te tb : TE} {params : Arguments} {scope : Scope} {lpos p kp pos : Pos} {c P : Addr} {pn cn : Str} {k : Nat}
end
end L2
set_option Elab.async false
set_option linter.all false
set_option maxRecDepth 100000
set_option maxHeartbeats 1000000
/-! sorted, as a tree of questions: whatever the order, what comes out is a rising permutation -/
namespace L2
open PySem PySem.Spec PyProof.Rows PySem.W

def KPath {α : Type} (lt : Nat → Nat → Bool) (n : Nat) : KasT α → (α → Prop) → Prop
  | .ret a, Q => Q a
  | .ask i j k, Q => i < n ∧ j < n ∧ KPath lt n (k (lt i j)) Q
section
variable {α β : Type} {lt : Nat → Nat → Bool} {n : Nat}
theorem kpath_bind {f : α → KasT β} {Q : β → Prop} : ∀ t : KasT α, KPath lt n t (fun a => KPath lt n (f a) Q) → KPath lt n (t.bind f) Q
  | .ret _, h => h
  | .ask i j k, h => ⟨h.1, h.2.1, kpath_bind (k (lt i j)) h.2.2⟩
theorem kpath_mono {Q Q' : α → Prop} (hq : ∀ a, Q a → Q' a) : ∀ t : KasT α, KPath lt n t Q → KPath lt n t Q'
  | .ret a, h => hq a h
  | .ask i j k, h => ⟨h.1, h.2.1, kpath_mono hq (k (lt i j)) h.2.2⟩
theorem kpath_wp {cmp : Nat → Nat → (Bool → Shared → Prop) → Shared → Prop} {s : Shared} {Q : α → Shared → Prop} (hc : ∀ i j C, i < n → j < n → C (lt i j) s → cmp i j C s) : ∀ t : KasT α, KPath lt n t (fun a => Q a s) → t.kasWp cmp Q s
  | .ret _, h => h
  | .ask i j k, h => hc i j _ h.1 h.2.1 (kpath_wp hc (k (lt i j)) h.2.2)
end

section
variable (z : Nat → Int)
abbrev zlt (i j : Nat) : Bool := decide (z i < z j)
def ky (p : Array Nat) (i : Nat) : Int := z ((p[i]?).getD 0)
def PermN (p : Array Nat) (n : Nat) : Prop := p.toList.Perm (List.range n)
def Up (p : Array Nat) (m : Nat) : Prop := ∀ i j, i ≤ j → j < m → ky z p i ≤ ky z p j
def Dn (p : Array Nat) (m : Nat) : Prop := ∀ i j, i ≤ j → j < m → ky z p j ≤ ky z p i
variable {z}
theorem getD_ky (p : Array Nat) (i : Nat) : p.getD i 0 = (p[i]?).getD 0 := by
  by_cases h : i < p.size
  · simp [Array.getD, h]
  · simp [Array.getD, h]
theorem ky_eq (p : Array Nat) (i : Nat) : z (p.getD i 0) = ky z p i := by rw [getD_ky]; rfl
theorem PermN.size {p : Array Nat} {n : Nat} (h : PermN p n) : p.size = n := by
  have := h.length_eq
  rw [Array.length_toList, List.length_range] at this
  exact this
theorem PermN.lt {p : Array Nat} {n i : Nat} (h : PermN p n) (hi : i < n) : p.getD i 0 < n := by
  have hs : i < p.size := by rw [h.size]; exact hi
  have e : p.getD i 0 = p[i] := by simp [Array.getD, hs]
  rw [e]
  exact List.mem_range.mp (h.mem_iff.mp (by simp))
theorem PermN.perm {p p' : Array Nat} {n : Nat} (h : PermN p n) (h' : p'.Perm p) : PermN p' n := h'.toList.trans h
theorem ky_rev {p : Array Nat} {i j : Nat} (hj : j ≤ p.size) (k : Nat) : ky z (kas_rev p i j) k = if i ≤ k ∧ k < j then ky z p (i + j - 1 - k) else ky z p k := by
  unfold ky kas_rev
  rw [getElem?_mirror_all hj]
  split <;> rfl
theorem rev_eq {p : Array Nat} {i j : Nat} (hj : j ≤ p.size) (h : ∀ k, i ≤ k → k < j → ky z p k = ky z p (j - 1)) (k : Nat) : ky z (kas_rev p i j) k = ky z p k := by
  rw [ky_rev hj]
  split
  · rw [h (i + j - 1 - k) (by omega) (by omega), h k (by omega) (by omega)]
  · rfl
theorem asc_ok {p : Array Nat} {n : Nat} (hp : PermN p n) : ∀ f m, 1 ≤ m → m + f = n → Up z p m → KPath (zlt z) n (kas_asc p f m) (fun r => m ≤ r ∧ r ≤ n ∧ Up z p r ∧ (r < n → ky z p r < ky z p (r - 1)))
  | 0, m, h1, h2, h3 => ⟨Nat.le_refl _, by omega, h3, fun h => by omega⟩
  | f + 1, m, h1, h2, h3 => by
    refine ⟨hp.lt (by omega), hp.lt (by omega), ?_⟩
    show KPath (zlt z) n (if decide (z (p.getD m 0) < z (p.getD (m - 1) 0)) = true then KasT.ret m else kas_asc p f (m + 1)) _
    rw [ky_eq (z := z), ky_eq (z := z)]
    by_cases c : ky z p m < ky z p (m - 1)
    · rw [if_pos (decide_eq_true c)]
      exact ⟨Nat.le_refl _, by omega, h3, fun _ => c⟩
    · rw [if_neg (by simpa using c)]
      refine kpath_mono (fun r hr => ⟨by omega, hr.2⟩) _ (asc_ok hp f (m + 1) (by omega) (by omega) fun i j hij hj => ?_)
      by_cases e : j = m
      · subst e
        by_cases e2 : i = j
        · rw [e2]; exact Int.le_refl _
        · have := h3 i (j - 1) (by omega) (by omega)
          omega
      · exact h3 i j hij (by omega)
theorem desc_ok {n : Nat} : ∀ f (p : Array Nat) m q, PermN p n → m + f = n → q + 1 ≤ m → Dn z p m → (∀ k, m - (q + 1) ≤ k → k < m → ky z p k = ky z p (m - 1)) →
    KPath (zlt z) n (kas_desc f p m q) (fun r => PermN r.1 n ∧ m ≤ r.2.1 ∧ r.2.1 ≤ n ∧ r.2.2 + 1 ≤ r.2.1 ∧ Dn z r.1 r.2.1 ∧ ∀ k, r.2.1 - (r.2.2 + 1) ≤ k → k < r.2.1 → ky z r.1 k = ky z r.1 (r.2.1 - 1))
  | 0, p, m, q, hp, h1, h2, h3, h4 => ⟨hp, Nat.le_refl _, (show m ≤ n by omega), h2, h3, h4⟩
  | f + 1, p, m, q, hp, h1, h2, h3, h4 => by
    have sz := hp.size
    have ext : ∀ p' : Array Nat, (∀ k, ky z p' k = ky z p k) → ky z p m ≤ ky z p (m - 1) → Dn z p' (m + 1) := fun p' he hc i j hij hj => by
      rw [he, he]
      by_cases e : j = m
      · subst e
        by_cases e2 : i = j
        · rw [e2]; exact Int.le_refl _
        · have := h3 i (j - 1) (by omega) (by omega)
          omega
      · exact h3 i j hij (by omega)
    have up : ∀ {t : KasT (Array Nat × Nat × Nat)}, KPath (zlt z) n t (fun r => PermN r.1 n ∧ m + 1 ≤ r.2.1 ∧ r.2.1 ≤ n ∧ r.2.2 + 1 ≤ r.2.1 ∧ Dn z r.1 r.2.1 ∧ ∀ k, r.2.1 - (r.2.2 + 1) ≤ k → k < r.2.1 → ky z r.1 k = ky z r.1 (r.2.1 - 1)) →
        KPath (zlt z) n t (fun r => PermN r.1 n ∧ m ≤ r.2.1 ∧ r.2.1 ≤ n ∧ r.2.2 + 1 ≤ r.2.1 ∧ Dn z r.1 r.2.1 ∧ ∀ k, r.2.1 - (r.2.2 + 1) ≤ k → k < r.2.1 → ky z r.1 k = ky z r.1 (r.2.1 - 1)) := fun {t} h => kpath_mono (fun r hr => ⟨hr.1, by omega, hr.2.2⟩) t h
    refine ⟨hp.lt (by omega), hp.lt (by omega), ?_⟩
    show KPath (zlt z) n (if decide (z (p.getD m 0) < z (p.getD (m - 1) 0)) = true then (if q > 0 then kas_desc f (kas_rev p (m - (q + 1)) m) (m + 1) 0 else kas_desc f p (m + 1) 0) else _) _
    rw [ky_eq (z := z), ky_eq (z := z)]
    by_cases c : ky z p m < ky z p (m - 1)
    · rw [if_pos (decide_eq_true c)]
      by_cases hq : q > 0
      · rw [if_pos hq]
        have he := rev_eq (z := z) (p := p) (i := m - (q + 1)) (j := m) (by omega) h4
        exact up (desc_ok f _ (m + 1) 0 (hp.perm (mirror_perm ..)) (by omega) (by omega) (ext _ he (by omega)) fun k hk1 hk2 => by rw [show k = m + 1 - 1 by omega])
      · rw [if_neg hq]
        exact up (desc_ok f p (m + 1) 0 hp (by omega) (by omega) (ext p (fun _ => rfl) (by omega)) fun k hk1 hk2 => by rw [show k = m + 1 - 1 by omega])
    · rw [if_neg (by simpa using c)]
      refine ⟨hp.lt (by omega), hp.lt (by omega), ?_⟩
      show KPath (zlt z) n (if decide (z (p.getD (m - 1) 0) < z (p.getD m 0)) = true then KasT.ret (p, m, q) else kas_desc f p (m + 1) (q + 1)) _
      rw [ky_eq (z := z), ky_eq (z := z)]
      by_cases d : ky z p (m - 1) < ky z p m
      · rw [if_pos (decide_eq_true d)]
        exact ⟨hp, Nat.le_refl _, (show m ≤ n by omega), h2, h3, h4⟩
      · rw [if_neg (by simpa using d)]
        refine up (desc_ok f p (m + 1) (q + 1) hp (by omega) (by omega) (ext p (fun _ => rfl) (by omega)) fun k hk1 hk2 => ?_)
        by_cases e : k = m
        · subst e; rfl
        · rw [h4 k (by omega) (by omega), show m + 1 - 1 = m by omega]
          omega
theorem tail3_ok {p : Array Nat} {m n : Nat} (hp : PermN p n) (h1 : 1 ≤ m) (h2 : m ≤ n) (hd : Dn z p m) : KPath (zlt z) n (kas_tail3 m n p) (fun r => PermN r.2 n ∧ 1 ≤ r.1 ∧ r.1 ≤ n ∧ Up z r.2 r.1) := by
  have hp' : PermN (kas_rev p 0 m) n := hp.perm (mirror_perm ..)
  have hu : Up z (kas_rev p 0 m) m := fun i j hij hj => by
    have sz := hp.size
    rw [ky_rev (by omega), ky_rev (by omega), if_pos (by omega), if_pos (by omega)]
    exact hd _ _ (by omega) (by omega)
  unfold kas_tail3
  exact kpath_bind _ (kpath_mono (fun r hr => ⟨hp', by omega, hr.2.1, hr.2.2.1⟩) _ (asc_ok hp' (n - m) m h1 (by omega) hu))
theorem descPart_ok {p : Array Nat} {m n : Nat} (hp : PermN p n) (h1 : 1 ≤ m) (h2 : m < n) (hd : Dn z p m) (hc : ky z p m < ky z p (m - 1)) : KPath (zlt z) n (kas_descPart m n p) (fun r => PermN r.2 n ∧ 1 ≤ r.1 ∧ r.1 ≤ n ∧ Up z r.2 r.1) := by
  unfold kas_descPart
  refine kpath_bind _ (kpath_mono (fun r hr => ?_) _ (desc_ok (z := z) (n - (m + 1)) p (m + 1) 0 hp (by omega) (by omega) (fun i j hij hj => ?_) fun k hk1 hk2 => by rw [show k = m + 1 - 1 by omega]))
  · obtain ⟨g1, g2, g3, g4, g5, g6⟩ := hr
    have sz := g1.size
    by_cases hq : r.2.2 > 0
    · rw [if_pos hq]
      have he := rev_eq (z := z) (p := r.1) (i := r.2.1 - (r.2.2 + 1)) (j := r.2.1) (by omega) g6
      exact tail3_ok (g1.perm (mirror_perm ..)) (by omega) g3 fun i j hij hj => by rw [he, he]; exact g5 i j hij hj
    · rw [if_neg hq]
      exact tail3_ok g1 (by omega) g3 g5
  · by_cases e : j = m
    · subst e
      by_cases e2 : i = j
      · rw [e2]; exact Int.le_refl _
      · have := hd i (j - 1) (by omega) (by omega)
        omega
    · exact hd i j hij (by omega)
theorem count_ok {p : Array Nat} {n : Nat} (hp : PermN p n) (h1 : 1 ≤ n) : KPath (zlt z) n (kas_count n p) (fun r => PermN r.2 n ∧ 1 ≤ r.1 ∧ r.1 ≤ n ∧ Up z r.2 r.1) := by
  unfold kas_count
  refine kpath_bind _ (kpath_mono (fun m hm => ?_) _ (asc_ok (z := z) hp (n - 1) 1 (Nat.le_refl _) (by omega) fun i j hij hj => by rw [show i = j by omega]; exact Int.le_refl _))
  obtain ⟨g1, g2, g3, g4⟩ := hm
  by_cases e : m = n
  · rw [if_pos (by simpa using e)]
    exact ⟨hp, g1, g2, g3⟩
  · rw [if_neg (by simpa using e)]
    have g4 := g4 (by omega)
    have sz := hp.size
    by_cases hm1 : m > 1
    · rw [if_pos hm1]
      refine ⟨hp.lt (by omega), hp.lt (by omega), ?_⟩
      show KPath (zlt z) n (if decide (z (p.getD 0 0) < z (p.getD (m - 1) 0)) = true then KasT.ret (m, p) else kas_descPart m n (kas_rev p 0 m)) _
      rw [ky_eq (z := z), ky_eq (z := z)]
      by_cases c : ky z p 0 < ky z p (m - 1)
      · rw [if_pos (decide_eq_true c)]
        exact ⟨hp, g1, g2, g3⟩
      · rw [if_neg (by simpa using c)]
        have heq : ∀ k, 0 ≤ k → k < m → ky z p k = ky z p (m - 1) := fun k _ hk => by
          have a1 := g3 0 k (by omega) hk
          have a2 := g3 k (m - 1) (by omega) (by omega)
          omega
        have he := rev_eq (z := z) (p := p) (i := 0) (j := m) (by omega) heq
        refine descPart_ok (hp.perm (mirror_perm ..)) g1 (by omega) (fun i j hij hj => ?_) (by rw [he, he]; exact g4)
        rw [he, he, heq i (by omega) (by omega), heq j (by omega) (by omega)]
        exact Int.le_refl _
    · rw [if_neg hm1]
      refine descPart_ok hp g1 (by omega) (fun i j hij hj => ?_) g4
      rw [show i = j by omega]
      exact Int.le_refl _
theorem place_ok {p : Array Nat} {n k : Nat} (hp : PermN p n) (hk : k < n) (hu : Up z p k) : ∀ f l r, r - l ≤ f → l ≤ r → r ≤ k → (∀ i, i < l → ky z p i ≤ ky z p k) → (∀ i, r ≤ i → i < k → ky z p k < ky z p i) →
    KPath (zlt z) n (kas_place p k f l r) (fun m => m ≤ k ∧ (∀ i, i < m → ky z p i ≤ ky z p k) ∧ ∀ i, m ≤ i → i < k → ky z p k < ky z p i)
  | 0, l, r, h1, h2, h3, h4, h5 => ⟨by omega, h4, fun i hi hik => h5 i (by omega) hik⟩
  | f + 1, l, r, h1, h2, h3, h4, h5 => by
    show KPath (zlt z) n (if l ≥ r then KasT.ret l else _) _
    by_cases hlr : l ≥ r
    · rw [if_pos hlr]
      exact ⟨by omega, h4, fun i hi hik => h5 i (by omega) hik⟩
    · rw [if_neg hlr]
      refine ⟨hp.lt hk, hp.lt (by omega), ?_⟩
      show KPath (zlt z) n (if decide (z (p.getD k 0) < z (p.getD ((l + r) / 2) 0)) = true then kas_place p k f l ((l + r) / 2) else kas_place p k f ((l + r) / 2 + 1) r) _
      rw [ky_eq (z := z), ky_eq (z := z)]
      by_cases c : ky z p k < ky z p ((l + r) / 2)
      · rw [if_pos (decide_eq_true c)]
        refine place_ok hp hk hu f l ((l + r) / 2) (by omega) (by omega) (by omega) h4 fun i hi hik => ?_
        have := hu ((l + r) / 2) i hi hik
        omega
      · rw [if_neg (by simpa using c)]
        refine place_ok hp hk hu f ((l + r) / 2 + 1) r (by omega) (by omega) h3 (fun i hi => ?_) h5
        have := hu i ((l + r) / 2) (by omega) (by omega)
        omega
theorem bin_ok {n : Nat} : ∀ f (p : Array Nat) k, PermN p n → k + f = n → Up z p k → KPath (zlt z) n (kas_bin f p k) (fun r => PermN r n ∧ Up z r n)
  | 0, p, k, hp, h1, hu => ⟨hp, by rw [show n = k by omega]; exact hu⟩
  | f + 1, p, k, hp, h1, hu => by
    have sz := hp.size
    show KPath (zlt z) n ((kas_place p k k 0 k).bind fun l => kas_bin f (bubble p k (k - l)) (k + 1)) _
    refine kpath_bind _ (kpath_mono (fun l hl => ?_) _ (place_ok hp (by omega) hu k 0 k (by omega) (by omega) (Nat.le_refl _) (fun i hi => by omega) fun i hi hik => by omega))
    obtain ⟨g1, g2, g3⟩ := hl
    have kb : ∀ i, ky z (bubble p k (k - l)) i = if i = l then ky z p k else if l < i ∧ i ≤ k then ky z p (i - 1) else ky z p i := fun i => by
      unfold ky
      rw [getElem?_bubble (by omega) (k - l) (by omega), show k - (k - l) = l by omega]
      repeat' split
      all_goals rfl
    refine bin_ok f _ (k + 1) (hp.perm (bubble_perm ..)) (by omega) fun i j hij hj => ?_
    rw [kb, kb]
    by_cases ei : i = l
    · rw [if_pos ei]
      by_cases ej : j = l
      · rw [if_pos ej]; exact Int.le_refl _
      · rw [if_neg ej, if_pos (by omega)]
        have := g3 (j - 1) (by omega) (by omega)
        omega
    · rw [if_neg ei]
      by_cases hi : l < i ∧ i ≤ k
      · rw [if_pos hi, if_neg (by omega), if_pos (by omega)]
        exact hu _ _ (by omega) (by omega)
      · rw [if_neg hi]
        by_cases ej : j = l
        · rw [if_pos ej]
          exact g2 i (by omega)
        · rw [if_neg ej]
          by_cases hj2 : l < j ∧ j ≤ k
          · rw [if_pos hj2]
            exact hu _ _ (by omega) (by omega)
          · rw [if_neg hj2]
            exact hu _ _ hij (by omega)
theorem sort_ok (z : Nat → Int) {n : Nat} (h1 : 1 ≤ n) : KPath (zlt z) n (kas_sort n) (fun r => PermN r n ∧ Up z r n) := by
  unfold kas_sort
  refine kpath_bind _ (kpath_mono (fun r hr => ?_) _ (count_ok (z := z) (p := List.toArray (List.range n)) (n := n) (by show (List.range n).toArray.toList.Perm _; exact List.Perm.refl _) h1))
  obtain ⟨g1, g2, g3, g4⟩ := hr
  by_cases e : r.1 < n
  · rw [if_pos e]
    have em : max r.1 1 = r.1 := Nat.max_eq_left g2
    rw [em]
    exact bin_ok _ r.2 r.1 g1 (by omega) g4
  · rw [if_neg e]
    exact ⟨g1, by rw [show n = r.1 by omega]; exact g4⟩
end
end L2
set_option Elab.async false
set_option linter.all false
set_option maxRecDepth 100000
set_option maxHeartbeats 1000000
/-! sorted of a list of pairs of whole numbers -/
namespace L2
open PySem PySem.Spec PyProof.Rows PySem.W

section
variable {prog : Program} {w : World} {A : Around} {E : Value → Shared → Prop} {s : Shared} {a : Addr} {vs : List Value} {P : PySem.Fin → Shared → Prop} {n₀ : Nat} {J : Shared → Prop} {z : Nat → Int} {κ0 : SortKind}
theorem st_list_sort {n : Nat} (S : Stays n₀ J) (j : J s) (ho : s.heap.get? a = some (seqObj "list" vs.toArray n)) (la : n₀ ≤ a) (h64 : vs.length < 64)
    (hkind : ∀ s' (Q : SortKind → Shared → Prop), J s' → 2 ≤ vs.length → Q κ0 s' → wpAny (model prog w) A (keyKind' vs.toArray) Q (fun _ _ => False) s')
    (hask : ∀ s' i k C, J s' → i < vs.length → k < vs.length → C (zlt z i k) s' → kas_ask prog w A κ0 vs i k C s')
    (h : ∀ s' c p, J s' → s'.heap.get? a = some (seqObj "list" (List.toArray (p.toList.map fun i => vs.getD i Value.none)) c) → PermN p vs.length → Up z p vs.length → P (.done (.ret .none)) s') :
    wpAny (model prog w) A (Builtin.«list.sort» ⟨[.ref a], []⟩) P E s := by
  obtain ⟨e1, ho1⟩ : ∃ e1, (s.heap.update a (Obj.mapSeq fun _ => (#[] : Array Value))).get? a = some (seqObj "list" #[] e1) := ⟨_, get?_update_seq ho fun _ => #[]⟩
  have j1 := S.push _ (seqObj "list" #[] 0) (S.push _ (seqObj "tuple" vs.toArray 0) (S.upd s a (Obj.mapSeq fun _ => (#[] : Array Value)) la j))
  have oa : (((s.heap.update a (Obj.mapSeq fun _ => (#[] : Array Value))).push (seqObj "tuple" vs.toArray 0)).push (seqObj "list" #[] 0)).get? a = some (seqObj "list" #[] e1) := Heap.get?_push_of_some _ (Heap.get?_push_of_some _ ho1)
  have fin : ∀ (s' : Shared) (p : Array Nat), J s' → s'.heap.get? a = some (seqObj "list" #[] e1) → PermN p vs.length → Up z p vs.length → ∃ c2, (s'.heap.update a (Obj.mapSeq fun _ => List.toArray (p.toList.map fun i => vs.getD i Value.none))).get? a = some (seqObj "list" (List.toArray (p.toList.map fun i => vs.getD i Value.none)) c2) ∧
      P (.done (.ret .none)) { s' with heap := s'.heap.update a (Obj.mapSeq fun _ => List.toArray (p.toList.map fun i => vs.getD i Value.none)) } := fun s' p js oa' hp hu => by
    obtain ⟨c2, hc2⟩ : ∃ c2, (s'.heap.update a (Obj.mapSeq fun _ => List.toArray (p.toList.map fun i => vs.getD i Value.none))).get? a = some (seqObj "list" (List.toArray (p.toList.map fun i => vs.getD i Value.none)) c2) := ⟨_, get?_update_seq oa' fun _ => List.toArray (p.toList.map fun i => vs.getD i Value.none)⟩
    exact ⟨c2, hc2, h _ c2 p (S.upd _ a _ la js) hc2 hp hu⟩
  rw [list_sort_plain]
  refine wpAny_bind (listItems_at ho rfl ?_)
  refine wpAny_bind (listUpdate_at ho rfl ?_ (by rw [List.size_toArray, sizeLine_eq]; omega) (Nat.zero_le _))
  refine wpAny_bind (seqEpoch_at ho1 rfl ?_)
  refine wpAny_bind (wpAny_newTuple ?_ (by show vs.length ≤ _; rw [sizeLine_eq]; omega))
  refine wpAny_bind (wpAny_newList ?_ (Nat.zero_le _))
  refine wpAny_holding ?_
  show wpAny (model prog w) A _ P E { s with heap := ((s.heap.update a (Obj.mapSeq fun _ => (#[] : Array Value))).push (seqObj "tuple" vs.toArray 0)).push (seqObj "list" #[] 0) }
  dsimp only
  by_cases h2 : vs.toArray.size < 2
  · rw [if_pos h2, if_pos h2]
    rw [List.size_toArray] at h2
    refine wpAny_bind (wpAny_pure ?_)
    rw [StateT.run_pure]
    refine wpAny_bind (wpAny_pure ?_)
    try dsimp only
    have er : List.toArray ((List.range vs.length).toArray.toList.map fun i => vs.getD i Value.none) = vs.toArray := by
      congr 1
      match vs, h2 with
      | [], _ => rfl
      | [v], _ => rfl
    have e2 : (arrOf (SortSt.mk' general' (vs.toArray.zip vs.toArray) #[] 7 none)).map (·.2) = vs.toArray := by
      show (vs.toArray.zip vs.toArray).map (·.2) = vs.toArray
      clear er fin oa j1 ho1
      match vs, h2 with
      | [], _ => simp
      | [v], _ => simp
    obtain ⟨c2, hc2, q⟩ := fin _ (List.range vs.length).toArray j1 oa (by show (List.range vs.length).toArray.toList.Perm _; exact List.Perm.refl _) (fun i k hik hk => by rw [show i = k by omega]; exact Int.le_refl _)
    rw [er] at hc2 q
    rw [e2]
    refine wpAny_bind (seqEpoch_at oa rfl ?_)
    refine wpAny_bind (listUpdate_at oa rfl ?_ (Nat.zero_le _) (by rw [List.size_toArray, sizeLine_eq]; omega))
    show wpAny _ _ (do (if (e1 != e1) = true then _ else _)) _ _ _
    simp only [bne_self_eq_false, Bool.false_eq_true, if_false]
    exact wpAny_pure q
  · rw [if_neg h2, if_neg h2]
    rw [List.size_toArray] at h2
    refine wpAny_bind (wpAny_mono (hkind _ (fun κ s' => κ = κ0 ∧ s' = { s with heap := ((s.heap.update a (Obj.mapSeq fun _ => (#[] : Array Value))).push (seqObj "tuple" vs.toArray 0)).push (seqObj "list" #[] 0) }) j1 (by omega) ⟨rfl, rfl⟩) ?_ fun _ _ x => x.elim)
    rintro κ s0 ⟨rfl, rfl⟩
    refine wpAny_bind (wpAny_mono (kat_run (Q := fun st' s' => s' = { s with heap := ((s.heap.update a (Obj.mapSeq fun _ => (#[] : Array Value))).push (seqObj "tuple" vs.toArray 0)).push (seqObj "list" #[] 0) } ∧ ∃ p : Array Nat, p.size = vs.length ∧ arrOf st' = p.map (kas_item (vs.toArray.zip vs.toArray)) ∧ failedOf st' = none ∧ PermN p vs.length ∧ Up z p vs.length)
      (G := fun p s' => s' = { s with heap := ((s.heap.update a (Obj.mapSeq fun _ => (#[] : Array Value))).push (seqObj "tuple" vs.toArray 0)).push (seqObj "list" #[] 0) } ∧ PermN p vs.length ∧ Up z p vs.length)
      rfl (by omega) h64 (fun p' st' s' a1 a2 a3 a4 => ⟨a4.1, p', a1, a2, a3, a4.2⟩) (kpath_wp (fun i k C hi hk hC => hask _ i k C j1 hi hk hC) _ (kpath_mono (fun r hr => ⟨rfl, hr⟩) _ (sort_ok z (by omega))))) ?_ fun _ _ e => e)
    rintro ⟨⟨⟩, st'⟩ s' ⟨rfl, p, hp, har, hf, hpn, hu⟩
    dsimp only
    have hout := kat_snds (ks := vs) rfl har
    have hsz : (List.toArray (p.toList.map fun i => vs.getD i Value.none)).size = vs.length := by rw [List.size_toArray, List.length_map, Array.length_toList, hp]
    rw [hout]
    obtain ⟨c2, hc2, q⟩ := fin _ p j1 oa hpn hu
    refine wpAny_bind (seqEpoch_at oa rfl ?_)
    refine wpAny_bind (listUpdate_at oa rfl ?_ (Nat.zero_le _) (Nat.le_trans (Nat.le_of_eq hsz) (by rw [sizeLine_eq]; omega)))
    rw [hf]
    simp only [bne_self_eq_false, Bool.false_eq_true, if_false]
    exact wpAny_pure q
end
section
variable {prog : Program} {w : World} {A : Around} {E : Value → Shared → Prop} {s : Shared} {l : Addr} {vs : List Value} {Q : Value → Shared → Prop} {J : Shared → Prop} {z : Nat → Int} {κ0 : SortKind}
theorem st_sorted (S : Stays s.heap.objs.size J) (j : J s) (hl : s.heap.IsList l vs.toArray) (h64 : vs.length < 64)
    (hkind : ∀ s' (Q : SortKind → Shared → Prop), J s' → 2 ≤ vs.length → Q κ0 s' → wpAny (model prog w) A.in1.in1 (keyKind' vs.toArray) Q (fun _ _ => False) s')
    (hask : ∀ s' i k C, J s' → i < vs.length → k < vs.length → C (zlt z i k) s' → kas_ask prog w A.in1.in1 κ0 vs i k C s')
    (h : ∀ s' D c p, J s' → s.heap.objs.size ≤ D → s'.heap.get? D = some (seqObj "list" (List.toArray (p.toList.map fun i => vs.getD i Value.none)) c) → PermN p vs.length → Up z p vs.length → Q (.ref D) s') :
    wpAny (model prog w) A (call (.builtin "sorted") [.ref l]) Q E s := by
  refine Calls.call_function_entry kind_sorted plain_sorted entry_sorted (args_sorted1 _) ?_
  unfold Builtin.«sorted»
  refine wpAny_bind (m := checkCount "sorted" 1 1 _) (wpAny_pure ?_)
  refine wpAny_bind (collect_list hl ?_ (by rw [sizeLine_eq]; omega))
  refine wpAny_bind (wpAny_newList ?_ (by rw [sizeLine_eq]; omega))
  have hsz : ((s.heap.push (seqObj "list" #[] 0)).update s.heap.objs.size (Obj.mapSeq (· ++ vs.toArray))).objs.size = s.heap.objs.size + 1 := by
    rw [Heap.size_update, size_push']
  have hoL : (((s.heap.push (seqObj "list" #[] 0)).update s.heap.objs.size (Obj.mapSeq (· ++ vs.toArray))).push (seqObj "list" vs.toArray 0)).get? (s.heap.objs.size + 1) = some (seqObj "list" vs.toArray 0) := by
    rw [← hsz]; exact Heap.get?_push_size _ rfl
  have j1 := S.push _ (seqObj "list" vs.toArray 0) (S.upd _ s.heap.objs.size (Obj.mapSeq (· ++ vs.toArray)) (Nat.le_refl _) (S.push s (seqObj "list" #[] 0) j))
  show wpAny _ _ _ _ _ { s with heap := ((s.heap.push (seqObj "list" #[] 0)).update s.heap.objs.size (Obj.mapSeq (· ++ vs.toArray))).push (seqObj "list" vs.toArray 0) }
  rw [hsz]
  refine wpAny_bind (wpAny_holding (wpAny_call_entry slot_list_sort ⟨_, hoL, rfl⟩ entry_list_sort ?body (args_list_sort _)))
  case body =>
    refine st_list_sort (s := { s with heap := ((s.heap.push (seqObj "list" #[] 0)).update s.heap.objs.size (Obj.mapSeq (· ++ vs.toArray))).push (seqObj "list" vs.toArray 0) })
      S j1 hoL (Nat.le_succ _) h64 hkind hask fun s' c p j' o' hp hu => ⟨_, rfl, ?_⟩
    exact wpAny_pure ⟨_, rfl, h _ _ c p j' (Nat.le_succ _) o' hp hu⟩
end
/-! ### pairs -/
def plt (p q : Int × Int) : Bool := if p.1 = q.1 then decide (p.2 < q.2) else decide (p.1 < q.1)
def ple (p q : Int × Int) : Prop := plt q p = false
/-- the pairs at ts -/
structure PR (H : Hp) (ts : List Addr) (ps : List (Int × Int)) : Prop where
  len : ts.length = ps.length
  item : ∀ (i : Nat) t q, ts[i]? = some t → ps[i]? = some q → H t = some (.tup [.int q.1, .int q.2])
theorem bound_of : ∀ ps : List (Int × Int), ∃ M : Int, 0 ≤ M ∧ ∀ q ∈ ps, -M ≤ q.2 ∧ q.2 ≤ M
  | [] => ⟨0, by decide, fun _ h => nomatch h⟩
  | p :: ps => by
    obtain ⟨M, h0, hM⟩ := bound_of ps
    refine ⟨M + (if 0 ≤ p.2 then p.2 else -p.2), by split <;> omega, fun q hq => ?_⟩
    rcases List.mem_cons.mp hq with rfl | hq
    · split <;> omega
    · have := hM q hq
      split <;> omega
theorem emb {M : Int} {p q : Int × Int} (hp : -M ≤ p.2 ∧ p.2 ≤ M) (hq : -M ≤ q.2 ∧ q.2 ≤ M) : decide (p.1 * (2 * M + 1) + p.2 < q.1 * (2 * M + 1) + q.2) = plt p q := by
  unfold plt
  have hM : 0 ≤ M := by omega
  by_cases e : p.1 = q.1
  · rw [if_pos e, e]
    by_cases h : p.2 < q.2
    · rw [decide_eq_true h, decide_eq_true (by omega)]
    · rw [decide_eq_false h, decide_eq_false (by omega)]
  · rw [if_neg e]
    by_cases h : p.1 < q.1
    · have h1 : 1 * (2 * M + 1) ≤ (q.1 - p.1) * (2 * M + 1) := Int.mul_le_mul_of_nonneg_right (by omega) (by omega)
      rw [Int.sub_mul] at h1
      rw [decide_eq_true h, decide_eq_true (by omega)]
    · have h1 : 1 * (2 * M + 1) ≤ (p.1 - q.1) * (2 * M + 1) := Int.mul_le_mul_of_nonneg_right (by omega) (by omega)
      rw [Int.sub_mul] at h1
      rw [decide_eq_false h, decide_eq_false (by omega)]
theorem tup2 {X : Cx} {pins : List (Addr × Obj)} {σ : St} {H : Hp} {s : Shared} (I : Inv X pins σ H s) {t : Addr} {x y : Int} (h : H t = some (.tup [.int x, .int y])) :
    ∃ (o : Obj) (n : Nat) (u1 u2 : Tok), s.heap.get? t = some o ∧ o.cls = .type "tuple" ∧ o.data = .seq #[.int x u1, .int y u2] n := by
  obtain ⟨its, r, ⟨o, e, c, n, d⟩, _⟩ := I.tuple (SqT.of (K := X.K) h)
  cases r with
  | cons r1 r2 =>
    obtain ⟨u1, rfl⟩ := r1
    cases r2 with
    | cons r3 r4 =>
      obtain ⟨u2, rfl⟩ := r3
      cases r4
      exact ⟨o, n, u1, u2, e, c, d⟩
section
variable {X : Cx}
theorem katTups_of {pins : List (Addr × Obj)} {σ : St} {H : Hp} {s : Shared} (I : Inv X pins σ H s) : ∀ {ts : List Addr} {ps : List (Int × Int)}, PR H ts ps → ∃ fs : List Value, KatTups s.heap (ts.map Value.ref) fs ∧ fs.length = ts.length ∧ ∀ v ∈ fs, ∃ i t, v = Value.int i t
  | [], ps, _ => ⟨[], trivial, rfl, fun _ h => nomatch h⟩
  | t :: ts, [], h => absurd h.len (by simp)
  | t :: ts, p :: ps, h => by
    obtain ⟨fs, k, hl, ha⟩ := katTups_of I (ts := ts) (ps := ps) ⟨by have := h.len; simpa using this, fun i t q h1 h2 => h.item (i + 1) t q h1 h2⟩
    obtain ⟨o, n, u1, u2, e, c, d⟩ := tup2 I (h.item 0 t p rfl rfl)
    refine ⟨.int p.1 u1 :: fs, KatTups.cons e c d rfl k, by simp [hl], fun v hv => ?_⟩
    rcases List.mem_cons.mp hv with rfl | hv
    · exact ⟨_, _, rfl⟩
    · exact ha v hv
theorem lt_pair {prog : Program} {w : World} {A : Around} {s : Shared} {t t' : Addr} {o o' : Obj} {n n' : Nat} {x y x' y' : Int} {u1 u2 u3 u4 : Tok} {C : Bool → Shared → Prop} {E : Value → Shared → Prop} (h1 : s.heap.get? t = some o) (d1 : o.data = .seq #[.int x u1, .int y u2] n)
    (h2 : s.heap.get? t' = some o') (d2 : o'.data = .seq #[.int x' u3, .int y' u4] n') (hC : C (plt (x, y) (x', y')) s) : wpAny (model prog w) A (keyLt' (tuples' true) (.ref t) (.ref t')) C E s := by
  refine kat_lt h1 d1 h2 d2 ?_
  show KatLex prog w A true (decide (2 < 2)) C [(.int x u1, .int x' u3), (.int y u2, .int y' u4)] 0 s
  refine kat_cons (wpAny_eqBool_int ?_)
  by_cases e : x = x'
  · rw [show (x == x') = true by simpa using e]
    refine kat_yes (kat_cons (wpAny_eqBool_int ?_))
    by_cases e2 : y = y'
    · rw [show (y == y') = true by simpa using e2]
      refine kat_yes (kat_nil ?_)
      have : plt (x, y) (x', y') = decide (2 < 2) := by unfold plt; rw [if_pos e, e2]; simp
      rw [← this]
      exact hC
    · rw [show (y == y') = false by simpa using e2]
      refine kat_no ?_
      show wpAny (model prog w) A (oneLt' false (.int y u2) (.int y' u4)) C (fun _ _ => False) s
      refine kat_one _ _ (wpAny_lt_int ?_)
      have : plt (x, y) (x', y') = decide (y < y') := by unfold plt; rw [if_pos e]
      rw [← this]
      exact hC
  · rw [show (x == x') = false by simpa using e]
    refine kat_no ?_
    show wpAny (model prog w) A (oneLt' true (.int x u1) (.int x' u3)) C (fun _ _ => False) s
    refine oneLt_int ?_
    have : plt (x, y) (x', y') = decide (x < x') := by unfold plt; rw [if_neg e]
    rw [← this]
    exact hC
theorem vals_refsP : ∀ (ts : List Addr) {us : List Value}, Vals (ts.map V.ref) us → us = ts.map Value.ref
  | [], _, r => by cases r; rfl
  | t :: ts, _, r => by
    cases r with
    | cons r1 r2 =>
      cases r1
      rw [vals_refsP ts r2]
      rfl
theorem refs_vals : ∀ (ts : List Addr), Vals (ts.map V.ref) (ts.map Value.ref)
  | [] => .nil
  | t :: ts => .cons rfl (refs_vals ts)
theorem call_sortedP : CallR X (.builtin "sorted") (fun xs H Q => ∃ (p : Addr) (ts : List Addr) (ps : List (Int × Int)), xs = [.ref p] ∧ SqL X.K H p (ts.map V.ref) ∧ PR H ts ps ∧ ts.length < 64 ∧
    ∀ (l : Addr) (us : List Addr) (qs : List (Int × Int)), H l = none → PR H us qs → qs.Perm ps → qs.Pairwise ple → Q (.ref l) (upd H l (.lst (us.map V.ref)))) := by
  intro pins s σ H xs us Q I r h
  obtain ⟨p, ts, ps, rfl, hq, hP, h64, q⟩ := h
  obtain ⟨u, rfl, rx⟩ := vals1 r
  cases rx
  obtain ⟨its, rv, pl, hz⟩ := I.list hq
  have hi := vals_refsP ts rv
  subst hi
  obtain ⟨M, hM0, hM⟩ := bound_of ps
  have hlen : (ts.map Value.ref).length = ts.length := List.length_map ..
  have at_ : ∀ i, i < ts.length → (ts.map Value.ref).getD i Value.none = .ref (ts.getD i 0) ∧ H (ts.getD i 0) = some (.tup [.int (ps.getD i (0, 0)).1, .int (ps.getD i (0, 0)).2]) ∧ ps.getD i (0, 0) ∈ ps := fun i hi => by
    have hi2 : i < ps.length := by rw [← hP.len]; exact hi
    refine ⟨by simp [List.getD_eq_getElem?_getD, hi], ?_, ?_⟩
    · have e1 : ts[i]? = some (ts.getD i 0) := by rw [List.getD_eq_getElem?_getD, List.getElem?_eq_getElem hi]; rfl
      have e2 : ps[i]? = some (ps.getD i (0, 0)) := by rw [List.getD_eq_getElem?_getD, List.getElem?_eq_getElem hi2]; rfl
      exact hP.item i _ _ e1 e2
    · have e2 : ps[i]? = some (ps.getD i (0, 0)) := by rw [List.getD_eq_getElem?_getD, List.getElem?_eq_getElem hi2]; rfl
      exact List.mem_of_getElem? e2
  refine st_sorted (z := fun i => (ps.getD i (0, 0)).1 * (2 * M + 1) + (ps.getD i (0, 0)).2) (κ0 := tuples' true) I.stays ⟨I, Nat.le_refl _⟩ pl.isList (by rw [hlen]; exact h64) (fun s' Q' j h2 hq' => ?_) (fun s' i k C j hi hk hC => ?_) fun s' D c pp j hD ho hpp hu => ?_
  · obtain ⟨fs, k, hl, ha⟩ := katTups_of j.1 hP
    exact kat_kind (T := .type "int") k (by rw [hl]; rw [hlen] at h2; omega) (fun v hv => by obtain ⟨i, t, rfl⟩ := ha v hv; exact .now) (by decide) hq'
  · rw [hlen] at hi hk
    obtain ⟨a1, a2, a3⟩ := at_ i hi
    obtain ⟨b1, b2, b3⟩ := at_ k hk
    unfold kas_ask
    rw [a1, b1]
    obtain ⟨o, n, u1, u2, e, _, d⟩ := tup2 j.1 a2
    obtain ⟨o', n', u3, u4, e', _, d'⟩ := tup2 j.1 b2
    refine lt_pair e d e' d' ?_
    have := emb (hM _ a3) (hM _ b3)
    show C (plt (ps.getD i (0, 0)) (ps.getD k (0, 0))) s'
    rw [← this]
    exact hC
  · rw [hlen] at hpp hu
    have I3 := j.1
    have sz := hpp.size
    have hlt : ∀ i ∈ pp.toList, i < ts.length := fun i hi => List.mem_range.mp (hpp.mem_iff.mp hi)
    have eo : (pp.toList.map fun i => (ts.map Value.ref).getD i Value.none) = (pp.toList.map fun i => ts.getD i 0).map Value.ref := by
      rw [List.map_map]
      exact List.map_congr_left fun i hi => (at_ i (hlt i hi)).1
    rw [eo] at ho
    have hf := I.hok.fresh hD
    have nA : NewAt X pins H D := I.newAt (Heap.get?_none_of_le hD)
    refine ⟨.ref D, _, I3.track (o := .lst ((pp.toList.map fun i => ts.getD i 0).map V.ref)) nA ⟨?_, _, c, refs_vals _, ho⟩, rfl, q D _ (pp.toList.map fun i => ps.getD i (0, 0)) hf ⟨by simp, fun i t qq e1 e2 => ?_⟩ ?_ ?_⟩
    · rw [List.length_map, List.length_map, Array.length_toList, sz]
      exact small_len (by omega)
    · rw [List.getElem?_map] at e1 e2
      cases ei : pp.toList[i]? with
      | none => rw [ei] at e1; cases e1
      | some k =>
        rw [ei] at e1 e2
        cases e1
        cases e2
        exact (at_ k (hlt k (List.mem_of_getElem? ei))).2.1
    · have h1 := hpp.map fun i => ps.getD i ((0 : Int), (0 : Int))
      have h2 : (List.range ts.length).map (fun i => ps.getD i ((0 : Int), (0 : Int))) = ps := by
        apply List.ext_getElem?
        intro i
        rw [List.getElem?_map]
        by_cases hi : i < ts.length
        · rw [List.getElem?_range hi]
          have hi2 : i < ps.length := by rw [← hP.len]; exact hi
          simp [List.getD_eq_getElem?_getD, List.getElem?_eq_getElem hi2]
        · rw [List.getElem?_eq_none (by rw [List.length_range]; omega), List.getElem?_eq_none (by rw [← hP.len]; omega)]
          rfl
      rw [h2] at h1
      exact h1
    · rw [List.pairwise_map, List.pairwise_iff_getElem]
      intro i k hi hk hik
      have g := hu i k (by omega) (by rw [Array.length_toList] at hk; omega)
      have gi : ky (fun i => (ps.getD i (0, 0)).1 * (2 * M + 1) + (ps.getD i (0, 0)).2) pp i = (ps.getD pp.toList[i] (0, 0)).1 * (2 * M + 1) + (ps.getD pp.toList[i] (0, 0)).2 := by
        unfold ky
        rw [← Array.getElem?_toList, List.getElem?_eq_getElem hi]
        rfl
      have gk : ky (fun i => (ps.getD i (0, 0)).1 * (2 * M + 1) + (ps.getD i (0, 0)).2) pp k = (ps.getD pp.toList[k] (0, 0)).1 * (2 * M + 1) + (ps.getD pp.toList[k] (0, 0)).2 := by
        unfold ky
        rw [← Array.getElem?_toList, List.getElem?_eq_getElem hk]
        rfl
      rw [gi, gk] at g
      have hb := hM _ (at_ _ (hlt _ (List.getElem_mem hi))).2.2
      have hc := hM _ (at_ _ (hlt _ (List.getElem_mem hk))).2.2
      show plt _ _ = false
      rw [← emb hc hb]
      exact decide_eq_false (by omega)
end
end L2
set_option Elab.async false
set_option linter.all false
set_option maxRecDepth 100000
set_option maxHeartbeats 1000000
/-! tuples cut, the whole of them too; comprehensions over values of a dict -/
namespace HT
open PySem PySem.Spec PyProof.Rows
section
variable {prog : Program} {w : World} {A : Around} {E : Value → Shared → Prop} {s : Shared}
end
end HT
namespace L2
open PySem PySem.Spec PyProof.Rows PySem.W
section
variable {X : Cx} {K : PySem.W.Frag}
theorem sl_tupK (h : X.K = K) : SlR X (rSlT K) := h ▸ sl_tup
end
theorem comp_values {d : Addr} {ob : Obj} {kvs : List (Key × V)} {cap : List (Option Nat)} {g : TG} {tt : TT} {te : TE} {σ : L2.St} {H : Hp} {Q : VK} (hm : kvs.length ≤ sizeLine) (Pv : Nat → List V → L2.St → Hp → Prop) (h0 : Pv 0 [] (capS cap σ) H)
    (hl : ∀ i ys σ H, Pv i ys σ H → i ≤ kvs.length ∧ ys.length ≤ i ∧ H d = some (.frz ob (.dK kvs)))
    (hs : ∀ i k x ys σ H, kvs[i]? = some (k, x) → Pv i ys σ H → g x σ H fun σ2 H2 => tt σ2 H2 fun b H3 => if b = true then te σ2 H3 fun v H4 => Pv (i + 1) (ys ++ [v]) σ2 H4 else Pv (i + 1) ys σ2 H3)
    (hd : ∀ ys σ H, Pv kvs.length ys σ H → ∀ D, H D = none → Q (.ref D) (upd H D (.lst ys))) :
    CompR cap g tt te σ Q (Itw d ob kvs) H := by
  refine ⟨kvs.length, Pv, hm, h0, fun i ys σ' H p => ?_⟩
  obtain ⟨h1, h2, h3⟩ := hl i ys σ' H p
  refine ⟨h1, h2, ?_⟩
  by_cases hi : i < kvs.length
  · refine .inr ⟨⟨hi, h3⟩, hi, fun v H' ⟨k, x, hk, ev, eH⟩ => ?_⟩
    subst ev eH
    exact hs i k _ ys σ' _ hk p
  · have e : i = kvs.length := by omega
    subst e
    exact .inl ⟨⟨Nat.le_refl _, h3⟩, fun D hD => hd ys σ' H p D hD⟩
theorem PR.same {H H' : Hp} {ts : List Addr} {ps : List (Int × Int)} (h : PR H ts ps) (s : Same H H') : PR H' ts ps := ⟨h.len, fun i t q e1 e2 => s _ _ (h.item i t q e1 e2)⟩
theorem PR.add {H H1 : Hp} {ts : List Addr} {ps : List (Int × Int)} {t : Addr} {q : Int × Int} (h : PR H ts ps) (s : Same H H1) (ht : H1 t = some (.tup [.int q.1, .int q.2])) : PR H1 (ts ++ [t]) (ps ++ [q]) := by
  refine ⟨by simp [h.len], fun i t' l' e1 e2 => ?_⟩
  rcases getApp h.len e1 with ⟨hi, e1⟩ | ⟨hi, e1⟩
  · rcases getApp (rfl : ps.length = ps.length) e2 with ⟨_, e2⟩ | ⟨h2, _⟩
    · exact s _ _ (h.item i t' l' e1 e2)
    · exact absurd h2 (by omega)
  · rcases getApp (rfl : ps.length = ps.length) e2 with ⟨h2, _⟩ | ⟨_, e2⟩
    · exact absurd h2 (by omega)
    · have hj0 : i - ps.length < 1 := by have := (List.getElem?_eq_some_iff.mp e1).1; simpa using this
      have : i - ps.length = 0 := by omega
      rw [this] at e1 e2
      cases e1
      cases e2
      exact ht
end L2
set_option Elab.async false
set_option linter.all false
set_option maxRecDepth 100000
set_option maxHeartbeats 1000000
/-! min of whole numbers with a default; the keys of any dict, walked by its entries -/
namespace L2
open PySem
section
variable {prog : Program} {w : World} {A : Around} {R : Result → Shared → Prop} {I : Addr} {fp wr : List Addr} {n : Nat} {P : Nat → Value → Prop} {St : Nat → Heap → Prop}
theorem mn_name : (toString "min" ++ toString ".loop" : String) = "min.loop" := by decide +kernel
abbrev two (v : Value) (c : Nat) : Obj := { cls := .type "list", dict := none, data := .seq #[v, v] c, slots := #[] }
abbrev nul (c : Nat) : Obj := { cls := .type "list", dict := none, data := .seq #[] c, slots := #[] }
/-- the rest of the walk: the best is known from j on -/
theorem mn_rest (W : Walks prog w A.in1 I fp wr n P St) (bt : Nat → Nat → Bool) (cm : CmpOf prog w A.in1 .Lt P bt) (S : Addr) (nS : S ∉ fp) (kw : List (Str × Value)) : ∀ (k j : Nat) (s : Shared) (b : Value) (c : Nat), j + 1 + k = n → St (j + 1) s.heap → P (argBest bt j) b → s.heap.get? S = some (two b c) →
    (∀ v h tk, P (argBest bt (n - 1)) v → (∀ x o, x ∉ wr → x ≠ S → s.heap.get? x = some o → h.get? x = some o) → R (.ok (.ret v)) { s with heap := h, toks := tk }) → codeAny (model prog w) A (.builtin "min.loop" ⟨[.ref I, .none, .ref S], kw⟩) R s
  | 0, j, s, b, c, e, st, pb, hS, hR => by
    have nw : S ∉ wr := fun h => nS (W.sub _ h)
    have e' : j + 1 = n := by omega
    refine codeAny_builtin F.entry_min_loop ?_
    rw [Around.under_plainId F.plain_min_loop _]; show wpAny _ A.in1 (seqItems? (.ref S) >>= _) _ _ s
    refine wpAny_bind (wpAny_seqItems hS rfl ?_); show wpAny _ A.in1 (tryCatch (pyNext (.ref I)) _ >>= _) _ _ s
    refine wpAny_bind (wpAny_tryCatch (W.done s _ _ (e' ▸ st) fun h tk keep => ?_)); have hS2 := keep S _ nw hS
    cases kw with
    | nil => exact wpAny_bind (wpAny_updateSeq hS2 rfl (wpAny_bind (wpAny_letGo (wpAny_pure (hR b _ tk (by rw [← e']; exact pb) fun x o n1 n2 ex => (Heap.get?_update_other _ _ (Ne.symm n2)).trans (keep x o n1 ex))))))
    | cons q r => exact wpAny_bind (wpAny_updateSeq hS2 rfl (wpAny_bind (wpAny_letGo (wpAny_pure (hR b _ tk (by rw [← e']; exact pb) fun x o n1 n2 ex => (Heap.get?_update_other _ _ (Ne.symm n2)).trans (keep x o n1 ex))))))
  | k + 1, j, s, b, c, e, st, pb, hS, hR => by
    have nw : S ∉ wr := fun h => nS (W.sub _ h)
    have lt : j + 1 < n := by omega
    refine codeAny_builtin F.entry_min_loop ?_
    rw [Around.under_plainId F.plain_min_loop _]; show wpAny _ A.in1 (seqItems? (.ref S) >>= _) _ _ s
    refine wpAny_bind (wpAny_seqItems hS rfl ?_); show wpAny _ A.in1 (tryCatch (pyNext (.ref I)) _ >>= _) _ _ s
    refine wpAny_bind (wpAny_tryCatch (W.item (j + 1) s _ _ lt st fun v h tk pv st2 keep => ?_)); have hS2 := keep S _ nw hS
    show wpAny _ A.in1 (tryCatch (holding [v, v] (richCompare .Lt v b >>= _)) _ >>= _) _ _ _
    refine wpAny_bind (wpAny_tryCatch (wpAny_holding (wpAny_bind (cm (j + 1) (argBest bt j) v b _ _ _ pv pb (wpAny_bind (wpAny_holding (wpAny_truthy_bool (wpAny_bind (wpAny_letGo (wpAny_pure ?_))))))))))
    cases hb : bt (j + 1) (argBest bt j) with
    | true =>
      simp only [if_true]; refine wpAny_bind (wpAny_updateSeq hS2 rfl (wpAny_bind (wpAny_letGo ?_)))
      rw [mn_name]
      refine wpAny_pure ⟨plainId_quiet F.plain_min_loop _, mn_rest W bt cm S nS kw k (j + 1) _ v _ (by omega) (W.frame _ _ _ st2 fun x hx o ex => ?_) (by simp only [argBest, hb, if_true]; exact pv) (Heap.get?_update_self _ hS2 rfl) fun v' h' tk' pv' keep' => ?_⟩
      · exact (Heap.get?_update_other _ _ (fun z : S = x => nS (by rw [z]; exact hx))).trans ex
      · exact hR v' h' tk' pv' fun x o n1 n2 ex => keep' x o n1 n2 ((Heap.get?_update_other _ _ (Ne.symm n2)).trans (keep x o n1 ex))
    | false =>
      simp only [Bool.false_eq_true, if_false]; refine wpAny_bind (wpAny_letGo ?_)
      rw [mn_name]
      exact wpAny_pure ⟨plainId_quiet F.plain_min_loop _, mn_rest W bt cm S nS kw k (j + 1) _ b c (by omega) st2 (by simp only [argBest, hb, Bool.false_eq_true, if_false]; exact pb) hS2 fun v' h' tk' pv' keep' => hR v' h' tk' pv' fun x o n1 n2 ex => keep' x o n1 n2 (keep x o n1 ex)⟩
theorem mn_first (W : Walks prog w A.in1 I fp wr n P St) (bt : Nat → Nat → Bool) (cm : CmpOf prog w A.in1 .Lt P bt) (S : Addr) (nS : S ∉ fp) (q : Str) (d : Value) {s : Shared} {c : Nat} (st : St 0 s.heap) (hS : s.heap.get? S = some (nul c))
    (hR : 0 < n → ∀ v h tk, P (argBest bt (n - 1)) v → (∀ x o, x ∉ wr → x ≠ S → s.heap.get? x = some o → h.get? x = some o) → R (.ok (.ret v)) { s with heap := h, toks := tk })
    (h0 : n = 0 → ∀ h tk, (∀ x o, x ∉ wr → x ≠ S → s.heap.get? x = some o → h.get? x = some o) → R (.ok (.ret d)) { s with heap := h, toks := tk }) : codeAny (model prog w) A (.builtin "min.loop" ⟨[.ref I, .none, .ref S], [(q, d)]⟩) R s := by
  have nw : S ∉ wr := fun h => nS (W.sub _ h)
  refine codeAny_builtin F.entry_min_loop ?_
  rw [Around.under_plainId F.plain_min_loop _]; show wpAny _ A.in1 (seqItems? (.ref S) >>= _) _ _ s
  refine wpAny_bind (wpAny_seqItems hS rfl ?_); show wpAny _ A.in1 (tryCatch (pyNext (.ref I)) _ >>= _) _ _ s
  rcases Nat.eq_zero_or_pos n with e | e
  · refine wpAny_bind (wpAny_tryCatch (W.done s _ _ (e ▸ st) fun h tk keep => ?_))
    refine wpAny_bind (wpAny_rule (wpAny_pure (h0 e h tk fun x o n1 _ ex => keep x o n1 ex)))
  · refine wpAny_bind (wpAny_tryCatch (W.item 0 s _ _ e st fun v h tk pv st2 keep => ?_)); have hS2 := keep S _ nw hS
    show wpAny _ A.in1 (updateSeq S (fun _ => #[v, v]) >>= _) _ _ _; refine wpAny_bind ?_; refine wpAny_updateSeq hS2 rfl ?_
    rw [mn_name]
    refine wpAny_pure ⟨plainId_quiet F.plain_min_loop _, mn_rest W bt cm S nS _ (n - 1) 0 _ v _ (by omega) (W.frame _ _ _ st2 fun x hx o ex => ?_) pv (Heap.get?_update_self _ hS2 rfl) fun v' h' tk' pv' keep' => ?_⟩
    · exact (Heap.get?_update_other _ _ (fun z : S = x => nS (by rw [z]; exact hx))).trans ex
    · exact hR e v' h' tk' pv' fun x o n1 n2 ex => keep' x o n1 n2 ((Heap.get?_update_other _ _ (Ne.symm n2)).trans (keep x o n1 ex))
end
section
variable {prog : Program} {w : World} {A : Around} {E : Value → Shared → Prop} {s : Shared} {l : Addr} {xs : Array (Int × Tok)}
theorem mn_args (a d : Value) : argsOk "min" ⟨[a], [("default", d)]⟩ := by unfold argsOk; kernel_rfl
/-- min(l, default=d) -/
theorem mn_call {Q : Value → Shared → Prop} (d : Value) (hh : A.handled = none) (hl : s.heap.IsList l (intItems xs))
    (hR : 0 < xs.size → ∀ v h tk, (intItems xs)[argBest (fun i j => decide (numAt xs i < numAt xs j)) (xs.size - 1)]? = some v → (∀ b o, s.heap.get? b = some o → h.get? b = some o) → Q v { s with heap := h, toks := tk })
    (h0 : xs.size = 0 → ∀ h tk, (∀ b o, s.heap.get? b = some o → h.get? b = some o) → Q d { s with heap := h, toks := tk }) : wpAny (model prog w) A (call (.builtin "min") [.ref l] [("default", d)]) Q E s := by
  have sz : (intItems xs).size = xs.size := by simp [intItems]
  refine wpAny_call (codeAny_call_builtin F.plain_min F.entry_min ?_)
  simp only [checkBuiltinCall, F.kind_min]
  have body : wpAny (model prog w) A.in1 (Builtin.«min» ⟨[.ref l], [("default", d)]⟩) (fun fin s' => match fin with
      | .done f => (match (Except.ok f : Result) with | .ok (.ret v) => Q v s' | .ok _ => False | .error e => E e s')
      | .again c' => c'.quiet = true ∧ codeAny (model prog w) A c' (fun r s' => match r with | .ok (.ret v) => Q v s' | .ok _ => False | .error e => E e s') s') E s := by
    show wpAny _ A.in1 (Builtin.Builtins.bindParams "min" ["key", "default"] 0 ⟨[], [("default", d)]⟩ >>= _) _ _ s
    refine wpAny_bind (wpAny_of_eq (show Builtin.Builtins.bindParams "min" ["key", "default"] 0 ⟨[], [("default", d)]⟩ = pure [none, some d] from rfl) ?_)
    refine wpAny_bind (wpAny_pure ?_)
    refine wpAny_bind (iter_intList hl fun s2 e st hfp hlI => ?_)
    subst e
    refine wpAny_bind (wpAny_newList ?_ (Nat.zero_le _))
    rw [mn_name]
    have Wl := Walks.list (prog := prog) (w := w) (A := A.in1) hh _ l hlI (intItems xs)
    have lt1 : ∀ b o, s.heap.get? b = some o → b < s.heap.objs.size := fun b o e => Heap.lt_size e
    generalize hp : s.heap.push { cls := .type "list_iterator", data := .fields #[.ref l, .int 0 0] } = hI at *
    have old : ∀ b o, s.heap.get? b = some o → hI.get? b = some o := fun b o e => by rw [← hp]; exact Heap.get?_push_of_some _ e
    have szI : s.heap.objs.size < hI.objs.size := by rw [← hp, Heap.size_push]; exact Nat.lt_succ_self _
    refine wpAny_pure ⟨plainId_quiet F.plain_min_loop _, mn_first Wl _ (CmpOf.ints_lt (numAt xs) (fun _ _ => intItems_at)) hI.objs.size (fun z => Nat.lt_irrefl _ (hfp _ z)) _ d (c := 0) (Wl.frame _ _ _ st fun b _ o e => Heap.get?_push_of_some _ e) (Heap.get?_push_size _ rfl) (fun e v h tk pv keep => ?_) fun e h tk keep => ?_⟩
    · refine hR (by rw [← sz]; exact e) v h tk (by rw [← sz]; exact pv) fun b o eb => keep b o (fun z => ?_) (fun z => ?_) (Heap.get?_push_of_some _ (old b o eb))
      · exact absurd (lt1 b o eb) (by rw [List.mem_singleton.mp z]; exact Nat.lt_irrefl _)
      · exact absurd (Nat.lt_trans (lt1 b o eb) szI) (by rw [z]; exact Nat.lt_irrefl _)
    · refine h0 (by rw [← sz]; exact e) h tk fun b o eb => keep b o (fun z => ?_) (fun z => ?_) (Heap.get?_push_of_some _ (old b o eb))
      · exact absurd (lt1 b o eb) (by rw [List.mem_singleton.mp z]; exact Nat.lt_irrefl _)
      · exact absurd (Nat.lt_trans (lt1 b o eb) szI) (by rw [z]; exact Nat.lt_irrefl _)
  have ha := mn_args (.ref l) d
  cases hsig : Manifest.signature? "min" with
  | none => exact wpAny_pure body
  | some sig =>
    have ha' : Bind.checkArgs "min" sig ⟨[.ref l], [("default", d)]⟩ = pure () := by simpa only [argsOk, hsig] using ha
    simp only [ha']; exact wpAny_pure body
end
/-! ### the keys of a dict, whatever they are -/
def KD (d : Addr) (es : Array DictEntry) (ep : Nat) (h : Heap) : Prop := ∃ o, h.get? d = some o ∧ o.ExactDict ∧ o.data = .dict es ep
theorem KD.stay {d : Addr} {es : Array DictEntry} {ep : Nat} {h h' : Heap} (x : KD d es ep h) (k : ∀ o, h.get? d = some o → h'.get? d = some o) : KD d es ep h' := let ⟨o, e, r⟩ := x; ⟨o, k o e, r⟩
theorem KD.lt {d : Addr} {es : Array DictEntry} {ep : Nat} {h : Heap} (x : KD d es ep h) : d < h.objs.size := let ⟨_, e, _⟩ := x; Heap.lt_size e
theorem KD.ty {d : Addr} {es : Array DictEntry} {ep : Nat} {s : Shared} (x : KD d es ep s.heap) : s.TypeIs (.ref d) "dict" := let ⟨o, e, c, _⟩ := x; ⟨o, e, c.1⟩
abbrev kiO (d : Addr) (n ep : Nat) : Obj := { cls := .type "dict_keyiterator", data := .fields #[.ref d, .int 0 0, .int n 0, .int ep 0] }
section
variable {prog : Program} {w : World} {A : Around} {E : Value → Shared → Prop} {s : Shared} {d it : Addr} {es : Array DictEntry} {ep i : Nat}
theorem kd_iter {Q : Value → Shared → Prop} (ns : (d == sysModules) = false) (x : KD d es ep s.heap) (q : Q (.ref s.heap.objs.size) { s with heap := s.heap.push (kiO d es.size ep) }) : wpAny (model prog w) A (pyIter (.ref d)) Q E s := by
  obtain ⟨o, ho, hc, hd⟩ := id x
  refine wpAny_pyIter_slot x.ty F.slot_dict_iter (wpAny_call_entry F.slot_dict_iter x.ty F.entry_dict_iter ?_ (F.args_dict_iter_1 _))
  unfold Builtin.«dict.__iter__» Builtin.Dict.dictSlotNone
  refine wpAny_bind (wpAny_bind (wpAny_notOrdered_dict x.ty ?_)); show wpAny _ _ (pure (Value.ref d)) _ _ s
  refine wpAny_pure ?_; show wpAny _ _ (Builtin.Dict.showsAll d >>= _) _ _ s
  unfold Builtin.Dict.showsAll; rw [if_neg (by rw [ns]; decide)]
  refine wpAny_bind (wpAny_pure (wpAny_bind (wpAny_dictEntries ho hd (wpAny_bind (wpAny_dictEpoch ho hd (wpAny_bind (wpAny_newObj_type (wpAny_pure ⟨_, rfl, "dict_keyiterator", _, ⟨_, Heap.get?_push_size _ rfl, rfl⟩, F.slot_dict_keyiterator_next.lookup, ?_⟩))))))))
  simpa [rawInt, kiO] using q
/-- what is common to the two steps of the walk -/
theorem kd_next {Q : Option Value → Shared → Prop} (hit : s.heap.IsKeyIter it d i es.size ep) (x : KD d es ep s.heap) (hi : i < es.size) (q : ∀ h, h.IsKeyIter it d (i + 1) es.size ep → Heap.SameBut it s.heap h → Q (some es[i].key) { s with heap := h }) : wpAny (model prog w) A (pyNext (.ref it)) Q E s := by
  obtain ⟨o, ho, hc, hd⟩ := id hit
  obtain ⟨od, hod, _, hdd⟩ := id x
  unfold pyNext
  refine wpAny_bind (wpAny_attempt (wpAny_callSpecial?_slot (name := Str.ofString "__next__") hit.typeIs F.slot_dict_keyiterator_next (wpAny_call_entry F.slot_dict_keyiterator_next hit.typeIs F.entry_dict_keyiterator_next ?_ (F.args_dict_keyiterator_next_1 _))))
  refine wpAny_bind (wpAny_pure (wpAny_bind (wpAny_bind ?_)))
  first | refine wpAny_bind (wpAny_typeNameOfWhole_keyiter hit.typeIs (wpAny_pure (wpAny_bind (wpAny_fieldsOf ho hd ?_)))) | refine wpAny_bind (wpAny_typeNameOf_keyiter hit.typeIs (wpAny_pure (wpAny_bind (wpAny_fieldsOf ho hd ?_))))
  simp only [show Builtin.Dict_items.ownsTuple "dict_keyiterator" = false by decide, Bool.false_eq_true, if_false]
  show wpAny _ _ (if (Value.ref d == Value.none) = true then _ else _) _ _ s
  rw [if_neg (fun z => Bool.false_ne_true z : ¬ ((Value.ref d == Value.none) = true))]
  refine wpAny_bind (wpAny_pure (wpAny_bind (wpAny_dictEntries hod hdd ?_))); rw [if_neg (by simp)]
  refine wpAny_bind (wpAny_pure (wpAny_bind (wpAny_dictEpoch hod hdd ?_))); rw [if_neg (by simp)]
  refine wpAny_pure ?_
  simp only [show ¬ ((i : Int) < 0) from by omega, if_false, Int.toNat_natCast, Array.getElem?_eq_getElem hi]
  refine wpAny_bind ?_
  first | refine wpAny_bind (wpAny_typeNameOfWhole_keyiter hit.typeIs (wpAny_pure (wpAny_bind (wpAny_isOneOf_keyiter hit.typeIs ?_)))) | refine wpAny_bind (wpAny_typeNameOf_keyiter hit.typeIs (wpAny_pure (wpAny_bind (wpAny_isOneOf_keyiter hit.typeIs ?_))))
  show wpAny _ _ (setField (.ref it) 1 (rawInt ((i : Int) + 1)) >>= _) _ _ s; refine wpAny_bind (wpAny_setField ho hd (by simp) ?_)
  have next : (s.heap.update it (Obj.mapFields (·.setIfInBounds 1 (rawInt ((i : Int) + 1))))).IsKeyIter it d (i + 1) es.size ep := ⟨_, Heap.get?_update_self _ ho (Obj.isFreed_of_fields (Obj.data_mapFields hd _)), (Obj.cls_mapFields ..).trans hc, by rw [Obj.data_mapFields hd]; simp [rawInt]⟩
  refine wpAny_bind (wpAny_holding (wpAny_bind (wpAny_isOneOf_keyiter (s := { s with heap := s.heap.update it (Obj.mapFields (·.setIfInBounds 1 (rawInt ((i : Int) + 1)))) }) next.typeIs ?_)))
  show wpAny _ _ (pure es[i].key) _ _ _
  exact wpAny_pure (wpAny_pure ⟨_, rfl, wpAny_pure (q _ next (Heap.SameBut.update ..))⟩)
theorem kd_end {Q : Option Value → Shared → Prop} (hh : A.handled = none) (hit : s.heap.IsKeyIter it d es.size es.size ep) (x : KD d es ep s.heap) (q : ∀ h, Heap.ExtBut it s.heap h → Q none { s with heap := h }) : wpAny (model prog w) A (pyNext (.ref it)) Q E s := by
  obtain ⟨o, ho, hc, hd⟩ := id hit
  obtain ⟨od, hod, _, hdd⟩ := id x
  unfold pyNext
  refine wpAny_bind (wpAny_attempt (wpAny_callSpecial?_slot (name := Str.ofString "__next__") hit.typeIs F.slot_dict_keyiterator_next (wpAny_call_entry F.slot_dict_keyiterator_next hit.typeIs F.entry_dict_keyiterator_next ?_ (F.args_dict_keyiterator_next_1 _))))
  refine wpAny_bind (wpAny_pure (wpAny_bind (wpAny_bind ?_)))
  first | refine wpAny_bind (wpAny_typeNameOfWhole_keyiter hit.typeIs (wpAny_pure (wpAny_bind (wpAny_fieldsOf ho hd ?_)))) | refine wpAny_bind (wpAny_typeNameOf_keyiter hit.typeIs (wpAny_pure (wpAny_bind (wpAny_fieldsOf ho hd ?_))))
  simp only [show Builtin.Dict_items.ownsTuple "dict_keyiterator" = false by decide, Bool.false_eq_true, if_false]
  show wpAny _ _ (if (Value.ref d == Value.none) = true then _ else _) _ _ s
  rw [if_neg (fun z => Bool.false_ne_true z : ¬ ((Value.ref d == Value.none) = true))]
  refine wpAny_bind (wpAny_pure (wpAny_bind (wpAny_dictEntries hod hdd ?_))); rw [if_neg (by simp)]
  refine wpAny_bind (wpAny_pure (wpAny_bind (wpAny_dictEpoch hod hdd ?_))); rw [if_neg (by simp)]
  refine wpAny_pure ?_
  simp only [show ¬ ((es.size : Int) < 0) from by omega, if_false, Int.toNat_natCast, Array.getElem?_eq_none (Nat.le_refl es.size)]
  refine wpAny_bind ?_
  first | refine wpAny_bind (wpAny_typeNameOfWhole_keyiter hit.typeIs (wpAny_pure ?_)) | refine wpAny_bind (wpAny_typeNameOf_keyiter hit.typeIs (wpAny_pure ?_)); skip
  show wpAny _ _ (setField (.ref it) 0 .none >>= _) _ _ s; refine wpAny_bind (wpAny_setField ho hd (by simp) ?_)
  show wpAny _ _ (newExc (.type "StopIteration") [] >>= _) _ _ _; refine wpAny_bind ?_; simp only [newExc, newTuple]
  refine wpAny_bind (wpAny_newObj_type ?_ (by size_fits)); refine wpAny_bind (m := firstArgMember _ _) (wpAny_of_eq (a := Value.none) (by first | rfl | (simp only [firstArgMember]; rfl)) ?_)
  refine wpAny_newObj_type ?_ (by size_fits); simp only [raiseNew]; refine wpAny_bind (wpAny_handled ?_)
  rw [show A.in1.handled = none from hh]; refine wpAny_bind (wpAny_pure (wpAny_throw ?_)); refine wpAny_bind (wpAny_isInstance (T := "StopIteration") (b := true) ⟨_, Heap.get?_push_size _ rfl, rfl⟩ isSubtype_stop ?_)
  exact wpAny_pure (q _ (((Heap.SameBut.update ..).extBut.push _).push _))
theorem kd_walks (hh : A.handled = none) (I : Addr) (ne : d ≠ I) : Walks prog w A I [I, d] [I] es.size (fun i v => ∃ e, es[i]? = some e ∧ v = e.key) (fun i h => h.IsKeyIter I d i es.size ep ∧ KD d es ep h) where
  sub := fun b hb => List.mem_cons.mpr (.inl (List.mem_singleton.mp hb))
  frame := fun _ _ _ st k => ⟨st.1.at fun o e => k I (by simp) o e, st.2.stay fun o e => k d (by simp) o e⟩
  item := fun i s Q E hi st q => kd_next st.1 st.2 hi fun h hit sb => q _ h s.toks ⟨es[i], Array.getElem?_eq_getElem hi, rfl⟩ ⟨hit, st.2.stay fun o e => sb.extBut d o ne e⟩ fun b o hb e => sb.extBut b o (fun z => hb (by simp [z])) e
  done := fun s Q E st q => kd_end hh st.1 st.2 fun h eb => q h s.toks fun b o hb e => eb b o (fun z => hb (by simp [z])) e
  self := fun _ _ _ _ st q => wpAny_pyIter_keyiter st.1 q
end
end L2
set_option Elab.async false
set_option linter.all false
set_option maxRecDepth 100000
set_option maxHeartbeats 1000000
/-! list of a dict whose keys are tuples; sorted of a dict that a loop walked; min with a default -/
namespace L2
open PySem PySem.Spec PyProof.Rows PySem.W
theorem Paired.nth {α β : Type} {F : α → β → Prop} : ∀ {xs : List α} {ys : List β}, Paired F xs ys → ∀ {i : Nat} {a : α} {b : β}, xs[i]? = some a → ys[i]? = some b → F a b
  | _, _, .nil, i, a, b, e, _ => by simp at e
  | _, _, .cons r t, 0, a, b, e1, e2 => by cases e1; cases e2; exact r
  | _, _, .cons r t, i + 1, a, b, e1, e2 => Paired.nth t (i := i) (by simpa using e1) (by simpa using e2)
theorem Paired.lens {α β : Type} {F : α → β → Prop} : ∀ {xs : List α} {ys : List β}, Paired F xs ys → xs.length = ys.length
  | _, _, .nil => rfl
  | _, _, .cons _ t => congrArg (· + 1) (Paired.lens t)
section
variable {prog : Program} {w : World} {d : Addr} {es : Array DictEntry} {ep : Nat}
theorem src_d (ns : (d == sysModules) = false) : KdlSrc prog w "dict" d d es.size (fun i v => ∃ e, es[i]? = some e ∧ v = e.key) (KD d es ep) where
  type := fun _ x => x.ty
  there := fun _ x => ⟨x.lt, x.lt⟩
  keep := fun _ _ x k => x.stay fun o e => k d (.inl rfl) o e
  notList := by decide
  notTuple := by decide
  hint := fun _ _ _ _ x q => kdl_hint_dict x.ty q
  iter := fun _ s hh x => ⟨kiO d es.size ep, _, (fun _ _ q => kd_iter ns x q), kd_walks hh _ (Nat.ne_of_lt x.lt), ⟨⟨_, Heap.get?_push_size _ rfl, rfl, rfl⟩, x.stay fun o e => Heap.get?_push_of_some _ e⟩⟩
end
section
variable {X : Cx}
/-- list(d), the keys being tuples -/
theorem call_listT (hc : X.calm = true) : CallR X (.type "list") (fun xs H Q => ∃ (d : Addr) (kvs : List (List Key × V)), xs = [.ref d] ∧ H d = some (.dT kvs) ∧ ∀ (l : Addr) (ts : List Addr), H l = none → ts.length = kvs.length → (∀ (i : Nat) t p, ts[i]? = some t → kvs[i]? = some p → H t = some (.tup (p.1.map kV))) → Q (.ref l) (upd H l (.lst (ts.map V.ref)))) := by
  intro pins s σ H xs us Q I r h
  obtain ⟨d, kvs, rfl, hd, q⟩ := h
  obtain ⟨u, rfl, rx⟩ := vals1 r
  cases rx
  obtain ⟨z, hsys, ks, rel, ob, es, ep, g1, g2, g3, g4, g5⟩ := (show ObjOk X.prog X.w H s.heap d (.dT kvs) from I.hok d _ hd)
  have kd : KD d es ep s.heap := ⟨ob, g1, g2, g3⟩
  have hf : H s.heap.objs.size = none := I.hok.fresh (Nat.le_refl _)
  have lk : kvs.length = ks.length := Paired.lens rel
  have len : es.size = ks.length := by have := congrArg List.length g4; rw [List.length_map, Array.length_toList] at this; exact this
  refine kdl_call (src_d hsys) (I.ok.hd hc) kd (by rw [len, ← lk]; exact z) fun h' tk acc' c' hk hS' hacc => ?_
  refine ⟨.ref s.heap.objs.size, _, I.laid (t' := tk) hk (Nat.le_refl _) (show ObjOk X.prog X.w _ h' _ (.lst ((ks.map fun k => k.2.1).map V.ref)) from ⟨by rw [List.length_map, List.length_map, ← lk]; exact z, acc'.toList, c', ?_, by simpa using hS'⟩), rfl, q _ (ks.map fun k => k.2.1) hf (by rw [List.length_map, lk]) ?_⟩
  · refine vals_gets (by rw [List.length_map, List.length_map, ← len]; exact hacc.1.symm.trans Array.length_toList.symm) fun i x u e1 e2 => ?_
    obtain ⟨e, h1, h2⟩ := hacc.2 i u (by simpa using e2)
    rw [← Array.getElem?_toList, g4, List.getElem?_map] at h1
    rw [List.getElem?_map, List.getElem?_map] at e1
    cases ek : ks[i]? with
    | none => rw [ek] at e1; cases e1
    | some k =>
      rw [ek] at e1 h1
      cases e1
      cases h1
      exact h2
  · intro i t p e1 e2
    rw [List.getElem?_map] at e1
    cases ek : ks[i]? with
    | none => rw [ek] at e1; cases e1
    | some k =>
      rw [ek] at e1
      cases e1
      exact (Paired.nth rel e2 ek).2.1
/-- sorted(d), also of one that a loop has walked -/
theorem call_sortedR (hc : X.calm = true) : CallR X (.builtin "sorted") (fun xs H Q => ∃ (d : Addr) (kvs : List (Key × V)) (ns : List Int), xs = [.ref d] ∧ Rd H d (.dK kvs) ∧ kvs.map (·.1) = ns.map Sum.inl ∧ ns.length < 64 ∧ ∀ (l : Addr) (ms : List Int), H l = none → ms.Perm ns → ms.Pairwise (· ≤ ·) → Q (.ref l) (upd H l (.lst (ms.map V.int)))) := by
  intro pins s σ H xs us Q I r h
  obtain ⟨d, kvs, ns, rfl, hd, hk, h64, q⟩ := h
  obtain ⟨u, rfl, rx⟩ := vals1 r
  cases rx
  obtain ⟨z, hsys, vs, rel, ob, es, ep, g1, g2, g3, g4⟩ := dk_rd I.hok hd
  have da : s.heap.DictAt (mixKind X.prog X.w) d vs ep := ⟨ob, es, g1, g2, g3, g4⟩
  have hlen := rel.length
  have lk : kvs.length = ns.length := by have := congrArg List.length hk; rw [List.length_map, List.length_map] at this; exact this
  refine Calls.call_function_entry kind_sorted plain_sorted entry_sorted (args_sorted1 _) ?_
  unfold Builtin.«sorted»
  refine wpAny_bind (m := checkCount "sorted" 1 1 _) (wpAny_pure ?_)
  refine wpAny_bind (kdu_collect (A := X.A.in1) (kdl_dict (knd := mixKind X.prog X.w) (kvs := vs) (ep := ep) hsys) (I.ok.hd hc) da (by rw [← hlen]; exact z) fun h' tk acc hk' hacc => ?_)
  have hl : acc.toList.length = vs.length := by rw [Array.length_toList]; exact hacc.1
  refine wpAny_bind (wpAny_newList ?_ (by rw [hl, ← hlen]; exact z))
  have hI : IntsAre acc.toList ns := intsAre_of (vals_gets (by rw [List.length_map, hl, ← hlen, lk]) fun i x u e1 e2 => by
    rw [List.getElem?_map] at e1
    cases en : ns[i]? with
    | none => rw [en] at e1; cases e1
    | some n =>
      rw [en] at e1
      cases e1
      obtain ⟨k, y, h1, h2⟩ := hacc.2 i u (by rw [← Array.getElem?_toList]; exact e2)
      have hi : i < kvs.length := by rw [lk]; exact (List.getElem?_eq_some_iff.mp en).1
      obtain ⟨u', h3, _⟩ := rel.at (i := i) (k := kvs[i].1) (x := kvs[i].2) (List.getElem?_eq_getElem hi)
      rw [h1] at h3
      cases h3
      have ek : kvs[i].1 = Sum.inl n := by
        have : (kvs.map (·.1))[i]? = (ns.map Sum.inl)[i]? := by rw [hk]
        rw [List.getElem?_map, List.getElem?_map, en, List.getElem?_eq_getElem hi] at this
        injection this
      have := kV_of h2
      rw [ek] at this
      exact this)
  have hoL : (h'.push (seqObj "list" acc.toList.toArray 0)).get? h'.objs.size = some (seqObj "list" acc.toList.toArray 0) := Heap.get?_push_size _ rfl
  show wpAny _ _ _ _ _ { s with heap := h'.push (seqObj "list" acc.toList.toArray 0), toks := tk }
  refine wpAny_bind (wpAny_holding (wpAny_call_entry slot_list_sort ⟨_, hoL, rfl⟩ entry_list_sort (list_sort_tree (s := { s with heap := h'.push (seqObj "list" acc.toList.toArray 0), toks := tk }) hoL hI (by rw [hl, ← hlen, lk]; exact h64) fun out ms a1 a2 a3 => ⟨_, rfl, ?_⟩) (args_list_sort _)))
  obtain ⟨e, he⟩ := sortedHeap_at (vs := acc.toList) (out := out) hoL
  have lt : ∀ b o, s.heap.get? b = some o → b < h'.objs.size := fun b o e => Heap.lt_size (hk' b o e)
  have nD : s.heap.get? h'.objs.size = none := by
    cases e0 : s.heap.get? h'.objs.size with
    | none => rfl
    | some o => exact absurd (lt _ _ e0) (Nat.lt_irrefl _)
  have nA : NewAt X pins H h'.objs.size := I.newAt nD
  have hf : H h'.objs.size = none := nA.free
  have I1 : Inv X pins σ H { s with heap := sortedHeap (h'.push (seqObj "list" acc.toList.toArray 0)) h'.objs.size acc.toList out, toks := tk } := I.kept (t' := tk) fun b o e => by
    rw [sortedHeap_old (Nat.ne_of_lt (lt b o e)) (by rw [size_push']; exact Nat.lt_succ_of_lt (lt b o e))]
    exact Heap.get?_push_of_some _ (hk' b o e)
  refine wpAny_pure ⟨_, rfl, .ref h'.objs.size, _, I1.track (o := .lst (ms.map V.int)) nA (show ObjOk X.prog X.w _ _ _ (.lst (ms.map V.int)) from ⟨?_, out.toList, e, ints_vals a1, by rw [Array.toArray_toList]; exact he⟩), rfl, q _ ms hf a2 a3⟩
  rw [List.length_map, a2.length_eq]
  exact small_len (by omega)
/-- min(e, default=d), of whole numbers -/
def tMinN (K : PySem.W.Frag) (te td : TE) : TE := fun σ H Q => te σ H fun v H1 => td σ H1 fun dv H2 => ∃ (p : Addr) (ns : List Int), v = .ref p ∧ SqL K H2 p (ns.map V.int) ∧ (ns = [] → Q dv H2) ∧ (ns ≠ [] → ∀ m : Int, m ∈ ns → (∀ n ∈ ns, m ≤ n) → Q (.int m) H2)
theorem pe_minN {e dflt : Expr} {te td : TE} {p kp pos : Pos} (he : PE X e te) (hd : PE X dflt td) (hc : X.calm = true) (hg : Gl X "min") (hm : X.mg "min" = none) (hst : starEach [e] X.env = [(false, eval e X.env)] := by rfl) :
    PE X (.Call (.Name "min" p) [e] [⟨some "default", dflt, kp⟩] pos) (tMinN X.K te td) := by
  intro pins s σ H Q I h
  refine wpAny_Call_Name_kw (ld_blt I hg hm (rfl : bootBuiltins "min" = some (.builtin "min")) ?_)
  have ha : PA X [e] (tCons te tNil) := pa_cons he pa_nil hst
  refine callWith_kw (thn (ha pos pins s σ H (fun vs H1 => match vs with
    | [v] => td σ H1 fun dv H2 => ∃ (p : Addr) (ns : List Int), v = .ref p ∧ SqL X.K H2 p (ns.map V.int) ∧ (ns = [] → Q dv H2) ∧ (ns ≠ [] → ∀ m : Int, m ∈ ns → (∀ n ∈ ns, m ≤ n) → Q (.int m) H2)
    | _ => False) I h) fun us s1 ⟨vs, H1, I1, r1, q1⟩ => ?_) (by rw [hst]; rfl) (by rw [hst]; rfl)
  match vs, r1, q1 with
  | [v], r1, q1 =>
    obtain ⟨u, rfl, ru⟩ := vals1 r1
    refine kws_cons (thn (hd pins s1 σ H1 _ I1 q1) fun dv s2 ⟨x, H2, I2, rx, a, ns, ev, hq, k0, k1⟩ => kws_nil ?_)
    subst ev
    cases ru
    show wpAny _ _ (call (.builtin "min") [.ref a] [("default", dv)]) _ _ s2
    obtain ⟨its, rv, pl, hz⟩ := I2.list hq
    have hi : IntsAre its ns := intsAre_of rv
    have hl := pl.isList
    obtain ⟨zs, ez⟩ := hi.allInts.items
    have en : ns = zs.toList.map (·.1) := (hi.numsOf.symm.trans (by rw [← nums_intItems, ← ez]))
    rw [ez] at hl
    refine mn_call dv (I2.ok.hd hc) hl (fun pz v h' tk hv hk => ?_) fun pz h' tk hk => ?_
    · obtain ⟨t, rfl⟩ := intItems_at hv
      obtain ⟨h1, h2⟩ := argBest_lt (numAt zs) (zs.size - 1)
      refine ⟨.int _, H2, I2.kept hk, ⟨_, rfl⟩, k1 (fun z => by rw [z] at en; have := congrArg List.length en; simp at this; omega) _ ?_ fun n hn => ?_⟩
      · rw [en, numAt_eq]; exact getD_mem (by rw [List.length_map, Array.length_toList] <;> omega)
      · rw [en] at hn
        obtain ⟨j, hj, rfl⟩ := mem_getD hn
        rw [List.length_map, Array.length_toList] at hj; rw [← numAt_eq]; exact h2 j (by omega)
    · exact ⟨x, H2, I2.kept hk, rx, k0 (by rw [en, List.map_eq_nil_iff, List.eq_nil_iff_length_eq_zero, Array.length_toList]; exact pz)⟩
end
end L2
set_option Elab.async false
set_option linter.all false
set_option maxRecDepth 100000
set_option maxHeartbeats 1000000
namespace K32
open PySem L2 PyProof.Rows
/-! ### the text by places -/
def top (i : Nat) : Stmt := PySem.Challenge.pw_volumemend_k32_names_told.main.body.getD i (.Pass ⟨0, 0, 0, 0⟩)
abbrev s_many_slots : Stmt := top 5
abbrev s_slot_at : Stmt := top 6
abbrev s_slot : Stmt := top 7
abbrev s_used_slots : Stmt := top 8
abbrev s_slot_of : Stmt := top 9
abbrev s_slots_naming : Stmt := top 10
abbrev s_names_in : Stmt := top 11
abbrev s_free_slot : Stmt := top 12
abbrev s_Layout_init : Stmt := inClass (top 18) 0
abbrev s_Layout_record_at : Stmt := inClass (top 18) 2
abbrev s_Layout_names_at : Stmt := inClass (top 18) 3
abbrev s_l_cell_at : Stmt := top 20
abbrev s_l_link : Stmt := top 21
abbrev s_l_links : Stmt := top 22
abbrev s_l_crowned : Stmt := top 23
abbrev s_l_slots : Stmt := top 24
abbrev s_l_volume : Stmt := top 25
abbrev s_l_naming : Stmt := top 26
abbrev s_l_within : Stmt := top 27
abbrev s_law : Stmt := top 28
theorem sc_many_slots : FnScope ["layout"] ["layout"] (defScope s_many_slots) := ⟨rfl, rfl, rfl, by decide +kernel, rfl, by decide +kernel, by decide +kernel⟩
theorem sc_slot_at : FnScope ["layout", "s"] ["layout", "s"] (defScope s_slot_at) := ⟨rfl, rfl, rfl, by decide +kernel, rfl, by decide +kernel, by decide +kernel⟩
theorem sc_slot : FnScope ["layout", "volume", "s", "at"] ["layout", "volume", "s"] (defScope s_slot) := ⟨rfl, rfl, rfl, by decide +kernel, rfl, by decide +kernel, by decide +kernel⟩
theorem sc_used_slots : FnScope ["layout", "volume", "told", "s", "numbers"] ["layout", "volume"] (defScope s_used_slots) := ⟨rfl, rfl, rfl, by decide +kernel, rfl, by decide +kernel, by decide +kernel⟩
theorem sc_slot_of : FnScope ["layout", "volume", "folder", "name", "s", "numbers"] ["layout", "volume", "folder", "name"] (defScope s_slot_of) := ⟨rfl, rfl, rfl, by decide +kernel, rfl, by decide +kernel, by decide +kernel⟩
theorem sc_slots_naming : FnScope ["layout", "volume", "file"] ["layout", "volume", "file"] (defScope s_slots_naming) := ⟨rfl, rfl, rfl, by decide +kernel, rfl, by decide +kernel, by decide +kernel⟩
theorem sc_names_in : FnScope ["layout", "volume", "folder"] ["layout", "volume", "folder"] (defScope s_names_in) := ⟨rfl, rfl, rfl, by decide +kernel, rfl, by decide +kernel, by decide +kernel⟩
theorem sc_free_slot : FnScope ["layout", "volume", "used", "s"] ["layout", "volume"] (defScope s_free_slot) := ⟨rfl, rfl, rfl, by decide +kernel, rfl, by decide +kernel, by decide +kernel⟩
theorem sc_Layout_init : FnScope ["self", "files", "slots", "data"] ["self", "files", "slots", "data"] (defScope s_Layout_init) := ⟨rfl, rfl, rfl, by decide +kernel, rfl, by decide +kernel, by decide +kernel⟩
theorem sc_Layout_record_at : FnScope ["self", "f"] ["self", "f"] (defScope s_Layout_record_at) := ⟨rfl, rfl, rfl, by decide +kernel, rfl, by decide +kernel, by decide +kernel⟩
theorem sc_Layout_names_at : FnScope ["self", "e"] ["self", "e"] (defScope s_Layout_names_at) := ⟨rfl, rfl, rfl, by decide +kernel, rfl, by decide +kernel, by decide +kernel⟩
theorem sc_l_cell_at : FnScope ["_law_script", "_law_k"] ["_law_script", "_law_k"] (defScope s_l_cell_at) := ⟨rfl, rfl, rfl, by decide +kernel, rfl, by decide +kernel, by decide +kernel⟩
theorem sc_l_link : FnScope ["_law_links_here", "_law_placed", "_law_cell", "_law_f", "_law_folder", "_law_name"] ["_law_links_here", "_law_placed", "_law_cell", "_law_f"] (defScope s_l_link) := ⟨rfl, rfl, rfl, by decide +kernel, rfl, by decide +kernel, by decide +kernel⟩
theorem sc_l_links : FnScope ["_law_script", "_law_files", "_law_placed", "_law_links_here", "_law_k", "_law_f", "_law_cell"] ["_law_script", "_law_files"] (defScope s_l_links) := ⟨rfl, rfl, rfl, by decide +kernel, rfl, by decide +kernel, by decide +kernel⟩
theorem sc_l_crowned : FnScope ["_law_volume_here", "_law_files", "_law_slots_here", "_law_label", "_law_head"] ["_law_volume_here", "_law_files", "_law_slots_here", "_law_label"] (defScope s_l_crowned) := ⟨rfl, rfl, rfl, by decide +kernel, rfl, by decide +kernel, by decide +kernel⟩
theorem sc_l_slots : FnScope ["_law_script", "_law_links_here", "_law_slots_here", "_law_told", "_law_k"] ["_law_script", "_law_links_here", "_law_slots_here"] (defScope s_l_slots) := ⟨rfl, rfl, rfl, by decide +kernel, rfl, by decide +kernel, by decide +kernel⟩
theorem sc_l_volume : FnScope ["_law_script", "_law_files", "_law_slots_here", "_law_told", "_law_cell", "_law_volume_here", "_law_f", "_law_kind", "_law_many", "_law_stale", "_law_s", "_law_numbers", "_law_k"] ["_law_script", "_law_files", "_law_slots_here", "_law_told"] (defScope s_l_volume) := ⟨rfl, rfl, rfl, by decide +kernel, rfl, by decide +kernel, by decide +kernel⟩
theorem sc_l_naming : FnScope ["_law_layout", "_law_volume_here", "_law_told", "_law_f", "_law_naming_here", "_law_turn", "_law_found"] ["_law_layout", "_law_volume_here", "_law_told", "_law_f"] (defScope s_l_naming) := ⟨rfl, rfl, rfl, by decide +kernel, rfl, by decide +kernel, by decide +kernel⟩
theorem sc_l_within : FnScope ["_law_layout", "_law_volume_here", "_law_told", "_law_folder", "_law_within_here", "_law_turn", "_law_found"] ["_law_layout", "_law_volume_here", "_law_told", "_law_folder"] (defScope s_l_within) := ⟨rfl, rfl, rfl, by decide +kernel, rfl, by decide +kernel, by decide +kernel⟩
theorem sc_law : FnScope ["_law_script", "_law_files", "_law_slots_here", "_law_told", "_law_volume_here", "_law_layout", "_law_handed", "_law_free", "_law_folders", "_law_places", "_law_s", "_law_folder", "_law_name", "_law_other", "_law_where"] ["_law_script"] (defScope s_law) := ⟨rfl, rfl, rfl, by decide +kernel, rfl, by decide +kernel, by decide +kernel⟩
/-! ### what the top has written -/
set_option genInjectivity false in
set_option genSizeOfSpec false in
structure Tx (K : PySem.W.Frag) (mg : Str → Option Value) where
  C_Layout : Addr
  cl_Layout : Cls K C_Layout
  g_Layout : mg "Layout" = some (.ref C_Layout)
  n_Layout_files : NoAttr K C_Layout "files"
  n_Layout_slots : NoAttr K C_Layout "slots"
  n_Layout_data : NoAttr K C_Layout "data"
  C_NoLayout : Addr
  g_NoLayout : mg "NoLayout" = some (.ref C_NoLayout)
  f_many_slots : Addr
  fd_many_slots : FuncData
  F_many_slots : Fun K "many_slots" "many_slots" s_many_slots f_many_slots fd_many_slots
  b_many_slots : Binds K fd_many_slots ["layout"] []
  g_many_slots : mg "many_slots" = some (.ref f_many_slots)
  f_slot_at : Addr
  fd_slot_at : FuncData
  F_slot_at : Fun K "slot_at" "slot_at" s_slot_at f_slot_at fd_slot_at
  b_slot_at : Binds K fd_slot_at ["layout", "s"] []
  g_slot_at : mg "slot_at" = some (.ref f_slot_at)
  f_slot : Addr
  fd_slot : FuncData
  F_slot : Fun K "slot" "slot" s_slot f_slot fd_slot
  b_slot : Binds K fd_slot ["layout", "volume", "s"] []
  g_slot : mg "slot" = some (.ref f_slot)
  f_used_slots : Addr
  fd_used_slots : FuncData
  F_used_slots : Fun K "used_slots" "used_slots" s_used_slots f_used_slots fd_used_slots
  b_used_slots : Binds K fd_used_slots ["layout", "volume"] []
  g_used_slots : mg "used_slots" = some (.ref f_used_slots)
  f_slot_of : Addr
  fd_slot_of : FuncData
  F_slot_of : Fun K "slot_of" "slot_of" s_slot_of f_slot_of fd_slot_of
  b_slot_of : Binds K fd_slot_of ["layout", "volume", "folder", "name"] []
  g_slot_of : mg "slot_of" = some (.ref f_slot_of)
  f_slots_naming : Addr
  fd_slots_naming : FuncData
  F_slots_naming : Fun K "slots_naming" "slots_naming" s_slots_naming f_slots_naming fd_slots_naming
  b_slots_naming : Binds K fd_slots_naming ["layout", "volume", "file"] []
  g_slots_naming : mg "slots_naming" = some (.ref f_slots_naming)
  f_names_in : Addr
  fd_names_in : FuncData
  F_names_in : Fun K "names_in" "names_in" s_names_in f_names_in fd_names_in
  b_names_in : Binds K fd_names_in ["layout", "volume", "folder"] []
  g_names_in : mg "names_in" = some (.ref f_names_in)
  f_free_slot : Addr
  fd_free_slot : FuncData
  F_free_slot : Fun K "free_slot" "free_slot" s_free_slot f_free_slot fd_free_slot
  b_free_slot : Binds K fd_free_slot ["layout", "volume"] []
  g_free_slot : mg "free_slot" = some (.ref f_free_slot)
  f_Layout_init : Addr
  fd_Layout_init : FuncData
  F_Layout_init : Fun K "__init__" "Layout.__init__" s_Layout_init f_Layout_init fd_Layout_init
  b_Layout_init : Binds K fd_Layout_init ["self", "files", "slots", "data"] []
  mk_Layout : Mk K C_Layout f_Layout_init
  f_Layout_record_at : Addr
  fd_Layout_record_at : FuncData
  F_Layout_record_at : Fun K "record_at" "Layout.record_at" s_Layout_record_at f_Layout_record_at fd_Layout_record_at
  b_Layout_record_at : Binds K fd_Layout_record_at ["self", "f"] []
  m_Layout_record_at : Meth K C_Layout "record_at" f_Layout_record_at
  f_Layout_names_at : Addr
  fd_Layout_names_at : FuncData
  F_Layout_names_at : Fun K "names_at" "Layout.names_at" s_Layout_names_at f_Layout_names_at fd_Layout_names_at
  b_Layout_names_at : Binds K fd_Layout_names_at ["self", "e"] []
  m_Layout_names_at : Meth K C_Layout "names_at" f_Layout_names_at
  f_l_cell_at : Addr
  fd_l_cell_at : FuncData
  F_l_cell_at : Fun K "_law_cell_at" "_law_cell_at" s_l_cell_at f_l_cell_at fd_l_cell_at
  b_l_cell_at : Binds K fd_l_cell_at ["_law_script", "_law_k"] []
  g_l_cell_at : mg "_law_cell_at" = some (.ref f_l_cell_at)
  f_l_link : Addr
  fd_l_link : FuncData
  F_l_link : Fun K "_law_link" "_law_link" s_l_link f_l_link fd_l_link
  b_l_link : Binds K fd_l_link ["_law_links_here", "_law_placed", "_law_cell", "_law_f"] []
  g_l_link : mg "_law_link" = some (.ref f_l_link)
  f_l_links : Addr
  fd_l_links : FuncData
  F_l_links : Fun K "_law_links" "_law_links" s_l_links f_l_links fd_l_links
  b_l_links : Binds K fd_l_links ["_law_script", "_law_files"] []
  g_l_links : mg "_law_links" = some (.ref f_l_links)
  f_l_crowned : Addr
  fd_l_crowned : FuncData
  F_l_crowned : Fun K "_law_crowned" "_law_crowned" s_l_crowned f_l_crowned fd_l_crowned
  b_l_crowned : Binds K fd_l_crowned ["_law_volume_here", "_law_files", "_law_slots_here", "_law_label"] []
  g_l_crowned : mg "_law_crowned" = some (.ref f_l_crowned)
  f_l_slots : Addr
  fd_l_slots : FuncData
  F_l_slots : Fun K "_law_slots" "_law_slots" s_l_slots f_l_slots fd_l_slots
  b_l_slots : Binds K fd_l_slots ["_law_script", "_law_links_here", "_law_slots_here"] []
  g_l_slots : mg "_law_slots" = some (.ref f_l_slots)
  f_l_volume : Addr
  fd_l_volume : FuncData
  F_l_volume : Fun K "_law_volume" "_law_volume" s_l_volume f_l_volume fd_l_volume
  b_l_volume : Binds K fd_l_volume ["_law_script", "_law_files", "_law_slots_here", "_law_told"] []
  g_l_volume : mg "_law_volume" = some (.ref f_l_volume)
  f_l_naming : Addr
  fd_l_naming : FuncData
  F_l_naming : Fun K "_law_naming" "_law_naming" s_l_naming f_l_naming fd_l_naming
  b_l_naming : Binds K fd_l_naming ["_law_layout", "_law_volume_here", "_law_told", "_law_f"] []
  g_l_naming : mg "_law_naming" = some (.ref f_l_naming)
  f_l_within : Addr
  fd_l_within : FuncData
  F_l_within : Fun K "_law_within" "_law_within" s_l_within f_l_within fd_l_within
  b_l_within : Binds K fd_l_within ["_law_layout", "_law_volume_here", "_law_told", "_law_folder"] []
  g_l_within : mg "_law_within" = some (.ref f_l_within)
  f_law : Addr
  fd_law : FuncData
  F_law : Fun K "law" "law" s_law f_law fd_law
  b_law : Binds K fd_law ["_law_script"] []
  g_law : mg "law" = some (.ref f_law)
  t_EACH : Tok
  g_EACH : mg "EACH" = some (.int 2 t_EACH)
  t_SLOT_WIDE : Tok
  g_SLOT_WIDE : mg "SLOT_WIDE" = some (.int 4 t_SLOT_WIDE)
  t_USED : Tok
  g_USED : mg "USED" = some (.int 1 t_USED)
  t_RECORDS_AT : Tok
  g_RECORDS_AT : mg "RECORDS_AT" = some (.int 10 t_RECORDS_AT)
  ex_NoLayout : PySem.W.excIn K C_NoLayout bmV "ValueError.__new__" = true
  z_len : mg "len" = none
  z_range : mg "range" = none
  z_isinstance : mg "isinstance" = none
  z_list : mg "list" = none
  z_tuple : mg "tuple" = none
  z_int : mg "int" = none
  z_sum : mg "sum" = none
  z_min : mg "min" = none
  z_sorted : mg "sorted" = none
/-! ### the data -/
def lay (F E B : Int) : List (Str × V) := putF "data" (.int B) (putF "slots" (.int E) (putF "files" (.int F) []))
theorem fs : ¬ (("files" : Str) = "slots") := by decide +kernel
theorem fd : ¬ (("files" : Str) = "data") := by decide +kernel
theorem sd : ¬ (("slots" : Str) = "data") := by decide +kernel
theorem lay_files (F E B : Int) : (lay F E B).lookup ("files" : Str) = some (.int F) := by
  unfold lay
  rw [lookup_putF, if_neg fd, lookup_putF, if_neg fs, lookup_putF, if_pos rfl]
theorem lay_slots (F E B : Int) : (lay F E B).lookup ("slots" : Str) = some (.int E) := by
  unfold lay
  rw [lookup_putF, if_neg sd, lookup_putF, if_pos rfl]
theorem lay_no (F E B : Int) {m : Str} (h1 : ¬ m = "files") (h2 : ¬ m = "slots") (h3 : ¬ m = "data") : (lay F E B).lookup m = none := by
  unfold lay
  rw [lookup_putF, if_neg h3, lookup_putF, if_neg h2, lookup_putF, if_neg h1]
  rfl
/-- a layout stands at p -/
def Lay (C : Addr) (H : Hp) (p : Addr) (F E B : Int) : Prop := ∃ dx, H p = some (.ins C dx (lay F E B))
structure LayOk (F E B : Int) : Prop where
  f1 : 2 ≤ F
  f2 : F ≤ 12
  e1 : 1 ≤ E
  e2 : E ≤ 8
  b1 : 2 ≤ B
  b2 : B ≤ 40
theorem Lay.same {C : Addr} {H H' : Hp} {p : Addr} {F E B : Int} (h : Lay C H p F E B) (s : Same H H') : Lay C H' p F E B := let ⟨dx, e⟩ := h; ⟨dx, s _ _ e⟩
/-! ### the promises -/
def spInit (C N : Addr) : Sp := fun vs H Q X => ∃ (p dx : Addr) (F E B : Int), vs = [.ref p, .int F, .int E, .int B] ∧ H p = some (.ins C dx []) ∧
  (LayOk F E B → ∀ H' : Hp, H' p = some (.ins C dx (lay F E B)) → (∀ b o, H b = some o → b ≠ p → H' b = some o) → Q .non H') ∧ (¬ LayOk F E B → X (.ref N) none H)
def spAt (C : Addr) (g : Int → Int → Int → Int → Int) : Sp := fun vs H Q _ => ∃ (p : Addr) (F E B n : Int), vs = [.ref p, .int n] ∧ Lay C H p F E B ∧ Q (.int (g F E B n)) H
def spCell (K : PySem.W.Frag) : Sp := fun vs H Q _ => ∃ (a : Addr) (ns : List Int) (k : Nat), vs = [.ref a, .int k] ∧ SqL K H a (ns.map V.int) ∧ ns.length ≤ 63 ∧ Q (.int (ns.getD k 0)) H
def spSlotAt (C : Addr) : Sp := fun vs H Q _ => ∃ (p : Addr) (F E B s : Int), vs = [.ref p, .int s] ∧ Lay C H p F E B ∧ ∀ q, H q = none → Q (.ref q) (upd H q (.tup [.int (10 + F + s / 2), .int (s % 2 * 4)]))
def spSlot (C : Addr) : Sp := fun vs H Q _ => ∃ (p v : Addr) (F E B s : Int) (as : List Addr) (rows : List (List Int)) (j : Nat) (r : List Int), vs = [.ref p, .ref v, .int s] ∧ Lay C H p F E B ∧ Vol H v as rows ∧ (j : Int) = 10 + F + s / 2 ∧ rows[j]? = some r ∧
  ∀ (q : Addr) (H' : Hp), Same H H' → H' q = some (.tup (cutV (r.map V.int) (some (s % 2 * 4)) (some (s % 2 * 4 + 4)))) → Q (.ref q) H'
section
variable {P : Program} {w : World} {K : PySem.W.Frag} {mg : Str → Option Value} {base : Heap}
theorem ok_init (T : Tx K mg) : FnOk P w K mg base (CX1 P w) 1 T.f_Layout_init T.fd_Layout_init ["self", "files", "slots", "data"] (spInit T.C_Layout T.C_NoLayout) := by
  refine T.F_Layout_init.okX sc_Layout_init (fun vs H Q E h => ?_) (fun cdv A outer s H vs Q X hr h => ?_)
  · obtain ⟨p, dx, F, E, B, rfl, _⟩ := h
    rfl
  · obtain ⟨p, dx, F, E, B, rfl, hp, k, kx⟩ := h
    refine ⟨_, pss_cons (ps_if (pt_not (pt_chain op_le op_le pe_int (pv 1) pe_int)) (pss_one (ps_raise rfl T.ex_NoLayout rfl T.g_NoLayout takesN_cx (pa_cons pe_str pa_nil))) pss_nil)
      (pss_cons (ps_if (pt_not (pt_chain op_le op_le pe_int (pv 2) pe_int)) (pss_one (ps_raise rfl T.ex_NoLayout rfl T.g_NoLayout takesN_cx (pa_cons pe_str pa_nil))) pss_nil)
      (pss_cons (ps_if (pt_not (pt_chain op_le op_le pe_int (pv 3) pe_int)) (pss_one (ps_raise rfl T.ex_NoLayout rfl T.g_NoLayout takesN_cx (pa_cons pe_str pa_nil))) pss_nil)
      (pss_cons (ps_fld (pv 0) (pv 1) rfl) (pss_cons (ps_fld (pv 0) (pv 2) rfl) (pss_one (ps_fld (pv 0) (pv 3) rfl)))))), ?_⟩
    have no : ¬ LayOk F E B → [V.str "x"].length ≤ sizeLine ∧ X (.ref T.C_NoLayout) none H := fun h => ⟨by decide, kx h⟩
    refine ⟨_, rfl, _, _, rfl, rfl, _, rfl, ite2 (fun f1 => ?_) (fun f1 => ⟨_, rfl, iteT (no fun ok => f1 (by simpa using ok.f1))⟩)⟩
    refine ⟨_, _, rfl, rfl, _, rfl, ite2 (fun f2 => no fun ok => by simp [ok.f2] at f2) (fun f2 => ?_)⟩
    refine ⟨_, rfl, _, _, rfl, rfl, _, rfl, ite2 (fun e1 => ?_) (fun e1 => ⟨_, rfl, iteT (no fun ok => e1 (by simpa using ok.e1))⟩)⟩
    refine ⟨_, _, rfl, rfl, _, rfl, ite2 (fun e2 => no fun ok => by simp [ok.e2] at e2) (fun e2 => ?_)⟩
    refine ⟨_, rfl, _, _, rfl, rfl, _, rfl, ite2 (fun b1 => ?_) (fun b1 => ⟨_, rfl, iteT (no fun ok => b1 (by simpa using ok.b1))⟩)⟩
    refine ⟨_, _, rfl, rfl, _, rfl, ite2 (fun b2 => no fun ok => by simp [ok.b2] at b2) (fun b2 => ?_)⟩
    have ok : LayOk F E B := ⟨by simpa using f1, by simpa using f2, by simpa using e1, by simpa using e2, by simpa using b1, by simpa using b2⟩
    refine ⟨_, rfl, _, rfl, p, T.C_Layout, dx, _, rfl, hp, T.cl_Layout, T.n_Layout_files, (by show 0 < 1000; decide), ?_⟩
    refine ⟨_, rfl, _, rfl, p, T.C_Layout, dx, _, rfl, upd_same, T.cl_Layout, T.n_Layout_slots, Nat.lt_of_le_of_lt (length_putF _ _ _) (by decide), ?_⟩
    refine ⟨_, rfl, _, rfl, p, T.C_Layout, dx, _, rfl, upd_same, T.cl_Layout, T.n_Layout_data, Nat.lt_of_le_of_lt (length_putF _ _ _) (Nat.lt_of_le_of_lt (Nat.add_le_add_right (length_putF _ _ _) 1) (by decide)), ?_⟩
    refine k ok _ upd_same fun b o e hb => ?_
    rw [upd_ne hb, upd_ne hb, upd_ne hb]
    exact e
theorem ok_record_at (T : Tx K mg) : FnOk P w K mg base CX0 1 T.f_Layout_record_at T.fd_Layout_record_at ["self", "f"] (spAt T.C_Layout fun _ _ _ n => 10 + n) := by
  refine T.F_Layout_record_at.ok sc_Layout_record_at (fun vs H Q E h => ?_) (fun cdv A outer s H vs Q E hr h => ?_)
  · obtain ⟨p, F, E, B, n, rfl, _⟩ := h
    rfl
  · obtain ⟨p, F, E, B, n, rfl, hp, k⟩ := h
    refine ⟨_, pss_one (ps_ret (pe_op op_add (pe_glob (v := .int 10) rfl T.g_RECORDS_AT ⟨_, rfl⟩) (pv 1))), ?_⟩
    exact ⟨_, rfl, _, _, rfl, rfl, k⟩
theorem ok_names_at (T : Tx K mg) : FnOk P w K mg base CX0 2 T.f_Layout_names_at T.fd_Layout_names_at ["self", "e"] (spAt T.C_Layout fun F _ _ n => 10 + F + n) := by
  refine T.F_Layout_names_at.ok sc_Layout_names_at (fun vs H Q E h => ?_) (fun cdv A outer s H vs Q E hr h => ?_)
  · obtain ⟨p, F, E, B, n, rfl, _⟩ := h
    rfl
  · obtain ⟨p, F, E, B, n, rfl, ⟨dx, hp⟩, k⟩ := h
    refine ⟨_, pss_one (ps_ret (pe_op op_add (pe_meth (pv 0) T.cl_Layout T.m_Layout_record_at (ok_record_at T) hr T.b_Layout_record_at .nil pass0 (pa_cons (pe_fld (pv 0) rfl) pa_nil)) (pv 1))), ?_⟩
    exact ⟨_, rfl, p, dx, _, rfl, hp, lay_no _ _ _ (by decide +kernel) (by decide +kernel) (by decide +kernel), _, rfl, p, T.C_Layout, dx, _, _, rfl, hp, T.cl_Layout, T.n_Layout_files, lay_files _ _ _, p, F, E, B, F, rfl, ⟨dx, hp⟩, _, rfl, _, _, rfl, rfl, k⟩
theorem ok_cell (T : Tx K mg) : FnOk P w K mg base CX0 1 T.f_l_cell_at T.fd_l_cell_at ["_law_script", "_law_k"] (spCell K) := by
  refine T.F_l_cell_at.ok sc_l_cell_at (fun vs H Q E h => ?_) (fun cdv A outer s H vs Q E hr h => ?_)
  · obtain ⟨a, ns, k, rfl, _⟩ := h
    rfl
  · obtain ⟨a, ns, k, rfl, hS, hl, q⟩ := h
    refine ⟨_, pss_cons (ps_if (pt_cmpR op_lt (pv 1) (pe_callB call_len_seq rfl T.z_len PySem.boot_len (pa_cons (pv 0) pa_nil)) (nomark _)) (pss_one (ps_ret (pe_ix ix_list (pv 0) (pv 1) (fun _ _ => rfl)))) pss_nil) (pss_one (ps_ret pe_int)), ?_⟩
    refine ⟨_, rfl, _, rfl, a, _, rfl, .inl hS, _, _, rfl, rfl, _, rfl, ite2 (fun h => ?_) (fun h => ?_)⟩
    · have hk : k < ns.length := by
        have := of_decide_eq_true h
        rw [List.length_map] at this
        omega
      rw [List.getD_eq_getElem?_getD, List.getElem?_eq_getElem hk] at q
      exact ⟨_, rfl, _, rfl, a, _, k, .int ns[k], rfl, rfl, hS, atI_nat (by rw [List.getElem?_map, List.getElem?_eq_getElem hk]; rfl), q⟩
    · have hk : ns.length ≤ k := by
        have h1 : ¬ ((k : Int) < ((ns.map V.int).length : Int)) := fun z => h (decide_eq_true z)
        rw [List.length_map] at h1
        omega
      rw [List.getD_eq_getElem?_getD, List.getElem?_eq_none hk] at q
      exact q
theorem ok_slot_at (T : Tx K mg) : FnOk P w K mg base CX0 3 T.f_slot_at T.fd_slot_at ["layout", "s"] (spSlotAt T.C_Layout) := by
  refine T.F_slot_at.ok sc_slot_at (fun vs H Q E h => ?_) (fun cdv A outer s H vs Q E hr h => ?_)
  · obtain ⟨p, F, E, B, s, rfl, _⟩ := h
    rfl
  · obtain ⟨p, F, E, B, s, rfl, ⟨dx, hp⟩, k⟩ := h
    refine ⟨_, pss_one (ps_ret (pe_tup (pa_cons (pe_meth (pv 0) T.cl_Layout T.m_Layout_names_at (ok_names_at T) hr T.b_Layout_names_at .nil pass0 (pa_cons (pe_op op_fdiv (pv 1) (pe_glob (v := .int 2) rfl T.g_EACH ⟨_, rfl⟩)) pa_nil)) (pa_cons (pe_op op_mul (pe_op op_mod (pv 1) (pe_glob (v := .int 2) rfl T.g_EACH ⟨_, rfl⟩)) (pe_glob (v := .int 4) rfl T.g_SLOT_WIDE ⟨_, rfl⟩)) pa_nil)))), ?_⟩
    refine ⟨_, rfl, p, dx, _, rfl, hp, lay_no _ _ _ (by decide +kernel) (by decide +kernel) (by decide +kernel), _, rfl, _, _, rfl, rfl, ⟨by decide, by decide⟩, p, F, E, B, _, rfl, ⟨dx, hp⟩, _, rfl, _, _, rfl, rfl, (by show (0 : Int) < 2; decide), _, _, rfl, rfl, .inr ⟨by decide, by decide⟩, (by show 2 ≤ sizeLine; decide), fun q hq => ?_⟩
    exact k q hq
theorem ok_slot (T : Tx K mg) : FnOk P w K mg base CX0 4 T.f_slot T.fd_slot ["layout", "volume", "s"] (spSlot T.C_Layout) := by
  refine T.F_slot.ok sc_slot (fun vs H Q E h => ?_) (fun cdv A outer s H vs Q E hr h => ?_)
  · obtain ⟨p, v, F, E, B, s, as, rows, j, r, rfl, _⟩ := h
    rfl
  · obtain ⟨p, v, F, E, B, s, as, rows, j, r, rfl, hL, hV, ej, er, k⟩ := h
    refine ⟨_, pss_cons (ps_set (i := 3) sc_slot.nd rfl (Or.inl rfl) (pe_call (ok_slot_at T) hr rfl T.g_slot_at T.F_slot_at.kp T.b_slot_at .nil pass0 (pa_cons (pv 0) (pa_cons (pv 2) pa_nil))))
      (pss_one (ps_ret (pe_callTy call_tuple_of rfl T.z_tuple (by kernel_rfl) (pa_cons (pe_slice sl_list (pe_ix ix_list (pv 1) (pe_ix ix_tup (pv 3) pe_int (fun _ _ => rfl)) (fun _ _ => rfl)) (po_some (pe_ix ix_tup (pv 3) pe_int (fun _ _ => rfl))) (po_some (pe_op op_add (pe_ix ix_tup (pv 3) pe_int (fun _ _ => rfl)) (pe_glob (v := .int 4) rfl T.g_SLOT_WIDE ⟨_, rfl⟩)))) pa_nil)))), ?_⟩
    refine ⟨_, rfl, _, rfl, p, F, E, B, s, rfl, hL, fun q hq => ?_⟩
    have hj : j < as.length := by rw [hV.len]; exact (List.getElem?_eq_some_iff.mp er).1
    have ea : as[j]? = some as[j] := List.getElem?_eq_getElem hj
    have eat : atI (as.map V.ref) (10 + F + s / 2) = some (.ref as[j]) := by rw [← ej]; exact atI_nat (by rw [List.getElem?_map, ea]; rfl)
    have s1 : Same H (upd H q (.tup [.int (10 + F + s / 2), .int (s % 2 * 4)])) := Same.upd0 hq
    have hq1 : SqT K (upd H q (.tup [.int (10 + F + s / 2), .int (s % 2 * 4)])) q [.int (10 + F + s / 2), .int (s % 2 * 4)] := SqT.of upd_same
    refine ⟨_, rfl, _, rfl, q, _, 0, _, rfl, rfl, hq1, atI_nat (j := 0) rfl, v, _, _, .ref as[j], rfl, rfl, SqL.of (s1 _ _ hV.top), eat, ?_⟩
    refine ⟨_, rfl, q, _, 1, _, rfl, rfl, hq1, atI_nat (j := 1) rfl, _, rfl, _, rfl, q, _, 1, _, rfl, rfl, hq1, atI_nat (j := 1) rfl, _, _, rfl, rfl, _, rfl, as[j], _, rfl, SqL.of (s1 _ _ (hV.row j _ r ea er)), fun z hz => ?_⟩
    refine ⟨z, _, rfl, .inl ⟨SqL.of upd_same, fun t ht => ?_⟩⟩
    exact k t _ ((s1.upd hz).upd ht) upd_same
/-! ### slots as numbers -/
def slq (rows : List (List Int)) (F s j : Nat) : Int := (rows.getD (10 + F + s / 2) []).getD (s % 2 * 4 + j) 0
def slv (rows : List (List Int)) (F s : Nat) : List Int := [slq rows F s 0, slq rows F s 1, slq rows F s 2, slq rows F s 3]
theorem row_of8 {r : List Int} (h : r.length = 8) : ∃ a b c d e f g i, r = [a, b, c, d, e, f, g, i] := by
  match r, h with
  | [a, b, c, d, e, f, g, i], _ => exact ⟨a, b, c, d, e, f, g, i, rfl⟩
theorem slv_cut {rows : List (List Int)} {F s : Nat} {r : List Int} (er : rows[10 + F + s / 2]? = some r) (h8 : r.length = 8) : cutV (r.map V.int) (some ((s : Int) % 2 * 4)) (some ((s : Int) % 2 * 4 + 4)) = (slv rows F s).map V.int := by
  have eg : rows.getD (10 + F + s / 2) [] = r := by rw [List.getD_eq_getElem?_getD, er]; rfl
  unfold slv slq
  rw [eg]
  obtain ⟨a, b, c, d, e, f, g, i, rfl⟩ := row_of8 h8
  rcases Nat.mod_two_eq_zero_or_one s with h | h
  · have h' : (s : Int) % 2 = 0 := by omega
    rw [h, h']
    rfl
  · have h' : (s : Int) % 2 = 1 := by omega
    rw [h, h']
    rfl
def spSlotN (C : Addr) : Sp := fun vs H Q _ => ∃ (p v : Addr) (F E : Nat) (B : Int) (s : Nat) (as : List Addr) (rows : List (List Int)), vs = [.ref p, .ref v, .int s] ∧ Lay C H p F E B ∧ Vol H v as rows ∧ 10 + F + s / 2 < rows.length ∧ (∀ r ∈ rows, r.length = 8) ∧
  ∀ (q : Addr) (H' : Hp), Same H H' → H' q = some (.tup ((slv rows F s).map V.int)) → Q (.ref q) H'
theorem ok_slotN (T : Tx K mg) : FnOk P w K mg base CX0 4 T.f_slot T.fd_slot ["layout", "volume", "s"] (spSlotN T.C_Layout) := (ok_slot T).imp fun vs H Q E h => by
  obtain ⟨p, v, F, E, B, s, as, rows, rfl, hL, hV, hi, h8, k⟩ := h
  have er : rows[10 + F + s / 2]? = some rows[10 + F + s / 2] := List.getElem?_eq_getElem hi
  refine ⟨p, v, F, E, B, s, as, rows, 10 + F + s / 2, rows[10 + F + s / 2], rfl, hL, hV, by omega, er, fun q H' s1 hq => k q H' s1 ?_⟩
  rw [← slv_cut er (h8 _ (List.getElem_mem hi))]
  exact hq
def usl (rows : List (List Int)) (F n : Nat) : List Nat := (List.range n).filter fun s => decide (slq rows F s 0 = 1)
theorem usl_succ (rows : List (List Int)) (F n : Nat) : usl rows F (n + 1) = usl rows F n ++ (if slq rows F n 0 = 1 then [n] else []) := by
  unfold usl
  rw [List.range_succ, List.filter_append]
  congr 1
  by_cases h : slq rows F n 0 = 1
  · simp [h]
  · simp [h]
theorem usl_lt {rows : List (List Int)} {F n s : Nat} (h : s ∈ usl rows F n) : s < n := List.mem_range.mp (List.mem_filter.mp h).1
theorem usl_len (rows : List (List Int)) (F n : Nat) : (usl rows F n).length ≤ n := by
  unfold usl
  have := List.length_filter_le (fun s => decide (slq rows F s 0 = 1)) (List.range n)
  rw [List.length_range] at this
  exact this
/-- the dict of the used slots -/
structure UD (H : Hp) (us : List Nat) (kvs : List (Key × V)) (rows : List (List Int)) (F : Nat) : Prop where
  len : kvs.length = us.length
  item : ∀ (i : Nat) k x, kvs[i]? = some (k, x) → ∃ (s : Nat) (t : Addr), us[i]? = some s ∧ k = .inl (s : Int) ∧ x = .ref t ∧ H t = some (.tup ((slv rows F s).map V.int))
theorem UD.same {H H' : Hp} {us : List Nat} {kvs : List (Key × V)} {rows : List (List Int)} {F : Nat} (h : UD H us kvs rows F) (ht : ∀ b xs, H b = some (.tup xs) → H' b = some (.tup xs)) : UD H' us kvs rows F :=
  ⟨h.len, fun i k x e => let ⟨s, t, h1, h2, h3, h4⟩ := h.item i k x e; ⟨s, t, h1, h2, h3, ht _ _ h4⟩⟩
def spMany (C : Addr) : Sp := fun vs H Q _ => ∃ (p : Addr) (F E B : Int), vs = [.ref p] ∧ Lay C H p F E B ∧ Q (.int (E * 2)) H
theorem ok_many (T : Tx K mg) : FnOk P w K mg base CX0 1 T.f_many_slots T.fd_many_slots ["layout"] (spMany T.C_Layout) := by
  refine T.F_many_slots.ok sc_many_slots (fun vs H Q E h => ?_) (fun cdv A outer s H vs Q E hr h => ?_)
  · obtain ⟨p, F, E, B, rfl, _⟩ := h
    rfl
  · obtain ⟨p, F, E, B, rfl, ⟨dx, hp⟩, k⟩ := h
    refine ⟨_, pss_one (ps_ret (pe_op op_mul (pe_fld (pv 0) rfl) (pe_glob (v := .int 2) rfl T.g_EACH ⟨_, rfl⟩))), ?_⟩
    exact ⟨_, rfl, p, T.C_Layout, dx, _, _, rfl, hp, T.cl_Layout, T.n_Layout_slots, lay_slots _ _ _, _, _, rfl, rfl, .inr ⟨by decide, by decide⟩, k⟩
def spUsed (C : Addr) : Sp := fun vs H Q _ => ∃ (p v : Addr) (F E : Nat) (B : Int) (as : List Addr) (rows : List (List Int)), vs = [.ref p, .ref v] ∧ Lay C H p F E B ∧ Vol H v as rows ∧ 10 + F + E ≤ rows.length ∧ E ≤ 8 ∧ (∀ r ∈ rows, r.length = 8) ∧
  ∀ (d : Addr) (kvs : List (Key × V)) (H' : Hp), H d = none → Same H H' → H' d = some (.dK kvs) → UD H' (usl rows F (2 * E)) kvs rows F → Q (.ref d) H'
theorem valV_none {kvs : List (Key × V)} {k : Key} (h : ∀ p ∈ kvs, p.1 ≠ k) : valV kvs k = none := by
  unfold valV
  rw [List.find?_eq_none.mpr fun p hp => by simpa using h p hp]
  rfl
theorem ok_used (T : Tx K mg) : FnOk P w K mg base CX0 5 T.f_used_slots T.fd_used_slots ["layout", "volume"] (spUsed T.C_Layout) := by
  refine T.F_used_slots.ok sc_used_slots (fun vs H Q E h => ?_) (fun cdv A outer s H vs Q E hr h => ?_)
  · obtain ⟨p, v, F, E, B, as, rows, rfl, _⟩ := h
    rfl
  · obtain ⟨p, v, F, E, B, as, rows, rfl, hL, hV, hlen, hE, h8, k⟩ := h
    have hu : _ + 1 < cLine := Nat.lt_of_le_of_lt (Nat.add_le_add_left (by decide : 1 ≤ 64) _) hr.units
    have r1 : Room 1 _ := hr.mono (by decide)
    refine ⟨_, pss_cons (ps_set (i := 2) sc_used_slots.nd rfl (Or.inl rfl) pe_dnewK)
      (pss_cons (ps_for PassesOwn.never rfl (pi_range1 rfl T.z_range (pa_cons (pe_call (ok_many T) r1 rfl T.g_many_slots T.F_many_slots.kp T.b_many_slots .nil pass0 (pa_cons (pv 0) pa_nil)) pa_nil)) (pg_name (i := 3) sc_used_slots.nd rfl (Or.inl rfl))
        (pss_cons (ps_set (i := 4) sc_used_slots.nd rfl (Or.inl rfl) (pe_call (ok_slotN T) hr rfl T.g_slot T.F_slot.kp T.b_slot .nil pass0 (pa_cons (pv 0) (pa_cons (pv 1) (pa_cons (pv 3) pa_nil)))))
        (pss_one (ps_if (pt_cmpR op_eq (pe_ix ix_tup (pv 4) pe_int (fun _ _ => rfl)) (pe_glob (v := .int 1) rfl T.g_USED ⟨_, rfl⟩) (nomark _)) (pss_one (ps_dput hu (pv 2) (pv 3) (pv 4) rfl)) pss_nil))))
      (pss_one (ps_ret (pv 2)))), ?_⟩
    refine fun d fd => ?_
    have s0 : Same H (upd H d (.dK [])) := Same.upd0 fd
    refine ⟨_, rfl, p, F, E, B, rfl, hL.same s0, (E : Int) * 2, rfl, by omega, by omega, ?_⟩
    have en : ((E : Int) * 2).toNat = 2 * E := by omega
    rw [en]
    refine for_range (lo := 0) (n := 2 * E) (fun i σ H' => ∃ x3 x4 kvs, σ = [some (.ref p), some (.ref v), some (.ref d), x3, x4] ∧ Same H H' ∧ H' d = some (.dK kvs) ∧ UD H' (usl rows F i) kvs rows F)
      ⟨none, none, [], rfl, s0, upd_same, rfl, fun i k x e => by simp at e⟩ ?_ ?_
    · rintro i σ H' hi ⟨x3, x4, kvs, rfl, sH, hd, hU⟩
      have e0 : (0 : Int) + (i : Int) = (i : Int) := by omega
      rw [e0]
      refine ⟨_, rfl, _, rfl, _, rfl, p, v, F, E, B, i, as, rows, rfl, hL.same sH, hV.same sH, by omega, h8, fun t H1 s1 ht => ?_⟩
      have hd1 := s1 _ _ hd
      refine ⟨_, rfl, t, _, 0, .int (slq rows F i 0), rfl, rfl, SqT.of ht, atI_nat (j := 0) rfl, rfl, _, rfl, ite2 (fun h => ?_) (fun h => ?_)⟩
      · have h1 : slq rows F i 0 = 1 := by have := of_decide_eq_true h; injection this
        have hnew : valV kvs (.inl (i : Int)) = none := valV_none fun q hq z => by
          obtain ⟨j, hj, e⟩ := List.getElem_of_mem hq
          obtain ⟨s, t', g1, g2, _⟩ := hU.item j q.1 q.2 (by rw [List.getElem?_eq_getElem hj, e])
          rw [z] at g2
          have : (i : Int) = (s : Int) := by injection g2
          have hs := usl_lt (List.mem_of_getElem? g1)
          omega
        refine ⟨_, rfl, _, rfl, _, rfl, d, _, rfl, DPut.k (k := .inl (i : Int)) hd1 (small1000 (by have := hU.len; have := usl_len rows F i; omega)), ?_⟩
        rw [putK_new _ hnew]
        refine ⟨_, _, kvs ++ [(.inl (i : Int), .ref t)], rfl, (sH.trans s1).updF fd, upd_same, ?_⟩
        rw [usl_succ, if_pos h1]
        have tn : ∀ b xs, H1 b = some (.tup xs) → upd H1 d (.dK (kvs ++ [(.inl (i : Int), .ref t)])) b = some (.tup xs) := fun b xs e => by
          rw [upd_ne (fun z => by rw [z, hd1] at e; cases e)]; exact e
        refine ⟨by simp [hU.len], fun j k' x' e => ?_⟩
        rcases getApp (n := (usl rows F i).length) hU.len e with ⟨hj, e⟩ | ⟨hj, e⟩
        · obtain ⟨s, t', g1, g2, g3, g4⟩ := hU.item j k' x' e
          exact ⟨s, t', by rw [List.getElem?_append_left hj]; exact g1, g2, g3, tn _ _ (s1 _ _ g4)⟩
        · have hj0 : j - (usl rows F i).length < 1 := by have := (List.getElem?_eq_some_iff.mp e).1; simpa using this
          have ej : j - (usl rows F i).length = 0 := by omega
          rw [ej] at e
          cases e
          exact ⟨i, t, by rw [List.getElem?_append_right hj, ej]; rfl, rfl, rfl, tn _ _ ht⟩
      · have h1 : ¬ slq rows F i 0 = 1 := fun z => h (by rw [z]; rfl)
        refine ⟨_, _, kvs, rfl, sH.trans s1, hd1, ?_⟩
        rw [usl_succ, if_neg h1, List.append_nil]
        exact hU.same fun b xs e => s1 _ _ e
    rintro σ H1 ⟨x3, x4, kvs, rfl, sH, hd, hU⟩
    exact ⟨_, rfl, k d kvs H1 fd sH hd hU⟩
def nmg (rows : List (List Int)) (F E : Nat) (f : Int) : List Nat := (usl rows F (2 * E)).filter fun s => decide (slq rows F s 3 = f)
def spNaming (C : Addr) : Sp := fun vs H Q _ => ∃ (p v : Addr) (F E : Nat) (B f : Int) (as : List Addr) (rows : List (List Int)), vs = [.ref p, .ref v, .int f] ∧ Lay C H p F E B ∧ Vol H v as rows ∧ 10 + F + E ≤ rows.length ∧ E ≤ 8 ∧ (∀ r ∈ rows, r.length = 8) ∧
  ∀ (D : Addr) (H' : Hp), Same H H' → H D = none → H' D = some (.lst ((nmg rows F E f).map fun (s : Nat) => V.int (s : Int))) → Q (.ref D) H'
theorem ok_naming (T : Tx K mg) : FnOk P w K mg base CX0 6 T.f_slots_naming T.fd_slots_naming ["layout", "volume", "file"] (spNaming T.C_Layout) := by
  refine T.F_slots_naming.ok sc_slots_naming (fun vs H Q E h => ?_) (fun cdv A outer s H vs Q E hr h => ?_)
  · obtain ⟨p, v, F, E, B, f, as, rows, rfl, _⟩ := h
    rfl
  · obtain ⟨p, v, F, E, B, f, as, rows, rfl, hL, hV, hlen, hE, h8, k⟩ := h
    refine ⟨_, pss_one (ps_ret (pe_comp (N' := ["s", "numbers", "file"]) (cap := [none, none, some 2]) rfl (compOk_of (by kernel_rfl)) (pi_items (pe_call (ok_used T) hr rfl T.g_used_slots T.F_used_slots.kp T.b_used_slots .nil pass0 (pa_cons (pv 0) (pa_cons (pv 1) pa_nil))))
      (fun cells C s₀ H₀ fp pins => ⟨pg_pair (i := 0) (j := 1) (K := K) rfl rfl (ndp3 (by decide +kernel) (by decide +kernel) (by decide +kernel)) rfl rfl rfl rfl, pifs_one (pt_cmpR op_eq (pe_ix (ix_tupK (K := K) rfl) (pv 1) pe_int (fun _ _ => rfl)) (pv 2) (nomark _)), pv 0⟩))), ?_⟩
    refine ⟨_, rfl, _, rfl, p, v, F, E, B, as, rows, rfl, hL, hV, hlen, hE, h8, fun d kvs H1 fd s1 hd hU => ⟨d, kvs, rfl, hd, fun ob => ?_⟩⟩
    have hl := usl_len rows F (2 * E)
    have sF : Same H (upd H1 d (.frz ob (.dK kvs))) := s1.updF fd
    have hF : upd H1 d (.frz ob (.dK kvs)) d = some (.frz ob (.dK kvs)) := upd_same
    have hU1 : UD (upd H1 d (.frz ob (.dK kvs))) (usl rows F (2 * E)) kvs rows F := hU.same fun b xs e => by
      rw [upd_ne (fun z => by rw [z, hd] at e; cases e)]; exact e
    generalize upd H1 d (.frz ob (.dK kvs)) = H2 at sF hF hU1 ⊢
    generalize eus : usl rows F (2 * E) = us at hl hU1
    refine comp_items (cap := [none, none, some 2]) (σ := [some (.ref p), some (.ref v), some (.int f)]) (small_len (by have := hU1.len; omega)) (fun i ys σ H' => i ≤ kvs.length ∧ ys = ((us.take i).filter fun s => decide (slq rows F s 3 = f)).map (fun (s : Nat) => V.int (s : Int)) ∧ (∃ a b, σ = [a, b, some (.int f)]) ∧ Same H2 H')
      (by exact ⟨Nat.zero_le _, rfl, ⟨none, none, rfl⟩, Same.refl _⟩) (fun i ys σ H' ⟨h1, h2, _, h4⟩ => ⟨h1, by rw [h2, List.length_map]; exact Nat.le_trans (List.length_filter_le _ _) (by rw [List.length_take]; exact Nat.min_le_left _ _), h4 _ _ hF⟩) ?_ ?_
    · rintro i k' x ys σ H' q ex ⟨h1, rfl, ⟨a, b, rfl⟩, h4⟩ fq
      obtain ⟨s, t, g1, rfl, rfl, g4⟩ := hU1.item i k' x ex
      have hi : i < kvs.length := (List.getElem?_eq_some_iff.mp ex).1
      have sq : Same H2 (upd H' q (.tup [kV (.inl (s : Int)), .ref t])) := h4.upd fq
      refine ⟨q, _, rfl, SqT.of upd_same, rfl, _, _, rfl, _, _, rfl, rfl, ?_⟩
      refine ⟨_, rfl, t, _, 3, .int (slq rows F s 3), rfl, rfl, SqT.of (sq _ _ g4), atI_nat (j := 3) rfl, _, rfl, rfl, _, rfl, ?_⟩
      rw [take_snoc g1, List.filter_append, List.map_append]
      by_cases h : slq rows F s 3 = f
      · exact iteD (by rw [h]) ⟨_, rfl, hi, by simp [h]; rfl, ⟨_, _, rfl⟩, sq⟩
      · exact iteDF (fun z => h (by injection z)) ⟨hi, by simp [h], ⟨_, _, rfl⟩, sq⟩
    rintro ys σ H' ⟨h1, rfl, ⟨a, b, rfl⟩, h4⟩ D hD
    refine k D _ ((sF.trans h4).upd hD) ((sF.trans h4).free hD) ?_
    rw [upd_same]
    unfold nmg
    rw [eus, hU1.len, List.take_length]
end
end K32
set_option Elab.async false
set_option linter.all false
set_option maxRecDepth 100000
set_option maxHeartbeats 1000000
namespace K32
open PySem L2 PyProof.Rows
section
variable {P : Program} {w : World} {K : PySem.W.Frag} {mg : Str → Option Value} {base : Heap}
/-! ### slot_of, names_in, free_slot -/
def sof (rows : List (List Int)) (F E : Nat) (fo nm : Int) : Option Nat := (usl rows F (2 * E)).find? fun s => decide (slq rows F s 1 = fo) && decide (slq rows F s 2 = nm)
def optN : Option Nat → V
  | none => .non
  | some s => .int (s : Int)
structure VV (C : Addr) (H : Hp) (p v : Addr) (F E : Nat) (B : Int) (as : List Addr) (rows : List (List Int)) : Prop where
  lay : Lay C H p F E B
  vol : Vol H v as rows
  len : 10 + F + E ≤ rows.length
  e8 : E ≤ 8
  r8 : ∀ r ∈ rows, r.length = 8
  f12 : F ≤ 12
theorem VV.same {C : Addr} {H H' : Hp} {p v : Addr} {F E : Nat} {B : Int} {as : List Addr} {rows : List (List Int)} (h : VV C H p v F E B as rows) (s : Same H H') : VV C H' p v F E B as rows := ⟨h.lay.same s, h.vol.same s, h.len, h.e8, h.r8, h.f12⟩
def spSO (C : Addr) : Sp := fun vs H Q _ => ∃ (p v : Addr) (F E : Nat) (B fo nm : Int) (as : List Addr) (rows : List (List Int)), vs = [.ref p, .ref v, .int fo, .int nm] ∧ VV C H p v F E B as rows ∧ ∀ H', Same H H' → Q (optN (sof rows F E fo nm)) H'
theorem find_at {us : List Nat} {f : Nat → Bool} {i s : Nat} (h : us[i]? = some s) (hf : f s = true) (hn : ∀ j t, j < i → us[j]? = some t → f t = false) : us.find? f = some s := by
  rw [List.find?_eq_some_iff_getElem]
  have hi : i < us.length := (List.getElem?_eq_some_iff.mp h).1
  refine ⟨hf, i, hi, by rw [List.getElem?_eq_getElem hi] at h; exact Option.some.inj h, fun j hj => ?_⟩
  rw [hn j _ hj (List.getElem?_eq_getElem (by omega))]
  rfl
theorem ok_slotof (T : Tx K mg) : FnOk P w K mg base CX0 6 T.f_slot_of T.fd_slot_of ["layout", "volume", "folder", "name"] (spSO T.C_Layout) := by
  refine T.F_slot_of.ok sc_slot_of (fun vs H Q E h => ?_) (fun cdv A outer s H vs Q E hr h => ?_)
  · obtain ⟨p, v, F, E, B, fo, nm, as, rows, rfl, _⟩ := h
    rfl
  · obtain ⟨p, v, F, E, B, fo, nm, as, rows, rfl, hV, k⟩ := h
    refine ⟨_, pss_cons (ps_for PassesOwn.never rfl (pi_items (pe_call (ok_used T) hr rfl T.g_used_slots T.F_used_slots.kp T.b_used_slots .nil pass0 (pa_cons (pv 0) (pa_cons (pv 1) pa_nil)))) (pg_pair (i := 4) (j := 5) (K := K) rfl rfl sc_slot_of.nd rfl rfl rfl rfl)
        (pss_one (ps_if (PW.pt (pw_and (pt_cmpR op_eq (pe_ix ix_tup (pv 5) pe_int (fun _ _ => rfl)) (pv 2) (nomark _)) (pw_and1 (pt_cmpR op_eq (pe_ix ix_tup (pv 5) pe_int (fun _ _ => rfl)) (pv 3) (nomark _))))) (pss_one (ps_ret (pv 4))) pss_nil)))
      (pss_one (ps_ret pe_non)), ?_⟩
    refine ⟨_, rfl, _, rfl, p, v, F, E, B, as, rows, rfl, hV.lay, hV.vol, hV.len, hV.e8, hV.r8, fun d kvs H1 fd s1 hd hU => ⟨d, kvs, rfl, hd, fun ob => ?_⟩⟩
    have sF : Same H (upd H1 d (.frz ob (.dK kvs))) := s1.updF fd
    have hF : upd H1 d (.frz ob (.dK kvs)) d = some (.frz ob (.dK kvs)) := upd_same
    have hU1 : UD (upd H1 d (.frz ob (.dK kvs))) (usl rows F (2 * E)) kvs rows F := hU.same fun b xs e => by
      rw [upd_ne (fun z => by rw [z, hd] at e; cases e)]; exact e
    have k : ∀ H', Same H H' → Q (optN ((usl rows F (2 * E)).find? fun s => decide (slq rows F s 1 = fo) && decide (slq rows F s 2 = nm))) H' := k
    generalize upd H1 d (.frz ob (.dK kvs)) = H2 at sF hF hU1 ⊢
    generalize usl rows F (2 * E) = us at hU1 k
    refine for_items (fun i σ H' => ∃ x4 x5, σ = [some (.ref p), some (.ref v), some (.int fo), some (.int nm), x4, x5] ∧ Same H2 H' ∧ ∀ j t, j < i → us[j]? = some t → (decide (slq rows F t 1 = fo) && decide (slq rows F t 2 = nm)) = false)
      ⟨none, none, rfl, Same.refl _, fun j t h => absurd h (Nat.not_lt_zero _)⟩ (fun i σ H' _ ⟨_, _, _, sH, _⟩ => sH _ _ hF) ?_ ?_
    · rintro i k' x σ H' q ex ⟨x4, x5, rfl, sH, hno⟩ fq
      obtain ⟨s, t, g1, rfl, rfl, g4⟩ := hU1.item i k' x ex
      have sq : Same H2 (upd H' q (.tup [kV (.inl (s : Int)), .ref t])) := sH.upd fq
      refine ⟨q, _, rfl, SqT.of upd_same, rfl, _, _, rfl, _, _, rfl, rfl, ?_⟩
      have ht := sq _ _ g4
      have nx : ∀ c, (decide (slq rows F s 1 = fo) && decide (slq rows F s 2 = nm)) = c → c = false → ∀ j t, j < i + 1 → us[j]? = some t → (decide (slq rows F t 1 = fo) && decide (slq rows F t 2 = nm)) = false := fun c e1 e2 j t hj ej => by
        by_cases z : j = i
        · subst z
          rw [g1] at ej
          cases ej
          rw [e1, e2]
        · exact hno j t (by omega) ej
      refine ⟨_, rfl, t, _, 1, .int (slq rows F s 1), rfl, rfl, SqT.of ht, atI_nat (j := 1) rfl, _, rfl, rfl, _, rfl, ?_⟩
      by_cases c1 : slq rows F s 1 = fo
      rotate_left
      · exact iteDF (int_ne c1) (iteF ⟨_, _, rfl, sq, nx _ (by rw [decide_eq_false c1]; rfl) rfl⟩)
      refine iteD (by rw [c1]) ⟨_, rfl, t, _, 2, .int (slq rows F s 2), rfl, rfl, SqT.of ht, atI_nat (j := 2) rfl, _, rfl, rfl, _, rfl, ?_⟩
      by_cases c2 : slq rows F s 2 = nm
      rotate_left
      · exact iteDF (int_ne c2) ⟨_, _, rfl, sq, nx _ (by rw [decide_eq_false c2]; simp) rfl⟩
      refine iteD (by rw [c2]) ⟨_, rfl, ?_⟩
      have := k _ (sF.trans sq)
      rw [find_at g1 (by rw [decide_eq_true c1, decide_eq_true c2]; rfl) hno] at this
      exact this
    rintro σ H' ⟨x4, x5, rfl, sH, hno⟩
    have := k _ (sF.trans sH)
    rw [List.find?_eq_none.mpr (fun t ht => by
      obtain ⟨j, hj, e⟩ := List.getElem_of_mem ht
      rw [hno j t (by rw [hU1.len]; exact hj) (by rw [List.getElem?_eq_getElem hj, e])]
      decide)] at this
    exact this
/-- the names in a folder, by slots -/
def nin (rows : List (List Int)) (F E : Nat) (fo : Int) : List (Int × Int) := ((usl rows F (2 * E)).filter fun s => decide (slq rows F s 1 = fo)).map fun s => (slq rows F s 2, slq rows F s 3)
def spNI (C : Addr) : Sp := fun vs H Q _ => ∃ (p v : Addr) (F E : Nat) (B fo : Int) (as : List Addr) (rows : List (List Int)), vs = [.ref p, .ref v, .int fo] ∧ VV C H p v F E B as rows ∧
  ∀ (l : Addr) (us : List Addr) (qs : List (Int × Int)) (H' : Hp), Same H H' → H l = none → H' l = some (.lst (us.map V.ref)) → PR H' us qs → qs.Perm (nin rows F E fo) → qs.Pairwise ple → Q (.ref l) H'
theorem ok_namesin (T : Tx K mg) : FnOk P w K mg base CX0 6 T.f_names_in T.fd_names_in ["layout", "volume", "folder"] (spNI T.C_Layout) := by
  refine T.F_names_in.ok sc_names_in (fun vs H Q E h => ?_) (fun cdv A outer s H vs Q E hr h => ?_)
  · obtain ⟨p, v, F, E, B, fo, as, rows, rfl, _⟩ := h
    rfl
  · obtain ⟨p, v, F, E, B, fo, as, rows, rfl, hV, k⟩ := h
    refine ⟨_, pss_one (ps_ret (pe_callB call_sortedP rfl T.z_sorted (by kernel_rfl) (pa_cons (pe_comp (N' := ["numbers", "folder"]) (cap := [none, some 2]) rfl (compOk_of (by kernel_rfl)) (pi_values (pe_call (ok_used T) hr rfl T.g_used_slots T.F_used_slots.kp T.b_used_slots .nil pass0 (pa_cons (pv 0) (pa_cons (pv 1) pa_nil))))
      (fun cells C s₀ H₀ fp pins => ⟨pg_name (i := 0) (ndp2 (by decide +kernel)) rfl (Or.inl rfl) (.inr rfl), pifs_one (pt_cmpR op_eq (pe_ix (ix_tupK (K := K) rfl) (pv 0) pe_int (fun _ _ => rfl)) (pv 1) (nomark _)), pe_slice (sl_tupK (K := K) rfl) (pv 0) (po_some pe_int) po_none⟩)) pa_nil))), ?_⟩
    refine ⟨_, rfl, _, rfl, p, v, F, E, B, as, rows, rfl, hV.lay, hV.vol, hV.len, hV.e8, hV.r8, fun d kvs H1 fd s1 hd hU => ⟨d, kvs, rfl, hd, fun ob => ?_⟩⟩
    have hl := usl_len rows F (2 * E)
    have e8 := hV.e8
    have sF : Same H (upd H1 d (.frz ob (.dK kvs))) := s1.updF fd
    have hF : upd H1 d (.frz ob (.dK kvs)) d = some (.frz ob (.dK kvs)) := upd_same
    have hU1 : UD (upd H1 d (.frz ob (.dK kvs))) (usl rows F (2 * E)) kvs rows F := hU.same fun b xs e => by
      rw [upd_ne (fun z => by rw [z, hd] at e; cases e)]; exact e
    have k : ∀ (l : Addr) (us : List Addr) (qs : List (Int × Int)) (H' : Hp), Same H H' → H l = none → H' l = some (.lst (us.map V.ref)) → PR H' us qs → qs.Perm (((usl rows F (2 * E)).filter fun s => decide (slq rows F s 1 = fo)).map fun s => (slq rows F s 2, slq rows F s 3)) → qs.Pairwise ple → Q (.ref l) H' := k
    generalize upd H1 d (.frz ob (.dK kvs)) = H2 at sF hF hU1 ⊢
    generalize usl rows F (2 * E) = us at hl hU1 k
    refine comp_values (cap := [none, some 2]) (σ := [some (.ref p), some (.ref v), some (.int fo)]) (small_len (by have := hU1.len; omega)) (fun i ys σ H' => i ≤ kvs.length ∧ ∃ ts, ys = ts.map V.ref ∧ ts.length ≤ i ∧ PR H' ts (((us.take i).filter fun s => decide (slq rows F s 1 = fo)).map fun s => (slq rows F s 2, slq rows F s 3)) ∧ (∃ a, σ = [a, some (.int fo)]) ∧ Same H2 H')
      (by exact ⟨Nat.zero_le _, [], rfl, Nat.le_refl _, ⟨rfl, fun i t q e => by simp at e⟩, ⟨none, rfl⟩, Same.refl _⟩) (fun i ys σ H' ⟨h1, ts, h2, h3, _, _, h4⟩ => ⟨h1, by rw [h2, List.length_map]; exact h3, h4 _ _ hF⟩) ?_ ?_
    · rintro i k' x ys σ H' ex ⟨h1, ts, rfl, h3, hP, ⟨a, rfl⟩, h4⟩
      obtain ⟨s, t, g1, rfl, rfl, g4⟩ := hU1.item i k' x ex
      have hi : i < kvs.length := (List.getElem?_eq_some_iff.mp ex).1
      have ht := h4 _ _ g4
      refine ⟨_, rfl, t, _, 1, .int (slq rows F s 1), rfl, rfl, SqT.of ht, atI_nat (j := 1) rfl, _, rfl, rfl, _, rfl, ?_⟩
      rw [take_snoc g1, List.filter_append, List.map_append]
      by_cases h : slq rows F s 1 = fo
      · refine iteD (by rw [h]) ⟨_, rfl, _, rfl, t, _, rfl, SqT.of ht, (fun z => absurd z.1 (by show ¬ (HT.sIx 4 0 (some 2) = 0); decide)), fun q fq => ?_⟩
        refine ⟨hi, ts ++ [q], by simp, by simp; omega, ?_, ⟨_, rfl⟩, h4.upd fq⟩
        have e1 : ([s].filter fun s => decide (slq rows F s 1 = fo)).map (fun s => (slq rows F s 2, slq rows F s 3)) = [(slq rows F s 2, slq rows F s 3)] := by simp [h]
        rw [e1]
        exact hP.add (Same.upd0 fq) upd_same
      · refine iteDF (int_ne h) ⟨hi, ts, rfl, by omega, ?_, ⟨_, rfl⟩, h4⟩
        have e1 : ([s].filter fun s => decide (slq rows F s 1 = fo)).map (fun s => (slq rows F s 2, slq rows F s 3)) = [] := by simp [h]
        rw [e1, List.append_nil]
        exact hP
    rintro ys σ H' ⟨h1, ts, rfl, h3, hP, ⟨a, rfl⟩, h4⟩ D hD
    rw [hU1.len, List.take_length] at hP
    refine ⟨D, ts, _, rfl, SqL.of upd_same, hP.same (Same.upd0 hD), by have := hU1.len; omega, fun l ts' qs fl hP' hpm hpw => ?_⟩
    have S := (sF.trans h4).upd (o := .lst (ts.map V.ref)) hD
    exact k l ts' qs _ (S.upd fl) (S.free fl) upd_same (hP'.same (Same.upd0 fl)) hpm hpw
def fsl (rows : List (List Int)) (F E : Nat) : Option Nat := (List.range (2 * E)).find? fun s => !decide (slq rows F s 0 = 1)
def spFS (C : Addr) : Sp := fun vs H Q _ => ∃ (p v : Addr) (F E : Nat) (B : Int) (as : List Addr) (rows : List (List Int)), vs = [.ref p, .ref v] ∧ VV C H p v F E B as rows ∧ ∀ H', Same H H' → Q (optN (fsl rows F E)) H'
theorem UD.has {H : Hp} {us : List Nat} {kvs : List (Key × V)} {rows : List (List Int)} {F : Nat} (h : UD H us kvs rows F) (s : Nat) : (valV kvs (.inl (s : Int))).isSome = decide (s ∈ us) := by
  by_cases hs : s ∈ us
  · rw [decide_eq_true hs]
    obtain ⟨i, hi, e⟩ := List.getElem_of_mem hs
    have hk : i < kvs.length := by rw [h.len]; exact hi
    obtain ⟨s', t, g1, g2, g3, _⟩ := h.item i kvs[i].1 kvs[i].2 (List.getElem?_eq_getElem hk)
    rw [List.getElem?_eq_getElem hi, e] at g1
    cases g1
    cases hv : valV kvs (.inl (s : Int)) with
    | some _ => rfl
    | none =>
      exfalso
      unfold valV at hv
      cases hf : kvs.find? (fun p => decide (p.1 = .inl (s : Int))) with
      | some p => rw [hf] at hv; cases hv
      | none =>
        have := List.find?_eq_none.mp hf kvs[i] (List.getElem_mem hk)
        exact this (decide_eq_true g2)
  · rw [decide_eq_false hs, valV_none fun p hp z => ?_]
    · rfl
    · obtain ⟨j, hj, e⟩ := List.getElem_of_mem hp
      obtain ⟨s', t, g1, g2, _⟩ := h.item j p.1 p.2 (by rw [List.getElem?_eq_getElem hj, e])
      rw [z] at g2
      have : (s : Int) = (s' : Int) := by injection g2
      exact hs (by rw [show s = s' by omega]; exact List.mem_of_getElem? g1)
theorem mem_usl {rows : List (List Int)} {F n s : Nat} : s ∈ usl rows F n ↔ s < n ∧ slq rows F s 0 = 1 := by
  unfold usl
  rw [List.mem_filter, List.mem_range]
  constructor
  · rintro ⟨h1, h2⟩; exact ⟨h1, of_decide_eq_true h2⟩
  · rintro ⟨h1, h2⟩; exact ⟨h1, decide_eq_true h2⟩
theorem ok_freeslot (T : Tx K mg) : FnOk P w K mg base CX0 6 T.f_free_slot T.fd_free_slot ["layout", "volume"] (spFS T.C_Layout) := by
  refine T.F_free_slot.ok sc_free_slot (fun vs H Q E h => ?_) (fun cdv A outer s H vs Q E hr h => ?_)
  · obtain ⟨p, v, F, E, B, as, rows, rfl, _⟩ := h
    rfl
  · obtain ⟨p, v, F, E, B, as, rows, rfl, hV, k⟩ := h
    have hu : _ + 1 < cLine := Nat.lt_of_le_of_lt (Nat.add_le_add_left (by decide : 1 ≤ 64) _) hr.units
    have r1 : Room 1 _ := hr.mono (by decide)
    refine ⟨_, pss_cons (ps_set (i := 2) sc_free_slot.nd rfl (Or.inl rfl) (pe_call (ok_used T) hr rfl T.g_used_slots T.F_used_slots.kp T.b_used_slots .nil pass0 (pa_cons (pv 0) (pa_cons (pv 1) pa_nil))))
      (pss_cons (ps_for PassesOwn.never rfl (pi_range1 rfl T.z_range (pa_cons (pe_call (ok_many T) r1 rfl T.g_many_slots T.F_many_slots.kp T.b_many_slots .nil pass0 (pa_cons (pv 0) pa_nil)) pa_nil)) (pg_name (i := 3) sc_free_slot.nd rfl (Or.inl rfl))
        (pss_one (ps_if (pt_cmp (pc_dnotin hu (pv 3) (pv 2)) rfl) (pss_one (ps_ret (pv 3))) pss_nil)))
      (pss_one (ps_ret pe_non))), ?_⟩
    refine ⟨_, rfl, _, rfl, p, v, F, E, B, as, rows, rfl, hV.lay, hV.vol, hV.len, hV.e8, hV.r8, fun d kvs H1 fd s1 hd hU => ?_⟩
    have e8 := hV.e8
    refine ⟨_, rfl, p, F, E, B, rfl, hV.lay.same s1, (E : Int) * 2, rfl, by omega, by omega, ?_⟩
    have en : ((E : Int) * 2).toNat = 2 * E := by omega
    rw [en]
    refine for_range (lo := 0) (n := 2 * E) (fun i σ H' => ∃ x3, σ = [some (.ref p), some (.ref v), some (.ref d), x3] ∧ H' = H1 ∧ ∀ j, j < i → slq rows F j 0 = 1)
      ⟨none, rfl, rfl, fun j h => absurd h (Nat.not_lt_zero _)⟩ ?_ ?_
    · rintro i σ H' hi ⟨x3, rfl, rfl, hno⟩
      have e0 : (0 : Int) + (i : Int) = (i : Int) := by omega
      rw [e0]
      refine ⟨_, rfl, _, rfl, d, _, rfl, DGet.k (k := Sum.inl (i : Int)) hd, _, rfl, ?_⟩
      rw [hU.has]
      by_cases c : slq rows F i 0 = 1
      · refine iteBF (by rw [decide_eq_true (mem_usl.mpr ⟨hi, c⟩)]; rfl) ⟨_, rfl, rfl, fun j hj => ?_⟩
        by_cases z : j = i
        · rw [z]; exact c
        · exact hno j (by omega)
      · refine iteB (by rw [decide_eq_false (fun z => c (mem_usl.mp z).2)]; rfl) ⟨_, rfl, ?_⟩
        have := k H' s1
        have e : fsl rows F E = some i := find_at (by rw [List.getElem?_range hi]) (by rw [decide_eq_false c]; rfl) fun j t hj ej => by
          rw [List.getElem?_range (by omega)] at ej
          cases ej
          rw [decide_eq_true (hno j hj)]
          rfl
        rw [e] at this
        exact this
    rintro σ H' ⟨x3, rfl, rfl, hno⟩
    have := k H' s1
    have e : fsl rows F E = none := List.find?_eq_none.mpr fun j hj => by
      rw [decide_eq_true (hno j (List.mem_range.mp hj))]
      decide
    rw [e] at this
    exact this
end
end K32
set_option Elab.async false
set_option linter.all false
set_option maxRecDepth 100000
set_option maxHeartbeats 1000000
namespace K32
open PySem L2 PyProof.Rows
section
variable {P : Program} {w : World} {K : PySem.W.Frag} {mg : Str → Option Value} {base : Heap}
abbrev Lk := Int × Int × Int
def numL (l : Lk) : List Int := [1, l.1, l.2.1, l.2.2]
/-! ### what the law's dict of slots tells -/
theorem nd_sub {α : Type} [DecidableEq α] : ∀ {l m : List α}, l.Nodup → (∀ x ∈ l, x ∈ m) → l.length ≤ m.length
  | [], m, _, _ => Nat.zero_le _
  | x :: r, m, nd, h => by
    have hx := h x (List.mem_cons_self ..)
    have := nd_sub (l := r) (m := m.erase x) (List.nodup_cons.mp nd).2 fun y hy => (List.mem_erase_of_ne (fun z => (List.nodup_cons.mp nd).1 (by rw [← z]; exact hy))).mpr (h y (List.mem_cons_of_mem _ hy))
    rw [List.length_erase_of_mem hx] at this
    have : 0 < m.length := List.length_pos_of_mem hx
    rw [List.length_cons]
    omega
theorem eq_of_sorted {α : Type} {r : α → α → Prop} (anti : ∀ a b, r a b → r b a → a = b) : ∀ {l m : List α}, l.Perm m → l.Pairwise r → m.Pairwise r → l = m
  | [], m, p, _, _ => (List.nil_perm.mp p).symm
  | x :: l, [], p, _, _ => by have := p.length_eq; simp at this
  | x :: l, y :: m, p, h1, h2 => by
    have e : x = y := by
      rcases List.mem_cons.mp (p.mem_iff.mp (List.mem_cons_self ..) : x ∈ y :: m) with e | hx
      · exact e
      rcases List.mem_cons.mp (p.mem_iff.mpr (List.mem_cons_self ..) : y ∈ x :: l) with e | hy
      · exact e.symm
      exact anti x y ((List.pairwise_cons.mp h1).1 y hy) ((List.pairwise_cons.mp h2).1 x hx)
    subst e
    rw [eq_of_sorted anti (List.Perm.cons_inv p) (List.pairwise_cons.mp h1).2 (List.pairwise_cons.mp h2).2]
abbrev Tl := Nat × Addr × Lk
def prK (x : Tl) : Int × Int := (x.2.2.1, x.2.2.2.1)
structure TV (rows : List (List Int)) (F E : Nat) (tl : List Tl) : Prop where
  nd : (tl.map (·.1)).Nodup
  lt : ∀ x ∈ tl, x.1 < 2 * E
  uq : (tl.map prK).Nodup
  is : ∀ x ∈ tl, ∀ j < 4, slq rows F x.1 j = (numL x.2.2).getD j 0
  no : ∀ s < 2 * E, s ∉ tl.map (·.1) → slq rows F s 0 = 0
section
variable {rows : List (List Int)} {F E : Nat} {tl : List Tl}
theorem TV.mem (h : TV rows F E tl) (s : Nat) : s ∈ usl rows F (2 * E) ↔ s ∈ tl.map (·.1) := by
  unfold usl
  rw [List.mem_filter, List.mem_range]
  constructor
  · rintro ⟨h1, h2⟩
    by_cases hs : s ∈ tl.map (·.1)
    · exact hs
    · rw [h.no s h1 hs] at h2
      exact absurd h2 (by decide)
  · intro hs
    obtain ⟨x, hx, rfl⟩ := List.mem_map.mp hs
    exact ⟨h.lt x hx, decide_eq_true (h.is x hx 0 (by decide))⟩
theorem usl_nd (n : Nat) : (usl rows F n).Nodup := List.nodup_range.filter _
theorem usl_up (n : Nat) : (usl rows F n).Pairwise (· < ·) := List.pairwise_lt_range.filter _
theorem TV.perm (h : TV rows F E tl) : (usl rows F (2 * E)).Perm (tl.map (·.1)) := (List.perm_ext_iff_of_nodup (usl_nd _) h.nd).mpr fun s => h.mem s
theorem TV.keys (h : TV rows F E tl) {ms : List Int} (p : ms.Perm ((tl.map (·.1)).map fun (s : Nat) => (s : Int))) (srt : ms.Pairwise (· ≤ ·)) : ms = (usl rows F (2 * E)).map fun (s : Nat) => (s : Int) := by
  refine eq_of_sorted (r := (· ≤ ·)) (fun a b h1 h2 => Int.le_antisymm h1 h2) (p.trans ((h.perm.map _).symm)) srt ?_
  rw [List.pairwise_map]
  exact (usl_up _).imp fun h => by omega
theorem TV.free (h : TV rows F E tl) : fsl rows F E = ((List.range (2 * E)).filter fun s => !decide (s ∈ tl.map (·.1))).head? := by
  unfold fsl
  rw [List.head?_filter]
  have : ∀ (l : List Nat), (∀ s ∈ l, s < 2 * E) → l.find? (fun s => !decide (slq rows F s 0 = 1)) = l.find? fun s => !decide (s ∈ tl.map (·.1)) := by
    intro l
    induction l with
    | nil => intro _; rfl
    | cons s l ih =>
      intro hl
      have e : decide (slq rows F s 0 = 1) = decide (s ∈ tl.map (·.1)) := by
        have hm := h.mem s
        unfold usl at hm
        rw [List.mem_filter, List.mem_range, decide_eq_true_eq] at hm
        have hs := hl s (List.mem_cons_self ..)
        by_cases c : s ∈ tl.map (·.1)
        · rw [decide_eq_true c, decide_eq_true (hm.mpr c).2]
        · rw [decide_eq_false c, decide_eq_false fun z => c (hm.mp ⟨hs, z⟩)]
      rw [List.find?_cons, List.find?_cons, e, ih fun s hs => hl s (List.mem_cons_of_mem _ hs)]
  exact this _ fun s hs => List.mem_range.mp hs
theorem TV.at (h : TV rows F E tl) {x : Tl} (hx : x ∈ tl) : slq rows F x.1 1 = x.2.2.1 ∧ slq rows F x.1 2 = x.2.2.2.1 ∧ slq rows F x.1 3 = x.2.2.2.2 := ⟨h.is x hx 1 (by decide), h.is x hx 2 (by decide), h.is x hx 3 (by decide)⟩
theorem uq_at {tl : List Tl} (h : (tl.map prK).Nodup) {x y : Tl} (hx : x ∈ tl) (hy : y ∈ tl) (e : prK x = prK y) : x = y := by
  induction tl with
  | nil => cases hx
  | cons z r ih =>
    rw [List.map_cons, List.nodup_cons] at h
    rcases List.mem_cons.mp hx with e1 | h1
    · rcases List.mem_cons.mp hy with e2 | h2
      · rw [e1, e2]
      · exact absurd (List.mem_map.mpr ⟨y, h2, by rw [← e, e1]⟩) h.1
    · rcases List.mem_cons.mp hy with e2 | h2
      · exact absurd (List.mem_map.mpr ⟨x, h1, by rw [e, e2]⟩) h.1
      · exact ih h.2 h1 h2
theorem TV.sof (h : TV rows F E tl) (fo nm : Int) : sof rows F E fo nm = (tl.find? fun x => decide (prK x = (fo, nm))).map (·.1) := by
  unfold K32.sof
  cases e : tl.find? (fun x => decide (prK x = (fo, nm))) with
  | none =>
    show _ = none
    rw [List.find?_eq_none]
    intro s hs hc
    obtain ⟨x, hx, rfl⟩ := List.mem_map.mp ((h.mem s).mp hs)
    obtain ⟨a1, a2, _⟩ := h.at hx
    rw [a1, a2, Bool.and_eq_true, decide_eq_true_eq, decide_eq_true_eq] at hc
    have := List.find?_eq_none.mp e x hx
    exact this (decide_eq_true (by unfold prK; rw [hc.1, hc.2]))
  | some x =>
    show _ = some x.1
    have hx := List.mem_of_find?_eq_some e
    have ex : prK x = (fo, nm) := by simpa using List.find?_some e
    obtain ⟨a1, a2, _⟩ := h.at hx
    have px : (decide (slq rows F x.1 1 = fo) && decide (slq rows F x.1 2 = nm)) = true := by
      rw [a1, a2, Bool.and_eq_true, decide_eq_true_eq, decide_eq_true_eq]
      exact ⟨congrArg Prod.fst ex, congrArg Prod.snd ex⟩
    cases e2 : (usl rows F (2 * E)).find? (fun s => decide (slq rows F s 1 = fo) && decide (slq rows F s 2 = nm)) with
    | none =>
      have := List.find?_eq_none.mp e2 x.1 ((h.mem _).mpr (List.mem_map.mpr ⟨x, hx, rfl⟩))
      exact absurd px this
    | some s =>
      obtain ⟨y, hy, ey⟩ := List.mem_map.mp ((h.mem s).mp (List.mem_of_find?_eq_some e2))
      have py := List.find?_some e2
      obtain ⟨b1, b2, _⟩ := h.at hy
      rw [← ey, b1, b2, Bool.and_eq_true, decide_eq_true_eq, decide_eq_true_eq] at py
      have : x = y := uq_at h.uq hx hy (by rw [ex]; unfold prK; rw [py.1, py.2])
      rw [this, ← ey]
theorem TV.nin (h : TV rows F E tl) (fo : Int) : (nin rows F E fo).Perm ((tl.filter fun x => decide (x.2.2.1 = fo)).map fun x => (x.2.2.2.1, x.2.2.2.2)) := by
  unfold K32.nin
  refine ((h.perm.filter _).map _).trans ?_
  have : ∀ (l : List Tl), (∀ x ∈ l, x ∈ tl) → ((l.map (·.1)).filter fun s => decide (slq rows F s 1 = fo)).map (fun s => (slq rows F s 2, slq rows F s 3)) = (l.filter fun x => decide (x.2.2.1 = fo)).map fun x => (x.2.2.2.1, x.2.2.2.2) := by
    intro l
    induction l with
    | nil => intro _; rfl
    | cons x l ih =>
      intro hl
      obtain ⟨a1, a2, a3⟩ := h.at (hl x (List.mem_cons_self ..))
      rw [List.map_cons, List.filter_cons, List.filter_cons, a1]
      have ih' := ih fun y hy => hl y (List.mem_cons_of_mem _ hy)
      by_cases c : x.2.2.1 = fo
      · rw [decide_eq_true c, if_pos rfl, if_pos rfl, List.map_cons, List.map_cons, ih', a2, a3]
      · rw [decide_eq_false c, if_neg (by decide), if_neg (by decide), ih']
  rw [this tl fun x hx => hx]
end
/-- the names from n on, one after another -/
def nmI (n : Int) (k : Nat) : Int := 1 + (n - 1 + (k : Int)) % 999999999999
theorem nmI_0 {n : Int} (h : 1 ≤ n ∧ n ≤ 999999999999) : nmI n 0 = n := by
  unfold nmI
  have e : n - 1 + ((0 : Nat) : Int) = n - 1 := by omega
  rw [e, Int.emod_eq_of_lt (by omega) (by omega)]
  omega
theorem nmI_s (n : Int) (k : Nat) : 1 + nmI n k % 999999999999 = nmI n (k + 1) := by
  unfold nmI
  have e : n - 1 + ((k + 1 : Nat) : Int) = 1 + (n - 1 + (k : Int)) := by omega
  rw [e, Int.add_emod_emod]
theorem nmI_inj {n : Int} {i j : Nat} (hi : i < 1000) (hj : j < 1000) (e : nmI n i = nmI n j) : i = j := by
  unfold nmI at e
  have e' : (n - 1 + (i : Int)) % 999999999999 = (n - 1 + (j : Int)) % 999999999999 := by
    generalize (n - 1 + (i : Int)) % 999999999999 = x at e
    generalize (n - 1 + (j : Int)) % 999999999999 = y at e
    omega
  have := Int.emod_eq_emod_iff_emod_sub_eq_zero.mp e'
  have e2 : n - 1 + (i : Int) - (n - 1 + (j : Int)) = (i : Int) - j := by omega
  rw [e2] at this
  clear e e' e2
  rcases Nat.le_total j i with hle | hle
  · rw [Int.emod_eq_of_lt (by omega) (by omega)] at this
    omega
  · have h1 : ((i : Int) - j + 999999999999) % 999999999999 = ((i : Int) - j) % 999999999999 := Int.add_emod_right _ _
    rw [this] at h1
    by_cases hz : i = j
    · exact hz
    · rw [Int.emod_eq_of_lt (by omega) (by omega)] at h1
      omega
/-- so many names are taken -/
theorem taken_le {rs : List (List Int)} {fo n : Int} {k : Nat} (hk : k < 1000) (h : ∀ j < k, [fo, nmI n j] ∈ rs) : k ≤ rs.length := by
  have nd : ((List.range k).map fun j => [fo, nmI n j]).Nodup := by
    rw [List.Nodup, List.pairwise_map]
    refine (List.pairwise_lt_range (n := k)).imp_of_mem fun {a b} ha hb hab e => ?_
    have ha := List.mem_range.mp ha
    have hb := List.mem_range.mp hb
    have := nmI_inj (n := n) (i := a) (j := b) (by omega) (by omega) (by simpa using e)
    omega
  have := nd_sub nd fun x hx => by
    obtain ⟨j, hj, rfl⟩ := List.mem_map.mp hx
    exact h j (List.mem_range.mp hj)
  rw [List.length_map, List.length_range] at this
  exact this
end
end K32
set_option Elab.async false
set_option linter.all false
set_option maxRecDepth 100000
set_option maxHeartbeats 1000000
namespace K32
open PySem L2 PyProof.Rows
section
variable {P : Program} {w : World} {K : PySem.W.Frag} {mg : Str → Option Value} {base : Heap}
/-! ### the links of the law -/
structure Lks (H : Hp) (w : Addr) (ts : List Addr) (ls : List Lk) : Prop where
  top : H w = some (.lst (ts.map V.ref))
  len : ts.length = ls.length
  item : ∀ (i : Nat) t l, ts[i]? = some t → ls[i]? = some l → H t = some (.tup [.int l.1, .int l.2.1, .int l.2.2])
theorem Lks.same {H H' : Hp} {w : Addr} {ts : List Addr} {ls : List Lk} (h : Lks H w ts ls) (s : Same H H') : Lks H' w ts ls := ⟨s _ _ h.top, h.len, fun i t l e1 e2 => s _ _ (h.item i t l e1 e2)⟩
theorem Lks.off {H : Hp} {w b : Addr} {ts : List Addr} {ls : List Lk} {o : HO} {xs : List V} (h : Lks H w ts ls) (hb : H b = some (.lst xs)) (n : b ≠ w) : Lks (upd H b o) w ts ls :=
  ⟨by rw [upd_ne (Ne.symm n)]; exact h.top, h.len, fun i t l e1 e2 => by have := h.item i t l e1 e2; rw [upd_ne (fun z => by rw [z, hb] at this; cases this)]; exact this⟩
theorem Lks.add {H H1 : Hp} {w t : Addr} {ts : List Addr} {ls : List Lk} {l : Lk} (h : Lks H w ts ls) (s : Same H H1) (ht : H1 t = some (.tup [.int l.1, .int l.2.1, .int l.2.2])) : Lks (upd H1 w (.lst (ts.map V.ref ++ [.ref t]))) w (ts ++ [t]) (ls ++ [l]) := by
  have hw := s _ _ h.top
  have keep : ∀ b xs, H1 b = some (.tup xs) → upd H1 w (.lst (ts.map V.ref ++ [.ref t])) b = some (.tup xs) := fun b xs e => by
    rw [upd_ne (fun z => by rw [z, hw] at e; cases e)]; exact e
  refine ⟨by rw [upd_same]; simp, by simp [h.len], fun i t' l' e1 e2 => ?_⟩
  rcases getApp h.len e1 with ⟨hi, e1⟩ | ⟨hi, e1⟩
  · rcases getApp (rfl : ls.length = ls.length) e2 with ⟨_, e2⟩ | ⟨h2, _⟩
    · exact keep _ _ (s _ _ (h.item i t' l' e1 e2))
    · exact absurd h2 (by omega)
  · rcases getApp (rfl : ls.length = ls.length) e2 with ⟨h2, _⟩ | ⟨_, e2⟩
    · exact absurd h2 (by omega)
    · have hj0 : i - ls.length < 1 := by have := (List.getElem?_eq_some_iff.mp e1).1; simpa using this
      have : i - ls.length = 0 := by omega
      rw [this] at e1 e2
      cases e1
      cases e2
      exact keep _ _ ht
def pr2 (l : Lk) : List Int := [l.1, l.2.1]
/-- tuples that came, row by row -/
structure RT (H : Hp) (as : List Addr) (rows : List (List Int)) : Prop where
  len : as.length = rows.length
  row : ∀ (i : Nat) a r, as[i]? = some a → rows[i]? = some r → H a = some (.tup (r.map V.int))
theorem RT.same {H H' : Hp} {as : List Addr} {rows : List (List Int)} (h : RT H as rows) (s : Same H H') : RT H' as rows := ⟨h.len, fun i a r e1 e2 => s _ _ (h.row i a r e1 e2)⟩
theorem RT.add {H H1 : Hp} {as : List Addr} {rows : List (List Int)} {a : Addr} {r : List Int} (h : RT H as rows) (s : Same H H1) (ha : H1 a = some (.tup (r.map V.int))) : RT H1 (as ++ [a]) (rows ++ [r]) := by
  refine ⟨by simp [h.len], fun i b q e1 e2 => ?_⟩
  rcases getApp h.len e1 with ⟨hi, e1⟩ | ⟨hi, e1⟩
  · rcases getApp (rfl : rows.length = rows.length) e2 with ⟨_, e2⟩ | ⟨h2, _⟩
    · exact s _ _ (h.row i b q e1 e2)
    · exact absurd h2 (by omega)
  · rcases getApp (rfl : rows.length = rows.length) e2 with ⟨h2, _⟩ | ⟨_, e2⟩
    · exact absurd h2 (by omega)
    · have hj0 : i - rows.length < 1 := by have := (List.getElem?_eq_some_iff.mp e1).1; simpa using this
      have : i - rows.length = 0 := by omega
      rw [this] at e1 e2
      cases e1
      cases e2
      exact ha
def spLink (K : PySem.W.Frag) : Sp := fun vs H Q _ => ∃ (lk pl : Addr) (ts : List Addr) (ls : List Lk) (ps : List Int) (c f : Int), vs = [.ref lk, .ref pl, .int c, .int f] ∧ Lks H lk ts ls ∧ ls.length ≤ 30 ∧ H pl = some (.lst (ps.map V.int)) ∧ ps ≠ [] ∧
  ∀ (t : Addr) (H' : Hp) (fo nm : Int), Same H H' → H' t = some (.tup [.int fo, .int nm, .int f]) → [fo, nm] ∉ ls.map pr2 → Q (.ref t) H'
theorem ok_link (T : Tx K mg) : FnOk P w K mg base CX0 1 T.f_l_link T.fd_l_link ["_law_links_here", "_law_placed", "_law_cell", "_law_f"] (spLink K) := by
  refine T.F_l_link.ok sc_l_link (fun vs H Q E h => ?_) (fun cdv A outer s H vs Q E hr h => ?_)
  · obtain ⟨lk, pl, ts, ls, ps, c, f, rfl, _⟩ := h
    rfl
  · obtain ⟨lk, pl, ts, ls, ps, c, f, rfl, hK, l30, hpl, hps, k⟩ := h
    have hu : _ + 60 < cLine := Nat.lt_of_le_of_lt (Nat.add_le_add_left (by decide : 60 ≤ 64) _) hr.units
    refine ⟨_, pss_cut (ps_set (i := 4) sc_l_link.nd rfl (Or.inl rfl) (pe_ix ix_list (pv 1) (pe_op op_mod (pv 2) (pe_callB call_len_seq rfl T.z_len PySem.boot_len (pa_cons (pv 1) pa_nil))) (fun _ _ => rfl)))
      (pss_cons (ps_set (i := 5) sc_l_link.nd rfl (Or.inl rfl) (pe_op op_add pe_int (pe_op op_mod (pe_op op_fdiv (pv 2) pe_int) pe_int)))
      (pss_cut (ps_if (pt_cmpR op_eq (pe_op op_mod (pe_op op_fdiv (pv 2) pe_int) pe_int) pe_int (nomark _)) (pss_one (ps_set (i := 5) sc_l_link.nd rfl (Or.inl rfl) (pe_op op_add pe_int (pe_op op_mod (pv 2) (pe_op op_sub (pe_op op_pow pe_int pe_int) pe_int))))) pss_nil)
      (pss_cons (ps_while PassesOwn.never (pt_cmpR (op_inTups hu) (pe_tup (pa_cons (pv 4) (pa_cons (pv 5) pa_nil))) (pe_comp (N' := ["_law_link_here"]) (cap := [none]) rfl (compOk_of (by kernel_rfl)) (pi_list (pv 0))
          (fun cells C s₀ H₀ fp pins => ⟨pg_name (i := 0) ndp1 rfl (Or.inl rfl) (.inr rfl), pifs_nil, pe_slice (sl_tupK (K := K) rfl) (pv 0) po_none (po_some pe_int)⟩)) rfl)
        (pss_one (ps_set (i := 5) sc_l_link.nd rfl (Or.inl rfl) (pe_op op_add pe_int (pe_op op_mod (pv 5) (pe_op op_sub (pe_op op_pow pe_int pe_int) pe_int))))))
      (pss_one (ps_ret (pe_tup (pa_cons (pv 4) (pa_cons (pv 5) (pa_cons (pv 3) pa_nil))))))))), ?_⟩
    have e12 : (10 : Int) ^ (Int.toNat 12) - 1 = 999999999999 := by decide +kernel
    refine ⟨fun σ H' => H' = H ∧ ∃ fo : Int, σ = [some (.ref lk), some (.ref pl), some (.int c), some (.int f), some (.int fo), none], ?_, ?_⟩
    · have lp : 0 < ps.length := List.length_pos_iff.mpr hps
      have a0 := Int.emod_nonneg c (b := ((ps.map V.int).length : Int)) (by rw [List.length_map]; omega)
      have a1 := Int.emod_lt_of_pos c (b := ((ps.map V.int).length : Int)) (by rw [List.length_map]; omega)
      obtain ⟨j, ej⟩ : ∃ j : Nat, c % ((ps.map V.int).length : Int) = (j : Int) := ⟨(c % ((ps.map V.int).length : Int)).toNat, by omega⟩
      have hj : j < ps.length := by rw [List.length_map] at a1 ej; omega
      exact ⟨_, rfl, _, rfl, _, rfl, pl, _, rfl, .inl (SqL.of hpl), _, _, rfl, rfl, (by show (0 : Int) < ((ps.map V.int).length : Int); rw [List.length_map]; omega), pl, _, _, .int ps[j], rfl, rfl, SqL.of hpl, (by rw [ej]; exact atI_nat (by rw [List.getElem?_map, List.getElem?_eq_getElem hj]; rfl)), rfl, ps[j], rfl⟩
    rintro σ H' ⟨eH, fo, rfl⟩
    rw [eH]
    refine ⟨_, rfl, _, _, rfl, rfl, ⟨by decide, by decide⟩, _, _, rfl, rfl, (by show (0 : Int) < 4; decide), _, _, rfl, rfl, ?_⟩
    refine ⟨fun σ H' => H' = H ∧ ∃ n : Int, (1 ≤ n ∧ n ≤ 999999999999) ∧ σ = [some (.ref lk), some (.ref pl), some (.int c), some (.int f), some (.int fo), some (.int n)], ?_, ?_⟩
    · refine ⟨_, rfl, _, _, rfl, rfl, ⟨by decide, by decide⟩, _, _, rfl, rfl, (by show (0 : Int) < 4; decide), rfl, _, rfl, ite2 (fun _ => ?_) (fun _ => ⟨rfl, _, ⟨by omega, by omega⟩, rfl⟩)⟩
      refine ⟨_, rfl, _, _, rfl, rfl, ⟨by decide, by decide, by decide⟩, _, _, rfl, rfl, _, _, rfl, rfl, (by show (0 : Int) < 10 ^ 12 - 1; decide +kernel), _, _, rfl, rfl, rfl, 1 + c % 999999999999, ?_, ?_⟩
      · have h1 := Int.emod_nonneg c (show (999999999999 : Int) ≠ 0 by decide)
        have h2 := Int.emod_lt_of_pos c (show (0 : Int) < 999999999999 by decide)
        generalize c % 999999999999 = z at h1 h2
        omega
      · show [some (V.ref lk), some (V.ref pl), some (V.int c), some (V.int f), some (V.int fo), some (V.int (1 + c % (10 ^ Int.toNat 12 - 1)))] = _
        rw [e12]
    rintro σ H' ⟨eH, n, hn, rfl⟩
    rw [eH]
    have lt : ts.length = ls.length := hK.len
    refine ⟨fun m σ H' => ∃ i, m = 40 - i ∧ i ≤ 31 ∧ (∀ j < i, [fo, nmI n j] ∈ ls.map pr2) ∧ σ = [some (.ref lk), some (.ref pl), some (.int c), some (.int f), some (.int fo), some (.int (nmI n i))] ∧ Same H H', ⟨_, 0, rfl, Nat.zero_le _, fun j hj => absurd hj (Nat.not_lt_zero _), by rw [nmI_0 hn], Same.refl _⟩, ?_⟩
    rintro m σ H1 ⟨i, rfl, hi, htk, rfl, s1⟩
    have hK1 := hK.same s1
    refine ⟨_, rfl, _, rfl, (by show 2 ≤ sizeLine; decide), fun tp ftp => ?_⟩
    have st := Same.upd0 (o := .tup [.int fo, .int (nmI n i)]) ftp
    have htp : upd H1 tp (.tup [.int fo, .int (nmI n i)]) tp = some (.tup (([fo, nmI n i] : List Int).map V.int)) := upd_same
    have hK2 := hK1.same st
    generalize upd H1 tp (.tup [.int fo, .int (nmI n i)]) = H2 at st htp hK2 ⊢
    refine ⟨_, rfl, lk, rfl, ⟨_, SqL.of hK2.top⟩, ?_⟩
    refine comp_list (cap := [none]) (K := K) (a := lk) (xs := ts.map V.ref) (small_len (by rw [List.length_map]; omega)) (fun j ys σ H' => j ≤ ts.length ∧ ∃ as, ys = as.map V.ref ∧ as.length = j ∧ RT H' as ((ls.take j).map pr2) ∧ σ.length = 1 ∧ Same H2 H')
      (by exact ⟨Nat.zero_le _, [], rfl, rfl, ⟨rfl, fun i a r e => by simp at e⟩, rfl, Same.refl _⟩) (fun j ys σ H' ⟨h1, as, h2, h3, h4, h5, h6⟩ => ⟨by rw [List.length_map]; exact h1, by rw [h2, List.length_map, h3]; exact Nat.le_refl _, SqL.of (h6 _ _ hK2.top)⟩) ?_ ?_
    · rintro j x ys σ H3 hx ⟨h1, as, rfl, h3, h4, h5, h6⟩
      rw [List.getElem?_map] at hx
      cases et : ts[j]? with
      | none => rw [et] at hx; cases hx
      | some t =>
        rw [et] at hx
        cases hx
        match σ, h5 with
        | [q1], _ =>
          have hj : j < ts.length := (List.getElem?_eq_some_iff.mp et).1
          have hjl : j < ls.length := by omega
          have el : ls[j]? = some ls[j] := List.getElem?_eq_getElem hjl
          have hit := h6 _ _ (hK2.item j t _ et el)
          refine ⟨_, rfl, _, rfl, t, _, rfl, SqT.of hit, (fun z => absurd z.2 (by show ¬ (HT.sIx 3 3 (some 2) = 3); decide)), fun q fq => ?_⟩
          refine ⟨hj, as ++ [q], by simp, by simp [h3], ?_, rfl, h6.upd fq⟩
          rw [take_snoc el, List.map_append]
          exact h4.add (Same.upd0 fq) upd_same
    rintro ys σ H3 ⟨h1, as, rfl, h3, h4, h5, h6⟩ D hD
    have e0 : (ts.map V.ref).length = ls.length := by rw [List.length_map, lt]
    rw [e0, List.take_length] at h4
    have s3 := h6.upd (o := .lst (as.map V.ref)) hD
    have hR : RsT (upd H3 D (.lst (as.map V.ref))) D as (ls.map pr2) := ⟨upd_same, h4.len, (h4.same (Same.upd0 hD)).row⟩
    refine ⟨tp, D, [fo, nmI n i], as, ls.map pr2, rfl, rfl, s3 _ _ htp, hR, _, rfl, ?_⟩
    have S3 := (s1.trans st).trans s3
    refine ite2 (fun hin => ?_) (fun hin => ?_)
    · have hin : [fo, nmI n i] ∈ ls.map pr2 := by simpa using hin
      have htk2 : ∀ j < i + 1, [fo, nmI n j] ∈ ls.map pr2 := fun j hj => by
        rcases Nat.lt_succ_iff_lt_or_eq.mp hj with h | h
        · exact htk j h
        · rw [h]; exact hin
      have := taken_le (by omega) htk2
      rw [List.length_map] at this
      refine ⟨fun σ H' => ∃ i', i' = i + 1 ∧ (∀ j < i', [fo, nmI n j] ∈ ls.map pr2) ∧ σ = [some (.ref lk), some (.ref pl), some (.int c), some (.int f), some (.int fo), some (.int (nmI n i'))] ∧ Same H H', fun σ2 H2 ⟨i', e1, e2, e3, e4⟩ => ⟨40 - i', by omega, i', rfl, by omega, e2, e3, e4⟩, ?_⟩
      refine ⟨_, rfl, _, _, rfl, rfl, ⟨by decide, by decide, by decide⟩, _, _, rfl, rfl, _, _, rfl, rfl, (by show (0 : Int) < 10 ^ 12 - 1; decide +kernel), _, _, rfl, rfl, i + 1, rfl, htk2, ?_, S3⟩
      show [some (V.ref lk), some (V.ref pl), some (V.int c), some (V.int f), some (V.int fo), some (V.int (1 + nmI n i % (10 ^ Int.toNat 12 - 1)))] = _
      rw [e12, nmI_s]
    · have hin : [fo, nmI n i] ∉ ls.map pr2 := by simpa using hin
      exact ⟨_, rfl, _, rfl, _, rfl, (by show 3 ≤ sizeLine; decide), fun t ft => k t _ fo (nmI n i) (S3.upd ft) upd_same hin⟩
end
end K32
set_option Elab.async false
set_option linter.all false
set_option maxRecDepth 100000
set_option maxHeartbeats 1000000
namespace K32
open PySem L2 PyProof.Rows
section
variable {P : Program} {w : World} {K : PySem.W.Frag} {mg : Str → Option Value} {base : Heap}
structure LL (H : Hp) (pl lk : Addr) (ps : List Int) (ts : List Addr) (ls : List Lk) (n : Nat) : Prop where
  hp : H pl = some (.lst (ps.map V.int))
  ne : ps ≠ []
  lp : ps.length ≤ 20
  hk : Lks H lk ts ls
  nd : (ls.map pr2).Nodup
  len : ls.length ≤ n
  ap : pl ≠ lk
theorem LL.same {H H' : Hp} {pl lk : Addr} {ps : List Int} {ts : List Addr} {ls : List Lk} {n : Nat} (h : LL H pl lk ps ts ls n) (s : Same H H') : LL H' pl lk ps ts ls n := ⟨s _ _ h.hp, h.ne, h.lp, h.hk.same s, h.nd, h.len, h.ap⟩
theorem LL.more {H : Hp} {pl lk : Addr} {ps : List Int} {ts : List Addr} {ls : List Lk} {n m : Nat} (h : LL H pl lk ps ts ls n) (hm : n ≤ m) : LL H pl lk ps ts ls m := ⟨h.hp, h.ne, h.lp, h.hk, h.nd, Nat.le_trans h.len hm, h.ap⟩
theorem LL.add {H H1 : Hp} {pl lk t : Addr} {ps : List Int} {ts : List Addr} {ls : List Lk} {n : Nat} {fo nm f : Int} (h : LL H pl lk ps ts ls n) (s : Same H H1) (ht : H1 t = some (.tup [.int fo, .int nm, .int f])) (hn : [fo, nm] ∉ ls.map pr2) : LL (upd H1 lk (.lst (ts.map V.ref ++ [.ref t]))) pl lk ps (ts ++ [t]) (ls ++ [(fo, nm, f)]) (n + 1) := by
  refine ⟨by rw [upd_ne h.ap]; exact s _ _ h.hp, h.ne, h.lp, h.hk.add (l := (fo, nm, f)) s ht, ?_, by have := h.len; simp; omega, h.ap⟩
  rw [List.map_append, List.nodup_append]
  refine ⟨h.nd, by simp, fun a ha b hb e => ?_⟩
  have : b = [fo, nm] := by simpa [pr2] using hb
  rw [e, this] at ha
  exact hn ha
def spLinks (K : PySem.W.Frag) : Sp := fun vs H Q _ => ∃ (a : Addr) (ns : List Int) (F : Nat), vs = [.ref a, .int F] ∧ SqL K H a (ns.map V.int) ∧ ns.length ≤ 63 ∧ 2 ≤ F ∧ F ≤ 9 ∧
  ∀ (lk : Addr) (ts : List Addr) (ls : List Lk) (H' : Hp), Same H H' → Lks H' lk ts ls → (ls.map pr2).Nodup → ls.length ≤ 16 → Q (.ref lk) H'
theorem ok_links (T : Tx K mg) : FnOk P w K mg base CX0 2 T.f_l_links T.fd_l_links ["_law_script", "_law_files"] (spLinks K) := by
  refine T.F_l_links.ok sc_l_links (fun vs H Q E h => ?_) (fun cdv A outer s H vs Q E hr h => ?_)
  · obtain ⟨a, ns, F, rfl, _⟩ := h
    rfl
  · obtain ⟨a, ns, F, rfl, hS, hl, f1, f2, k⟩ := h
    refine ⟨_, pss_cons (ps_set (i := 2) sc_l_links.nd rfl (Or.inl rfl) (pe_lst (pa_cons pe_int pa_nil)))
      (pss_cons (ps_set (i := 3) sc_l_links.nd rfl (Or.inl rfl) (pe_lst pa_nil))
      (pss_cons (ps_for PassesOwn.never rfl (pi_range1 rfl T.z_range (pa_cons (pe_op op_sub (pv 1) pe_int) pa_nil)) (pg_name (i := 4) sc_l_links.nd rfl (Or.inl rfl))
        (pss_cut (ps_set (i := 5) sc_l_links.nd rfl (Or.inl rfl) (pe_op op_add pe_int (pe_op op_mod (pe_op op_add (pv 4) (pe_call (ok_cell T) hr rfl T.g_l_cell_at T.F_l_cell_at.kp T.b_l_cell_at .nil pass0 (pa_cons (pv 0) (pa_cons pe_int pa_nil)))) (pe_op op_sub (pv 1) pe_int))))
        (pss_cons (ps_set (i := 6) sc_l_links.nd rfl (Or.inl rfl) (pe_call (ok_cell T) hr rfl T.g_l_cell_at T.F_l_cell_at.kp T.b_l_cell_at .nil pass0 (pa_cons (pv 0) (pa_cons (pe_op op_add pe_int (pv 5)) pa_nil))))
        (pss_cut (ps_if (PW.pt (pw_and (pt_cmpR op_gt (pe_op op_mod (pv 6) pe_int) pe_int (nomark _)) (pw_and1 (pt_cmpR op_gt (pe_op op_mod (pe_op op_fdiv (pv 6) pe_int) pe_int) pe_int (nomark _)))))
          (pss_one (ps_expr (pe_bm PySem.F.plainAttrs_list PySem.F.slot_list_append PySem.F.type_list_append mt_append (pv 3) (pa_cons (pe_call (ok_link T) hr rfl T.g_l_link T.F_l_link.kp T.b_l_link .nil pass0 (pa_cons (pv 3) (pa_cons (pv 2) (pa_cons (pe_op op_fdiv (pv 6) pe_int) (pa_cons (pv 5) pa_nil))))) pa_nil)))) pss_nil)
        (pss_cut (ps_if (PW.pt (pw_and (pt_cmpR op_eq (pe_op op_mod (pv 6) pe_int) pe_int (nomark _)) (pw_and1 (pt_cmpR op_eq (pe_op op_mod (pe_op op_fdiv (pv 6) pe_int) pe_int) pe_int (nomark _)))))
          (pss_one (ps_expr (pe_bm PySem.F.plainAttrs_list PySem.F.slot_list_append PySem.F.type_list_append mt_append (pv 3) (pa_cons (pe_call (ok_link T) hr rfl T.g_l_link T.F_l_link.kp T.b_l_link .nil pass0 (pa_cons (pv 3) (pa_cons (pv 2) (pa_cons (pe_op op_fdiv (pv 6) pe_int) (pa_cons (pv 5) pa_nil))))) pa_nil)))) pss_nil)
        (pss_one (ps_if (pt_cmpR op_eq (pe_op op_mod (pv 6) pe_int) pe_int (nomark _))
          (pss_one (ps_expr (pe_bm PySem.F.plainAttrs_list PySem.F.slot_list_append PySem.F.type_list_append mt_append (pv 2) (pa_cons (pv 5) pa_nil)))) pss_nil)))))))
      (pss_one (ps_ret (pv 3))))), ?_⟩
    have hn : (0 : Int) < (F : Int) - 1 := by omega
    refine ⟨(by show 1 ≤ sizeLine; decide), fun pl fpl => ⟨(by show 0 ≤ sizeLine; decide), fun lk flk => ?_⟩⟩
    have flk0 : H lk = none := (Same.upd0 fpl).free flk
    have npl : pl ≠ lk := fun z => by rw [z, upd_same] at flk; cases flk
    refine ⟨_, rfl, _, _, rfl, rfl, (F : Int) - 1, rfl, by omega, by omega, for_range (lo := 0) (n := ((F : Int) - 1).toNat) (fun i σ H' => ∃ x4 x5 x6 ps ts ls, σ = [some (.ref a), some (.int F), some (.ref pl), some (.ref lk), x4, x5, x6] ∧ Same H H' ∧ LL H' pl lk ps ts ls (2 * i) ∧ ps.length ≤ i + 1)
      ⟨none, none, none, [0], [], [], rfl, (Same.upd0 fpl).upd flk, ⟨(Same.upd0 flk) _ _ upd_same, by simp, by simp, ⟨upd_same, rfl, fun i t l e => by simp at e⟩, List.Pairwise.nil, Nat.le_refl _, npl⟩, by simp⟩ ?_ ?_⟩
    · rintro i σ H' hi ⟨x4, x5, x6, ps, ts, ls, rfl, sH, hLL, lps⟩
      have hi' : (i : Int) < (F : Int) - 1 := by omega
      have hf0 := Int.emod_nonneg (0 + (i : Int) + ns.getD 1 0) (show (F : Int) - 1 ≠ 0 by omega)
      refine ⟨fun σ H2 => H2 = H' ∧ ∃ f : Int, 1 ≤ f ∧ σ = [some (.ref a), some (.int F), some (.ref pl), some (.ref lk), some (.int (0 + (i : Int))), some (.int f), x6], ?_, ?_⟩
      · exact ⟨_, rfl, _, rfl, a, ns, 1, rfl, sH.seq hS, hl, _, _, rfl, rfl, _, rfl, _, _, rfl, rfl, _, _, rfl, rfl, hn, _, _, rfl, rfl, rfl, 1 + (0 + (i : Int) + ns.getD 1 0) % ((F : Int) - 1), by omega, rfl⟩
      clear hf0
      rintro σ H2 ⟨eH, f, hb1, rfl⟩
      rw [eH]
      have e1 : (1 : Int) + f = (((1 + f).toNat : Nat) : Int) := by omega
      refine ⟨_, rfl, _, rfl, _, _, rfl, rfl, a, ns, (1 + f).toNat, by rw [← e1]; rfl, sH.seq hS, hl, ?_⟩
      generalize ns.getD (1 + f).toNat 0 = cl
      generalize (0 : Int) + (i : Int) = iz
      -- the first name
      refine ⟨fun σ H2 => ∃ ts2 ls2, σ = [some (.ref a), some (.int F), some (.ref pl), some (.ref lk), some (.int iz), some (.int f), some (.int cl)] ∧ Same H H2 ∧ LL H2 pl lk ps ts2 ls2 (2 * i + 1), ?_, ?_⟩
      · have els : ∃ ts2 ls2, [some (V.ref a), some (.int F), some (.ref pl), some (.ref lk), some (.int iz), some (.int f), some (.int cl)] = [some (V.ref a), some (.int F), some (.ref pl), some (.ref lk), some (.int iz), some (.int f), some (.int cl)] ∧ Same H H' ∧ LL H' pl lk ps ts2 ls2 (2 * i + 1) := ⟨ts, ls, rfl, sH, hLL.more (by omega)⟩
        refine ⟨_, rfl, _, _, rfl, rfl, (by show (0 : Int) < 3; decide), _, _, rfl, rfl, _, rfl, ite2 (fun _ => ?_) (fun _ => iteF els)⟩
        refine ⟨_, rfl, _, _, rfl, rfl, ⟨by decide, by decide⟩, _, _, rfl, rfl, (by show (0 : Int) < 5; decide), _, _, rfl, rfl, _, rfl, ite2 (fun _ => ?_) (fun _ => els)⟩
        refine ⟨_, rfl, .inl ⟨rfl, _, SqL.of hLL.hk.top⟩, _, rfl, _, rfl, _, rfl, _, _, rfl, rfl, ⟨by decide, by decide⟩, _, rfl, lk, pl, ts, ls, ps, _, f, rfl, hLL.hk, (by have := hLL.len; omega), hLL.hp, hLL.ne, fun t H3 fo nm s3 ht hno => ?_⟩
        refine ⟨lk, _, _, rfl, rfl, s3 _ _ hLL.hk.top, small1000 (by have := hLL.len; have := hLL.hk.len; rw [List.length_map]; omega), ?_⟩
        exact ⟨ts ++ [t], ls ++ [(fo, nm, f)], rfl, (sH.trans s3).updF flk0, hLL.add s3 ht hno⟩
      rintro σ H3 ⟨ts2, ls2, rfl, s3, hL3⟩
      -- the second
      refine ⟨fun σ H2 => ∃ ts2 ls2, σ = [some (.ref a), some (.int F), some (.ref pl), some (.ref lk), some (.int iz), some (.int f), some (.int cl)] ∧ Same H H2 ∧ LL H2 pl lk ps ts2 ls2 (2 * (i + 1)), ?_, ?_⟩
      · have els : ∃ ts' ls', [some (V.ref a), some (.int F), some (.ref pl), some (.ref lk), some (.int iz), some (.int f), some (.int cl)] = [some (V.ref a), some (.int F), some (.ref pl), some (.ref lk), some (.int iz), some (.int f), some (.int cl)] ∧ Same H H3 ∧ LL H3 pl lk ps ts' ls' (2 * (i + 1)) := ⟨ts2, ls2, rfl, s3, hL3.more (by omega)⟩
        refine ⟨_, rfl, _, _, rfl, rfl, (by show (0 : Int) < 3; decide), rfl, _, rfl, ite2 (fun _ => ?_) (fun _ => iteF els)⟩
        refine ⟨_, rfl, _, _, rfl, rfl, ⟨by decide, by decide⟩, _, _, rfl, rfl, (by show (0 : Int) < 5; decide), rfl, _, rfl, ite2 (fun _ => ?_) (fun _ => els)⟩
        refine ⟨_, rfl, .inl ⟨rfl, _, SqL.of hL3.hk.top⟩, _, rfl, _, rfl, _, rfl, _, _, rfl, rfl, ⟨by decide, by decide⟩, _, rfl, lk, pl, ts2, ls2, ps, _, f, rfl, hL3.hk, (by have := hL3.len; omega), hL3.hp, hL3.ne, fun t H4 fo nm s4 ht hno => ?_⟩
        refine ⟨lk, _, _, rfl, rfl, s4 _ _ hL3.hk.top, small1000 (by have := hL3.len; have := hL3.hk.len; rw [List.length_map]; omega), ?_⟩
        exact ⟨ts2 ++ [t], ls2 ++ [(fo, nm, f)], rfl, (s3.trans s4).updF flk0, (hL3.add s4 ht hno).more (by omega)⟩
      rintro σ H4 ⟨ts4, ls4, rfl, s4, hL4⟩
      refine ⟨_, rfl, _, _, rfl, rfl, (by show (0 : Int) < 3; decide), rfl, _, rfl, ite2 (fun _ => ?_) (fun _ => ⟨_, _, _, ps, ts4, ls4, rfl, s4, hL4, by omega⟩)⟩
      refine ⟨_, rfl, .inl ⟨rfl, _, SqL.of hL4.hp⟩, _, rfl, pl, _, _, rfl, rfl, hL4.hp, small1000 (by rw [List.length_map]; omega), ?_⟩
      exact ⟨_, _, _, ps ++ [f], ts4, ls4, rfl, s4.updF fpl, ⟨by rw [upd_same, List.map_append]; rfl, by simp, by simp; omega, hL4.hk.off hL4.hp npl, hL4.nd, hL4.len, npl⟩, by simp; omega⟩
    rintro σ H1 ⟨x4, x5, x6, ps, ts, ls, rfl, sH, hLL, lps⟩
    exact ⟨_, rfl, k lk ts ls H1 sH hLL.hk hLL.nd (by have := hLL.len; omega)⟩
end
end K32
set_option Elab.async false
set_option linter.all false
set_option maxRecDepth 100000
set_option maxHeartbeats 1000000
namespace K32
open PySem L2 PyProof.Rows
section
variable {P : Program} {w : World} {K : PySem.W.Frag} {mg : Str → Option Value} {base : Heap}
def iKeysR (to : TE) : TI := fun σ H R => to σ H fun x H1 => ∃ d kvs, x = .ref d ∧ Rd H1 d (.dK kvs) ∧ ∀ ob H2, H2 d = some (.frz ob (.dK kvs)) → (∀ b, b ≠ d → H2 b = H1 b) → R (Itk d ob kvs) H2
theorem pi_keysR {X : Cx} {x : Str} {np : Pos} {e : Expr} {to : TE} (ho : PE X e to) : PI X (.Name x np) e (iKeysR to) := by
  intro pins s σ H R I h
  refine thn (ho pins s σ H _ I h) fun v s1 ⟨y, H1, I1, r1, d, kvs, ex, hrd, q⟩ => ?_
  subst ex
  cases r1
  have core : ∀ (vs : List (Key × Value)) (ob : Obj) (es : Array DictEntry) (ep : Nat) (H2 : Hp), KV kvs vs → s1.heap.get? d = some ob → ob.ExactDict → ob.data = .dict es ep → KeysOf (mixKind X.prog X.w) es → Pairs (mixKind X.prog X.w) es.toList vs → (vs.map (·.1)).Nodup → (d == sysModules) = false →
      (∀ s', (∀ b u, s1.heap.get? b = some u → s'.get? b = some u) → Inv X pins σ H2 { s1 with heap := s' }) → (∀ b, s1.heap.objs.size ≤ b → H2 b = none) → R (Itk d ob kvs) H2 → wpAny (model X.prog X.w) X.A (pyIter (.ref d)) (PIE X pins σ (.Name x np) R) X.xe s1 := by
    intro vs ob es ep H2 rel g1 g2 g3 g4 g5 g6 hsys hI hf hR
    refine wpAny_pyIter_dict (knd := mixKind X.prog X.w) (kvs := vs) (ep := ep) hsys ⟨ob, es, g1, g2, g3, g4, g5, g6⟩ ?_
    refine ⟨s1.heap.objs.size, [s1.heap.objs.size], _, Itk d ob kvs, H2, rfl, hI _ (fun b u e => Heap.get?_push_of_some _ e), turn_keys _ d ob kvs es ep g3, ?_, fun b hb => ?_, hR⟩
    · rw [rel.length]
      exact ⟨_, Heap.get?_push_size _ rfl, rfl, rfl⟩
    · have hb : b = s1.heap.objs.size := by simpa using hb
      exact I1.fpOk (by rw [hb]; exact Nat.le_refl _) (hf b (by rw [hb]; exact Nat.le_refl _))
  rcases hrd with hd | ⟨ob, hd⟩
  · obtain ⟨z, hsys, vs, rel, ob, es, ep, g1, g2, g3, g4, g5, g6⟩ := dk_of I1.hok hd
    refine core vs ob es ep _ rel g1 g2 g3 g4 g5 g6 hsys (fun s' hk => ?_) (fun b hb => ?_) (q ob (upd H1 d (.frz ob (.dK kvs))) upd_same (fun b hb => upd_ne hb))
    · have I2 : Inv X pins σ H1 { s1 with heap := s' } := I1.kept (t' := s1.toks) hk
      have g1' := hk _ _ g1
      exact d_write (s := { s1 with heap := s' }) (h' := s') (t' := s1.toks) I2 (by rw [hd]; exact True.intro) ⟨rfl, fun b _ => rfl⟩ ⟨_, g1'⟩ ⟨g1', z, hsys, vs, rel, ob, es, ep, g1', g2, g3, g4, g5, g6⟩
    · rw [upd_ne (fun e => by rw [e] at hb; exact absurd (Nat.lt_of_lt_of_le (Heap.lt_size g1) hb) (Nat.lt_irrefl _))]
      exact I1.hok.fresh hb
  · obtain ⟨h1, z, hsys, vs, rel, o, es, ep, g1, g2, g3, g4, g5, g6⟩ := (show ObjOk X.prog X.w H1 s1.heap d (.frz ob (.dK kvs)) from I1.hok d _ hd)
    rw [h1] at g1
    cases g1
    exact core vs ob es ep H1 rel h1 g2 g3 g4 g5 g6 hsys (fun s' hk => I1.kept (t' := s1.toks) hk) (fun b hb => I1.hok.fresh hb) (q ob H1 hd (fun _ _ => rfl))
/-- for k in d, the dict being frozen -/
def iKeysF (to : TE) : TI := fun σ H R => to σ H fun x H1 => ∃ d kvs ob, x = .ref d ∧ H1 d = some (.frz ob (.dK kvs)) ∧ R (Itk d ob kvs) H1
theorem pi_keysF {X : Cx} {x : Str} {np : Pos} {e : Expr} {to : TE} (ho : PE X e to) : PI X (.Name x np) e (iKeysF to) := by
  intro pins s σ H R I h
  refine thn (ho pins s σ H _ I h) fun v s1 ⟨y, H1, I1, r1, d, kvs, ob, ex, hd, q⟩ => ?_
  subst ex
  cases r1
  obtain ⟨h1, z, hsys, vs, rel, o, es, ep, g1, g2, g3, g4, g5, g6⟩ := (show ObjOk X.prog X.w H1 s1.heap d (.frz ob (.dK kvs)) from I1.hok d _ hd)
  rw [h1] at g1
  cases g1
  refine wpAny_pyIter_dict (knd := mixKind X.prog X.w) (kvs := vs) (ep := ep) hsys ⟨ob, es, h1, g2, g3, g4, g5, g6⟩ ?_
  refine ⟨s1.heap.objs.size, [s1.heap.objs.size], _, Itk d ob kvs, H1, rfl, I1.kept (t' := s1.toks) (fun b u e => Heap.get?_push_of_some _ e), turn_keys _ d ob kvs es ep g3, ?_, fun b hb => ?_, q⟩
  · rw [rel.length]
    exact ⟨_, Heap.get?_push_size _ rfl, rfl, rfl⟩
  · have hb : b = s1.heap.objs.size := by simpa using hb
    exact I1.fpOk (by rw [hb]; exact Nat.le_refl _) (I1.hok.fresh (by rw [hb]; exact Nat.le_refl _))
/-! ### slots by turns -/
def sk (c : Int) (E k : Nat) : Nat := ((c / 9 + (k : Int)) % (2 * (E : Int))).toNat
theorem sk_lt {c : Int} {E k : Nat} (h : 0 < E) : sk c E k < 2 * E := by
  unfold sk
  have h1 := Int.emod_lt_of_pos (c / 9 + (k : Int)) (show (0 : Int) < 2 * (E : Int) by omega)
  have h2 := Int.emod_nonneg (c / 9 + (k : Int)) (show (2 * (E : Int)) ≠ 0 by omega)
  omega
theorem sk_inj {c : Int} {E k j : Nat} (h : 0 < E) (hk : k < 2 * E) (hj : j < 2 * E) (e : sk c E k = sk c E j) : k = j := by
  unfold sk at e
  have h1 := Int.emod_nonneg (c / 9 + (k : Int)) (show (2 * (E : Int)) ≠ 0 by omega)
  have h2 := Int.emod_nonneg (c / 9 + (j : Int)) (show (2 * (E : Int)) ≠ 0 by omega)
  have e' : (c / 9 + (k : Int)) % (2 * (E : Int)) = (c / 9 + (j : Int)) % (2 * (E : Int)) := by omega
  rcases Nat.le_total k j with hle | hle
  · have := Int.emod_eq_emod_iff_emod_sub_eq_zero.mp e'.symm
    have e2 : c / 9 + (j : Int) - (c / 9 + (k : Int)) = (j : Int) - k := by omega
    rw [e2, Int.emod_eq_of_lt (by omega) (by omega)] at this
    omega
  · have := Int.emod_eq_emod_iff_emod_sub_eq_zero.mp e'
    have e2 : c / 9 + (k : Int) - (c / 9 + (j : Int)) = (k : Int) - j := by omega
    rw [e2, Int.emod_eq_of_lt (by omega) (by omega)] at this
    omega
theorem slq_put {rows : List (List Int)} {F s s' j j' : Nat} {r : List Int} {n : Int} (hr : rows[10 + F + s / 2]? = some r) (h8 : r.length = 8) (hj : j < 4) (hj' : j' < 4) :
    slq (rows.set (10 + F + s / 2) (r.set (s % 2 * 4 + j) n)) F s' j' = if s' = s ∧ j' = j then n else slq rows F s' j' := by
  have hl : 10 + F + s / 2 < rows.length := (List.getElem?_eq_some_iff.mp hr).1
  unfold slq
  by_cases hb : s' / 2 = s / 2
  · have e1 : (rows.set (10 + F + s / 2) (r.set (s % 2 * 4 + j) n)).getD (10 + F + s' / 2) [] = r.set (s % 2 * 4 + j) n := by
      rw [hb, List.getD_eq_getElem?_getD, List.getElem?_set_self hl]; rfl
    have e2 : rows.getD (10 + F + s' / 2) [] = r := by rw [hb, List.getD_eq_getElem?_getD, hr]; rfl
    rw [e1, e2]
    by_cases hc : s' = s ∧ j' = j
    · obtain ⟨rfl, rfl⟩ := hc
      rw [if_pos ⟨rfl, rfl⟩, List.getD_eq_getElem?_getD, List.getElem?_set_self (by omega)]
      rfl
    · rw [if_neg hc, List.getD_eq_getElem?_getD, List.getElem?_set_ne (by omega), List.getD_eq_getElem?_getD]
  · have e1 : (rows.set (10 + F + s / 2) (r.set (s % 2 * 4 + j) n)).getD (10 + F + s' / 2) [] = rows.getD (10 + F + s' / 2) [] := by
      rw [List.getD_eq_getElem?_getD, List.getElem?_set_ne (by omega), List.getD_eq_getElem?_getD]
    rw [e1, if_neg (fun z => hb (by rw [z.1]))]
abbrev z8 : List Int := [0, 0, 0, 0, 0, 0, 0, 0]
/-- what becomes of a volume at v whose rows lie at as, when only it is changed -/
structure VTo (H H' : Hp) (v : Addr) (as as' : List Addr) : Prop where
  keep : ∀ x o, H x = some o → x ≠ v → x ∉ as → H' x = some o
  sub : ∀ b ∈ as', b ∈ as ∨ H b = none
  live : ∃ o, H' v = some o
theorem VTo.refl {H : Hp} {v : Addr} {as : List Addr} {rows : List (List Int)} (x : Vol H v as rows) : VTo H H v as as := ⟨fun _ _ e _ _ => e, fun _ h => .inl h, ⟨_, x.top⟩⟩
theorem VTo.trans {H H' H2 : Hp} {v : Addr} {as as' as2 : List Addr} (x : VTo H H' v as as') (y : VTo H' H2 v as' as2) : VTo H H2 v as as2 := by
  refine ⟨fun b o e n1 n2 => ?_, fun b hb => ?_, y.live⟩
  · refine y.keep b o (x.keep b o e n1 n2) n1 fun z => ?_
    rcases x.sub b z with h | h
    · exact n2 h
    · rw [h] at e; cases e
  · rcases y.sub b hb with h | h
    · exact x.sub b h
    · by_cases hm : b ∈ as
      · exact .inl hm
      · refine .inr ?_
        cases e : H b with
        | none => rfl
        | some o =>
          by_cases hv : b = v
          · obtain ⟨o', e'⟩ := x.live
            rw [hv, e'] at h
            cases h
          · rw [x.keep b o e hv hm] at h
            cases h
theorem VTo.same {H H' : Hp} {v : Addr} {as : List Addr} {rows : List (List Int)} (x : Vol H v as rows) (s : Same H H') : VTo H H' v as as := ⟨fun b o e _ _ => s b o e, fun _ h => .inl h, ⟨_, s _ _ x.top⟩⟩
theorem VTo.put {H : Hp} {v a : Addr} {as : List Addr} {rows : List (List Int)} {o : HO} (x : Vol H v as rows) (ha : a ∈ as) : VTo H (upd H a o) v as as :=
  ⟨fun b u e _ n => by rw [upd_ne (fun z => n (by rw [z]; exact ha))]; exact e, fun _ h => .inl h, ⟨_, by rw [upd_ne (Ne.symm (x.ne ha))]; exact x.top⟩⟩
theorem VTo.set {H : Hp} {v q : Addr} {as : List Addr} {i : Nat} {o : HO} (hq : q ∈ as ∨ H q = none) : VTo H (upd H v o) v as (as.set i q) := by
  refine ⟨fun b u e n _ => by rw [upd_ne n]; exact e, fun b hb => ?_, ⟨_, upd_same⟩⟩
  rcases List.mem_or_eq_of_mem_set hb with h | h
  · exact .inl h
  · rw [h]; exact hq
theorem VTo.pre {H H1 H' : Hp} {v : Addr} {as as' : List Addr} {rows : List (List Int)} (x : Vol H v as rows) (s : Same H H1) (y : VTo H1 H' v as as') : VTo H H' v as as' := (VTo.same x s).trans y
/-- a row of v is replaced by a new list -/
theorem vset {H : Hp} {v q : Addr} {as : List Addr} {rows : List (List Int)} {i : Nat} {r : List Int} {H1 : Hp} (x : Vol H v as rows) (fq : H q = none) (s : Same H H1) (hq : H1 q = some (.lst (r.map V.int))) :
    Vol (upd H1 v (.lst ((as.map V.ref).set i (.ref q)))) v (as.set i q) (rows.set i r) ∧ VTo H (upd H1 v (.lst ((as.map V.ref).set i (.ref q)))) v as (as.set i q) := by
  refine ⟨(x.same s).set hq (x.fresh fq).1 (x.fresh fq).2, ?_⟩
  refine ⟨fun b u eb n _ => by rw [upd_ne n]; exact s _ _ eb, fun b hb => ?_, ⟨_, upd_same⟩⟩
  rcases List.mem_or_eq_of_mem_set hb with h | h
  · exact .inl h
  · rw [h]; exact .inr fq
theorem mem_set8 {rows : List (List Int)} {i : Nat} {r : List Int} (h : ∀ x ∈ rows, x.length = 8) (hr : r.length = 8) : ∀ x ∈ rows.set i r, x.length = 8 := fun x hx => by
  rcases List.mem_or_eq_of_mem_set hx with h' | h'
  · exact h x h'
  · rw [h']; exact hr
theorem VTo.other {H H' : Hp} {v b : Addr} {as as' : List Addr} {o : HO} (x : VTo H H' v as as') (hb : H b = none) (nv : b ≠ v) : VTo H (upd H' b o) v as as' :=
  ⟨fun c u e n1 n2 => by rw [upd_ne (ne_of_none e hb)]; exact x.keep c u e n1 n2, x.sub, by obtain ⟨u, e⟩ := x.live; exact ⟨u, by rw [upd_ne (Ne.symm nv)]; exact e⟩⟩

def spCrowned : Sp := fun vs H Q _ => ∃ (v : Addr) (as : List Addr) (rows : List (List Int)) (F E lab : Int), vs = [.ref v, .int F, .int E, .int lab] ∧ Vol H v as rows ∧ 12 ≤ rows.length ∧ (∀ r ∈ rows, r.length = 8) ∧
  ∀ (as' : List Addr) (rows' : List (List Int)) (H' : Hp), VTo H H' v as as' → Vol H' v as' rows' → rows'.length = rows.length → (∀ r ∈ rows', r.length = 8) → (∀ j, 11 ≤ j → rows'[j]? = rows[j]?) → Q .non H'
theorem ok_crowned (T : Tx K mg) : FnOk P w K mg base CX0 1 T.f_l_crowned T.fd_l_crowned ["_law_volume_here", "_law_files", "_law_slots_here", "_law_label"] spCrowned := by
  refine T.F_l_crowned.ok sc_l_crowned (fun vs H Q E h => ?_) (fun cdv A outer s H vs Q E hr h => ?_)
  · obtain ⟨v, as, rows, F, E, lab, rfl, _⟩ := h
    rfl
  · obtain ⟨v, as, rows, F, E, lab, rfl, hV, hl, h8, k⟩ := h
    refine ⟨_, pss_cons (@ps_set _ _ 4 _ _ _ _ sc_l_crowned.nd rfl (Or.inr rfl) (@pe_lst _ _ _ _ (@pa_cons _ _ _ _ _ pe_int (@pa_cons _ _ _ _ _ (pv 3) (@pa_cons _ _ _ _ _ (pv 1) (@pa_cons _ _ _ _ _ (pv 2) (@pa_cons _ _ _ _ _ pe_int (@pa_cons _ _ _ _ _ pe_int (@pa_cons _ _ _ _ _ pe_int pa_nil rfl) rfl) rfl) rfl) rfl) rfl) rfl)) rfl (.inl rfl))
      (pss_cons (ps_expr (pe_bm PySem.F.plainAttrs_list PySem.F.slot_list_append PySem.F.type_list_append mt_append (pv 4) (pa_cons (pe_op op_mod (pe_callB (call_sumL rfl) rfl T.z_sum boot_sum (pa_cons (pe_comp (N' := ["_law_k", "_law_head"]) (cap := [none, some 4]) rfl (compOk_of (by kernel_rfl)) (pi_range1 rfl T.z_range (pa_cons pe_int pa_nil))
        (fun cells C s₀ H₀ fp pins => ⟨pg_name (i := 0) (ndp2 (by decide +kernel)) rfl (Or.inl rfl) (.inr rfl), pifs_nil, pe_op op_mul (pe_op op_add (pv 0) pe_int) (pe_ix (ix_listK (K := K) rfl) (pv 1) (pv 0) (fun _ _ => rfl))⟩)) pa_nil)) pe_int) pa_nil)))
      (pss_cons (ps_asg (pe_callTy call_list_of rfl T.z_list (by kernel_rfl) (pa_cons (pv 4) pa_nil)) (pg_sub (pv 0) pe_int set_list))
      (pss_cons (ps_asg (pe_callTy call_list_of rfl T.z_list (by kernel_rfl) (pa_cons (pv 4) pa_nil)) (pg_sub (pv 0) pe_int set_list))
      (pss_one (@ps_asg _ _ _ _ _ _ (@pe_lst _ _ _ _ (@pa_cons _ _ _ _ _ pe_int (@pa_cons _ _ _ _ _ (pv 3) (@pa_ints _ _ [5, 1, 9, 9, 9, 9] rfl) rfl) rfl)) (pg_sub (pv 0) pe_int set_list) rfl rfl rfl))))), ?_⟩
    refine ⟨_, rfl, _, rfl, _, rfl, (by show 7 ≤ sizeLine; decide), fun hd fhd => ?_⟩
    have s1 : Same H (upd H hd (.lst (([1179, lab, F, E, 2, 0, 0] : List Int).map V.int))) := Same.upd0 fhd
    have hhd : upd H hd (.lst (([1179, lab, F, E, 2, 0, 0] : List Int).map V.int)) hd = some (.lst (([1179, lab, F, E, 2, 0, 0] : List Int).map V.int)) := upd_same
    show _
    refine ⟨_, rfl, .inl ⟨rfl, _, SqL.of hhd⟩, 7, rfl, by decide, by decide, ?_⟩
    refine comp_range (cap := [none, some 4]) (σ := [some (.ref v), some (.int F), some (.int E), some (.int lab), some (.ref hd)]) (small_len (n := 7) (by decide)) (fun i ys σ H' => ∃ ms : List Int, ys = ms.map V.int ∧ ms.length = i ∧ i ≤ 7 ∧ (∃ s0, σ = [s0, some (.ref hd)]) ∧ H' = upd H hd (.lst (([1179, lab, F, E, 2, 0, 0] : List Int).map V.int)))
      (by exact ⟨[], rfl, rfl, Nat.zero_le _, ⟨none, rfl⟩, rfl⟩) (fun i ys σ H' ⟨ms, h1, h2, h3, _⟩ => ⟨h3, by rw [h1]; simp [h2]⟩) ?_ ?_
    · rintro i ys σ H' hi ⟨ms, rfl, h2, h3, ⟨s0, rfl⟩, rfl⟩
      have hi7 : i < ([1179, lab, F, E, 2, 0, 0] : List Int).length := hi
      refine ⟨_, rfl, _, _, rfl, rfl, _, rfl, _, rfl, hd, _, _, .int ([1179, lab, F, E, 2, 0, 0] : List Int)[i], rfl, rfl, SqL.of hhd, ?_, _, _, rfl, rfl, .inl ⟨by omega, by omega⟩, ms ++ [_], by rw [List.map_append]; rfl, by simp [h2], hi, ⟨_, rfl⟩, rfl⟩
      have : (0 : Int) + (i : Int) = (i : Int) := by omega
      rw [this]
      exact atI_nat (by rw [List.getElem?_map, List.getElem?_eq_getElem hi7]; rfl)
    rintro ys σ H' ⟨ms, rfl, h2, h3, ⟨s0, rfl⟩, eH⟩ Dm hDm
    rw [eH] at hDm ⊢
    have s2 := s1.upd (o := .lst (ms.map V.int)) hDm
    have hhd2 := (Same.upd0 (o := .lst (ms.map V.int)) hDm) _ _ hhd
    refine ⟨Dm, ms, rfl, SqL.of upd_same, _, _, rfl, rfl, (by show (0 : Int) < 1000003; decide), hd, _, _, rfl, rfl, hhd2, (by show 7 < sizeLine; decide), ?_⟩
    have eh8 : (([1179, lab, F, E, 2, 0, 0] : List Int).map V.int) ++ [V.int (ms.sum % 1000003)] = ([1179, lab, F, E, 2, 0, 0, ms.sum % 1000003] : List Int).map V.int := rfl
    rw [eh8]
    have s3 := s2.updF (o := .lst (([1179, lab, F, E, 2, 0, 0, ms.sum % 1000003] : List Int).map V.int)) fhd
    have hhd3 : upd (upd (upd H hd (.lst (([1179, lab, F, E, 2, 0, 0] : List Int).map V.int))) Dm (.lst (ms.map V.int))) hd (.lst (([1179, lab, F, E, 2, 0, 0, ms.sum % 1000003] : List Int).map V.int)) hd = some (.lst (([1179, lab, F, E, 2, 0, 0, ms.sum % 1000003] : List Int).map V.int)) := upd_same
    generalize upd (upd (upd H hd (.lst (([1179, lab, F, E, 2, 0, 0] : List Int).map V.int))) Dm (.lst (ms.map V.int))) hd (.lst (([1179, lab, F, E, 2, 0, 0, ms.sum % 1000003] : List Int).map V.int)) = H2 at s3 hhd3 ⊢
    have lh : ([1179, lab, F, E, 2, 0, 0, ms.sum % 1000003] : List Int).length = 8 := rfl
    generalize ([1179, lab, F, E, 2, 0, 0, ms.sum % 1000003] : List Int) = hr8 at hhd3 lh ⊢
    have V2 := hV.same s3
    have nhd : hd ∉ as ∧ hd ≠ v := hV.fresh fhd
    -- block 0
    refine ⟨_, rfl, hd, _, rfl, .inl (SqL.of hhd3), fun q fq => ?_⟩
    refine ⟨_, rfl, v, _, 0, 0, rfl, rfl, (V2.same (Same.upd0 fq)).top, ixN_nat (i := 0) (by rw [List.length_map, hV.len]; omega), ?_⟩
    obtain ⟨V3, T3⟩ := vset (i := 0) (r := hr8) V2 fq (Same.upd0 fq) upd_same
    have TA := (VTo.same hV s3).trans T3
    have hhd4 := T3.keep _ _ hhd3 nhd.2 nhd.1
    have l3 : (rows.set 0 hr8).length = rows.length := List.length_set
    have a3 := mem_set8 (i := 0) h8 lh
    have e3 : ∀ j, 11 ≤ j → (rows.set 0 hr8)[j]? = rows[j]? := fun j hj => List.getElem?_set_ne (by omega)
    generalize upd (upd H2 q (.lst (hr8.map V.int))) v (.lst ((as.map V.ref).set 0 (.ref q))) = H3 at V3 T3 TA hhd4 ⊢
    generalize rows.set 0 hr8 = rows3 at V3 l3 a3 e3
    generalize as.set 0 q = as3 at V3 TA
    -- block 1
    refine ⟨_, rfl, hd, _, rfl, .inl (SqL.of hhd4), fun q1 fq1 => ?_⟩
    refine ⟨_, rfl, v, _, 1, 1, rfl, rfl, (V3.same (Same.upd0 fq1)).top, ixN_nat (i := 1) (by rw [List.length_map, V3.len]; omega), ?_⟩
    obtain ⟨V4, T4⟩ := vset (i := 1) (r := hr8) V3 fq1 (Same.upd0 fq1) upd_same
    have TB := TA.trans T4
    have l4 : (rows3.set 1 hr8).length = rows.length := by rw [List.length_set]; exact l3
    have a4 := mem_set8 (i := 1) a3 lh
    have e4 : ∀ j, 11 ≤ j → (rows3.set 1 hr8)[j]? = rows[j]? := fun j hj => by rw [List.getElem?_set_ne (by omega)]; exact e3 j hj
    generalize upd (upd H3 q1 (.lst (hr8.map V.int))) v (.lst ((as3.map V.ref).set 1 (.ref q1))) = H4 at V4 TB ⊢
    generalize rows3.set 1 hr8 = rows4 at V4 l4 a4 e4
    generalize as3.set 1 q1 = as4 at V4 TB
    -- block 10
    refine ⟨_, rfl, (by show 8 ≤ sizeLine; decide), fun q2 fq2 => ?_⟩
    have e1 : (V.int 2 :: V.int lab :: ([5, 1, 9, 9, 9, 9] : List Int).map V.int) = ([2, lab, 5, 1, 9, 9, 9, 9] : List Int).map V.int := rfl
    rw [e1]
    refine ⟨_, rfl, v, _, 10, 10, rfl, rfl, (V4.same (Same.upd0 fq2)).top, ixN_nat (i := 10) (by rw [List.length_map, V4.len]; omega), ?_⟩
    obtain ⟨V5, T5⟩ := vset (i := 10) (r := [2, lab, 5, 1, 9, 9, 9, 9]) V4 fq2 (Same.upd0 fq2) upd_same
    exact k _ _ _ (TB.trans T5) V5 (by rw [List.length_set]; exact l4) (mem_set8 a4 rfl) fun j hj => by rw [List.getElem?_set_ne (by omega)]; exact e4 j hj
end
end K32
set_option Elab.async false
set_option linter.all false
set_option maxRecDepth 100000
set_option maxHeartbeats 1000000
namespace K32
open PySem L2 PyProof.Rows
section
variable {P : Program} {w : World} {K : PySem.W.Frag} {mg : Str → Option Value} {base : Heap}
/-! ### the dict of slots -/
def kT (tl : List Tl) : List (Key × V) := tl.map fun x => (Sum.inl (x.1 : Int), V.ref x.2.1)
structure TK (H : Hp) (E : Nat) (tl : List Tl) : Prop where
  nd : (tl.map (·.1)).Nodup
  lt : ∀ x ∈ tl, x.1 < 2 * E
  uq : (tl.map prK).Nodup
  it : ∀ x ∈ tl, H x.2.1 = some (.tup [.int x.2.2.1, .int x.2.2.2.1, .int x.2.2.2.2])
  len : tl.length ≤ 16
theorem TK.stay {H H' : Hp} {E : Nat} {tl : List Tl} (h : TK H E tl) (s : ∀ b xs, H b = some (.tup xs) → H' b = some (.tup xs)) : TK H' E tl := ⟨h.nd, h.lt, h.uq, fun x hx => s _ _ (h.it x hx), h.len⟩
theorem TK.same {H H' : Hp} {E : Nat} {tl : List Tl} (h : TK H E tl) (s : Same H H') : TK H' E tl := h.stay fun b xs e => s _ _ e
theorem kT_none {tl : List Tl} {s : Nat} (h : s ∉ tl.map (·.1)) : valV (kT tl) (.inl (s : Int)) = none := by
  refine valV_none fun p hp e => ?_
  obtain ⟨x, hx, rfl⟩ := List.mem_map.mp hp
  have : (x.1 : Int) = s := by injection e
  exact h (List.mem_map.mpr ⟨x, hx, by omega⟩)
theorem kT_at : ∀ {tl : List Tl} {x : Tl}, (tl.map (·.1)).Nodup → x ∈ tl → valV (kT tl) (.inl (x.1 : Int)) = some (.ref x.2.1)
  | [], _, _, h => by cases h
  | y :: r, x, nd, h => by
    rw [List.map_cons, List.nodup_cons] at nd
    rcases List.mem_cons.mp h with rfl | h'
    · exact valV_pos rfl
    · have ne : ¬ y.1 = x.1 := fun z => nd.1 (List.mem_map.mpr ⟨x, h', z.symm⟩)
      have ne2 : ¬ (Sum.inl (y.1 : Int) : Key) = Sum.inl (x.1 : Int) := fun e => ne (by injection e with e; omega)
      have : valV (kT (y :: r)) (.inl (x.1 : Int)) = valV (kT r) (.inl (x.1 : Int)) := valV_neg ne2
      rw [this]
      exact kT_at nd.2 h'
theorem kT_get {H : Hp} {d : Addr} {tl : List Tl} {x : Tl} (nd : (tl.map (·.1)).Nodup) (hx : x ∈ tl) (hd : Rd H d (.dK (kT tl))) : DGet H d (.int (x.1 : Int)) (some (.ref x.2.1)) := .inl ⟨kT tl, .inl (x.1 : Int), hd, rfl, (kT_at nd hx).symm⟩
theorem kT_has {H : Hp} {d : Addr} {tl : List Tl} (s : Nat) (nd : (tl.map (·.1)).Nodup) (hd : Rd H d (.dK (kT tl))) : ∃ o, DGet H d (.int (s : Int)) o ∧ o.isSome = decide (s ∈ tl.map (·.1)) := by
  refine ⟨_, .inl ⟨kT tl, .inl (s : Int), hd, rfl, rfl⟩, ?_⟩
  by_cases h : s ∈ tl.map (·.1)
  · obtain ⟨x, hx, rfl⟩ := List.mem_map.mp h
    rw [kT_at nd hx, decide_eq_true h]
    rfl
  · rw [kT_none h, decide_eq_false h]
    rfl
theorem kT_len (tl : List Tl) : (kT tl).length = tl.length := List.length_map ..
def spSlots (K : PySem.W.Frag) : Sp := fun vs H Q _ => ∃ (a lk : Addr) (ns : List Int) (E : Nat) (ts : List Addr) (ls : List Lk), vs = [.ref a, .ref lk, .int E] ∧ SqL K H a (ns.map V.int) ∧ ns.length ≤ 63 ∧ 1 ≤ E ∧ E ≤ 8 ∧ Lks H lk ts ls ∧ (ls.map pr2).Nodup ∧ ls.length ≤ 16 ∧
  ∀ (d : Addr) (tl : List Tl) (H' : Hp), Same H H' → H d = none → H' d = some (.dK (kT tl)) → TK H' E tl → Q (.ref d) H'
theorem ok_slots (T : Tx K mg) : FnOk P w K mg base CX0 2 T.f_l_slots T.fd_l_slots ["_law_script", "_law_links_here", "_law_slots_here"] (spSlots K) := by
  refine T.F_l_slots.ok sc_l_slots (fun vs H Q E h => ?_) (fun cdv A outer s H vs Q X hr h => ?_)
  · obtain ⟨a, lk, ns, E, ts, ls, rfl, _⟩ := h
    rfl
  · obtain ⟨a, lk, ns, E, ts, ls, rfl, hS, hl, e1, e2, hK, hnd, hls, k⟩ := h
    have hu1 : _ + 1 < cLine := Nat.lt_of_le_of_lt (Nat.add_le_add_left (by decide : 1 ≤ 64) _) hr.units
    refine ⟨_, pss_cons (ps_set (i := 3) sc_l_slots.nd rfl (Or.inl rfl) pe_dnewK)
      (pss_cons (ps_for PassesOwn.never rfl (pi_range1 rfl T.z_range (pa_cons (pe_callB (call_min2 rfl) rfl T.z_min (by kernel_rfl) (pa_cons (pe_callB call_len_seq rfl T.z_len PySem.boot_len (pa_cons (pv 1) pa_nil)) (pa_cons (pe_op op_mul pe_int (pv 2)) pa_nil))) pa_nil)) (pg_name (i := 4) sc_l_slots.nd rfl (Or.inl rfl))
        (pss_one (ps_dput hu1 (pv 3) (pe_op op_mod (pe_op op_add (pe_op op_fdiv (pe_call (ok_cell T) hr rfl T.g_l_cell_at T.F_l_cell_at.kp T.b_l_cell_at .nil pass0 (pa_cons (pv 0) (pa_cons pe_int pa_nil))) pe_int) (pv 4)) (pe_op op_mul pe_int (pv 2))) (pe_ix ix_list (pv 1) (pv 4) (fun _ _ => rfl)) rfl)))
      (pss_one (ps_ret (pv 3)))), ?_⟩
    generalize ec : ns.getD 1 0 = c
    refine fun d fd => ?_
    have s1 : Same H (upd H d (.dK [])) := Same.upd0 fd
    have lt : ts.length = ls.length := hK.len
    refine ⟨_, rfl, lk, _, rfl, .inl (SqL.of (s1 _ _ hK.top)), _, rfl, _, _, rfl, rfl, .inl ⟨by decide, by decide⟩, _, _, rfl, ?_⟩
    obtain ⟨n, en, n1, n2⟩ : ∃ n : Nat, (if (2 * (E : Int)) < ((ts.map V.ref).length : Int) then (2 * (E : Int)) else ((ts.map V.ref).length : Int)) = (n : Int) ∧ n ≤ ls.length ∧ n ≤ 2 * E := by
      rw [List.length_map, lt]
      by_cases h : (2 * (E : Int)) < (ls.length : Int)
      · exact ⟨2 * E, by rw [if_pos h]; omega, by omega, Nat.le_refl _⟩
      · exact ⟨ls.length, by rw [if_neg h], Nat.le_refl _, by omega⟩
    refine ⟨(n : Int), by rw [← en], by omega, by omega, ?_⟩
    rw [Int.toNat_natCast]
    refine for_range (lo := 0) (n := n) (fun i σ H' => ∃ x4 tl, σ = [some (.ref a), some (.ref lk), some (.int E), some (.ref d), x4] ∧ Same H H' ∧ H' d = some (.dK (kT tl)) ∧ tl.length = i ∧ tl.map (·.1) = (List.range i).map (sk c E) ∧ (tl.map fun x => pr2 x.2.2) = (ls.take i).map pr2 ∧ ∀ x ∈ tl, H x.2.1 = some (.tup [.int x.2.2.1, .int x.2.2.2.1, .int x.2.2.2.2]))
      ⟨none, [], rfl, s1, upd_same, rfl, rfl, rfl, fun x hx => by cases hx⟩ ?_ ?_
    · rintro i σ H' hi ⟨x4, tl, rfl, sH, hd, ht, hm, hp, hit⟩
      have c0 : (0 : Int) + (i : Int) = (i : Int) := by omega
      rw [c0]
      have hE0 : 0 < E := by omega
      have hm0 := Int.emod_nonneg (c / 9 + (i : Int)) (show (2 * (E : Int)) ≠ 0 by omega)
      have hsk : ((sk c E i : Nat) : Int) = (c / 9 + (i : Int)) % (2 * (E : Int)) := by unfold sk; omega
      have hil : i < ls.length := by omega
      have hit' : i < ts.length := by omega
      have el : ls[i]? = some ls[i] := List.getElem?_eq_getElem hil
      have et : ts[i]? = some ts[i] := List.getElem?_eq_getElem hit'
      have hT := hK.item i _ _ et el
      generalize ls[i] = l at el hT
      generalize ts[i] = t at et hT
      have hnew : sk c E i ∉ tl.map (·.1) := fun z => by
        rw [hm] at z
        obtain ⟨j, hj, ej⟩ := List.mem_map.mp z
        have hj := List.mem_range.mp hj
        have := sk_inj (c := c) hE0 (by omega : j < 2 * E) (by omega : i < 2 * E) ej
        omega
      refine ⟨_, rfl, _, rfl, lk, _, _, .ref t, rfl, rfl, SqL.of (sH _ _ hK.top), atI_nat (by rw [List.getElem?_map, et]; rfl), _, rfl, _, rfl, a, ns, 1, rfl, sH.seq hS, hl, _, _, rfl, rfl, ⟨by decide, by decide⟩, _, rfl, _, _, rfl, rfl, _, rfl, _, _, rfl, rfl, .inl ⟨by decide, by decide⟩, _, _, rfl, rfl, (by show (0 : Int) < 2 * (E : Int); omega), d, upd H' d (.dK (putK (kT tl) (.inl (sk c E i : Int)) (.ref t))), rfl, ?_, ?_⟩
      · have := DPut.k (v := .ref t) (k := .inl (sk c E i : Int)) hd (small1000 (by rw [kT_len]; omega))
        show DPut H' d (V.int ((ns.getD 1 0 / 9 + (i : Int)) % (2 * (E : Int)))) (.ref t) _
        rw [ec, ← hsk]
        exact this
      · refine ⟨_, tl ++ [(sk c E i, t, l)], rfl, sH.updF fd, ?_, by simp [ht], ?_, ?_, fun x hx => ?_⟩
        · rw [upd_same, putK_new _ (kT_none hnew)]
          unfold kT
          rw [List.map_append]
          rfl
        · rw [List.map_append, hm, List.range_succ, List.map_append]
          rfl
        · rw [List.map_append, hp, take_snoc el, List.map_append]
          rfl
        · rcases List.mem_append.mp hx with h | h
          · exact hit x h
          · have : x = (sk c E i, t, l) := by simpa using h
            rw [this]
            exact hT
    rintro σ H' ⟨x4, tl, rfl, sH, hd, ht, hm, hp, hit⟩
    have hE0 : 0 < E := by omega
    refine ⟨_, rfl, k d tl H' sH fd hd ⟨?_, fun x hx => ?_, ?_, fun x hx => sH _ _ (hit x hx), by omega⟩⟩
    · rw [hm, List.Nodup, List.pairwise_map]
      refine (List.pairwise_lt_range (n := n)).imp_of_mem fun {p q} hp hq hpq e => ?_
      have hp := List.mem_range.mp hp
      have hq := List.mem_range.mp hq
      have := sk_inj (c := c) hE0 (by omega : p < 2 * E) (by omega : q < 2 * E) e
      omega
    · have : x.1 ∈ tl.map (·.1) := List.mem_map.mpr ⟨x, hx, rfl⟩
      rw [hm] at this
      obtain ⟨j, _, ej⟩ := List.mem_map.mp this
      rw [← ej]
      exact sk_lt hE0
    · have h1 : (tl.map fun x => pr2 x.2.2).Nodup := by rw [hp, List.map_take]; exact hnd.sublist (List.take_sublist _ _)
      rw [List.Nodup, List.pairwise_map] at h1 ⊢
      refine h1.imp fun {x y} hxy e => hxy ?_
      unfold pr2
      have a1 : x.2.2.1 = y.2.2.1 := congrArg (fun q : Int × Int => q.1) e
      have a2 : x.2.2.2.1 = y.2.2.2.1 := congrArg (fun q : Int × Int => q.2) e
      rw [a1, a2]
end
end K32
set_option Elab.async false
set_option linter.all false
set_option maxRecDepth 100000
set_option maxHeartbeats 1000000
namespace K32
open PySem L2 PyProof.Rows
section
variable {P : Program} {w : World} {K : PySem.W.Frag} {mg : Str → Option Value} {base : Heap}
/-! ### the volume -/
/-- all but d stays, d tells the same -/
structure SD (d : Addr) (kvs : List (Key × V)) (H H' : Hp) : Prop where
  keep : ∀ b o, H b = some o → b ≠ d → H' b = some o
  rd : Rd H' d (.dK kvs)
theorem SD.trans {d : Addr} {kvs : List (Key × V)} {H H1 H2 : Hp} (h : SD d kvs H H1) (s : Same H1 H2) : SD d kvs H H2 := by
  refine ⟨fun b o e n => s _ _ (h.keep b o e n), ?_⟩
  rcases h.rd with r | ⟨o, r⟩
  · exact .inl (s _ _ r)
  · exact .inr ⟨o, s _ _ r⟩
theorem SD.pre {d : Addr} {kvs : List (Key × V)} {H H1 H2 : Hp} (s : Same H H1) (h : SD d kvs H1 H2) : SD d kvs H H2 := ⟨fun b o e n => h.keep b o (s _ _ e) n, h.rd⟩
theorem SD.comp {d : Addr} {kvs : List (Key × V)} {H H1 H2 : Hp} (h : SD d kvs H H1) (g : SD d kvs H1 H2) : SD d kvs H H2 := ⟨fun b o e n => g.keep b o (h.keep b o e n) n, g.rd⟩
theorem SD.of {d : Addr} {kvs : List (Key × V)} {H H1 : Hp} (s : Same H H1) (h : H d = some (.dK kvs)) : SD d kvs H H1 := ⟨fun b o e _ => s _ _ e, .inl (s _ _ h)⟩
theorem SD.frz {d : Addr} {kvs : List (Key × V)} {H H1 : Hp} {ob : Obj} (h1 : H1 d = some (.frz ob (.dK kvs))) (h2 : ∀ b, b ≠ d → H1 b = H b) : SD d kvs H H1 := ⟨fun b o e n => by rw [h2 b n]; exact e, .inr ⟨ob, h1⟩⟩
theorem SD.live {d : Addr} {kvs : List (Key × V)} {H H1 : Hp} (h : SD d kvs H H1) : H1 d ≠ none := by
  rcases h.rd with r | ⟨o, r⟩ <;> rw [r] <;> exact fun z => by cases z
theorem SD.free {d b : Addr} {kvs : List (Key × V)} {H H1 : Hp} (h : SD d kvs H H1) (e : H1 b = none) : H b = none := by
  cases q : H b with
  | none => rfl
  | some o =>
    by_cases hb : b = d
    · rw [hb] at e; exact absurd e h.live
    · rw [h.keep b o q hb] at e; cases e
theorem SD.updF {d b : Addr} {kvs : List (Key × V)} {H H1 : Hp} {o : HO} (h : SD d kvs H H1) (nb : b ≠ d) (hb : H b = none) : SD d kvs H (upd H1 b o) := by
  refine ⟨fun c u e n => by rw [upd_ne (ne_of_none e hb)]; exact h.keep c u e n, ?_⟩
  rcases h.rd with r | ⟨o, r⟩
  · exact .inl (by rw [upd_ne (Ne.symm nb)]; exact r)
  · exact .inr ⟨o, by rw [upd_ne (Ne.symm nb)]; exact r⟩
theorem SD.seq {d a : Addr} {kvs : List (Key × V)} {H H1 : Hp} {xs : List V} (h : SD d kvs H H1) (hd : H d = some (.dK kvs)) (hq : SqL K H a xs) : SqL K H1 a xs := by
  rcases hq with (e | ⟨o, e⟩) | e
  · exact .inl (.inl (h.keep _ _ e fun z => by rw [z, hd] at e; cases e))
  · exact .inl (.inr ⟨o, h.keep _ _ e fun z => by rw [z, hd] at e; cases e⟩)
  · exact .inr e
theorem SD.tk {d : Addr} {kvs : List (Key × V)} {H H1 : Hp} {E : Nat} {tl : List Tl} (h : SD d kvs H H1) (hd : H d = some (.dK kvs)) (t : TK H E tl) : TK H1 E tl := t.stay fun b xs e => h.keep _ _ e fun z => by rw [z, hd] at e; cases e
def Fz (d : Addr) (kvs : List (Key × V)) (H : Hp) : Prop := ∃ ob, H d = some (.frz ob (.dK kvs))
theorem Fz.same {d : Addr} {kvs : List (Key × V)} {H H' : Hp} (h : Fz d kvs H) (s : Same H H') : Fz d kvs H' := let ⟨ob, e⟩ := h; ⟨ob, s _ _ e⟩
theorem Fz.upd {d b : Addr} {kvs : List (Key × V)} {H : Hp} {o : HO} (h : Fz d kvs H) (n : b ≠ d) : Fz d kvs (L2.upd H b o) := let ⟨ob, e⟩ := h; ⟨ob, by rw [upd_ne (Ne.symm n)]; exact e⟩
/-- a volume that is new since H -/
structure NV (H H' : Hp) (v d : Addr) (as : List Addr) (rows : List (List Int)) (n : Nat) : Prop where
  vol : Vol H' v as rows
  len : rows.length = n
  r8 : ∀ r ∈ rows, r.length = 8
  new : ∀ b ∈ as, H b = none
  nv : H v = none
theorem Vol.sd {d v : Addr} {kvs : List (Key × V)} {H H1 : Hp} {as : List Addr} {rows : List (List Int)} (x : Vol H v as rows) (s : SD d kvs H H1) (hd : Rd H d (.dK kvs)) : Vol H1 v as rows := by
  have nl : ∀ b xs, H b = some (.lst xs) → b ≠ d := fun b xs e z => by
    rw [z] at e
    rcases hd with r | ⟨o, r⟩ <;> rw [r] at e <;> cases e
  exact { x with top := s.keep _ _ x.top (nl _ _ x.top), row := fun i a r e1 e2 => s.keep _ _ (x.row i a r e1 e2) (nl _ _ (x.row i a r e1 e2)) }
def spVolume (K : PySem.W.Frag) : Sp := fun vs H Q _ => ∃ (a d : Addr) (ns : List Int) (F E : Nat) (tl : List Tl), vs = [.ref a, .int F, .int E, .ref d] ∧ SqL K H a (ns.map V.int) ∧ ns.length ≤ 63 ∧ 2 ≤ F ∧ F ≤ 9 ∧ 1 ≤ E ∧ E ≤ 8 ∧ H d = some (.dK (kT tl)) ∧ TK H E tl ∧
  ∀ (v : Addr) (as : List Addr) (rows : List (List Int)) (H' : Hp), SD d (kT tl) H H' → Fz d (kT tl) H' → Vol H' v as rows → rows.length = 12 + F + E → (∀ r ∈ rows, r.length = 8) → TV rows F E tl → Q (.ref v) H'
theorem ok_volume (T : Tx K mg) : FnOk P w K mg base CX0 3 T.f_l_volume T.fd_l_volume ["_law_script", "_law_files", "_law_slots_here", "_law_told"] (spVolume K) := by
  refine T.F_l_volume.ok sc_l_volume (fun vs H Q E h => ?_) (fun cdv A outer s H vs Q X hr h => ?_)
  · obtain ⟨a, d, ns, F, E, tl, rfl, _⟩ := h
    rfl
  · obtain ⟨a, d, ns, F, E, tl, rfl, hS, hl, f1, f2, e1, e2, hd, hT, k⟩ := h
    have r1 : Room 1 _ := hr.mono (by decide)
    have hu1 : _ + 1 < cLine := Nat.lt_of_le_of_lt (Nat.add_le_add_left (by decide : 1 ≤ 64) _) hr.units
    refine ⟨_, @pss_cons _ _ _ _ _ (ps_set (i := 4) sc_l_volume.nd rfl (Or.inl rfl) (pe_call (ok_cell T) r1 rfl T.g_l_cell_at T.F_l_cell_at.kp T.b_l_cell_at .nil pass0 (pa_cons (pv 0) (pa_cons pe_int pa_nil))))
      (@pss_cons _ _ _ _ _ (ps_setComp (i := 5) (N' := ["_law_k"]) (cap := [none]) sc_l_volume.nd rfl rfl rfl (compOk_of (by kernel_rfl)) (pi_range1 rfl T.z_range (pa_cons (pe_op op_add (pe_op op_add pe_int (pv 1)) (pv 2)) pa_nil))
        (fun cells C s₀ H₀ fp pins => ⟨pg_name (i := 0) ndp1 rfl (Or.inl rfl) (.inr rfl), pifs_nil, pe_ints rfl⟩))
      (@pss_cons _ _ _ _ _ (ps_expr (pe_call (ok_crowned T) r1 rfl T.g_l_crowned T.F_l_crowned.kp T.b_l_crowned .nil pass0 (pa_cons (pv 5) (pa_cons (pv 1) (pa_cons (pv 2) (pa_cons (pe_op op_mod (pv 4) (pe_op op_pow pe_int pe_int)) pa_nil))))))
      (@pss_cons _ _ _ _ _ (ps_for PassesOwn.never rfl (pi_range2 rfl T.z_range (pa_cons pe_int (pa_cons (pv 1) pa_nil))) (pg_name (i := 6) sc_l_volume.nd rfl (Or.inr rfl))
        (@pss_cut _ _ _ _ _ (ps_set (i := 7) sc_l_volume.nd rfl (Or.inl rfl) (pe_op op_mod (pe_call (ok_cell T) r1 rfl T.g_l_cell_at T.F_l_cell_at.kp T.b_l_cell_at .nil pass0 (pa_cons (pv 0) (pa_cons (pe_op op_add pe_int (pv 6)) pa_nil))) pe_int))
        (@pss_cut _ _ _ _ _ (ps_set (i := 8) sc_l_volume.nd rfl (Or.inl rfl) (pe_callB call_len_seq rfl T.z_len PySem.boot_len (pa_cons (pe_comp (N' := ["_law_s", "_law_told", "_law_f"]) (cap := [none, some 3, some 6]) rfl (compOk_of (by kernel_rfl)) (pi_keysR (pv 3))
          (fun cells C s₀ H₀ fp pins => ⟨pg_name (i := 0) (ndp3 (by decide +kernel) (by decide +kernel) (by decide +kernel)) rfl (Or.inl rfl) (.inr rfl), pifs_one (pt_cmpR op_eq (pe_ix (ix_tupK (K := K) rfl) (pe_dget hu1 (pv 1) (pv 0) (fun _ _ => rfl)) pe_int (fun _ _ => rfl)) (pv 2) (nomark _)), pv 0⟩)) pa_nil)))
        (@pss_cut _ _ _ _ _ (ps_set (i := 9) sc_l_volume.nd rfl (Or.inl rfl) (pe_op op_mul (pe_op op_mod (pe_op op_fdiv (pe_call (ok_cell T) r1 rfl T.g_l_cell_at T.F_l_cell_at.kp T.b_l_cell_at .nil pass0 (pa_cons (pv 0) (pa_cons (pe_op op_add pe_int (pv 6)) pa_nil))) pe_int) (pe_op op_pow pe_int pe_int)) (pe_callTy call_int1 rfl T.z_int (by kernel_rfl) (pa_cons (pe_cmpR op_ne (pv 7) pe_int (nomark _)) pa_nil))))
        (@pss_one _ _ _ (@ps_asg _ _ _ _ _ _ (@pe_lst _ _ _ _ (@pa_cons _ _ _ _ _ (pv 7) (@pa_cons _ _ _ _ _ (pv 9) (@pa_cons _ _ _ _ _ (pv 8) (@pa_cons _ _ _ _ _ (pe_callTy call_int1 rfl T.z_int (by kernel_rfl) (pa_cons (pe_cmpR op_eq (pv 8) pe_int (nomark _)) pa_nil)) (@pa_cons _ _ _ _ _ (pv 9) (@pa_cons _ _ _ _ _ pe_int (@pa_cons _ _ _ _ _ pe_int (@pa_cons _ _ _ _ _ (pv 9) pa_nil rfl) rfl) rfl) rfl) rfl) rfl) rfl) rfl)) (pg_sub (pv 5) (pe_op op_add pe_int (pv 6)) set_list) rfl rfl rfl))))))
      (@pss_cons _ _ _ _ _ (ps_for PassesOwn.never rfl (pi_range1 rfl T.z_range (pa_cons (pe_op op_mul pe_int (pv 2)) pa_nil)) (pg_name (i := 10) sc_l_volume.nd rfl (Or.inl rfl))
        (@pss_cons _ _ _ _ _ (ps_set (i := 11) sc_l_volume.nd rfl (Or.inl rfl) (@pe_lst _ _ _ _ (@pa_cons _ _ _ _ _ pe_int (@pa_cons _ _ _ _ _ (pe_op op_mod (pe_op op_fdiv (pv 4) pe_int) (pv 1)) (@pa_cons _ _ _ _ _ (pe_op op_add pe_int (pe_op op_mod (pv 4) pe_int)) (@pa_cons _ _ _ _ _ (pe_op op_mod (pe_op op_fdiv (pv 4) pe_int) (pv 1)) pa_nil rfl) rfl) rfl) rfl)))
        (@pss_cut _ _ _ _ _ (ps_if (pt_cmp (pc_din hu1 (pv 10) (pv 3)) rfl) (pss_one (ps_set (i := 11) sc_l_volume.nd rfl (Or.inl rfl) (pe_op op_cat (pe_lst (pa_cons pe_int pa_nil)) (pe_callTy call_list_of rfl T.z_list (by kernel_rfl) (pa_cons (pe_dget hu1 (pv 3) (pv 10) (fun _ _ => rfl)) pa_nil))))) pss_nil)
        (@pss_one _ _ _ (ps_for PassesOwn.never rfl (pi_range1 rfl T.z_range (pa_cons pe_int pa_nil)) (pg_name (i := 12) sc_l_volume.nd rfl (Or.inl rfl))
          (pss_one (ps_asg (pe_ix ix_list (pv 11) (pv 12) (fun _ _ => rfl)) (pg_sub (pe_ix ix_list (pv 5) (pe_op op_add (pe_op op_add pe_int (pv 1)) (pe_op op_fdiv (pv 10) pe_int)) (fun _ _ => rfl)) (pe_op op_add (pe_op op_mul (pe_op op_mod (pv 10) pe_int) pe_int) (pv 12)) set_list))))))))
      (@pss_one _ _ _ (ps_ret (pv 5))))))), ?_⟩
    refine ⟨_, rfl, a, ns, 1, rfl, hS, hl, ?_⟩
    generalize ns.getD 1 0 = c
    refine ⟨_, rfl, _, _, rfl, rfl, _, rfl, _, _, rfl, rfl, 12 + (F : Int) + (E : Int), rfl, by omega, by omega, ?_⟩
    have en : (12 + (F : Int) + (E : Int)).toNat = 12 + F + E := by omega
    rw [en]
    refine comp_range (cap := [none]) (small_len (n := 12 + F + E) (by omega)) (fun i ys σ H' => ∃ as : List Addr, ys = as.map V.ref ∧ as.length = i ∧ i ≤ 12 + F + E ∧ σ.length = 1 ∧ Rows H H' as (List.replicate i z8))
      (by exact ⟨[], rfl, rfl, Nat.zero_le _, rfl, Rows.nil⟩) (fun i ys σ H' ⟨as, h1, h2, h3, _⟩ => ⟨h3, by rw [h1]; simp [h2]⟩) ?_ ?_
    · rintro i ys σ H' hi ⟨as, rfl, h2, h3, h4, hR⟩
      match σ, h4 with
      | [q1], _ =>
        refine ⟨(by show 8 ≤ sizeLine; decide), fun r hr0 => ⟨as ++ [r], by simp, by simp [h2], hi, rfl, ?_⟩⟩
        rw [List.replicate_succ']
        exact hR.add (Same.upd0 hr0) hr0 upd_same
    rintro ys σ H1 ⟨as, rfl, h2, h3, h4, hR⟩ v hv
    have V1 := hR.vol hv
    have s1 : Same H (upd H1 v (.lst (as.map V.ref))) := hR.same.upd hv
    have nv : H v = none := hR.same.free hv
    have ndv : v ≠ d := Ne.symm (ne_of_none hd nv)
    have nas : ∀ b ∈ as, H b = none := hR.new
    generalize upd H1 v (.lst (as.map V.ref)) = H2 at V1 s1 ⊢
    have ln0 : (List.replicate (12 + F + E) z8).length = 12 + F + E := List.length_replicate
    have a80 : ∀ r ∈ List.replicate (12 + F + E) z8, r.length = 8 := fun r hr => by rw [List.eq_of_mem_replicate hr]; rfl
    generalize List.replicate (12 + F + E) z8 = R0 at V1 ln0 a80
    -- the heads
    refine ⟨_, rfl, _, rfl, _, rfl, _, rfl, _, _, rfl, rfl, ⟨by decide, by decide, by decide⟩, _, _, rfl, rfl, (by show (0 : Int) < 10 ^ 12; decide), v, as, R0, F, E, _, rfl, V1, by omega, a80, fun as1 R1 H3 T1 V2 l1 a81 eq1 => ?_⟩
    have s2 : Same H H3 := fun b o e => T1.keep b o (s1 b o e) (ne_of_none e nv) (fun z => by rw [nas b z] at e; cases e)
    have nas1 : ∀ b ∈ as1, H b = none := fun b hb => by
      rcases T1.sub b hb with h' | h'
      · exact nas b h'
      · exact s1.free h'
    rw [ln0] at l1
    -- the records
    refine ⟨_, rfl, 1, (F : Int), rfl, ⟨by decide, by decide, by omega, by omega⟩, for_range (lo := 1) (n := ((F : Int) - 1).toNat) (fun i σ H' => ∃ x6 x7 x8 x9 as' rows', σ = [some (.ref a), some (.int F), some (.int E), some (.ref d), some (.int c), some (.ref v), x6, x7, x8, x9, none, none, none] ∧ SD d (kT tl) H H' ∧ NV H H' v d as' rows' (12 + F + E) ∧ (0 < i → Fz d (kT tl) H'))
      ⟨none, none, none, none, as1, R1, rfl, SD.of s2 hd, ⟨V2, l1, a81, nas1, nv⟩, fun h => absurd h (Nat.lt_irrefl 0)⟩ ?_ ?_⟩
    · rintro i σ H' hi ⟨x6, x7, x8, x9, as', rows', rfl, sH, hN, _⟩
      have c1 : (1 : Int) + (1 + (i : Int)) = ((2 + i : Nat) : Int) := by omega
      refine ⟨fun σ H2 => H2 = H' ∧ ∃ kd : Int, σ = [some (.ref a), some (.int F), some (.int E), some (.ref d), some (.int c), some (.ref v), some (.int (1 + (i : Int))), some (.int kd), x8, x9, none, none, none], ?_, ?_⟩
      · refine ⟨_, rfl, _, rfl, _, _, rfl, rfl, a, ns, 2 + i, ?_, sH.seq hd hS, hl, _, _, rfl, rfl, (by show (0 : Int) < 3; decide), rfl, _, rfl⟩
        show [V.ref a, V.int (1 + (1 + (i : Int)))] = [V.ref a, V.int ((2 + i : Nat) : Int)]
        rw [c1]
      rintro σ H2 ⟨eH, kd, rfl⟩
      rw [eH]
      -- how many names
      refine ⟨fun σ H2 => SD d (kT tl) H' H2 ∧ Fz d (kT tl) H2 ∧ ∃ mn : Int, σ = [some (.ref a), some (.int F), some (.int E), some (.ref d), some (.int c), some (.ref v), some (.int (1 + (i : Int))), some (.int kd), some (.int mn), x9, none, none, none], ?_, ?_⟩
      · refine ⟨_, rfl, d, kT tl, rfl, sH.rd, fun ob H4 hf hs => ?_⟩
        have sF : SD d (kT tl) H' H4 := SD.frz hf hs
        have TF := (sH.comp sF).tk hd hT
        have l16 := hT.len
        refine comp_keys (d := d) (ob := ob) (kvs := kT tl) (cap := [none, some 3, some 6]) (σ := [some (.ref a), some (.int F), some (.int E), some (.ref d), some (.int c), some (.ref v), some (.int (1 + (i : Int))), some (.int kd), x8, x9, none, none, none]) (small_len (by rw [kT_len]; omega)) (fun j ys σ H2 => j ≤ tl.length ∧ ys.length ≤ j ∧ (∃ s0, σ = [s0, some (.ref d), some (.int (1 + (i : Int)))]) ∧ H2 = H4)
          (by exact ⟨Nat.zero_le _, Nat.le_refl _, ⟨none, rfl⟩, rfl⟩) (fun j ys σ H2 ⟨h1, h2, h3, h4⟩ => ⟨by rw [kT_len]; exact h1, h2, by rw [h4]; exact hf⟩) ?_ ?_
        · rintro j kk x ys σ H2 hx ⟨h1, h2, ⟨s0, rfl⟩, rfl⟩
          unfold kT at hx
          rw [List.getElem?_map] at hx
          cases et : tl[j]? with
          | none => rw [et] at hx; cases hx
          | some t =>
            rw [et] at hx
            cases hx
            have hj : j < tl.length := (List.getElem?_eq_some_iff.mp et).1
            have hm := List.mem_of_getElem? et
            refine ⟨_, rfl, _, rfl, d, _, rfl, kT_get hT.nd hm (.inr ⟨ob, hf⟩), t.2.1, _, 2, .int t.2.2.2.2, rfl, rfl, SqT.of (TF.it t hm), atI_nat (j := 2) rfl, _, rfl, rfl, _, rfl, ite2 (fun _ => ?_) (fun _ => ⟨hj, by omega, ⟨_, rfl⟩, rfl⟩)⟩
            exact ⟨_, rfl, hj, by simp; omega, ⟨_, rfl⟩, rfl⟩
        rintro ys σ H2 ⟨h1, h2, ⟨s0, rfl⟩, eH2⟩ D hD
        rw [eH2] at hD ⊢
        exact ⟨D, _, rfl, .inl (SqL.of upd_same), sF.trans (Same.upd0 hD), ⟨ob, (Same.upd0 hD) _ _ hf⟩, _, rfl⟩
      rintro σ H4 ⟨s4, z4, mn, rfl⟩
      have S4 := sH.comp s4
      refine ⟨fun σ H2 => H2 = H4 ∧ ∃ sl : Int, σ = [some (.ref a), some (.int F), some (.int E), some (.ref d), some (.int c), some (.ref v), some (.int (1 + (i : Int))), some (.int kd), some (.int mn), some (.int sl), none, none, none], ?_, ?_⟩
      · refine ⟨_, rfl, _, rfl, _, _, rfl, rfl, a, ns, 2 + i, ?_, S4.seq hd hS, hl, _, _, rfl, rfl, ⟨by decide, by decide⟩, _, _, rfl, rfl, ⟨by decide, by decide, by decide⟩, _, _, rfl, rfl, (by show (0 : Int) < 10 ^ 12; decide), _, rfl, rfl, .inr ⟨_, rfl, _, _, rfl, rfl, .inr ?_, rfl, _, rfl⟩⟩
        · show [V.ref a, V.int (1 + (1 + (i : Int)))] = [V.ref a, V.int ((2 + i : Nat) : Int)]
          rw [c1]
        · generalize (!decide (V.int kd = V.int 1)) = b
          cases b <;> exact ⟨by decide, by decide⟩
      rintro σ H2 ⟨eH, sl, rfl⟩
      rw [eH]
      have V4 := Vol.sd hN.vol s4 sH.rd
      refine ⟨_, rfl, _, rfl, _, rfl, _, rfl, rfl, .inr ⟨_, rfl, _, rfl, _, rfl, (by show 8 ≤ sizeLine; decide), fun q fq => ?_⟩⟩
      have e1' : ∀ iv : Int, [V.int kd, V.int sl, V.int mn, V.int iv, V.int sl, V.int 0, V.int 0, V.int sl] = ([kd, sl, mn, iv, sl, 0, 0, sl] : List Int).map V.int := fun _ => rfl
      rw [e1']
      have c3 : (10 : Int) + (1 + (i : Int)) = ((11 + i : Nat) : Int) := by omega
      have la : as'.length = 12 + F + E := by rw [V4.len]; exact hN.len
      refine ⟨_, rfl, _, rfl, _, _, rfl, rfl, v, _, _, 11 + i, rfl, rfl, (V4.same (Same.upd0 fq)).top, ?_, ?_⟩
      · show ixN _ (10 + (1 + (i : Int))) = _
        rw [c3]
        exact ixN_nat (by rw [List.length_map, la]; omega)
      obtain ⟨V5, T5⟩ := vset (i := 11 + i) (r := [kd, sl, mn, _, sl, 0, 0, sl]) V4 fq (Same.upd0 fq) upd_same
      refine ⟨_, _, _, _, _, _, rfl, (S4.trans (Same.upd0 fq)).updF ndv nv, ⟨V5, by rw [List.length_set]; exact hN.len, mem_set8 hN.r8 rfl, fun b hb => ?_, nv⟩, fun _ => (z4.same (Same.upd0 fq)).upd ndv⟩
      rcases List.mem_or_eq_of_mem_set hb with h' | h'
      · exact hN.new b h'
      · rw [h']; exact S4.free fq
    rintro σ H5 ⟨x6, x7, x8, x9, as5, R5, rfl, s5, hN5, z5'⟩
    have z5 := z5' (by omega)
    have nas5 := hN5.new
    -- the slots
    refine ⟨_, rfl, _, _, rfl, rfl, .inl ⟨by decide, by decide⟩, 2 * (E : Int), rfl, by omega, by omega, ?_⟩
    have en2 : (2 * (E : Int)).toNat = 2 * E := by omega
    rw [en2]
    refine for_range (lo := 0) (n := 2 * E) (fun i σ H' => ∃ x10 x11 x12 rows', σ = [some (.ref a), some (.int F), some (.int E), some (.ref d), some (.int c), some (.ref v), x6, x7, x8, x9, x10, x11, x12] ∧ SD d (kT tl) H H' ∧ Fz d (kT tl) H' ∧ NV H H' v d as5 rows' (12 + F + E) ∧ (∀ x ∈ tl, x.1 < i → ∀ j < 4, slq rows' F x.1 j = (numL x.2.2).getD j 0) ∧ ∀ s < i, s ∉ tl.map (·.1) → slq rows' F s 0 = 0)
      ⟨none, none, none, R5, rfl, s5, z5, hN5, fun x _ h => absurd h (Nat.not_lt_zero _), fun s h => absurd h (Nat.not_lt_zero _)⟩ ?_ ?_
    · rintro i σ H' hi ⟨x10, x11, x12, rows', rfl, sH, zH, hN, hA0, hB0⟩
      have c0 : (0 : Int) + (i : Int) = (i : Int) := by omega
      rw [c0]
      refine ⟨_, rfl, _, _, rfl, rfl, ⟨by decide, by decide⟩, _, rfl, _, _, rfl, rfl, (by show (0 : Int) < (F : Int); omega), _, rfl, _, _, rfl, rfl, (by show (0 : Int) < 4; decide), _, _, rfl, rfl, _, rfl, _, _, rfl, rfl, ⟨by decide, by decide⟩, _, rfl, _, _, rfl, rfl, (by show (0 : Int) < (F : Int); omega), (by show 4 ≤ sizeLine; decide), fun nl fnl => ?_⟩
      have sn := Same.upd0 (o := .lst (([0, c / 3 % (F : Int), 1 + c % 4, c / 5 % (F : Int)] : List Int).map V.int)) fnl
      have hnl : upd H' nl (.lst (([0, c / 3 % (F : Int), 1 + c % 4, c / 5 % (F : Int)] : List Int).map V.int)) nl = some (.lst (([0, c / 3 % (F : Int), 1 + c % 4, c / 5 % (F : Int)] : List Int).map V.int)) := upd_same
      have S1 := sH.trans sn
      obtain ⟨o, ho, eo⟩ := kT_has i hT.nd S1.rd
      refine ⟨fun σ H2 => ∃ (nl : Addr) (nums : List Int), σ = [some (.ref a), some (.int F), some (.int E), some (.ref d), some (.int c), some (.ref v), x6, x7, x8, x9, some (.int (i : Int)), some (.ref nl), x12] ∧ Same H' H2 ∧ H' nl = none ∧ H2 nl = some (.lst (nums.map V.int)) ∧ nums.length = 4 ∧ (∀ x ∈ tl, x.1 = i → nums = numL x.2.2) ∧ (i ∉ tl.map (·.1) → nums.getD 0 0 = 0), ?_, ?_⟩
      · refine ⟨_, rfl, _, rfl, d, o, rfl, ho, _, rfl, ?_⟩
        rw [eo]
        by_cases hm : i ∈ tl.map (·.1)
        · obtain ⟨x, hx, ex⟩ := List.mem_map.mp hm
          refine iteD hm ⟨(by show 1 ≤ sizeLine; decide), fun q1 fq1 => ?_⟩
          have sq1 := Same.upd0 (o := .lst [.int 1]) fq1
          have S2 := S1.trans sq1
          have hg := kT_get hT.nd hx S2.rd
          rw [ex] at hg
          refine ⟨_, rfl, _, rfl, d, _, rfl, hg, x.2.1, _, rfl, .inr (SqT.of ((S2.tk hd hT).it x hx)), fun q2 fq2 => ?_⟩
          have sq2 := Same.upd0 (o := .lst [.int x.2.2.1, .int x.2.2.2.1, .int x.2.2.2.2]) fq2
          refine ⟨q1, q2, _, _, rfl, rfl, sq2 _ _ upd_same, upd_same, (by show 4 ≤ sizeLine; decide), fun q3 fq3 => ?_⟩
          refine ⟨q3, numL x.2.2, rfl, ((sn.trans sq1).trans sq2).upd fq3, ((sn.trans sq1).trans sq2).free fq3, upd_same, rfl, fun y hy ey => ?_, fun z => absurd hm z⟩
          have : x = y := by
            have nd := hT.nd
            obtain ⟨p, hp, e1⟩ := List.getElem_of_mem hx
            obtain ⟨q, hq, e2⟩ := List.getElem_of_mem hy
            have h1 : (tl.map (·.1))[p]? = some i := by rw [List.getElem?_map, List.getElem?_eq_getElem hp, e1, ← ex]; rfl
            have h2 : (tl.map (·.1))[q]? = some i := by rw [List.getElem?_map, List.getElem?_eq_getElem hq, e2, ← ey]; rfl
            have := nodup_at nd h1 h2
            subst this
            rw [← e1, ← e2]
          rw [this]
        · exact iteDF hm ⟨nl, _, rfl, sn, fnl, hnl, rfl, fun x hx ex => absurd (List.mem_map.mpr ⟨x, hx, ex⟩) hm, fun _ => rfl⟩
      clear hnl S1 ho eo sn fnl
      rintro σ H6 ⟨nl, nums, rfl, s6, fnl, hnum, ln4, hin, hno⟩
      have S6 := sH.trans s6
      have hsn : i < 2 * E := hi
      have nnl : nl ∉ as5 ∧ nl ≠ v := (hN.vol).fresh fnl
      refine ⟨4, rfl, by decide, by decide, for_range (lo := 0) (n := 4) (fun j σ H' => ∃ y12 rows2, σ = [some (.ref a), some (.int F), some (.int E), some (.ref d), some (.int c), some (.ref v), x6, x7, x8, x9, some (.int (i : Int)), some (.ref nl), y12] ∧ SD d (kT tl) H H' ∧ Fz d (kT tl) H' ∧ NV H H' v d as5 rows2 (12 + F + E) ∧ H' nl = some (.lst (nums.map V.int)) ∧ (∀ s' j', s' ≠ i → j' < 4 → slq rows2 F s' j' = slq rows' F s' j') ∧ ∀ j', j' < j → slq rows2 F i j' = nums.getD j' 0)
        ⟨_, rows', rfl, S6, zH.same s6, ⟨hN.vol.same s6, hN.len, hN.r8, hN.new, hN.nv⟩, hnum, fun _ _ _ _ => rfl, fun j' h => absurd h (Nat.not_lt_zero _)⟩ ?_ ?_⟩
      · rintro j σ H7 hj ⟨y12, rows2, rfl, s7, z7, hN7, hn7, hA, hB⟩
        have cj : (0 : Int) + (j : Int) = (j : Int) := by omega
        rw [cj]
        have V7 := hN7.vol
        have l7 := hN7.len
        have hj4 : j < nums.length := by omega
        have hr2 : 10 + F + i / 2 < rows2.length := by omega
        have er : rows2[10 + F + i / 2]? = some rows2[10 + F + i / 2] := List.getElem?_eq_getElem hr2
        have hra : 10 + F + i / 2 < as5.length := by rw [V7.len]; exact hr2
        have ea : as5[10 + F + i / 2]? = some as5[10 + F + i / 2] := List.getElem?_eq_getElem hra
        have l8 := hN7.r8 _ (List.getElem_mem hr2)
        have d1 : (10 : Int) + (F : Int) + (i : Int) / 2 = ((10 + F + i / 2 : Nat) : Int) := by omega
        have d2 : (i : Int) % 2 * 4 + (j : Int) = ((i % 2 * 4 + j : Nat) : Int) := by omega
        have d3 : i % 2 * 4 + j < 8 := by omega
        have hma : as5[10 + F + i / 2] ∈ as5 := List.getElem_mem hra
        refine ⟨_, rfl, _, rfl, nl, _, _, .int nums[j], rfl, rfl, SqL.of hn7, atI_nat (by rw [List.getElem?_map, List.getElem?_eq_getElem hj4]; rfl), ?_⟩
        refine ⟨_, rfl, _, rfl, _, _, rfl, rfl, _, rfl, _, _, rfl, rfl, ⟨by decide, by decide⟩, _, _, rfl, rfl, v, _, _, .ref as5[10 + F + i / 2], rfl, rfl, SqL.of V7.top, ?_, _, rfl, _, _, rfl, rfl, (by show (0 : Int) < 2; decide), _, _, rfl, rfl, .inr ⟨by decide, by decide⟩, _, rfl, _, _, rfl, rfl, as5[10 + F + i / 2], _, _, i % 2 * 4 + j, rfl, rfl, V7.row _ _ _ ea er, ?_, ?_⟩
        · show atI (as5.map V.ref) (10 + (F : Int) + (i : Int) / 2) = _
          rw [d1]
          exact atI_nat (by rw [List.getElem?_map, ea]; rfl)
        · show ixN _ ((i : Int) % 2 * 4 + (j : Int)) = _
          rw [d2]
          exact ixN_nat (by rw [List.length_map, l8]; exact d3)
        refine ⟨_, _, rfl, s7.updF (Ne.symm (ne_of_none hd (nas5 _ hma))) (nas5 _ hma), z7.upd (Ne.symm (ne_of_none hd (nas5 _ hma))), ⟨V7.put ea er, by rw [List.length_set]; exact l7, mem_set8 hN7.r8 (by rw [List.length_set]; exact l8), hN7.new, hN7.nv⟩, ?_, fun s' j' hs' hj' => ?_, fun j' hj' => ?_⟩
        · rw [upd_ne (fun z => nnl.1 (by rw [z]; exact hma))]
          exact hn7
        · rw [slq_put er l8 hj hj', if_neg (fun z => hs' z.1)]
          exact hA s' j' hs' hj'
        · rw [slq_put er l8 hj (by omega)]
          by_cases hjj : j' = j
          · rw [if_pos ⟨rfl, hjj⟩, hjj, List.getD_eq_getElem?_getD, List.getElem?_eq_getElem hj4]
            rfl
          · rw [if_neg (fun z => hjj z.2)]
            exact hB j' (by omega)
      rintro σ H7 ⟨y12, rows2, rfl, s7, z7, hN7, hn7, hA, hB⟩
      refine ⟨_, _, _, rows2, rfl, s7, z7, hN7, fun x hx hlt j hj => ?_, fun s hs hns => ?_⟩
      · by_cases hxi : x.1 = i
        · rw [hxi, hB j hj, hin x hx hxi]
        · rw [hA x.1 j hxi hj]
          exact hA0 x hx (by omega) j hj
      · by_cases hsi : s = i
        · rw [hsi, hB 0 (by decide)]
          exact hno (by rw [← hsi]; exact hns)
        · rw [hA s 0 hsi (by decide)]
          exact hB0 s (by omega) hns
    rintro σ H8 ⟨x10, x11, x12, rows', rfl, sH, zH, hN, hA0, hB0⟩
    exact ⟨_, rfl, k v as5 rows' H8 sH zH hN.vol hN.len hN.r8 ⟨hT.nd, hT.lt, hT.uq, fun x hx j hj => hA0 x hx (hT.lt x hx) j hj, hB0⟩⟩
end
end K32
set_option Elab.async false
set_option linter.all false
set_option maxRecDepth 100000
set_option maxHeartbeats 1000000
namespace K32
open PySem L2 PyProof.Rows
section
variable {P : Program} {w : World} {K : PySem.W.Frag} {mg : Str → Option Value} {base : Heap}
/-! ### the law's two questions -/
theorem ple_anti (a b : Int × Int) (h1 : ple a b) (h2 : ple b a) : a = b := by
  obtain ⟨a1, a2⟩ := a
  obtain ⟨b1, b2⟩ := b
  unfold ple plt at h1 h2
  by_cases e : a1 = b1
  · subst e
    simp only [if_true, decide_eq_false_iff_not] at h1 h2
    rw [show a2 = b2 by omega]
  · simp only [if_neg e, if_neg (Ne.symm e), decide_eq_false_iff_not] at h1 h2
    omega
def trP (q : Int × Int) : Tr := .tup [.flat (.int q.1), .flat (.int q.2)]
theorem holds_pairs {H : Hp} {l : Addr} {us : List Addr} {qs : List (Int × Int)} (h : H l = some (.lst (us.map V.ref))) (hP : PR H us qs) : Holds K H 2 (.ref l) (.lst (qs.map trP)) := by
  refine .lst (SqL.of h) (by simp [hP.len]) fun i x t e1 e2 => ?_
  rw [List.getElem?_map] at e1 e2
  cases ea : us[i]? with
  | none => rw [ea] at e1; cases e1
  | some ta =>
    cases ew : qs[i]? with
    | none => rw [ew] at e2; cases e2
    | some y =>
      rw [ea] at e1
      rw [ew] at e2
      cases e1
      cases e2
      refine .tup (SqT.of (hP.item i ta y ea ew)) rfl fun j x t f1 f2 => ?_
      match j with
      | 0 => cases f1; cases f2; exact .flat rfl
      | 1 => cases f1; cases f2; exact .flat rfl
      | j + 2 => simp at f1
/-- what the law asks about, behind its volume -/
structure AQ (C : Addr) (H : Hp) (p v d : Addr) (F E : Nat) (as : List Addr) (rows : List (List Int)) (tl : List Tl) (ob : Obj) : Prop where
  vv : VV C H p v F E 2 as rows
  tv : TV rows F E tl
  tk : TK H E tl
  fz : H d = some (.frz ob (.dK (kT tl)))
theorem AQ.same {C : Addr} {H H' : Hp} {p v d : Addr} {F E : Nat} {as : List Addr} {rows : List (List Int)} {tl : List Tl} {ob : Obj} (h : AQ C H p v d F E as rows tl ob) (s : Same H H') : AQ C H' p v d F E as rows tl ob := ⟨h.vv.same s, h.tv, h.tk.same s, s _ _ h.fz⟩
theorem AQ.rd {C : Addr} {H : Hp} {p v d : Addr} {F E : Nat} {as : List Addr} {rows : List (List Int)} {tl : List Tl} {ob : Obj} (h : AQ C H p v d F E as rows tl ob) : Rd H d (.dK (kT tl)) := .inr ⟨ob, h.fz⟩
def spAsk (C : Addr) : Sp := fun vs H Q _ => ∃ (p v d : Addr) (F E : Nat) (as : List Addr) (rows : List (List Int)) (tl : List Tl) (ob : Obj) (f : Int), vs = [.ref p, .ref v, .ref d, .int f] ∧ AQ C H p v d F E as rows tl ob ∧ ∀ H', Same H H' → Q (.bl true) H'
theorem ok_lnaming (T : Tx K mg) : FnOk P w K mg base CX0 7 T.f_l_naming T.fd_l_naming ["_law_layout", "_law_volume_here", "_law_told", "_law_f"] (spAsk T.C_Layout) := by
  refine T.F_l_naming.ok sc_l_naming (fun vs H Q E h => ?_) (fun cdv A outer s H vs Q X hr h => ?_)
  · obtain ⟨p, v, d, F, E, as, rows, tl, ob, f, rfl, _⟩ := h
    rfl
  · obtain ⟨p, v, d, F, E, as, rows, tl, ob, f, rfl, hA, k⟩ := h
    have hu : _ + 60 < cLine := Nat.lt_of_le_of_lt (Nat.add_le_add_left (by decide : 60 ≤ 64) _) hr.units
    have hu1 : _ + 1 < cLine := Nat.lt_of_le_of_lt (Nat.add_le_add_left (by decide : 1 ≤ 64) _) hr.units
    refine ⟨_, @pss_cons _ _ _ _ _ (ps_setComp (i := 4) (N' := ["_law_s", "_law_told", "_law_f"]) (cap := [none, some 2, some 3]) sc_l_naming.nd rfl rfl rfl (compOk_of (by kernel_rfl)) (pi_list (pe_callB (call_sortedR rfl) rfl T.z_sorted (by kernel_rfl) (pa_cons (pv 2) pa_nil)))
        (fun cells C s₀ H₀ fp pins => ⟨pg_name (i := 0) (ndp3 (by decide +kernel) (by decide +kernel) (by decide +kernel)) rfl (Or.inl rfl) (.inr rfl), pifs_one (pt_cmpR op_eq (pe_ix (ix_tupK (K := K) rfl) (pe_dget hu1 (pv 1) (pv 0) (fun _ _ => rfl)) pe_int (fun _ _ => rfl)) (pv 2) (nomark _)), pv 0⟩))
      (@pss_cons _ _ _ _ _ (ps_for PassesOwn.never rfl (pi_range1 rfl T.z_range (pa_cons pe_int pa_nil)) (pg_name (i := 5) sc_l_naming.nd rfl (Or.inl rfl))
        (@pss_cons _ _ _ _ _ (ps_set (i := 6) sc_l_naming.nd rfl (Or.inl rfl) (pe_call (ok_naming T) hr rfl T.g_slots_naming T.F_slots_naming.kp T.b_slots_naming .nil pass0 (pa_cons (pv 0) (pa_cons (pv 1) (pa_cons (pv 3) pa_nil)))))
        (@pss_cons _ _ _ _ _ (ps_if (PW.pt (pw_or (pt_not (pt_val (pe_callB call_isT rfl T.z_isinstance (by kernel_rfl) (pa_cons (pv 6) (pa_cons (pe_bltn (v := .ty "list") rfl T.z_list (by kernel_rfl) rfl) pa_nil))))) (pw_or1 (pt_cmpR (op_neT hu) (pv 6) (pv 4) (nomark _))))) (pss_one (ps_ret pe_bl)) pss_nil)
        (@pss_one _ _ _ (ps_expr (pe_bm PySem.F.plainAttrs_list PySem.F.slot_list_append PySem.F.type_list_append mt_append (pv 6) (pa_cons pe_int pa_nil)))))))
      (@pss_one _ _ _ (ps_ret pe_bl))), ?_⟩
    have e8 := hA.vv.e8
    have ln := usl_len rows F (2 * E)
    have l16 := hA.tk.len
    refine ⟨_, rfl, d, kT tl, (tl.map (·.1)).map fun (s : Nat) => (s : Int), rfl, hA.rd, ?_, by rw [List.length_map, List.length_map]; omega, fun sl ms fsl hpm hps => ?_⟩
    · unfold kT
      rw [List.map_map, List.map_map, List.map_map]
      rfl
    have ems := hA.tv.keys hpm hps
    subst ems
    have s1 := Same.upd0 (o := .lst (((usl rows F (2 * E)).map fun (s : Nat) => (s : Int)).map V.int)) fsl
    have hsl : upd H sl (.lst (((usl rows F (2 * E)).map fun (s : Nat) => (s : Int)).map V.int)) sl = some (.lst (((usl rows F (2 * E)).map fun (s : Nat) => (s : Int)).map V.int)) := upd_same
    have hA1 := hA.same s1
    generalize upd H sl (.lst (((usl rows F (2 * E)).map fun (s : Nat) => (s : Int)).map V.int)) = H1 at s1 hsl hA1 ⊢
    refine ⟨sl, rfl, ⟨_, SqL.of hsl⟩, ?_⟩
    refine comp_list (cap := [none, some 2, some 3]) (σ := [some (.ref p), some (.ref v), some (.ref d), some (.int f), none, none, none]) (K := K) (a := sl) (xs := ((usl rows F (2 * E)).map fun (s : Nat) => (s : Int)).map V.int) (small_len (by rw [List.length_map, List.length_map]; omega)) (fun i ys σ H' => i ≤ (usl rows F (2 * E)).length ∧ ys = (((usl rows F (2 * E)).take i).filter fun s => decide (slq rows F s 3 = f)).map (fun (s : Nat) => V.int (s : Int)) ∧ (∃ s0, σ = [s0, some (.ref d), some (.int f)]) ∧ H' = H1)
      (by exact ⟨Nat.zero_le _, rfl, ⟨none, rfl⟩, rfl⟩) (fun i ys σ H' ⟨h1, h2, _, h4⟩ => ⟨by rw [List.length_map, List.length_map]; exact h1, by rw [h2, List.length_map]; exact Nat.le_trans (List.length_filter_le _ _) (by rw [List.length_take]; exact Nat.min_le_left _ _), by rw [h4]; exact SqL.of hsl⟩) ?_ ?_
    · rintro i x ys σ H' hx ⟨h1, rfl, ⟨s0, rfl⟩, rfl⟩
      rw [List.getElem?_map, List.getElem?_map] at hx
      cases es : (usl rows F (2 * E))[i]? with
      | none => rw [es] at hx; cases hx
      | some s =>
        rw [es] at hx
        cases hx
        have hi : i < (usl rows F (2 * E)).length := (List.getElem?_eq_some_iff.mp es).1
        obtain ⟨t, ht, et⟩ := List.mem_map.mp ((hA.tv.mem s).mp (List.mem_of_getElem? es))
        obtain ⟨_, _, a3⟩ := hA.tv.at ht
        have hg := kT_get hA.tk.nd ht hA1.rd
        rw [et] at a3 hg
        refine ⟨_, rfl, _, rfl, d, _, rfl, hg, t.2.1, _, 2, .int (slq rows F s 3), rfl, rfl, SqT.of (hA1.tk.it t ht), (by rw [a3]; exact atI_nat (j := 2) rfl), _, rfl, rfl, _, rfl, ?_⟩
        rw [take_snoc es, List.filter_append, List.map_append]
        by_cases h : slq rows F s 3 = f
        · exact iteD (by rw [h]) ⟨_, rfl, hi, by simp [h], ⟨_, rfl⟩, rfl⟩
        · exact iteDF (fun z => h (by injection z)) ⟨hi, by simp [h], ⟨_, rfl⟩, rfl⟩
    rintro ys σ H' ⟨h1, rfl, ⟨s0, rfl⟩, eH⟩ D hD
    rw [eH] at hD ⊢
    have el : (((usl rows F (2 * E)).map fun (s : Nat) => (s : Int)).map V.int).length = (usl rows F (2 * E)).length := by rw [List.length_map, List.length_map]
    rw [el, List.take_length]
    have enm : ((usl rows F (2 * E)).filter fun s => decide (slq rows F s 3 = f)).map (fun (s : Nat) => V.int (s : Int)) = ((nmg rows F E f).map fun (s : Nat) => (s : Int)).map V.int := by
      unfold nmg
      rw [List.map_map]
      rfl
    rw [enm]
    have s2 := s1.upd (o := .lst (((nmg rows F E f).map fun (s : Nat) => (s : Int)).map V.int)) hD
    have hDl : upd H1 D (.lst (((nmg rows F E f).map fun (s : Nat) => (s : Int)).map V.int)) D = some (.lst (((nmg rows F E f).map fun (s : Nat) => (s : Int)).map V.int)) := upd_same
    generalize upd H1 D (.lst (((nmg rows F E f).map fun (s : Nat) => (s : Int)).map V.int)) = H2 at s2 hDl ⊢
    refine ⟨2, rfl, by decide, by decide, for_range (lo := 0) (n := 2) (fun i σ H' => ∃ x5 x6, σ = [some (.ref p), some (.ref v), some (.ref d), some (.int f), some (.ref D), x5, x6] ∧ Same H2 H') ⟨none, none, rfl, Same.refl _⟩ ?_ ?_⟩
    · rintro i σ H3 hi ⟨x5, x6, rfl, s3⟩
      have hA3 := hA.same (s2.trans s3)
      refine ⟨_, rfl, _, rfl, _, rfl, p, v, F, E, 2, f, as, rows, rfl, hA3.vv.lay, hA3.vv.vol, hA3.vv.len, hA3.vv.e8, hA3.vv.r8, fun fo H4 s4 ffo hfo => ?_⟩
      have hfo : H4 fo = some (.lst (((nmg rows F E f).map fun (s : Nat) => (s : Int)).map V.int)) := by rw [hfo, List.map_map]; rfl
      refine ⟨_, rfl, _, _, _, true, rfl, TyOf.lst hfo, rfl, true, rfl, iteF ?_⟩
      refine ⟨_, rfl, _, rfl, fo, D, 1, 1, trI _, trI _, rfl, rfl, by decide, by decide, holds_ints (SqL.of hfo), holds_ints (SqL.of (s4 _ _ (s3 _ _ hDl))), (fun _ h => nomatch h), (fun _ h => nomatch h), _, rfl, iteBF (by rw [eqT_I]; simp) ?_⟩
      refine ⟨_, rfl, .inl ⟨rfl, _, SqL.of hfo⟩, fo, _, _, rfl, rfl, hfo, small1000 (by rw [List.length_map, List.length_map]; unfold nmg; exact Nat.le_trans (List.length_filter_le _ _) (by omega)), _, _, rfl, (s3.trans s4).updF (s3.free ffo)⟩
    rintro σ H3 ⟨x5, x6, rfl, s3⟩
    exact k _ (s2.trans s3)
theorem ok_lwithin (T : Tx K mg) : FnOk P w K mg base CX0 7 T.f_l_within T.fd_l_within ["_law_layout", "_law_volume_here", "_law_told", "_law_folder"] (spAsk T.C_Layout) := by
  refine T.F_l_within.ok sc_l_within (fun vs H Q E h => ?_) (fun cdv A outer s H vs Q X hr h => ?_)
  · obtain ⟨p, v, d, F, E, as, rows, tl, ob, f, rfl, _⟩ := h
    rfl
  · obtain ⟨p, v, d, F, E, as, rows, tl, ob, f, rfl, hA, k⟩ := h
    have hu : _ + 60 < cLine := Nat.lt_of_le_of_lt (Nat.add_le_add_left (by decide : 60 ≤ 64) _) hr.units
    have hu1 : _ + 1 < cLine := Nat.lt_of_le_of_lt (Nat.add_le_add_left (by decide : 1 ≤ 64) _) hr.units
    refine ⟨_, @pss_cons _ _ _ _ _ (ps_set (i := 4) sc_l_within.nd rfl (Or.inl rfl) (pe_callB call_sortedP rfl T.z_sorted (by kernel_rfl) (pa_cons (pe_comp (N' := ["_law_s", "_law_told", "_law_folder"]) (cap := [none, some 2, some 3]) rfl (compOk_of (by kernel_rfl)) (pi_keysF (pv 2))
        (fun cells C s₀ H₀ fp pins => ⟨pg_name (i := 0) (ndp3 (by decide +kernel) (by decide +kernel) (by decide +kernel)) rfl (Or.inl rfl) (.inr rfl), pifs_one (pt_cmpR op_eq (pe_ix (ix_tupK (K := K) rfl) (pe_dget hu1 (pv 1) (pv 0) (fun _ _ => rfl)) pe_int (fun _ _ => rfl)) (pv 2) (nomark _)), pe_tup (pa_cons (pe_ix (ix_tupK (K := K) rfl) (pe_dget hu1 (pv 1) (pv 0) (fun _ _ => rfl)) pe_int (fun _ _ => rfl)) (pa_cons (pe_ix (ix_tupK (K := K) rfl) (pe_dget hu1 (pv 1) (pv 0) (fun _ _ => rfl)) pe_int (fun _ _ => rfl)) pa_nil))⟩)) pa_nil)))
      (@pss_cons _ _ _ _ _ (ps_for PassesOwn.never rfl (pi_range1 rfl T.z_range (pa_cons pe_int pa_nil)) (pg_name (i := 5) sc_l_within.nd rfl (Or.inl rfl))
        (@pss_cons _ _ _ _ _ (ps_set (i := 6) sc_l_within.nd rfl (Or.inl rfl) (pe_call (ok_namesin T) hr rfl T.g_names_in T.F_names_in.kp T.b_names_in .nil pass0 (pa_cons (pv 0) (pa_cons (pv 1) (pa_cons (pv 3) pa_nil)))))
        (@pss_cons _ _ _ _ _ (ps_if (PW.pt (pw_or (pt_not (pt_val (pe_callB call_isT rfl T.z_isinstance (by kernel_rfl) (pa_cons (pv 6) (pa_cons (pe_bltn (v := .ty "list") rfl T.z_list (by kernel_rfl) rfl) pa_nil))))) (pw_or1 (pt_cmpR (op_neT hu) (pv 6) (pv 4) (nomark _))))) (pss_one (ps_ret pe_bl)) pss_nil)
        (@pss_one _ _ _ (ps_expr (pe_bm0 PySem.F.plainAttrs_list PySem.F.slot_list_clear PySem.F.type_list_clear mt_clear (pv 6)))))))
      (@pss_one _ _ _ (ps_ret pe_bl))), ?_⟩
    have l16 := hA.tk.len
    refine ⟨_, rfl, d, kT tl, ob, rfl, hA.fz, ?_⟩
    refine comp_keys (d := d) (ob := ob) (kvs := kT tl) (cap := [none, some 2, some 3]) (σ := [some (.ref p), some (.ref v), some (.ref d), some (.int f), none, none, none]) (small_len (by rw [kT_len]; omega)) (fun i ys σ H' => i ≤ tl.length ∧ ∃ ts, ys = ts.map V.ref ∧ ts.length ≤ i ∧ PR H' ts (((tl.take i).filter fun x => decide (x.2.2.1 = f)).map fun x => (x.2.2.2.1, x.2.2.2.2)) ∧ (∃ s0, σ = [s0, some (.ref d), some (.int f)]) ∧ Same H H')
      (by exact ⟨Nat.zero_le _, [], rfl, Nat.le_refl _, ⟨rfl, fun i t q e => by simp at e⟩, ⟨none, rfl⟩, Same.refl _⟩) (fun i ys σ H' ⟨h1, ts, h2, h3, _, _, h4⟩ => ⟨by rw [kT_len]; exact h1, by rw [h2, List.length_map]; exact h3, h4 _ _ hA.fz⟩) ?_ ?_
    · rintro i kk x ys σ H' hx ⟨h1, ts, rfl, h3, hP, ⟨s0, rfl⟩, h4⟩
      unfold kT at hx
      rw [List.getElem?_map] at hx
      cases et : tl[i]? with
      | none => rw [et] at hx; cases hx
      | some t =>
        rw [et] at hx
        cases hx
        have hi : i < tl.length := (List.getElem?_eq_some_iff.mp et).1
        have hm := List.mem_of_getElem? et
        have hA4 := hA.same h4
        have hg := kT_get hA.tk.nd hm hA4.rd
        have ht := hA4.tk.it t hm
        refine ⟨_, rfl, _, rfl, d, _, rfl, hg, t.2.1, _, 0, .int t.2.2.1, rfl, rfl, SqT.of ht, atI_nat (j := 0) rfl, _, rfl, rfl, _, rfl, ?_⟩
        rw [take_snoc et, List.filter_append, List.map_append]
        by_cases h : t.2.2.1 = f
        · refine iteD (by rw [h]) ⟨_, rfl, _, rfl, d, _, rfl, hg, t.2.1, _, 1, .int t.2.2.2.1, rfl, rfl, SqT.of ht, atI_nat (j := 1) rfl, _, rfl, _, rfl, d, _, rfl, hg, t.2.1, _, 2, .int t.2.2.2.2, rfl, rfl, SqT.of ht, atI_nat (j := 2) rfl, (by show 2 ≤ sizeLine; decide), fun q fq => ?_⟩
          refine ⟨hi, ts ++ [q], by simp, by simp; omega, ?_, ⟨_, rfl⟩, h4.upd fq⟩
          have e1 : ([t].filter fun x => decide (x.2.2.1 = f)).map (fun x => (x.2.2.2.1, x.2.2.2.2)) = [(t.2.2.2.1, t.2.2.2.2)] := by simp [h]
          rw [e1]
          exact hP.add (Same.upd0 fq) upd_same
        · refine iteDF (int_ne h) ⟨hi, ts, rfl, by omega, ?_, ⟨_, rfl⟩, h4⟩
          have e1 : ([t].filter fun x => decide (x.2.2.1 = f)).map (fun x => (x.2.2.2.1, x.2.2.2.2)) = [] := by simp [h]
          rw [e1, List.append_nil]
          exact hP
    rintro ys σ H' ⟨h1, ts, rfl, h3, hP, ⟨s0, rfl⟩, h4⟩ D hD
    rw [kT_len, List.take_length] at hP
    rw [kT_len] at h3
    refine ⟨D, ts, _, rfl, SqL.of upd_same, hP.same (Same.upd0 hD), by omega, fun wl us qs fwl hP' hpm hpw => ?_⟩
    have s2 := (h4.upd (o := .lst (ts.map V.ref)) hD).upd (o := .lst (us.map V.ref)) fwl
    have hwl : upd (upd H' D (.lst (ts.map V.ref))) wl (.lst (us.map V.ref)) wl = some (.lst (us.map V.ref)) := upd_same
    have hP2 := hP'.same (Same.upd0 (o := .lst (us.map V.ref)) fwl)
    generalize upd (upd H' D (.lst (ts.map V.ref))) wl (.lst (us.map V.ref)) = H2 at s2 hwl hP2 ⊢
    refine ⟨2, rfl, by decide, by decide, for_range (lo := 0) (n := 2) (fun i σ H' => ∃ x5 x6, σ = [some (.ref p), some (.ref v), some (.ref d), some (.int f), some (.ref wl), x5, x6] ∧ Same H2 H') ⟨none, none, rfl, Same.refl _⟩ ?_ ?_⟩
    · rintro i σ H3 hi ⟨x5, x6, rfl, s3⟩
      have hA3 := hA.same (s2.trans s3)
      refine ⟨_, rfl, _, rfl, _, rfl, p, v, F, E, 2, f, as, rows, rfl, hA3.vv, fun fo us2 qs2 H4 s4 ffo hfo hP4 hpm2 hpw2 => ?_⟩
      have eq : qs2 = qs := eq_of_sorted ple_anti (hpm2.trans ((hA.tv.nin f).trans hpm.symm)) hpw2 hpw
      subst eq
      have hh := holds_pairs (K := K) hfo hP4
      refine ⟨_, rfl, _, _, _, true, rfl, TyOf.lst hfo, rfl, true, rfl, iteF ?_⟩
      refine ⟨_, rfl, _, rfl, fo, wl, 2, 2, _, _, rfl, rfl, by decide, by decide, hh, holds_pairs (s4 _ _ (s3 _ _ hwl)) (hP2.same (s3.trans s4)), (fun _ h => nomatch h), (fun _ h => nomatch h), _, rfl, iteBF (by rw [holds_refl hh]; rfl) ?_⟩
      exact ⟨_, rfl, .inl ⟨rfl, _, SqL.of hfo⟩, fo, _, rfl, rfl, hfo, _, _, rfl, (s3.trans s4).updF (s3.free ffo)⟩
    rintro σ H3 ⟨x5, x6, rfl, s3⟩
    exact k _ (s2.trans s3)
end
end K32
set_option Elab.async false
set_option linter.all false
set_option maxRecDepth 100000
set_option maxHeartbeats 1000000
namespace K32
open PySem L2 PyProof.Rows
section
variable {P : Program} {w : World} {K : PySem.W.Frag} {mg : Str → Option Value} {base : Heap}
/-! ### the law -/
def kP (tl : List Tl) : List (List Key × V) := tl.map fun x => ([Sum.inl x.2.2.1, Sum.inl x.2.2.2.1], V.int (x.1 : Int))
theorem kP_val (tl : List Tl) (a b : Int) : valV (kP tl) [Sum.inl a, Sum.inl b] = (tl.find? fun x => decide (prK x = (a, b))).map fun x => V.int (x.1 : Int) := by
  induction tl with
  | nil => rfl
  | cons x r ih =>
    have hk : kP (x :: r) = ([Sum.inl x.2.2.1, Sum.inl x.2.2.2.1], V.int (x.1 : Int)) :: kP r := rfl
    rw [hk, List.find?_cons]
    by_cases h : prK x = (a, b)
    · rw [decide_eq_true h, valV_pos (by have h1 := congrArg Prod.fst h; have h2 := congrArg Prod.snd h; unfold prK at h1 h2; simp only at h1 h2; rw [h1, h2])]
      rfl
    · rw [decide_eq_false h, valV_neg (fun e => h (by unfold prK; injection e with e1 e2; injection e1 with e1; injection e2 with e2; injection e2 with e2; rw [e1, e2])), ih]
theorem find_eq (o : Option Tl) : (o.map fun x => V.int (x.1 : Int)).getD .non = optN (o.map (·.1)) := by cases o <;> rfl
theorem optN_scal (o : Option Nat) : scal (optN o) (optN o) = true := by cases o <;> rfl
def spLaw (K : PySem.W.Frag) : Sp := fun vs H Q _ => ∃ (a : Addr) (ns : List Int), vs = [.ref a] ∧ SqL K H a (ns.map V.int) ∧ ns.length ≤ 63 ∧ ∀ H', Q (.bl true) H'
theorem ok_law (T : Tx K mg) : FnOk P w K mg base CX0 12 T.f_law T.fd_law ["_law_script"] (spLaw K) := by
  refine T.F_law.ok sc_law (fun vs H Q E h => ?_) (fun cdv A outer s H vs Q X hr h => ?_)
  · obtain ⟨a, ns, rfl, _⟩ := h
    rfl
  · obtain ⟨a, ns, rfl, hS, hl, k⟩ := h
    have hu : _ + 60 < cLine := Nat.lt_of_le_of_lt (Nat.add_le_add_left (by decide : 60 ≤ 64) _) hr.units
    have hu1 : _ + 1 < cLine := Nat.lt_of_le_of_lt (Nat.add_le_add_left (by decide : 1 ≤ 64) _) hr.units
    have r1 : Room 1 _ := hr.mono (by decide)
    have r2 : Room 2 _ := hr.mono (by decide)
    have r3 : Room 3 _ := hr.mono (by decide)
    have r6 : Room 6 _ := hr.mono (by decide)
    have r7 : Room 7 _ := hr.mono (by decide)
    refine ⟨_, @pss_cut _ _ _ _ _ (ps_set (i := 1) sc_law.nd rfl (Or.inl rfl) (pe_op op_add pe_int (pe_op op_mod (pe_call (ok_cell T) r1 rfl T.g_l_cell_at T.F_l_cell_at.kp T.b_l_cell_at .nil pass0 (pa_cons (pv 0) (pa_cons pe_int pa_nil))) pe_int)))
      (@pss_cut _ _ _ _ _ (ps_set (i := 2) sc_law.nd rfl (Or.inl rfl) (pe_op op_add pe_int (pe_op op_mod (pe_op op_fdiv (pe_call (ok_cell T) r1 rfl T.g_l_cell_at T.F_l_cell_at.kp T.b_l_cell_at .nil pass0 (pa_cons (pv 0) (pa_cons pe_int pa_nil))) pe_int) pe_int)))
      (@pss_cons _ _ _ _ _ (ps_set (i := 3) sc_law.nd rfl (Or.inr rfl) (pe_call (ok_slots T) r2 rfl T.g_l_slots T.F_l_slots.kp T.b_l_slots .nil pass0 (pa_cons (pv 0) (pa_cons (pe_call (ok_links T) r2 rfl T.g_l_links T.F_l_links.kp T.b_l_links .nil pass0 (pa_cons (pv 0) (pa_cons (pv 1) pa_nil))) (pa_cons (pv 2) pa_nil)))))
      (@pss_cons _ _ _ _ _ (ps_set (i := 4) sc_law.nd rfl (Or.inl rfl) (pe_call (ok_volume T) r3 rfl T.g_l_volume T.F_l_volume.kp T.b_l_volume .nil pass0 (pa_cons (pv 0) (pa_cons (pv 1) (pa_cons (pv 2) (pa_cons (pv 3) pa_nil))))))
      (@pss_cons _ _ _ _ _ (ps_set (i := 5) sc_law.nd rfl (Or.inr rfl) (pe_makeX T.mk_Layout (ok_init T) r2 rfl T.g_Layout T.b_Layout_init .nil takes0 (pa_cons (pv 1) (pa_cons (pv 2) (pa_cons pe_int pa_nil)))))
      (@pss_cons _ _ _ _ _ (ps_set (i := 6) sc_law.nd rfl (Or.inr rfl) (pe_comp (N' := ["_law_row"]) (cap := [none]) rfl (compOk_of (by kernel_rfl)) (pi_list (pv 4))
        (fun cells C s₀ H₀ fp pins => ⟨pg_name (i := 0) ndp1 rfl (Or.inl rfl) (.inr rfl), pifs_nil, pe_callTy (call_list_ofK (K := K) rfl) rfl T.z_list (by kernel_rfl) (pa_cons (pv 0) pa_nil)⟩)))
      (@pss_cut _ _ _ _ _ (ps_set (i := 7) sc_law.nd rfl (Or.inl rfl) (pe_minN (pe_comp (N' := ["_law_s", "_law_told"]) (cap := [none, some 3]) rfl (compOk_of (by kernel_rfl)) (pi_range1 rfl T.z_range (pa_cons (pe_op op_mul pe_int (pv 2)) pa_nil))
        (fun cells C s₀ H₀ fp pins => ⟨pg_name (i := 0) (ndp2 (by decide +kernel)) rfl (Or.inl rfl) (.inr rfl), pifs_one (pt_cmp (pc_dnotin hu1 (pv 0) (pv 1)) rfl), pv 0⟩)) pe_non rfl rfl T.z_min))
      (@pss_cons _ _ _ _ _ (ps_if (pt_cmpR op_ne (pe_call (ok_freeslot T) r6 rfl T.g_free_slot T.F_free_slot.kp T.b_free_slot .nil pass0 (pa_cons (pv 5) (pa_cons (pv 6) pa_nil))) (pv 7) (nomark _)) (pss_one (ps_ret pe_bl)) pss_nil)
      (@pss_cut _ _ _ _ _ (ps_set (i := 8) sc_law.nd rfl (Or.inl rfl) (pe_op op_cat (pe_lst (pa_cons pe_int pa_nil)) (pe_comp (N' := ["_law_f", "_law_script"]) (cap := [none, some 0]) rfl (compOk_of (by kernel_rfl)) (pi_range2 rfl T.z_range (pa_cons pe_int (pa_cons (pv 1) pa_nil)))
        (fun cells C s₀ H₀ fp pins => ⟨pg_name (i := 0) (ndp2 (by decide +kernel)) rfl (Or.inl rfl) (.inr rfl), pifs_one (pt_cmpR op_eq (pe_op op_mod (pe_call (ok_cell T) r1 rfl T.g_l_cell_at T.F_l_cell_at.kp T.b_l_cell_at .nil pass0 (pa_cons (pv 1) (pa_cons (pe_op op_add pe_int (pv 0)) pa_nil))) pe_int) pe_int (nomark _)), pv 0⟩))))
      (@pss_cut _ _ _ _ _ (ps_if (pt_cmpR (op_neT hu) (pe_comp (N' := ["_law_f", "_law_layout", "_law_handed", "_law_told"]) (cap := [none, some 5, some 6, some 3]) rfl (compOk_of (by kernel_rfl)) (pi_range1 rfl T.z_range (pa_cons (pv 1) pa_nil))
        (fun cells C s₀ H₀ fp pins => ⟨pg_name (i := 0) (ndp4 (by decide +kernel) (by decide +kernel) (by decide +kernel) (by decide +kernel) (by decide +kernel) (by decide +kernel)) rfl (Or.inl rfl) (.inr rfl), pifs_one (pt_not (pt_val (pe_call (ok_lnaming T) r7 rfl T.g_l_naming T.F_l_naming.kp T.b_l_naming .nil pass0 (pa_cons (pv 1) (pa_cons (pv 2) (pa_cons (pv 3) (pa_cons (pv 0) pa_nil))))))), pv 0⟩)) (pe_lst pa_nil) (nomark _)) (pss_one (ps_ret pe_bl)) pss_nil)
      (@pss_cut _ _ _ _ _ (ps_if (pt_cmpR (op_neT hu) (pe_comp (N' := ["_law_folder", "_law_layout", "_law_handed", "_law_told"]) (cap := [none, some 5, some 6, some 3]) rfl (compOk_of (by kernel_rfl)) (pi_list (pv 8))
        (fun cells C s₀ H₀ fp pins => ⟨pg_name (i := 0) (ndp4 (by decide +kernel) (by decide +kernel) (by decide +kernel) (by decide +kernel) (by decide +kernel) (by decide +kernel)) rfl (Or.inl rfl) (.inr rfl), pifs_one (pt_not (pt_val (pe_call (ok_lwithin T) r7 rfl T.g_l_within T.F_l_within.kp T.b_l_within .nil pass0 (pa_cons (pv 1) (pa_cons (pv 2) (pa_cons (pv 3) (pa_cons (pv 0) pa_nil))))))), pv 0⟩)) (pe_lst pa_nil) (nomark _)) (pss_one (ps_ret pe_bl)) pss_nil)
      (@pss_cons _ _ _ _ _ (ps_set (i := 9) sc_law.nd rfl (Or.inl rfl) pe_dnewT)
      (@pss_cons _ _ _ _ _ (ps_for PassesOwn.never rfl (pi_keysF (pv 3)) (pg_name (i := 10) sc_law.nd rfl (Or.inl rfl))
        (pss_one (ps_dput hu1 (pv 9) (pe_slice sl_tup (pe_dget hu1 (pv 3) (pv 10) (fun _ _ => rfl)) po_none (po_some pe_int)) (pv 10) rfl)))
      (@pss_cons _ _ _ _ _ (ps_for PassesOwn.never rfl (pi_list (pe_callTy (call_listT rfl) rfl T.z_list (by kernel_rfl) (pa_cons (pv 9) pa_nil))) (pg_tup rfl (pgs_cons (pg_name (i := 11) sc_law.nd rfl (Or.inl rfl)) (pgs_cons (pg_name (i := 12) sc_law.nd rfl (Or.inl rfl)) pgs_nil)))
        (pss_one (ps_for PassesOwn.never rfl (pi_list (pe_lst (pa_cons (pv 12) (pa_cons (pe_op op_add pe_int (pe_op op_mod (pv 12) pe_int)) (pa_cons (pe_op op_add pe_int (pe_op op_fdiv (pv 12) pe_int)) pa_nil))))) (pg_name (i := 13) sc_law.nd rfl (Or.inl rfl))
          (pss_one (ps_for PassesOwn.never rfl (pi_list (pe_lst (pa_cons (pv 11) (pa_cons (pe_ix ix_list (pv 8) (pe_op op_mod (pe_op op_add (pv 12) pe_int) (pe_callB call_len_seq rfl T.z_len PySem.boot_len (pa_cons (pv 8) pa_nil))) (fun _ _ => rfl)) pa_nil)))) (pg_name (i := 14) sc_law.nd rfl (Or.inl rfl))
            (pss_one (ps_if (pt_cmpR op_ne (pe_call (ok_slotof T) r6 rfl T.g_slot_of T.F_slot_of.kp T.b_slot_of .nil pass0 (pa_cons (pv 5) (pa_cons (pv 6) (pa_cons (pv 14) (pa_cons (pv 13) pa_nil))))) (pe_dget1 hu1 (pv 9) (pe_tup (pa_cons (pv 14) (pa_cons (pv 13) pa_nil))) ⟨rfl, rfl, rfl, rfl⟩) (nomark _)) (pss_one (ps_ret pe_bl)) pss_nil)))))))
      (@pss_one _ _ _ (ps_ret (pe_cmpR (op_eqT hu) (pv 6) (pv 4) (nomark _))))))))))))))))), ?_⟩
    generalize ec : ns.getD 0 0 = c
    refine ⟨fun σ H' => H' = H ∧ ∃ F : Nat, (2 ≤ F ∧ F ≤ 9) ∧ σ = [some (.ref a), some (.int F), none, none, none, none, none, none, none, none, none, none, none, none, none], ?_, ?_⟩
    · refine ⟨_, rfl, a, ns, 0, rfl, hS, hl, _, _, rfl, rfl, (by show (0 : Int) < 8; decide), _, _, rfl, rfl, rfl, (2 + c % 8).toNat, ⟨by omega, by omega⟩, ?_⟩
      have g : (((2 + c % 8).toNat : Nat) : Int) = 2 + c % 8 := by omega
      rw [g, ← ec]
      rfl
    rintro σ H' ⟨eH, F, ⟨f1, f2⟩, rfl⟩
    rw [eH]
    refine ⟨fun σ H' => H' = H ∧ ∃ E : Nat, (1 ≤ E ∧ E ≤ 8) ∧ σ = [some (.ref a), some (.int F), some (.int E), none, none, none, none, none, none, none, none, none, none, none, none], ?_, ?_⟩
    · refine ⟨_, rfl, a, ns, 0, rfl, hS, hl, _, _, rfl, rfl, ⟨by decide, by decide⟩, _, _, rfl, rfl, (by show (0 : Int) < 8; decide), _, _, rfl, rfl, rfl, (1 + c / 8 % 8).toNat, ⟨by omega, by omega⟩, ?_⟩
      have g : (((1 + c / 8 % 8).toNat : Nat) : Int) = 1 + c / 8 % 8 := by omega
      rw [g, ← ec]
      rfl
    rintro σ H' ⟨eH, E, ⟨e1, e2⟩, rfl⟩
    rw [eH]
    -- the links and the dict
    refine ⟨_, rfl, _, rfl, _, rfl, a, ns, F, rfl, hS, hl, f1, f2, fun lk ts ls H1 s1 hK hnd hll => ⟨_, rfl, a, lk, ns, E, ts, ls, rfl, s1.seq hS, hl, e1, e2, hK, hnd, hll, fun d tl H2 s2 fd hd hT => ?_⟩⟩
    have S2 := s1.trans s2
    have hS2 := S2.seq hS
    -- the volume
    refine ⟨_, rfl, _, rfl, _, rfl, _, rfl, a, d, ns, F, E, tl, rfl, hS2, hl, f1, f2, e1, e2, hd, hT, fun v as rows H3 s3 z3 hV lr a8 hTV => ?_⟩
    have hS3 : SqL K H3 a (ns.map V.int) := s3.seq hd hS2
    have hT3 := s3.tk hd hT
    have hR3 := s3.rd
    clear s1 hK s2 S2 hS2 hd hT s3
    have ok : LayOk (F : Int) (E : Int) 2 := ⟨by omega, by omega, by omega, by omega, by decide, by decide⟩
    refine ⟨_, rfl, _, rfl, fun x dx nx ndx ne => ⟨x, dx, _, _, _, rfl, upd_same, fun _ H4 q1 kp => ⟨rfl, ?_⟩, fun no => absurd ok no⟩⟩
    have s4 : Same H3 H4 := fun b o e => kp b o (by rw [upd_ne (ne_of_none e nx), upd_ne (ne_of_none e ndx)]; exact e) (ne_of_none e nx)
    have L4 : Lay T.C_Layout H4 x (F : Int) (E : Int) 2 := ⟨dx, q1⟩
    have V4 := hV.same s4
    refine ⟨_, rfl, v, rfl, ⟨_, SqL.of V4.top⟩, comp_rows V4 (by omega) fun D bs H5 nD nbs D5 s5 => ?_⟩
    have S5 := s4.trans s5
    have V5 := V4.same s5
    have L5 := L4.same s5
    have hVV : VV T.C_Layout H5 x D F E 2 bs rows := ⟨L5, D5, by omega, e2, a8, by omega⟩
    have hT5 := hT3.same S5
    have hS5 := S5.seq hS3
    obtain ⟨ob, hfz⟩ := z3.same S5
    have hA : AQ T.C_Layout H5 x D d F E bs rows tl ob := ⟨hVV, hTV, hT5, hfz⟩
    clear S5 V4 L4 L5 hT5 hVV hR3 hT3 hS3 z3 hV s4 s5 nD nbs kp
    have l16 := hA.tk.len
    -- the least free slot
    refine ⟨fun σ H' => Same H5 H' ∧ σ = [some (.ref a), some (.int F), some (.int E), some (.ref d), some (.ref v), some (.ref x), some (.ref D), some (optN (fsl rows F E)), none, none, none, none, none, none, none], ?_, ?_⟩
    · refine ⟨_, rfl, _, _, rfl, rfl, .inl ⟨by decide, by decide⟩, 2 * (E : Int), rfl, by omega, by omega, ?_⟩
      have en2 : (2 * (E : Int)).toNat = 2 * E := by omega
      rw [en2]
      refine comp_range (cap := [none, some 3]) (σ := [some (.ref a), some (.int F), some (.int E), some (.ref d), some (.ref v), some (.ref x), some (.ref D), none, none, none, none, none, none, none, none]) (small_len (n := 2 * E) (by omega)) (fun i ys σ H' => i ≤ 2 * E ∧ ys = (((List.range i).filter fun s => !decide (s ∈ tl.map (·.1))).map fun (s : Nat) => (s : Int)).map V.int ∧ (∃ s0, σ = [s0, some (.ref d)]) ∧ H' = H5)
        (by exact ⟨Nat.zero_le _, rfl, ⟨none, rfl⟩, rfl⟩) (fun i ys σ H' ⟨h1, h2, _⟩ => ⟨h1, by rw [h2, List.length_map, List.length_map]; exact Nat.le_trans (List.length_filter_le _ _) (by rw [List.length_range]; exact Nat.le_refl _)⟩) ?_ ?_
      · rintro i ys σ H' hi ⟨h1, rfl, ⟨s0, rfl⟩, rfl⟩
        have c0 : (0 : Int) + (i : Int) = (i : Int) := by omega
        rw [c0]
        obtain ⟨o, ho, eo⟩ := kT_has i hA.tk.nd hA.rd
        refine ⟨_, rfl, _, rfl, d, o, rfl, ho, _, rfl, ?_⟩
        rw [eo, List.range_succ, List.filter_append, List.map_append, List.map_append]
        by_cases hm : i ∈ tl.map (·.1)
        · rw [decide_eq_true hm]
          refine iteF ⟨hi, ?_, ⟨_, rfl⟩, rfl⟩
          have : ([i].filter fun s => !decide (s ∈ tl.map (·.1))) = [] := by rw [List.filter_cons, decide_eq_true hm]; rfl
          rw [this]
          simp
        · rw [decide_eq_false hm]
          refine iteT ⟨_, rfl, hi, ?_, ⟨_, rfl⟩, rfl⟩
          have : ([i].filter fun s => !decide (s ∈ tl.map (·.1))) = [i] := by rw [List.filter_cons, decide_eq_false hm]; rfl
          rw [this]
          rfl
      rintro ys σ H6 ⟨h1, rfl, ⟨s0, rfl⟩, eH⟩ fl ffl
      rw [eH] at ffl ⊢
      have hfr := hTV.free
      have s6 := Same.upd0 (o := .lst ((((List.range (2 * E)).filter fun s => !decide (s ∈ tl.map (·.1))).map fun (s : Nat) => (s : Int)).map V.int)) ffl
      have up : ((List.range (2 * E)).filter fun s => !decide (s ∈ tl.map (·.1))).Pairwise (· < ·) := List.pairwise_lt_range.filter _
      have hfl : upd H5 fl (.lst ((((List.range (2 * E)).filter fun s => !decide (s ∈ tl.map (·.1))).map fun (s : Nat) => (s : Int)).map V.int)) fl = some (.lst ((((List.range (2 * E)).filter fun s => !decide (s ∈ tl.map (·.1))).map fun (s : Nat) => (s : Int)).map V.int)) := upd_same
      generalize ((List.range (2 * E)).filter fun s => !decide (s ∈ tl.map (·.1))) = fr at hfr up s6 hfl ⊢
      generalize upd H5 fl (.lst ((fr.map fun (s : Nat) => (s : Int)).map V.int)) = H7 at s6 hfl ⊢
      refine ⟨fl, fr.map fun (s : Nat) => (s : Int), rfl, SqL.of hfl, fun e0 => ?_, fun e0 m hm hle => ?_⟩
      · have : fr = [] := List.map_eq_nil_iff.mp e0
        rw [this] at hfr
        rw [hfr]
        exact ⟨s6, rfl⟩
      · cases fr with
        | nil => exact absurd rfl e0
        | cons y r =>
          have : m = (y : Int) := by
            obtain ⟨z, hz, ez⟩ := List.mem_map.mp hm
            have h1 := hle (y : Int) (List.mem_map.mpr ⟨y, List.mem_cons_self .., rfl⟩)
            rcases List.mem_cons.mp hz with h | h
            · rw [← ez, h]
            · have := (List.pairwise_cons.mp up).1 z h
              omega
          rw [hfr, this]
          exact ⟨s6, rfl⟩
    rintro σ H6 ⟨s6, rfl⟩
    have hA6 := hA.same s6
    have V6 := V5.same s6
    have hS6 := s6.seq hS5
    clear s6 hA V5 hS5
    refine ⟨_, rfl, _, rfl, x, D, F, E, 2, bs, rows, rfl, hA6.vv, fun H7 s7 => ⟨_, rfl, optN_scal _, _, rfl, iteNS rfl ?_⟩⟩
    have hA7 := hA6.same s7
    have V7 := V6.same s7
    have hS7 := s7.seq hS6
    clear s7 hA6 V6 hS6
    -- the folders
    refine ⟨fun σ H' => Same H7 H' ∧ ∃ (fl : Addr) (fs : List Int), fs ≠ [] ∧ fs.length ≤ 20 ∧ H' fl = some (.lst (fs.map V.int)) ∧ σ = [some (.ref a), some (.int F), some (.int E), some (.ref d), some (.ref v), some (.ref x), some (.ref D), some (optN (fsl rows F E)), some (.ref fl), none, none, none, none, none, none], ?_, ?_⟩
    · refine ⟨(by show 1 ≤ sizeLine; decide), fun z1 fz1 => ?_⟩
      have s8 := Same.upd0 (o := .lst [.int 0]) fz1
      have hz1 : upd H7 z1 (.lst [.int 0]) z1 = some (.lst (([0] : List Int).map V.int)) := upd_same
      generalize upd H7 z1 (.lst [.int 0]) = H8 at s8 hz1 ⊢
      refine ⟨_, rfl, 1, (F : Int), rfl, ⟨by decide, by decide, by omega, by omega⟩, ?_⟩
      refine comp_range (cap := [none, some 0]) (σ := [some (.ref a), some (.int F), some (.int E), some (.ref d), some (.ref v), some (.ref x), some (.ref D), some (optN (fsl rows F E)), none, none, none, none, none, none, none]) (small_len (n := ((F : Int) - 1).toNat) (by omega)) (fun i ys σ H' => i ≤ ((F : Int) - 1).toNat ∧ ∃ gs : List Int, ys = gs.map V.int ∧ gs.length ≤ i ∧ (∃ s0, σ = [s0, some (.ref a)]) ∧ H' = H8)
        (by exact ⟨Nat.zero_le _, [], rfl, Nat.le_refl _, ⟨none, rfl⟩, rfl⟩) (fun i ys σ H' ⟨h1, gs, h2, h3, _⟩ => ⟨h1, by rw [h2, List.length_map]; exact h3⟩) ?_ ?_
      · rintro i ys σ H' hi ⟨h1, gs, rfl, h3, ⟨s0, rfl⟩, rfl⟩
        have c1 : (1 : Int) + (1 + (i : Int)) = ((2 + i : Nat) : Int) := by omega
        refine ⟨_, rfl, _, rfl, _, _, rfl, rfl, a, ns, 2 + i, ?_, s8.seq hS7, hl, _, _, rfl, rfl, (by show (0 : Int) < 3; decide), rfl, _, rfl, ite2 (fun _ => ?_) (fun _ => ⟨hi, gs, rfl, by omega, ⟨_, rfl⟩, rfl⟩)⟩
        · show [V.ref a, V.int (1 + (1 + (i : Int)))] = [V.ref a, V.int ((2 + i : Nat) : Int)]
          rw [c1]
        · exact ⟨_, rfl, hi, gs ++ [1 + (i : Int)], by simp, by simp; omega, ⟨_, rfl⟩, rfl⟩
      rintro ys σ H9 ⟨h1, gs, rfl, h3, ⟨s0, rfl⟩, eH⟩ g fg
      rw [eH] at fg ⊢
      refine ⟨z1, g, _, _, rfl, rfl, (Same.upd0 fg) _ _ hz1, upd_same, Nat.le_of_lt (small1000 (by rw [List.length_map, List.length_map]; simp; omega)), fun q fq => ?_⟩
      exact ⟨(s8.upd fg).upd fq, q, [0] ++ gs, by simp, by simp; omega, by rw [upd_same, List.map_append], rfl⟩
    rintro σ H8 ⟨s8, fl, fs, nfs, lfs, hfl, rfl⟩
    have hA8 := hA7.same s8
    have V8 := V7.same s8
    clear s8 hA7 V7 hS7
    -- slots that name a record
    refine ⟨fun σ H' => Same H8 H' ∧ σ = [some (.ref a), some (.int F), some (.int E), some (.ref d), some (.ref v), some (.ref x), some (.ref D), some (optN (fsl rows F E)), some (.ref fl), none, none, none, none, none, none], ?_, ?_⟩
    · refine ⟨_, rfl, (F : Int), rfl, by omega, by omega, ?_⟩
      rw [Int.toNat_natCast]
      refine comp_range (cap := [none, some 5, some 6, some 3]) (σ := [some (.ref a), some (.int F), some (.int E), some (.ref d), some (.ref v), some (.ref x), some (.ref D), some (optN (fsl rows F E)), some (.ref fl), none, none, none, none, none, none]) (small_len (n := F) (by omega)) (fun i ys σ H' => i ≤ F ∧ ys = [] ∧ (∃ s0, σ = [s0, some (.ref x), some (.ref D), some (.ref d)]) ∧ Same H8 H')
        (by exact ⟨Nat.zero_le _, rfl, ⟨none, rfl⟩, Same.refl _⟩) (fun i ys σ H' ⟨h1, h2, _⟩ => ⟨h1, by rw [h2]; exact Nat.zero_le _⟩) ?_ ?_
      · rintro i ys σ H' hi ⟨h1, rfl, ⟨s0, rfl⟩, sH⟩
        exact ⟨_, rfl, _, rfl, _, rfl, _, rfl, x, D, d, F, E, bs, rows, tl, ob, _, rfl, hA8.same sH, fun H9 s9 => ⟨true, rfl, iteF ⟨hi, rfl, ⟨_, rfl⟩, sH.trans s9⟩⟩⟩
      rintro ys σ H9 ⟨h1, rfl, ⟨s0, rfl⟩, sH⟩ g fg
      refine ⟨(by show 0 ≤ sizeLine; decide), fun q fq => ?_⟩
      have hg : upd (upd H9 g (.lst [])) q (.lst []) g = some (.lst (([] : List Int).map V.int)) := (Same.upd0 fq) _ _ upd_same
      have hq : upd (upd H9 g (.lst [])) q (.lst []) q = some (.lst (([] : List Int).map V.int)) := upd_same
      exact ⟨g, q, 1, 1, trI [], trI [], rfl, rfl, by decide, by decide, holds_ints (SqL.of hg), holds_ints (SqL.of hq), (fun _ h => nomatch h), (fun _ h => nomatch h), _, rfl, iteBF (by rw [eqT_I]; simp) ⟨(sH.upd fg).upd fq, rfl⟩⟩
    rintro σ H9 ⟨s9, rfl⟩
    have hA9 := hA8.same s9
    have V9 := V8.same s9
    have hfl9 := s9 _ _ hfl
    clear s9 hA8 V8 hfl
    -- names in a folder
    refine ⟨fun σ H' => Same H9 H' ∧ σ = [some (.ref a), some (.int F), some (.int E), some (.ref d), some (.ref v), some (.ref x), some (.ref D), some (optN (fsl rows F E)), some (.ref fl), none, none, none, none, none, none], ?_, ?_⟩
    · refine ⟨_, rfl, fl, rfl, ⟨_, SqL.of hfl9⟩, ?_⟩
      refine comp_list (cap := [none, some 5, some 6, some 3]) (σ := [some (.ref a), some (.int F), some (.int E), some (.ref d), some (.ref v), some (.ref x), some (.ref D), some (optN (fsl rows F E)), some (.ref fl), none, none, none, none, none, none]) (K := K) (a := fl) (xs := fs.map V.int) (small_len (by rw [List.length_map]; omega)) (fun i ys σ H' => i ≤ (fs.map V.int).length ∧ ys = [] ∧ (∃ s0, σ = [s0, some (.ref x), some (.ref D), some (.ref d)]) ∧ Same H9 H')
        (by exact ⟨Nat.zero_le _, rfl, ⟨none, rfl⟩, Same.refl _⟩) (fun i ys σ H' ⟨h1, h2, _, h4⟩ => ⟨h1, by rw [h2]; exact Nat.zero_le _, SqL.of (h4 _ _ hfl9)⟩) ?_ ?_
      · rintro i y ys σ H' hy ⟨h1, rfl, ⟨s0, rfl⟩, sH⟩
        have hi : i < (fs.map V.int).length := (List.getElem?_eq_some_iff.mp hy).1
        rw [List.getElem?_map] at hy
        cases ef : fs[i]? with
        | none => rw [ef] at hy; cases hy
        | some f =>
          rw [ef] at hy
          cases hy
          exact ⟨_, rfl, _, rfl, _, rfl, _, rfl, x, D, d, F, E, bs, rows, tl, ob, _, rfl, hA9.same sH, fun H10 s10 => ⟨true, rfl, iteF ⟨hi, rfl, ⟨_, rfl⟩, sH.trans s10⟩⟩⟩
      rintro ys σ H10 ⟨h1, rfl, ⟨s0, rfl⟩, sH⟩ g fg
      refine ⟨(by show 0 ≤ sizeLine; decide), fun q fq => ?_⟩
      have hg : upd (upd H10 g (.lst [])) q (.lst []) g = some (.lst (([] : List Int).map V.int)) := (Same.upd0 fq) _ _ upd_same
      have hq : upd (upd H10 g (.lst [])) q (.lst []) q = some (.lst (([] : List Int).map V.int)) := upd_same
      exact ⟨g, q, 1, 1, trI [], trI [], rfl, rfl, by decide, by decide, holds_ints (SqL.of hg), holds_ints (SqL.of hq), (fun _ h => nomatch h), (fun _ h => nomatch h), _, rfl, iteBF (by rw [eqT_I]; simp) ⟨(sH.upd fg).upd fq, rfl⟩⟩
    rintro σ H10 ⟨s10, rfl⟩
    have hA10 := hA9.same s10
    have V10 := V9.same s10
    have hfl10 := s10 _ _ hfl9
    clear s10 hA9 V9 hfl9
    -- the places
    refine fun pd fpd => ?_
    have s11 : Same H10 (upd H10 pd (.dT [])) := Same.upd0 fpd
    refine ⟨_, rfl, d, kT tl, ob, rfl, s11 _ _ hA10.fz, for_keys (d := d) (ob := ob) (kvs := kT tl) (fun i σ H' => ∃ x10, σ = [some (.ref a), some (.int F), some (.int E), some (.ref d), some (.ref v), some (.ref x), some (.ref D), some (optN (fsl rows F E)), some (.ref fl), some (.ref pd), x10, none, none, none, none] ∧ Same H10 H' ∧ H' pd = some (.dT (kP (tl.take i))))
      ⟨none, rfl, s11, upd_same⟩ (fun i σ H' _ ⟨_, _, sH, _⟩ => sH _ _ hA10.fz) ?_ ?_⟩
    · rintro i kk y σ H' hy ⟨x10, rfl, sH, hpd⟩
      unfold kT at hy
      rw [List.getElem?_map] at hy
      cases et : tl[i]? with
      | none => rw [et] at hy; cases hy
      | some t =>
        rw [et] at hy
        cases hy
        have hi : i < tl.length := (List.getElem?_eq_some_iff.mp et).1
        have hm := List.mem_of_getElem? et
        have hA' := hA10.same sH
        have ht := hA'.tk.it t hm
        refine ⟨_, rfl, _, rfl, _, rfl, _, rfl, d, _, rfl, kT_get hA10.tk.nd hm hA'.rd, _, rfl, t.2.1, _, rfl, SqT.of ht, (fun z => absurd z.2 (by show ¬ (HT.sIx 3 3 (some 2) = 3); decide)), fun q fq => ?_⟩
        have sq := Same.upd0 (o := .tup [.int t.2.2.1, .int t.2.2.2.1]) fq
        have hq : upd H' q (.tup [.int t.2.2.1, .int t.2.2.2.1]) q = some (.tup (([Sum.inl t.2.2.1, Sum.inl t.2.2.2.1] : List Key).map kV)) := upd_same
        refine ⟨pd, _, rfl, DPut.t (k := [Sum.inl t.2.2.1, Sum.inl t.2.2.2.1]) (sq _ _ hpd) hq (small1000 (by unfold kP; rw [List.length_map, List.length_take]; omega)), ?_⟩
        refine ⟨_, rfl, (sH.trans sq).updF fpd, ?_⟩
        have hno : valV (kP (tl.take i)) [Sum.inl t.2.2.1, Sum.inl t.2.2.2.1] = none := by
          rw [kP_val]
          have : (tl.take i).find? (fun x => decide (prK x = (t.2.2.1, t.2.2.2.1))) = none := by
            rw [List.find?_eq_none]
            intro y hy hc
            have ey : prK y = prK t := of_decide_eq_true hc
            obtain ⟨j, hj, ej⟩ := List.getElem_of_mem hy
            rw [List.length_take] at hj
            rw [List.getElem_take] at ej
            have uq := hA10.tk.uq
            have h1 : (tl.map prK)[j]? = some (prK t) := by rw [List.getElem?_map, List.getElem?_eq_getElem (by omega), ej, ← ey]; rfl
            have h2 : (tl.map prK)[i]? = some (prK t) := by rw [List.getElem?_map, et]; rfl
            have := nodup_at uq h1 h2
            omega
          rw [this]
          rfl
        rw [upd_same, putK_new _ hno, take_snoc et]
        unfold kP
        rw [List.map_append]
        rfl
    rintro σ H11 ⟨x10, rfl, s12, hpd⟩
    rw [kT_len, List.take_length] at hpd
    have hA11 := hA10.same s12
    have V11 := V10.same s12
    have hfl11 := s12 _ _ hfl10
    clear s12 s11 hA10 V10 hfl10 fpd
    -- each of them
    refine ⟨_, rfl, pd, kP tl, rfl, hpd, fun ll us fll lus hus => ?_⟩
    have s13 := Same.upd0 (o := .lst (us.map V.ref)) fll
    have hll : upd H11 ll (.lst (us.map V.ref)) ll = some (.lst (us.map V.ref)) := upd_same
    generalize upd H11 ll (.lst (us.map V.ref)) = H12 at s13 hll ⊢
    have hA12 := hA11.same s13
    have V12 := V11.same s13
    have hfl12 := s13 _ _ hfl11
    have hpd12 := s13 _ _ hpd
    have hus12 : ∀ (i : Nat) t p, us[i]? = some t → (kP tl)[i]? = some p → H12 t = some (.tup (p.1.map kV)) := fun i t p e1 e2 => s13 _ _ (hus i t p e1 e2)
    clear hus s13 hA11 V11 hfl11 hpd fll
    refine ⟨ll, rfl, ⟨_, SqL.of hll⟩, for_list (K := K) (a := ll) (xs := us.map V.ref) (fun i σ H' => ∃ y11 y12 y13 y14, σ = [some (.ref a), some (.int F), some (.int E), some (.ref d), some (.ref v), some (.ref x), some (.ref D), some (optN (fsl rows F E)), some (.ref fl), some (.ref pd), x10, y11, y12, y13, y14] ∧ Same H12 H')
      ⟨_, _, _, _, rfl, Same.refl _⟩ (fun i σ H' _ ⟨_, _, _, _, _, sH⟩ => SqL.of (sH _ _ hll)) ?_ ?_⟩
    · rintro i z σ H' hz ⟨y11, y12, y13, y14, rfl, sH⟩
      rw [List.getElem?_map] at hz
      cases et : us[i]? with
      | none => rw [et] at hz; cases hz
      | some t =>
        rw [et] at hz
        cases hz
        have hi : i < us.length := (List.getElem?_eq_some_iff.mp et).1
        have hit : i < tl.length := by rw [lus] at hi; unfold kP at hi; rw [List.length_map] at hi; exact hi
        have ek : (kP tl)[i]? = some ([Sum.inl tl[i].2.2.1, Sum.inl tl[i].2.2.2.1], V.int (tl[i].1 : Int)) := by unfold kP; rw [List.getElem?_map, List.getElem?_eq_getElem hit]; rfl
        have ht := sH _ _ (hus12 i t _ et ek)
        generalize tl[i].2.2.1 = fo at ht
        generalize tl[i].2.2.2.1 = nm at ht
        have ht : H' t = some (.tup [.int fo, .int nm]) := ht
        clear ek
        refine ⟨t, _, rfl, SqT.of ht, rfl, _, _, rfl, _, _, rfl, rfl, ?_⟩
        refine ⟨_, rfl, _, rfl, _, _, rfl, rfl, (by show (0 : Int) < 7; decide), _, _, rfl, rfl, _, rfl, _, _, rfl, rfl, ⟨by decide, by decide⟩, _, _, rfl, rfl, (by show 3 ≤ sizeLine; decide), fun o3 fo3 => ?_⟩
        have s3 := Same.upd0 (o := .lst [.int nm, .int (1 + nm % 7), .int (1 + nm / 2)]) fo3
        have ho3 : upd H' o3 (.lst [.int nm, .int (1 + nm % 7), .int (1 + nm / 2)]) o3 = some (.lst (([nm, 1 + nm % 7, 1 + nm / 2] : List Int).map V.int)) := upd_same
        have S3 := sH.trans s3
        obtain ⟨H3, eH3⟩ : ∃ H3, H3 = upd H' o3 (.lst [.int nm, .int (1 + nm % 7), .int (1 + nm / 2)]) := ⟨_, rfl⟩
        have ho3' := ho3
        rw [← eH3] at S3 ho3
        have i3 : Same H3 (upd H' o3 (.lst [.int nm, .int (1 + nm % 7), .int (1 + nm / 2)])) := by rw [eH3]; exact Same.refl _
        clear eH3 s3
        generalize ([nm, 1 + nm % 7, 1 + nm / 2] : List Int) = os at ho3 ho3'
        refine ⟨o3, rfl, ⟨_, SqL.of ho3'⟩, for_list (K := K) (a := o3) (xs := os.map V.int) (fun j σ H' => ∃ y13 y14, σ = [some (.ref a), some (.int F), some (.int E), some (.ref d), some (.ref v), some (.ref x), some (.ref D), some (optN (fsl rows F E)), some (.ref fl), some (.ref pd), x10, some (.int fo), some (.int nm), y13, y14] ∧ Same H3 H')
          ⟨_, _, rfl, i3⟩ (fun j σ H' _ ⟨_, _, _, sj⟩ => SqL.of (sj _ _ ho3)) ?_ ?_⟩
        · rintro j w σ H4 hw ⟨z13, z14, rfl, sj⟩
          rw [List.getElem?_map] at hw
          cases eo : os[j]? with
          | none => rw [eo] at hw; cases hw
          | some o =>
            rw [eo] at hw
            cases hw
            have S4 := S3.trans sj
            have hfl4 := S4 _ _ hfl12
            have lp : 0 < fs.length := List.length_pos_iff.mpr nfs
            have b0 := Int.emod_nonneg (nm + 1) (b := ((fs.map V.int).length : Int)) (by rw [List.length_map]; omega)
            have b1 := Int.emod_lt_of_pos (nm + 1) (b := ((fs.map V.int).length : Int)) (by rw [List.length_map]; omega)
            obtain ⟨jj, ej⟩ : ∃ j : Nat, (nm + 1) % ((fs.map V.int).length : Int) = (j : Int) := ⟨((nm + 1) % ((fs.map V.int).length : Int)).toNat, by omega⟩
            have hjj : jj < fs.length := by rw [List.length_map] at b1 ej; omega
            refine ⟨_, rfl, _, rfl, _, rfl, _, _, rfl, rfl, _, rfl, fl, _, rfl, .inl (SqL.of hfl4), _, _, rfl, rfl, (by show (0 : Int) < ((fs.map V.int).length : Int); rw [List.length_map]; omega), fl, _, _, .int fs[jj], rfl, rfl, SqL.of hfl4, (by rw [ej]; exact atI_nat (by rw [List.getElem?_map, List.getElem?_eq_getElem hjj]; rfl)), (by show 2 ≤ sizeLine; decide), fun o2 fo2 => ?_⟩
            have s5 := Same.upd0 (o := .lst [.int fo, .int fs[jj]]) fo2
            have ho2 : upd H4 o2 (.lst [.int fo, .int fs[jj]]) o2 = some (.lst (([fo, fs[jj]] : List Int).map V.int)) := upd_same
            have S5 := sj.trans s5
            obtain ⟨H5', eH5⟩ : ∃ H5', H5' = upd H4 o2 (.lst [.int fo, .int fs[jj]]) := ⟨_, rfl⟩
            have ho2' := ho2
            rw [← eH5] at S5 ho2
            have i5 : Same H5' (upd H4 o2 (.lst [.int fo, .int fs[jj]])) := by rw [eH5]; exact Same.refl _
            clear eH5 s5
            generalize ([fo, fs[jj]] : List Int) = ws at ho2 ho2'
            refine ⟨o2, rfl, ⟨_, SqL.of ho2'⟩, for_list (K := K) (a := o2) (xs := ws.map V.int) (fun j σ H' => ∃ y14, σ = [some (.ref a), some (.int F), some (.int E), some (.ref d), some (.ref v), some (.ref x), some (.ref D), some (optN (fsl rows F E)), some (.ref fl), some (.ref pd), x10, some (.int fo), some (.int nm), some (.int o), y14] ∧ Same H5' H')
              ⟨_, rfl, i5⟩ (fun j σ H' _ ⟨_, _, sj⟩ => SqL.of (sj _ _ ho2)) ?_ ?_⟩
            · rintro q u σ H6 hu6 ⟨w14, rfl, sq⟩
              rw [List.getElem?_map] at hu6
              cases ew : ws[q]? with
              | none => rw [ew] at hu6; cases hu6
              | some wh =>
                rw [ew] at hu6
                cases hu6
                have S6 := (S3.trans S5).trans sq
                refine ⟨_, rfl, _, rfl, _, rfl, _, rfl, x, D, F, E, 2, wh, o, bs, rows, rfl, (hA12.same S6).vv, fun H7 s7 => ?_⟩
                have hpd7 := (S6.trans s7) _ _ hpd12
                refine ⟨_, rfl, pd, rfl, .inr ⟨_, .inl hpd7⟩, _, rfl, _, rfl, (by show 2 ≤ sizeLine; decide), fun t7 f7 => ?_⟩
                have s8 := Same.upd0 (o := .tup [.int wh, .int o]) f7
                have ht7 : upd H7 t7 (.tup [.int wh, .int o]) t7 = some (.tup (([Sum.inl wh, Sum.inl o] : List Key).map kV)) := upd_same
                refine ⟨_, DGet.t (s8 _ _ hpd7) ht7, ?_⟩
                rw [kP_val, find_eq, hTV.sof]
                exact ⟨optN_scal _, _, rfl, iteNS rfl ⟨_, rfl, (sq.trans s7).trans s8⟩⟩
            rintro σ H6 ⟨w14, rfl, sq⟩
            exact ⟨_, _, rfl, S5.trans sq⟩
        rintro σ H4 ⟨z13, z14, rfl, sj⟩
        exact ⟨_, _, _, _, rfl, S3.trans sj⟩
    rintro σ H13 ⟨y11, y12, y13, y14, rfl, sH⟩
    refine ⟨_, rfl, _, rfl, D, v, 2, 2, trV rows, trV rows, rfl, rfl, by decide, by decide, holds_vol (hA12.same sH).vv.vol, holds_vol (V12.same sH), (fun _ h => nomatch h), (fun _ h => nomatch h), ?_⟩
    have : eqT (trV rows) (trV rows) = true := by rw [eqT_V]; simp
    simp only [this]
    exact k _
end
end K32
set_option Elab.async false
set_option linter.all false
set_option maxRecDepth 100000
set_option maxHeartbeats 1000000
namespace K32
open PySem L2 PyProof.Rows
/-! ### the making of it, and the end -/
theorem all_mk {l : PySem.W.OpenLaw} {w : World} {K : PySem.W.Frag} {h : Heap} {mg : Str → Option Value} {fa : Addr} (X : K.In h) (G : h.Ns mainGlobals mg) (hfa : mg "law" = some (.ref fa))
    {C_Layout : Addr}
    {C_NoLayout : Addr}
    {f_many_slots : Addr} {od_many_slots an_many_slots : Option Addr} {sl_many_slots : Array (Option Value)} {oc_many_slots kV_many_slots dc_many_slots pm_many_slots cd_many_slots ct_many_slots : Value}
    {f_slot_at : Addr} {od_slot_at an_slot_at : Option Addr} {sl_slot_at : Array (Option Value)} {oc_slot_at kV_slot_at dc_slot_at pm_slot_at cd_slot_at ct_slot_at : Value}
    {f_slot : Addr} {od_slot an_slot : Option Addr} {sl_slot : Array (Option Value)} {oc_slot kV_slot dc_slot pm_slot cd_slot ct_slot : Value}
    {f_used_slots : Addr} {od_used_slots an_used_slots : Option Addr} {sl_used_slots : Array (Option Value)} {oc_used_slots kV_used_slots dc_used_slots pm_used_slots cd_used_slots ct_used_slots : Value}
    {f_slot_of : Addr} {od_slot_of an_slot_of : Option Addr} {sl_slot_of : Array (Option Value)} {oc_slot_of kV_slot_of dc_slot_of pm_slot_of cd_slot_of ct_slot_of : Value}
    {f_slots_naming : Addr} {od_slots_naming an_slots_naming : Option Addr} {sl_slots_naming : Array (Option Value)} {oc_slots_naming kV_slots_naming dc_slots_naming pm_slots_naming cd_slots_naming ct_slots_naming : Value}
    {f_names_in : Addr} {od_names_in an_names_in : Option Addr} {sl_names_in : Array (Option Value)} {oc_names_in kV_names_in dc_names_in pm_names_in cd_names_in ct_names_in : Value}
    {f_free_slot : Addr} {od_free_slot an_free_slot : Option Addr} {sl_free_slot : Array (Option Value)} {oc_free_slot kV_free_slot dc_free_slot pm_free_slot cd_free_slot ct_free_slot : Value}
    {f_Layout_init : Addr} {od_Layout_init an_Layout_init : Option Addr} {sl_Layout_init : Array (Option Value)} {oc_Layout_init kV_Layout_init dc_Layout_init pm_Layout_init cd_Layout_init ct_Layout_init : Value}
    {f_Layout_record_at : Addr} {od_Layout_record_at an_Layout_record_at : Option Addr} {sl_Layout_record_at : Array (Option Value)} {oc_Layout_record_at kV_Layout_record_at dc_Layout_record_at pm_Layout_record_at cd_Layout_record_at ct_Layout_record_at : Value}
    {f_Layout_names_at : Addr} {od_Layout_names_at an_Layout_names_at : Option Addr} {sl_Layout_names_at : Array (Option Value)} {oc_Layout_names_at kV_Layout_names_at dc_Layout_names_at pm_Layout_names_at cd_Layout_names_at ct_Layout_names_at : Value}
    {f_l_cell_at : Addr} {od_l_cell_at an_l_cell_at : Option Addr} {sl_l_cell_at : Array (Option Value)} {oc_l_cell_at kV_l_cell_at dc_l_cell_at pm_l_cell_at cd_l_cell_at ct_l_cell_at : Value}
    {f_l_link : Addr} {od_l_link an_l_link : Option Addr} {sl_l_link : Array (Option Value)} {oc_l_link kV_l_link dc_l_link pm_l_link cd_l_link ct_l_link : Value}
    {f_l_links : Addr} {od_l_links an_l_links : Option Addr} {sl_l_links : Array (Option Value)} {oc_l_links kV_l_links dc_l_links pm_l_links cd_l_links ct_l_links : Value}
    {f_l_crowned : Addr} {od_l_crowned an_l_crowned : Option Addr} {sl_l_crowned : Array (Option Value)} {oc_l_crowned kV_l_crowned dc_l_crowned pm_l_crowned cd_l_crowned ct_l_crowned : Value}
    {f_l_slots : Addr} {od_l_slots an_l_slots : Option Addr} {sl_l_slots : Array (Option Value)} {oc_l_slots kV_l_slots dc_l_slots pm_l_slots cd_l_slots ct_l_slots : Value}
    {f_l_volume : Addr} {od_l_volume an_l_volume : Option Addr} {sl_l_volume : Array (Option Value)} {oc_l_volume kV_l_volume dc_l_volume pm_l_volume cd_l_volume ct_l_volume : Value}
    {f_l_naming : Addr} {od_l_naming an_l_naming : Option Addr} {sl_l_naming : Array (Option Value)} {oc_l_naming kV_l_naming dc_l_naming pm_l_naming cd_l_naming ct_l_naming : Value}
    {f_l_within : Addr} {od_l_within an_l_within : Option Addr} {sl_l_within : Array (Option Value)} {oc_l_within kV_l_within dc_l_within pm_l_within cd_l_within ct_l_within : Value}
    {f_law : Addr} {od_law an_law : Option Addr} {sl_law : Array (Option Value)} {oc_law kV_law dc_law pm_law cd_law ct_law : Value}
    {t_EACH : Tok}
    {t_SLOT_WIDE : Tok}
    {t_USED : Tok}
    {t_RECORDS_AT : Tok}
    (aC_Layout : PySem.W.nsIn K mainGlobals "Layout" = some (some (.ref C_Layout)))
    (pg_Layout : PySem.W.plainGet K C_Layout Str.empty = true)
    (hd_Layout : PySem.W.hasDictIn K C_Layout = true)
    (po_Layout : PySem.W.plainOver K C_Layout = true)
    (sa_Layout : PySem.W.findIn K (.ref C_Layout) "__setattr__" = some (some (.builtin "object.__setattr__")))
    (n_Layout_files : PySem.W.findIn K (.ref C_Layout) "files" = some none)
    (n_Layout_slots : PySem.W.findIn K (.ref C_Layout) "slots" = some none)
    (n_Layout_data : PySem.W.findIn K (.ref C_Layout) "data" = some none)
    (aC_NoLayout : PySem.W.nsIn K mainGlobals "NoLayout" = some (some (.ref C_NoLayout)))
    (a_many_slots : PySem.W.nsIn K mainGlobals "many_slots" = some (some (.ref f_many_slots)))
    (l_many_slots : K.lookup f_many_slots = some ⟨oc_many_slots, od_many_slots, .func (PySem.W.fnOf "many_slots" "many_slots" (defArgs s_many_slots) (defBody s_many_slots) (defScope s_many_slots) .none kV_many_slots dc_many_slots pm_many_slots an_many_slots cd_many_slots ct_many_slots), sl_many_slots⟩)
    (c_many_slots : PySem.W.codeIn K cd_many_slots "many_slots" = true)
    (k_many_slots : PySem.W.keepIn K (.ref f_many_slots) = true)
    (a_slot_at : PySem.W.nsIn K mainGlobals "slot_at" = some (some (.ref f_slot_at)))
    (l_slot_at : K.lookup f_slot_at = some ⟨oc_slot_at, od_slot_at, .func (PySem.W.fnOf "slot_at" "slot_at" (defArgs s_slot_at) (defBody s_slot_at) (defScope s_slot_at) .none kV_slot_at dc_slot_at pm_slot_at an_slot_at cd_slot_at ct_slot_at), sl_slot_at⟩)
    (c_slot_at : PySem.W.codeIn K cd_slot_at "slot_at" = true)
    (k_slot_at : PySem.W.keepIn K (.ref f_slot_at) = true)
    (a_slot : PySem.W.nsIn K mainGlobals "slot" = some (some (.ref f_slot)))
    (l_slot : K.lookup f_slot = some ⟨oc_slot, od_slot, .func (PySem.W.fnOf "slot" "slot" (defArgs s_slot) (defBody s_slot) (defScope s_slot) .none kV_slot dc_slot pm_slot an_slot cd_slot ct_slot), sl_slot⟩)
    (c_slot : PySem.W.codeIn K cd_slot "slot" = true)
    (k_slot : PySem.W.keepIn K (.ref f_slot) = true)
    (a_used_slots : PySem.W.nsIn K mainGlobals "used_slots" = some (some (.ref f_used_slots)))
    (l_used_slots : K.lookup f_used_slots = some ⟨oc_used_slots, od_used_slots, .func (PySem.W.fnOf "used_slots" "used_slots" (defArgs s_used_slots) (defBody s_used_slots) (defScope s_used_slots) .none kV_used_slots dc_used_slots pm_used_slots an_used_slots cd_used_slots ct_used_slots), sl_used_slots⟩)
    (c_used_slots : PySem.W.codeIn K cd_used_slots "used_slots" = true)
    (k_used_slots : PySem.W.keepIn K (.ref f_used_slots) = true)
    (a_slot_of : PySem.W.nsIn K mainGlobals "slot_of" = some (some (.ref f_slot_of)))
    (l_slot_of : K.lookup f_slot_of = some ⟨oc_slot_of, od_slot_of, .func (PySem.W.fnOf "slot_of" "slot_of" (defArgs s_slot_of) (defBody s_slot_of) (defScope s_slot_of) .none kV_slot_of dc_slot_of pm_slot_of an_slot_of cd_slot_of ct_slot_of), sl_slot_of⟩)
    (c_slot_of : PySem.W.codeIn K cd_slot_of "slot_of" = true)
    (k_slot_of : PySem.W.keepIn K (.ref f_slot_of) = true)
    (a_slots_naming : PySem.W.nsIn K mainGlobals "slots_naming" = some (some (.ref f_slots_naming)))
    (l_slots_naming : K.lookup f_slots_naming = some ⟨oc_slots_naming, od_slots_naming, .func (PySem.W.fnOf "slots_naming" "slots_naming" (defArgs s_slots_naming) (defBody s_slots_naming) (defScope s_slots_naming) .none kV_slots_naming dc_slots_naming pm_slots_naming an_slots_naming cd_slots_naming ct_slots_naming), sl_slots_naming⟩)
    (c_slots_naming : PySem.W.codeIn K cd_slots_naming "slots_naming" = true)
    (k_slots_naming : PySem.W.keepIn K (.ref f_slots_naming) = true)
    (a_names_in : PySem.W.nsIn K mainGlobals "names_in" = some (some (.ref f_names_in)))
    (l_names_in : K.lookup f_names_in = some ⟨oc_names_in, od_names_in, .func (PySem.W.fnOf "names_in" "names_in" (defArgs s_names_in) (defBody s_names_in) (defScope s_names_in) .none kV_names_in dc_names_in pm_names_in an_names_in cd_names_in ct_names_in), sl_names_in⟩)
    (c_names_in : PySem.W.codeIn K cd_names_in "names_in" = true)
    (k_names_in : PySem.W.keepIn K (.ref f_names_in) = true)
    (a_free_slot : PySem.W.nsIn K mainGlobals "free_slot" = some (some (.ref f_free_slot)))
    (l_free_slot : K.lookup f_free_slot = some ⟨oc_free_slot, od_free_slot, .func (PySem.W.fnOf "free_slot" "free_slot" (defArgs s_free_slot) (defBody s_free_slot) (defScope s_free_slot) .none kV_free_slot dc_free_slot pm_free_slot an_free_slot cd_free_slot ct_free_slot), sl_free_slot⟩)
    (c_free_slot : PySem.W.codeIn K cd_free_slot "free_slot" = true)
    (k_free_slot : PySem.W.keepIn K (.ref f_free_slot) = true)
    (a_Layout_init : PySem.W.findIn K (.ref C_Layout) "__init__" = some (some (.ref f_Layout_init)))
    (i_Layout_init : PySem.W.isFn K (.ref f_Layout_init) = true)
    (l_Layout_init : K.lookup f_Layout_init = some ⟨oc_Layout_init, od_Layout_init, .func (PySem.W.fnOf "__init__" "Layout.__init__" (defArgs s_Layout_init) (defBody s_Layout_init) (defScope s_Layout_init) .none kV_Layout_init dc_Layout_init pm_Layout_init an_Layout_init cd_Layout_init ct_Layout_init), sl_Layout_init⟩)
    (c_Layout_init : PySem.W.codeIn K cd_Layout_init "Layout.__init__" = true)
    (k_Layout_init : PySem.W.keepIn K (.ref f_Layout_init) = true)
    (mk_Layout : PySem.W.makesIn K C_Layout = true)
    (kc_Layout : PySem.W.keepIn K (.ref C_Layout) = true)
    (a_Layout_record_at : PySem.W.findIn K (.ref C_Layout) "record_at" = some (some (.ref f_Layout_record_at)))
    (i_Layout_record_at : PySem.W.isFn K (.ref f_Layout_record_at) = true)
    (l_Layout_record_at : K.lookup f_Layout_record_at = some ⟨oc_Layout_record_at, od_Layout_record_at, .func (PySem.W.fnOf "record_at" "Layout.record_at" (defArgs s_Layout_record_at) (defBody s_Layout_record_at) (defScope s_Layout_record_at) .none kV_Layout_record_at dc_Layout_record_at pm_Layout_record_at an_Layout_record_at cd_Layout_record_at ct_Layout_record_at), sl_Layout_record_at⟩)
    (c_Layout_record_at : PySem.W.codeIn K cd_Layout_record_at "Layout.record_at" = true)
    (k_Layout_record_at : PySem.W.keepIn K (.ref f_Layout_record_at) = true)
    (a_Layout_names_at : PySem.W.findIn K (.ref C_Layout) "names_at" = some (some (.ref f_Layout_names_at)))
    (i_Layout_names_at : PySem.W.isFn K (.ref f_Layout_names_at) = true)
    (l_Layout_names_at : K.lookup f_Layout_names_at = some ⟨oc_Layout_names_at, od_Layout_names_at, .func (PySem.W.fnOf "names_at" "Layout.names_at" (defArgs s_Layout_names_at) (defBody s_Layout_names_at) (defScope s_Layout_names_at) .none kV_Layout_names_at dc_Layout_names_at pm_Layout_names_at an_Layout_names_at cd_Layout_names_at ct_Layout_names_at), sl_Layout_names_at⟩)
    (c_Layout_names_at : PySem.W.codeIn K cd_Layout_names_at "Layout.names_at" = true)
    (k_Layout_names_at : PySem.W.keepIn K (.ref f_Layout_names_at) = true)
    (a_l_cell_at : PySem.W.nsIn K mainGlobals "_law_cell_at" = some (some (.ref f_l_cell_at)))
    (l_l_cell_at : K.lookup f_l_cell_at = some ⟨oc_l_cell_at, od_l_cell_at, .func (PySem.W.fnOf "_law_cell_at" "_law_cell_at" (defArgs s_l_cell_at) (defBody s_l_cell_at) (defScope s_l_cell_at) .none kV_l_cell_at dc_l_cell_at pm_l_cell_at an_l_cell_at cd_l_cell_at ct_l_cell_at), sl_l_cell_at⟩)
    (c_l_cell_at : PySem.W.codeIn K cd_l_cell_at "_law_cell_at" = true)
    (k_l_cell_at : PySem.W.keepIn K (.ref f_l_cell_at) = true)
    (a_l_link : PySem.W.nsIn K mainGlobals "_law_link" = some (some (.ref f_l_link)))
    (l_l_link : K.lookup f_l_link = some ⟨oc_l_link, od_l_link, .func (PySem.W.fnOf "_law_link" "_law_link" (defArgs s_l_link) (defBody s_l_link) (defScope s_l_link) .none kV_l_link dc_l_link pm_l_link an_l_link cd_l_link ct_l_link), sl_l_link⟩)
    (c_l_link : PySem.W.codeIn K cd_l_link "_law_link" = true)
    (k_l_link : PySem.W.keepIn K (.ref f_l_link) = true)
    (a_l_links : PySem.W.nsIn K mainGlobals "_law_links" = some (some (.ref f_l_links)))
    (l_l_links : K.lookup f_l_links = some ⟨oc_l_links, od_l_links, .func (PySem.W.fnOf "_law_links" "_law_links" (defArgs s_l_links) (defBody s_l_links) (defScope s_l_links) .none kV_l_links dc_l_links pm_l_links an_l_links cd_l_links ct_l_links), sl_l_links⟩)
    (c_l_links : PySem.W.codeIn K cd_l_links "_law_links" = true)
    (k_l_links : PySem.W.keepIn K (.ref f_l_links) = true)
    (a_l_crowned : PySem.W.nsIn K mainGlobals "_law_crowned" = some (some (.ref f_l_crowned)))
    (l_l_crowned : K.lookup f_l_crowned = some ⟨oc_l_crowned, od_l_crowned, .func (PySem.W.fnOf "_law_crowned" "_law_crowned" (defArgs s_l_crowned) (defBody s_l_crowned) (defScope s_l_crowned) .none kV_l_crowned dc_l_crowned pm_l_crowned an_l_crowned cd_l_crowned ct_l_crowned), sl_l_crowned⟩)
    (c_l_crowned : PySem.W.codeIn K cd_l_crowned "_law_crowned" = true)
    (k_l_crowned : PySem.W.keepIn K (.ref f_l_crowned) = true)
    (a_l_slots : PySem.W.nsIn K mainGlobals "_law_slots" = some (some (.ref f_l_slots)))
    (l_l_slots : K.lookup f_l_slots = some ⟨oc_l_slots, od_l_slots, .func (PySem.W.fnOf "_law_slots" "_law_slots" (defArgs s_l_slots) (defBody s_l_slots) (defScope s_l_slots) .none kV_l_slots dc_l_slots pm_l_slots an_l_slots cd_l_slots ct_l_slots), sl_l_slots⟩)
    (c_l_slots : PySem.W.codeIn K cd_l_slots "_law_slots" = true)
    (k_l_slots : PySem.W.keepIn K (.ref f_l_slots) = true)
    (a_l_volume : PySem.W.nsIn K mainGlobals "_law_volume" = some (some (.ref f_l_volume)))
    (l_l_volume : K.lookup f_l_volume = some ⟨oc_l_volume, od_l_volume, .func (PySem.W.fnOf "_law_volume" "_law_volume" (defArgs s_l_volume) (defBody s_l_volume) (defScope s_l_volume) .none kV_l_volume dc_l_volume pm_l_volume an_l_volume cd_l_volume ct_l_volume), sl_l_volume⟩)
    (c_l_volume : PySem.W.codeIn K cd_l_volume "_law_volume" = true)
    (k_l_volume : PySem.W.keepIn K (.ref f_l_volume) = true)
    (a_l_naming : PySem.W.nsIn K mainGlobals "_law_naming" = some (some (.ref f_l_naming)))
    (l_l_naming : K.lookup f_l_naming = some ⟨oc_l_naming, od_l_naming, .func (PySem.W.fnOf "_law_naming" "_law_naming" (defArgs s_l_naming) (defBody s_l_naming) (defScope s_l_naming) .none kV_l_naming dc_l_naming pm_l_naming an_l_naming cd_l_naming ct_l_naming), sl_l_naming⟩)
    (c_l_naming : PySem.W.codeIn K cd_l_naming "_law_naming" = true)
    (k_l_naming : PySem.W.keepIn K (.ref f_l_naming) = true)
    (a_l_within : PySem.W.nsIn K mainGlobals "_law_within" = some (some (.ref f_l_within)))
    (l_l_within : K.lookup f_l_within = some ⟨oc_l_within, od_l_within, .func (PySem.W.fnOf "_law_within" "_law_within" (defArgs s_l_within) (defBody s_l_within) (defScope s_l_within) .none kV_l_within dc_l_within pm_l_within an_l_within cd_l_within ct_l_within), sl_l_within⟩)
    (c_l_within : PySem.W.codeIn K cd_l_within "_law_within" = true)
    (k_l_within : PySem.W.keepIn K (.ref f_l_within) = true)
    (a_law : PySem.W.nsIn K mainGlobals "law" = some (some (.ref f_law)))
    (l_law : K.lookup f_law = some ⟨oc_law, od_law, .func (PySem.W.fnOf "law" "law" (defArgs s_law) (defBody s_law) (defScope s_law) .none kV_law dc_law pm_law an_law cd_law ct_law), sl_law⟩)
    (c_law : PySem.W.codeIn K cd_law "law" = true)
    (k_law : PySem.W.keepIn K (.ref f_law) = true)
    (a_EACH : PySem.W.nsIn K mainGlobals "EACH" = some (some (.int 2 t_EACH)))
    (a_SLOT_WIDE : PySem.W.nsIn K mainGlobals "SLOT_WIDE" = some (some (.int 4 t_SLOT_WIDE)))
    (a_USED : PySem.W.nsIn K mainGlobals "USED" = some (some (.int 1 t_USED)))
    (a_RECORDS_AT : PySem.W.nsIn K mainGlobals "RECORDS_AT" = some (some (.int 10 t_RECORDS_AT)))
    (ex_NoLayout : PySem.W.excIn K C_NoLayout [.type "ValueError", .type "Exception", .type "BaseException", .type "object"] "ValueError.__new__" = true)
    (z_len : PySem.W.nsIn K mainGlobals "len" = some none)
    (z_range : PySem.W.nsIn K mainGlobals "range" = some none)
    (z_isinstance : PySem.W.nsIn K mainGlobals "isinstance" = some none)
    (z_list : PySem.W.nsIn K mainGlobals "list" = some none)
    (z_tuple : PySem.W.nsIn K mainGlobals "tuple" = some none)
    (z_int : PySem.W.nsIn K mainGlobals "int" = some none)
    (z_sum : PySem.W.nsIn K mainGlobals "sum" = some none)
    (z_min : PySem.W.nsIn K mainGlobals "min" = some none)
    (z_sorted : PySem.W.nsIn K mainGlobals "sorted" = some none)
    : ∃ fd : FuncData, (∀ (s : Shared) (v : Value), BindsTo s fd ⟨[v], []⟩ [("_law_script", v)]) ∧ ∀ base : Heap, K.In base → base.Ns mainGlobals mg → FnOk l.prog w K mg base CX0 12 fa fd ["_law_script"] (spLaw K) := by
  have e : f_law = fa := by
    have z := (PySem.W.mg_of X G a_law).symm.trans hfa
    injection z with z
    injection z
  subst e
  let T : Tx K mg := {
    C_Layout := C_Layout,
    cl_Layout := ⟨pg_Layout, hd_Layout, po_Layout, sa_Layout⟩,
    g_Layout := PySem.W.mg_of X G aC_Layout,
    n_Layout_files := n_Layout_files,
    n_Layout_slots := n_Layout_slots,
    n_Layout_data := n_Layout_data,
    C_NoLayout := C_NoLayout,
    g_NoLayout := PySem.W.mg_of X G aC_NoLayout,
    f_many_slots := f_many_slots,
    fd_many_slots := PySem.W.fnOf "many_slots" "many_slots" (defArgs s_many_slots) (defBody s_many_slots) (defScope s_many_slots) .none kV_many_slots dc_many_slots pm_many_slots an_many_slots cd_many_slots ct_many_slots,
    F_many_slots := fun_mk (st := s_many_slots) l_many_slots c_many_slots k_many_slots,
    b_many_slots := (fun_mk (st := s_many_slots) l_many_slots c_many_slots k_many_slots).binds (ps := ["layout"]) fun _ _ _ _ _ _ us hl => match us, hl with | [_], _ => rfl,
    g_many_slots := PySem.W.mg_of X G a_many_slots,
    f_slot_at := f_slot_at,
    fd_slot_at := PySem.W.fnOf "slot_at" "slot_at" (defArgs s_slot_at) (defBody s_slot_at) (defScope s_slot_at) .none kV_slot_at dc_slot_at pm_slot_at an_slot_at cd_slot_at ct_slot_at,
    F_slot_at := fun_mk (st := s_slot_at) l_slot_at c_slot_at k_slot_at,
    b_slot_at := (fun_mk (st := s_slot_at) l_slot_at c_slot_at k_slot_at).binds (ps := ["layout", "s"]) fun _ _ _ _ _ _ us hl => match us, hl with | [_, _], _ => rfl,
    g_slot_at := PySem.W.mg_of X G a_slot_at,
    f_slot := f_slot,
    fd_slot := PySem.W.fnOf "slot" "slot" (defArgs s_slot) (defBody s_slot) (defScope s_slot) .none kV_slot dc_slot pm_slot an_slot cd_slot ct_slot,
    F_slot := fun_mk (st := s_slot) l_slot c_slot k_slot,
    b_slot := (fun_mk (st := s_slot) l_slot c_slot k_slot).binds (ps := ["layout", "volume", "s"]) fun _ _ _ _ _ _ us hl => match us, hl with | [_, _, _], _ => rfl,
    g_slot := PySem.W.mg_of X G a_slot,
    f_used_slots := f_used_slots,
    fd_used_slots := PySem.W.fnOf "used_slots" "used_slots" (defArgs s_used_slots) (defBody s_used_slots) (defScope s_used_slots) .none kV_used_slots dc_used_slots pm_used_slots an_used_slots cd_used_slots ct_used_slots,
    F_used_slots := fun_mk (st := s_used_slots) l_used_slots c_used_slots k_used_slots,
    b_used_slots := (fun_mk (st := s_used_slots) l_used_slots c_used_slots k_used_slots).binds (ps := ["layout", "volume"]) fun _ _ _ _ _ _ us hl => match us, hl with | [_, _], _ => rfl,
    g_used_slots := PySem.W.mg_of X G a_used_slots,
    f_slot_of := f_slot_of,
    fd_slot_of := PySem.W.fnOf "slot_of" "slot_of" (defArgs s_slot_of) (defBody s_slot_of) (defScope s_slot_of) .none kV_slot_of dc_slot_of pm_slot_of an_slot_of cd_slot_of ct_slot_of,
    F_slot_of := fun_mk (st := s_slot_of) l_slot_of c_slot_of k_slot_of,
    b_slot_of := (fun_mk (st := s_slot_of) l_slot_of c_slot_of k_slot_of).binds (ps := ["layout", "volume", "folder", "name"]) fun _ _ _ _ _ _ us hl => match us, hl with | [_, _, _, _], _ => rfl,
    g_slot_of := PySem.W.mg_of X G a_slot_of,
    f_slots_naming := f_slots_naming,
    fd_slots_naming := PySem.W.fnOf "slots_naming" "slots_naming" (defArgs s_slots_naming) (defBody s_slots_naming) (defScope s_slots_naming) .none kV_slots_naming dc_slots_naming pm_slots_naming an_slots_naming cd_slots_naming ct_slots_naming,
    F_slots_naming := fun_mk (st := s_slots_naming) l_slots_naming c_slots_naming k_slots_naming,
    b_slots_naming := (fun_mk (st := s_slots_naming) l_slots_naming c_slots_naming k_slots_naming).binds (ps := ["layout", "volume", "file"]) fun _ _ _ _ _ _ us hl => match us, hl with | [_, _, _], _ => rfl,
    g_slots_naming := PySem.W.mg_of X G a_slots_naming,
    f_names_in := f_names_in,
    fd_names_in := PySem.W.fnOf "names_in" "names_in" (defArgs s_names_in) (defBody s_names_in) (defScope s_names_in) .none kV_names_in dc_names_in pm_names_in an_names_in cd_names_in ct_names_in,
    F_names_in := fun_mk (st := s_names_in) l_names_in c_names_in k_names_in,
    b_names_in := (fun_mk (st := s_names_in) l_names_in c_names_in k_names_in).binds (ps := ["layout", "volume", "folder"]) fun _ _ _ _ _ _ us hl => match us, hl with | [_, _, _], _ => rfl,
    g_names_in := PySem.W.mg_of X G a_names_in,
    f_free_slot := f_free_slot,
    fd_free_slot := PySem.W.fnOf "free_slot" "free_slot" (defArgs s_free_slot) (defBody s_free_slot) (defScope s_free_slot) .none kV_free_slot dc_free_slot pm_free_slot an_free_slot cd_free_slot ct_free_slot,
    F_free_slot := fun_mk (st := s_free_slot) l_free_slot c_free_slot k_free_slot,
    b_free_slot := (fun_mk (st := s_free_slot) l_free_slot c_free_slot k_free_slot).binds (ps := ["layout", "volume"]) fun _ _ _ _ _ _ us hl => match us, hl with | [_, _], _ => rfl,
    g_free_slot := PySem.W.mg_of X G a_free_slot,
    f_Layout_init := f_Layout_init,
    fd_Layout_init := PySem.W.fnOf "__init__" "Layout.__init__" (defArgs s_Layout_init) (defBody s_Layout_init) (defScope s_Layout_init) .none kV_Layout_init dc_Layout_init pm_Layout_init an_Layout_init cd_Layout_init ct_Layout_init,
    F_Layout_init := fun_mk (st := s_Layout_init) l_Layout_init c_Layout_init k_Layout_init,
    b_Layout_init := (fun_mk (st := s_Layout_init) l_Layout_init c_Layout_init k_Layout_init).binds (ps := ["self", "files", "slots", "data"]) fun _ _ _ _ _ _ us hl => match us, hl with | [_, _, _, _], _ => rfl,
    mk_Layout := ⟨mk_Layout, a_Layout_init, i_Layout_init, kc_Layout⟩,
    f_Layout_record_at := f_Layout_record_at,
    fd_Layout_record_at := PySem.W.fnOf "record_at" "Layout.record_at" (defArgs s_Layout_record_at) (defBody s_Layout_record_at) (defScope s_Layout_record_at) .none kV_Layout_record_at dc_Layout_record_at pm_Layout_record_at an_Layout_record_at cd_Layout_record_at ct_Layout_record_at,
    F_Layout_record_at := fun_mk (st := s_Layout_record_at) l_Layout_record_at c_Layout_record_at k_Layout_record_at,
    b_Layout_record_at := (fun_mk (st := s_Layout_record_at) l_Layout_record_at c_Layout_record_at k_Layout_record_at).binds (ps := ["self", "f"]) fun _ _ _ _ _ _ us hl => match us, hl with | [_, _], _ => rfl,
    m_Layout_record_at := ⟨a_Layout_record_at, i_Layout_record_at, k_Layout_record_at⟩,
    f_Layout_names_at := f_Layout_names_at,
    fd_Layout_names_at := PySem.W.fnOf "names_at" "Layout.names_at" (defArgs s_Layout_names_at) (defBody s_Layout_names_at) (defScope s_Layout_names_at) .none kV_Layout_names_at dc_Layout_names_at pm_Layout_names_at an_Layout_names_at cd_Layout_names_at ct_Layout_names_at,
    F_Layout_names_at := fun_mk (st := s_Layout_names_at) l_Layout_names_at c_Layout_names_at k_Layout_names_at,
    b_Layout_names_at := (fun_mk (st := s_Layout_names_at) l_Layout_names_at c_Layout_names_at k_Layout_names_at).binds (ps := ["self", "e"]) fun _ _ _ _ _ _ us hl => match us, hl with | [_, _], _ => rfl,
    m_Layout_names_at := ⟨a_Layout_names_at, i_Layout_names_at, k_Layout_names_at⟩,
    f_l_cell_at := f_l_cell_at,
    fd_l_cell_at := PySem.W.fnOf "_law_cell_at" "_law_cell_at" (defArgs s_l_cell_at) (defBody s_l_cell_at) (defScope s_l_cell_at) .none kV_l_cell_at dc_l_cell_at pm_l_cell_at an_l_cell_at cd_l_cell_at ct_l_cell_at,
    F_l_cell_at := fun_mk (st := s_l_cell_at) l_l_cell_at c_l_cell_at k_l_cell_at,
    b_l_cell_at := (fun_mk (st := s_l_cell_at) l_l_cell_at c_l_cell_at k_l_cell_at).binds (ps := ["_law_script", "_law_k"]) fun _ _ _ _ _ _ us hl => match us, hl with | [_, _], _ => rfl,
    g_l_cell_at := PySem.W.mg_of X G a_l_cell_at,
    f_l_link := f_l_link,
    fd_l_link := PySem.W.fnOf "_law_link" "_law_link" (defArgs s_l_link) (defBody s_l_link) (defScope s_l_link) .none kV_l_link dc_l_link pm_l_link an_l_link cd_l_link ct_l_link,
    F_l_link := fun_mk (st := s_l_link) l_l_link c_l_link k_l_link,
    b_l_link := (fun_mk (st := s_l_link) l_l_link c_l_link k_l_link).binds (ps := ["_law_links_here", "_law_placed", "_law_cell", "_law_f"]) fun _ _ _ _ _ _ us hl => match us, hl with | [_, _, _, _], _ => rfl,
    g_l_link := PySem.W.mg_of X G a_l_link,
    f_l_links := f_l_links,
    fd_l_links := PySem.W.fnOf "_law_links" "_law_links" (defArgs s_l_links) (defBody s_l_links) (defScope s_l_links) .none kV_l_links dc_l_links pm_l_links an_l_links cd_l_links ct_l_links,
    F_l_links := fun_mk (st := s_l_links) l_l_links c_l_links k_l_links,
    b_l_links := (fun_mk (st := s_l_links) l_l_links c_l_links k_l_links).binds (ps := ["_law_script", "_law_files"]) fun _ _ _ _ _ _ us hl => match us, hl with | [_, _], _ => rfl,
    g_l_links := PySem.W.mg_of X G a_l_links,
    f_l_crowned := f_l_crowned,
    fd_l_crowned := PySem.W.fnOf "_law_crowned" "_law_crowned" (defArgs s_l_crowned) (defBody s_l_crowned) (defScope s_l_crowned) .none kV_l_crowned dc_l_crowned pm_l_crowned an_l_crowned cd_l_crowned ct_l_crowned,
    F_l_crowned := fun_mk (st := s_l_crowned) l_l_crowned c_l_crowned k_l_crowned,
    b_l_crowned := (fun_mk (st := s_l_crowned) l_l_crowned c_l_crowned k_l_crowned).binds (ps := ["_law_volume_here", "_law_files", "_law_slots_here", "_law_label"]) fun _ _ _ _ _ _ us hl => match us, hl with | [_, _, _, _], _ => rfl,
    g_l_crowned := PySem.W.mg_of X G a_l_crowned,
    f_l_slots := f_l_slots,
    fd_l_slots := PySem.W.fnOf "_law_slots" "_law_slots" (defArgs s_l_slots) (defBody s_l_slots) (defScope s_l_slots) .none kV_l_slots dc_l_slots pm_l_slots an_l_slots cd_l_slots ct_l_slots,
    F_l_slots := fun_mk (st := s_l_slots) l_l_slots c_l_slots k_l_slots,
    b_l_slots := (fun_mk (st := s_l_slots) l_l_slots c_l_slots k_l_slots).binds (ps := ["_law_script", "_law_links_here", "_law_slots_here"]) fun _ _ _ _ _ _ us hl => match us, hl with | [_, _, _], _ => rfl,
    g_l_slots := PySem.W.mg_of X G a_l_slots,
    f_l_volume := f_l_volume,
    fd_l_volume := PySem.W.fnOf "_law_volume" "_law_volume" (defArgs s_l_volume) (defBody s_l_volume) (defScope s_l_volume) .none kV_l_volume dc_l_volume pm_l_volume an_l_volume cd_l_volume ct_l_volume,
    F_l_volume := fun_mk (st := s_l_volume) l_l_volume c_l_volume k_l_volume,
    b_l_volume := (fun_mk (st := s_l_volume) l_l_volume c_l_volume k_l_volume).binds (ps := ["_law_script", "_law_files", "_law_slots_here", "_law_told"]) fun _ _ _ _ _ _ us hl => match us, hl with | [_, _, _, _], _ => rfl,
    g_l_volume := PySem.W.mg_of X G a_l_volume,
    f_l_naming := f_l_naming,
    fd_l_naming := PySem.W.fnOf "_law_naming" "_law_naming" (defArgs s_l_naming) (defBody s_l_naming) (defScope s_l_naming) .none kV_l_naming dc_l_naming pm_l_naming an_l_naming cd_l_naming ct_l_naming,
    F_l_naming := fun_mk (st := s_l_naming) l_l_naming c_l_naming k_l_naming,
    b_l_naming := (fun_mk (st := s_l_naming) l_l_naming c_l_naming k_l_naming).binds (ps := ["_law_layout", "_law_volume_here", "_law_told", "_law_f"]) fun _ _ _ _ _ _ us hl => match us, hl with | [_, _, _, _], _ => rfl,
    g_l_naming := PySem.W.mg_of X G a_l_naming,
    f_l_within := f_l_within,
    fd_l_within := PySem.W.fnOf "_law_within" "_law_within" (defArgs s_l_within) (defBody s_l_within) (defScope s_l_within) .none kV_l_within dc_l_within pm_l_within an_l_within cd_l_within ct_l_within,
    F_l_within := fun_mk (st := s_l_within) l_l_within c_l_within k_l_within,
    b_l_within := (fun_mk (st := s_l_within) l_l_within c_l_within k_l_within).binds (ps := ["_law_layout", "_law_volume_here", "_law_told", "_law_folder"]) fun _ _ _ _ _ _ us hl => match us, hl with | [_, _, _, _], _ => rfl,
    g_l_within := PySem.W.mg_of X G a_l_within,
    f_law := f_law,
    fd_law := PySem.W.fnOf "law" "law" (defArgs s_law) (defBody s_law) (defScope s_law) .none kV_law dc_law pm_law an_law cd_law ct_law,
    F_law := fun_mk (st := s_law) l_law c_law k_law,
    b_law := (fun_mk (st := s_law) l_law c_law k_law).binds (ps := ["_law_script"]) fun _ _ _ _ _ _ us hl => match us, hl with | [_], _ => rfl,
    g_law := PySem.W.mg_of X G a_law,
    t_EACH := t_EACH,
    g_EACH := PySem.W.mg_of X G a_EACH,
    t_SLOT_WIDE := t_SLOT_WIDE,
    g_SLOT_WIDE := PySem.W.mg_of X G a_SLOT_WIDE,
    t_USED := t_USED,
    g_USED := PySem.W.mg_of X G a_USED,
    t_RECORDS_AT := t_RECORDS_AT,
    g_RECORDS_AT := PySem.W.mg_of X G a_RECORDS_AT,
    ex_NoLayout := ex_NoLayout,
    z_len := PySem.W.mg_none_of X G z_len,
    z_range := PySem.W.mg_none_of X G z_range,
    z_isinstance := PySem.W.mg_none_of X G z_isinstance,
    z_list := PySem.W.mg_none_of X G z_list,
    z_tuple := PySem.W.mg_none_of X G z_tuple,
    z_int := PySem.W.mg_none_of X G z_int,
    z_sum := PySem.W.mg_none_of X G z_sum,
    z_min := PySem.W.mg_none_of X G z_min,
    z_sorted := PySem.W.mg_none_of X G z_sorted }
  exact ⟨T.fd_law, fun s v => .of_eq rfl, fun base _ _ => ok_law T⟩
theorem walk {l : PySem.W.OpenLaw} {q : Program} {loose : List Str} {XP : (Str → Option Value) → Heap → Prop} {YP : World → Heap → Prop} {d : DefRec} {K : Params → PySem.W.Frag} (hn : l.most = some 63) (hdf : d.params.defaults = [])
    (hY : ∀ (w : World) (h : Heap), YP w h → (K w.params).In h)
    (F : ∀ (w : World) (mg : Str → Option Value) (fa : Addr) (h : Heap), (K w.params).In h → h.Ns mainGlobals mg → mg d.name = some (.ref fa) →
      ∃ fd : FuncData, (∀ (s : Shared) (u : Value), BindsTo s fd ⟨[u], []⟩ [("_law_script", u)]) ∧ ∀ base : Heap, (K w.params).In base → base.Ns mainGlobals mg → FnOk l.prog w (K w.params) mg base CX0 12 fa fd ["_law_script"] (spLaw (K w.params))) :
    PySem.W.WalkO q loose XP YP l.row.toRowW d [] (fun f vs => PySem.call f vs) :=
  L2.walk_of (n := 63) (k := 12) (x := "_law_script") (CX := fun _ => CX0) (sp := fun w => spLaw (K w.params)) hn (by decide) hdf ⟨rfl, by decide, by decide⟩ hY F (fun _ _ a ns hl _ hS => ⟨a, ns, rfl, hS, hl, fun _ => rfl⟩) fun _ _ _ _ _ z => z
end K32
theorem PySem.W.Fast.tw16197996082908787378 : True := trivial
theorem PySem.W.Fast.tw7592698344945120811 : True := trivial
theorem PySem.W.Fast.tw2480638753965490347 : True := trivial
theorem PySem.W.Fast.tw6699227276057410254 : True := trivial
theorem PySem.W.Fast.tw17050427146401580471 : True := trivial
theorem PySem.W.Fast.tw4438500843845108689 : True := trivial
theorem PySem.W.Fast.tw3147971230787978577 : True := trivial
theorem PySem.W.Fast.tw5157049334792515245 : True := trivial
theorem PySem.W.Fast.tw16096258160561480738 : True := trivial
theorem PySem.W.Fast.tw4340678040167353504 : True := trivial
theorem PySem.W.Fast.tw383086545725660921 : True := trivial
theorem PySem.W.Fast.tw16142372663236178378 : True := trivial
theorem PySem.W.Fast.tw6221340738017058882 : True := trivial
theorem PySem.W.Fast.tw11048428047527320096 : True := trivial
theorem PySem.W.Fast.tw2299296358634684752 : True := trivial
theorem PySem.W.Fast.tw14898696203213069029 : True := trivial
theorem PySem.W.Fast.tw4550997401786819189 : True := trivial
theorem PySem.W.Fast.tw5514774020309442153 : True := trivial
theorem PySem.W.Fast.tw11584172178017432382 : True := trivial
theorem PySem.W.Fast.tw1594762241547355768 : True := trivial
theorem PySem.W.Fast.tw14250254460501267422 : True := trivial
theorem PySem.W.Fast.tw2622055904368411959 : True := trivial
theorem PySem.W.Fast.tw16269209801172548465 : True := trivial
theorem PySem.W.Fast.tw1535737702078277118 : True := trivial
theorem PySem.W.Fast.tw13407695024949131124 : True := trivial
theorem PySem.W.Fast.tw9149227996142612629 : True := trivial
theorem PySem.W.Fast.tw3169736163598438484 : True := trivial
theorem PySem.W.Fast.tw15051849697128432163 : True := trivial
theorem PySem.W.Fast.tw6800366960851272995 : True := trivial
theorem PySem.W.Fast.tw1546953174886435080 : True := trivial
theorem PySem.W.Fast.tw5863290123964571757 : True := trivial
theorem PySem.W.Fast.tw10981981231828602916 : True := trivial
theorem PySem.W.Fast.tw2964635143838170575 : True := trivial
theorem PySem.W.Fast.tw486867382045502663 : True := trivial
theorem PySem.W.Fast.tw3317352448882934392 : True := trivial
theorem PySem.W.Fast.tw15133685480621255498 : True := trivial
theorem PySem.W.Fast.tw13390793716470226287 : True := trivial
theorem PySem.W.Fast.tw1507997147609118006 : True := trivial
theorem PySem.W.Fast.tw11945487661548526515 : True := trivial
theorem PySem.W.Fast.tw17393613608286470123 : True := trivial
theorem PySem.W.Fast.tw9464181426503795113 : True := trivial
theorem PySem.W.Fast.tw7565711167895730817 : True := trivial
theorem PySem.W.Fast.tw10260503510997972013 : True := trivial
theorem PySem.W.Fast.tw8265972649958473871 : True := trivial
theorem PySem.W.Fast.tw15685974135685532095 : True := trivial
theorem PySem.W.Fast.tw8411896540554911737 : True := trivial
theorem PySem.W.Fast.tw16764485701317780516 : True := trivial
theorem PySem.W.Fast.tw7993524616785413434 : True := trivial
theorem PySem.W.Fast.tw13315463409037673453 : True := trivial
theorem PySem.W.Fast.tw16125697633951182906 : True := trivial
theorem PySem.W.Fast.tw15528301595669802884 : True := trivial
theorem PySem.W.Fast.tw7422800835946354544 : True := trivial
theorem PySem.W.Fast.tw5737429304675037912 : True := trivial
theorem PySem.W.Fast.tw13645163521698181122 : True := trivial
theorem PySem.W.Fast.tw14201242915994548543 : True := trivial
theorem PySem.W.Fast.tw2964999095179951681 : True := trivial
theorem PySem.W.Fast.tw7525072867437825752 : True := trivial
theorem PySem.W.Fast.tw17996575820238514267 : True := trivial
theorem PySem.W.Fast.tw13592711342880100679 : True := trivial
theorem PySem.W.Fast.tw4381810577321988709 : True := trivial
theorem PySem.W.Fast.tw554529219918392917 : True := trivial
theorem PySem.W.Fast.tw15515335188075449036 : True := trivial
theorem PySem.W.Fast.tw674105315617955968 : True := trivial
theorem PySem.W.Fast.tw17814873273280418566 : True := trivial
theorem PySem.W.Fast.tw11233469763705009547 : True := trivial
theorem PySem.W.Fast.tw15976580311313073659 : True := trivial
theorem PySem.W.Fast.tw17900072079660378736 : True := trivial
theorem PySem.W.Fast.tw7390777341627739525 : True := trivial
theorem PySem.W.Fast.tw14902133634545286524 : True := trivial
theorem PySem.W.Fast.tw8545202280772650671 : True := trivial
theorem PySem.W.Fast.tw10199618167654667653 : True := trivial
theorem PySem.W.Fast.tw4107171457112048452 : True := trivial
theorem PySem.W.Fast.tw12602498092496029490 : True := trivial
theorem PySem.W.Fast.tw11134501196716085641 : True := trivial
theorem PySem.W.Fast.tw13043475131509844555 : True := trivial
theorem PySem.W.Fast.tw8255109086271148853 : True := trivial
theorem PySem.W.Fast.tw10752160492624523833 : True := trivial
theorem PySem.W.Fast.tw12619697913755251877 : True := trivial
theorem PySem.W.Fast.tw15166846729403462633 : True := trivial
theorem PySem.W.Fast.tw13639397238200204040 : True := trivial
theorem PySem.W.Fast.tw6643452138887033282 : True := trivial
theorem PySem.W.Fast.tw610352281920754665 : True := trivial
theorem PySem.W.Fast.tw5539328449956927495 : True := trivial
theorem PySem.W.Fast.tw14432919726141877487 : True := trivial
theorem PySem.W.Fast.tw17987357036951420012 : True := trivial
theorem PySem.W.Fast.tw18218632780436511896 : True := trivial
theorem PySem.W.Fast.tw7302769531372451068 : True := trivial
theorem PySem.W.Fast.tw13723464459722260622 : True := trivial
theorem PySem.W.Fast.tw9993305592875855025 : True := trivial
theorem PySem.W.Fast.tw3673884646807176195 : True := trivial
theorem PySem.W.Fast.tw17018196235481687576 : True := trivial
theorem PySem.W.Fast.tw8013461240380172028 : True := trivial
theorem PySem.W.Fast.tw4842874261855187857 : True := trivial
theorem PySem.W.Fast.tw7650253908237727022 : True := trivial
theorem PySem.W.Fast.tw3214838651154649135 : True := trivial
theorem PySem.W.Fast.tw12028521602241590397 : True := trivial
theorem PySem.W.Fast.tw5966151090535244480 : True := trivial
theorem PySem.W.Fast.tw3341306936949635881 : True := trivial
theorem PySem.W.Fast.tw12499042581155642671 : True := trivial
theorem PySem.W.Fast.tw7359339016067331421 : True := trivial
theorem PySem.W.Fast.tw15388560506490157414 : True := trivial
theorem PySem.W.Fast.tw1919907352911223398 : True := trivial
theorem PySem.W.Fast.tw533880326949990130 : True := trivial
theorem PySem.W.Fast.tw2548392359171399050 : True := trivial
theorem PySem.W.Fast.tw17948353793439162111 : True := trivial
theorem PySem.W.Fast.tw4646994801991432768 : True := trivial
theorem PySem.W.Fast.tw1742765852963127924 : True := trivial
theorem PySem.W.Fast.tw11841032972013400384 : True := trivial
theorem PySem.W.Fast.tw5463546986885792193 : True := trivial
theorem PySem.W.Fast.tw1945914225735640232 : True := trivial
theorem PySem.W.Fast.tw3147963734342079404 : True := trivial
theorem PySem.W.Fast.tw5672224638044248694 : True := trivial
theorem PySem.W.Fast.tw5160086655841513017 : True := trivial
theorem PySem.W.Fast.tw16748404311380323264 : True := trivial
theorem PySem.W.Fast.tw2044057370580672156 : True := trivial
theorem PySem.W.Fast.tw17421437372294986223 : True := trivial
theorem PySem.W.Fast.tw15827936725928975626 : True := trivial
theorem PySem.W.Fast.tw9411192062609948574 : True := trivial
theorem PySem.W.Fast.tw937784420951136914 : True := trivial
theorem PySem.W.Fast.tw17475356791631231432 : True := trivial
theorem PySem.W.Fast.tw11888689368230096059 : True := trivial
theorem PySem.W.Fast.tw16362559688319385692 : True := trivial
theorem PySem.W.Fast.tw17865462554259783062 : True := trivial
theorem PySem.W.Fast.tw4108629848453426623 : True := trivial
theorem PySem.W.Fast.tw4729208612964184221 : True := trivial
theorem PySem.W.Fast.tw6268413749983033554 : True := trivial
theorem PySem.W.Fast.tw1060661421522787295 : True := trivial
theorem PySem.W.Fast.tw14614664746812993363 : True := trivial
theorem PySem.W.Fast.tw18237430090109107185 : True := trivial
theorem PySem.W.Fast.tw3506034611209821125 : True := trivial
theorem PySem.W.Fast.tw9747249160887900768 : True := trivial
theorem PySem.W.Fast.tw14033415932397156150 : True := trivial
theorem PySem.W.Fast.tw14444497834075679905 : True := trivial
theorem PySem.W.Fast.tw11092487942469204383 : True := trivial
theorem PySem.W.Fast.tw10483006785148741975 : True := trivial
theorem PySem.W.Fast.tw3169667892386667079 : True := trivial
theorem PySem.W.Fast.tw6339683155662948835 : True := trivial
theorem PySem.W.Fast.tw4183072709378157729 : True := trivial
theorem PySem.W.Fast.tw8077329405638532140 : True := trivial
theorem PySem.W.Fast.tw1258014137638323651 : True := trivial
theorem PySem.W.Fast.tw16507697923726770159 : True := trivial
theorem PySem.W.Fast.tw10866773249747224097 : True := trivial
theorem PySem.W.Fast.tw250034143526487892 : True := trivial
theorem PySem.W.Fast.tw17879640520645305729 : True := trivial
theorem PySem.W.Fast.tw2620069152941283750 : True := trivial
theorem PySem.W.Fast.tw3635375762719475542 : True := trivial
theorem PySem.W.Fast.tw642140019096398496 : True := trivial
theorem PySem.W.Fast.tw6193073890777179892 : True := trivial
theorem PySem.W.Fast.tw2580023128271504904 : True := trivial
theorem PySem.W.Fast.tw7502982106461148124 : True := trivial
theorem PySem.W.Fast.tw4881100568456356506 : True := trivial
theorem PySem.W.Fast.tw8966092299525193048 : True := trivial
theorem PySem.W.Fast.tw2457923493866309556 : True := trivial
theorem PySem.W.Fast.tw4338314142186877479 : True := trivial
theorem PySem.W.Fast.tw10005087125383136572 : True := trivial
theorem PySem.W.Fast.tw12171525643367511895 : True := trivial
theorem PySem.W.Fast.tw10093476567450098666 : True := trivial
theorem PySem.W.Fast.tw6517287452117898691 : True := trivial
theorem PySem.W.Fast.tw14373645395823185778 : True := trivial
theorem PySem.W.Fast.tw18021985983710744655 : True := trivial
theorem PySem.W.Fast.tw16934069399420342776 : True := trivial
theorem PySem.W.Fast.tw3832203931465703134 : True := trivial
theorem PySem.W.Fast.tw11404211418696565951 : True := trivial
theorem PySem.W.Fast.tw15779489980814607480 : True := trivial
theorem PySem.W.Fast.tw1595612862083811023 : True := trivial
theorem PySem.W.Fast.tw7589185781759448432 : True := trivial
theorem PySem.W.Fast.tw10573673955423387515 : True := trivial
theorem PySem.W.Fast.tw15918358776661559127 : True := trivial
theorem PySem.W.Fast.tw7548652850086634461 : True := trivial
theorem PySem.W.Fast.tw2095662125499870148 : True := trivial
theorem PySem.W.Fast.tw16164271829192051218 : True := trivial
theorem PySem.W.Fast.tw11375114308287941554 : True := trivial
theorem PySem.W.Fast.tw14650139936909474252 : True := trivial
theorem PySem.W.Fast.tw10679573082699129704 : True := trivial
theorem PySem.W.Fast.tw2427505548585342249 : True := trivial
theorem PySem.W.Fast.tw15069536832404320235 : True := trivial
theorem PySem.W.Fast.tw15155902625458533852 : True := trivial
theorem PySem.W.Fast.tw12796934206528975524 : True := trivial
theorem PySem.W.Fast.tw5526829411029362030 : True := trivial
theorem PySem.W.Fast.tw9107941685470810051 : True := trivial
theorem PySem.W.Fast.tw3481246848902694441 : True := trivial
theorem PySem.W.Fast.tw4785079537040148220 : True := trivial
theorem PySem.W.Fast.tw10862562623524264404 : True := trivial
theorem PySem.W.Fast.tw15536974941332230345 : True := trivial
theorem PySem.W.Fast.tw18262969915916874837 : True := trivial
theorem PySem.W.Fast.tw13113842044351539845 : True := trivial
theorem PySem.W.Fast.tw15622245393835808107 : True := trivial
theorem PySem.W.Fast.tw8416421733519088083 : True := trivial
theorem PySem.W.Fast.tw12747939625721653618 : True := trivial
theorem PySem.W.Fast.tw2918446687391281396 : True := trivial
theorem PySem.W.Fast.tw5377767180174375270 : True := trivial
theorem PySem.W.Fast.tw4619190620513845838 : True := trivial
theorem PySem.W.Fast.tw7129245079170265967 : True := trivial
theorem PySem.W.Fast.tw5342837730648958248 : True := trivial
theorem PySem.W.Fast.tw12708199451306533259 : True := trivial
theorem PySem.W.Fast.tw12247290267730131285 : True := trivial
open PySem PySem.W PyProof.Rows
set_option maxRecDepth 100000 in
set_option maxHeartbeats 0 in
theorem PySem.Challenge.cw_volumemend_k32_names_told_holds : PySem.Challenge.rw_volumemend_k32_names_told.Holds := by
  w_on; o_law; k_head; (case hw => w_witness2)
  k_fill
  refine K32.walk (l := PySem.Challenge.rw_volumemend_k32_names_told) rfl rfl (fun w h Y => PySem.W.kIn_of Y) ?F
  case F =>
    intro w mg fa h KX G hmg
    refine' K32.all_mk KX G hmg ?aC_Layout ?pg_Layout ?hd_Layout ?po_Layout ?sa_Layout ?n_Layout_files ?n_Layout_slots ?n_Layout_data ?aC_NoLayout ?a_many_slots ?l_many_slots ?c_many_slots ?k_many_slots ?a_slot_at ?l_slot_at ?c_slot_at ?k_slot_at ?a_slot ?l_slot ?c_slot ?k_slot ?a_used_slots ?l_used_slots ?c_used_slots ?k_used_slots ?a_slot_of ?l_slot_of ?c_slot_of ?k_slot_of ?a_slots_naming ?l_slots_naming ?c_slots_naming ?k_slots_naming ?a_names_in ?l_names_in ?c_names_in ?k_names_in ?a_free_slot ?l_free_slot ?c_free_slot ?k_free_slot ?a_Layout_init ?i_Layout_init ?l_Layout_init ?c_Layout_init ?k_Layout_init ?mk_Layout ?kc_Layout ?a_Layout_record_at ?i_Layout_record_at ?l_Layout_record_at ?c_Layout_record_at ?k_Layout_record_at ?a_Layout_names_at ?i_Layout_names_at ?l_Layout_names_at ?c_Layout_names_at ?k_Layout_names_at ?a_l_cell_at ?l_l_cell_at ?c_l_cell_at ?k_l_cell_at ?a_l_link ?l_l_link ?c_l_link ?k_l_link ?a_l_links ?l_l_links ?c_l_links ?k_l_links ?a_l_crowned ?l_l_crowned ?c_l_crowned ?k_l_crowned ?a_l_slots ?l_l_slots ?c_l_slots ?k_l_slots ?a_l_volume ?l_l_volume ?c_l_volume ?k_l_volume ?a_l_naming ?l_l_naming ?c_l_naming ?k_l_naming ?a_l_within ?l_l_within ?c_l_within ?k_l_within ?a_law ?l_law ?c_law ?k_law ?a_EACH ?a_SLOT_WIDE ?a_USED ?a_RECORDS_AT ?ex_NoLayout ?z_len ?z_range ?z_isinstance ?z_list ?z_tuple ?z_int ?z_sum ?z_min ?z_sorted
    (case aC_Layout => k_is)
    (case pg_Layout => k_is)
    (case hd_Layout => k_is)
    (case po_Layout => k_is)
    (case sa_Layout => k_is)
    (case n_Layout_files => k_is)
    (case n_Layout_slots => k_is)
    (case n_Layout_data => k_is)
    (case aC_NoLayout => k_is)
    (case a_many_slots => k_is)
    (case l_many_slots => k_is)
    (case c_many_slots => k_is)
    (case k_many_slots => k_is)
    (case a_slot_at => k_is)
    (case l_slot_at => k_is)
    (case c_slot_at => k_is)
    (case k_slot_at => k_is)
    (case a_slot => k_is)
    (case l_slot => k_is)
    (case c_slot => k_is)
    (case k_slot => k_is)
    (case a_used_slots => k_is)
    (case l_used_slots => k_is)
    (case c_used_slots => k_is)
    (case k_used_slots => k_is)
    (case a_slot_of => k_is)
    (case l_slot_of => k_is)
    (case c_slot_of => k_is)
    (case k_slot_of => k_is)
    (case a_slots_naming => k_is)
    (case l_slots_naming => k_is)
    (case c_slots_naming => k_is)
    (case k_slots_naming => k_is)
    (case a_names_in => k_is)
    (case l_names_in => k_is)
    (case c_names_in => k_is)
    (case k_names_in => k_is)
    (case a_free_slot => k_is)
    (case l_free_slot => k_is)
    (case c_free_slot => k_is)
    (case k_free_slot => k_is)
    (case a_Layout_init => k_is)
    (case i_Layout_init => k_is)
    (case l_Layout_init => k_is)
    (case c_Layout_init => k_is)
    (case k_Layout_init => k_is)
    (case mk_Layout => k_is)
    (case kc_Layout => k_is)
    (case a_Layout_record_at => k_is)
    (case i_Layout_record_at => k_is)
    (case l_Layout_record_at => k_is)
    (case c_Layout_record_at => k_is)
    (case k_Layout_record_at => k_is)
    (case a_Layout_names_at => k_is)
    (case i_Layout_names_at => k_is)
    (case l_Layout_names_at => k_is)
    (case c_Layout_names_at => k_is)
    (case k_Layout_names_at => k_is)
    (case a_l_cell_at => k_is)
    (case l_l_cell_at => k_is)
    (case c_l_cell_at => k_is)
    (case k_l_cell_at => k_is)
    (case a_l_link => k_is)
    (case l_l_link => k_is)
    (case c_l_link => k_is)
    (case k_l_link => k_is)
    (case a_l_links => k_is)
    (case l_l_links => k_is)
    (case c_l_links => k_is)
    (case k_l_links => k_is)
    (case a_l_crowned => k_is)
    (case l_l_crowned => k_is)
    (case c_l_crowned => k_is)
    (case k_l_crowned => k_is)
    (case a_l_slots => k_is)
    (case l_l_slots => k_is)
    (case c_l_slots => k_is)
    (case k_l_slots => k_is)
    (case a_l_volume => k_is)
    (case l_l_volume => k_is)
    (case c_l_volume => k_is)
    (case k_l_volume => k_is)
    (case a_l_naming => k_is)
    (case l_l_naming => k_is)
    (case c_l_naming => k_is)
    (case k_l_naming => k_is)
    (case a_l_within => k_is)
    (case l_l_within => k_is)
    (case c_l_within => k_is)
    (case k_l_within => k_is)
    (case a_law => k_is)
    (case l_law => k_is)
    (case c_law => k_is)
    (case k_law => k_is)
    (case a_EACH => k_is)
    (case a_SLOT_WIDE => k_is)
    (case a_USED => k_is)
    (case a_RECORDS_AT => k_is)
    (case ex_NoLayout => k_exc)
    (case z_len => k_is)
    (case z_range => k_is)
    (case z_isinstance => k_is)
    (case z_list => k_is)
    (case z_tuple => k_is)
    (case z_int => k_is)
    (case z_sum => k_is)
    (case z_min => k_is)
    (case z_sorted => k_is)
