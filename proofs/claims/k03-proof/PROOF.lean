import PyProof.Rows.All
import Wide.All
import OpenK.AllK
import Wide.FinOn
import Lean
import PyProof.EqAt
import PyProof.EqKinds
import PyProof.TupleCall
import PyProof.EnumMake
import PyProof.EnumFor
import PyProof.StationsW
import PyProof.ExcClass
import PyProof.ExcInit
import PyProof.ExcClass2
import PyProof.DictItems
import KE.KPairComp
import PyProof.FactsDict
import PyProof.MeetsDictList
import PyProof.DictWalks
import KE.KDictList
import KE.KDictSum
import KE.KLam
import KE.KSortKey
import KE.KNestM
import PySem.Challenge.RW_volumemend_k03_maps
set_option Elab.async false
set_option linter.all false
set_option maxRecDepth 100000
/-! THE HAND LAYER, for ints, bools, texts, own classes, LISTS and tuples (index, slices, in, append, pop ..), calls, loops. Paste it whole ahead of your own text; what your proof does not reach may be deleted. -/
namespace L2
open PySem PySem.Spec PyProof.Rows

/-- a key: an int or a str -/
abbrev Key := Sum Int Str
def keyIs : Key → Value → Bool
  | .inl k, v => Value.isInt k v
  | .inr x, v => Value.isStrOf x v
def keyH (w : World) : Key → Int
  | .inl k => hashInt k
  | .inr x => hashStr w x
theorem keyIs_shape : ∀ {k : Key} {v : Value}, keyIs k v = true → (∃ i t, k = Sum.inl i ∧ v = Value.int i t) ∨ (∃ x t, k = Sum.inr x ∧ v = Value.str x t)
  | .inl i, v, h => by
    obtain ⟨t, e⟩ := Value.isInt_shape (k := i) (v := v) h
    exact .inl ⟨i, t, rfl, e⟩
  | .inr x, v, h => by
    obtain ⟨t, e⟩ := Value.isStrOf_shape (x := x) (v := v) h
    exact .inr ⟨x, t, rfl, e⟩
theorem key_ll (a b : Int) : decide ((Sum.inl a : Key) = Sum.inl b) = (a == b) := by
  by_cases e : a = b
  · subst e; simp
  · have h : ¬ (Sum.inl a : Key) = Sum.inl b := fun q => e (Sum.inl.inj q)
    rw [decide_eq_false h]
    exact (beq_eq_false_iff_ne.mpr e).symm
theorem key_rr (a b : Str) : decide ((Sum.inr a : Key) = Sum.inr b) = decide (a = b) := by
  by_cases e : a = b
  · subst e; simp
  · have h : ¬ (Sum.inr a : Key) = Sum.inr b := fun q => e (Sum.inr.inj q)
    rw [decide_eq_false h, decide_eq_false e]
theorem key_lr (a : Int) (b : Str) : decide ((Sum.inl a : Key) = Sum.inr b) = false := decide_eq_false (fun q => nomatch q)
theorem key_rl (a : Str) (b : Int) : decide ((Sum.inr a : Key) = Sum.inl b) = false := decide_eq_false (fun q => nomatch q)

def mixKind (prog : Program) (w : World) : PySem.KeyKind prog w Key where
  is := keyIs
  hash := keyH w
  inj := fun v a b ha hb => by
    rcases keyIs_shape ha with ⟨i, t, rfl, rfl⟩ | ⟨x, t, rfl, rfl⟩
    · rcases keyIs_shape hb with ⟨j, u, rfl, e⟩ | ⟨y, u, rfl, e⟩
      · injection e with e1 _; rw [e1]
      · exact nomatch e
    · rcases keyIs_shape hb with ⟨j, u, rfl, e⟩ | ⟨y, u, rfl, e⟩
      · exact nomatch e
      · injection e with e1 _; rw [e1]
  byValue := fun k v h => by
    rcases keyIs_shape h with ⟨i, t, rfl, rfl⟩ | ⟨x, t, rfl, rfl⟩ <;> rfl
  pyHash := fun hv h => by
    rcases keyIs_shape hv with ⟨i, t, rfl, rfl⟩ | ⟨x, t, rfl, rfl⟩
    · exact wpAny_pyHash_int h
    · exact wpAny_pyHash_str h
  eqBool := fun hu hv h => by
    rcases keyIs_shape hu with ⟨i, t, rfl, rfl⟩ | ⟨x, t, rfl, rfl⟩
    · rcases keyIs_shape hv with ⟨j, u, rfl, rfl⟩ | ⟨y, u, rfl, rfl⟩
      · rw [key_ll] at h; exact wpAny_eqBool_int h
      · rw [key_lr] at h; exact SeqAt.EqAt.int_str i t y u _ _ _ _ h
    · rcases keyIs_shape hv with ⟨j, u, rfl, rfl⟩ | ⟨y, u, rfl, rfl⟩
      · rw [key_rl] at h; exact SeqAt.EqAt.str_int x t j u _ _ _ _ h
      · rw [key_rr] at h; exact wpAny_eqBool_str h
  «strs» := fun k x t v h => by
    rcases keyIs_shape h with ⟨i, u, rfl, e⟩ | ⟨y, u, rfl, e⟩
    · exact nomatch e
    · injection e with e1 _
      subst e1
      cases v <;> rfl

end L2

namespace L2
open PySem PySem.Spec PyProof.Rows

/-- a value, without the heap -/
inductive V where
  | non | bl (b : Bool) | int (i : Int) | str (x : Str) | byt (b : Array UInt8) | flt (b : UInt64) | ref (a : Addr) | ty (n : String)
  deriving DecidableEq

def RelV : V → Value → Prop
  | .non, u => u = Value.none
  | .bl b, u => u = Value.bool b
  | .int i, u => ∃ t, u = Value.int i t
  | .str x, u => ∃ t, u = Value.str x t
  | .byt b, u => ∃ t, u = Value.bytes b t
  | .flt b, u => ∃ t, u = Value.float b t
  | .ref a, u => u = Value.ref a
  | .ty n, u => u = Value.type n

abbrev Vals : List V → List Value → Prop := Paired RelV
theorem Vals.length {xs : List V} {us : List Value} (r : Vals xs us) : xs.length = us.length := Paired.length r
theorem Vals.get : ∀ {xs : List V} {us : List Value} {i : Nat} {x : V}, Vals xs us → xs[i]? = some x → ∃ u, us[i]? = some u ∧ RelV x u
  | _, _, _, _, .nil, e => by simp at e
  | _, _, 0, _, .cons r _, e => by simp at e; subst e; exact ⟨_, rfl, r⟩
  | _, _, i + 1, x, .cons _ t, e => by
    obtain ⟨u, h1, h2⟩ := Vals.get (i := i) (x := x) t (by simpa using e)
    exact ⟨u, by simpa using h1, h2⟩
theorem Vals.set {x : V} {u : Value} (r : RelV x u) : ∀ {xs : List V} {us : List Value} (i : Nat), Vals xs us → Vals (xs.set i x) (us.set i u)
  | _, _, _, .nil => .nil
  | _, _, 0, .cons _ t => .cons r t
  | _, _, i + 1, .cons q t => .cons q (Vals.set r i t)
theorem Vals.append : ∀ {xs ys : List V} {us ws : List Value}, Vals xs us → Vals ys ws → Vals (xs ++ ys) (us ++ ws)
  | _, _, _, _, .nil, s => s
  | _, _, _, _, .cons r t, s => .cons r (Vals.append t s)
theorem Vals.take : ∀ {xs : List V} {us : List Value} (n : Nat), Vals xs us → Vals (xs.take n) (us.take n)
  | _, _, 0, _ => .nil
  | _, _, _ + 1, .nil => .nil
  | _, _, n + 1, .cons r t => .cons r (Vals.take n t)
theorem Vals.none_of : ∀ {xs : List V} {us : List Value} {i : Nat}, Vals xs us → xs[i]? = none → us[i]? = none := fun {xs us i} r e => by
  have h1 := r.length
  have h2 : xs.length ≤ i := List.getElem?_eq_none_iff.mp e
  exact List.getElem?_eq_none_iff.mpr (by omega)

def RelO : Option V → Option Value → Prop
  | some v, some u => RelV v u
  | none, none => True
  | _, _ => False
def KV {κ : Type} : List (κ × V) → List (κ × Value) → Prop := Paired fun (p : κ × V) (q : κ × Value) => p.1 = q.1 ∧ RelV p.2 q.2

/-- a key of a dict (00_mix): an int or a text -/
def kV : Key → V
  | .inl i => .int i
  | .inr x => .str x

/-- what stands at a tracked address -/
inductive HO where
  /-- a list -/
  | lst (xs : List V)
  /-- a tuple (never changes) -/
  | tup (xs : List V)
  /-- a dict whose keys are ints and texts; one whose keys are tuples of ints and texts (the empty one is both) -/
  | dK (kvs : List (Key × V)) | dT (kvs : List (List Key × V))
  /-- a set of ints: its members, its size -/
  | set (S : Int → Bool) (n : Nat)
  /-- an instance of the class at C, its dict at dx, its attributes -/
  | ins (C dx : Addr) (fs : List (Str × V))
  /-- the dict of the instance at x -/
  | own (x : Addr)
  /-- the dict of an exception -/
  | xd (fs : List (Str × V))
  /-- a bound method, f of x -/
  | met (f x : Addr)
  /-- a range object lo, lo + 1, .. below hi -/
  | rng (lo hi : Int)
  /-- a thing that is known to the object (the script; a dict while a loop walks it): read, never written while it is so -/
  | frz (o : Obj) (u : HO)
  /-- a code object's table -/
  | tbl (ps : Array Value)
  /-- any other thing, by what is true of its one object (a def of one's own: SetO a S n := HO.ext fun h => ..) -/
  | ext (φ : Heap → Prop)

abbrev Hp := Addr → Option HO
def upd (H : Hp) (a : Addr) (o : HO) : Hp := fun b => if b = a then some o else H b
theorem upd_same {H : Hp} {a : Addr} {o : HO} : upd H a o a = some o := by unfold upd; rw [if_pos rfl]
theorem upd_ne {H : Hp} {a b : Addr} {o : HO} (h : b ≠ a) : upd H a o b = H b := by unfold upd; rw [if_neg h]
theorem ne_of_none {H : Hp} {a b : Addr} {o : HO} (h : H a = some o) (h' : H b = none) : a ≠ b := by
  intro e; subst e; rw [h] at h'; cases h'

section
variable (P : Program) (w : World)
def ObjOk (H : Hp) (h : Heap) (a : Addr) : HO → Prop
  | .lst xs => xs.length ≤ sizeLine ∧ ∃ (its : List Value) (n : Nat), Vals xs its ∧ h.get? a = some { cls := .type "list", data := .seq its.toArray n }
  | .tup xs => xs.length ≤ sizeLine ∧ ∃ its : List Value, Vals xs its ∧ IsTup h a its.toArray
  | .dK kvs => kvs.length ≤ sizeLine ∧ (a == sysModules) = false ∧ ∃ vs, KV kvs vs ∧ h.DictOf (mixKind P w) a vs
  | .dT kvs => kvs.length ≤ sizeLine ∧ (a == sysModules) = false ∧ ∃ xs : List (List Key × Addr × Value),
      Paired (fun (p : List Key × V) (q : List Key × Addr × Value) => p.1 = q.1 ∧ H q.2.1 = some (.tup (p.1.map kV)) ∧ RelV p.2 q.2.2) kvs xs ∧
      ∃ o es ep, h.get? a = some o ∧ o.ExactDict ∧ o.data = .dict es ep ∧ es.toList = xs.map (entryOfKey (tupleKind (mixKind P w))) ∧ (xs.map (·.1)).Nodup
  | .set S n => h.SetOf (intKind P w) a S n
  | .ins C dx fs => H dx = some (.own a) ∧ fs.length ≤ 1000 ∧ dx ≠ a ∧ h.get? a = some (PySem.W.instObj C dx) ∧
      ∃ mA, h.Ns1 dx mA ∧ (∀ f, RelO (fs.lookup f) (mA f)) ∧ PySem.Within mA (fs.map (·.1))
  | .own _ => ∃ o, h.get? a = some o
  | .xd fs => ∃ mA, h.Ns1 a mA ∧ ∀ f, RelO (fs.lookup f) (mA f)
  | .rng lo hi => ∃ t u v, h.get? a = some { cls := .type "range", data := .fields #[.int lo t, .int hi u, .int 1 v] }
  | .frz o u => h.get? a = some o ∧ ObjOk H h a u
  | .tbl ps => h.get? a = some { cls := .none, data := .fields ps }
  | .met f x => h.get? a = some (PySem.W.methodObj (.ref f) (.ref x))
  | .ext φ => φ h ∧ (∃ o, h.get? a = some o) ∧ ∀ h1 h2 : Heap, φ h1 → (∀ o, h1.get? a = some o → h2.get? a = some o) → φ h2
/-- the abstract heap is held -/
def HOk (H : Hp) (h : Heap) : Prop := ∀ a o, H a = some o → ObjOk P w H h a o
end

section
variable {P : Program} {w : World} {H H' : Hp} {h h' : Heap} {a : Addr} {o : HO}
theorem ObjOk.lt (x : ObjOk P w H h a o) : a < h.objs.size := by
  cases o with
  | lst xs => obtain ⟨_, _, _, _, e⟩ := x; exact Heap.lt_size e
  | tup xs => obtain ⟨_, _, _, p⟩ := x; exact p.lt
  | dK kvs => obtain ⟨_, _, _, _, o, _, _, e, _⟩ := x; exact Heap.lt_size e
  | dT kvs => obtain ⟨_, _, _, _, o, _, _, e, _⟩ := x; exact Heap.lt_size e
  | set S n => obtain ⟨o, _, _, _, e, _⟩ := x; exact Heap.lt_size e
  | ins C dx fs => obtain ⟨_, _, _, e, _⟩ := x; exact Heap.lt_size e
  | own y => obtain ⟨_, e⟩ := x; exact Heap.lt_size e
  | xd fs => obtain ⟨_, ⟨_, _, _, e, _⟩, _⟩ := x; exact Heap.lt_size e
  | rng lo hi => obtain ⟨_, _, _, e⟩ := x; exact Heap.lt_size e
  | frz ob u => obtain ⟨e, _⟩ := x; exact Heap.lt_size e
  | tbl ps => exact Heap.lt_size (show h.get? a = some _ from x)
  | met f y => exact Heap.lt_size (show h.get? a = some _ from x)
  | ext φ => obtain ⟨_, ⟨_, e⟩, _⟩ := x; exact Heap.lt_size e
theorem Paired.mapP {α β : Type} {F G : α → β → Prop} : ∀ {l₁ : List α} {l₂ : List β}, Paired F l₁ l₂ → (∀ a b, F a b → G a b) → Paired G l₁ l₂
  | _, _, .nil, _ => .nil
  | _, _, .cons r t, f => .cons (f _ _ r) (Paired.mapP t f)
/-- what an object's description leans on: its own object, its own dict, the tuples -/
theorem ObjOk.stay (x : ObjOk P w H h a o) (k : ∀ b u, (b = a ∨ H b = some (.own a)) → h.get? b = some u → h'.get? b = some u)
    (ho : ∀ b, H b = some (.own a) → H' b = some (.own a)) (ht : ∀ b xs, H b = some (.tup xs) → H' b = some (.tup xs)) : ObjOk P w H' h' a o := by
  induction o with
  | lst xs => obtain ⟨z, its, n, r, e⟩ := x; exact ⟨z, its, n, r, k _ _ (.inl rfl) e⟩
  | tup xs => obtain ⟨z, its, r, ob, e, c⟩ := x; exact ⟨z, its, r, ob, k _ _ (.inl rfl) e, c⟩
  | dK kvs => obtain ⟨z, y, vs, r, ob, es, ep, e, c⟩ := x; exact ⟨z, y, vs, r, ob, es, ep, k _ _ (.inl rfl) e, c⟩
  | dT kvs =>
    obtain ⟨z, y, xs, r, ob, es, ep, e, c⟩ := x
    exact ⟨z, y, xs, Paired.mapP r fun p q z => ⟨z.1, ht _ _ z.2.1, z.2.2⟩, ob, es, ep, k _ _ (.inl rfl) e, c⟩
  | set S n => obtain ⟨ob, es, ep, t, e, c⟩ := x; exact ⟨ob, es, ep, t, k _ _ (.inl rfl) e, c⟩
  | ins C dx fs =>
    obtain ⟨d, z, ne, e, mA, ⟨od, es, ep, e2, c⟩, r⟩ := x
    exact ⟨ho _ d, z, ne, k _ _ (.inl rfl) e, mA, ⟨od, es, ep, k _ _ (.inr d) e2, c⟩, r⟩
  | own y => obtain ⟨ob, e⟩ := x; exact ⟨ob, k _ _ (.inl rfl) e⟩
  | xd fs => obtain ⟨mA, ⟨od, es, ep, e, c⟩, r⟩ := x; exact ⟨mA, ⟨od, es, ep, k _ _ (.inl rfl) e, c⟩, r⟩
  | rng lo hi => obtain ⟨t, u, v, e⟩ := x; exact ⟨t, u, v, k _ _ (.inl rfl) e⟩
  | frz ob u ih => obtain ⟨e, q⟩ := x; exact ⟨k _ _ (.inl rfl) e, ih q⟩
  | tbl ps =>
    have e : h.get? a = some { cls := .none, data := .fields ps } := x
    show h'.get? a = some { cls := .none, data := .fields ps }
    exact k a _ (.inl rfl) e
  | met f y =>
    have e : h.get? a = some (PySem.W.methodObj (.ref f) (.ref y)) := x
    show h'.get? a = some (PySem.W.methodObj (.ref f) (.ref y))
    exact k a _ (.inl rfl) e
  | ext φ => obtain ⟨p, ⟨o, e⟩, st⟩ := x; exact ⟨st _ _ p fun o q => k _ _ (.inl rfl) q, ⟨o, k _ _ (.inl rfl) e⟩, st⟩
theorem HOk.lt (x : HOk P w H h) (e : H a = some o) : a < h.objs.size := (x a o e).lt
theorem HOk.fresh (x : HOk P w H h) (e : h.objs.size ≤ a) : H a = none := by
  cases q : H a with
  | none => rfl
  | some u => exact absurd (Nat.lt_of_lt_of_le (x.lt q) e) (Nat.lt_irrefl _)
/-- every object of the heap is kept -/
theorem HOk.kept (x : HOk P w H h) (k : ∀ b u, h.get? b = some u → h'.get? b = some u) : HOk P w H h' := fun a o e =>
  (x a o e).stay (fun b u _ q => k b u q) (fun _ q => q) fun _ _ q => q
/-- a new object is laid and tracked -/
theorem HOk.laid (x : HOk P w H h) (k : ∀ b u, h.get? b = some u → h'.get? b = some u) (hp : h.objs.size ≤ a) (new : ObjOk P w (upd H a o) h' a o) : HOk P w (upd H a o) h' := fun b u e => by
  have hn := x.fresh hp
  by_cases hb : b = a
  · subst hb; rw [upd_same] at e; cases e; exact new
  · rw [upd_ne hb] at e
    exact (x b u e).stay (fun c v _ q => k c v q) (fun c q => by rw [upd_ne (ne_of_none q hn)]; exact q) fun c xs q => by rw [upd_ne (ne_of_none q hn)]; exact q
end

/-- what may be read as u: it is u, or a known u -/
def Rd (H : Hp) (a : Addr) (u : HO) : Prop := H a = some u ∨ ∃ o, H a = some (.frz o u)
theorem Rd.of {H : Hp} {a : Addr} {u : HO} (h : H a = some u) : Rd H a u := .inl h
theorem Rd.ok {P : Program} {w : World} {H : Hp} {h : Heap} {a : Addr} {u : HO} (r : Rd H a u) (x : HOk P w H h) : ObjOk P w H h a u := by
  rcases r with r | ⟨o, r⟩
  · exact x a u r
  · obtain ⟨_, q⟩ := x a _ r
    exact q
/-- what may be written -/
def Mut : Option HO → Prop
  | some (.lst _) => True
  | some (.dK _) => True
  | some (.dT _) => True
  | some (.set _ _) => True
  | some (.ins _ _ _) => True
  | some (.ext _) => True
  | _ => False
section
variable {P : Program} {w : World} {H : Hp} {h h' : Heap} {x e : Addr} {o' : HO}
/-- the object at e is changed: x itself, or the dict of the instance x -/
theorem HOk.write (ok : HOk P w H h) (mu : Mut (H x)) (he : e = x ∨ H e = some (.own x)) (k : ∀ b u, b ≠ e → h.get? b = some u → h'.get? b = some u) (heo : ∃ u, h'.get? e = some u)
    (new : ObjOk P w (upd H x o') h' x o') : HOk P w (upd H x o') h' := fun b u q => by
  have nown : ∀ c y, H c = some (.own y) → c ≠ x := fun c y r z => by subst z; rw [r] at mu; exact mu
  have ntup : ∀ c xs, H c = some (.tup xs) → c ≠ x := fun c xs r z => by subst z; rw [r] at mu; exact mu
  by_cases hb : b = x
  · subst hb; rw [upd_same] at q; cases q; exact new
  · rw [upd_ne hb] at q
    by_cases hbe : b = e
    · have q' : H b = some (.own x) := by
        rcases he with z | z
        · exact absurd (hbe.trans z) hb
        · rw [hbe]; exact z
      rw [q] at q'; cases q'
      obtain ⟨v, hv⟩ := heo
      exact ⟨v, by rw [hbe]; exact hv⟩
    · refine (ok b u q).stay (fun c v hc r => k c v ?_ r) (fun c r => by rw [upd_ne (nown c b r)]; exact r) fun c xs r => by rw [upd_ne (ntup c xs r)]; exact r
      rcases hc with rfl | hc
      · exact hbe
      · rintro rfl
        rcases he with z | z
        · exact nown c b hc z
        · rw [hc] at z; cases z; exact hb rfl
end

/-! ### kept unless tracked; of the frames at fs (the callers') the slots may change (an exception that passes writes there); of the records at ex (iterators) nothing is said -/
structure Un (fs ex : List Addr) (H H' : Hp) (h h' : Heap) : Prop where
  keep : ∀ b o, h.get? b = some o → H b = none → b ∉ fs → b ∉ ex → h'.get? b = some o
  slot : ∀ b o, h.get? b = some o → H b = none → b ∈ fs → b ∉ ex → ∃ sl, h'.get? b = some { o with slots := sl }
  free : ∀ b o, h.get? b = some o → H b = none → b ∉ ex → H' b = none
  there : ∀ b o, h.get? b = some o → b ∉ ex → ∃ o', h'.get? b = some o'
  tups : ∀ b xs, H b = some (.tup xs) → H' b = some (.tup xs)
  frzs : ∀ b o u, H b = some (.frz o u) → H' b = some (.frz o u)
  tbls : ∀ b ps, H b = some (.tbl ps) → ∃ more, H' b = some (.tbl (ps ++ more))
section
variable {fs fs' ex ex' : List Addr} {H H1 H2 : Hp} {h h1 h2 h' : Heap} {a x e : Addr} {o : HO}
theorem Un.any (u : Un fs ex H H1 h h1) {b : Addr} {ob : Obj} (q : h.get? b = some ob) (n : H b = none) (hx : b ∉ ex) : ∃ sl, h1.get? b = some { ob with slots := sl } := by
  by_cases hb : b ∈ fs
  · exact u.slot b ob q n hb hx
  · exact ⟨ob.slots, u.keep b ob q n hb hx⟩
theorem Un.trans (a : Un fs ex H H1 h h1) (b : Un fs ex H1 H2 h1 h2) : Un fs ex H H2 h h2 where
  keep := fun c ob q n hc hx => b.keep c ob (a.keep c ob q n hc hx) (a.free c ob q n hx) hc hx
  slot := fun c ob q n hc hx => by
    obtain ⟨sl, e1⟩ := a.slot c ob q n hc hx
    obtain ⟨sl', e2⟩ := b.slot c _ e1 (a.free c ob q n hx) hc hx
    exact ⟨sl', e2⟩
  free := fun c ob q n hx => by
    obtain ⟨o', e1⟩ := a.there c ob q hx
    exact b.free c o' e1 (a.free c ob q n hx) hx
  there := fun c ob q hx => by
    obtain ⟨o', e1⟩ := a.there c ob q hx
    exact b.there c o' e1 hx
  tups := fun c xs q => b.tups c xs (a.tups c xs q)
  frzs := fun c ob xs q => b.frzs c ob xs (a.frzs c ob xs q)
  tbls := fun c ps q => by
    obtain ⟨m1, e1⟩ := a.tbls c ps q
    obtain ⟨m2, e2⟩ := b.tbls c _ e1
    exact ⟨m1 ++ m2, by rw [e2, Array.append_assoc]⟩
theorem Un.kept (k : ∀ b u, h.get? b = some u → h'.get? b = some u) : Un fs ex H H h h' :=
  ⟨fun b ob q _ _ _ => k b ob q, fun b ob q _ _ _ => ⟨ob.slots, k b ob q⟩, fun _ _ _ n _ => n, fun b ob q _ => ⟨ob, k b ob q⟩, fun _ _ q => q, fun _ _ _ q => q, fun _ ps q => ⟨#[], by rw [q]; simp⟩⟩
theorem Un.refl : Un fs ex H H h h := Un.kept fun _ _ q => q
theorem Un.laid (k : ∀ b u, h.get? b = some u → h'.get? b = some u) (hp : h.objs.size ≤ a) (hn : H a = none) : Un fs ex H (upd H a o) h h' where
  keep := fun b u q _ _ _ => k b u q
  slot := fun b u q _ _ _ => ⟨u.slots, k b u q⟩
  free := fun b u q n _ => by rw [upd_ne (Nat.ne_of_lt (Nat.lt_of_lt_of_le (Heap.lt_size q) hp))]; exact n
  there := fun b u q _ => ⟨u, k b u q⟩
  tups := fun b xs q => by rw [upd_ne (ne_of_none q hn)]; exact q
  frzs := fun b u xs q => by rw [upd_ne (ne_of_none q hn)]; exact q
  tbls := fun b ps q => ⟨#[], by rw [upd_ne (ne_of_none q hn), q]; simp⟩
theorem Un.write (mu : Mut (H x)) (he : e = x ∨ H e = some (.own x)) (k : ∀ b u, b ≠ e → h.get? b = some u → h'.get? b = some u) (heo : ∃ u, h'.get? e = some u) : Un fs ex H (upd H x o) h h' := by
  have hx : ∀ b, H b = none → b ≠ x := fun b n z => by subst z; rw [n] at mu; exact mu
  have hb : ∀ b, H b = none → b ≠ e := fun b n z => by
    subst z
    rcases he with r | r
    · exact hx b n r
    · rw [n] at r; cases r
  have hm : ∀ b u, H b = some u → ¬ Mut (some u) → b ≠ x := fun b u q nm z => by subst z; rw [q] at mu; exact nm mu
  refine ⟨fun b u q n _ _ => k b u (hb b n) q, fun b u q n _ _ => ⟨u.slots, k b u (hb b n) q⟩, fun b u q n _ => by rw [upd_ne (hx b n)]; exact n, fun b u q _ => ?_,
    fun b xs q => by rw [upd_ne (hm b _ q fun z => z)]; exact q, fun b u xs q => by rw [upd_ne (hm b _ q fun z => z)]; exact q, fun b ps q => ⟨#[], by rw [upd_ne (hm b _ q fun z => z), q]; simp⟩⟩
  by_cases hbe : b = e
  · subst hbe; exact heo
  · exact ⟨u, k b u hbe q⟩
theorem Un.mono (u : Un fs ex H H1 h h1) (hs : ∀ b ∈ fs, b ∈ fs') (hx : ∀ b ∈ ex, b ∈ ex') : Un fs' ex' H H1 h h1 :=
  ⟨fun b ob q n hb he => u.keep b ob q n (fun z => hb (hs b z)) fun z => he (hx b z), fun _ _ q n _ he => u.any q n fun z => he (hx _ z), fun b ob q n he => u.free b ob q n fun z => he (hx b z), fun b ob q he => u.there b ob q fun z => he (hx b z), u.tups, u.frzs, u.tbls⟩
end

/-! ### the heap without what is tracked -/
def trk (h : Heap) (H : Hp) : List Addr := (List.range h.objs.size).filter fun a => (H a).isSome
def hidT (h : Heap) (H : Hp) : Heap := PySem.W.hideAll h (trk h H)
theorem hidT_size (h : Heap) (H : Hp) : (hidT h H).objs.size = h.objs.size := PySem.W.hideAll_size _ _
theorem hidT_get {h : Heap} {H : Hp} {b : Addr} {o : Obj} (e : h.get? b = some o) (n : H b = none) : (hidT h H).get? b = some o :=
  PySem.W.hideAll_get _ e fun hm => by
    have q : (H b).isSome = true := (List.mem_filter.mp hm).2
    rw [n] at q; simp at q
theorem of_hidT {h : Heap} {H : Hp} {b : Addr} {o : Obj} (e : (hidT h H).get? b = some o) : h.get? b = some o ∧ H b = none := by
  have e' : h.get? b = some o := PySem.W.of_hideAll (trk h H) e
  refine ⟨e', ?_⟩
  cases q : H b with
  | none => rfl
  | some x =>
    have hm : b ∈ trk h H := List.mem_filter.mpr ⟨List.mem_range.mpr (Heap.lt_size e'), by simp [q]⟩
    have z : (hidT h H).get? b = none := PySem.W.hideAll_none (trk h H) hm
    rw [z] at e; cases e

/-! ### OpenK's ledger, filled with every new object but one -/
def allNews (g h : Heap) (L : Addr) : List (Addr × Obj) := (List.range h.objs.size).filterMap fun a => if a = L ∨ (g.get? a).isSome = true then none else (h.get? a).map fun o => (a, o)
def rest (g h : Heap) (L d : Addr) : List (Addr × Obj) := (allNews g h L).filter fun p => decide (p.1 ≠ d)
end L2

namespace L2
open PySem PySem.Spec PyProof.Rows

/-- the module's facts, over the base: the heap at the law's entry without what is tracked there -/
structure Mod (K : PySem.W.Frag) (mg : Str → Option Value) (base : Heap) : Prop where
  kin : K.In base
  glob : base.Ns mainGlobals mg
  blt : ∃ mb, base.Ns builtinsNs mb ∧ ∀ x : Str, x ≠ "__name__" → mb x = bootBuiltins x
  nolimit : base.NoLimit

/-- the context: a def's body (or a comprehension's block) running. base: fixed through the whole law; s₀, H₀: the entry; outer: the frames whose slots others may change (a def's callers); stack: all frames that run;
   ex: iterators that were made ahead of the entry and are walked here (a comprehension's); fn: the names whose cells were made at the entry (a def: all; a comprehension's block: its own); calm: not within an except suite; pn: pins that every state bears; xe: what is wanted of an exception that leaves the code -/
structure Cx where
  prog : Program
  w : World
  K : PySem.W.Frag
  mg : Str → Option Value
  base : Heap
  A : Around
  N : List Str
  s₀ : Shared
  H₀ : Hp
  env : Env
  outer : List Env
  stack : List Env
  ex : List Addr
  fn : Str → Bool
  calm : Bool
  pn : List (Addr × Obj)
  xe : Value → Shared → Prop
/-- the callers' frames -/
def frs (l : List Env) : List Addr := l.filterMap (·.frame)
abbrev Cx.fs (X : Cx) : List Addr := frs X.outer

def Vis (sc : Scope) (x : Str) : Prop := sc.names.lookup x = some .local ∨ sc.names.lookup x = some .cell ∨ sc.names.lookup x = some .free
def Loc (sc : Scope) (x : Str) : Prop := sc.names.lookup x = some .local ∨ sc.names.lookup x = some .cell
def Look (env : Env) (h : Heap) (m : Str → Option Value) (x : Str) (u : Value) : Prop :=
  (env.kindOf x = some .local ∧ m x = some u) ∨ ((env.kindOf x = some .cell ∨ env.kindOf x = some .free) ∧ ∃ c, env.cells.lookup x = some c ∧ h.IsCell c (some u))

structure Cx.Ok (X : Cx) : Prop where
  mod : Mod X.K X.mg X.base
  kind : X.env.scope.kind = .function
  glob : X.env.globals = mainGlobals
  blt : X.env.builtins = builtinsNs
  above : X.s₀.heap.objs.size ≤ X.env.locals
  inj : ∀ x y c, X.env.cells.lookup x = some c → X.env.cells.lookup y = some c → x = y
  has : ∀ x, (X.env.kindOf x = some .cell ∨ X.env.kindOf x = some .free) → ∃ c, X.env.cells.lookup x = some c
  cab : ∀ x c, X.fn x = true → X.env.cells.lookup x = some c → X.s₀.heap.objs.size ≤ c
  hd : X.calm = true → X.A.handled = none
  frames : X.A.frames = some X.stack
  stk : X.stack = X.outer ∨ (X.stack = X.env :: X.outer ∧ X.env.frame = some X.env.locals)
  exf : ∀ b ∈ X.ex, b ≠ X.env.locals ∧ ∀ x c, X.env.cells.lookup x = some c → c ≠ b
  bs : ∀ b o, X.base.get? b = some o → X.s₀.heap.get? b = some o ∧ X.H₀ b = none
  bsz : X.base.objs.size ≤ X.s₀.heap.objs.size
  noex : ∀ b o, X.base.get? b = some o → b ∉ X.ex
  exfs : ∀ b ∈ X.ex, b ∉ X.fs
  funs : X.s₀.heap.FunFrames X.base X.outer
  frf : ∀ b ∈ X.fs, X.H₀ b = none

structure Inv (X : Cx) (pins : List (Addr × Obj)) (σ : List (Option V)) (H : Hp) (s : Shared) : Prop where
  ok : X.Ok
  os : s.os = X.s₀.os
  bare : AllBare s.gens
  base : Un X.fs X.ex X.H₀ H X.s₀.heap s.heap
  loc : ∃ m, s.heap.Ns X.env.locals m ∧ ∀ (i : Nat) (x : Str) (v : V), X.N[i]? = some x → σ[i]? = some (some v) → Vis X.env.scope x → ∃ u, RelV v u ∧ Look X.env s.heap m x u
  cell : ∀ x c, X.env.cells.lookup x = some c → ∃ v, s.heap.IsCell c v
  free : H X.env.locals = none
  freeC : ∀ x c, X.env.cells.lookup x = some c → H c = none
  pin : ∀ p ∈ X.pn ++ pins, s.heap.get? p.1 = some p.2 ∧ H p.1 = none ∧ p.1 ≠ X.env.locals ∧ p.1 ∉ X.fs ∧ ∀ v, p.2.data ≠ .cell v
  hok : HOk X.prog X.w H s.heap
  len : σ.length = X.N.length

section
variable {X : Cx} {pins : List (Addr × Obj)} {σ : List (Option V)} {H H' : Hp} {s : Shared} {h' : Heap}

theorem Cx.Ok.nofr (ok : X.Ok) {b : Addr} {o : Obj} (e : X.base.get? b = some o) : b ∉ X.fs := fun hb => by
  have := (ok.funs.mem hb).1
  rw [e] at this; cases this
theorem Inv.bs (I : Inv X pins σ H s) : ∀ b o, X.base.get? b = some o → s.heap.get? b = some o ∧ H b = none := fun b o e =>
  ⟨I.base.keep b o (I.ok.bs b o e).1 (I.ok.bs b o e).2 (I.ok.nofr e) (I.ok.noex b o e), I.base.free b o (I.ok.bs b o e).1 (I.ok.bs b o e).2 (I.ok.noex b o e)⟩
theorem Inv.bk (I : Inv X pins σ H s) : ∀ b o, X.base.get? b = some o → s.heap.get? b = some o := fun b o e => (I.bs b o e).1
theorem Inv.mod (I : Inv X pins σ H s) : Mod X.K X.mg X.base := I.ok.mod
theorem Inv.kIn (I : Inv X pins σ H s) : X.K.In s.heap := I.ok.mod.kin.keeps I.bk
theorem Inv.nolimit (I : Inv X pins σ H s) : s.heap.NoLimit := I.ok.mod.nolimit.keeps I.bk
/-- the frame over the base: for OpenK's rules (K.In X.base is I.mod.kin) -/
theorem Inv.fr (I : Inv X pins σ H s) : ∃ m, Fr X.base X.env.locals s.heap m :=
  let ⟨m, hn, _⟩ := I.loc
  ⟨m, hn, I.bk, Nat.le_trans I.ok.bsz I.ok.above⟩
theorem Inv.lt (I : Inv X pins σ H s) : X.env.locals < s.heap.objs.size := let ⟨_, hn, _⟩ := I.loc; hn.lt
theorem Inv.sz (I : Inv X pins σ H s) : X.s₀.heap.objs.size ≤ s.heap.objs.size := Nat.le_trans I.ok.above (Nat.le_of_lt I.lt)
theorem Inv.nofs (I : Inv X pins σ H s) {a : Addr} (h : s.heap.objs.size ≤ a) : a ∉ X.fs := fun hb => by
  obtain ⟨_, o, ho, _⟩ := I.ok.funs.mem hb
  exact absurd (Nat.lt_of_lt_of_le (Heap.lt_size ho) (Nat.le_trans I.sz h)) (Nat.lt_irrefl _)
theorem Inv.cne (I : Inv X pins σ H s) : ∀ x c, X.env.cells.lookup x = some c → c ≠ X.env.locals := fun x c e z => by
  obtain ⟨v, o, ho, hd⟩ := I.cell x c e
  obtain ⟨m, ⟨o', es, ep, ho', hd', _⟩, _⟩ := I.loc
  rw [z, ho'] at ho; cases ho; rw [hd'] at hd; cases hd
theorem Inv.funs (I : Inv X pins σ H s) : s.heap.FunFrames X.base X.outer := by
  have all : ∀ (l : List Env), (∀ b ∈ frs l, b ∈ X.fs) → X.s₀.heap.FunFrames X.base l → s.heap.FunFrames X.base l := by
    intro l
    induction l with
    | nil => intro _ _; trivial
    | cons env r ih =>
      intro hs hl
      obtain ⟨hk, ⟨L, o, hf, hn, ho, hd⟩, hr⟩ := hl
      have hL : L ∈ X.fs := hs L (by unfold frs; rw [List.filterMap_cons, hf]; exact List.mem_cons_self)
      obtain ⟨sl, e⟩ := I.base.slot L o ho (I.ok.frf L hL) hL fun z => I.ok.exfs L z hL
      exact ⟨hk, ⟨L, _, hf, hn, e, hd⟩, ih (fun b hb => hs b (by unfold frs; rw [List.filterMap_cons, hf]; exact List.mem_cons_of_mem _ hb)) hr⟩
  exact all X.outer (fun _ hb => hb) I.ok.funs

/-- the frames that run, for a call -/
theorem Inv.stack (I : Inv X pins σ H s) : s.heap.FunFrames X.base X.stack := by
  rcases I.ok.stk with e | ⟨e, hf⟩
  · rw [e]; exact I.funs
  · rw [e]
    obtain ⟨m, hn, _⟩ := I.loc
    refine .cons (by rw [I.ok.kind]; decide) hf hn ?_ I.funs
    exact Heap.get?_none_of_le (Nat.le_trans I.ok.bsz I.ok.above)
theorem Inv.stkSub (I : Inv X pins σ H s) : ∀ b ∈ frs X.stack, b ∈ X.env.locals :: X.fs := fun b hb => by
  rcases I.ok.stk with e | ⟨e, hf⟩
  · rw [e] at hb; exact List.mem_cons_of_mem _ hb
  · rw [e] at hb
    unfold frs at hb
    rw [List.filterMap_cons, hf] at hb
    exact hb
theorem Inv.stkFree (I : Inv X pins σ H s) : ∀ b ∈ frs X.stack, H b = none := fun b hb => by
  rcases List.mem_cons.mp (I.stkSub b hb) with e | hb
  · rw [e]; exact I.free
  · obtain ⟨_, o, ho, _⟩ := I.ok.funs.mem hb
    exact I.base.free b o ho (I.ok.frf b hb) fun z => I.ok.exfs b z hb

/-- THE STEP: the untracked objects but the frame and the records at ch are kept (the callers' frames up to slots), the frame's map is kept, the new abstract heap is held -/
theorem Inv.step {g' : Array GenState} {t' : Nat} {d' : Drawn} {ch : List Addr} (I : Inv X pins σ H s)
    (hch : ∀ b ∈ ch, (b ∈ X.ex ∨ X.s₀.heap.objs.size ≤ b) ∧ b ≠ X.env.locals ∧ (∀ x c, X.env.cells.lookup x = some c → c ≠ b) ∧ ∀ p ∈ X.pn ++ pins, p.1 ≠ b)
    (keep : ∀ b o, b ≠ X.env.locals → b ∉ X.fs → b ∉ ch → s.heap.get? b = some o → H b = none → h'.get? b = some o)
    (slot : ∀ b o, b ≠ X.env.locals → b ∈ X.fs → b ∉ ch → s.heap.get? b = some o → H b = none → ∃ sl, h'.get? b = some { o with slots := sl }) (free : ∀ b o, b ∉ ch → s.heap.get? b = some o → H b = none → H' b = none)
    (there : ∀ b o, b ∉ ch → s.heap.get? b = some o → ∃ o', h'.get? b = some o')
    (tups : ∀ b xs, H b = some (.tup xs) → H' b = some (.tup xs)) (frzs : ∀ b o u, H b = some (.frz o u) → H' b = some (.frz o u)) (tbls : ∀ b ps, H b = some (.tbl ps) → ∃ more, H' b = some (.tbl (ps ++ more)))
    (ns : ∀ m, s.heap.Ns X.env.locals m → h'.Ns X.env.locals m) (hok : HOk X.prog X.w H' h') (hg : AllBare g') :
    Inv X pins σ H' { s with heap := h', gens := g', drawn := d', toks := t' } := by
  have neL : ∀ b o, X.s₀.heap.get? b = some o → b ≠ X.env.locals := fun b o e => Nat.ne_of_lt (Nat.lt_of_lt_of_le (Heap.lt_size e) I.ok.above)
  have neC : ∀ b o, X.s₀.heap.get? b = some o → b ∉ X.ex → b ∉ ch := fun b o e hx hb => by
    rcases (hch b hb).1 with z | z
    · exact hx z
    · exact absurd (Nat.lt_of_lt_of_le (Heap.lt_size e) z) (Nat.lt_irrefl _)
  have cellK : ∀ x c, X.env.cells.lookup x = some c → ∀ v, s.heap.IsCell c v → h'.IsCell c v := fun x c e v ⟨o, ho, hd⟩ => by
    have nch : c ∉ ch := fun z => (hch c z).2.2.1 x c e rfl
    by_cases hc : c ∈ X.fs
    · obtain ⟨sl, q⟩ := slot c o (I.cne x c e) hc nch ho (I.freeC x c e)
      exact ⟨_, q, hd⟩
    · exact ⟨o, keep c o (I.cne x c e) hc nch ho (I.freeC x c e), hd⟩
  refine ⟨I.ok, I.os, hg, ⟨fun b o e n hb hx => ?_, fun b o e n hb hx => ?_, fun b o e n hx => ?_, fun b o e hx => ?_, fun b xs e => tups b xs (I.base.tups b xs e), fun b o xs e => frzs b o xs (I.base.frzs b o xs e), fun b ps e => ?_⟩, ?_, fun x c e => ?_, ?_, fun x c e => ?_, fun p hp => ?_, hok, I.len⟩
  · exact keep b o (neL b o e) hb (neC b o e hx) (I.base.keep b o e n hb hx) (I.base.free b o e n hx)
  · obtain ⟨sl, e1⟩ := I.base.slot b o e n hb hx
    obtain ⟨sl', e2⟩ := slot b _ (neL b o e) hb (neC b o e hx) e1 (I.base.free b o e n hx)
    exact ⟨sl', e2⟩
  · obtain ⟨o', e1⟩ := I.base.there b o e hx
    exact free b o' (neC b o e hx) e1 (I.base.free b o e n hx)
  · obtain ⟨o', e1⟩ := I.base.there b o e hx
    exact there b o' (neC b o e hx) e1
  · obtain ⟨m1, e1⟩ := I.base.tbls b ps e
    obtain ⟨m2, e2⟩ := tbls b _ e1
    exact ⟨m1 ++ m2, by rw [e2, Array.append_assoc]⟩
  · obtain ⟨m, hn, hl⟩ := I.loc
    refine ⟨m, ns m hn, fun i x v e1 e2 e3 => ?_⟩
    obtain ⟨u, r, l⟩ := hl i x v e1 e2 e3
    refine ⟨u, r, ?_⟩
    rcases l with l | ⟨k, c, e, z⟩
    · exact .inl l
    · exact .inr ⟨k, c, e, cellK x c e _ z⟩
  · obtain ⟨v, z⟩ := I.cell x c e
    exact ⟨v, cellK x c e v z⟩
  · obtain ⟨m, ⟨o, _, _, ho, _⟩, _⟩ := I.loc
    exact free _ o (fun z => (hch _ z).2.1 rfl) ho I.free
  · obtain ⟨v, o, ho, hd⟩ := I.cell x c e
    exact free c o (fun z => (hch c z).2.2.1 x c e rfl) ho (I.freeC x c e)
  · obtain ⟨e, n, ne, nf, d⟩ := I.pin p hp
    have nch : p.1 ∉ ch := fun z => (hch p.1 z).2.2.2 p hp rfl
    exact ⟨keep p.1 p.2 ne nf nch e n, free p.1 p.2 nch e n, ne, nf, d⟩
/-- .. where the frame's own object is kept too -/
theorem Inv.un {t' : Nat} (I : Inv X pins σ H s) (u : Un X.fs [] H H' s.heap h') (hok : HOk X.prog X.w H' h') : Inv X pins σ H' { s with heap := h', toks := t' } := by
  obtain ⟨m, ⟨o, es, ep, ho, r⟩, _⟩ := id I.loc
  obtain ⟨sl, hL⟩ := u.any ho I.free (by simp)
  exact I.step (g' := s.gens) (d' := s.drawn) (ch := []) (fun _ z => nomatch z) (fun b o _ hb _ e n => u.keep b o e n hb (by simp)) (fun b o _ hb _ e n => u.slot b o e n hb (by simp)) (fun b o _ e n => u.free b o e n (by simp)) (fun b o _ e => u.there b o e (by simp)) u.tups u.frzs u.tbls (fun m' hm => by
    obtain ⟨o', es', ep', ho', r'⟩ := hm
    rw [ho] at ho'; cases ho'
    exact ⟨_, es', ep', hL, r'⟩) hok I.bare
/-- behind a call (or a comprehension's block): the slots of this frame may have changed too, the records at ch may have turned -/
theorem Inv.call {g' : Array GenState} {t' : Nat} {d' : Drawn} {ch : List Addr} (I : Inv X pins σ H s) (u : Un (frs X.stack) ch H H' s.heap h') (hok : HOk X.prog X.w H' h') (hg : AllBare g')
    (hch : ∀ b ∈ ch, (b ∈ X.ex ∨ X.s₀.heap.objs.size ≤ b) ∧ b ≠ X.env.locals ∧ (∀ x c, X.env.cells.lookup x = some c → c ≠ b) ∧ ∀ p ∈ X.pn ++ pins, p.1 ≠ b) :
    Inv X pins σ H' { s with heap := h', gens := g', drawn := d', toks := t' } := by
  obtain ⟨m, ⟨o, es, ep, ho, r⟩, _⟩ := id I.loc
  obtain ⟨sl, hL⟩ := u.any ho I.free fun z => (hch _ z).2.1 rfl
  exact I.step (ch := ch) hch (fun b o hL hb hc e n => u.keep b o e n (fun z => (List.mem_cons.mp (I.stkSub b z)).elim hL hb) hc) (fun b o _ _ hc e n => u.any e n hc) (fun b o hc e n => u.free b o e n hc) (fun b o hc e => u.there b o e hc) u.tups u.frzs u.tbls (fun m' hm => by
    obtain ⟨o', es', ep', ho', r'⟩ := hm
    rw [ho] at ho'; cases ho'
    exact ⟨_, es', ep', hL, r'⟩) hok hg
/-- an untracked record of ours (an iterator) has turned -/
theorem Inv.turned {t' : Nat} {it : Addr} (I : Inv X pins σ H s) (k : ∀ b o, b ≠ it → s.heap.get? b = some o → h'.get? b = some o) (hn : H it = none) (hL : it ≠ X.env.locals)
    (h1 : it ∈ X.ex ∨ X.s₀.heap.objs.size ≤ it) (h2 : ∀ x c, X.env.cells.lookup x = some c → c ≠ it) (h3 : ∀ p ∈ X.pn ++ pins, p.1 ≠ it) : Inv X pins σ H { s with heap := h', toks := t' } := by
  have nit : ∀ b u, H b = some u → b ≠ it := fun b u e z => by rw [z, hn] at e; cases e
  refine I.step (g' := s.gens) (d' := s.drawn) (ch := [it]) (fun b hb => ?_) (fun b o _ _ hc e _ => k b o (fun z => hc (by simp [z])) e) (fun b o _ _ hc e _ => ⟨o.slots, k b o (fun z => hc (by simp [z])) e⟩) (fun _ _ _ _ n => n)
    (fun b o hc e => ⟨o, k b o (fun z => hc (by simp [z])) e⟩) (fun _ _ e => e) (fun _ _ _ e => e) (fun b ps e => ⟨#[], by rw [e]; simp⟩) (fun m hm => ?_) (fun b u e => ?_) I.bare
  · have e : b = it := by simpa using hb
    subst e
    exact ⟨h1, hL, h2, h3⟩
  · obtain ⟨o, es, ep, ho, r⟩ := hm
    exact ⟨o, es, ep, k _ o (Ne.symm hL) ho, r⟩
  · refine (I.hok b u e).stay (fun c v hc q => k c v ?_ q) (fun _ q => q) fun _ _ q => q
    rcases hc with z | z
    · rw [z]; exact nit b u e
    · exact nit c _ z
theorem Inv.tok (I : Inv X pins σ H s) (t : Nat) : Inv X pins σ H { s with toks := t } := I.un (h' := s.heap) (t' := t) Un.refl I.hok
/-- all objects kept -/
theorem Inv.kept {t' : Nat} (I : Inv X pins σ H s) (k : ∀ b u, s.heap.get? b = some u → h'.get? b = some u) : Inv X pins σ H { s with heap := h', toks := t' } := I.un (Un.kept k) (I.hok.kept k)
/-- a new object laid and tracked -/
theorem Inv.laid {a : Addr} {o : HO} {t' : Nat} (I : Inv X pins σ H s) (k : ∀ b u, s.heap.get? b = some u → h'.get? b = some u) (hp : s.heap.objs.size ≤ a) (new : ObjOk X.prog X.w (upd H a o) h' a o) :
    Inv X pins σ (upd H a o) { s with heap := h', toks := t' } := I.un (Un.laid k hp (I.hok.fresh hp)) (I.hok.laid k hp new)
/-- an object written -/
theorem Inv.write {x e : Addr} {o : HO} {t' : Nat} (I : Inv X pins σ H s) (mu : Mut (H x)) (he : e = x ∨ H e = some (.own x)) (k : ∀ b u, b ≠ e → s.heap.get? b = some u → h'.get? b = some u) (heo : ∃ u, h'.get? e = some u)
    (new : ObjOk X.prog X.w (upd H x o) h' x o) : Inv X pins σ (upd H x o) { s with heap := h', toks := t' } := I.un (Un.write mu he k heo) (I.hok.write mu he k heo new)
theorem Inv.pins_of {pins' : List (Addr × Obj)} (I : Inv X pins σ H s) (h : ∀ p ∈ pins', s.heap.get? p.1 = some p.2 ∧ H p.1 = none ∧ p.1 ≠ X.env.locals ∧ p.1 ∉ X.fs ∧ ∀ v, p.2.data ≠ .cell v) : Inv X pins' σ H s :=
  ⟨I.ok, I.os, I.bare, I.base, I.loc, I.cell, I.free, I.freeC, fun p hp => (List.mem_append.mp hp).elim (fun z => I.pin p (List.mem_append_left _ z)) (h p), I.hok, I.len⟩

theorem nodup_ix {N : List Str} (hN : N.Nodup) {i j : Nat} {x : Str} (a : N[i]? = some x) (b : N[j]? = some x) : i = j := by
  obtain ⟨h1, e1⟩ := List.getElem?_eq_some_iff.mp a
  obtain ⟨h2, e2⟩ := List.getElem?_eq_some_iff.mp b
  exact (List.getElem_inj hN).mp (e1.trans e2.symm)

/-- a name is stored; what changed -/
theorem store_ok2 {M : Model} {A : Around} {E : Value → Shared → Prop} {i : Nat} {x : Str} {v : V} {u : Value} {Q : Unit → Shared → Prop} (I : Inv X pins σ H s) (hN : X.N.Nodup) (hi : X.N[i]? = some x) (hx : Loc X.env.scope x) (r : RelV v u)
    (h : ∀ s', Inv X pins (σ.set i (some v)) H s' → (∃ a, Heap.SameBut a s.heap s'.heap ∧ (a = X.env.locals ∨ X.env.cells.lookup x = some a)) → Q () s') (hf : X.fn x = true ∨ X.env.scope.names.lookup x = some .local := by first | exact .inl rfl | exact .inr rfl | assumption) : wpAny M A (storeName X.env x u) Q E s := by
  obtain ⟨m, hn, hl⟩ := id I.loc
  have hcls : (X.env.scope.kind == .class || (X.env.scope.kind == .module && X.env.locals != X.env.globals)) = false := by rw [I.ok.kind]; rfl
  have hiσ : i < σ.length := by rw [I.len]; exact (List.getElem?_eq_some_iff.mp hi).1
  have cne := I.cne
  have tracked : ∀ {a : Addr} {h' : Heap}, (∃ o, s.heap.get? a = some o ∧ H a = none) → Heap.SameBut a s.heap h' → HOk X.prog X.w H h' := fun {a h'} ha hs b ob e => by
    obtain ⟨_, _, hfree⟩ := ha
    refine (I.hok b ob e).stay (fun c w' hc q => (hs.2 c ?_).trans q) (fun _ q => q) fun _ _ q => q
    rintro rfl
    rcases hc with rfl | hc
    · rw [hfree] at e; cases e
    · rw [hfree] at hc; cases hc
  rcases hx with hk | hk
  · refine wpAny_storeName_local hk hn (fun h' hn' hs => ?_) hcls
    obtain ⟨oL, _, _, hoL, _⟩ := id hn
    refine h _ ⟨I.ok, I.os, I.bare, ⟨fun b o e n hb hx => ?_, fun b o e n hb hx => ?_, I.base.free, fun b o e hx => ?_, I.base.tups, I.base.frzs, I.base.tbls⟩, ⟨_, hn', fun j y v' e1 e2 e3 => ?_⟩, fun y c e => ?_, I.free, I.freeC, fun p hp => ?_, tracked ⟨oL, hoL, I.free⟩ hs, by simpa using I.len⟩ ⟨_, hs, .inl rfl⟩
    · exact (hs.2 b (Nat.ne_of_lt (Nat.lt_of_lt_of_le (Heap.lt_size e) I.ok.above))).trans (I.base.keep b o e n hb hx)
    · obtain ⟨sl, e1⟩ := I.base.slot b o e n hb hx
      exact ⟨sl, (hs.2 b (Nat.ne_of_lt (Nat.lt_of_lt_of_le (Heap.lt_size e) I.ok.above))).trans e1⟩
    · obtain ⟨o', e1⟩ := I.base.there b o e hx
      exact ⟨o', (hs.2 b (Nat.ne_of_lt (Nat.lt_of_lt_of_le (Heap.lt_size e) I.ok.above))).trans e1⟩
    · by_cases hj : j = i
      · subst hj
        rw [hi] at e1; cases e1
        rw [List.getElem?_set_self hiσ] at e2
        cases e2
        exact ⟨u, r, .inl ⟨hk, by simp⟩⟩
      · rw [List.getElem?_set_ne (Ne.symm hj)] at e2
        obtain ⟨u', r', q⟩ := hl j y v' e1 e2 e3
        refine ⟨u', r', ?_⟩
        rcases q with ⟨k, e⟩ | ⟨k, c, e, z⟩
        · refine .inl ⟨k, ?_⟩
          have : y ≠ x := fun e => hj (nodup_ix hN e1 (e ▸ hi))
          simp [this, e]
        · exact .inr ⟨k, c, e, z.sameBut hs (cne y c e)⟩
    · obtain ⟨w', z⟩ := I.cell y c e
      exact ⟨w', z.sameBut hs (cne y c e)⟩
    · obtain ⟨e, n, ne, nf, d⟩ := I.pin p hp
      exact ⟨(hs.2 p.1 ne).trans e, n, ne, nf, d⟩
  · have hfn : X.fn x = true := by
      rcases hf with z | z
      · exact z
      · rw [z] at hk; cases hk
    obtain ⟨c, hc⟩ := I.ok.has x (.inl hk)
    obtain ⟨w', z⟩ := I.cell x c hc
    refine wpAny_storeName_cell I.ok.kind hk hc z (fun h' hc' hs => ?_)
    obtain ⟨oc, hoc, hocd⟩ := id z
    refine h { s with heap := h' } ⟨I.ok, I.os, I.bare, ⟨fun b o e n hb hx => ?_, fun b o e n hb hx => ?_, I.base.free, fun b o e hx => ?_, I.base.tups, I.base.frzs, I.base.tbls⟩, ⟨m, hn.sameBut hs (Ne.symm (cne x c hc)), fun j y v' e1 e2 e3 => ?_⟩, fun y c' e => ?_, I.free, I.freeC, fun p hp => ?_, tracked ⟨oc, hoc, I.freeC x c hc⟩ hs, by simpa using I.len⟩ ⟨c, hs, .inr hc⟩
    · exact (hs.2 b (Nat.ne_of_lt (Nat.lt_of_lt_of_le (Heap.lt_size e) (I.ok.cab x c hfn hc)))).trans (I.base.keep b o e n hb hx)
    · obtain ⟨sl, e1⟩ := I.base.slot b o e n hb hx
      exact ⟨sl, (hs.2 b (Nat.ne_of_lt (Nat.lt_of_lt_of_le (Heap.lt_size e) (I.ok.cab x c hfn hc)))).trans e1⟩
    · obtain ⟨o', e1⟩ := I.base.there b o e hx
      exact ⟨o', (hs.2 b (Nat.ne_of_lt (Nat.lt_of_lt_of_le (Heap.lt_size e) (I.ok.cab x c hfn hc)))).trans e1⟩
    · by_cases hj : j = i
      · subst hj
        rw [hi] at e1; cases e1
        rw [List.getElem?_set_self hiσ] at e2
        cases e2
        exact ⟨u, r, .inr ⟨.inl hk, c, hc, hc'⟩⟩
      · rw [List.getElem?_set_ne (Ne.symm hj)] at e2
        obtain ⟨u', r', q⟩ := hl j y v' e1 e2 e3
        refine ⟨u', r', ?_⟩
        rcases q with q | ⟨k, c', e, z'⟩
        · exact .inl q
        · refine .inr ⟨k, c', e, z'.sameBut hs ?_⟩
          rintro rfl
          exact hj (nodup_ix hN e1 (I.ok.inj _ _ _ e hc ▸ hi))
    · by_cases hcc : c' = c
      · subst hcc; exact ⟨_, hc'⟩
      · obtain ⟨w2, z2⟩ := I.cell y c' e
        exact ⟨w2, z2.sameBut hs hcc⟩
    · obtain ⟨e, n, ne, nf, d⟩ := I.pin p hp
      refine ⟨(hs.2 p.1 ?_).trans e, n, ne, nf, d⟩
      intro q
      rw [q, hoc] at e
      have q' : oc = p.2 := Option.some.inj e
      exact d w' (by rw [← q']; exact hocd)
theorem store_ok {M : Model} {A : Around} {E : Value → Shared → Prop} {i : Nat} {x : Str} {v : V} {u : Value} {Q : Unit → Shared → Prop} (I : Inv X pins σ H s) (hN : X.N.Nodup) (hi : X.N[i]? = some x) (hx : Loc X.env.scope x) (r : RelV v u)
    (h : ∀ s', Inv X pins (σ.set i (some v)) H s' → Q () s') (hf : X.fn x = true ∨ X.env.scope.names.lookup x = some .local := by first | exact .inl rfl | exact .inr rfl | assumption) : wpAny M A (storeName X.env x u) Q E s :=
  store_ok2 I hN hi hx r (fun s' I' _ => h s' I') hf
/-- behind a call or a block, the state as it is -/
theorem Inv.call' {s' : Shared} {ch : List Addr} (I : Inv X pins σ H s) (ho : s'.os = s.os) (u : Un (frs X.stack) ch H H' s.heap s'.heap) (hok : HOk X.prog X.w H' s'.heap) (hg : AllBare s'.gens)
    (hch : ∀ b ∈ ch, (b ∈ X.ex ∨ X.s₀.heap.objs.size ≤ b) ∧ b ≠ X.env.locals ∧ (∀ x c, X.env.cells.lookup x = some c → c ≠ b) ∧ ∀ p ∈ X.pn ++ pins, p.1 ≠ b) : Inv X pins σ H' s' := by
  obtain ⟨h', g', d', t', o'⟩ := s'
  have e : o' = s.os := ho
  subst e
  exact I.call (g' := g') (t' := t') (d' := d') u hok hg hch
end

/-! ### the judgements -/
/-- an exception: its class, its own dict's address (where it has one), the abstract heap behind it -/
abbrev XK := Value → Option Addr → Hp → Prop
abbrev St := List (Option V)
abbrev VK := V → Hp → Prop
/-- an expression's reading; a test's; an argument list's -/
abbrev TE := St → Hp → VK → Prop
abbrev TT := St → Hp → (Bool → Hp → Prop) → Prop
abbrev TA := St → Hp → (List V → Hp → Prop) → Prop
/-- what is wanted behind a statement -/
structure Ends where
  nx : St → Hp → Prop
  rt : VK
  bk : St → Hp → Prop := fun _ _ => False
  ct : St → Hp → Prop := fun _ _ => False
abbrev TS := Ends → St → Hp → Prop

def EP (X : Cx) (pins : List (Addr × Obj)) (σ : St) (Q : VK) (u : Value) (s' : Shared) : Prop := ∃ v H', Inv X pins σ H' s' ∧ RelV v u ∧ Q v H'
def TP (X : Cx) (pins : List (Addr × Obj)) (σ : St) (Q : Bool → Hp → Prop) (b : Bool) (s' : Shared) : Prop := ∃ H', Inv X pins σ H' s' ∧ Q b H'
def AP (X : Cx) (pins : List (Addr × Obj)) (σ : St) (Q : List V → Hp → Prop) (us : List Value) (s' : Shared) : Prop := ∃ vs H', Inv X pins σ H' s' ∧ Vals vs us ∧ Q vs H'
def SP (X : Cx) (pins : List (Addr × Obj)) (D : Ends) (f : Flow) (s' : Shared) : Prop :=
  match f with
  | .next => ∃ σ' H', Inv X pins σ' H' s' ∧ D.nx σ' H'
  | .brk => ∃ σ' H', Inv X pins σ' H' s' ∧ D.bk σ' H'
  | .cont => ∃ σ' H', Inv X pins σ' H' s' ∧ D.ct σ' H'
  | .ret u => ∃ v σ' H', Inv X pins σ' H' s' ∧ RelV v u ∧ D.rt v H'

def PE (X : Cx) (e : Expr) (t : TE) : Prop :=
  ∀ (pins : List (Addr × Obj)) (s : Shared) (σ : St) (H : Hp) (Q : VK), Inv X pins σ H s → t σ H Q → wpAny (model X.prog X.w) X.A (eval e X.env) (EP X pins σ Q) X.xe s
def PT (X : Cx) (e : Expr) (t : TT) : Prop :=
  ∀ (pins : List (Addr × Obj)) (s : Shared) (σ : St) (H : Hp) (Q : Bool → Hp → Prop), Inv X pins σ H s → t σ H Q → wpAny (model X.prog X.w) X.A (isTrue e X.env (eval e X.env)) (TP X pins σ Q) X.xe s
/-- a test whatever its 'whole' is (and, or) -/
def PW (X : Cx) (e : Expr) (t : TT) : Prop :=
  ∀ (whole : Sem Value) (pins : List (Addr × Obj)) (s : Shared) (σ : St) (H : Hp) (Q : Bool → Hp → Prop), Inv X pins σ H s → t σ H Q → wpAny (model X.prog X.w) X.A (isTrue e X.env whole) (TP X pins σ Q) X.xe s
theorem PW.pt {X : Cx} {e : Expr} {t : TT} (h : PW X e t) : PT X e t := h _
/-- an argument list (no star), from the left -/
def PA (X : Cx) (es : List Expr) (t : TA) : Prop :=
  ∀ (pos : Pos) (pins : List (Addr × Obj)) (s : Shared) (σ : St) (H : Hp) (Q : List V → Hp → Prop), Inv X pins σ H s → t σ H Q → wpAny (model X.prog X.w) X.A (spliced (backTo pos (starEach es X.env))) (AP X pins σ Q) X.xe s
def PS (X : Cx) (st : Stmt) (t : TS) : Prop :=
  ∀ (pins : List (Addr × Obj)) (s : Shared) (σ : St) (H : Hp) (D : Ends), Inv X pins σ H s → t D σ H → wpAny (model X.prog X.w) X.A (exec st X.env) (SP X pins D) X.xe s
def PSs (X : Cx) (st : List Stmt) (t : TS) : Prop :=
  ∀ (pins : List (Addr × Obj)) (s : Shared) (σ : St) (H : Hp) (D : Ends), Inv X pins σ H s → t D σ H → wpAny (model X.prog X.w) X.A (execs st X.env) (SP X pins D) X.xe s
/-- weaken the end -/
theorem thn {α : Type} {t : Sem α} {Q Q' : α → Shared → Prop} {M : Model} {A : Around} {E : Value → Shared → Prop} {s : Shared} (h : wpAny M A t Q E s) (hQ : ∀ a s, Q a s → Q' a s) : wpAny M A t Q' E s := wpAny_mono h hQ fun _ _ x => x
end L2

namespace L2
open PySem PySem.Spec PyProof.Rows
section
variable {X : Cx}

/-! ### names and constants -/
def tVar (i : Nat) : TE := fun σ H Q => ∃ v, σ[i]? = some (some v) ∧ Q v H
def tC (v : V) : TE := fun _ H Q => Q v H
theorem pe_var {i : Nat} {x : Str} {pos : Pos} (hN : X.N[i]? = some x) (hv : Vis X.env.scope x) (hd : (x == ("__debug__" : Str)) = false := by decide) (hcd : (x == ("__classdict__" : Str)) = false := by decide) : PE X (.Name x pos) (tVar i) := by
  intro pins s σ H Q I h
  obtain ⟨v, e, h⟩ := h
  obtain ⟨m, hn, hl⟩ := I.loc
  obtain ⟨u, r, l⟩ := hl i x v hN e hv
  have fin : EP X pins σ Q u s := ⟨v, H, I, r, h⟩
  rcases l with ⟨hk, hm⟩ | ⟨hk, c, hc, hcell⟩
  · exact wpAny_Name (wpAny_loadName_local I.ok.kind hk hn hm fin) hd
  · rcases hk with hk | hk
    · exact wpAny_Name (wpAny_loadName_cell I.ok.kind hk hc hcell fin) hd
    · exact wpAny_Name (wpAny_loadName_free I.ok.kind hk hc hcell fin hcd) hd
theorem pe_int {i j pos} : PE X (.Constant (.int i) j pos) (tC (.int i)) := fun _ _ _ H _ I h => wpAny_Constant_int ⟨.int i, H, I.tok _, ⟨_, rfl⟩, h⟩
theorem pe_bl {b j pos} : PE X (.Constant (.bool b) j pos) (tC (.bl b)) := fun _ _ _ H _ I h => Constant_bool ⟨.bl b, H, I, rfl, h⟩
theorem pe_str {x j pos} : PE X (.Constant (.str x) j pos) (tC (.str x)) := fun _ _ _ H _ I h => Calls.Constant_str ⟨.str x, H, I.tok _, ⟨_, rfl⟩, h⟩

/-- a global name of the def -/
def Gl (X : Cx) (x : Str) : Prop := X.env.kindOf x = some .globalImplicit
theorem ld_glob {E : Value → Shared → Prop} {pins : List (Addr × Obj)} {s : Shared} {σ : St} {H : Hp} {x : Str} {u : Value} {pos : Pos} {Q : Value → Shared → Prop} (I : Inv X pins σ H s) (hg : Gl X x) (hm : X.mg x = some u) (h : Q u s)
    (hd : (x == ("__debug__" : Str)) = false := by decide) : wpAny (model X.prog X.w) X.A (eval (.Name x pos) X.env) Q E s :=
  Calls.Name_function_global I.ok.kind hg (Calls.loadGlobal_global (by rw [I.ok.glob]; exact I.mod.glob.keeps I.bk) hm h) hd
theorem ld_blt {E : Value → Shared → Prop} {pins : List (Addr × Obj)} {s : Shared} {σ : St} {H : Hp} {x : Str} {u : Value} {pos : Pos} {Q : Value → Shared → Prop} (I : Inv X pins σ H s) (hg : Gl X x) (hm : X.mg x = none) (hv : bootBuiltins x = some u) (h : Q u s)
    (hn : x ≠ "__name__" := by decide) (hd : (x == ("__debug__" : Str)) = false := by decide) : wpAny (model X.prog X.w) X.A (eval (.Name x pos) X.env) Q E s := by
  obtain ⟨mb, h1, h2⟩ := I.mod.blt
  exact Calls.Name_function_global I.ok.kind hg (Calls.loadGlobal_builtin (by rw [I.ok.glob]; exact I.mod.glob.keeps I.bk) hm (by rw [I.ok.blt]; exact h1.keeps I.bk) ((h2 x hn).trans hv) h) hd
/-- a module's constant, a class, a function, as a value -/
theorem pe_glob {x : Str} {v : V} {u : Value} {pos : Pos} (hg : Gl X x) (hm : X.mg x = some u) (r : RelV v u) (hd : (x == ("__debug__" : Str)) = false := by decide) : PE X (.Name x pos) (tC v) :=
  fun _ _ _ H _ I h => ld_glob I hg hm ⟨v, H, I, r, h⟩ hd
theorem pe_bltn {x : Str} {v : V} {u : Value} {pos : Pos} (hg : Gl X x) (hm : X.mg x = none) (hv : bootBuiltins x = some u) (r : RelV v u) (hn : x ≠ "__name__" := by decide) (hd : (x == ("__debug__" : Str)) = false := by decide) : PE X (.Name x pos) (tC v) :=
  fun _ _ _ H _ I h => ld_blt I hg hm hv ⟨v, H, I, r, h⟩ hn hd

/-! ### arithmetic -/
variable {a b : Expr} {ta tb : TE} {pos : Pos}
/-! ### comparisons -/
/-- a comparison as a value, as a test -/
def tB (t : TE) : TT := fun σ H Q => t σ H fun x H1 => ∃ c, x = .bl c ∧ Q c H1
/-- an expression whose value is a bool, as a test -/
theorem pt_val {e : Expr} {t : TE} (h : PE X e t) (he : ∀ whole, isTrue e X.env whole = (do let v ← whole; standAt e.pos; holding [v] (truthy v)) := by intro _; rfl) : PT X e (tB t) := by
  intro pins s σ H Q I hw
  refine isTrue_plain (thn (h pins s σ H _ I hw) fun v s1 ⟨x, H1, I1, r1, q1⟩ => ?_) (he _)
  obtain ⟨d, rfl, q⟩ := q1
  cases r1
  exact wpAny_truthy_bool ⟨H1, I1, q⟩

/-! ### and, or, not -/
variable {tA tB' : TT} {rest : List Expr}
def tOr (t u : TT) : TT := fun σ H Q => t σ H fun c H1 => if c = true then Q true H1 else u σ H1 Q
def tNot (t : TT) : TT := fun σ H Q => t σ H fun c H1 => Q (!c) H1
theorem pw_or1 (ha : PT X a tA) : PW X (.BoolOp .Or [a] pos) tA := by
  intro wh pins s σ H Q I h
  refine isTrue_or (thn (ha pins s σ H Q I h) fun c s1 e => ?_)
  cases c with
  | false => exact isTrue_or_nil e
  | true => exact e
theorem pw_or (ha : PT X a tA) (hb : PW X (.BoolOp .Or (b :: rest) pos) tB') : PW X (.BoolOp .Or (a :: b :: rest) pos) (tOr tA tB') := by
  intro wh pins s σ H Q I h
  refine isTrue_or (thn (ha pins s σ H _ I h) fun c s1 ⟨H1, I1, q1⟩ => ?_)
  cases c with
  | true => exact ⟨H1, I1, q1⟩
  | false => exact hb wh pins s1 σ H1 Q I1 q1
theorem pt_not (ha : PT X a tA) : PT X (.UnaryOp .Not a pos) (tNot tA) := by
  intro pins s σ H Q I h
  exact isTrue_not (ha pins s σ H (fun c H1 => Q (!c) H1) I h)
end
end L2

namespace L2
open PySem PySem.Spec PyProof.Rows

/-! ### a list, a tuple that is read: tracked, frozen, or an object of the module -/
def SqL (K : PySem.W.Frag) (H : Hp) (a : Addr) (xs : List V) : Prop :=
  Rd H a (.lst xs) ∨
    ∃ (o : Obj) (its : Array Value) (n : Nat), K.lookup a = some o ∧ o.cls = .type "list" ∧ o.dict = none ∧ o.data = .seq its n ∧ its.size ≤ sizeLine ∧ Vals xs its.toList
def SqT (K : PySem.W.Frag) (H : Hp) (a : Addr) (xs : List V) : Prop :=
  Rd H a (.tup xs) ∨
    ∃ (o : Obj) (its : Array Value) (n : Nat), K.lookup a = some o ∧ o.cls = .type "tuple" ∧ o.data = .seq its n ∧ its.size ≤ sizeLine ∧ Vals xs its.toList
def absV : Value → Option V
  | .none => some .non
  | .bool b => some (.bl b)
  | .int i _ => some (.int i)
  | .str x _ => some (.str x)
  | .bytes b _ => some (.byt b)
  | .float b _ => some (.flt b)
  | .ref a => some (.ref a)
  | .type n => some (.ty n)
  | _ => none
theorem RelV.abs {x : V} {u : Value} (r : RelV x u) : absV u = some x := by
  cases x with
  | non => cases r; rfl
  | bl _ => cases r; rfl
  | int _ => obtain ⟨t, rfl⟩ := r; rfl
  | str _ => obtain ⟨t, rfl⟩ := r; rfl
  | byt _ => obtain ⟨t, rfl⟩ := r; rfl
  | flt _ => obtain ⟨t, rfl⟩ := r; rfl
  | ref _ => cases r; rfl
  | ty _ => cases r; rfl
theorem RelV.inj {x y : V} {u : Value} (r : RelV x u) (q : RelV y u) : x = y := Option.some.inj (r.abs.symm.trans q.abs)
theorem Vals.inj : ∀ {xs ys : List V} {us : List Value}, Vals xs us → Vals ys us → xs = ys
  | _, _, _, .nil, .nil => rfl
  | _, _, _, .cons r t, .cons r' t' => by rw [r.inj r', Vals.inj t t']
section
variable {X : Cx} {pins : List (Addr × Obj)} {σ : St} {H : Hp} {s : Shared} {a : Addr} {xs ys : List V}
theorem SqL.of {K : PySem.W.Frag} (h : H a = some (.lst xs)) : SqL K H a xs := .inl (.inl h)
theorem SqT.of {K : PySem.W.Frag} (h : H a = some (.tup xs)) : SqT K H a xs := .inl (.inl h)
theorem Inv.list (I : Inv X pins σ H s) (h : SqL X.K H a xs) : ∃ its : List Value, Vals xs its ∧ PlainL s.heap a its.toArray ∧ xs.length ≤ sizeLine := by
  rcases h with h | ⟨o, its, n, hk, hc, hd, hs, hz, r⟩
  · obtain ⟨z, its, n, r, e⟩ := h.ok I.hok
    exact ⟨its, r, ⟨_, n, e, rfl, rfl, rfl⟩, z⟩
  · refine ⟨its.toList, r, ⟨o, n, I.kIn a o hk, hc, hd, by simpa using hs⟩, ?_⟩
    have e := r.length
    simp only [Array.length_toList] at e
    omega
theorem Inv.tuple (I : Inv X pins σ H s) (h : SqT X.K H a xs) : ∃ its : List Value, Vals xs its ∧ IsTup s.heap a its.toArray ∧ xs.length ≤ sizeLine := by
  rcases h with h | ⟨o, its, n, hk, hc, hs, hz, r⟩
  · obtain ⟨z, its, r, p⟩ := h.ok I.hok
    exact ⟨its, r, p, z⟩
  · refine ⟨its.toList, r, ⟨o, I.kIn a o hk, hc, n, by simpa using hs⟩, ?_⟩
    have e := r.length
    simp only [Array.length_toList] at e
    omega
theorem Inv.list_inj (I : Inv X pins σ H s) (h : SqL X.K H a xs) (h' : SqL X.K H a ys) : xs = ys := by
  obtain ⟨its, r, ⟨o, n, e, _, _, d⟩, _⟩ := I.list h
  obtain ⟨its', r', ⟨o', n', e', _, _, d'⟩, _⟩ := I.list h'
  rw [e] at e'; cases e'
  rw [d] at d'
  injection d' with d1 _
  have : its = its' := by simpa using congrArg Array.toList d1
  subst this
  exact r.inj r'
theorem Inv.tuple_inj (I : Inv X pins σ H s) (h : SqT X.K H a xs) (h' : SqT X.K H a ys) : xs = ys := by
  obtain ⟨its, r, ⟨o, e, _, n, d⟩, _⟩ := I.tuple h
  obtain ⟨its', r', ⟨o', e', _, n', d'⟩, _⟩ := I.tuple h'
  rw [e] at e'; cases e'
  rw [d] at d'
  injection d' with d1 _
  have : its = its' := by simpa using congrArg Array.toList d1
  subst this
  exact r.inj r'
end

/-! ### another wish about exceptions -/
abbrev Cx.wish (X : Cx) (E : Value → Shared → Prop) : Cx := { X with xe := E }
/-- no exception leaves -/
abbrev Cx.nox (X : Cx) : Cx := X.wish fun _ _ => False
theorem Cx.Ok.wish {X : Cx} (ok : X.Ok) (E : Value → Shared → Prop) : (X.wish E).Ok :=
  ⟨ok.mod, ok.kind, ok.glob, ok.blt, ok.above, ok.inj, ok.has, ok.cab, ok.hd, ok.frames, ok.stk, ok.exf, ok.bs, ok.bsz, ok.noex, ok.exfs, ok.funs, ok.frf⟩
theorem Cx.Ok.unwish {X : Cx} {E : Value → Shared → Prop} (ok : (X.wish E).Ok) : X.Ok :=
  ⟨ok.mod, ok.kind, ok.glob, ok.blt, ok.above, ok.inj, ok.has, ok.cab, ok.hd, ok.frames, ok.stk, ok.exf, ok.bs, ok.bsz, ok.noex, ok.exfs, ok.funs, ok.frf⟩
section
variable {X : Cx} {pins : List (Addr × Obj)} {σ : St} {H : Hp} {s : Shared} {E : Value → Shared → Prop}
theorem Inv.wish (I : Inv X pins σ H s) (E : Value → Shared → Prop) : Inv (X.wish E) pins σ H s := ⟨I.ok.wish E, I.os, I.bare, I.base, I.loc, I.cell, I.free, I.freeC, I.pin, I.hok, I.len⟩
theorem Inv.unwish (I : Inv (X.wish E) pins σ H s) : Inv X pins σ H s := ⟨I.ok.unwish, I.os, I.bare, I.base, I.loc, I.cell, I.free, I.freeC, I.pin, I.hok, I.len⟩
theorem SP.unwish {D : Ends} {f : Flow} {s' : Shared} (h : SP (X.wish E) pins D f s') : SP X pins D f s' := by
  cases f with
  | next => obtain ⟨σ', H', I, q⟩ := h; exact ⟨σ', H', I.unwish, q⟩
  | brk => obtain ⟨σ', H', I, q⟩ := h; exact ⟨σ', H', I.unwish, q⟩
  | cont => obtain ⟨σ', H', I, q⟩ := h; exact ⟨σ', H', I.unwish, q⟩
  | ret u => obtain ⟨v, σ', H', I, r, q⟩ := h; exact ⟨v, σ', H', I.unwish, r, q⟩
theorem PE.nox {e : Expr} {t : TE} (h : PE X.nox e t) : PE X e t := fun pins s σ H Q I hw =>
  wpAny_mono (h pins s σ H Q (I.wish _) hw) (fun _ _ ⟨v, H', I', r, q⟩ => ⟨v, H', I'.unwish, r, q⟩) fun _ _ z => False.elim z
theorem PT.nox {e : Expr} {t : TT} (h : PT X.nox e t) : PT X e t := fun pins s σ H Q I hw =>
  wpAny_mono (h pins s σ H Q (I.wish _) hw) (fun _ _ ⟨H', I', q⟩ => ⟨H', I'.unwish, q⟩) fun _ _ z => False.elim z
theorem PSs.nox {st : List Stmt} {t : TS} (h : PSs X.nox st t) : PSs X st t := fun pins s σ H D I hw =>
  wpAny_mono (h pins s σ H D (I.wish _) hw) (fun _ _ q => q.unwish) fun _ _ z => False.elim z
end

/-! ### blocks and small statements -/
section
variable {X : Cx} {st : Stmt} {rest : List Stmt} {t u : TS} {e : Expr} {te : TE} {pos : Pos}
def tNext : TS := fun D σ H => D.nx σ H
def tSeq (t u : TS) : TS := fun D σ H => t { D with nx := u D } σ H
theorem pss_nil : PSs X [] tNext := fun _ _ σ H _ I h => wpAny_execs_nil ⟨σ, H, I, h⟩
theorem pss_cons (h1 : PS X st t) (h2 : PSs X rest u) : PSs X (st :: rest) (tSeq t u) := by
  intro pins s σ H D I h
  refine wpAny_execs_cons (thn (h1 pins s σ H { D with nx := u D } I h) fun f s1 q => ?_)
  cases f with
  | next =>
    obtain ⟨σ', H', I', q⟩ := q
    exact h2 pins s1 σ' H' D I' q
  | ret v => exact q
  | brk => exact q
  | cont => exact q
theorem pss_one (h1 : PS X st t) : PSs X [st] t := by
  intro pins s σ H D I h
  refine wpAny_execs_cons (thn (h1 pins s σ H D I h) fun f s1 q => ?_)
  cases f with
  | next => exact wpAny_execs_nil q
  | ret v => exact q
  | brk => exact q
  | cont => exact q
/-- in a def's body nothing is shown -/
theorem Inv.quiet {pins : List (Addr × Obj)} {σ : St} {H : Hp} {s : Shared} (I : Inv X pins σ H s) : interactive X.env = false := by simp [interactive, I.ok.kind]
/-- an expression whose value is dropped -/
def tDrop (te : TE) : TS := fun D σ H => te σ H fun _ H1 => D.nx σ H1
theorem ps_expr (he : PE X e te) (hs : swapsWith e none pos.line X.env = pure false := by rfl) : PS X (.Expr e pos) (tDrop te) := by
  intro pins s σ H D I h
  exact wpAny_Expr_any (thn (he pins s σ H _ I h) fun v s1 ⟨x, H1, I1, r1, q1⟩ => ⟨σ, H1, I1, q1⟩) I.quiet hs
def tRet (te : TE) : TS := fun D σ H => te σ H D.rt
theorem ps_ret (he : PE X e te) : PS X (.Return (some e) pos) (tRet te) := by
  intro pins s σ H D I h
  exact wpAny_Return_some (thn (he pins s σ H _ I h) fun v s1 ⟨x, H1, I1, r1, q1⟩ => ⟨x, σ, H1, I1, r1, q1⟩)
def tIfS (c : TT) (t u : TS) : TS := fun D σ H => c σ H fun b H1 => if b = true then t D σ H1 else u D σ H1
theorem ps_if {c : Expr} {a b : List Stmt} {tc : TT} (hc : PT X c tc) (ha : PSs X a t) (hb : PSs X b u) : PS X (.If c a b pos) (tIfS tc t u) := by
  intro pins s σ H D I h
  refine wpAny_If (thn (hc pins s σ H _ I h) fun d s1 ⟨H1, I1, q1⟩ => ?_)
  cases d with
  | true => exact ha pins s1 σ H1 D I1 q1
  | false => exact hb pins s1 σ H1 D I1 q1
end

/-! ### targets -/
abbrev TG := V → St → Hp → (St → Hp → Prop) → Prop
def PG (X : Cx) (target : Expr) (t : TG) : Prop :=
  ∀ (pins : List (Addr × Obj)) (s : Shared) (σ : St) (H : Hp) (v : V) (u : Value) (Q : St → Hp → Prop), Inv X pins σ H s → RelV v u → t v σ H Q →
    wpAny (model X.prog X.w) X.A (assign target X.env u) (fun _ s' => ∃ σ' H', Inv X pins σ' H' s' ∧ Q σ' H') X.xe s
/-- o[i] = v, by values -/
abbrev TSet := V → V → V → Hp → (Hp → Prop) → Prop
def PSet (X : Cx) (t : TSet) : Prop :=
  ∀ (pins : List (Addr × Obj)) (s : Shared) (σ : St) (H : Hp) (o i v : V) (ov iv u : Value) (Q : Hp → Prop), Inv X pins σ H s → RelV o ov → RelV i iv → RelV v u → t o i v H Q →
    wpAny (model X.prog X.w) X.A (setItem ov iv u) (fun _ s' => ∃ H', Inv X pins σ H' s' ∧ Q H') X.xe s
/-- a op= b, by values -/
abbrev TIp := V → V → Hp → VK → Prop
def PIp (X : Cx) (op : Operator) (t : TIp) : Prop :=
  ∀ (pins : List (Addr × Obj)) (s : Shared) (σ : St) (H : Hp) (x y : V) (v u : Value) (Q : VK), Inv X pins σ H s → RelV x v → RelV y u → t x y H Q →
    wpAny (model X.prog X.w) X.A (inplaceOp op v u) (EP X pins σ Q) X.xe s
section
variable {X : Cx} {pos : Pos}
def gName (i : Nat) : TG := fun v σ H Q => Q (σ.set i (some v)) H
theorem pg_name {i : Nat} {x : Str} (hN : X.N.Nodup) (hi : X.N[i]? = some x) (hx : Loc X.env.scope x) (hf : X.fn x = true ∨ X.env.scope.names.lookup x = some .local := by first | exact .inl rfl | exact .inr rfl | assumption) : PG X (.Name x pos) (gName i) := by
  intro pins s σ H v u Q I r h
  exact wpAny_assign_Name (store_ok I hN hi hx r (fun s' I' => ⟨_, H, I', h⟩) hf)
/-- o[i] = .. -/
def gSub (to ti : TE) (t : TSet) : TG := fun v σ H Q => to σ H fun o H1 => ti σ H1 fun i H2 => t o i v H2 fun H3 => Q σ H3
theorem pg_sub {o i : Expr} {to ti : TE} {t : TSet} (ho : PE X o to) (hi : PE X i ti) (hs : PSet X t)
    (ha : ∀ v, assign (.Subscript o i pos) X.env v = (do
      let ov ← holding [v] (eval o X.env)
      let iv ← holding [v, ov] (eval i X.env)
      standAt pos
      holding [v, ov, iv] (setItem ov iv v)
      release [v, ov, iv] []) := by intro _; rfl) : PG X (.Subscript o i pos) (gSub to ti t) := by
  intro pins s σ H v u Q I r h
  rw [ha]
  refine wpAny_bind (wpAny_holding (thn (ho pins s σ H _ I h) fun ov s1 ⟨x, H1, I1, r1, q1⟩ => ?_))
  refine wpAny_bind (wpAny_holding (thn (hi pins s1 σ H1 _ I1 q1) fun iv s2 ⟨y, H2, I2, r2, q2⟩ => ?_))
  refine wpAny_bind (wpAny_standAt (wpAny_bind (wpAny_holding (thn (hs pins s2 σ H2 x y v ov iv u _ I2 r1 r2 r q2) fun _ s3 ⟨H3, I3, q3⟩ => ?_))))
  exact wpAny_release ⟨σ, H3, I3, q3⟩
/-- target = value -/
def tAsg (te : TE) (g : TG) : TS := fun D σ H => te σ H fun x H1 => g x σ H1 D.nx
theorem ps_asg {tg e : Expr} {te : TE} {g : TG} (he : PE X e te) (hg : PG X tg g) (hs : swapsWithSole [tg] e pos.line X.env = pure false := by rfl) (hw : swappedStores [tg] e X.env = pure none := by rfl)
    (h1 : (assignEach [tg] X.env).map (·.2) = [assign tg X.env] := by rfl) : PS X (.Assign [tg] e pos) (tAsg te g) := by
  intro pins s σ H D I h
  refine wpAny_Assign_stores (thn (he pins s σ H _ I h) fun v s1 ⟨x, H1, I1, r1, q1⟩ => ?_) hs hw
  rw [h1]
  exact thn (hg pins s1 σ H1 x v _ I1 r1 q1) fun _ s2 q => q
/-- name = value -/
theorem ps_set {i : Nat} {x : Str} {e : Expr} {te : TE} {pos' : Pos} (hN : X.N.Nodup) (hi : X.N[i]? = some x) (hx : Loc X.env.scope x) (he : PE X e te) (hs : swapsWith e (some (.Name x pos')) pos.line X.env = pure false := by rfl) (hf : X.fn x = true ∨ X.env.scope.names.lookup x = some .local := by first | exact .inl rfl | exact .inr rfl | assumption) :
    PS X (.Assign [.Name x pos'] e pos) (tAsg te (gName i)) := by
  intro pins s σ H D I h
  refine wpAny_Assign_Name (thn (he pins s σ H _ I h) fun v s1 ⟨y, H1, I1, r1, q1⟩ => ?_) hs
  exact store_ok I1 hN hi hx r1 (fun s2 I2 => ⟨_, H1, I2, q1⟩) hf
/-- o[i] op= e -/
def tAugS (to ti te : TE) (tget : V → V → Hp → VK → Prop) (tip : TIp) (tset : TSet) : TS := fun D σ H => to σ H fun o H1 => ti σ H1 fun i H2 => tget o i H2 fun x H3 => te σ H3 fun y H4 => tip x y H4 fun z H5 => tset o i z H5 fun H6 => D.nx σ H6
/-- o[i], by values -/
def PGet (X : Cx) (t : V → V → Hp → VK → Prop) : Prop :=
  ∀ (pins : List (Addr × Obj)) (s : Shared) (σ : St) (H : Hp) (o i : V) (ov iv : Value) (Q : VK), Inv X pins σ H s → RelV o ov → RelV i iv → t o i H Q →
    wpAny (model X.prog X.w) X.A (getItem ov iv) (EP X pins σ Q) X.xe s
theorem ps_augS {o i e : Expr} {to ti te : TE} {tget : V → V → Hp → VK → Prop} {tip : TIp} {tset : TSet} {op : Operator} {tpos : Pos} (ho : PE X o to) (hi : PE X i ti) (hg : PGet X tget) (he : PE X e te) (hp : PIp X op tip) (hs : PSet X tset)
    (ha : ∀ ov iv new, augStore i ov iv new = (do holding [new, ov, iv] (setItem ov iv new); release [new, ov, iv] []; pure .next) := by intros; rfl) : PS X (.AugAssign (.Subscript o i tpos) op e pos) (tAugS to ti te tget tip tset) := by
  intro pins s σ H D I h
  refine wpAny_AugAssign_SubscriptAny (thn (ho pins s σ H _ I h) fun ov s1 ⟨x1, H1, I1, r1, q1⟩ => ?_) ha
  refine thn (hi pins s1 σ H1 _ I1 q1) fun iv s2 ⟨x2, H2, I2, r2, q2⟩ => ?_
  refine thn (hg pins s2 σ H2 x1 x2 ov iv _ I2 r1 r2 q2) fun old s3 ⟨x3, H3, I3, r3, q3⟩ => ?_
  refine thn (he pins s3 σ H3 _ I3 q3) fun v s4 ⟨x4, H4, I4, r4, q4⟩ => ?_
  refine thn (hp pins s4 σ H4 x3 x4 old v _ I4 r3 r4 q4) fun new s5 ⟨x5, H5, I5, r5, q5⟩ => ?_
  exact thn (hs pins s5 σ H5 x1 x2 x5 ov iv new _ I5 r1 r2 r5 q5) fun _ s6 ⟨H6, I6, q6⟩ => ⟨σ, H6, I6, q6⟩
/-- ints -/
def ipI (f : Int → Int → Int) : TIp := fun x y H Q => ∃ i j, x = .int i ∧ y = .int j ∧ Q (.int (f i j)) H
theorem ip_add : PIp X .Add (ipI fun i j => i + j) := by
  intro pins s σ H x y v u Q I r1 r2 h
  obtain ⟨i, j, e1, e2, q⟩ := h
  subst e1; subst e2
  obtain ⟨t, rfl⟩ := r1
  obtain ⟨t', rfl⟩ := r2
  exact iadd_int ⟨.int _, H, I.tok _, ⟨_, rfl⟩, q⟩
end

/-! ### while -/
section
variable {X : Cx} {pos : Pos}
end

/-! ### what a loop or a comprehension walks -/
/-- at turn i: it yields x (the heap may grow), or it stops -/
structure It where
  go : Nat → Hp → Prop
  yld : Nat → Hp → V → Hp → Prop
  stop : Nat → Hp → Prop
/-- the iterator's own objects may turn: they are not the frame's, not pinned, younger than the entry (or a comprehension's own) -/
def FpOk (X : Cx) (pins : List (Addr × Obj)) (H : Hp) (b : Addr) : Prop :=
  H b = none ∧ b ≠ X.env.locals ∧ b ∉ X.fs ∧ (b ∈ X.ex ∨ X.s₀.heap.objs.size ≤ b) ∧ (∀ x c, X.env.cells.lookup x = some c → c ≠ b) ∧ ∀ p ∈ X.pn ++ pins, p.1 ≠ b
theorem Inv.fpOk {X : Cx} {pins : List (Addr × Obj)} {σ : St} {H H' : Hp} {s : Shared} {b : Addr} (I : Inv X pins σ H s) (hb : s.heap.objs.size ≤ b) (hn : H' b = none) : FpOk X pins H' b := by
  refine ⟨hn, Nat.ne_of_gt (Nat.lt_of_lt_of_le I.lt hb), I.nofs hb, .inr (Nat.le_trans I.sz hb), fun x c e z => ?_, fun p hp z => ?_⟩
  · obtain ⟨v, q⟩ := I.cell x c e
    exact absurd (Nat.lt_of_lt_of_le q.lt (by rw [z]; exact hb)) (Nat.lt_irrefl _)
  · exact absurd (Nat.lt_of_lt_of_le (Heap.lt_size (I.pin p hp).1) (by rw [z]; exact hb)) (Nat.lt_irrefl _)
structure Turn (P : Program) (w : World) (K : PySem.W.Frag) (tg : Expr) (J : It) (fp : List Addr) (it : Addr) (tn : Nat → Heap → Prop) : Prop where
  mem : it ∈ fp
  obj : ∀ i h, tn i h → ∀ b ∈ fp, ∃ o, h.get? b = some o ∧ ∀ v, o.data ≠ .cell v
  keep : ∀ i h h', tn i h → (∀ b ∈ fp, ∀ o, h.get? b = some o → h'.get? b = some o) → tn i h'
  item : ∀ (X : Cx), X.prog = P → X.w = w → X.K = K → X.calm = true → ∀ (i : Nat) (pins : List (Addr × Obj)) (s : Shared) (σ : St) (H : Hp) (E : Value → Shared → Prop), Inv X pins σ H s → (∀ b ∈ fp, FpOk X pins H b) → tn i s.heap → J.go i H →
    wpAny (model P w) X.A (pyNext (.ref it)) (fun r s1 => ∃ u, r = some u ∧
      wpAny (model P w) X.A (letOwnedTupleGo tg (.ref it) u) (fun _ s2 => ∃ x H', Inv X pins σ H' s2 ∧ RelV x u ∧ J.yld i H x H' ∧ tn (i + 1) s2.heap ∧ ∀ b ∈ fp, H' b = none) E s1) E s
  done : ∀ (X : Cx), X.prog = P → X.w = w → X.K = K → X.calm = true → ∀ (i : Nat) (pins : List (Addr × Obj)) (s : Shared) (σ : St) (H : Hp) (E : Value → Shared → Prop), Inv X pins σ H s → (∀ b ∈ fp, FpOk X pins H b) → tn i s.heap → J.stop i H →
    wpAny (model P w) X.A (pyNext (.ref it)) (fun r s1 => r = none ∧ Inv X pins σ H s1) E s
  self : ∀ (A : Around) (i : Nat) (s : Shared) (Q : Value → Shared → Prop) (E : Value → Shared → Prop), tn i s.heap → Q (.ref it) s → wpAny (model P w) A (pyIter (.ref it)) Q E s
abbrev TI := St → Hp → (It → Hp → Prop) → Prop
/-- an iterator has come -/
def PIE (X : Cx) (pins : List (Addr × Obj)) (σ : St) (tg : Expr) (R : It → Hp → Prop) (itv : Value) (s2 : Shared) : Prop :=
  ∃ (it : Addr) (fp : List Addr) (tn : Nat → Heap → Prop) (J : It) (H' : Hp), itv = .ref it ∧ Inv X pins σ H' s2 ∧ Turn X.prog X.w X.K tg J fp it tn ∧ tn 0 s2.heap ∧ (∀ b ∈ fp, FpOk X pins H' b) ∧ R J H'
def PI (X : Cx) (tg iter : Expr) (wi : TI) : Prop :=
  ∀ (pins : List (Addr × Obj)) (s : Shared) (σ : St) (H : Hp) (R : It → Hp → Prop), Inv X pins σ H s → wi σ H R →
    wpAny (model X.prog X.w) X.A (eval iter X.env) (fun v s1 => wpAny (model X.prog X.w) X.A (pyIter v) (PIE X pins σ tg R) X.xe s1) X.xe s

/-- the step ahead of the store is nothing for an iterator that keeps no tuple -/
theorem go_of {M : Model} {A : Around} {E : Value → Shared → Prop} {s : Shared} {tg : Expr} {it : Addr} {u : Value} {o : Obj} {n : String} {vs : Array Value} {Q : Unit → Shared → Prop} (ho : s.heap.get? it = some o) (hc : o.cls = .type n) (hd : o.data = .fields vs)
    (hn : ["enumerate", "zip", "dict_itemiterator", "dict_reverseitemiterator", "odict_iterator", "itertools.zip_longest", "itertools.pairwise"].contains n = false) (hQ : Q () s) : wpAny M A (letOwnedTupleGo tg (.ref it) u) Q E s := by
  unfold letOwnedTupleGo
  cases tg <;> first
    | exact wpAny_pure hQ
    | (cases u <;> first
        | exact wpAny_pure hQ
        | (refine wpAny_bind (wpAny_load ho ?_)
           rw [hc, hd]
           show wpAny M A (if (["enumerate", "zip", "dict_itemiterator", "dict_reverseitemiterator", "odict_iterator", "itertools.zip_longest", "itertools.pairwise"].contains n && vs[0]? == some (rawInt _)) = true then _ else _) Q E s
           rw [if_neg (by intro h; rw [hn, Bool.false_and] at h; cases h)]
           exact wpAny_pure hQ))

/-- the list at a, as it stands at each turn (a loop may append to it) -/
def Itl (K : PySem.W.Frag) (a : Addr) : It :=
  ⟨fun i H => ∃ xs x, SqL K H a xs ∧ xs[i]? = some x, fun i H x H' => H' = H ∧ ∀ xs, SqL K H a xs → xs[i]? = some x, fun i H => ∃ xs, SqL K H a xs ∧ xs.length ≤ i⟩
/-- lo, lo + 1, .. (n of them) -/
def Itr (lo : Int) (n : Nat) : It := ⟨fun i _ => i < n, fun i H x H' => H' = H ∧ x = .int (lo + i), fun i _ => n ≤ i⟩
theorem turn_list {P : Program} {w : World} {K : PySem.W.Frag} {tg : Expr} (a it : Addr) : Turn P w K tg (Itl K a) [it] it (fun i h => h.IsListIter it a i) where
  mem := by simp
  obj := fun i h st b hb => by
    have e : b = it := by simpa using hb
    subst e
    obtain ⟨o, e, c, d⟩ := st
    exact ⟨o, e, fun v z => by rw [d] at z; cases z⟩
  keep := fun i h h' st k => st.at fun o e => k it (by simp) o e
  item := by
    intro X hP hw hK hc i pins s σ H E I hf st hg
    subst hP hw hK
    obtain ⟨xs, x, hq, hx⟩ := hg
    obtain ⟨its, rv, p, hz⟩ := I.list hq
    obtain ⟨u, hu, ru⟩ := rv.get hx
    obtain ⟨f0, f1, f2, f3, f4, f5⟩ := hf it (by simp)
    refine wpAny_pyNext_list_item st p.isList (x := u) (by simpa using hu) fun h' st' sb => ?_
    have I1 : Inv X pins σ H { s with heap := h' } := I.turned (t' := s.toks) (fun b o hb e => (sb.2 b hb).trans e) f0 f1 f3 f4 f5
    obtain ⟨o, e, c, d⟩ := id st'
    exact ⟨u, rfl, go_of (s := { s with heap := h' }) e c d (by decide) ⟨x, H, I1, ru, ⟨rfl, fun ys hy => by rw [I.list_inj hy hq]; exact hx⟩, st', fun b hb => (hf b hb).1⟩⟩
  done := by
    intro X hP hw hK hc i pins s σ H E I hf st hg
    subst hP hw hK
    obtain ⟨xs, hq, hx⟩ := hg
    obtain ⟨its, rv, p, hz⟩ := I.list hq
    obtain ⟨f0, f1, f2, f3, f4, f5⟩ := hf it (by simp)
    have hl := rv.length
    exact wpAny_pyNext_list_end (I.ok.hd hc) st p.isList (by simp; omega) fun h' eb => ⟨rfl, I.turned (t' := s.toks) (fun b o hb e => eb b o hb e) f0 f1 f3 f4 f5⟩
  self := fun _ _ _ _ _ st h => wpAny_pyIter_listiter st h
theorem turn_range {P : Program} {w : World} {K : PySem.W.Frag} {tg : Expr} (it : Addr) (lo : Int) (n : Nat) : Turn P w K tg (Itr lo n) [it] it (fun i h => IsRangeIter h it (lo + (i : Nat) * 1) ((n : Int) - (i : Nat)) 1) where
  mem := by simp
  obj := fun i h st b hb => by
    have e : b = it := by simpa using hb
    subst e
    exact ⟨_, st, fun v z => by
      have z' : Data.fields _ = Data.cell v := z
      cases z'⟩
  keep := fun i h h' st k => k it (by simp) _ st
  item := by
    intro X hP hw hK hc i pins s σ H E I hf st hg
    subst hP hw hK
    obtain ⟨f0, f1, f2, f3, f4, f5⟩ := hf it (by simp)
    have W := Walks.range (prog := X.prog) (w := X.w) (I.ok.hd hc) it lo 1 n
    refine W.item i s _ _ hg st fun v h' tk hv st' kk => ?_
    obtain ⟨t, rfl⟩ := hv
    have I1 : Inv X pins σ H { s with heap := h', toks := tk } := I.turned (fun b o hb e => kk b o (by simpa using hb) e) f0 f1 f3 f4 f5
    refine ⟨_, rfl, go_of (s := { s with heap := h', toks := tk }) (n := "range_iterator") st' rfl rfl (by decide) ⟨.int (lo + i), H, I1, ⟨t, ?_⟩, ⟨rfl, rfl⟩, st', fun b hb => (hf b hb).1⟩⟩
    rw [Int.mul_one]
  done := by
    intro X hP hw hK hc i pins s σ H E I hf st hg
    subst hP hw hK
    obtain ⟨f0, f1, f2, f3, f4, f5⟩ := hf it (by simp)
    exact wpAny_pyNext_range_end (I.ok.hd hc) st (by have : n ≤ i := hg; omega) fun h' eb => ⟨rfl, I.turned (t' := s.toks) (fun b o hb e => eb b o hb e) f0 f1 f3 f4 f5⟩
  self := fun _ _ _ _ _ st h => wpAny_pyIter_rangeiter st h
end L2

namespace L2
open PySem PySem.Spec PyProof.Rows
section
variable {X : Cx} {tg : Expr}
def iList (K : PySem.W.Frag) (tl : TE) : TI := fun σ H R => tl σ H fun x H1 => ∃ a, x = .ref a ∧ (∃ xs, SqL K H1 a xs) ∧ R (Itl K a) H1
theorem pi_list {l : Expr} {tl : TE} (hl : PE X l tl) : PI X tg l (iList X.K tl) := by
  intro pins s σ H R I h
  refine thn (hl pins s σ H _ I h) fun v s1 ⟨x, H1, I1, r1, q1⟩ => ?_
  obtain ⟨a, e, ⟨xs, hq⟩, q⟩ := q1
  subst e
  cases r1
  obtain ⟨its, rv, p, hz⟩ := I1.list hq
  refine wpAny_pyIter_list p.isList ?_
  refine ⟨s1.heap.objs.size, [s1.heap.objs.size], _, _, H1, rfl, I1.kept (t' := s1.toks) fun b o e => Heap.get?_push_of_some _ e, turn_list a _, ⟨_, Heap.get?_push_size _ rfl, rfl, rfl⟩, fun b hb => ?_, q⟩
  have e : b = s1.heap.objs.size := by simpa using hb
  subst e
  exact I1.fpOk (Nat.le_refl _) (I1.hok.fresh (Nat.le_refl _))
/-- a range object just made, walked -/
theorem range_it {pins : List (Addr × Obj)} {σ : St} {H : Hp} {s : Shared} {R : It → Hp → Prop} {E : Value → Shared → Prop} {lo hi : Int} {t u v : Tok} {tk : Nat} (I : Inv X pins σ H s) (h1 : -(2 ^ 62) ≤ lo) (h2 : lo < 2 ^ 62) (h3 : -(2 ^ 62) ≤ hi) (h4 : hi < 2 ^ 62)
    (q : R (Itr lo (hi - lo).toNat) H) : wpAny (model X.prog X.w) X.A (pyIter (.ref s.heap.objs.size)) (PIE X pins σ tg R) E { s with heap := s.heap.push { cls := .type "range", data := .fields #[.int lo t, .int hi u, .int 1 v] }, toks := tk } := by
  refine wpAny_pyIter_range (IsRange.new ..) (small_one h1 h2 h3 h4) ?_
  have I1 : Inv X pins σ H { s with heap := s.heap.push { cls := .type "range", data := .fields #[.int lo t, .int hi u, .int 1 v] }, toks := tk } := I.kept fun b o e => Heap.get?_push_of_some _ e
  refine ⟨(s.heap.push { cls := .type "range", data := .fields #[.int lo t, .int hi u, .int 1 v] }).objs.size, [(s.heap.push { cls := .type "range", data := .fields #[.int lo t, .int hi u, .int 1 v] }).objs.size], _, _, H, rfl,
    I1.kept (t' := tk) fun b o e => Heap.get?_push_of_some _ e, turn_range _ lo (hi - lo).toNat, ?_, fun b hb => ?_, q⟩
  · have e1 : lo + ((0 : Nat) : Int) * 1 = lo := by simp
    have e2 : (((hi - lo).toNat : Nat) : Int) - ((0 : Nat) : Int) = Builtin.Range.rangeSize lo hi 1 := by rw [rangeSize_one]; split <;> omega
    show IsRangeIter _ _ (lo + ((0 : Nat) : Int) * 1) ((((hi - lo).toNat : Nat) : Int) - ((0 : Nat) : Int)) 1
    rw [e1, e2]
    exact Heap.get?_push_size _ rfl
  · have e : b = (s.heap.push { cls := .type "range", data := .fields #[.int lo t, .int hi u, .int 1 v] }).objs.size := by simpa using hb
    subst e
    exact I1.fpOk (Nat.le_refl _) (I1.hok.fresh (Nat.le_refl _))
def iRng1 (ta : TA) : TI := fun σ H R => ta σ H fun vs H1 => ∃ j : Int, vs = [.int j] ∧ -(2 ^ 62) ≤ j ∧ j < 2 ^ 62 ∧ R (Itr 0 j.toNat) H1
theorem pi_range1 {a : Expr} {ta : TA} {p pos : Pos} (hg : Gl X "range") (hm : X.mg "range" = none) (ha : PA X [a] ta) (hs : starEach [a] X.env = [(false, eval a X.env)] := by rfl) : PI X tg (.Call (.Name "range" p) [a] [] pos) (iRng1 ta) := by
  intro pins s σ H R I h
  refine Call_ (ld_blt I hg hm boot_range (PyProof.Rows.callWith_type1 (thn (ha pos pins s σ H _ I h) fun us s1 ⟨vs, H1, I1, r1, q1⟩ => ?_) hs rfl))
  obtain ⟨j, e, q1, q2, q⟩ := q1
  subst e
  cases r1 with
  | cons r rr =>
    cases rr
    obtain ⟨t, rfl⟩ := r
    exact call_range_1 (range_it I1 (by omega) (by omega) q1 q2 (by simpa using q))
/-! ### for -/
/-- W: the invariant by the turn and a measure; N: what the body is to reach -/
def tFor (wi : TI) (g : TG) (tb : TS) : TS := fun D σ H => wi σ H fun J H1 => ∃ W : Nat → Nat → St → Hp → Prop, (∃ m, W 0 m σ H1) ∧ ∀ i m σ H, W i m σ H →
  (J.stop i H ∧ D.nx σ H) ∨ (J.go i H ∧ ∃ N : St → Hp → Prop, (∀ σ' H', N σ' H' → ∃ m', m' < m ∧ W (i + 1) m' σ' H') ∧ ∀ x H', J.yld i H x H' → g x σ H' fun σ2 H2 => tb { D with nx := N, ct := N, bk := D.nx } σ2 H2)
/-- the records at fp as they stand -/
def pinsAt (fp : List Addr) (h : Heap) : List (Addr × Obj) := fp.filterMap fun b => (h.get? b).map fun o => (b, o)
theorem mem_pinsAt {fp : List Addr} {h : Heap} {b : Addr} {o : Obj} (hb : b ∈ fp) (e : h.get? b = some o) : (b, o) ∈ pinsAt fp h := List.mem_filterMap.mpr ⟨b, hb, by rw [e]; rfl⟩
theorem of_pinsAt {fp : List Addr} {h : Heap} {p : Addr × Obj} (hp : p ∈ pinsAt fp h) : p.1 ∈ fp ∧ h.get? p.1 = some p.2 := by
  obtain ⟨b, hb, e⟩ := List.mem_filterMap.mp hp
  cases q : h.get? b with
  | none => rw [q] at e; cases e
  | some o =>
    rw [q] at e
    have e' : (b, o) = p := Option.some.inj e
    subst e'
    exact ⟨hb, q⟩
theorem Inv.pinned {pins : List (Addr × Obj)} {σ : St} {H : Hp} {s : Shared} {fp : List Addr} (I : Inv X pins σ H s) (hf : ∀ b ∈ fp, FpOk X pins H b) (ho : ∀ b ∈ fp, ∃ o, s.heap.get? b = some o ∧ ∀ v, o.data ≠ .cell v) : Inv X (pins ++ pinsAt fp s.heap) σ H s :=
  I.pins_of fun p hp => (List.mem_append.mp hp).elim (fun z => I.pin p (List.mem_append_right _ z)) fun z => by
    obtain ⟨hb, e⟩ := of_pinsAt z
    obtain ⟨f0, f1, f2, _⟩ := hf p.1 hb
    obtain ⟨o, e', d⟩ := ho p.1 hb
    rw [e] at e'; cases e'
    exact ⟨e, f0, f1, f2, d⟩
theorem Inv.unpinned {pins pl : List (Addr × Obj)} {σ : St} {H : Hp} {s : Shared} (I : Inv X (pins ++ pl) σ H s) : Inv X pins σ H s := I.pins_of fun p hp => I.pin p (List.mem_append_right _ (List.mem_append_left _ hp))
theorem ps_for {iter : Expr} {body : List Stmt} {wi : TI} {g : TG} {tb : TS} {pos : Pos} (hp : PassesOwn (model X.prog X.w) X.A X.env X.xe) (hc : X.calm = true) (hi : PI X tg iter wi) (hg : PG X tg g) (hb : PSs X body tb)
    (hs : ∀ x, foldedSetIterable iter X.env x = pure x := by intro _; rfl) : PS X (.For tg iter body [] pos) (tFor wi g tb) := by
  intro pins s σ H D I h
  refine wpAny_For (thn (hi pins s σ H _ I h) fun v s1 h1 => thn h1 fun itv s2 h2 => ?_) hs
  obtain ⟨it, fp, tn, J, H2, e, I2, T, st2, f2, W, ⟨m0, w0⟩, turn⟩ := h2
  subst e
  -- what stays true of the iterator's objects through the loop
  have stat : ∀ {H' : Hp}, (∀ b ∈ fp, H' b = none) → ∀ b ∈ fp, FpOk X pins H' b := fun hn b hb => ⟨hn b hb, (f2 b hb).2⟩
  refine codeAny_forLoop_any (fun n s' => ∃ i σ' H', Inv X pins σ' H' s' ∧ tn i s'.heap ∧ (∀ b ∈ fp, H' b = none) ∧ W i n σ' H') ?_ m0 ⟨0, σ, H2, I2, st2, fun b hb => (f2 b hb).1, w0⟩
  rintro n s3 ⟨i, σ3, H3, I3, st3, fr3, w3⟩
  rcases turn i n σ3 H3 w3 with ⟨stop, qn⟩ | ⟨go, N, hN, step⟩
  · refine wpAny_passesOwn hp (thn (T.done X rfl rfl rfl hc i pins s3 σ3 H3 X.xe I3 (stat fr3) st3 stop) fun r s4 ⟨hr, I4⟩ => ?_)
    subst hr
    exact wpAny_execs_nil ⟨σ3, H3, I4, qn⟩
  · refine wpAny_passesOwn hp (thn (T.item X rfl rfl rfl hc i pins s3 σ3 H3 X.xe I3 (stat fr3) st3 go) fun r s4 ⟨u, hr, h4⟩ => ?_)
    subst hr
    refine wpAny_passesOwn hp (thn h4 fun _ s5 ⟨x, H5, I5, r5, y5, st5, fr5⟩ => ?_)
    have I5' := I5.pinned (stat fr5) (T.obj _ _ st5)
    refine wpAny_passesOwn hp (thn (hg _ s5 σ3 H5 x u _ I5' r5 (step x H5 y5)) fun _ s6 ⟨σ6, H6, I6, q6⟩ => ?_)
    refine wpAny_passesOwn hp (thn (hb _ s6 σ6 H6 _ I6 q6) fun f s7 q7 => ?_)
    have again : ∀ {σ7 : St} {H7 : Hp}, Inv X (pins ++ pinsAt fp s5.heap) σ7 H7 s7 → N σ7 H7 → ∃ m, m < n ∧ ∃ i σ' H', Inv X pins σ' H' s7 ∧ tn i s7.heap ∧ (∀ b ∈ fp, H' b = none) ∧ W i m σ' H' := fun {σ7 H7} I7 n7 => by
      obtain ⟨m', hm, w7⟩ := hN σ7 H7 n7
      refine ⟨m', hm, i + 1, σ7, H7, I7.unpinned, T.keep _ _ _ st5 fun b hb o e => (I7.pin (b, o) (List.mem_append_right _ (List.mem_append_right _ (mem_pinsAt hb e)))).1, fun b hb => ?_, w7⟩
      obtain ⟨o, e, d⟩ := T.obj _ _ st5 b hb
      exact (I7.pin (b, o) (List.mem_append_right _ (List.mem_append_right _ (mem_pinsAt hb e)))).2.1
    cases f with
    | next => obtain ⟨σ7, H7, I7, n7⟩ := q7; exact again I7 n7
    | cont => obtain ⟨σ7, H7, I7, n7⟩ := q7; exact again I7 n7
    | brk => obtain ⟨σ7, H7, I7, q7⟩ := q7; exact ⟨σ7, H7, I7.unpinned, q7⟩
    | ret v => obtain ⟨x7, σ7, H7, I7, r7, q7⟩ := q7; exact ⟨x7, σ7, H7, I7.unpinned, r7, q7⟩
end

/-! ### the forms one uses -/
/-- over a list that the body leaves as it is -/
theorem for_list {K : PySem.W.Frag} {a : Addr} {xs : List V} {g : TG} {tb : TS} {D : Ends} {σ : St} {H : Hp} (Pv : Nat → St → Hp → Prop) (h0 : Pv 0 σ H) (hl : ∀ i σ H, i ≤ xs.length → Pv i σ H → SqL K H a xs)
    (hs : ∀ i x σ H, xs[i]? = some x → Pv i σ H → g x σ H fun σ2 H2 => tb { D with nx := Pv (i + 1), ct := Pv (i + 1), bk := D.nx } σ2 H2) (hd : ∀ σ H, Pv xs.length σ H → D.nx σ H) :
    ∃ W : Nat → Nat → St → Hp → Prop, (∃ m, W 0 m σ H) ∧ ∀ i m σ H, W i m σ H →
      ((Itl K a).stop i H ∧ D.nx σ H) ∨ ((Itl K a).go i H ∧ ∃ N : St → Hp → Prop, (∀ σ' H', N σ' H' → ∃ m', m' < m ∧ W (i + 1) m' σ' H') ∧ ∀ x H', (Itl K a).yld i H x H' → g x σ H' fun σ2 H2 => tb { D with nx := N, ct := N, bk := D.nx } σ2 H2) := by
  refine ⟨fun i m σ H => m = xs.length - i ∧ i ≤ xs.length ∧ Pv i σ H, ⟨xs.length, by simp, Nat.zero_le _, h0⟩, ?_⟩
  rintro i m σ H ⟨rfl, hi, p⟩
  have q := hl i σ H hi p
  by_cases hlt : i < xs.length
  · refine .inr ⟨⟨xs, xs[i], q, by simp [hlt]⟩, Pv (i + 1), fun σ' H' p' => ⟨xs.length - (i + 1), by omega, rfl, hlt, p'⟩, fun x H' y => ?_⟩
    obtain ⟨e, y⟩ := y
    subst e
    exact hs i x σ _ (y xs q) p
  · have e : i = xs.length := by omega
    subst e
    exact .inl ⟨⟨xs, q, Nat.le_refl _⟩, hd σ H p⟩
theorem for_range {lo : Int} {n : Nat} {g : TG} {tb : TS} {D : Ends} {σ : St} {H : Hp} (Pv : Nat → St → Hp → Prop) (h0 : Pv 0 σ H)
    (hs : ∀ i σ H, i < n → Pv i σ H → g (.int (lo + i)) σ H fun σ2 H2 => tb { D with nx := Pv (i + 1), ct := Pv (i + 1), bk := D.nx } σ2 H2) (hd : ∀ σ H, Pv n σ H → D.nx σ H) :
    ∃ W : Nat → Nat → St → Hp → Prop, (∃ m, W 0 m σ H) ∧ ∀ i m σ H, W i m σ H →
      ((Itr lo n).stop i H ∧ D.nx σ H) ∨ ((Itr lo n).go i H ∧ ∃ N : St → Hp → Prop, (∀ σ' H', N σ' H' → ∃ m', m' < m ∧ W (i + 1) m' σ' H') ∧ ∀ x H', (Itr lo n).yld i H x H' → g x σ H' fun σ2 H2 => tb { D with nx := N, ct := N, bk := D.nx } σ2 H2) := by
  refine ⟨fun i m σ H => m = n - i ∧ i ≤ n ∧ Pv i σ H, ⟨n, by simp, Nat.zero_le _, h0⟩, ?_⟩
  rintro i m σ H ⟨rfl, hi, p⟩
  by_cases hlt : i < n
  · refine .inr ⟨hlt, Pv (i + 1), fun σ' H' p' => ⟨n - (i + 1), by omega, rfl, hlt, p'⟩, fun x H' y => ?_⟩
    obtain ⟨e, y⟩ := y
    subst e y
    exact hs i σ _ hlt p
  · have e : i = n := by omega
    subst e
    exact .inl ⟨Nat.le_refl _, hd σ H p⟩
end L2

namespace L2
open PySem PySem.Spec PyProof.Rows

abbrev R2 := V → V → Hp → VK → Prop
/-- a two-place operation on values: f is binaryOp op, inplaceOp op or compareOp op -/
def OpR (X : Cx) (f : Value → Value → Sem Value) (r : R2) : Prop :=
  ∀ (pins : List (Addr × Obj)) (s : Shared) (σ : St) (H : Hp) (x y : V) (v u : Value) (Q : VK), Inv X pins σ H s → RelV x v → RelV y u → r x y H Q →
    wpAny (model X.prog X.w) X.A (f v u) (EP X pins σ Q) X.xe s
/-- a one-place operation -/
def UnR (X : Cx) (f : Value → Sem Value) (r : V → Hp → VK → Prop) : Prop :=
  ∀ (pins : List (Addr × Obj)) (s : Shared) (σ : St) (H : Hp) (x : V) (v : Value) (Q : VK), Inv X pins σ H s → RelV x v → r x H Q →
    wpAny (model X.prog X.w) X.A (f v) (EP X pins σ Q) X.xe s
/-- a call of a value that is known (a builtin, a type) with values -/
def CallR (X : Cx) (f : Value) (r : List V → Hp → VK → Prop) : Prop :=
  ∀ (pins : List (Addr × Obj)) (s : Shared) (σ : St) (H : Hp) (xs : List V) (us : List Value) (Q : VK), Inv X pins σ H s → Vals xs us → r xs H Q →
    wpAny (model X.prog X.w) X.A (call f us) (EP X pins σ Q) X.xe s
def tOp (r : R2) (ta tb : TE) : TE := fun σ H Q => ta σ H fun x H1 => tb σ H1 fun y H2 => r x y H2 Q
def tUn (r : V → Hp → VK → Prop) (ta : TE) : TE := fun σ H Q => ta σ H fun x H1 => r x H1 Q
/-- ints in, under C, and a value out -/
def rI (C : Int → Int → Prop) (g : Int → Int → V) : R2 := fun x y H Q => ∃ i j, x = .int i ∧ y = .int j ∧ C i j ∧ Q (g i j) H
def rI0 (g : Int → Int → V) : R2 := fun x y H Q => ∃ i j, x = .int i ∧ y = .int j ∧ Q (g i j) H
def rU (g : Int → V) : V → Hp → VK → Prop := fun x H Q => ∃ i, x = .int i ∧ Q (g i) H

section
variable {X : Cx} {a b c : Expr} {ta tb tc : TE} {pos : Pos}

theorem binT (ha : PE X a ta) (hb : PE X b tb) {pins : List (Addr × Obj)} {s : Shared} {σ : St} {H : Hp} {R : V → V → Hp → Prop} (I : Inv X pins σ H s)
    (h : ta σ H fun x H1 => tb σ H1 fun y H2 => R x y H2) {Q : Value → Shared → Prop} {f : Value → Value → Sem Value}
    (hf : ∀ v u s2 x y H2, Inv X pins σ H2 s2 → RelV x v → RelV y u → R x y H2 → wpAny (model X.prog X.w) X.A (f v u) Q X.xe s2) :
    wpAny (model X.prog X.w) X.A (eval a X.env) (fun v s₁ => wpAny (model X.prog X.w) X.A (eval b X.env) (fun u s₂ => wpAny (model X.prog X.w) X.A (f v u) Q X.xe s₂) X.xe s₁) X.xe s := by
  refine thn (ha pins s σ H _ I h) fun v s1 ⟨x, H1, I1, r1, q1⟩ => ?_
  refine thn (hb pins s1 σ H1 _ I1 q1) fun u s2 ⟨y, H2, I2, r2, q2⟩ => ?_
  exact hf v u s2 x y H2 I2 r1 r2 q2

theorem pe_op {op : Operator} {r : R2} (ho : OpR X (binaryOp op) r) (ha : PE X a ta) (hb : PE X b tb) : PE X (.BinOp a op b pos) (tOp r ta tb) := by
  intro pins s σ H Q I h
  exact wpAny_BinOp (binT ha hb I h fun v u s2 x y H2 I2 rx ry q => ho pins s2 σ H2 x y v u Q I2 rx ry q)
theorem pe_un {op : UnaryOp} {r : V → Hp → VK → Prop} (ho : UnR X (unaryOp op) r) (ha : PE X a ta) : PE X (.UnaryOp op a pos) (tUn r ta) := by
  intro pins s σ H Q I h
  exact UnaryOp_ (thn (ha pins s σ H _ I h) fun v s1 ⟨x, H1, I1, r1, q1⟩ => ho pins s1 σ H1 x v Q I1 r1 q1)
/-! ### ints -/
theorem opI {f : Value → Value → Sem Value} {C : Int → Int → Prop} {g : Int → Int → Int}
    (rule : ∀ (i j : Int) (t u : Tok) (s : Shared) (Q : Value → Shared → Prop) (E : Value → Shared → Prop), C i j → Q (.int (g i j) s.toks) { s with toks := s.toks + 1 } → wpAny (model X.prog X.w) X.A (f (.int i t) (.int j u)) Q E s) :
    OpR X f (rI C fun i j => .int (g i j)) := by
  intro pins s σ H x y v u Q I rx ry h
  obtain ⟨i, j, rfl, rfl, hc, q⟩ := h
  obtain ⟨t, rfl⟩ := rx
  obtain ⟨t', rfl⟩ := ry
  exact rule i j t t' s _ _ hc ⟨.int (g i j), H, I.tok _, ⟨_, rfl⟩, q⟩
theorem opI0 {f : Value → Value → Sem Value} {g : Int → Int → Int}
    (rule : ∀ (i j : Int) (t u : Tok) (s : Shared) (Q : Value → Shared → Prop) (E : Value → Shared → Prop), Q (.int (g i j) s.toks) { s with toks := s.toks + 1 } → wpAny (model X.prog X.w) X.A (f (.int i t) (.int j u)) Q E s) :
    OpR X f (rI0 fun i j => .int (g i j)) := by
  intro pins s σ H x y v u Q I rx ry h
  obtain ⟨i, j, rfl, rfl, q⟩ := h
  obtain ⟨t, rfl⟩ := rx
  obtain ⟨t', rfl⟩ := ry
  exact rule i j t t' s _ _ ⟨.int (g i j), H, I.tok _, ⟨_, rfl⟩, q⟩
theorem opB0 {f : Value → Value → Sem Value} {g : Int → Int → Bool}
    (rule : ∀ (i j : Int) (t u : Tok) (s : Shared) (Q : Value → Shared → Prop) (E : Value → Shared → Prop), Q (.bool (g i j)) s → wpAny (model X.prog X.w) X.A (f (.int i t) (.int j u)) Q E s) :
    OpR X f (rI0 fun i j => .bl (g i j)) := by
  intro pins s σ H x y v u Q I rx ry h
  obtain ⟨i, j, rfl, rfl, q⟩ := h
  obtain ⟨t, rfl⟩ := rx
  obtain ⟨t', rfl⟩ := ry
  exact rule i j t t' s _ _ ⟨.bl (g i j), H, I, rfl, q⟩

def CDiv (i j : Int) : Prop := 0 < j ∧ j < 1073741824
def CMul (i j : Int) : Prop := (-(2 ^ 64) < i ∧ i < 2 ^ 64) ∨ (-(2 ^ 64) < j ∧ j < 2 ^ 64)
theorem CMul.ok {i j : Int} (h : CMul i j) : IntMulOk i j := by
  rcases h with ⟨h1, h2⟩ | ⟨h1, h2⟩
  · exact .of_left (intBits_le_64 h1 h2)
  · exact .of_right (intBits_le_64 h1 h2)
theorem op_add : OpR X (binaryOp .Add) (rI0 fun i j => .int (i + j)) := opI0 fun _ _ _ _ _ _ _ q => add_int q
theorem op_sub : OpR X (binaryOp .Sub) (rI0 fun i j => .int (i - j)) := opI0 fun _ _ _ _ _ _ _ q => sub_int q
theorem op_mul : OpR X (binaryOp .Mult) (rI CMul fun i j => .int (i * j)) := opI fun _ _ _ _ _ _ _ hc q => mul_int q hc.ok
/-- // by a positive divisor -/
theorem op_fdiv : OpR X (binaryOp .FloorDiv) (rI CDiv fun i j => .int (i / j)) := opI fun i j _ _ _ _ _ hc q => by
  have h1 : (0 : Int) < j := hc.1
  have h2 : j < 1073741824 := hc.2
  exact floordiv_int (by omega) (by rw [Int.fdiv_eq_ediv_of_nonneg i (by omega)]; exact q) (.inl (PyProof.noPylong_small (by omega)))
/-- % by a positive divisor of any size -/
theorem op_mod : OpR X (binaryOp .Mod) (rI (fun _ j => 0 < j) fun i j => .int (i % j)) := opI fun i j _ _ _ _ _ hc q => by
  have h1 : (0 : Int) < j := hc
  exact mod_int' (by omega) (by rw [Int.fmod_eq_emod_of_nonneg i (by omega)]; exact q)
theorem unI {f : Value → Sem Value} {g : Int → Int}
    (rule : ∀ (i : Int) (t : Tok) (s : Shared) (Q : Value → Shared → Prop) (E : Value → Shared → Prop), Q (.int (g i) s.toks) { s with toks := s.toks + 1 } → wpAny (model X.prog X.w) X.A (f (.int i t)) Q E s) :
    UnR X f (rU fun i => .int (g i)) := by
  intro pins s σ H x v Q I rx h
  obtain ⟨i, rfl, q⟩ := h
  obtain ⟨t, rfl⟩ := rx
  exact rule i t s _ _ ⟨.int (g i), H, I.tok _, ⟨_, rfl⟩, q⟩
theorem un_neg : UnR X (unaryOp .USub) (rU fun i => .int (-i)) := unI fun _ _ _ _ _ q => neg_int q
/-! ### bools among ints: n += (a < b) -/
end

/-! ### comparisons -/
/-- the scalars that == tells apart as data does -/
def scal : V → V → Bool
  | .non, .non => true | .non, .int _ => true | .int _, .non => true | .non, .bl _ => true | .bl _, .non => true | .non, .str _ => true | .str _, .non => true
  | .int _, .int _ => true | .bl _, .bl _ => true | .str _, .str _ => true | .byt _, .byt _ => true
  | .int _, .str _ => true | .str _, .int _ => true | .bl _, .str _ => true | .str _, .bl _ => true
  | _, _ => false
def rEq : R2 := fun x y H Q => scal x y = true ∧ Q (.bl (decide (x = y))) H
theorem dec_int {i j : Int} : decide (V.int i = V.int j) = (i == j) := by
  rw [Bool.eq_iff_iff]
  simp
theorem dec_bl {i j : Bool} : decide (V.bl i = V.bl j) = (i == j) := by
  rw [Bool.eq_iff_iff]
  simp
theorem dec_str {i j : Str} : decide (V.str i = V.str j) = (i == j) := by
  rw [Bool.eq_iff_iff]
  simp
theorem dec_byt {i j : Array UInt8} : decide (V.byt i = V.byt j) = (i.toList == j.toList) := by
  rw [Bool.eq_iff_iff]
  cases i
  cases j
  simp

section
variable {X : Cx} {a b c : Expr} {ta tb tc : TE} {pos : Pos}
theorem fin_bl {pins : List (Addr × Obj)} {σ : St} {H : Hp} {s : Shared} {Q : VK} {k k' : Bool} (I : Inv X pins σ H s) (q : Q (.bl k) H) (e : k = k') : EP X pins σ Q (.bool k') s := by
  subst e
  exact ⟨.bl k, H, I, rfl, q⟩
theorem op_eq : OpR X (compareOp .Eq) rEq := by
  intro pins s σ H x y v u Q I rx ry h
  obtain ⟨hs, q⟩ := h
  cases x with
  | non =>
    cases rx
    cases y with
    | non => cases ry; exact PySem.EqNone.eq_none_none (fin_bl I q (by simp))
    | bl j => cases ry; exact PySem.EqNone.eq_none_bool (fin_bl I q (by simp))
    | int j => obtain ⟨t', rfl⟩ := ry; exact PySem.EqNone.eq_none_int (fin_bl I q (by simp))
    | str j => obtain ⟨t', rfl⟩ := ry; exact PySem.EqNone.eq_none_str (fin_bl I q (by simp))
    | _ => exact absurd (show false = true from hs) Bool.false_ne_true
  | bl i =>
    cases rx
    cases y with
    | non => cases ry; exact PySem.EqNone.eq_bool_none (fin_bl I q (by simp))
    | bl j => cases ry; exact eq_bool (fin_bl I q dec_bl)
    | str j => obtain ⟨t', rfl⟩ := ry; exact PySem.EqMixed.eq_bool_str (fin_bl I q (by simp))
    | _ => exact absurd (show false = true from hs) Bool.false_ne_true
  | int i =>
    obtain ⟨t, rfl⟩ := rx
    cases y with
    | non => cases ry; exact PySem.EqNone.eq_int_none (fin_bl I q (by simp))
    | int j => obtain ⟨t', rfl⟩ := ry; exact eq_int (fin_bl I q dec_int)
    | str j => obtain ⟨t', rfl⟩ := ry; exact PySem.EqMixed.eq_int_str (fin_bl I q (by simp))
    | _ => exact absurd (show false = true from hs) Bool.false_ne_true
  | str i =>
    obtain ⟨t, rfl⟩ := rx
    cases y with
    | non => cases ry; exact PySem.EqNone.eq_str_none (fin_bl I q (by simp))
    | bl j => cases ry; exact PySem.EqMixed.eq_str_bool (fin_bl I q (by simp))
    | int j => obtain ⟨t', rfl⟩ := ry; exact PySem.EqMixed.eq_str_int (fin_bl I q (by simp))
    | str j => obtain ⟨t', rfl⟩ := ry; exact eq_str (fin_bl I q dec_str)
    | _ => exact absurd (show false = true from hs) Bool.false_ne_true
  | byt i =>
    obtain ⟨t, rfl⟩ := rx
    cases y with
    | byt j => obtain ⟨t', rfl⟩ := ry; exact PySem.W.eq_bytes (fin_bl I q dec_byt)
    | _ => exact absurd (show false = true from hs) Bool.false_ne_true
  | _ => cases y <;> exact absurd (show false = true from hs) Bool.false_ne_true
theorem op_lt : OpR X (compareOp .Lt) (rI0 fun i j => .bl (decide (i < j))) := opB0 fun _ _ _ _ _ _ _ q => lt_int q
theorem op_le : OpR X (compareOp .LtE) (rI0 fun i j => .bl (decide (i ≤ j))) := opB0 fun _ _ _ _ _ _ _ q => le_int q
/-- two rules for one operation: by cases -/
theorem OpR.or {f : Value → Value → Sem Value} {r r' : R2} (h : OpR X f r) (h' : OpR X f r') : OpR X f (fun x y H Q => r x y H Q ∨ r' x y H Q) := by
  intro pins s σ H x y v u Q I rx ry q
  rcases q with q | q
  · exact h pins s σ H x y v u Q I rx ry q
  · exact h' pins s σ H x y v u Q I rx ry q

theorem nomark (b : Expr) {op : CmpOp} (h : op ≠ .In := by decide) (h2 : op ≠ .NotIn := by decide) : behindInMarks op b = false := by
  have e1 : (op == CmpOp.In) = false := by cases op <;> first | rfl | exact absurd rfl h
  have e2 : (op == CmpOp.NotIn) = false := by cases op <;> first | rfl | exact absurd rfl h2
  cases b <;> simp [behindInMarks, e1, e2]
/-- a comparison as a value; hm: nomark b, or (for in, not in) by with_unfolding_all rfl -/
theorem pe_cmpR {op : CmpOp} {r : R2} (ho : OpR X (compareOp op) r) (ha : PE X a ta) (hb : PE X b tb) (hm : behindInMarks op b = false) : PE X (.Compare a [op] [b] pos) (tOp r ta tb) := by
  intro pins s σ H Q I h
  exact wpAny_Compare1 (binT ha hb I h fun v u s2 x y H2 I2 rx ry q => ho pins s2 σ H2 x y v u Q I2 rx ry q) hm
/-- a reading of a value as a test -/
def tTest (t : TE) : TT := fun σ H Q => t σ H fun x H' => ∃ k, x = .bl k ∧ Q k H'
theorem pt_cmpR {op : CmpOp} {r : R2} (ho : OpR X (compareOp op) r) (ha : PE X a ta) (hb : PE X b tb) (hm : behindInMarks op b = false) : PT X (.Compare a [op] [b] pos) (tTest (tOp r ta tb)) := by
  intro pins s σ H Q I h
  refine wpAny_isTrue_Compare1 (thn (ha pins s σ H _ I h) fun v s1 ⟨x, H1, I1, r1, q1⟩ => thn (hb pins s1 σ H1 _ I1 q1) fun u s2 ⟨y, H2, I2, r2, q2⟩ =>
    thn (ho pins s2 σ H2 x y v u _ I2 r1 r2 q2) fun c s3 ⟨z, H3, I3, r3, k, e, q3⟩ => ?_) hm
  subst e
  cases r3
  exact wpAny_truthy_bool ⟨H3, I3, q3⟩
/-- a op1 b op2 c -/
def tChain (r r' : R2) (ta tb tc : TE) : TE := fun σ H Q => ta σ H fun x H1 => tb σ H1 fun y H2 => r x y H2 fun z H3 => ∃ k, z = .bl k ∧
  (if k = true then tc σ H3 fun w' H4 => r' y w' H4 Q else Q (.bl false) H3)
theorem pt_chain {op op' : CmpOp} {r r' : R2} (ho : OpR X (compareOp op) r) (ho' : OpR X (compareOp op') r') (ha : PE X a ta) (hb : PE X b tb) (hc : PE X c tc)
    (hm : lastMarks [op, op'] [b, c] = false := by with_unfolding_all rfl) : PT X (.Compare a [op, op'] [b, c] pos) (tTest (tChain r r' ta tb tc)) := by
  intro pins s σ H Q I h
  refine isTrue_chain (thn (ha pins s σ H _ I h) fun v s1 ⟨x, H1, I1, r1, q1⟩ => test_link (thn (hb pins s1 σ H1 _ I1 q1) fun u s2 ⟨y, H2, I2, r2, q2⟩ =>
    thn (ho pins s2 σ H2 x y v u _ I2 r1 r2 q2) fun d s3 ⟨z, H3, I3, r3, k, e, q3⟩ => ?_)) hm
  subst e
  cases r3
  refine wpAny_truthy_bool ?_
  cases k with
  | false =>
    obtain ⟨k', e', q'⟩ := q3
    cases e'
    exact ite_ff ⟨H3, I3, q'⟩
  | true =>
    refine ite_tt (test_last (thn (hc pins s3 σ H3 _ I3 q3) fun w' s4 ⟨z', H4, I4, r4, q4⟩ => thn (ho' pins s4 σ H4 y z' u w' _ I4 r2 r4 q4) fun d' s5 ⟨z2, H5, I5, r5, k2, e2, q5⟩ => ?_))
    subst e2
    cases r5
    exact wpAny_truthy_bool ⟨H5, I5, q5⟩

/-! ### truth -/
theorem line63 : (sizeLine : Nat) < 2 ^ 63 := by rw [sizeLine_eq]; decide
/-! ### strs and bytes -/
/-! ### scalar builtins, by CallR -/
theorem vals1 {x : V} {us : List Value} (r : Vals [x] us) : ∃ u, us = [u] ∧ RelV x u := by
  cases r with
  | cons r1 r2 => cases r2; exact ⟨_, rfl, r1⟩
theorem vals2 {x y : V} {us : List Value} (r : Vals [x, y] us) : ∃ u w', us = [u, w'] ∧ RelV x u ∧ RelV y w' := by
  cases r with
  | cons r1 r2 =>
    cases r2 with
    | cons r3 r4 => cases r4; exact ⟨_, _, rfl, r1, r3⟩
end
end L2

namespace L2
open PySem PySem.Spec PyProof.Rows

/-! ### an instance, its attributes a map -/
structure ObjM (h : Heap) (x dx C : Addr) (mA : Str → Option Value) : Prop where
  obj : h.get? x = some (PySem.W.instObj C dx)
  ns : h.Ns1 dx mA
  ne : dx ≠ x

theorem lookIn_ns {h : Heap} {dx : Addr} {mA : Str → Option Value} (n : h.Ns1 dx mA) : ∃ od, h.get? dx = some od ∧ ∀ name, PySem.W.lookIn name od = some (mA name) := by
  obtain ⟨o, es, ep, ho, hd, hk, _, hm⟩ := n
  refine ⟨o, ho, fun name => ?_⟩
  have e := hm name
  unfold nsFind findBy at e
  rw [← Array.find?_toList] at e
  unfold PySem.W.lookIn
  rw [hd]
  dsimp only
  split
  · rename_i y q
    rw [q] at e
    exact congrArg some e
  · rename_i q
    rw [q] at e
    have a : es.toList.any (·.refKey) = false := by
      rw [List.any_eq_false]
      intro y hy
      obtain ⟨z, t, hkey⟩ := hk y (Array.mem_toList_iff.mp hy)
      simp [DictEntry.refKey, hkey]
    have a' : ¬ es.toList.any (·.refKey) = true := by rw [a]; exact Bool.false_ne_true
    rw [if_neg a']
    exact congrArg some e

theorem ObjM.look {h : Heap} {x dx C : Addr} {mA : Str → Option Value} (I : ObjM h x dx C mA) : ∃ od, PySem.W.InstAt h x (PySem.W.instObj C dx) C (some od) ∧ ∀ name, PySem.W.lookIn name od = some (mA name) :=
  let ⟨od, ho, hl⟩ := lookIn_ns I.ns
  ⟨od, ⟨I.obj, rfl, rfl, ho⟩, hl⟩

section
variable {prog : Program} {w : World} {A : Around} {E : Value → Shared → Prop} {s : Shared} {K : PySem.W.Frag} {x dx C f : Addr} {mA : Str → Option Value} {name : Str} {v : Value}

theorem get_map {expr : Bool} {Q : Value → Shared → Prop} (X : K.In s.heap) (I : ObjM s.heap x dx C mA) (hg : PySem.W.plainGet K C name = true) (hh : PySem.W.hasDictIn K C = true)
    (ha : PySem.W.findIn K (.ref C) name = some none) (hv : mA name = some v) (hv' : PySem.W.handedIn v = true) (h : Q v { s with toks := s.toks + 1 }) :
    wpAny (model prog w) A (getAttr (.ref x) name expr) Q E s := by
  obtain ⟨od, J, hl⟩ := I.look
  exact PySem.W.get_value X J (PySem.W.plainGet_of hg).1 (PySem.W.findObj_own hh ha rfl (by rw [hl, hv])) hv' h

theorem get_meth {pl : Sem Bool} {Q : Value × List Value → Shared → Prop} (X : K.In s.heap) (I : ObjM s.heap x dx C mA) (hg : PySem.W.plainGet K C name = true)
    (hf : PySem.W.findIn K (.ref C) name = some (some (.ref f))) (ht : PySem.W.isFn K (.ref f) = true) (hv : mA name = none) (h : Q (.ref f, [.ref x]) s) :
    wpAny (model prog w) A (getMethod (.ref x) name pl) Q E s := by
  obtain ⟨od, J, hl⟩ := I.look
  exact PySem.W.method_fn X J (PySem.W.plainGet_of hg).1 (PySem.W.plainGet_of hg).2 hf (beq_iff_eq.mp ht) (by show (PySem.W.lookIn name od).map (·.isSome) = some false; rw [hl, hv]; rfl) h

theorem set_map {ns : List Str} {Q : Unit → Shared → Prop} (X : K.In s.heap) (I : ObjM s.heap x dx C mA)
    (hs : PySem.W.findIn K (.ref C) "__setattr__" = some (some (.builtin "object.__setattr__"))) (hp : PySem.W.plainOver K C = true) (ht : PySem.W.takerIn K C name = some none) (hh : PySem.W.hasDictIn K C = true)
    (hw : PySem.Within mA ns) (hsz : ns.length ≤ sizeLine)
    (h : ∀ h', ObjM h' x dx C (fun y => if y = name then some v else mA y) → Heap.SameBut dx s.heap h' → Q () { s with heap := h', toks := s.toks + 2 }) :
    wpAny (model prog w) A (setAttr (.ref x) name v) Q E s := by
  obtain ⟨od, J, hl⟩ := I.look
  refine PySem.W.set_plain X J hs (PySem.W.osa_open (s := { s with toks := s.toks + 1 }) (r := none) X J hp ht fun b => ?_)
  obtain ⟨cd, hc, hd'⟩ := PySem.W.any_some hh
  have hx : s.heap.get? x = some ⟨.ref C, some dx, .plain, #[]⟩ := I.obj
  refine wpAny_bind (wpAny_pure (wpAny_bind (wpAny_bind (wpAny_loadPart hx (wpAny_bind (PySem.W.Looks.here (s := { s with toks := s.toks + 1 }) (PySem.W.looks_clsIn X hc) ?_))))))
  rw [hd']
  refine wpAny_pure (a := some dx) (wpAny_bind (wpAny_pure (wpAny_bind ?_)))
  refine wpAny_nsSet1 (s := { s with toks := s.toks + 1 }) I.ns fun h' hn2 hs2 => ?_
  obtain ⟨oD, esD, epD, hoD, hdD, hcD⟩ := hn2.count (PySem.Within.cons name v hw)
  refine wpAny_bind (wpAny_lookBehind hoD (by rw [hdD]; exact pastItsLine_dict (Nat.le_trans hcD (by rw [List.length_cons]; omega))) ?_)
  exact wpAny_pure (h _ ⟨(hs2.2 _ (Ne.symm I.ne)).trans I.obj, hn2, I.ne⟩ hs2)

/-- C(..): the dict at the heap's end, the instance behind it; then its __init__ -/
theorem make_map {R : Result → Shared → Prop} {vs : List Value} {kw : List (Str × Value)} (X : K.In s.heap) (hm : PySem.W.makesIn K C = true)
    (hi : PySem.W.findIn K (.ref C) "__init__" = some (some (.ref f))) (hf : PySem.W.typeIn K (.ref f) = some (.type "function"))
    (h : codeAny (model prog w) (A.under (.builtin "type.__call__" ⟨.ref C :: vs, kw⟩)) (.call (.ref f) ⟨.ref (s.heap.objs.size + 1) :: vs, kw⟩) (PySem.W.InitBack (s.heap.objs.size + 1) R)
      { s with heap := (s.heap.push PySem.W.emptyDict).push (PySem.W.instObj C s.heap.objs.size) }) :
    codeAny (model prog w) A (.call (.ref C) ⟨vs, kw⟩) R s := by
  obtain ⟨hh, g, d, t, os⟩ := s
  exact PySem.W.make_core (PySem.W.makes_of X hm) (PySem.W.looks_findIn X hi) (fun self => PySem.W.bind_fn X self hf) (.inl rfl) h
end

/-! ### the attributes as a list of pairs -/
def putF (f : Str) (v : V) : List (Str × V) → List (Str × V)
  | [] => [(f, v)]
  | (g, x) :: r => if g = f then (g, v) :: r else (g, x) :: putF f v r
theorem lookup_putF (f g : Str) (v : V) : ∀ fs : List (Str × V), (putF f v fs).lookup g = if g = f then some v else fs.lookup g
  | [] => by
    show List.lookup g [(f, v)] = _
    by_cases h : g = f
    · have hb : (g == f) = true := beq_iff_eq.mpr h
      simp only [List.lookup, hb, if_pos h]
    · have hb : (g == f) = false := beq_eq_false_iff_ne.mpr h
      simp only [List.lookup, hb, if_neg h]
  | (k, x) :: r => by
    have ih := lookup_putF f g v r
    rw [show putF f v ((k, x) :: r) = (if k = f then (k, v) :: r else (k, x) :: putF f v r) from rfl]
    by_cases hk : k = f
    · rw [if_pos hk]
      by_cases h : g = k
      · have hb : (g == k) = true := beq_iff_eq.mpr h
        simp only [List.lookup, hb, if_pos (h.trans hk)]
      · have hb : (g == k) = false := beq_eq_false_iff_ne.mpr h
        simp only [List.lookup, hb, if_neg (fun e : g = f => h (e.trans hk.symm))]
    · rw [if_neg hk]
      by_cases h : g = k
      · have hb : (g == k) = true := beq_iff_eq.mpr h
        simp only [List.lookup, hb, if_neg (fun e : g = f => hk (h.symm.trans e))]
      · have hb : (g == k) = false := beq_eq_false_iff_ne.mpr h
        simp only [List.lookup, hb]
        exact ih
theorem keys_putF (f : Str) (v : V) : ∀ fs : List (Str × V), f ∈ (putF f v fs).map (·.1) ∧ ∀ g, g ∈ fs.map (·.1) → g ∈ (putF f v fs).map (·.1)
  | [] => ⟨by simp [putF], fun g h => by simp at h⟩
  | (k, x) :: r => by
    obtain ⟨i1, i2⟩ := keys_putF f v r
    rw [show putF f v ((k, x) :: r) = (if k = f then (k, v) :: r else (k, x) :: putF f v r) from rfl]
    by_cases hk : k = f
    · rw [if_pos hk]
      subst hk
      exact ⟨by simp, fun g h => by simpa using h⟩
    · rw [if_neg hk]
      refine ⟨?_, fun g h => ?_⟩
      · rw [List.map_cons]
        exact List.mem_cons_of_mem _ i1
      · rw [List.map_cons] at h ⊢
        rcases List.mem_cons.mp h with e | e
        · exact List.mem_cons.mpr (.inl e)
        · exact List.mem_cons_of_mem _ (i2 g e)
theorem length_putF (f : Str) (v : V) : ∀ fs : List (Str × V), (putF f v fs).length ≤ fs.length + 1
  | [] => by simp [putF]
  | (k, x) :: r => by
    have ih := length_putF f v r
    rw [show putF f v ((k, x) :: r) = (if k = f then (k, v) :: r else (k, x) :: putF f v r) from rfl]
    by_cases hk : k = f
    · rw [if_pos hk, List.length_cons, List.length_cons]; omega
    · rw [if_neg hk, List.length_cons, List.length_cons]; omega

theorem RelO.some_of {v : V} {o : Option Value} (r : RelO (some v) o) : ∃ u, o = some u ∧ RelV v u := by
  cases o with
  | none => exact (show False from r).elim
  | some u => exact ⟨u, rfl, r⟩
theorem RelO.none_of {o : Option Value} (r : RelO none o) : o = none := by
  cases o with
  | none => rfl
  | some u => exact (show False from r).elim
theorem handed_of {v : V} {u : Value} (r : RelV v u) : PySem.W.handedIn u = true := by
  cases v with
  | non => cases (show u = Value.none from r); rfl
  | bl b => cases (show u = Value.bool b from r); rfl
  | int i => obtain ⟨t, e⟩ := (show ∃ t, u = Value.int i t from r); cases e; rfl
  | str x => obtain ⟨t, e⟩ := (show ∃ t, u = Value.str x t from r); cases e; rfl
  | byt b => obtain ⟨t, e⟩ := (show ∃ t, u = Value.bytes b t from r); cases e; rfl
  | flt b => obtain ⟨t, e⟩ := (show ∃ t, u = Value.float b t from r); cases e; rfl
  | ref a => cases (show u = Value.ref a from r); rfl
  | ty n => cases (show u = Value.type n from r); rfl

section
variable {P : Program} {w : World} {H H' : Hp} {h h' : Heap} {a C dx : Addr} {fs fs' : List (Str × V)}
theorem ins_get (hok : HOk P w H h) (e : H a = some (.ins C dx fs)) : ∃ mA, ObjM h a dx C mA ∧ (∀ f, RelO (fs.lookup f) (mA f)) ∧ PySem.Within mA (fs.map (·.1)) ∧ fs.length ≤ 1000 ∧ H dx = some (.own a) := by
  obtain ⟨d, z, ne, ob, mA, n, r, q⟩ := (show ObjOk P w H h a (.ins C dx fs) from hok a _ e)
  exact ⟨mA, ⟨ob, n, ne⟩, r, q, z, d⟩
end

/-! ### what of the text a class must have -/
structure Cls (K : PySem.W.Frag) (C : Addr) : Prop where
  pg : PySem.W.plainGet K C Str.empty = true
  hd : PySem.W.hasDictIn K C = true
  po : PySem.W.plainOver K C = true
  sa : PySem.W.findIn K (.ref C) "__setattr__" = some (some (.builtin "object.__setattr__"))
theorem Cls.get {K : PySem.W.Frag} {C : Addr} (c : Cls K C) (f : Str) : PySem.W.plainGet K C f = true := c.pg
/-- no class of it has the name -/
def NoAttr (K : PySem.W.Frag) (C : Addr) (f : Str) : Prop := PySem.W.findIn K (.ref C) f = some none
theorem NoAttr.taker {K : PySem.W.Frag} {C : Addr} {f : Str} (n : NoAttr K C f) : PySem.W.takerIn K C f = some none := by
  unfold PySem.W.takerIn
  rw [show PySem.W.findIn K (.ref C) f = some none from n]
  rfl
/-- a constant of the class -/
structure Con (K : PySem.W.Frag) (C : Addr) (f : Str) (v : V) (u : Value) : Prop where
  at_ : PySem.W.findIn K (.ref C) f = some (some u)
  rel : RelV v u
  get : PySem.W.specialIn K u "__get__" = some none
  cp : PySem.W.copiedNames.contains f = false
/-- a method: a plain def of the class or of one above it -/
structure Meth (K : PySem.W.Frag) (C : Addr) (m : Str) (f : Addr) : Prop where
  at_ : PySem.W.findIn K (.ref C) m = some (some (.ref f))
  fn : PySem.W.isFn K (.ref f) = true
  kp : PySem.W.keepIn K (.ref f) = true

section
variable {X : Cx} {pins : List (Addr × Obj)} {σ : St} {H : Hp} {s : Shared} {a C dx : Addr} {fs : List (Str × V)} {f : Str} {v : V} {A : Around} {E : Value → Shared → Prop}

theorem getattr_ok {b : Bool} {Q : Value → Shared → Prop} (I : Inv X pins σ H s) (e : H a = some (.ins C dx fs)) (c : Cls X.K C) (n : NoAttr X.K C f) (l : fs.lookup f = some v)
    (h : ∀ u s', Inv X pins σ H s' → RelV v u → Q u s') : wpAny (model X.prog X.w) A (getAttr (.ref a) f b) Q E s := by
  obtain ⟨mA, O, r, _, _, _⟩ := ins_get I.hok e
  obtain ⟨u, hu, ru⟩ := RelO.some_of (v := v) (o := mA f) (by rw [← l]; exact r f)
  exact get_map I.kIn O (c.get f) c.hd n hu (handed_of ru) (h u _ (I.tok _) ru)

theorem getmeth_ok {m : Str} {g : Addr} {pl : Sem Bool} {Q : Value × List Value → Shared → Prop} (I : Inv X pins σ H s) (e : H a = some (.ins C dx fs)) (c : Cls X.K C) (k : Meth X.K C m g) (l : fs.lookup m = none)
    (h : Q (.ref g, [.ref a]) s) : wpAny (model X.prog X.w) A (getMethod (.ref a) m pl) Q E s := by
  obtain ⟨mA, O, r, _, _, _⟩ := ins_get I.hok e
  have hn : mA m = none := RelO.none_of (by rw [← l]; exact r m)
  exact get_meth I.kIn O (c.get m) k.at_ k.fn hn h

theorem setattr_ok {y : V} {u : Value} {Q : Unit → Shared → Prop} (I : Inv X pins σ H s) (e : H a = some (.ins C dx fs)) (c : Cls X.K C) (n : NoAttr X.K C f) (hl : fs.length < 1000) (ry : RelV y u)
    (h : ∀ s', Inv X pins σ (upd H a (.ins C dx (putF f y fs))) s' → Q () s') : wpAny (model X.prog X.w) A (setAttr (.ref a) f u) Q E s := by
  obtain ⟨mA, O, r, wi, _, ho⟩ := ins_get I.hok e
  have hz : (fs.map (·.1)).length ≤ sizeLine := by rw [List.length_map, sizeLine_eq]; omega
  refine set_map I.kIn O c.sa c.po n.taker c.hd wi hz fun h' O' sb => h _ ?_
  have hd : ∃ o, h'.get? dx = some o := let ⟨o, _, _, e', _⟩ := O'.ns; ⟨o, e'⟩
  refine I.write (x := a) (e := dx) (by rw [e]; exact True.intro) (.inr ho) (fun b q hb z => (sb.2 b hb).trans z) hd ?_
  refine ⟨by rw [upd_ne O.ne]; exact ho, ?_, O.ne, O'.obj, _, O'.ns, fun g => ?_, fun g hg => ?_⟩
  · have := length_putF f y fs; omega
  · show RelO ((putF f y fs).lookup g) (if g = f then some u else mA g)
    rw [lookup_putF]
    by_cases q : g = f
    · rw [if_pos q, if_pos q]; exact ry
    · rw [if_neg q, if_neg q]; exact r g
  · by_cases q : g = f
    · rw [q]; exact (keys_putF f y fs).1
    · refine (keys_putF f y fs).2 g (wi g fun z => hg ?_)
      show (if g = f then some u else mA g) = none
      rw [if_neg q]; exact z

/-- a new instance, tracked, without attributes -/
theorem Inv.made (I : Inv X pins σ H s) : Inv X pins σ (upd (upd H s.heap.objs.size (.own (s.heap.objs.size + 1))) (s.heap.objs.size + 1) (.ins C s.heap.objs.size []))
    { s with heap := (s.heap.push PySem.W.emptyDict).push (PySem.W.instObj C s.heap.objs.size) } := by
  have e1 : (s.heap.push PySem.W.emptyDict).get? s.heap.objs.size = some PySem.W.emptyDict := Heap.get?_push_size s.heap rfl
  have e2 : ((s.heap.push PySem.W.emptyDict).push (PySem.W.instObj C s.heap.objs.size)).get? (s.heap.objs.size + 1) = some (PySem.W.instObj C s.heap.objs.size) := by
    have := Heap.get?_push_size (s.heap.push PySem.W.emptyDict) (o := PySem.W.instObj C s.heap.objs.size) rfl
    rwa [Heap.size_push] at this
  have e3 : (s.heap.push PySem.W.emptyDict).Ns s.heap.objs.size (fun _ => none) := ⟨PySem.W.emptyDict, #[], _, e1, rfl, (fun e he => absurd he (by simp)), fun _ => rfl⟩
  have I1 := I.laid (a := s.heap.objs.size) (o := .own (s.heap.objs.size + 1)) (h' := s.heap.push PySem.W.emptyDict) (t' := s.toks) (fun b u q => Heap.get?_push_of_some _ q) (Nat.le_refl _) ⟨_, e1⟩
  refine I1.laid (a := s.heap.objs.size + 1) (o := .ins C s.heap.objs.size []) (t' := s.toks) (fun b u q => Heap.get?_push_of_some _ q) (Nat.le_of_eq (Heap.size_push _ _)) ?_
  have ne : s.heap.objs.size ≠ s.heap.objs.size + 1 := Nat.ne_of_lt (Nat.lt_succ_self _)
  refine ⟨by rw [upd_ne ne, upd_same], Nat.zero_le _, ne, e2, fun _ => none, (Heap.Ns1.of_empty e3).at fun o q => Heap.get?_push_of_some _ q, fun _ => True.intro, fun y hy => absurd rfl hy⟩

/-- e.f where nothing but the object is asked: through attributeBase (super) and the last hold -/
theorem attr_of {prog : Program} {w : World} {env : Env} {e : Expr} {f : Str} {pos : Pos} {s : Shared} {Q : Value → Shared → Prop} (hb : attributeBase e f env (eval e env) = eval e env)
    (h : wpAny (model prog w) A (eval e env) (fun o s₁ => wpAny (model prog w) A (getAttr o f true) Q E s₁) E s) : wpAny (model prog w) A (eval (.Attribute e f pos) env) Q E s :=
  Attribute_any_ h (by rw [arm_eval_Attribute, hb])
end

/-! ### readings and rules -/
/-- e.f, an attribute of the instance -/
def tFld (K : PySem.W.Frag) (ta : TE) (f : Str) : TE := fun σ H Q => ta σ H fun x H1 => ∃ a C dx fs v, x = .ref a ∧ H1 a = some (.ins C dx fs) ∧ Cls K C ∧ NoAttr K C f ∧ fs.lookup f = some v ∧ Q v H1
/-- e.f = value -/
def sFld (K : PySem.W.Frag) (ta tv : TE) (f : Str) : TS := fun D σ H => tv σ H fun y H1 => ta σ H1 fun x H2 => ∃ a C dx fs, x = .ref a ∧ H2 a = some (.ins C dx fs) ∧ Cls K C ∧ NoAttr K C f ∧ fs.length < 1000 ∧
  D.nx σ (upd H2 a (.ins C dx (putF f y fs)))
section
variable {X : Cx} {o e value : Expr} {f : Str} {pos pos' tpos : Pos} {ta tv : TE}
theorem pe_fld (he : PE X e ta) (hb : attributeBase e f X.env (eval e X.env) = eval e X.env) : PE X (.Attribute e f pos) (tFld X.K ta f) := by
  intro pins s σ H Q I h
  refine attr_of hb (thn (he pins s σ H _ I h) fun u s1 ⟨x, H1, I1, rx, a, C, dx, fs, v, ex, ea, c, n, l, q⟩ => ?_)
  subst ex
  obtain rfl : u = Value.ref a := rx
  exact getattr_ok I1 ea c n l fun u' s2 I2 ru => ⟨v, H1, I2, ru, q⟩
theorem ps_fld (ha : PE X o ta) (hv : PE X value tv) (hs : swapsWith value (some (.Attribute o f pos')) pos.line X.env = pure false) : PS X (.Assign [.Attribute o f pos'] value pos) (sFld X.K ta tv f) := by
  intro pins s σ H D I h
  refine plainObj_wpAny_Assign_Attribute (thn (hv pins s σ H _ I h) fun u s1 ⟨y, H1, I1, ry, q⟩ => thn (ha pins s1 σ H1 _ I1 q) fun ov s2 ⟨x, H2, I2, rx, a, C, dx, fs, ex, ea, c, n, l, q2⟩ => ?_) hs
  subst ex
  obtain rfl : ov = Value.ref a := rx
  exact setattr_ok I2 ea c n l ry fun s3 I3 => ⟨σ, _, I3, q2⟩
end

/-! ### isinstance -/
section
variable {X : Cx} {pins : List (Addr × Obj)} {σ : St} {H : Hp} {s : Shared} {A : Around} {E : Value → Shared → Prop} {Q : Value → Shared → Prop} {c : Value} {b : Bool}
/-- the type of a value, as the fragment's deciders take it; for an instance its class -/
inductive TyOf (K : PySem.W.Frag) (H : Hp) : V → Value → Prop where
  | non : TyOf K H .non (.type "NoneType")
  | bl (x : Bool) : TyOf K H (.bl x) (.type "bool")
  | int (i : Int) : TyOf K H (.int i) (.type "int")
  | str (x : Str) : TyOf K H (.str x) (.type "str")
  | flt (x : UInt64) : TyOf K H (.flt x) (.type "float")
  | lst {a : Addr} {xs : List V} (e : H a = some (.lst xs)) : TyOf K H (.ref a) (.type "list")
  | frz {a : Addr} {o : Obj} {xs : List V} (e : H a = some (.frz o (.lst xs))) : TyOf K H (.ref a) (.type "list")
  | tup {a : Addr} {xs : List V} (e : H a = some (.tup xs)) : TyOf K H (.ref a) (.type "tuple")
  | dK {a : Addr} {kvs : List (Key × V)} (e : H a = some (.dK kvs)) : TyOf K H (.ref a) (.type "dict")
  | dT {a : Addr} {kvs : List (List Key × V)} (e : H a = some (.dT kvs)) : TyOf K H (.ref a) (.type "dict")
  | ins {a C dx : Addr} {fs : List (Str × V)} (e : H a = some (.ins C dx fs)) (cl : Cls K C) (ha : PySem.W.findIn K (.ref C) "__class__" = some (some (.builtin "object.__class__")))
      (hn : PySem.W.specialIn K (.builtin "object.__class__") "__get__" = some (some (.builtin "getset_descriptor.__get__"))) (htk : PySem.W.takesIn K (.builtin "object.__class__") = some true)
      (hm : PySem.W.mroIn K C (.type "object") = some true) : TyOf K H (.ref a) (.ref C)
/-- isinstance(x, c) for one class c, a built-in or an own one: kitOne's answer -/
theorem isinst_ok {x : V} {u t : Value} (I : Inv X pins σ H s) (rx : RelV x u) (ty : TyOf X.K H x t) (e : PySem.W.kitOne X.K t c = some b) (h : ∀ tk, Q (.bool b) { s with toks := tk }) :
    wpAny (model X.prog X.w) A (call (.builtin "isinstance") [u, c]) Q E s := by
  cases ty with
  | non => cases (show u = Value.none from rx); exact PySem.W.kia_one PySem.W.kitx_none I.kIn True.intro e (fun z => nomatch z) h
  | bl y => cases (show u = Value.bool y from rx); exact PySem.W.kia_one PySem.W.kitx_bool I.kIn True.intro e (fun z => nomatch z) h
  | int i => obtain ⟨t, q⟩ := (show ∃ t, u = Value.int i t from rx); cases q; exact PySem.W.kia_one PySem.W.kitx_int I.kIn True.intro e (fun z => nomatch z) h
  | str y => obtain ⟨t, q⟩ := (show ∃ t, u = Value.str y t from rx); cases q; exact PySem.W.kia_one PySem.W.kitx_str I.kIn True.intro e (fun z => nomatch z) h
  | flt y => obtain ⟨t, q⟩ := (show ∃ t, u = Value.float y t from rx); cases q; exact PySem.W.kia_one PySem.W.kitx_float I.kIn True.intro e (fun z => nomatch z) h
  | @lst a xs ea =>
    cases (show u = Value.ref a from rx)
    obtain ⟨_, _, n, _, h1⟩ := (show ObjOk X.prog X.w H s.heap a (.lst xs) from I.hok a _ ea)
    exact PySem.W.kia_one PySem.W.kitx_list I.kIn ⟨_, h1, rfl⟩ e (fun z => nomatch z) h
  | @frz a ob xs ea =>
    cases (show u = Value.ref a from rx)
    obtain ⟨_, _, _, n, _, h1⟩ := (show ObjOk X.prog X.w H s.heap a (.frz ob (.lst xs)) from I.hok a _ ea)
    exact PySem.W.kia_one PySem.W.kitx_list I.kIn ⟨_, h1, rfl⟩ e (fun z => nomatch z) h
  | @tup a xs ea =>
    cases (show u = Value.ref a from rx)
    obtain ⟨_, _, _, p⟩ := (show ObjOk X.prog X.w H s.heap a (.tup xs) from I.hok a _ ea)
    obtain ⟨o, h1, h2, _⟩ := p
    exact PySem.W.kia_one PySem.W.kitx_tuple I.kIn ⟨o, h1, h2⟩ e (fun z => nomatch z) h
  | @dK a kvs ea =>
    cases (show u = Value.ref a from rx)
    obtain ⟨_, _, vs, _, p⟩ := (show ObjOk X.prog X.w H s.heap a (.dK kvs) from I.hok a _ ea)
    obtain ⟨o, es, ep, h1, h2, _⟩ := p
    exact PySem.W.kia_one PySem.W.kitx_dict I.kIn ⟨o, h1, h2.1⟩ e (fun z => nomatch z) h
  | @dT a kvs ea =>
    cases (show u = Value.ref a from rx)
    obtain ⟨_, _, xs, _, o, es, ep, h1, h2, _⟩ := (show ObjOk X.prog X.w H s.heap a (.dT kvs) from I.hok a _ ea)
    exact PySem.W.kia_one PySem.W.kitx_dict I.kIn ⟨o, h1, h2.1⟩ e (fun z => nomatch z) h
  | @ins a C dx fs ea cl ha hn htk hm =>
    cases (show u = Value.ref a from rx)
    obtain ⟨mA, O, _⟩ := ins_get I.hok ea
    obtain ⟨od, J, _⟩ := O.look
    exact PySem.W.kia_one (PySem.W.kitx_own (cl.get _) cl.hd ha hn htk hm) I.kIn J e (fun z => nomatch z) h
end
end L2

namespace L2
open PySem PySem.Spec PyProof.Rows

/-! ### room -/
structure Room (k : Nat) (A : Around) : Prop where
  hd : A.handled = none
  dp : A.depth + 3 * k + 5 < recursionLimit
  un : A.units + 16 * k + 200 < cLine
theorem Room.mono {j k : Nat} {A : Around} (r : Room k A) (h : j ≤ k) : Room j A := ⟨r.hd, by have := r.dp; omega, by have := r.un; omega⟩
theorem Room.deeper {k : Nat} {A : Around} (r : Room (k + 1) A) (env : Env) : Room k (A.deeper env) :=
  ⟨r.hd, by have := r.dp; show A.depth + 1 + 3 * k + 5 < _; omega, by have := r.un; show A.units + 3 + 16 * k + 200 < _; omega⟩
theorem Room.in1 {k : Nat} {A : Around} (r : Room (k + 1) A) : Room k A.in1 :=
  ⟨r.hd, by have := r.dp; show A.depth + 3 * k + 5 < _; omega, by have := r.un; show A.units + 1 + 16 * k + 200 < _; omega⟩
theorem make_depth {A : Around} {C : Addr} {us : List Value} {kw : List (Str × Value)} : (A.under (.builtin "type.__call__" ⟨.ref C :: us, kw⟩)).depth = A.depth + 1 := by
  first | rfl | simp [Around.under, Code.weight, Code.isCreation, Code.isGuard, Code.isCaller, Code.frames, Code.isFrame, guardIds]
theorem make_units {A : Around} {C : Addr} {us : List Value} {kw : List (Str × Value)} : (A.under (.builtin "type.__call__" ⟨.ref C :: us, kw⟩)).units = A.units + 1 := by
  first | rfl | simp [Around.under, Code.cUnits, Code.frames, Code.isFrame]
theorem Room.make {k : Nat} {A : Around} (r : Room (k + 1) A) (C : Addr) (us : List Value) (kw : List (Str × Value)) : Room k (A.under (.builtin "type.__call__" ⟨.ref C :: us, kw⟩)) :=
  ⟨r.hd, by have := r.dp; rw [make_depth]; omega, by have := r.un; rw [make_units]; omega⟩
theorem Room.depth {k : Nat} {A : Around} (r : Room k A) : A.depth < recursionLimit := by have := r.dp; omega
theorem Room.units {k : Nat} {A : Around} (r : Room k A) : A.units + 64 < cLine := by have := r.un; omega
/-! ### argument lists and displays -/
def tNil : TA := fun _ H Q => Q [] H
def tCons (ta : TE) (tr : TA) : TA := fun σ H Q => ta σ H fun x H1 => tr σ H1 fun xs H2 => Q (x :: xs) H2
section
variable {X : Cx} {e : Expr} {es : List Expr} {te : TE} {t : TA} {pos : Pos}
theorem pa_nil : PA X [] tNil := fun _ _ _ _ H Q I h => Calls.spliced_nil ⟨[], H, I, .nil, h⟩
theorem pa_cons (ha : PE X e te) (hr : PA X es t) (hs : starEach (e :: es) X.env = (false, eval e X.env) :: starEach es X.env := by rfl) : PA X (e :: es) (tCons te t) := by
  intro pos pins s σ H Q I h
  rw [hs]
  show wpAny _ _ (spliced ((false, eval e X.env) :: backTo pos (starEach es X.env))) _ _ s
  refine Calls.spliced_cons (thn (ha pins s σ H _ I h) fun u s1 ⟨x, H1, I1, r1, q1⟩ => ?_)
  exact thn (hr pos pins s1 σ H1 _ I1 q1) fun us s2 ⟨xs, H2, I2, r2, q2⟩ => ⟨x :: xs, H2, I2, .cons r1 r2, q2⟩

def tLst (t : TA) : TE := fun σ H Q => t σ H fun xs H1 => xs.length ≤ sizeLine ∧ ∀ p, H1 p = none → Q (.ref p) (upd H1 p (.lst xs))
theorem pe_lst (h : PA X es t) : PE X (.List es pos) (tLst t) := by
  intro pins s σ H Q I hq
  refine wpAny_List_spliced (thn (h pos pins s σ H _ I hq) fun us s1 ⟨xs, H1, I1, r, z, q⟩ => ⟨by rw [← r.length]; exact z, ?_⟩)
  have hf : H1 s1.heap.objs.size = none := I1.hok.fresh (Nat.le_refl _)
  refine ⟨.ref s1.heap.objs.size, upd H1 s1.heap.objs.size (.lst xs), I1.laid (t' := s1.toks) (fun b u e => Heap.get?_push_of_some _ e) (Nat.le_refl _) ?_, rfl, q _ hf⟩
  exact ⟨z, us, 0, r, Heap.get?_push_size _ rfl⟩
end

/-! ### what a def promises -/
/-- a def's promise: the bound arguments in the parameters' order, the heap, the wanted end, the wanted exception -/
abbrev Sp := List V → Hp → VK → XK → Prop
/-- how an exception lies behind a call (file 08 gives it): the callers' frames, abstract heap and state ahead of the call, the wish, the exception, the state -/
abbrev CXT := List Env → Hp → Shared → XK → Value → Shared → Prop

/-- the state at a call -/
structure Env0 (P : Program) (w : World) (K : PySem.W.Frag) (mg : Str → Option Value) (base : Heap) (A : Around) (outer : List Env) (s : Shared) (H : Hp) : Prop where
  frames : A.frames = some outer
  mod : Mod K mg base
  bs : ∀ b o, base.get? b = some o → s.heap.get? b = some o ∧ H b = none
  bsz : base.objs.size ≤ s.heap.objs.size
  funs : s.heap.FunFrames base outer
  frf : ∀ b ∈ frs outer, H b = none
  hok : HOk P w H s.heap
  bare : AllBare s.gens
/-- a call's end -/
def CE (outer : List Env) (P : Program) (w : World) (H : Hp) (s : Shared) (Q : VK) (u : Value) (s' : Shared) : Prop :=
  ∃ v H', s'.os = s.os ∧ AllBare s'.gens ∧ Un (frs outer) [] H H' s.heap s'.heap ∧ HOk P w H' s'.heap ∧ RelV v u ∧ Q v H'
def CR (CX : CXT) (outer : List Env) (P : Program) (w : World) (H : Hp) (s : Shared) (Q : VK) (E : XK) (r : Result) (s' : Shared) : Prop :=
  match r with
  | .ok (.ret u) => CE outer P w H s Q u s'
  | .ok _ => False
  | .error e => CX outer H s E e s'
structure FnOk (P : Program) (w : World) (K : PySem.W.Frag) (mg : Str → Option Value) (base : Heap) (CX : CXT) (k : Nat) (f : Addr) (fd : FuncData) (ps : List Str) (sp : Sp) : Prop where
  len : ∀ vs H Q E, sp vs H Q E → vs.length = ps.length
  run : ∀ (A : Around) (outer : List Env) (s : Shared) (H : Hp) (args : Args) (us : List Value) (vs : List V) (Q : VK) (E : XK), Room k A → Env0 P w K mg base A outer s H → BindsTo s fd args (ps.zip us) → Vals vs us → sp vs H Q E →
    codeAny (model P w) A (.call (.ref f) args) (CR CX outer P w H s Q E) s
theorem FnOk.mono {P : Program} {w : World} {K : PySem.W.Frag} {mg : Str → Option Value} {base : Heap} {CX : CXT} {j k : Nat} {f : Addr} {fd : FuncData} {ps : List Str} {sp : Sp} (F : FnOk P w K mg base CX j f fd ps sp) (h : j ≤ k) :
    FnOk P w K mg base CX k f fd ps sp := ⟨F.len, fun A outer s H args us vs Q E hr => F.run A outer s H args us vs Q E (hr.mono h)⟩
theorem Env0.make {P : Program} {w : World} {K : PySem.W.Frag} {mg : Str → Option Value} {base : Heap} {A : Around} {outer : List Env} {s : Shared} {H : Hp} (e : Env0 P w K mg base A outer s H) (C : Addr) (us : List Value) (kw : List (Str × Value)) :
    Env0 P w K mg base (A.under (.builtin "type.__call__" ⟨.ref C :: us, kw⟩)) outer s H := ⟨by first | exact e.frames | (simpa [Around.under, Code.envs, Code.isFrame, pushEnvs] using e.frames), e.mod, e.bs, e.bsz, e.funs, e.frf, e.hok, e.bare⟩
theorem Env0.in1 {P : Program} {w : World} {K : PySem.W.Frag} {mg : Str → Option Value} {base : Heap} {A : Around} {outer : List Env} {s : Shared} {H : Hp} (e : Env0 P w K mg base A outer s H) :
    Env0 P w K mg base A.in1 outer s H := ⟨e.frames, e.mod, e.bs, e.bsz, e.funs, e.frf, e.hok, e.bare⟩

section
variable {X : Cx} {pins : List (Addr × Obj)} {σ : St} {H : Hp} {s s' : Shared}
/-- from a body: what a callee wants -/
theorem Inv.env0 (I : Inv X pins σ H s) : Env0 X.prog X.w X.K X.mg X.base X.A X.stack s H :=
  ⟨I.ok.frames, I.ok.mod, I.bs, Nat.le_trans I.ok.bsz I.sz, I.stack, I.stkFree, I.hok, I.bare⟩
/-- behind a call -/
theorem Inv.after {Q : VK} {u : Value} (I : Inv X pins σ H s) (h : CE X.stack X.prog X.w H s Q u s') : EP X pins σ Q u s' := by
  obtain ⟨v, H', os, bare, un, hok, r, q⟩ := h
  obtain ⟨hh, g, d, t, os'⟩ := s'
  obtain rfl : os' = s.os := os
  exact ⟨v, H', I.call (h' := hh) (g' := g) (d' := d) (t' := t) (ch := []) un hok bare (fun b z => absurd z (by simp)), r, q⟩
end

/-! ### calls -/
/-- f(..): the written arguments, then the defaults dvs; E: what is wanted of an exception -/
def tCall (sp : Sp) (dvs : List V) (E : XK) (t : TA) : TE := fun σ H Q => t σ H fun vs H1 => sp (vs ++ dvs) H1 Q E
/-- o.m(..) of an instance of the class at C -/
def tMeth (C : Addr) (m : Str) (sp : Sp) (dvs : List V) (E : XK) (ta : TE) (t : TA) : TE := fun σ H Q => ta σ H fun x H1 => ∃ a dx fs, x = .ref a ∧ H1 a = some (.ins C dx fs) ∧ fs.lookup m = none ∧
  t σ H1 fun vs H2 => sp (x :: (vs ++ dvs)) H2 Q E
/-- how the parameters are bound: us the positional arguments, kw the keywords' values by name, ds the defaults that fill up -/
def Binds (K : PySem.W.Frag) (fd : FuncData) (ps : List Str) (ds : List Value) : Prop :=
  ∀ (s : Shared) (us : List Value), K.In s.heap → (us ++ ds).length = ps.length → BindsTo s fd ⟨us, []⟩ (ps.zip (us ++ ds))
/-- every parameter is given -/
theorem Binds.all {K : PySem.W.Frag} {fd : FuncData} {ps : List Str} (h : ∀ us : List Value, us.length = ps.length → bindArgs fd ⟨us, []⟩ = pure (ps.zip us)) : Binds K fd ps [] := fun s us _ hl => by
  rw [List.append_nil] at hl ⊢
  exact .of_eq (h us hl)

/-- an exception of a callee reaches what this body wants of exceptions -/
def Passes (CX : CXT) (X : Cx) (E : XK) : Prop := ∀ (pins : List (Addr × Obj)) (σ : St) (H : Hp) (s : Shared) (e : Value) (s' : Shared), Inv X pins σ H s → CX X.stack H s E e s' → X.xe e s'

section
variable {X : Cx} {CX : CXT} {k : Nat} {f C : Addr} {fd : FuncData} {ps : List Str} {sp : Sp} {dvs : List V} {ds : List Value} {E : XK} {x m : Str} {p pos apos : Pos} {e o : Expr} {es : List Expr} {ta : TE} {t : TA}

/-- the callee runs -/
theorem run_fn {pins : List (Addr × Obj)} {σ : St} {H : Hp} {s : Shared} {Q : VK} {us : List Value} {vs : List V} (F : FnOk X.prog X.w X.K X.mg X.base CX k f fd ps sp) (hr : Room k X.A) (hb : Binds X.K fd ps ds) (hd : Vals dvs ds) (hx : Passes CX X E)
    (I : Inv X pins σ H s) (r : Vals vs us) (h : sp (vs ++ dvs) H Q E) : wpAny (model X.prog X.w) X.A (call (.ref f) us) (EP X pins σ Q) X.xe s := by
  have r2 : Vals (vs ++ dvs) (us ++ ds) := r.append hd
  have hl : (us ++ ds).length = ps.length := by rw [← r2.length]; exact F.len _ _ _ _ h
  refine wpAny_call (codeAny_mono (F.run X.A X.stack s H ⟨us, []⟩ (us ++ ds) (vs ++ dvs) Q E hr I.env0 (hb s us I.kIn hl) r2 h) fun r s' hq => ?_)
  cases r with
  | error e => exact hx pins σ H s e s' I hq
  | ok fl =>
    cases fl with
    | ret u => exact I.after hq
    | next => exact False.elim hq
    | brk => exact False.elim hq
    | cont => exact False.elim hq

theorem pe_call (F : FnOk X.prog X.w X.K X.mg X.base CX k f fd ps sp) (hr : Room k X.A) (hg : Gl X x) (hm : X.mg x = some (.ref f)) (hk : PySem.W.keepIn X.K (.ref f) = true) (hb : Binds X.K fd ps ds) (hd : Vals dvs ds) (hx : Passes CX X E)
    (ha : PA X (e :: es) t) (hdb : (x == ("__debug__" : Str)) = false := by decide) (he : starEach (e :: es) X.env = (false, eval e X.env) :: starEach es X.env := by rfl) (hpl : (backTo pos (starEach es X.env)).any (·.1) = false := by rfl) :
    PE X (.Call (.Name x p) (e :: es) [] pos) (tCall sp dvs E t) := by
  intro pins s σ H Q I h
  refine wpAny_Call_Name_kw (ld_glob I hg hm ?_ hdb)
  refine PySem.W.callWith_K (h₀ := X.base) I.ok.mod.kin hk (thn (ha pos pins s σ H _ I h) fun us s1 ⟨vs, H1, I1, r, q⟩ => ⟨I1.kIn, ?_⟩) he hpl
  exact run_fn F hr hb hd hx I1 r q
/-- o.m(e, ..) -/
theorem pe_meth {pl : Sem Bool} (he : PE X o ta) (c : Cls X.K C) (hm : Meth X.K C m f) (F : FnOk X.prog X.w X.K X.mg X.base CX k f fd ps sp) (hr : Room k X.A) (hb : Binds X.K fd ps ds) (hd : Vals dvs ds) (hx : Passes CX X E) (ha : PA X (e :: es) t)
    (hst : starEach (e :: es) X.env = (false, eval e X.env) :: starEach es X.env := by rfl) (hpl : (backTo pos (starEach es X.env)).any (·.1) = false := by rfl)
    (ht : eval (.Call (.Attribute o m apos) (e :: es) [] pos) X.env = (do
      let ov ← eval o X.env
      standAt apos.atName
      let (f, first) ← holding [ov] (getMethod ov m pl)
      callWith pos f first (backTo pos (starEach (e :: es) X.env)) (backToKw pos (keywordEach [] X.env))) := by rfl) :
    PE X (.Call (.Attribute o m apos) (e :: es) [] pos) (tMeth C m sp dvs E ta t) := by
  intro pins s σ H Q I h
  refine PySem.W.methodCall_KW (pl := pl) (thn (he pins s σ H _ I h) fun u s1 ⟨x, H1, I1, rx, a, dx, fs, ex, ea, l, q⟩ => ?_) ht
  subst ex
  obtain rfl : u = Value.ref a := rx
  refine getmeth_ok I1 ea c hm l ?_
  refine PySem.W.callWith_K (first := [.ref a]) (h₀ := X.base) I.ok.mod.kin hm.kp (thn (ha pos pins s1 σ H1 _ I1 q) fun us s2 ⟨vs, H2, I2, r, q2⟩ => ⟨I2.kIn, ?_⟩) hst hpl
  exact run_fn (us := .ref a :: us) (vs := .ref a :: vs) F hr hb hd hx I2 (.cons rfl r) q2
/-- what a class must have to be made -/
structure Mk (K : PySem.W.Frag) (C f : Addr) : Prop where
  makes : PySem.W.makesIn K C = true
  init : PySem.W.findIn K (.ref C) "__init__" = some (some (.ref f))
  fn : PySem.W.isFn K (.ref f) = true
  kp : PySem.W.keepIn K (.ref C) = true

end

/-! ### keywords -/
section
variable {X : Cx} {CX : CXT} {k : Nat} {f C : Addr} {fd : FuncData} {ps ks : List Str} {sp : Sp} {E : XK} {x m : Str} {p pos apos kpos : Pos} {e o : Expr} {es : List Expr} {kws : List Keyword} {te ta : TE} {t tk : TA} {nm : Option Str}
/-- how a call with keywords binds: g puts the positional values us and the keywords' values ws (names ks) in the parameters' order, defaults among them -/
structure KBinds (K : PySem.W.Frag) (fd : FuncData) (ps ks : List Str) (g : List Value → List Value → List Value) (gV : List V → List V → List V) : Prop where
  to : ∀ (s : Shared) (us ws : List Value), K.In s.heap → (g us ws).length = ps.length → BindsTo s fd ⟨us, ks.zip ws⟩ (ps.zip (g us ws))
  rel : ∀ {vs : List V} {us : List Value} {zs : List V} {ws : List Value}, Vals vs us → Vals zs ws → Vals (gV vs zs) (g us ws)
variable {g : List Value → List Value → List Value} {gV : List V → List V → List V}
end

/-! ### a def's body keeps its promise -/
/-- names: the parameters first -/
structure FnScope (N P : List Str) (sc : Scope) : Prop where
  kind : sc.kind = .function
  co : sc.isCoroutine = false
  gen : sc.isGenerator = false
  nd : N.Nodup
  pre : N.take P.length = P
  par : ∀ x ∈ P, sc.names.lookup x = some .local ∨ sc.names.lookup x = some .cell
  nofree : ∀ y ∈ sc.names, y.2 ≠ .free

theorem bindL_out {kindOf : Str → Option NameKind} {x : Str} : ∀ {binds : List (Str × Value)} {m : Str → Option Value}, (∀ v, (x, v) ∉ binds) → bindL kindOf binds m x = m x
  | [], _, _ => rfl
  | (n, v) :: r, m, h => by
    unfold bindL
    rw [bindL_out fun w hw => h w (List.mem_cons_of_mem _ hw)]
    split
    · have : x ≠ n := by rintro rfl; exact h v List.mem_cons_self
      simp [this]
    · rfl
theorem bindC_out {kindOf : Str → Option NameKind} {x : Str} : ∀ {binds : List (Str × Value)} {m : Str → Option Value}, (∀ v, (x, v) ∉ binds) → bindC kindOf binds m x = m x
  | [], _, _ => rfl
  | (n, v) :: r, m, h => by
    unfold bindC
    rw [bindC_out fun w hw => h w (List.mem_cons_of_mem _ hw)]
    split
    · rfl
    · have : x ≠ n := by rintro rfl; exact h v List.mem_cons_self
      simp [this]
theorem bindL_get {kindOf : Str → Option NameKind} {x : Str} {v : Value} : ∀ {P : List Str} {vs : List Value} {i : Nat} {m : Str → Option Value}, P.Nodup → P[i]? = some x → vs[i]? = some v → kindOf x = some .local →
    bindL kindOf (P.zip vs) m x = some v
  | [], _, _, _, _, h, _, _ => by simp at h
  | _ :: _, [], _, _, _, _, h, _ => by simp at h
  | p :: P, w :: vs, 0, m, nd, h1, h2, hk => by
    simp at h1 h2; subst h1; subst h2
    show bindL kindOf ((p, w) :: P.zip vs) m p = _
    unfold bindL
    rw [bindL_out fun v hv => (List.nodup_cons.mp nd).1 (List.of_mem_zip hv).1, if_pos hk]
    simp
  | p :: P, w :: vs, i + 1, m, nd, h1, h2, hk => by
    show bindL kindOf ((p, w) :: P.zip vs) m x = _
    unfold bindL
    exact bindL_get (i := i) (List.nodup_cons.mp nd).2 (by simpa using h1) (by simpa using h2) hk
theorem bindC_get {kindOf : Str → Option NameKind} {x : Str} {v : Value} : ∀ {P : List Str} {vs : List Value} {i : Nat} {m : Str → Option Value}, P.Nodup → P[i]? = some x → vs[i]? = some v → kindOf x ≠ some .local →
    bindC kindOf (P.zip vs) m x = some v
  | [], _, _, _, _, h, _, _ => by simp at h
  | _ :: _, [], _, _, _, _, h, _ => by simp at h
  | p :: P, w :: vs, 0, m, nd, h1, h2, hk => by
    simp at h1 h2; subst h1; subst h2
    show bindC kindOf ((p, w) :: P.zip vs) m p = _
    unfold bindC
    rw [bindC_out fun v hv => (List.nodup_cons.mp nd).1 (List.of_mem_zip hv).1, if_neg hk]
    simp
  | p :: P, w :: vs, i + 1, m, nd, h1, h2, hk => by
    show bindC kindOf ((p, w) :: P.zip vs) m x = _
    unfold bindC
    exact bindC_get (i := i) (List.nodup_cons.mp nd).2 (by simpa using h1) (by simpa using h2) hk

/-- the names' values at the entry -/
def start (N : List Str) (vs : List V) : St := vs.map some ++ List.replicate (N.length - vs.length) none

/-- the context of a def's body, at its entry; an exception leaves the frame, then lies as CX says -/
def cxOf (CX : CXT) (P : Program) (w : World) (K : PySem.W.Frag) (mg : Str → Option Value) (base : Heap) (N : List Str) (qual : Str) (scope : Scope) (f : Addr) (cd : Value) (A : Around) (outer : List Env) (s : Shared) (H : Hp) (E : XK) : Cx where
  prog := P
  w := w
  K := K
  mg := mg
  base := base
  A := A.deeper (envOfC qual scope s.heap.objs.size f cd)
  N := N
  s₀ := s
  H₀ := H
  env := envOfC qual scope s.heap.objs.size f cd
  outer := outer
  stack := envOfC qual scope s.heap.objs.size f cd :: outer
  ex := []
  calm := true
  fn := fun _ => true
  pn := []
  xe := fun e s' => wpAny (model P w) (A.deeper (envOfC qual scope s.heap.objs.size f cd)) (leaving (envOfC qual scope s.heap.objs.size f cd) e) (fun _ s'' => CX outer H s E e s'') (fun e' s'' => CX outer H s E e' s'') s'

theorem cell_has {sc : Scope} {n : Nat} {x : Str} (h : sc.names.lookup x = some .cell) : ∃ c, (cellsFrom n sc.names []).lookup x = some c := by
  have q := PySem.W.cellsFrom_some sc.names n [] (.inl h)
  exact Option.isSome_iff_exists.mp q

theorem inv_start {CX : CXT} {P : Program} {w : World} {K : PySem.W.Frag} {mg : Str → Option Value} {base : Heap} {N ps : List Str} {qual : Str} {scope : Scope} {f : Addr} {cd : Value} {A : Around} {outer : List Env} {s s1 : Shared} {H : Hp} {E : XK} {us : List Value} {vs : List V}
    (S : FnScope N ps scope) (hd : A.handled = none) (e0 : Env0 P w K mg base A outer s H) (hl : vs.length = ps.length) (r : Vals vs us)
    (x : InCallC s s.heap.objs.size (bindL (envOfC qual scope s.heap.objs.size f cd).kindOf (ps.zip us) fun _ => none) (cellsFrom (s.heap.objs.size + 1) scope.names []) (bindC (envOfC qual scope s.heap.objs.size f cd).kindOf (ps.zip us) fun _ => none) s1) :
    Inv (cxOf CX P w K mg base N qual scope f cd A outer s H E) [] (start N vs) H s1 := by
  have hpl : ps.length ≤ N.length := by have := congrArg List.length S.pre; rw [List.length_take] at this; omega
  obtain ⟨h1, tk, rfl, hk⟩ := x.done
  have noA : ∀ b : Addr, b ∉ (cxOf CX P w K mg base N qual scope f cd A outer s H E).ex := fun b z => absurd (show b ∈ ([] : List Addr) from z) (by simp)
  refine ⟨⟨e0.mod, S.kind, rfl, rfl, Nat.le_refl _, fun y z c h1 h2 => ?_, fun y hy => ?_, fun y c _ h => ?_, fun _ => hd, Around.frames_deeper e0.frames, .inr ⟨rfl, rfl⟩, fun b z => absurd z (noA b), e0.bs, e0.bsz, fun b _ _ => noA b, fun b z => absurd z (noA b), e0.funs, e0.frf⟩,
    rfl, e0.bare, Un.kept hk, ⟨_, x.toInCall.ns, fun i y v h1 h2 h3 => ?_⟩, fun y c h => ⟨_, x.cell y c h⟩, e0.hok.fresh (Nat.le_refl _), fun y c h => ?_, fun p hp => absurd (show p ∈ ([] : List (Addr × Obj)) from hp) (by simp), e0.hok.kept hk, ?_⟩
  · exact name_of_addr x.apart (PySem.mem_of_lookup h1) (PySem.mem_of_lookup h2)
  · have hy : scope.names.lookup y = some .cell ∨ scope.names.lookup y = some .free := hy
    rcases hy with hy | hy
    · exact cell_has hy
    · exact absurd rfl (S.nofree _ (PySem.mem_of_lookup hy))
  · exact Nat.le_of_lt (x.above y c (PySem.mem_of_lookup h))
  · have hi : i < vs.length := by
      unfold start at h2
      by_cases hi : i < vs.length
      · exact hi
      · rw [List.getElem?_append_right (by simpa using hi)] at h2
        rw [List.getElem?_replicate] at h2
        split at h2 <;> cases h2
    have ha : vs[i]? = some v := by
      unfold start at h2
      rw [List.getElem?_append_left (by simpa using hi), List.getElem?_map] at h2
      cases e : vs[i]? with
      | none => rw [e] at h2; cases h2
      | some a => rw [e] at h2; cases h2; rfl
    obtain ⟨u, hu, rv⟩ := r.get ha
    have hp : ps[i]? = some y := by
      rw [← S.pre, List.getElem?_take_of_lt (by omega)]; exact h1
    have ndP : ps.Nodup := by rw [← S.pre]; exact S.nd.sublist (List.take_sublist _ _)
    refine ⟨u, rv, ?_⟩
    rcases S.par y (List.mem_of_getElem? hp) with k | k
    · exact .inl ⟨k, bindL_get ndP hp hu k⟩
    · obtain ⟨c, e⟩ := cell_has (n := s.heap.objs.size + 1) k
      refine .inr ⟨.inl k, c, e, ?_⟩
      have q := x.cell y c e
      rw [bindC_get ndP hp hu (by show scope.names.lookup y ≠ _; rw [k]; decide)] at q
      exact q
  · exact e0.hok.fresh (Nat.le_of_lt (x.above y c (PySem.mem_of_lookup h)))
  · unfold start
    show _ = N.length
    rw [List.length_append, List.length_map, List.length_replicate]
    omega

/-- THE RULE: a def (or a method) of the text, by its body. The body's reading t is chosen for each entry; it is run at the parameters' values -/
theorem fn_of {CX : CXT} {P : Program} {w : World} {K : PySem.W.Frag} {mg : Str → Option Value} {base : Heap} {k : Nat} {f : Addr} {name qual : Str} {params : Arguments} {body : List Stmt} {scope : Scope} {dV kV doc pm cdv ct oc : Value} {an od : Option Addr}
    {osl : Array (Option Value)} {N ps : List Str} {sp : Sp} (lk : K.lookup f = some ⟨oc, od, .func (PySem.W.fnOf name qual params body scope dV kV doc pm an cdv ct), osl⟩) (hcd : PySem.W.codeIn K cdv qual = true) (S : FnScope N ps scope)
    (len : ∀ vs H Q E, sp vs H Q E → vs.length = ps.length)
    (hbody : ∀ (A : Around) (outer : List Env) (s : Shared) (H : Hp) (vs : List V) (Q : VK) (E : XK), Room k (A.deeper (envOfC qual scope s.heap.objs.size f cdv)) → sp vs H Q E →
      ∃ t, PSs (cxOf CX P w K mg base N qual scope f cdv A outer s H E) body t ∧ t { nx := fun _ H' => Q .non H', rt := Q } (start N vs) H) :
    FnOk P w K mg base CX (k + 1) f (PySem.W.fnOf name qual params body scope dV kV doc pm an cdv ct) ps sp := by
  refine ⟨len, fun A outer s H args us vs Q E hr e0 hb r hsp => ?_⟩
  have hl := len _ _ _ _ hsp
  have KX : K.In s.heap := e0.mod.kin.keeps fun b o e => (e0.bs b o e).1
  have lim : s.heap.NoLimit := e0.mod.nolimit.keeps fun b o e => (e0.bs b o e).1
  have hkind : ∀ y ∈ ps.zip us, scope.names.lookup y.1 = some .local ∨ (scope.names.lookup y.1 = some .cell ∧ ((cellsFrom (s.heap.objs.size + 1) scope.names []).lookup y.1).isSome = true) := fun ⟨n, v⟩ hy => by
    rcases S.par n (List.of_mem_zip hy).1 with q | q
    · exact .inl q
    · exact .inr ⟨q, PySem.W.cellsFrom_some _ _ _ (.inl q)⟩
  refine codeAny_call_function hr.depth (KX _ _ lk) rfl S.co S.gen rfl (PySem.W.codeRec_of KX hcd) (hb _ _ _ _ ?_)
  refine wpAny_newFunctionEnv_cells S.kind hkind fun env he s1 x => ?_
  subst he
  refine ⟨lim.keeps x.toInCall.keep, codeAny_func ?_⟩
  obtain ⟨t, ht, hq⟩ := hbody A outer s H vs Q E (hr.deeper _) hsp
  have I : Inv (cxOf CX P w K mg base N qual scope f cdv A outer s H E) [] (start N vs) H s1 := inv_start S hr.hd e0 hl r x
  refine wpAny_mono (ht [] s1 (start N vs) H _ I hq) (fun fl s' hs => ?_) fun e s' hs => hs
  have fin : ∀ {σ' : St} {H' : Hp} {v : V} {u : Value}, Inv (cxOf CX P w K mg base N qual scope f cdv A outer s H E) [] σ' H' s' → RelV v u → Q v H' → CE outer P w H s Q u s' :=
    fun {σ' H' v u} J rv q => ⟨v, H', J.os, J.bare, J.base, J.hok, rv, q⟩
  cases fl with
  | ret u =>
    obtain ⟨v, σ', H', J, rv, q⟩ := hs
    exact fin J rv q
  | next =>
    obtain ⟨σ', H', J, q⟩ := hs
    exact fin (v := V.non) (u := Value.none) J rfl q
  | brk =>
    obtain ⟨_, _, _, q⟩ := hs
    exact False.elim q
  | cont =>
    obtain ⟨_, _, _, q⟩ := hs
    exact False.elim q
end L2

namespace L2
open PySem PySem.Spec PyProof.Rows
section
variable {X : Cx} {x : Str} {p pos : Pos} {e : Expr} {es : List Expr} {t : TA} {id T : String} {r : List V → Hp → VK → Prop}

def tCB (r : List V → Hp → VK → Prop) (t : TA) : TE := fun σ H Q => t σ H fun vs H1 => r vs H1 Q
/-- f(e, ..), f a built-in function -/
theorem pe_callB (hc : CallR X (.builtin id) r) (hg : Gl X x) (hm : X.mg x = none) (hv : bootBuiltins x = some (.builtin id)) (ha : PA X (e :: es) t) (hn : x ≠ "__name__" := by decide) (hdb : (x == ("__debug__" : Str)) = false := by decide)
    (he : starEach (e :: es) X.env = (false, eval e X.env) :: starEach es X.env := by rfl) (hpl : (backTo pos (starEach es X.env)).any (·.1) = false := by rfl) : PE X (.Call (.Name x p) (e :: es) [] pos) (tCB r t) := by
  intro pins s σ H Q I h
  refine wpAny_Call_Name_kw (ld_blt I hg hm hv ?_ hn hdb)
  exact PyProof.Rows.callWith_builtin1 (thn (ha pos pins s σ H _ I h) fun us s1 ⟨vs, H1, I1, r1, q1⟩ => hc pins s1 σ H1 vs us Q I1 r1 q1) he hpl
/-- T(e, ..), T a built-in type -/
theorem pe_callTy (hc : CallR X (.type T) r) (hg : Gl X x) (hm : X.mg x = none) (hv : bootBuiltins x = some (.type T)) (ha : PA X (e :: es) t) (hn : x ≠ "__name__" := by decide) (hdb : (x == ("__debug__" : Str)) = false := by decide)
    (he : starEach (e :: es) X.env = (false, eval e X.env) :: starEach es X.env := by rfl) (hpl : (backTo pos (starEach es X.env)).any (·.1) = false := by rfl) : PE X (.Call (.Name x p) (e :: es) [] pos) (tCB r t) := by
  intro pins s σ H Q I h
  refine wpAny_Call_Name_kw (ld_blt I hg hm hv ?_ hn hdb)
  exact PyProof.Rows.callWith_type1 (thn (ha pos pins s σ H _ I h) fun us s1 ⟨vs, H1, I1, r1, q1⟩ => hc pins s1 σ H1 vs us Q I1 r1 q1) he hpl
end
end L2

namespace HT
open PySem PyProof.Rows

section
open PySem.SeqAt
open PySem.AutoSeq1 (wpAny_loadPart')
open PySem.MeetsSeq PySem.MeetsSeq2 PySem.MeetsSeq3

end

section
variable {prog : Program} {w : World} {A : Around} {E : Value → Shared → Prop} {s : Shared}

/-! ### t[a:b], not the whole -/
end
end HT

namespace L2
open PySem PySem.Spec PyProof.Rows

/-! ### the parts of a slice -/
abbrev TO := St → Hp → (Option Int → Hp → Prop) → Prop
theorem intsAre_of {ns : List Int} : ∀ {us : List Value}, Vals (ns.map V.int) us → IntsAre us ns := by
  induction ns with
  | nil => intro us r; rw [List.map_nil] at r; cases r; exact .nil
  | cons n ns ih =>
    intro us r
    rw [List.map_cons] at r
    cases r with
    | cons r1 r2 =>
      obtain ⟨t, e⟩ := r1
      subst e
      exact .cons n t (ih r2)

section
variable {X : Cx} {e : Expr} {te : TE} {lo hi : Option Expr} {tl th : TO} {pos p2 : Pos}

/-- what a slice of a value is, by values: the slice object stands at sl -/
def SlR (X : Cx) (r : V → Option Int → Option Int → Hp → VK → Prop) : Prop :=
  ∀ (pins : List (Addr × Obj)) (s : Shared) (σ : St) (H : Hp) (x : V) (v vl vu : Value) (lo hi : Option Int) (sl : Addr) (Q : VK), Inv X pins σ H s → RelV x v → s.heap.IsSliceOf sl vl vu .none → IsPart vl lo → IsPart vu hi → r x lo hi H Q →
    ∃ T id, typeLookup (.type T) "__getitem__" = pure (some (.builtin id)) ∧ s.TypeIs v T ∧ wpAny (model X.prog X.w) X.A (getItem v (.ref sl)) (EP X pins σ Q) X.xe s
theorem SlR.or {r r' : V → Option Int → Option Int → Hp → VK → Prop} (h : SlR X r) (h' : SlR X r') : SlR X (fun x lo hi H Q => r x lo hi H Q ∨ r' x lo hi H Q) := by
  intro pins s σ H x v vl vu lo hi sl Q I rx hs pl pu q
  rcases q with q | q
  · exact h pins s σ H x v vl vu lo hi sl Q I rx hs pl pu q
  · exact h' pins s σ H x v vl vu lo hi sl Q I rx hs pl pu q
/-! ### t < u, t + u -/
end
end L2

namespace L2
open PySem PySem.Spec PyProof.Rows

/-! ### places -/
/-- the place that an index of any sign means -/
def ixN (n : Nat) (i : Int) : Option Nat := if 0 ≤ i then (if i < n then some i.toNat else none) else if -(n : Int) ≤ i then some (i + n).toNat else none
def atI {α : Type} (xs : List α) (i : Int) : Option α := (ixN xs.length i).bind fun j => xs[j]?
theorem ixN_seq {n : Nat} {i : Int} {j : Nat} (h : ixN n i = some j) : seqIndex? i n = some j ∧ j < n ∧ -(n : Int) ≤ i ∧ i < n := by
  unfold ixN at h
  by_cases h0 : 0 ≤ i
  · rw [if_pos h0] at h
    by_cases h1 : i < n
    · rw [if_pos h1] at h
      have e : i.toNat = j := Option.some.inj h
      exact ⟨by rw [seqIndex_of h0 h1, e], by omega, by omega, h1⟩
    · rw [if_neg h1] at h; cases h
  · rw [if_neg h0] at h
    by_cases h1 : -(n : Int) ≤ i
    · rw [if_pos h1] at h
      have e : (i + n).toNat = j := Option.some.inj h
      exact ⟨by rw [seqIndex_neg (by omega) h1, e], by omega, h1, by omega⟩
    · rw [if_neg h1] at h; cases h
theorem atI_get {α : Type} {xs : List α} {i : Int} {v : α} (h : atI xs i = some v) : ∃ j, seqIndex? i xs.length = some j ∧ xs[j]? = some v ∧ j < xs.length ∧ -(xs.length : Int) ≤ i ∧ i < xs.length := by
  unfold atI at h
  cases e : ixN xs.length i with
  | none => rw [e] at h; cases h
  | some j =>
    rw [e] at h
    obtain ⟨h1, h2, h3, h4⟩ := ixN_seq e
    exact ⟨j, h1, h, h2, h3, h4⟩
theorem atI_nat {α : Type} {xs : List α} {j : Nat} {v : α} (h : xs[j]? = some v) : atI xs (j : Int) = some v := by
  have hj : j < xs.length := (List.getElem?_eq_some_iff.mp h).1
  have e : ixN xs.length (j : Int) = some j := by
    unfold ixN
    rw [if_pos (by omega), if_pos (by omega)]; simp
  unfold atI; rw [e]; exact h
/-! ### what may be subscripted -/
/-- what stands as an index of a plain subscript -/
def PlainIx (b : Expr) : Prop := ∀ o i, subscripted b false o i = operate [o, i] (getItem o i)
/-- a subscript by values -/
def IxR (X : Cx) (r : R2) : Prop :=
  ∀ (value slice : Expr) (pins : List (Addr × Obj)) (s : Shared) (σ : St) (H : Hp) (x y : V) (v u : Value) (Q : VK), Inv X pins σ H s → RelV x v → RelV y u → r x y H Q →
    subscripted slice false v u = operate [v, u] (getItem v u) → wpAny (model X.prog X.w) X.A (subscriptTail value slice v u) (EP X pins σ Q) X.xe s
/-- a call of a builtin's method by values: the receiver, the arguments -/
def MtR (X : Cx) (id : String) (r : V → List V → Hp → VK → Prop) : Prop :=
  ∀ (pins : List (Addr × Obj)) (s : Shared) (σ : St) (H : Hp) (x : V) (xs : List V) (v : Value) (us : List Value) (Q : VK), Inv X pins σ H s → RelV x v → Vals xs us → r x xs H Q →
    wpAny (model X.prog X.w) X.A (call (.builtin id) (v :: us)) (EP X pins σ Q) X.xe s
section
variable {X : Cx} {a b : Expr} {ta tb : TE} {pos : Pos}
theorem IxR.or {r r' : R2} (h : IxR X r) (h' : IxR X r') : IxR X (fun x y H Q => r x y H Q ∨ r' x y H Q) := by
  intro value slice pins s σ H x y v u Q I rx ry q hs
  rcases q with q | q
  · exact h value slice pins s σ H x y v u Q I rx ry q hs
  · exact h' value slice pins s σ H x y v u Q I rx ry q hs
theorem MtR.or {id : String} {r r' : V → List V → Hp → VK → Prop} (h : MtR X id r) (h' : MtR X id r') : MtR X id (fun x xs H Q => r x xs H Q ∨ r' x xs H Q) := by
  intro pins s σ H x xs v us Q I rx rs q
  rcases q with q | q
  · exact h pins s σ H x xs v us Q I rx rs q
  · exact h' pins s σ H x xs v us Q I rx rs q
/-- a[b] -/
theorem pe_ix {r : R2} (hr : IxR X r) (ha : PE X a ta) (hb : PE X b tb) (hs : PlainIx b) : PE X (.Subscript a b pos) (tOp r ta tb) := by
  intro pins s σ H Q I h
  exact Subscript_ (binT ha hb I h fun v u s2 x y H2 I2 rx ry q => hr a b pins s2 σ H2 x y v u Q I2 rx ry q (hs _ _))

def rIxL (K : PySem.W.Frag) : R2 := fun x y H Q => ∃ p xs i v, x = .ref p ∧ y = .int i ∧ SqL K H p xs ∧ atI xs i = some v ∧ Q v H
theorem ix_list : IxR X (rIxL X.K) := by
  intro value slice pins s σ H x y v u Q I rx ry h hs
  obtain ⟨p, xs, i, z, rfl, rfl, hq, he, q⟩ := h
  cases rx
  obtain ⟨t, rfl⟩ := ry
  obtain ⟨its, r, pl, hz⟩ := I.list hq
  obtain ⟨j, h1, h2, h3, h4, h5⟩ := atI_get he
  obtain ⟨w, ew, rw'⟩ := r.get h2
  have hl := r.length
  have hn := line63
  have fin : EP X pins σ Q w s := ⟨z, H, I, rw', q⟩
  by_cases h0 : 0 ≤ i
  · have hj : i.toNat = j := by
      rw [seqIndex_of h0 h5] at h1
      exact Option.some.inj h1
    exact item_listR pl.isList h0 (by omega) (by rw [hj]; simpa using ew) fin hs
  · have hj : (i + (its.toArray.size : Int)).toNat = j := by
      rw [seqIndex_neg (by omega) h4] at h1
      rw [List.size_toArray, ← hl]
      exact Option.some.inj h1
    exact subscriptTail_builtinR (x := w) pl.isList.typeIs slot_list_getitem.lookup
      (wpAny_getItem_list_neg (Q := fun r s' => r = w ∧ EP X pins σ Q r s') pl.isList (by omega) (by rw [List.size_toArray] <;> omega) (by omega) (by rw [hj]; simpa using ew) ⟨rfl, fin⟩) hs
/-! ### xs[i] = v, any sign -/
/-- the list's object behind a store -/
theorem mapSeq_set (its : List Value) (n j : Nat) (u : Value) : Obj.mapSeq (·.setIfInBounds j u) { cls := .type "list", data := .seq its.toArray n } = { cls := .type "list", data := .seq (its.set j u).toArray n } := by
  simp [Obj.mapSeq]
theorem Inv.lst {pins : List (Addr × Obj)} {σ : St} {H : Hp} {s : Shared} {p : Addr} {xs : List V} (I : Inv X pins σ H s) (h : H p = some (.lst xs)) :
    ∃ (its : List Value) (n : Nat), Vals xs its ∧ s.heap.get? p = some { cls := .type "list", data := .seq its.toArray n } ∧ xs.length ≤ sizeLine := by
  obtain ⟨z, its, n, r, e⟩ := I.hok p _ h
  exact ⟨its, n, r, e, z⟩
/-- the list at p is written by an update of its object -/
theorem Inv.lstUpd {pins : List (Addr × Obj)} {σ : St} {H : Hp} {s : Shared} {p : Addr} {xs ys : List V} {its its' : List Value} {n n' : Nat} {f : Obj → Obj} (I : Inv X pins σ H s) (h : H p = some (.lst xs))
    (ho : s.heap.get? p = some { cls := .type "list", data := .seq its.toArray n }) (hf : f { cls := .type "list", data := .seq its.toArray n } = { cls := .type "list", data := .seq its'.toArray n' }) (r : Vals ys its') (hz : ys.length ≤ sizeLine) (t : Nat) :
    Inv X pins σ (upd H p (.lst ys)) { s with heap := s.heap.update p f, toks := t } := by
  have e : (s.heap.update p f).get? p = some { cls := .type "list", data := .seq its'.toArray n' } := by
    rw [Heap.get?_update_self f ho (by rw [hf] <;> rfl), hf]
  refine I.write (x := p) (e := p) (by rw [h]; trivial) (.inl rfl) (fun b u hb q => (Heap.get?_update_other _ _ (Ne.symm hb)).trans q) ⟨_, e⟩ ?_
  exact ⟨hz, its', n', r, e⟩
def rSetL : V → V → V → Hp → (Hp → Prop) → Prop := fun o i v H Q => ∃ p xs k j, o = .ref p ∧ i = .int k ∧ H p = some (.lst xs) ∧ ixN xs.length k = some j ∧ Q (upd H p (.lst (xs.set j v)))
theorem set_list : PSet X rSetL := by
  intro pins s σ H o i v ov iv u Q I ro ri rv h
  obtain ⟨p, xs, k, j, rfl, rfl, hp, hj, q⟩ := h
  cases ro
  obtain ⟨t, rfl⟩ := ri
  obtain ⟨its, n, r, ho, hz⟩ := I.lst hp
  obtain ⟨h1, h2, h3, h4⟩ := ixN_seq hj
  have hl := r.length
  have hn := line63
  have I' : Inv X pins σ (upd H p (.lst (xs.set j v))) { s with heap := s.heap.update p (Obj.mapSeq (·.setIfInBounds j u)) } :=
    I.lstUpd hp ho (mapSeq_set its n j u) (r.set rv j) (by rw [List.length_set]; exact hz) s.toks
  by_cases h0 : 0 ≤ k
  · have hk : k.toNat = j := by
      rw [seqIndex_of h0 h4] at h1
      exact Option.some.inj h1
    exact PySem.W.ki_setAt ho h0 (by omega) (by rw [List.size_toArray, ← hl]; exact h4) (by rw [hk]; exact ⟨_, I', q⟩)
  · have hk : (k + (its.toArray.size : Int)).toNat = j := by
      rw [seqIndex_neg (by omega) h3] at h1
      rw [List.size_toArray, ← hl]
      exact Option.some.inj h1
    exact PySem.W.ki_setBack ho (by omega) (by rw [List.size_toArray, ← hl]; exact h3) (by omega) (by rw [hk]; exact ⟨_, I', q⟩)

/-! ### slices -/
/-! ### in, not in: flat items -/
def flatV : V → Bool
  | .non => true
  | .bl _ => true
  | .int _ => true
  | .str _ => true
  | _ => false
/-- == of flat values -/
def eqV : V → V → Bool
  | .non, .non => true
  | .bl a, .bl b => a == b
  | .bl a, .int b => (if a then 1 else 0) == b
  | .int a, .bl b => a == (if b then 1 else 0)
  | .int a, .int b => a == b
  | .str a, .str b => a == b
  | _, _ => false
theorem eqAt_V {A : Around} {s : Shared} {y x : V} {u v : Value} (ry : RelV y u) (rx : RelV x v) (fy : flatV y = true) (fx : flatV x = true) : SeqAt.EqAt A s u v (eqV y x) := by
  cases y with
  | non =>
    cases ry
    cases x with
    | non => cases rx; exact SeqAt.EqAt.same _
    | bl b => cases rx; exact SeqAt.EqAt.none_bool b
    | int b => obtain ⟨t, rfl⟩ := rx; exact SeqAt.EqAt.none_int b t
    | str b => obtain ⟨t, rfl⟩ := rx; exact SeqAt.EqAt.none_str b t
    | _ => exact absurd (show false = true from fx) Bool.false_ne_true
  | bl a =>
    cases ry
    cases x with
    | non => cases rx; exact SeqAt.EqAt.bool_none a
    | bl b => cases rx; exact SeqAt.EqAt.bool_bool a b
    | int b => obtain ⟨t, rfl⟩ := rx; exact SeqAt.EqAt.bool_int a b t
    | str b => obtain ⟨t, rfl⟩ := rx; exact SeqAt.EqAt.bool_str a b t
    | _ => exact absurd (show false = true from fx) Bool.false_ne_true
  | int a =>
    obtain ⟨t', rfl⟩ := ry
    cases x with
    | non => cases rx; exact SeqAt.EqAt.int_none a t'
    | bl b => cases rx; exact SeqAt.EqAt.int_bool a t' b
    | int b => obtain ⟨t, rfl⟩ := rx; exact SeqAt.EqAt.int_int a t' b t
    | str b => obtain ⟨t, rfl⟩ := rx; exact SeqAt.EqAt.int_str a t' b t
    | _ => exact absurd (show false = true from fx) Bool.false_ne_true
  | str a =>
    obtain ⟨t', rfl⟩ := ry
    cases x with
    | non => cases rx; exact SeqAt.EqAt.str_none a t'
    | bl b => cases rx; exact SeqAt.EqAt.str_bool a t' b
    | int b => obtain ⟨t, rfl⟩ := rx; exact SeqAt.EqAt.str_int a t' b t
    | str b => obtain ⟨t, rfl⟩ := rx; exact SeqAt.EqAt.str_str a t' b t
    | _ => exact absurd (show false = true from fx) Bool.false_ne_true
  | _ => exact absurd (show false = true from fy) Bool.false_ne_true
/-- the items' answers, read off the values (a value's own answer does not lean on its token) -/
def eqU (x : V) (u : Value) : Bool := match u with
  | .none => eqV .non x
  | .bool b => eqV (.bl b) x
  | .int i _ => eqV (.int i) x
  | .str z _ => eqV (.str z) x
  | _ => false
theorem eqU_of {x y : V} {u : Value} (r : RelV y u) (f : flatV y = true) : eqU x u = eqV y x := by
  cases y with
  | non => cases r; rfl
  | bl b => cases r; rfl
  | int i => obtain ⟨t, rfl⟩ := r; rfl
  | str z => obtain ⟨t, rfl⟩ := r; rfl
  | _ => exact absurd (show false = true from f) Bool.false_ne_true
theorem any_eqU {x : V} : ∀ {xs : List V} {us : List Value}, Vals xs us → xs.all flatV = true → us.any (eqU x) = xs.any fun y => eqV y x
  | _, _, .nil, _ => rfl
  | y :: xs, u :: us, .cons r t, f => by
    rw [List.all_cons, Bool.and_eq_true] at f
    rw [List.any_cons, List.any_cons, eqU_of r f.1, any_eqU t f.2]
theorem mem_eqAt {A : Around} {s : Shared} {x : V} {v : Value} (rx : RelV x v) (fx : flatV x = true) : ∀ {xs : List V} {us : List Value}, Vals xs us → xs.all flatV = true → ∀ u ∈ us, SeqAt.EqAt A s u v (eqU x u)
  | _, _, .nil, _ => fun u hu => by cases hu
  | y :: xs, u :: us, .cons r t, f => fun u' hu => by
    rw [List.all_cons, Bool.and_eq_true] at f
    rcases List.mem_cons.mp hu with rfl | hu
    · rw [eqU_of r f.1]; exact eqAt_V r rx f.1 fx
    · exact mem_eqAt rx fx t f.2 u' hu
def inV (x : V) (xs : List V) : Bool := xs.any fun y => eqV y x
/-- x in a list or tuple of flat items -/
def rIn (K : PySem.W.Frag) (neg : Bool) : R2 := fun x y H Q => ∃ p xs, y = .ref p ∧ (SqL K H p xs ∨ SqT K H p xs) ∧ flatV x = true ∧ xs.all flatV = true ∧ Q (.bl (if neg then !inV x xs else inV x xs)) H
theorem op_in_seq : OpR X (compareOp .In) (rIn X.K false) := by
  intro pins s σ H x y v u Q I rx ry h
  obtain ⟨p, xs, rfl, hq, fx, fs, q⟩ := h
  cases ry
  rcases hq with hq | hq
  · obtain ⟨its, r, pl, hz⟩ := I.list hq
    refine SeqAt.in_listAt (eqU x) pl.isList (fun w hw => mem_eqAt rx fx r fs w (by simpa using hw)) ⟨.bl _, H, I, rfl, ?_⟩
    rw [show its.toArray.any (eqU x) = its.any (eqU x) by simp, any_eqU r fs]
    exact q
  · obtain ⟨its, r, pl, hz⟩ := I.tuple hq
    refine SeqAt.in_tupleAt (eqU x) pl (fun w hw => mem_eqAt rx fx r fs w (by simpa using hw)) ⟨.bl _, H, I, rfl, ?_⟩
    rw [show its.toArray.any (eqU x) = its.any (eqU x) by simp, any_eqU r fs]
    exact q
theorem op_notIn_seq : OpR X (compareOp .NotIn) (rIn X.K true) := by
  intro pins s σ H x y v u Q I rx ry h
  obtain ⟨p, xs, rfl, hq, fx, fs, q⟩ := h
  cases ry
  rcases hq with hq | hq
  · obtain ⟨its, r, pl, hz⟩ := I.list hq
    refine SeqAt.notIn_listAt (eqU x) pl.isList (fun w hw => mem_eqAt rx fx r fs w (by simpa using hw)) ⟨.bl _, H, I, rfl, ?_⟩
    rw [show its.toArray.any (eqU x) = its.any (eqU x) by simp, any_eqU r fs]
    exact q
  · obtain ⟨its, r, pl, hz⟩ := I.tuple hq
    refine SeqAt.notIn_tupleAt (eqU x) pl (fun w hw => mem_eqAt rx fx r fs w (by simpa using hw)) ⟨.bl _, H, I, rfl, ?_⟩
    rw [show its.toArray.any (eqU x) = its.any (eqU x) by simp, any_eqU r fs]
    exact q
/-! ### len, list(x), tuple(x) of any list or tuple that is read -/
theorem call_len_seq : CallR X (.builtin "len") (fun xs H Q => ∃ p ys, xs = [.ref p] ∧ (SqL X.K H p ys ∨ SqT X.K H p ys) ∧ Q (.int ys.length) H) := by
  intro pins s σ H xs us Q I r h
  obtain ⟨p, ys, rfl, hq, q⟩ := h
  obtain ⟨u, rfl, rx⟩ := vals1 r
  cases rx
  have hn := line63
  rcases hq with hq | hq
  · obtain ⟨its, r', pl, hz⟩ := I.list hq
    have hlen := r'.length
    exact Calls.call_len_list pl.isList (by simp only [List.size_toArray] <;> omega) ⟨.int ys.length, H, I.tok _, ⟨s.toks + 1, by rw [List.size_toArray, hlen]⟩, q⟩
  · obtain ⟨its, r', pl, hz⟩ := I.tuple hq
    have hlen := r'.length
    exact len_tuple pl (by simp only [List.size_toArray] <;> omega) ⟨.int ys.length, H, I.tok _, ⟨s.toks + 1, by rw [List.size_toArray, hlen]⟩, q⟩
theorem CallR.or {f : Value} {r r' : List V → Hp → VK → Prop} (h : CallR X f r) (h' : CallR X f r') : CallR X f (fun xs H Q => r xs H Q ∨ r' xs H Q) := by
  intro pins s σ H xs us Q I rs q
  rcases q with q | q
  · exact h pins s σ H xs us Q I rs q
  · exact h' pins s σ H xs us Q I rs q
theorem call_list_of : CallR X (.type "list") (fun xs H Q => ∃ p ys, xs = [.ref p] ∧ (SqL X.K H p ys ∨ SqT X.K H p ys) ∧ ∀ l, H l = none → Q (.ref l) (upd H l (.lst ys))) := by
  intro pins s σ H xs us Q I r h
  obtain ⟨p, ys, rfl, hq, q⟩ := h
  obtain ⟨u, rfl, rx⟩ := vals1 r
  cases rx
  have fin : ∀ (its : List Value), Vals ys its → ys.length ≤ sizeLine → ∀ (h' : Heap) (c' : Nat), (∀ b o', s.heap.get? b = some o' → h'.get? b = some o') →
      h'.get? s.heap.objs.size = some { cls := .type "list", dict := none, data := .seq its.toArray c', slots := #[] } → EP X pins σ Q (.ref s.heap.objs.size) { s with heap := h' } := fun its r' hz h' c' kp e =>
    ⟨.ref s.heap.objs.size, _, I.laid (t' := s.toks) kp (Nat.le_refl _) (show ObjOk X.prog X.w _ h' _ (.lst ys) from ⟨hz, its, c', r', e⟩), rfl, q _ (I.hok.fresh (Nat.le_refl _))⟩
  rcases hq with hq | hq
  · obtain ⟨its, r', pl, hz⟩ := I.list hq
    have hlen := r'.length
    obtain ⟨o, ho, hc, n, hd⟩ := pl.isList
    exact call_list_seq p (.inl rfl) ho hc hd (fun h' c' kp e => fin its r' hz h' c' kp e) (by simp only [List.size_toArray] <;> omega)
  · obtain ⟨its, r', pl, hz⟩ := I.tuple hq
    have hlen := r'.length
    obtain ⟨o, ho, hc, n, hd⟩ := pl
    exact call_list_seq p (.inr rfl) ho hc hd (fun h' c' kp e => fin its r' hz h' c' kp e) (by simp only [List.size_toArray] <;> omega)
/-! ### the call of a builtin's method: o.m(..) -/
/-- the value is of that builtin type -/
def tyV (K : PySem.W.Frag) (T : String) (x : V) (H : Hp) : Prop := match x with
  | .str _ => T = "str"
  | .int _ => T = "int"
  | .ref p => (T = "list" ∧ ∃ xs, SqL K H p xs) ∨ (T = "tuple" ∧ ∃ o, K.lookup p = some o ∧ o.cls = .type "tuple" ∧ o.dict = none) ∨
      (T = "dict" ∧ ((∃ kvs, H p = some (.dK kvs)) ∨ ∃ kvs, H p = some (.dT kvs))) ∨ (T = "set" ∧ ∃ S n, H p = some (.set S n))
  | _ => False
theorem tyV_is {pins : List (Addr × Obj)} {σ : St} {H : Hp} {s : Shared} {T : String} {x : V} {v : Value} (I : Inv X pins σ H s) (r : RelV x v) (ty : tyV X.K T x H) :
    s.TypeIs v T ∧ ∀ a, v = .ref a → ∃ ob, s.heap.get? a = some ob ∧ ob.dict = none := by
  cases x with
  | str z =>
    obtain ⟨t, rfl⟩ := r
    cases (show T = "str" from ty)
    exact ⟨typeIs_str s z t, fun _ e => nomatch e⟩
  | int i =>
    obtain ⟨t, rfl⟩ := r
    cases (show T = "int" from ty)
    exact ⟨typeIs_int s i t, fun _ e => nomatch e⟩
  | ref p =>
    cases r
    rcases ty with ⟨rfl, xs, hq⟩ | ⟨rfl, o, hk, hc, hd⟩ | ⟨rfl, hk⟩ | ⟨rfl, S, n, hk⟩
    · obtain ⟨its, _, pl, _⟩ := I.list hq
      refine ⟨pl.isList.typeIs, fun a e => ?_⟩
      cases e
      obtain ⟨o, n, e, c, hd, _⟩ := pl
      exact ⟨o, e, hd⟩
    · refine ⟨⟨o, I.kIn p o hk, hc⟩, fun a e => ?_⟩
      cases e
      exact ⟨o, I.kIn _ o hk, hd⟩
    · have z : ∃ o, s.heap.get? p = some o ∧ o.ExactDict := by
        rcases hk with ⟨kvs, hk⟩ | ⟨kvs, hk⟩
        · obtain ⟨_, _, _, _, o, _, _, e, ex, _⟩ := I.hok p _ hk
          exact ⟨o, e, ex⟩
        · obtain ⟨_, _, _, _, o, _, _, e, ex, _⟩ := I.hok p _ hk
          exact ⟨o, e, ex⟩
      obtain ⟨o, e, ex⟩ := z
      refine ⟨⟨o, e, ex.1⟩, fun a e2 => ?_⟩
      cases e2
      exact ⟨o, e, ex.2.1⟩
    · obtain ⟨o, _, _, _, e, ex, _⟩ := I.hok p _ hk
      refine ⟨⟨o, e, ex.1⟩, fun a e2 => ?_⟩
      cases e2
      exact ⟨o, e, ex.2.1⟩
  | _ => exact False.elim ty
def tBM (K : PySem.W.Frag) (T : String) (r : V → List V → Hp → VK → Prop) (to : TE) (t : TA) : TE := fun σ H Q => to σ H fun x H1 => tyV K T x H1 ∧ t σ H1 fun xs H2 => r x xs H2 Q
variable {o e : Expr} {es : List Expr} {to : TE} {t : TA} {name : Str} {apos cpos : Pos} {T id : String} {r : V → List V → Hp → VK → Prop}
theorem pe_bm (pa : PlainAttrs T) (slot : Slot T name id) (hty : typeOf (.builtin id) = pure (.type "method_descriptor")) (hm : MtR X id r) (ho : PE X o to) (ha : PA X (e :: es) t)
    (hbase : attributeBase o name X.env (eval o X.env) = eval o X.env := by rfl)
    (hfew : ((backTo cpos (starEach (e :: es) X.env)).all (fun x => !x.1) && (backToKw cpos (keywordEach [] X.env)).all (fun x => x.1.isSome)
      && decide ((e :: es).length + ([] : List Keyword).length + (if ([] : List Keyword).isEmpty then 0 else 1) < 30)) = true := by rfl)
    (hline : (apos.endLine == cpos.line) = true := by rfl) (hs : starEach (e :: es) X.env = (false, eval e X.env) :: starEach es X.env := by rfl) (hplain : (backTo cpos (starEach es X.env)).any (·.1) = false := by rfl) :
    PE X (.Call (.Attribute o name apos) (e :: es) [] cpos) (tBM X.K T r to t) := by
  intro pins s σ H Q I h
  refine wpAny_Call_method_late hbase hfew hline rfl (thn (ho pins s σ H _ I h) fun v s1 ⟨x, H1, I1, r1, ty, q1⟩ => ?_)
  obtain ⟨h1, h2⟩ := tyV_is I1 r1 ty
  refine ⟨T, id, pa, slot, hty, h1, h2, ?_⟩
  have hA := ha cpos pins s1 σ H1 _ I1 q1
  rw [hs] at hA ⊢
  refine Calls.callWith_builtin (by show (false || (backTo cpos (starEach es X.env)).any (·.1)) = false; rw [hplain] <;> rfl) (Calls.evalArgs_plain ?_)
  exact thn hA fun us s2 ⟨vs, H2, I2, r2, q2⟩ => hm pins s2 σ H2 x vs v us Q I2 r1 r2 q2
/- xs.append(e), list.index on a module's tuple .. are MtR facts of 06m -/
end
end L2

namespace L2
open PySem PySem.Spec PyProof.Rows

def MtM (X : Cx) (id : String) (r : V → List V → Hp → VK → Prop) : Prop :=
  ∀ (pins : List (Addr × Obj)) (s : Shared) (σ : St) (H : Hp) (x : V) (xs : List V) (v : Value) (us : List Value) (Q : VK), Inv X pins σ H s → RelV x v → Vals xs us → r x xs H Q →
    wpAny (model X.prog X.w) X.A (call (.builtin id) (v :: us)) (EP X pins σ Q) X.xe s

/-! ### lists of values -/
theorem Vals.one : ∀ {x : V} {us : List Value}, Vals [x] us → ∃ u, us = [u] ∧ RelV x u
  | _, _, .cons r .nil => ⟨_, rfl, r⟩
theorem Vals.two : ∀ {x y : V} {us : List Value}, Vals [x, y] us → ∃ u v, us = [u, v] ∧ RelV x u ∧ RelV y v
  | _, _, _, .cons r (.cons q .nil) => ⟨_, _, rfl, r, q⟩
theorem Vals.zero : ∀ {us : List Value}, Vals [] us → us = []
  | _, .nil => rfl
theorem Vals.reverse {xs : List V} {us : List Value} (h : Vals xs us) : Vals xs.reverse us.reverse := by
  induction h with
  | nil => exact .nil
  | cons r t ih => rw [List.reverse_cons, List.reverse_cons]; exact Vals.append ih (.cons r .nil)
theorem Vals.rep {xs : List V} {us : List Value} (h : Vals xs us) : ∀ k : Nat, Vals (List.replicate k xs).flatten (List.replicate k us).flatten
  | 0 => .nil
  | k + 1 => by
    rw [List.replicate_succ, List.replicate_succ, List.flatten_cons, List.flatten_cons]
    exact Vals.append h (Vals.rep h k)
theorem foldl_rep (its : List Value) : ∀ (k : Nat) (acc : List Value),
    List.foldl (fun x1 x2 => x1 ++ x2) acc.toArray (List.replicate k its.toArray) = (acc ++ (List.replicate k its).flatten).toArray
  | 0, acc => by simp
  | k + 1, acc => by
    have e : acc.toArray ++ its.toArray = (acc ++ its).toArray := by simp
    have e2 : (acc ++ its) ++ (List.replicate k its).flatten = acc ++ (List.replicate (k + 1) its).flatten := by
      rw [List.replicate_succ, List.flatten_cons, List.append_assoc]
    rw [← e2, ← foldl_rep its k (acc ++ its), ← e, List.replicate_succ, List.foldl_cons]

section
variable {X : Cx} {pins : List (Addr × Obj)} {σ : St} {H : Hp} {s : Shared} {l b : Addr} {xs ys zs : List V}

/-! ### the two steps: a tracked list is rewritten, a new list is laid -/
theorem Inv.lset {its its' : List Value} {n : Nat} {f : Array Value → Array Value} {t' : Nat} (I : Inv X pins σ H s) (hH : H l = some (.lst xs))
    (e : s.heap.get? l = some { cls := .type "list", data := .seq its.toArray n }) (hf : f its.toArray = its'.toArray) (hv : Vals ys its') (hz : ys.length ≤ sizeLine) :
    Inv X pins σ (upd H l (.lst ys)) { s with heap := s.heap.update l (Obj.mapSeq f), toks := t' } := by
  have q := PySem.IsL.update e f
  rw [hf] at q
  refine I.write (x := l) (e := l) (by rw [hH]; exact trivial) (.inl rfl) (fun b' u hb hu => (Heap.get?_update_other s.heap (Obj.mapSeq f) (Ne.symm hb)).trans hu) ⟨_, q⟩ ?_
  exact ⟨hz, its', _, hv, q⟩
theorem Inv.lnew {its : List Value} {t' : Nat} (I : Inv X pins σ H s) (hv : Vals ys its) (hz : ys.length ≤ sizeLine) :
    Inv X pins σ (upd H s.heap.objs.size (.lst ys)) { s with heap := s.heap.push { cls := .type "list", data := .seq its.toArray }, toks := t' } :=
  I.laid (fun _ _ q => Heap.get?_push_of_some _ q) (Nat.le_refl _) ⟨hz, its, 0, hv, Heap.get?_push_size _ rfl⟩
theorem Inv.fresh (I : Inv X pins σ H s) : H s.heap.objs.size = none := I.hok.fresh (Nat.le_refl _)
theorem Inv.lstM (I : Inv X pins σ H s) (hH : H l = some (.lst xs)) : xs.length ≤ sizeLine ∧ ∃ (its : List Value) (n : Nat), Vals xs its ∧ xs.length = its.length ∧ s.heap.get? l = some { cls := .type "list", data := .seq its.toArray n } := by
  obtain ⟨z, its, n, r, e⟩ := I.hok l _ hH
  exact ⟨z, its, n, r, r.length, e⟩

theorem notLongL {n : Nat} (h : n ≤ sizeLine) : Builtin.List.listTooLong n = false := by
  unfold Builtin.List.listTooLong
  exact decide_eq_false (by omega)
end

section
variable {X : Cx}

/-! ### methods -/
def rAppend : V → List V → Hp → VK → Prop := fun x vs H Q => ∃ l xs y, x = .ref l ∧ vs = [y] ∧ H l = some (.lst xs) ∧ xs.length < sizeLine ∧ Q .non (upd H l (.lst (xs ++ [y])))
theorem mt_append : MtM X "list.append" rAppend := by
  intro pins s σ H x vs v us Q I rx rv h
  obtain ⟨l, xs, y, rfl, rfl, hH, hz, q⟩ := h
  cases rx
  obtain ⟨u, rfl, ru⟩ := rv.one
  obtain ⟨z, its, n, r, hl, e⟩ := I.lstM hH
  refine call_meets F.slot_list_append ⟨_, e, rfl⟩ F.entry_list_append (F.args_list_append_2 _ _) (PySem.list_append l its.toArray n u (by rw [List.size_toArray]; omega)) ⟨e, ?_⟩
  refine ⟨.non, _, I.lset (its' := its ++ [u]) hH e (by simp) (r.append (.cons ru .nil)) ?_, rfl, q⟩
  rw [List.length_append, List.length_singleton]
  omega

/-! ### list + list, list += list, list * int -/
/-- a list times an int (a negative one is nothing) -/
def rRep : R2 := fun x y H Q => ∃ l k xs, x = .ref l ∧ y = .int k ∧ H l = some (.lst xs) ∧ -(2 ^ 63) ≤ k ∧ k < 2 ^ 63 ∧ xs.length * k.toNat ≤ sizeLine ∧
  ∀ p, H p = none → Q (.ref p) (upd H p (.lst (List.replicate k.toNat xs).flatten))
theorem len_rep {α : Type} (xs : List α) (k : Nat) : (List.replicate k xs).flatten.length = k * xs.length := by
  induction k with
  | zero => simp
  | succ k ih => rw [List.replicate_succ, List.flatten_cons, List.length_append, ih, Nat.succ_mul, Nat.add_comm]
theorem op_rep : OpR X (binaryOp .Mult) rRep := by
  intro pins s σ H x y v u Q I rx ry h
  obtain ⟨l, k, xs, rfl, rfl, hH, h1, h2, hz, q⟩ := h
  cases rx
  obtain ⟨t, rfl⟩ := ry
  obtain ⟨z, its, n, r, hl, e⟩ := I.lstM hH
  have hlen : its.toArray.size * k.toNat ≤ sizeLine := by rw [List.size_toArray, ← hl]; exact hz
  have hcap : ¬ its.toArray.size * k.toNat > (2 ^ 63 - 1) / 8 := by
    have : (sizeLine : Nat) ≤ (2 ^ 63 - 1) / 8 := by decide
    omega
  have hfit : ¬ (!Builtin.List.listFitsIndex k) = true := by
    rw [fitsIndex_both h1 h2]
    exact Bool.false_ne_true
  have hlong : ¬ Builtin.List.listTooLong (its.toArray.size * k.toNat) = true := by
    rw [notLongL hlen]
    exact Bool.false_ne_true
  have hnew : List.foldl (fun x1 x2 => x1 ++ x2) #[] (List.replicate (if its.toArray.isEmpty = true then 0 else k.toNat) its.toArray) = (List.replicate k.toNat its).flatten.toArray := by
    have f0 : ∀ m : Nat, List.foldl (fun x1 x2 => x1 ++ x2) #[] (List.replicate m its.toArray) = (List.replicate m its).flatten.toArray := fun m => by
      have := foldl_rep its m []
      rw [List.nil_append] at this
      exact this
    rw [f0]
    cases its with
    | nil => simp
    | cons a r' => rw [if_neg (by simp)]
  refine wpAny_binaryOp_repeat_ref (T := "list") (U := "int") (by decide) ⟨_, e, rfl⟩ (fun s' => typeIs_int s' k t) noFill_list_mul F.fills_int_mul F.slot_int_rmul repeat_list F.slot_int_index.lookup
    (call_meets F.slot_int_rmul (typeIs_int s k t) F.entry_int_rmul (F.args_int_rmul_2 _ _) (int___rmul___int_list k t l its.toArray n)
      ⟨e, rfl, ⟨_, e, rfl⟩, call_meets F.slot_list_mul ⟨_, e, rfl⟩ F.entry_list_mul (F.args_list_mul_2 _ _) (AutoListH.list___mul___list_int_3 l its.toArray n k t hfit hcap hlong) ⟨e, ?_⟩⟩)
  rw [hnew]
  exact ⟨.ref _, _, I.lnew (t' := s.toks) (r.rep k.toNat) (by rw [len_rep, Nat.mul_comm]; exact hz), rfl, q _ I.fresh⟩

/-! ### del xs[i] -/
end

/-! ### xs[a:b] = ys -/
section
variable {prog : Program} {w : World} {A : Around} {E : Value → Shared → Prop} {s : Shared}
set_option maxRecDepth 100000 in
end

section
variable {X : Cx}
end
end L2

namespace Att
open PySem PySem.W PySem.Calls PyProof.Rows

/-! ### the script -/
theorem ints_of_wellAll {P : Params} {h : Heap} : ∀ (ns : List Int) (vs : List Value), WellAll P h vs (ns.map WData.int) → IntsAre vs ns := by
  intro ns
  induction ns with
  | nil =>
    intro vs w
    rw [List.map_nil] at w
    cases w
    exact .nil
  | cons n ns ih =>
    intro vs w
    rw [List.map_cons] at w
    cases w with
    | cons a b =>
      cases a
      exact .cons _ _ (ih _ b)

theorem script_of {l : OpenLaw} {n : Nat} (hn : l.most = some n) {P : Params} {h : Heap} {args : List WData} {vals : List Value}
    (hpre : l.row.toRowW.claim.pre args = true) (hwl : WellAll P h vals args) :
    ∃ a vs ns, vals = [Value.ref a] ∧ args = [WData.list (ns.map WData.int)] ∧ h.get? a = some { cls := .type "list", data := .seq vs.toArray } ∧ IntsAre vs ns ∧ ns.length ≤ n := by
  have hsh : WShape.hasAll [] args [.list .int] = true := (pre_splitW hpre).1
  have hc : l.pre.holds [] { args := args } = true := (pre_splitW hpre).2
  obtain ⟨d, r, rfl, h1, h2⟩ := hasAllW_cons hsh
  obtain rfl := hasAllW_nil h2
  obtain ⟨xs, rfl, h3⟩ := hasW_list h1
  obtain ⟨ns, rfl⟩ := items_int h3
  have hlen : ns.length ≤ n := by
    unfold OpenLaw.pre at hc
    have h4 : (WTm.not (.lt (.lit (.int (n : Int))) (.len (.arg 0)))).holds [] { args := [.list (ns.map .int)] } = true := by
      have h4 := (holds_andW hc).1
      rw [hn] at h4
      exact h4
    have h5 := condW_of h4 (w_not (w_lt w_lit (w_len_list (w_arg rfl))))
    rw [List.length_map] at h5
    refine Nat.le_of_not_lt fun q => ?_
    have q' : (n : Int) < ((ns.length : Nat) : Int) := by omega
    first
      | (rw [decide_eq_true q'] at h5; exact absurd h5 (by decide))
      | (simp at h5; omega)
  cases hwl with
  | cons w1 w2 =>
    cases w2
    cases w1 with
    | list ho hall => exact ⟨_, _, ns, rfl, rfl, ho, ints_of_wellAll ns _ hall, hlen⟩

theorem post_true (l : OpenLaw) (args : List WData) : l.row.toRowW.claim.post args (.bool true) args = true :=
  postW_of (r := l.row.toRowW) (X := (true == true))
    (show WShape.has [] (.bool true) .bool = true by first | rfl | decide | simp [WShape.has, WShape.arms, WShape.armsAll])
    (show (WTm.eq .res (.lit (.bool true))).value [] { args := args, res := some (.bool true), after := args } = some (.bool (true == true)) from w_eq_bool (w_res rfl) w_lit) rfl

/-! ### the attachment: holds_open's last premise (the goal 'hc' behind k_head) from a wpAny of the law's body -/
/-- the same from a codeAny of the CALL (for a layer whose function contracts speak of calls) -/
theorem attach_call {l : OpenLaw} {n : Nat} {q : Program} {loose : List Str} {XP : (Str → Option Value) → Heap → Prop} {YP : World → Heap → Prop} {d : DefRec}
    (hn : l.most = some n) (hdf : d.params.defaults = [])
    (call : ∀ (w : World) (s₀ s₁ : Shared) (mg mb : Str → Option Value) (fa : Addr) (o : Obj) (pm cd doc : Value) (a : Addr) (vs : List Value) (ns : List Int),
      Ground q loose [] XP w s₀ mg mb s₁.heap → YP w s₁.heap →
      s₁.heap.get? fa = some o → o.data = .func (docDef d.name d.params d.body d.scope pm cd doc) → s₁.heap.CodeRec cd d.name → mg d.name = some (.ref fa) →
      s₁.heap.get? a = some { cls := .type "list", data := .seq vs.toArray } → IntsAre vs ns → ns.length ≤ n → s₁.gens = #[] →
      codeAny (model l.prog w) callerA (.call (.ref fa) ⟨[.ref a], []⟩) (fun r s' => r = .ok (.ret (.bool true)) ∧ OldK s₁.heap s'.heap ∧ s'.os = s₁.os ∧ AllBare s'.gens) s₁) :
    WalkO q loose XP YP l.row.toRowW d [] (fun f vs => PySem.call f vs) := by
  intro w s₀ s₁ mg mb G Y fa o pm cd doc dV kV ho hd hcd hD hmg hg args vals as hpre hlay hrd hwl hlo
  obtain rfl : dV = .none := Dflts.none hD hdf
  obtain rfl : kV = .none := Dflts.noKw hD
  obtain ⟨a, vs, ns, rfl, rfl, hobj, hints, hlen⟩ := script_of hn hpre hwl
  refine enter_call (codeAny_mono (call w s₀ s₁ mg mb fa o pm cd doc a vs ns G Y ho (fd_plain hd) hcd hmg hobj hints hlen hg) fun r s' hq => ?_)
  obtain ⟨rfl, h2, h3, h4⟩ := hq
  exact ⟨.inl ⟨.bool true, .bool true, [], rfl, fun _ => rfl, .bool true, post_true l _, fun _ => ⟨List.Pairwise.nil, fun _ hm => (nomatch hm)⟩⟩, h2, h3, h4⟩

/-! ### rules over ANY heap (no ledger) from facts about the written part K: the library's own take a ledger (News) for what they write -/
section
variable {prog : Program} {w : World} {A : Around} {E : Value → Shared → Prop} {s : Shared} {K : Frag}

/-! the whole heap as the ledger: makes every rule that writes through a ledger a rule over any heap -/
def ledger (h : Heap) (L d : Addr) : List (Addr × Obj) := (List.range h.objs.size).filterMap fun a => if a = L ∨ a = d then none else (h.get? a).map fun o => (a, o)
end
end Att

namespace L2
open PySem PySem.Spec PyProof.Rows

theorem vals_ints : ∀ {vs : List Value} {ns : List Int}, IntsAre vs ns → Vals (ns.map V.int) vs
  | _, _, .nil => .nil
  | _, _, .cons n t h => .cons ⟨t, rfl⟩ (vals_ints h)

/-- nothing is tracked but the script, known to the object (or it is an object of the module) -/
def Only (H : Hp) : Prop := ∀ b, H b = none ∨ ∃ o xs, H b = some (.frz o (.lst xs))

/-- THE HEAD: the law's promise, at the heap behind the top. F, the promise of the law's def, may use that base is part of the heap (so K.In base, base.Ns mainGlobals mg stand in Mod) -/
theorem law_call {P : Program} {w : World} {K : PySem.W.Frag} {mg mb : Str → Option Value} {CX : CXT} {k : Nat} {fa a : Addr} {fd : FuncData} {x : Str} {sp : Sp} {s₁ : Shared} {vs : List Value} {ns : List Int}
    (KX : K.In s₁.heap) (hns : s₁.heap.Ns mainGlobals mg) (hb : s₁.heap.Ns builtinsNs mb) (hbb : ∀ x : Str, x ≠ "__name__" → mb x = bootBuiltins x) (hlim : s₁.heap.NoLimit) (hg : s₁.gens = #[])
    (ha : s₁.heap.get? a = some { cls := .type "list", data := .seq vs.toArray }) (hi : IntsAre vs ns) (hl : ns.length ≤ sizeLine) (hr : Room k callerA)
    (F : ∀ base : Heap, K.In base → base.Ns mainGlobals mg → FnOk P w K mg base CX k fa fd [x] sp) (hbind : ∀ (s : Shared) (u : Value), BindsTo s fd ⟨[u], []⟩ [(x, u)])
    (hsp : ∀ H : Hp, Only H → SqL K H a (ns.map V.int) → sp [.ref a] H (fun v _ => v = .bl true) fun _ _ _ => False)
    (hCX : ∀ H e s', CX [] H s₁ (fun _ _ _ => False) e s' → False) :
    codeAny (model P w) callerA (.call (.ref fa) ⟨[.ref a], []⟩) (fun r s' => r = .ok (.ret (.bool true)) ∧ OldK s₁.heap s'.heap ∧ s'.os = s₁.os ∧ AllBare s'.gens) s₁ := by
  have rv := vals_ints hi
  have lenV := hi.length
  -- from an abstract heap in which nothing but the script may be tracked
  have core : ∀ H : Hp, Only H → SqL K H a (ns.map V.int) → HOk P w H s₁.heap → (∀ b, H b ≠ none → b = a) → (H a ≠ none → K.lookup a = none) →
      codeAny (model P w) callerA (.call (.ref fa) ⟨[.ref a], []⟩) (fun r s' => r = .ok (.ret (.bool true)) ∧ OldK s₁.heap s'.heap ∧ s'.os = s₁.os ∧ AllBare s'.gens) s₁ := by
    intro H hO hS hok hA hK
    have base_of : ∀ {b : Addr} {o : Obj}, s₁.heap.get? b = some o → H b = none → (hidT s₁.heap H).get? b = some o := fun e n => hidT_get e n
    have noA : ∀ {b : Addr} {o : Obj} {es : Array DictEntry} {ep : Nat}, s₁.heap.get? b = some o → o.data = .dict es ep → H b = none := fun {b o es ep} e d => by
      cases q : H b with
      | none => rfl
      | some u =>
        have e' : b = a := hA b (by rw [q]; simp)
        subst e'
        rw [ha] at e; cases e
        have d' : Data.seq vs.toArray _ = Data.dict es ep := d
        cases d'
    have nsK : ∀ {b : Addr} {m : Str → Option Value}, s₁.heap.Ns b m → (hidT s₁.heap H).Ns b m := fun {b m} ⟨o, es, ep, e, d, r⟩ => ⟨o, es, ep, base_of e (noA e d), d, r⟩
    have hKb : K.In (hidT s₁.heap H) := fun b o e => base_of (KX b o e) (by
      cases q : H b with
      | none => rfl
      | some u =>
        have e' : b = a := hA b (by rw [q]; simp)
        subst e'
        rw [hK (by rw [q]; simp)] at e; cases e)
    have hM : Mod K mg (hidT s₁.heap H) := ⟨hKb, nsK hns, ⟨mb, nsK hb, hbb⟩, let ⟨mc, h1, h2⟩ := hlim; ⟨mc, nsK h1, h2⟩⟩
    have e0 : Env0 P w K mg (hidT s₁.heap H) callerA [] s₁ H := ⟨rfl, hM, fun b o e => of_hidT e, Nat.le_of_eq (hidT_size _ _), trivial, fun b hb => absurd (show b ∈ ([] : List Addr) from hb) (by simp), hok, .of_eq hg⟩
    refine codeAny_mono ((F _ hKb (nsK hns)).run callerA [] s₁ H ⟨[.ref a], []⟩ [.ref a] [.ref a] _ _ hr e0 (hbind s₁ (.ref a)) (.cons rfl .nil) (hsp H hO hS)) fun r s' h => ?_
    cases r with
    | error e => exact (hCX H e s' h).elim
    | ok fl =>
      cases fl with
      | next => exact False.elim h
      | brk => exact False.elim h
      | cont => exact False.elim h
      | ret u =>
        obtain ⟨v, H', os, bare, un, hok', r', q⟩ := h
        have q' : v = .bl true := q
        subst q'
        obtain rfl : u = Value.bool true := r'
        refine ⟨rfl, OldK.of_keep fun b o e => ?_, os, bare⟩
        cases q : H b with
        | none => exact un.keep b o e q (by intro z; exact absurd (show b ∈ ([] : List Addr) from z) (by simp)) (by simp)
        | some u =>
          rcases hO b with z | ⟨ob, xs, z⟩
          · rw [q] at z; cases z
          · have z2 := un.frzs b ob _ z
            obtain ⟨e1, _⟩ := hok b _ z
            obtain ⟨e2, _⟩ := hok' b _ z2
            rw [e] at e1; cases e1
            exact e2
  cases hk : K.lookup a with
  | some o =>
    -- the script is one of the module's own objects
    have e := KX a o hk
    rw [ha] at e
    cases e
    refine core (fun _ => none) (fun _ => .inl rfl) (.inr ⟨_, vs.toArray, _, hk, rfl, rfl, rfl, by rw [List.size_toArray, lenV]; exact hl, by simpa using rv⟩) (fun b u z => by have z' : (none : Option HO) = some u := z; cases z') (fun b z => absurd rfl z) fun z => absurd rfl z
  | none =>
    refine core (fun b => if b = a then some (.frz { cls := .type "list", data := .seq vs.toArray } (.lst (ns.map V.int))) else none) (fun b => ?_) (.inl (.inr ⟨{ cls := .type "list", data := .seq vs.toArray }, if_pos rfl⟩)) (fun b u z => ?_) (fun b z => ?_) fun _ => hk
    · by_cases hb : b = a
      · exact .inr ⟨_, _, if_pos hb⟩
      · exact .inl (if_neg hb)
    · by_cases hb : b = a
      · have z' := (if_pos hb).symm.trans z
        cases z'
        subst hb
        exact ⟨ha, by rw [List.length_map]; exact hl, vs, _, rv, ha⟩
      · have z' := (if_neg hb).symm.trans z
        cases z'
    · by_cases hb : b = a
      · exact hb
      · exact absurd (if_neg hb) z
end L2

namespace L2
open PySem PySem.Spec PyProof.Rows

abbrev KOf {K : PySem.W.Frag} {h : Heap} (_ : K.In h) : PySem.W.Frag := K

/-- the goal that k_head leaves (case hc), from the law's promise. F gives the function object fd (K's own) once, then the promise over every base -/
theorem walk_of {l : PySem.W.OpenLaw} {n k : Nat} {q : Program} {loose : List Str} {XP : (Str → Option Value) → Heap → Prop} {YP : World → Heap → Prop} {d : DefRec} {K : Params → PySem.W.Frag} {CX : World → CXT} {sp : World → Sp} {x : Str}
    (hn : l.most = some n) (hn2 : n ≤ sizeLine) (hdf : d.params.defaults = []) (hr : Room k callerA)
    (hY : ∀ (w : World) (h : Heap), YP w h → (K w.params).In h)
    (F : ∀ (w : World) (mg : Str → Option Value) (fa : Addr) (h : Heap), (K w.params).In h → h.Ns mainGlobals mg → mg d.name = some (.ref fa) →
      ∃ fd : FuncData, (∀ (s : Shared) (u : Value), BindsTo s fd ⟨[u], []⟩ [(x, u)]) ∧
        ∀ base : Heap, (K w.params).In base → base.Ns mainGlobals mg → FnOk l.prog w (K w.params) mg base (CX w) k fa fd [x] (sp w))
    (hsp : ∀ (w : World) (H : Hp) (a : Addr) (ns : List Int), ns.length ≤ n → Only H → SqL (K w.params) H a (ns.map V.int) → sp w [.ref a] H (fun v _ => v = .bl true) fun _ _ _ => False)
    (hCX : ∀ (w : World) (H : Hp) (s : Shared) (e : Value) (s' : Shared), CX w [] H s (fun _ _ _ => False) e s' → False) :
    PySem.W.WalkO q loose XP YP l.row.toRowW d [] (fun f vs => PySem.call f vs) := by
  refine Att.attach_call hn hdf fun w s₀ s₁ mg mb fa o pm cd doc a vs ns G Y ho hd hcd hmg hobj hints hlen hg => ?_
  have KX := hY w _ Y
  obtain ⟨fd, hb, hF⟩ := F w mg fa _ KX G.T.g hmg
  exact law_call KX G.T.g G.T.b G.T.builtins G.T.nolimit hg hobj hints (Nat.le_trans hlen hn2) hr hF hb (fun H hO hS => hsp w H a ns hlen hO hS) fun H e s' => hCX w H s₁ e s'
end L2

/- THE LAST THEOREM (shape; LID, My.* are yours):
   My.Adr: a structure of the addresses that your layer names (classes, functions); My.Txt K t: a structure (Prop) of the equations over K;
   My.txt_mk : {K} {implicit addresses ..} (e1 : nsIn K mainGlobals "law" = some (some (.ref f))) (e2 : K.lookup f = some ⟨oc, od, .func (fnOf "law" "law" params body scope dV kV doc pm an cdv ct), sl⟩) (e3 : codeIn K cdv "law" = true) .. : ∃ t, My.Txt K t

set_option maxRecDepth 100000 in
set_option maxHeartbeats 0 in
theorem PySem.Challenge.cw_LID_holds : PySem.Challenge.rw_LID.Holds := by
  w_on; o_law; k_head; (case hw => w_witness2)
  k_fill
  refine L2.walk_of (l := PySem.Challenge.rw_LID) (n := 63) (k := 40) (x := "script") (CX := fun w => ..) (sp := fun _ => My.sp_law) rfl (by decide) rfl ⟨rfl, by decide, by decide⟩ (fun w h Y => PySem.W.kIn_of Y) ?F ?S ?C
  case F =>
    intro w mg fa h KX G hmg
    have T : ∃ t, My.Txt (L2.KOf KX) t := by
      dsimp only [L2.KOf]                          -- K must stand as «<heap const> w.params» for k_is
      refine' My.txt_mk ?e1 ?e2 ?e3 ..
      (case e1 => PySem.W.k_is)                    -- in the order: a name -> its address -> its object -> its parts
      (case e2 => PySem.W.k_is)
      ..
    obtain ⟨t, T⟩ := T
    have e0 := hmg.symm.trans (PySem.W.mg_of KX G T.law)
    cases e0                                       -- fa is the law's own address
    exact ⟨_, fun s u => .of_eq rfl, fun base kb nb => My.law_fn T kb nb⟩     -- if «.of_eq rfl» comes too early: refine' ⟨_, ?b, fun base kb nb => My.law_fn T kb nb⟩; exact fun s u => .of_eq rfl
  case S => exact fun w H a ns hl hO hS => ..
  case C => exact ..
(the tactic k_is has no namespace: write k_is) -/

/-! SHORT WORDS over the layer: a def of the text, its body, what a loop and a test want. -/
namespace L2
open PySem PySem.Spec PyProof.Rows

/-! ### the text by places -/
/-- the j-th statement of a class's body -/
def inClass (s : Stmt) (j : Nat) : Stmt := match s with
  | .ClassDef _ _ _ body _ _ _ _ _ _ _ => body.getD j (.Pass ⟨0, 0, 0, 0⟩)
  | _ => .Pass ⟨0, 0, 0, 0⟩
def defArgs (s : Stmt) : Arguments := match s with
  | .FunctionDef _ a _ _ _ _ _ _ _ _ => a
  | _ => { posonlyargs := [], args := [], vararg := none, kwonlyargs := [], kw_defaults := [], kwarg := none, defaults := [] }
def defBody (s : Stmt) : List Stmt := match s with
  | .FunctionDef _ _ b _ _ _ _ _ _ _ => b
  | _ => []
def defScope (s : Stmt) : Scope := match s with
  | .FunctionDef _ _ _ _ _ _ sc _ _ _ => sc
  | _ => { kind := .function, names := [], isGenerator := false, isCoroutine := false }

/-! ### no exception leaves a def -/
abbrev CX0 : CXT := fun _ _ _ _ _ _ => False
abbrev E0 : XK := fun _ _ _ => False
theorem pass0 {X : Cx} : Passes CX0 X E0 := fun _ _ _ _ _ _ _ h => h.elim

/-! ### a def (or method) of the text as it stands behind the top -/
structure Fun (K : PySem.W.Frag) (x qual : Str) (st : Stmt) (f : Addr) (fd : FuncData) : Prop where
  ex : ∃ (oc : Value) (od : Option Addr) (kV doc pm : Value) (an : Option Addr) (cdv ct : Value) (osl : Array (Option Value)),
    fd = PySem.W.fnOf x qual (defArgs st) (defBody st) (defScope st) .none kV doc pm an cdv ct ∧ K.lookup f = some ⟨oc, od, .func fd, osl⟩ ∧ PySem.W.codeIn K cdv qual = true
  kp : PySem.W.keepIn K (.ref f) = true
section
variable {P : Program} {w : World} {K : PySem.W.Frag} {mg : Str → Option Value} {base : Heap}
/-- THE RULE for a def: its body as a term of rules, and the reading of that term -/
theorem Fun.ok {x qual : Str} {st : Stmt} {f : Addr} {fd : FuncData} {N ps : List Str} {k : Nat} {sp : Sp} (F : Fun K x qual st f fd) (S : FnScope N ps (defScope st)) (len : ∀ vs H Q E, sp vs H Q E → vs.length = ps.length)
    (hbody : ∀ (cdv : Value) (A : Around) (outer : List Env) (s : Shared) (H : Hp) (vs : List V) (Q : VK) (E : XK), Room k (A.deeper (envOfC qual (defScope st) s.heap.objs.size f cdv)) → sp vs H Q E →
      ∃ t, PSs (cxOf CX0 P w K mg base N qual (defScope st) f cdv A outer s H E).nox (defBody st) t ∧ t { nx := fun _ H' => Q .non H', rt := Q } (start N vs) H) : FnOk P w K mg base CX0 (k + 1) f fd ps sp := by
  obtain ⟨oc, od, kV, doc, pm, an, cdv, ct, osl, rfl, lk, hcd⟩ := F.ex
  refine fn_of lk hcd S len fun A outer s H vs Q E hr hsp => ?_
  obtain ⟨t, h, q⟩ := hbody cdv A outer s H vs Q E hr hsp
  exact ⟨t, h.nox, q⟩
/-- how its arguments bind (no defaults): h is «fun _ _ _ _ _ _ us hl => match us, hl with | [_, _], _ => rfl», one _ a parameter -/
theorem Fun.binds {x qual : Str} {st : Stmt} {f : Addr} {fd : FuncData} {ps : List Str} (F : Fun K x qual st f fd)
    (h : ∀ (kV doc pm : Value) (an : Option Addr) (cdv ct : Value) (us : List Value), us.length = ps.length → bindArgs (PySem.W.fnOf x qual (defArgs st) (defBody st) (defScope st) .none kV doc pm an cdv ct) ⟨us, []⟩ = pure (ps.zip us)) : Binds K fd ps [] := by
  obtain ⟨oc, od, kV, doc, pm, an, cdv, ct, osl, rfl, lk, hcd⟩ := F.ex
  exact .all (h kV doc pm an cdv ct)
theorem fun_mk {x qual : Str} {st : Stmt} {f : Addr} {oc : Value} {od an : Option Addr} {osl : Array (Option Value)} {kV doc pm cdv ct : Value} (l : K.lookup f = some ⟨oc, od, .func (PySem.W.fnOf x qual (defArgs st) (defBody st) (defScope st) .none kV doc pm an cdv ct), osl⟩)
    (c : PySem.W.codeIn K cdv qual = true) (k : PySem.W.keepIn K (.ref f) = true) : Fun K x qual st f (PySem.W.fnOf x qual (defArgs st) (defBody st) (defScope st) .none kV doc pm an cdv ct) := ⟨⟨oc, od, kV, doc, pm, an, cdv, ct, osl, rfl, l, c⟩, k⟩
end
theorem small1000 {n : Nat} (h : n ≤ 1000) : n < sizeLine := Nat.lt_of_le_of_lt h (by decide)

/-! ### expressions in short: the name that stands in the i-th slot -/
section
variable {X : Cx}
theorem pv (i : Nat) {x : Str} {pos : Pos} (hN : X.N[i]? = some x := by rfl) (hv : Vis X.env.scope x := by first | exact Or.inl rfl | exact Or.inr (Or.inl rfl) | exact Or.inr (Or.inr rfl)) (hd : (x == ("__debug__" : Str)) = false := by decide)
    (hcd : (x == ("__classdict__" : Str)) = false := by decide) : PE X (.Name x pos) (tVar i) := pe_var hN hv hd hcd
end

/-! ### tests -/
theorem iteF {A B : Prop} (h : B) : if false = true then A else B := by
  rw [if_neg Bool.false_ne_true]
  exact h
theorem iteT {A B : Prop} (h : A) : if true = true then A else B := by
  rw [if_pos rfl]
  exact h
theorem ite2 {c A B : Prop} [Decidable c] (h1 : c → A) (h2 : ¬ c → B) : if c then A else B := by
  by_cases h : c
  · rw [if_pos h]
    exact h1 h
  · rw [if_neg h]
    exact h2 h
/-! ### heaps -/
/-- all that was tracked is as it was -/
def Same (H H' : Hp) : Prop := ∀ b o, H b = some o → H' b = some o
theorem Same.refl (H : Hp) : Same H H := fun _ _ h => h
theorem Same.trans {H H1 H2 : Hp} (a : Same H H1) (b : Same H1 H2) : Same H H2 := fun c o h => b c o (a c o h)
theorem Same.free {H H' : Hp} (e : Same H H') {l : Addr} (h : H' l = Option.none) : H l = Option.none := by
  cases q : H l with
  | none => rfl
  | some o =>
    rw [e l o q] at h
    cases h
theorem Same.seq {K : PySem.W.Frag} {H H' : Hp} {a : Addr} {xs : List V} (e : Same H H') (h : SqL K H a xs) : SqL K H' a xs := by
  rcases h with (h | ⟨o, h⟩) | h
  · exact .inl (.inl (e _ _ h))
  · exact .inl (.inr ⟨o, e _ _ h⟩)
  · exact .inr h

end L2
set_option Elab.async false
set_option linter.all false
set_option maxRecDepth 100000
set_option maxHeartbeats 1000000
namespace L2
open PySem PySem.Spec PyProof.Rows

/-! ### lists of pairs as tables -/
section
variable {κ : Type} [DecidableEq κ]
def valV (kvs : List (κ × V)) (k : κ) : Option V := (kvs.find? fun kv => decide (kv.1 = k)).map (·.2)
/-- in its place, or at the end -/
def putK (kvs : List (κ × V)) (k : κ) (v : V) : List (κ × V) :=
  if (kvs.any fun kv => decide (kv.1 = k)) = true then kvs.map (fun kv => if kv.1 = k then (kv.1, v) else kv) else kvs ++ [(k, v)]
theorem valV_pos {p : κ × V} {r : List (κ × V)} {k : κ} (e : p.1 = k) : valV (p :: r) k = some p.2 := by simp [valV, List.find?_cons, e]
theorem valV_neg {p : κ × V} {r : List (κ × V)} {k : κ} (e : ¬ p.1 = k) : valV (p :: r) k = valV r k := by simp [valV, List.find?_cons, e]
theorem valV_any (k : κ) : ∀ kvs : List (κ × V), (kvs.any fun kv => decide (kv.1 = k)) = (valV kvs k).isSome
  | [] => rfl
  | p :: r => by
    rw [List.any_cons]
    by_cases e : p.1 = k
    · simp only [valV_pos e, decide_eq_true e, Bool.true_or, Option.isSome_some]
    · rw [valV_neg e, decide_eq_false e, Bool.false_or]; exact valV_any k r
theorem RelO.isSome_eq {o : Option V} {u : Option Value} (r : RelO o u) : o.isSome = u.isSome := by
  cases o with
  | none => cases u with
    | none => rfl
    | some _ => exact (show False from r).elim
  | some _ => cases u with
    | none => exact (show False from r).elim
    | some _ => rfl
theorem RelO.getD {o : Option V} {u : Option Value} {d : V} {d' : Value} (r : RelO o u) (rd : RelV d d') : RelV (o.getD d) (u.getD d') := by
  cases o with
  | none => cases u with
    | none => exact rd
    | some _ => exact (show False from r).elim
  | some _ => cases u with
    | none => exact (show False from r).elim
    | some _ => exact r

/-- raw tables of the same keys -/
theorem KV.val {kvs : List (κ × V)} {vs : List (κ × Value)} (r : KV kvs vs) (k : κ) : RelO (valV kvs k) (valueAt vs k) := by
  unfold KV at r
  induction r with
  | nil => exact True.intro
  | @cons p q ps qs h t ih =>
    obtain ⟨h1, h2⟩ := h
    by_cases e : p.1 = k
    · have e' : q.1 = k := h1.symm.trans e
      have b : valueAt (q :: qs) k = some q.2 := by simp [valueAt, List.find?_cons, e']
      rw [valV_pos e, b]; exact h2
    · have e' : ¬ q.1 = k := fun z => e (h1.trans z)
      have b : valueAt (q :: qs) k = valueAt qs k := by simp [valueAt, List.find?_cons, e']
      rw [valV_neg e, b]; exact ih
theorem KV.any {kvs : List (κ × V)} {vs : List (κ × Value)} (r : KV kvs vs) (k : κ) : (kvs.any fun kv => decide (kv.1 = k)) = vs.any fun kv => decide (kv.1 = k) := by
  unfold KV at r
  induction r with
  | nil => rfl
  | cons h t ih => rw [List.any_cons, List.any_cons, ih, h.1]
theorem KV.repl {kvs : List (κ × V)} {vs : List (κ × Value)} (r : KV kvs vs) (k : κ) {y : V} {u : Value} (ry : RelV y u) :
    KV (kvs.map fun kv => if kv.1 = k then (kv.1, y) else kv) (vs.map fun kv => if kv.1 = k then (kv.1, u) else kv) := by
  unfold KV at r ⊢
  induction r with
  | nil => exact .nil
  | @cons p q ps qs h t ih =>
    rw [List.map_cons, List.map_cons]
    refine .cons ?_ ih
    obtain ⟨h1, h2⟩ := h
    by_cases e : p.1 = k
    · rw [if_pos e, if_pos (h1.symm.trans e)]; exact ⟨h1, ry⟩
    · rw [if_neg e, if_neg (fun z => e (h1.trans z))]; exact ⟨h1, h2⟩
theorem KV.put {kvs : List (κ × V)} {vs : List (κ × Value)} (r : KV kvs vs) (k : κ) {y : V} {u : Value} (ry : RelV y u) : KV (putK kvs k y) (stored vs k u) := by
  unfold putK stored
  rw [r.any k]
  by_cases e : (vs.any fun kv => decide (kv.1 = k)) = true
  · rw [if_pos e, if_pos e]; exact r.repl k ry
  · rw [if_neg e, if_neg e]; exact Paired.snoc r ⟨rfl, ry⟩
theorem KV.keys {kvs : List (κ × V)} {vs : List (κ × Value)} (r : KV kvs vs) : kvs.map (·.1) = vs.map (·.1) := by
  unfold KV at r
  induction r with
  | nil => rfl
  | cons h t ih => rw [List.map_cons, List.map_cons, ih, h.1]
theorem KV.length {kvs : List (κ × V)} {vs : List (κ × Value)} (r : KV kvs vs) : kvs.length = vs.length := Paired.length r
end


/-! ### a tracked dict, its keys ints and texts or tuples of these -/
/-- raw entries of a dict with tuple keys -/
abbrev KT (H : Hp) : List (List Key × V) → List (List Key × Addr × Value) → Prop := Paired fun p q => p.1 = q.1 ∧ H q.2.1 = some (.tup (p.1.map kV)) ∧ RelV p.2 q.2.2
theorem KT.val {H : Hp} {kvs : List (List Key × V)} {xs : List (List Key × Addr × Value)} (r : KT H kvs xs) (k : List Key) : RelO (valV kvs k) ((atKey xs k).map (·.2)) := by
  induction r with
  | nil => exact True.intro
  | @cons p q ps qs h t ih =>
    obtain ⟨h1, _, h2⟩ := h
    by_cases e : p.1 = k
    · have e' : q.1 = k := h1.symm.trans e
      have b : atKey (q :: qs) k = some q.2 := by simp [atKey, List.find?_cons, e']
      rw [valV_pos e, b]; exact h2
    · have e' : ¬ q.1 = k := fun z => e (h1.trans z)
      have b : atKey (q :: qs) k = atKey qs k := by simp [atKey, List.find?_cons, e']
      rw [valV_neg e, b]; exact ih
theorem KT.repl {H : Hp} {kvs : List (List Key × V)} {xs : List (List Key × Addr × Value)} (r : KT H kvs xs) (k : List Key) {y : V} {u : Value} (ry : RelV y u) :
    KT H (kvs.map fun kv => if kv.1 = k then (kv.1, y) else kv) (xs.map (putAt k u)) := by
  induction r with
  | nil => exact .nil
  | @cons p q ps qs h t ih =>
    rw [List.map_cons, List.map_cons]
    refine .cons ?_ ih
    obtain ⟨h1, h2, h3⟩ := h
    unfold putAt
    by_cases e : p.1 = k
    · rw [if_pos e, if_pos (h1.symm.trans e)]; exact ⟨h1, h2, ry⟩
    · rw [if_neg e, if_neg (fun z => e (h1.trans z))]; exact ⟨h1, h2, h3⟩
theorem KT.put {H : Hp} {kvs : List (List Key × V)} {xs : List (List Key × Addr × Value)} (r : KT H kvs xs) (k : List Key) {b : Addr} {y : V} {u : Value} (hb : H b = some (.tup (k.map kV))) (ry : RelV y u) :
    KT H (putK kvs k y) (storedH xs k b u) := by
  have e : (kvs.any fun kv => decide (kv.1 = k)) = (atKey xs k).isSome := by
    rw [valV_any, (r.val k).isSome_eq, Option.isSome_map]
  unfold putK storedH
  rw [e]
  by_cases q : (atKey xs k).isSome = true
  · rw [if_pos q, if_pos q]; exact r.repl k ry
  · rw [if_neg q, if_neg q]; exact Paired.snoc r ⟨rfl, hb, ry⟩
theorem KT.keeps {H H' : Hp} {kvs : List (List Key × V)} {xs : List (List Key × Addr × Value)} (r : KT H kvs xs) (ht : ∀ b ys, H b = some (.tup ys) → H' b = some (.tup ys)) : KT H' kvs xs :=
  Paired.mapP r fun _ _ z => ⟨z.1, ht _ _ z.2.1, z.2.2⟩

section
variable {P : Program} {w : World} {H : Hp} {h : Heap} {a : Addr}
end

/-- what the dict at a holds at the key y -/
def DGet (H : Hp) (a : Addr) (y : V) (r : Option V) : Prop :=
  (∃ kvs k, Rd H a (.dK kvs) ∧ y = kV k ∧ r = valV kvs k) ∨ ∃ kvs k b, Rd H a (.dT kvs) ∧ y = .ref b ∧ H b = some (.tup (k.map kV)) ∧ r = valV kvs k
/-- the heap behind a[y] = v -/
def DPut (H : Hp) (a : Addr) (y v : V) (H' : Hp) : Prop :=
  (∃ kvs k, H a = some (.dK kvs) ∧ y = kV k ∧ kvs.length < sizeLine ∧ H' = upd H a (.dK (putK kvs k v))) ∨
  ∃ kvs k b, H a = some (.dT kvs) ∧ y = .ref b ∧ H b = some (.tup (k.map kV)) ∧ kvs.length < sizeLine ∧ H' = upd H a (.dT (putK kvs k v))
theorem DGet.k {H : Hp} {a : Addr} {kvs : List (Key × V)} {k : Key} (e : H a = some (.dK kvs)) : DGet H a (kV k) (valV kvs k) := .inl ⟨kvs, k, .inl e, rfl, rfl⟩
theorem DGet.t {H : Hp} {a b : Addr} {kvs : List (List Key × V)} {k : List Key} (e : H a = some (.dT kvs)) (eb : H b = some (.tup (k.map kV))) : DGet H a (.ref b) (valV kvs k) := .inr ⟨kvs, k, b, .inl e, rfl, eb, rfl⟩
theorem DPut.k {H : Hp} {a : Addr} {kvs : List (Key × V)} {k : Key} {v : V} (e : H a = some (.dK kvs)) (hl : kvs.length < sizeLine) : DPut H a (kV k) v (upd H a (.dK (putK kvs k v))) := .inl ⟨kvs, k, e, rfl, hl, rfl⟩
theorem DPut.t {H : Hp} {a b : Addr} {kvs : List (List Key × V)} {k : List Key} {v : V} (e : H a = some (.dT kvs)) (eb : H b = some (.tup (k.map kV))) (hl : kvs.length < sizeLine) :
    DPut H a (.ref b) v (upd H a (.dT (putK kvs k v))) := .inr ⟨kvs, k, b, e, rfl, eb, hl, rfl⟩


section
variable {X : Cx} {pins : List (Addr × Obj)} {σ : St} {H : Hp} {s : Shared} {a : Addr} {y v : V} {u r : Value} {o : Option V} {A : Around} {E : Value → Shared → Prop}

end

section
variable {X : Cx} {pins : List (Addr × Obj)} {σ : St} {H : Hp} {s : Shared} {a : Addr} {kvs : List (Key × V)} {k : Key} {u : Value} {A : Around} {E : Value → Shared → Prop}
end


/-! ### readings and rules -/
section
variable {X : Cx} {o i e value : Expr} {pos pos' tpos : Pos} {td ty tv : TE}
end


/-! ### displays -/
section
variable {X : Cx} {pos : Pos}
end

/-! ### methods -/
/-- a method call o.m(e) of a built-in, with one argument: what must be seen of the text -/
structure M1 (X : Cx) (o : Expr) (m : Str) (apos : Pos) (e : Expr) (cpos : Pos) : Prop where
  base : attributeBase o m X.env (eval o X.env) = eval o X.env
  few : ((backTo cpos (starEach [e] X.env)).all (fun x => !x.1) && (backToKw cpos (keywordEach [] X.env)).all (fun x => x.1.isSome)
    && decide (([e] : List Expr).length + ([] : List Keyword).length + (if ([] : List Keyword).isEmpty then 0 else 1) < 30)) = true
  line : (apos.endLine == cpos.line) = true
  trees : backTo cpos (starEach [e] X.env) = [(false, eval e X.env)]
structure M2 (X : Cx) (o : Expr) (m : Str) (apos : Pos) (e f : Expr) (cpos : Pos) : Prop where
  base : attributeBase o m X.env (eval o X.env) = eval o X.env
  few : ((backTo cpos (starEach [e, f] X.env)).all (fun x => !x.1) && (backToKw cpos (keywordEach [] X.env)).all (fun x => x.1.isSome)
    && decide (([e, f] : List Expr).length + ([] : List Keyword).length + (if ([] : List Keyword).isEmpty then 0 else 1) < 30)) = true
  line : (apos.endLine == cpos.line) = true
  trees : backTo cpos (starEach [e, f] X.env) = [(false, eval e X.env), (false, eval f X.env)]

section
variable {X : Cx} {pins : List (Addr × Obj)} {σ : St} {H : Hp} {s : Shared} {a : Addr} {y d : V} {u r : Value} {o : Option V} {A : Around} {E : Value → Shared → Prop}
end

section
variable {X : Cx} {o e f : Expr} {apos cpos : Pos} {td ty tx : TE}
end

/-! ### dict(d): a copy -/
section
variable {X : Cx} {pins : List (Addr × Obj)} {σ : St} {H : Hp} {s : Shared} {a : Addr} {kvs : List (Key × V)} {A : Around} {E : Value → Shared → Prop}
end


section
variable {X : Cx} {pins : List (Addr × Obj)} {σ : St} {H : Hp} {s : Shared} {a : Addr} {y : V} {u : Value} {A : Around} {E : Value → Shared → Prop}
end
end L2
namespace L2
open PySem PySem.Spec PyProof.Rows
section
variable {X : Cx}
end
/-! ### a dict's pairs: keys that differ -/
section
variable {κ : Type} [DecidableEq κ]
end
end L2
set_option maxRecDepth 100000
set_option maxHeartbeats 1000000
namespace PySem
open Sem (wp)
open AutoSeq1 (wpAny_loadPart')
section
variable {prog : Program} {w : World} {A : Around} {E : Value → Shared → Prop} {s : Shared}
end
section
variable {prog : Program} {w : World} {A : Around} {E : Value → Shared → Prop} {s : Shared}
end
end PySem
set_option Elab.async false
set_option linter.all false
set_option maxRecDepth 100000
set_option maxHeartbeats 1000000
/-! COMPREHENSIONS over the hand layer: a block of its own, whose names may be captured ones -/
namespace L2
open PySem PySem.Spec PyProof.Rows

/-! ### the cells of a comprehension's block -/
def closL (cells : List (Str × Addr)) (names : List (Str × NameKind)) : List (Str × Addr) :=
  (names.filterMap fun y => if y.2 == .free then (cells.lookup y.1).map (fun c => (y.1, c)) else none).reverse
theorem closL_mem {cells : List (Str × Addr)} {names : List (Str × NameKind)} {x : Str} {c : Addr} (h : (x, c) ∈ closL cells names) : (x, NameKind.free) ∈ names ∧ cells.lookup x = some c := by
  unfold closL at h
  rw [List.mem_reverse, List.mem_filterMap] at h
  obtain ⟨⟨y, k⟩, hy, e⟩ := h
  by_cases hk : k = .free
  · subst hk
    simp only [beq_self_eq_true, if_true] at e
    cases q : cells.lookup y with
    | none => rw [q] at e; cases e
    | some d =>
      rw [q] at e
      cases e
      exact ⟨hy, q⟩
  · have hb : (k == NameKind.free) = false := by simpa using hk
    simp [hb] at e
theorem lookup_of_mem {α : Type} : ∀ {l : List (Str × α)} {x : Str} {c : α}, (x, c) ∈ l → ∃ d, l.lookup x = some d
  | (k, v) :: r, x, c, h => by
    rw [List.lookup_cons]
    cases hb : x == k with
    | true => exact ⟨v, rfl⟩
    | false =>
      rcases List.mem_cons.mp h with e | h
      · cases e
        simp at hb
      · exact lookup_of_mem h
theorem closL_look {cells : List (Str × Addr)} {names : List (Str × NameKind)} {x : Str} {c : Addr} (h : (closL cells names).lookup x = some c) : (x, NameKind.free) ∈ names ∧ cells.lookup x = some c :=
  closL_mem (PySem.mem_of_lookup h)
theorem closL_has {cells : List (Str × Addr)} {names : List (Str × NameKind)} {x : Str} {c : Addr} (h : (x, NameKind.free) ∈ names) (hc : cells.lookup x = some c) : (closL cells names).lookup x = some c := by
  have hm : (x, c) ∈ closL cells names := by
    unfold closL
    rw [List.mem_reverse, List.mem_filterMap]
    exact ⟨(x, .free), h, by simp [hc]⟩
  obtain ⟨d, hd⟩ := lookup_of_mem hm
  have := (closL_look hd).2
  rw [hc] at this
  cases this
  exact hd
theorem closureFor_go {env : Env} (f : Str × NameKind → List (Str × Addr) → Sem (ForInStep (List (Str × Addr))))
    (hf : ∀ name kind cs, f (name, kind) cs = if kind == .free then (do let a ← cellOf env name; pure (.yield ((name, a) :: cs))) else pure (.yield cs)) :
    ∀ (names : List (Str × NameKind)) (acc : List (Str × Addr)), (∀ x ∈ names, x.2 = .free → ∃ c, env.cells.lookup x.1 = some c) →
      forIn names acc f = (pure (closL env.cells names ++ acc) : Sem (List (Str × Addr)))
  | [], acc, _ => by rw [List.forIn_nil]; rfl
  | (n, k) :: r, acc, h => by
    rw [List.forIn_cons, hf]
    have hr : ∀ x ∈ r, x.2 = .free → ∃ c, env.cells.lookup x.1 = some c := fun x hx => h x (List.mem_cons_of_mem _ hx)
    by_cases hk : k = .free
    · subst hk
      obtain ⟨c, hc⟩ := h (n, .free) List.mem_cons_self rfl
      have e1 : cellOf env n = pure c := by unfold cellOf; rw [show env.cells.lookup n = some c from hc]
      have e2 : closL env.cells ((n, NameKind.free) :: r) ++ acc = closL env.cells r ++ ((n, c) :: acc) := by
        unfold closL
        rw [List.filterMap_cons]
        simp only [beq_self_eq_true, if_true]
        rw [show env.cells.lookup n = some c from hc]
        simp
      rw [e2, ← closureFor_go f hf r ((n, c) :: acc) hr]
      simp only [beq_self_eq_true, if_true]
      rw [e1]
      rfl
    · have hb : (k == NameKind.free) = false := by simpa using hk
      have e2 : closL env.cells ((n, k) :: r) ++ acc = closL env.cells r ++ acc := by
        unfold closL
        rw [List.filterMap_cons]
        simp [hb]
      rw [e2, ← closureFor_go f hf r acc hr]
      simp only [hb, Bool.false_eq_true, if_false]
      rfl
theorem closureFor_eq {scope : Scope} {env : Env} (h : ∀ x ∈ scope.names, x.2 = .free → ∃ c, env.cells.lookup x.1 = some c) : closureFor scope env = pure (closL env.cells scope.names) := by
  unfold closureFor
  dsimp only
  rw [closureFor_go (env := env) _ ?hf scope.names [] h]
  case hf => intro name kind cs; rfl
  rw [List.append_nil]
  rfl
theorem cellsFrom_app : ∀ (names : List (Str × NameKind)) (n : Nat) (acc : List (Str × Addr)), cellsFrom n names acc = cellsFrom n names [] ++ acc
  | [], _, _ => rfl
  | (x, k) :: r, n, acc => by
    unfold cellsFrom
    split
    · rw [cellsFrom_app r (n + 1) ((x, n) :: acc), cellsFrom_app r (n + 1) [(x, n)]]; simp
    · exact cellsFrom_app r n acc
theorem cellsFrom_mem : ∀ {names : List (Str × NameKind)} {n : Nat} {x : Str} {c : Addr}, (x, c) ∈ cellsFrom n names [] → (x, NameKind.cell) ∈ names ∧ n ≤ c
  | [], _, _, _, h => by cases h
  | (y, k) :: r, n, x, c, h => by
    unfold cellsFrom at h
    split at h
    · rename_i hk
      rw [cellsFrom_app] at h
      rcases List.mem_append.mp h with h | h
      · obtain ⟨h1, h2⟩ := cellsFrom_mem h
        exact ⟨List.mem_cons_of_mem _ h1, by omega⟩
      · have : (x, c) = (y, n) := by simpa using h
        cases this
        have : k = .cell := by simpa using hk
        subst this
        exact ⟨List.mem_cons_self, Nat.le_refl _⟩
    · obtain ⟨h1, h2⟩ := cellsFrom_mem h
      exact ⟨List.mem_cons_of_mem _ h1, h2⟩
theorem cellsFrom_has : ∀ {names : List (Str × NameKind)} {n : Nat} {x : Str}, (x, NameKind.cell) ∈ names → ∃ c, (x, c) ∈ cellsFrom n names []
  | (y, k) :: r, n, x, h => by
    unfold cellsFrom
    split
    · rw [cellsFrom_app]
      rcases List.mem_cons.mp h with e | h
      · cases e; exact ⟨n, by simp⟩
      · obtain ⟨c, hc⟩ := cellsFrom_has (n := n + 1) h
        exact ⟨c, List.mem_append_left _ hc⟩
    · rename_i hk
      rcases List.mem_cons.mp h with e | h
      · cases e; simp at hk
      · exact cellsFrom_has h
theorem cellsFrom_lt : ∀ {names : List (Str × NameKind)} {h : Heap} {x : Str} {c : Addr}, (x, c) ∈ cellsFrom h.objs.size names [] → (pushCells h names).IsCell c none := fun {names h x c} hm => by
  have ok := cellsFrom_ok names h 0 [] ⟨fun _ _ hm => (nomatch hm), List.Pairwise.nil⟩ (Nat.zero_le _)
  exact (ok.empty x c hm).1
theorem cellsFrom_apart (names : List (Str × NameKind)) (h : Heap) : (cellsFrom h.objs.size names []).Pairwise fun x y => x.2 ≠ y.2 :=
  (cellsFrom_ok names h 0 [] ⟨fun _ _ hm => (nomatch hm), List.Pairwise.nil⟩ (Nat.zero_le _)).apart
theorem lookup_app {α : Type} (x : Str) : ∀ (a b : List (Str × α)) , (a ++ b).lookup x = (a.lookup x).or (b.lookup x)
  | [], b => by simp
  | (k, v) :: r, b => by
    show List.lookup x ((k, v) :: (r ++ b)) = _
    rw [List.lookup_cons, List.lookup_cons]
    cases hb : x == k with
    | true => rfl
    | false => exact lookup_app x r b

theorem wpAny_newCompEnv {M : Model} {A : Around} {E : Value → Shared → Prop} {s : Shared} {scope : Scope} {globals : Addr} {cl : List (Str × Addr)} {qual : Str} {env : Env} {Q : Env → Shared → Prop}
    (hQ : Q { scope, locals := s.heap.objs.size, globals, cells := cellsFrom (s.heap.objs.size + 1) scope.names [] ++ cl, qual, func := none, code := env.code, frame := env.frame, builtins := env.builtins }
      { s with heap := pushCells (s.heap.push { cls := .type "dict", data := .dict #[] }) scope.names }) :
    wpAny M A (newFunctionEnv scope globals cl [] qual none .none (some env)) Q E s := by
  simp only [newFunctionEnv, Option.isSome_some, if_true]
  refine wpAny_bind (wpAny_alloc ?_)
  refine wpAny_bind (wpAny_layCells _ (fun name kind cells => by cases hkc : kind == NameKind.cell <;> simp [hkc]) _ _ _ _ ?_)
  rw [show ({ s with heap := s.heap.push { cls := .type "dict", data := .dict #[] } } : Shared).heap.objs.size = s.heap.objs.size + 1 from Heap.size_push .., cellsFrom_app]
  rw [List.forIn_nil]
  exact wpAny_bind (wpAny_pure (wpAny_pure hQ))

/-! ### the loop of a comprehension of one clause -/
section
variable {prog : Program} {w : World} {A : Around} {R : Result → Shared → Prop} {s : Shared}
theorem compLoop_gen {elt target iter : Expr} {ifs : List Expr} {scope : Scope} {pos : Pos} {it acc : Value} {env : Env} (I : Nat → Shared → Prop)
    (turn : ∀ n s, I n s → wpAny (model prog w) A (pyNext it) (fun r s₁ => match r with
      | none => R (.ok .next) s₁
      | some v => wpAny (model prog w) A (letOwnedTupleGo target it v) (fun _ s₁' => wpAny (model prog w) A (assign target env v) (fun _ s₂ =>
          wpAny (model prog w) A (forIn ifs true fun c r => if r = true then do let ok ← isTrue c env (eval c env); pure (ForInStep.yield ok) else pure (ForInStep.yield r)) (fun ok s₃ =>
            if ok = true then wpAny (model prog w) A (eval elt env) (fun x s₄ =>
              wpAny (model prog w) A (call (.builtin "list.append") [acc, x]) (fun _ s₅ => ∃ m, m < n ∧ I m s₅) (fun _ _ => False) s₄) (fun _ _ => False) s₃
            else ∃ m, m < n ∧ I m s₃) (fun _ _ => False) s₂) (fun _ _ => False) s₁') (fun _ _ => False) s₁) (fun _ _ => False) s)
    (n : Nat) (h : I n s) :
    codeAny (model prog w) A (.compLoop (.ListComp elt [⟨target, iter, ifs, 0⟩] scope pos) 0 it acc env) R s := by
  refine codeAny_loop rfl I (fun n s hI => ?_) n h
  show wpAny _ A ((compTurn (.ListComp elt [⟨target, iter, ifs, 0⟩] scope pos) 0 it acc env).onRaise (fun x => do noteFrame x env; theTreesLotGoes x)) _ _ s
  refine wpAny_noted ?_
  rw [compTurn_list]
  refine wpAny_bind (wpAny_standAt (wpAny_bind (wpAny_mono (turn n s hI) (fun r s₁ h₁ => ?_) fun _ _ h' => h'.elim)))
  cases r with
  | none => exact wpAny_pure h₁
  | some v =>
    refine wpAny_bind (wpAny_mono h₁ (fun _ s₁' h₁' => ?_) fun _ _ h' => h'.elim)
    refine wpAny_bind (wpAny_mono h₁' (fun _ s₂ h₂ => wpAny_bind (wpAny_mono h₂ (fun ok s₃ h₃ => ?_) fun _ _ h' => h'.elim)) fun _ _ h' => h'.elim)
    cases ok with
    | false => exact wpAny_pure ⟨rfl, h₃⟩
    | true =>
      exact wpAny_bind (wpAny_bind (wpAny_mono h₃ (fun x s₄ h₄ => wpAny_bind (wpAny_mono h₄ (fun _ s₅ h₅ => wpAny_pure (wpAny_pure ⟨rfl, h₅⟩)) fun _ _ h' => h'.elim)) fun _ _ h' => h'.elim))
end

/-! ### the block's context -/
def ownCell (sc : Scope) (x : Str) : Bool := sc.names.lookup x == some .cell
def compCx (X : Cx) (scope : Scope) (N' : List Str) (cells : List (Str × Addr)) (C : Addr) (s₀ : Shared) (H₀ : Hp) (fp : List Addr) (pins : List (Addr × Obj)) : Cx :=
  { prog := X.prog, w := X.w, K := X.K, mg := X.mg, base := X.base, A := X.A, N := N', s₀ := s₀, H₀ := H₀, env := compEnvC scope cells C X.env, outer := X.stack, stack := X.stack, ex := fp, fn := ownCell scope, calm := X.calm, pn := X.pn ++ pins, xe := fun _ _ => False }
/-- the captured names' values at the block's start -/
def capS (cap : List (Option Nat)) (σ : St) : St := cap.map fun o => o.bind fun i => (σ[i]?).join
structure CompOk (X : Cx) (scope : Scope) (N' : List Str) (cap : List (Option Nat)) : Prop where
  kind : scope.kind = .function
  uniq : ∀ y ∈ scope.names, scope.names.lookup y.1 = some y.2
  fre : ∀ y ∈ scope.names, y.2 = .free → X.env.scope.names.lookup y.1 = some .cell ∨ X.env.scope.names.lookup y.1 = some .free
  len : cap.length = N'.length
  cap : ∀ (j i : Nat), cap[j]? = some (some i) → ∃ x, N'[j]? = some x ∧ X.N[i]? = some x ∧ scope.names.lookup x = some .free

theorem relabel_look {scope : Scope} {env : Env} (x : Str) : (relabel scope env).names.lookup x = (scope.names.lookup x).map fun k => if (k == .free && env.scope.kind == .function && env.kindOf x == some .cell) = true then .cell else k := by
  unfold relabel
  show List.lookup x (scope.names.map fun (n, k) => if (k == NameKind.free && env.scope.kind == .function && env.kindOf n == some .cell) = true then (n, NameKind.cell) else (n, k)) = _
  induction scope.names with
  | nil => rfl
  | cons y r ih =>
    obtain ⟨n, k⟩ := y
    rw [List.map_cons]
    dsimp only
    by_cases hc : (k == NameKind.free && env.scope.kind == .function && env.kindOf n == some .cell) = true
    · rw [if_pos hc, List.lookup_cons, List.lookup_cons]
      cases hb : x == n with
      | true =>
        have : x = n := beq_iff_eq.mp hb
        subst this
        simp only [Option.map_some, hc, if_true]
      | false => exact ih
    · rw [if_neg hc, List.lookup_cons, List.lookup_cons]
      cases hb : x == n with
      | true =>
        have : x = n := beq_iff_eq.mp hb
        subst this
        simp only [Option.map_some, hc, Bool.false_eq_true, if_false]
      | false => exact ih

/-- the tests of a clause -/
def PIfs (X : Cx) (ifs : List Expr) (t : TT) : Prop :=
  ∀ (pins : List (Addr × Obj)) (s : Shared) (σ : St) (H : Hp) (Q : Bool → Hp → Prop), Inv X pins σ H s → t σ H Q →
    wpAny (model X.prog X.w) X.A (forIn ifs true fun c r => if r = true then do let ok ← isTrue c X.env (eval c X.env); pure (ForInStep.yield ok) else pure (ForInStep.yield r)) (TP X pins σ Q) X.xe s
def tTrue : TT := fun _ H Q => Q true H
theorem pifs_nil {X : Cx} : PIfs X [] tTrue := fun _ _ _ H _ I h => wpAny_tests_nil ⟨H, I, h⟩
theorem pifs_one {X : Cx} {c : Expr} {t : TT} (hc : PT X c t) : PIfs X [c] t := fun pins s σ H Q I h => wpAny_tests_one (hc pins s σ H Q I h)

def CompR (cap : List (Option Nat)) (g : TG) (tt : TT) (te : TE) (σ : St) (Q : VK) (J : It) (H1 : Hp) : Prop := ∃ (n : Nat) (W : Nat → List V → St → Hp → Prop), n ≤ sizeLine ∧ W 0 [] (capS cap σ) H1 ∧
  ∀ i ys σ' H, W i ys σ' H → i ≤ n ∧ ys.length ≤ i ∧
    ((J.stop i H ∧ ∀ D, H D = none → Q (.ref D) (upd H D (.lst ys))) ∨
     (J.go i H ∧ i < n ∧ ∀ x H', J.yld i H x H' → g x σ' H' fun σ2 H2 => tt σ2 H2 fun b H3 => if b = true then te σ2 H3 fun v H4 => W (i + 1) (ys ++ [v]) σ2 H4 else W (i + 1) ys σ2 H3))
def tComp (wi : TI) (cap : List (Option Nat)) (g : TG) (tt : TT) (te : TE) : TE := fun σ H Q => wi σ H (CompR cap g tt te σ Q)
end L2
set_option Elab.async false
set_option linter.all false
set_option maxRecDepth 100000
set_option maxHeartbeats 2000000
namespace L2
open PySem PySem.Spec PyProof.Rows
local macro_rules | `(tactic| walk_at "om") => `(tactic| first | omega | (unfold Addr at *; omega))
section
variable {X : Cx} {pins : List (Addr × Obj)} {σ : St} {H : Hp} {s : Shared}
theorem Inv.frs_lt (I : Inv X pins σ H s) {b : Addr} (hb : b ∈ frs X.stack) : b < s.heap.objs.size := by
  rcases List.mem_cons.mp (I.stkSub b hb) with e | h
  · rw [e]; exact I.lt
  · exact Nat.lt_of_not_le fun z => I.nofs z h
theorem Inv.cell_lt (I : Inv X pins σ H s) {x : Str} {c : Addr} (h : X.env.cells.lookup x = some c) : c < s.heap.objs.size := let ⟨_, z⟩ := I.cell x c h; z.lt
theorem Inv.pin_lt (I : Inv X pins σ H s) {p : Addr × Obj} (h : p ∈ X.pn ++ pins) : p.1 < s.heap.objs.size := Heap.lt_size (I.pin p h).1

theorem comp_ok {scope : Scope} {N' : List Str} {cap : List (Option Nat)} {fp : List Addr} {h5 : Heap} {C : Addr} (I : Inv X pins σ H s) (ok : CompOk X scope N' cap) (f2 : ∀ b ∈ fp, FpOk X pins H b) (hlt : ∀ b ∈ fp, b < s.heap.objs.size)
    (hC : s.heap.objs.size ≤ C) (h5C : h5.objs.size = C + 1) :
    (compCx X scope N' (cellsFrom (C + 1) scope.names [] ++ closL X.env.cells scope.names) C s H fp pins).Ok where
  mod := I.ok.mod
  kind := by show (relabel scope X.env).kind = _; exact ok.kind
  glob := I.ok.glob
  blt := I.ok.blt
  above := hC
  inj := fun x y c hx hy => by
    have hx : (cellsFrom (C + 1) scope.names [] ++ closL X.env.cells scope.names).lookup x = some c := hx
    have hy : (cellsFrom (C + 1) scope.names [] ++ closL X.env.cells scope.names).lookup y = some c := hy
    rw [lookup_app] at hx hy
    have ap := cellsFrom_apart scope.names h5
    rw [h5C] at ap
    cases ex : (cellsFrom (C + 1) scope.names []).lookup x with
    | some d =>
      rw [ex] at hx; cases hx
      have mx := PySem.mem_of_lookup ex
      cases ey : (cellsFrom (C + 1) scope.names []).lookup y with
      | some e =>
        rw [ey] at hy; cases hy
        exact name_of_addr ap mx (PySem.mem_of_lookup ey)
      | none =>
        rw [ey] at hy
        have := I.cell_lt (closL_look hy).2
        have := (cellsFrom_mem mx).2
        walk_at "om"
    | none =>
      rw [ex] at hx
      have lx := I.cell_lt (closL_look hx).2
      cases ey : (cellsFrom (C + 1) scope.names []).lookup y with
      | some e =>
        rw [ey] at hy; cases hy
        have := (cellsFrom_mem (PySem.mem_of_lookup ey)).2
        walk_at "om"
      | none =>
        rw [ey] at hy
        exact I.ok.inj x y c (closL_look hx).2 (closL_look hy).2
  has := fun x hx => by
    have hx : (relabel scope X.env).names.lookup x = some .cell ∨ (relabel scope X.env).names.lookup x = some .free := hx
    rw [relabel_look] at hx
    show ∃ c, (cellsFrom (C + 1) scope.names [] ++ closL X.env.cells scope.names).lookup x = some c
    rw [lookup_app]
    cases e : scope.names.lookup x with
    | none => rw [e] at hx; rcases hx with hx | hx <;> cases hx
    | some k =>
      have hm := PySem.mem_of_lookup e
      by_cases hk : k = .cell
      · subst hk
        obtain ⟨c, hc⟩ := cellsFrom_has (n := C + 1) hm
        obtain ⟨d, hd⟩ := lookup_of_mem hc
        exact ⟨d, by rw [hd]; rfl⟩
      · have hf : k = .free := by
          rw [e] at hx
          simp only [Option.map_some] at hx
          cases k with
          | free => rfl
          | cell => exact absurd rfl hk
          | _ => rcases hx with hx | hx <;> simp at hx
        subst hf
        obtain ⟨c, hc⟩ := I.ok.has x (ok.fre (x, .free) hm rfl)
        cases q : (cellsFrom (C + 1) scope.names []).lookup x with
        | some d => exact ⟨d, rfl⟩
        | none => exact ⟨c, by rw [closL_has hm hc]; rfl⟩
  cab := fun x c hf hx => by
    have hf : ownCell scope x = true := hf
    have hx : (cellsFrom (C + 1) scope.names [] ++ closL X.env.cells scope.names).lookup x = some c := hx
    rw [lookup_app] at hx
    unfold ownCell at hf
    have hm : (x, NameKind.cell) ∈ scope.names := PySem.mem_of_lookup (by simpa using hf)
    obtain ⟨d, hd⟩ := cellsFrom_has (n := C + 1) hm
    obtain ⟨d', hd'⟩ := lookup_of_mem hd
    rw [hd'] at hx; cases hx
    have := (cellsFrom_mem (PySem.mem_of_lookup hd')).2
    show s.heap.objs.size ≤ c
    walk_at "om"
  hd := I.ok.hd
  frames := I.ok.frames
  stk := .inl rfl
  exf := fun b hb => by
    have hb' := hlt b hb
    refine ⟨by show b ≠ C; walk_at "om", fun x c hx => ?_⟩
    have hx : (cellsFrom (C + 1) scope.names [] ++ closL X.env.cells scope.names).lookup x = some c := hx
    rw [lookup_app] at hx
    cases ex : (cellsFrom (C + 1) scope.names []).lookup x with
    | some d =>
      rw [ex] at hx; cases hx
      have := (cellsFrom_mem (PySem.mem_of_lookup ex)).2
      walk_at "om"
    | none =>
      rw [ex] at hx
      exact (f2 b hb).2.2.2.2.1 x c (closL_look hx).2
  bs := I.bs
  bsz := Nat.le_trans I.ok.bsz I.sz
  noex := fun b o e hb => by
    rcases (f2 b hb).2.2.2.1 with z | z
    · exact I.ok.noex b o e z
    · exact absurd (Nat.lt_of_lt_of_le (Heap.lt_size e) (Nat.le_trans I.ok.bsz z)) (Nat.lt_irrefl _)
  exfs := fun b hb z => by
    rcases List.mem_cons.mp (I.stkSub b z) with e | h
    · exact (f2 b hb).2.1 e
    · exact (f2 b hb).2.2.1 h
  funs := I.stack
  frf := I.stkFree

/-- what is at the block's start -/
theorem comp_start {scope : Scope} {N' : List Str} {cap : List (Option Nat)} {fp : List Addr} {h5 h4 : Heap} {C D : Addr} {lo : Obj} {tk : Nat} (I : Inv X pins σ H s) (ok : CompOk X scope N' cap) (f2 : ∀ b ∈ fp, FpOk X pins H b) (hlt : ∀ b ∈ fp, b < s.heap.objs.size)
    (hD : D = s.heap.objs.size) (hC : C = D + 1) (h5C : h5.objs.size = C + 1) (e4 : h4 = pushCells h5 scope.names) (hns : h5.Ns C fun _ => none) (hlo : h5.get? D = some lo) (nc : ∀ v, lo.data ≠ .cell v)
    (old : ∀ b o, s.heap.get? b = some o → h5.get? b = some o) :
    Inv (compCx X scope N' (cellsFrom (C + 1) scope.names [] ++ closL X.env.cells scope.names) C s H fp pins) [(D, lo)] (capS cap σ) H { s with heap := h4, toks := tk } := by
  have k4 : ∀ b o, h5.get? b = some o → h4.get? b = some o := fun b o e => by rw [e4]; exact pushCells_keeps _ _ b o e
  have old4 : ∀ b o, s.heap.get? b = some o → h4.get? b = some o := fun b o e => k4 b o (old b o e)
  have look : ∀ x c, (cellsFrom (C + 1) scope.names [] ++ closL X.env.cells scope.names).lookup x = some c → ((x, c) ∈ cellsFrom (C + 1) scope.names [] ∧ C + 1 ≤ c) ∨ ((x, NameKind.free) ∈ scope.names ∧ X.env.cells.lookup x = some c) := fun x c hx => by
    rw [lookup_app] at hx
    cases ex : (cellsFrom (C + 1) scope.names []).lookup x with
    | some d =>
      rw [ex] at hx; cases hx
      exact .inl ⟨PySem.mem_of_lookup ex, (cellsFrom_mem (PySem.mem_of_lookup ex)).2⟩
    | none =>
      rw [ex] at hx
      exact .inr (closL_look hx)
  refine ⟨comp_ok I ok f2 hlt (by walk_at "om") h5C, rfl, I.bare, Un.kept old4, ⟨_, hns.keeps k4, fun j x v e1 e2 e3 => ?_⟩, fun x c hx => ?_, I.hok.fresh (by show s.heap.objs.size ≤ C; walk_at "om"), fun x c hx => ?_, fun p hp => ?_, I.hok.kept old4, ?_⟩
  · have e2 : (capS cap σ)[j]? = some (some v) := e2
    unfold capS at e2
    rw [List.getElem?_map] at e2
    cases q : cap[j]? with
    | none => rw [q] at e2; cases e2
    | some o =>
      rw [q] at e2
      cases o with
      | none => cases e2
      | some i =>
        obtain ⟨y, hy1, hy2, hy3⟩ := ok.cap j i q
        have : N'[j]? = some x := e1
        rw [hy1] at this
        have exy : y = x := Option.some.inj this
        subst exy
        have hv : σ[i]? = some (some v) := by
          simp only [Option.map_some, Option.bind_some, Option.some.injEq] at e2
          cases r : σ[i]? with
          | none => rw [r] at e2; cases e2
          | some o => rw [r] at e2; simp at e2; rw [e2]
        have hm := PySem.mem_of_lookup hy3
        have hk := ok.fre _ hm rfl
        obtain ⟨m, _, hl⟩ := I.loc
        obtain ⟨u, ru, lu⟩ := hl i y v hy2 hv (by rcases hk with z | z; exact .inr (.inl z); exact .inr (.inr z))
        refine ⟨u, ru, .inr ⟨?_, ?_⟩⟩
        · show (relabel scope X.env).names.lookup y = some .cell ∨ (relabel scope X.env).names.lookup y = some .free
          rw [relabel_look, hy3]
          simp only [Option.map_some]
          split <;> simp
        · rcases lu with ⟨z, _⟩ | ⟨_, c, hc, hcell⟩
          · have z : X.env.scope.names.lookup y = some .local := z
            rcases hk with q | q <;> (rw [z] at q; cases q)
          · refine ⟨c, ?_, hcell.keeps old4⟩
            show (cellsFrom (C + 1) scope.names [] ++ closL X.env.cells scope.names).lookup y = some c
            rw [lookup_app]
            cases ex : (cellsFrom (C + 1) scope.names []).lookup y with
            | none => rw [closL_has hm hc]; rfl
            | some d =>
              have := (cellsFrom_mem (PySem.mem_of_lookup ex)).1
              have := ok.uniq _ this
              rw [hy3] at this; cases this
  · rcases look x c hx with ⟨z, _⟩ | ⟨_, z⟩
    · rw [← h5C] at z
      have := cellsFrom_lt z
      exact ⟨_, by rw [e4]; exact this⟩
    · obtain ⟨v, q⟩ := I.cell x c z
      exact ⟨v, q.keeps old4⟩
  · rcases look x c hx with ⟨_, z⟩ | ⟨_, z⟩
    · exact I.hok.fresh (by walk_at "om")
    · exact I.freeC x c z
  · have hp : p ∈ (X.pn ++ pins) ++ [(D, lo)] := hp
    rcases List.mem_append.mp hp with hp | hp
    · obtain ⟨e, n, ne, nf, d⟩ := I.pin p hp
      have := I.pin_lt hp
      refine ⟨old4 _ _ e, n, by show p.1 ≠ C; walk_at "om", fun z => ?_, d⟩
      rcases List.mem_cons.mp (I.stkSub p.1 z) with q | q
      · exact ne q
      · exact nf q
    · have : p = (D, lo) := by simpa using hp
      subst this
      refine ⟨k4 _ _ hlo, I.hok.fresh (by show s.heap.objs.size ≤ D; walk_at "om"), by show D ≠ C; walk_at "om", fun z => ?_, nc⟩
      have : D < s.heap.objs.size := I.frs_lt z
      walk_at "om"
  · show (capS cap σ).length = N'.length
    unfold capS
    rw [List.length_map]
    exact ok.len

/-- behind the block -/
theorem comp_end {scope : Scope} {N' : List Str} {fp : List Addr} {cells : List (Str × Addr)} {C D : Addr} {lo : Obj} {σ' : St} {H' : Hp} {s' : Shared} {its : List Value} {k : Nat} {ys : List V} (I : Inv X pins σ H s)
    (I' : Inv (compCx X scope N' cells C s H fp pins) [(D, lo)] σ' H' s') (f2 : ∀ b ∈ fp, FpOk X pins H b) (hD : s.heap.objs.size ≤ D) (elo : lo = { cls := .type "list", data := .seq its.toArray k }) (hv : Vals ys its) (hl : ys.length ≤ sizeLine) :
    Inv X pins σ (upd H' D (.lst ys)) s' := by
  obtain ⟨pd, pn, pc, pf, _⟩ := I'.pin (D, lo) (by show _ ∈ (X.pn ++ pins) ++ [(D, lo)]; simp)
  have pd : s'.heap.get? D = some lo := pd
  have pn : H' D = none := pn
  have neD : ∀ b o, s.heap.get? b = some o → b ≠ D := fun b o e => Nat.ne_of_lt (Nat.lt_of_lt_of_le (Heap.lt_size e) hD)
  have B := I'.base
  refine I.call' (ch := fp) I'.os ⟨B.keep, B.slot, fun b o e n hx => ?_, B.there, fun b xs e => ?_, fun b o u e => ?_, fun b ps e => ?_⟩ (fun b u e => ?_) I'.bare fun b hb => ⟨(f2 b hb).2.2.2.1, (f2 b hb).2.1, (f2 b hb).2.2.2.2.1, (f2 b hb).2.2.2.2.2⟩
  · rw [upd_ne (neD b o e)]; exact B.free b o e n hx
  · have := B.tups b xs e
    rw [upd_ne (ne_of_none this pn)]; exact this
  · have := B.frzs b o u e
    rw [upd_ne (ne_of_none this pn)]; exact this
  · obtain ⟨m, e'⟩ := B.tbls b ps e
    exact ⟨m, by rw [upd_ne (ne_of_none e' pn)]; exact e'⟩
  · by_cases hb : b = D
    · subst hb
      rw [upd_same] at e; cases e
      exact ⟨hl, its, k, hv, by rw [pd, elo]⟩
    · rw [upd_ne hb] at e
      exact (I'.hok b u e).stay (fun _ _ _ q => q) (fun c q => by rw [upd_ne (ne_of_none q pn)]; exact q) fun c xs q => by rw [upd_ne (ne_of_none q pn)]; exact q
end

section
variable {X : Cx} {pins : List (Addr × Obj)} {σ : St} {H2 : Hp} {s2 : Shared}
theorem comp_run {elt tg iter : Expr} {ifs : List Expr} {scope : Scope} {pos : Pos} {N' : List Str} {cap : List (Option Nat)} {g : TG} {tt : TT} {te : TE} {it : Addr} {fp : List Addr} {tn : Nat → Heap → Prop} {J : It} {n : Nat} {W : Nat → List V → St → Hp → Prop} {Q : VK}
    {RR : Value → Addr → Result → Shared → Prop} {E : Value → Shared → Prop}
    (hc : X.calm = true) (ok : CompOk X scope N' cap)
    (hb : ∀ cells C s₀ H₀ fp pins, PG (compCx X scope N' cells C s₀ H₀ fp pins) tg g ∧ PIfs (compCx X scope N' cells C s₀ H₀ fp pins) ifs tt ∧ PE (compCx X scope N' cells C s₀ H₀ fp pins) elt te)
    (I2 : Inv X pins σ H2 s2) (T : Turn X.prog X.w X.K tg J fp it tn) (st2 : tn 0 s2.heap) (f2 : ∀ b ∈ fp, FpOk X pins H2 b) (hn : n ≤ sizeLine) (w0 : W 0 [] (capS cap σ) H2)
    (turn : ∀ i ys σ' H, W i ys σ' H → i ≤ n ∧ ys.length ≤ i ∧
      ((J.stop i H ∧ ∀ D, H D = none → Q (.ref D) (upd H D (.lst ys))) ∨
       (J.go i H ∧ i < n ∧ ∀ x H', J.yld i H x H' → g x σ' H' fun σ2 H2 => tt σ2 H2 fun b H3 => if b = true then te σ2 H3 fun v H4 => W (i + 1) (ys ++ [v]) σ2 H4 else W (i + 1) ys σ2 H3)))
    (hRR : ∀ (D C : Addr) (s' : Shared) (H' : Hp), Inv X pins σ H' s' → Q (.ref D) H' → (∃ m, s'.heap.Ns C m) → H' C = none → C ≠ X.env.locals → X.s₀.heap.objs.size ≤ C → (∀ x c, X.env.cells.lookup x = some c → c ≠ C) → (∀ p ∈ X.pn ++ pins, p.1 ≠ C) → RR (.ref D) C (.ok .next) s') :
    wpAny (model X.prog X.w) X.A (newList []) (fun acc s₃ => wpAny (model X.prog X.w) X.A (newFunctionEnv scope X.env.globals (closL X.env.cells scope.names) [] X.env.qual none .none (some X.env)) (fun cenv s₄ =>
      codeAny (model X.prog X.w) X.A (.compStart (.ListComp elt [⟨tg, iter, ifs, 0⟩] scope pos) 0 (.ref it) acc { cenv with scope := relabel scope X.env }) (RR acc cenv.locals) s₄) E s₃) E s2 := by
  refine wpAny_newObj_type (wpAny_newCompEnv ?_)
  dsimp only
  generalize hH3 : s2.heap.push { cls := .type "list", dict := none, data := .seq ([] : List Value).toArray } = h3
  have sz3 : h3.objs.size = s2.heap.objs.size + 1 := by rw [← hH3, Heap.size_push]
  generalize hH5 : h3.push { cls := .type "dict", data := .dict #[] } = h5
  have sz5 : h5.objs.size = h3.objs.size + 1 := by rw [← hH5, Heap.size_push]
  generalize hH4 : pushCells h5 scope.names = h4
  have hns5 : h5.Ns h3.objs.size fun _ => none := by rw [← hH5]; exact Heap.Ns.new ..
  have old5 : ∀ b o, s2.heap.get? b = some o → h5.get? b = some o := fun b o e => by rw [← hH5]; exact Heap.get?_push_of_some _ (by rw [← hH3]; exact Heap.get?_push_of_some _ e)
  have hlo5 : h5.get? s2.heap.objs.size = some { cls := .type "list", data := .seq ([] : List Value).toArray } := by rw [← hH5]; exact Heap.get?_push_of_some _ (by rw [← hH3]; exact Heap.get?_push_size _ rfl)
  have hlt : ∀ b ∈ fp, b < s2.heap.objs.size := fun b hb => let ⟨o, e, _⟩ := T.obj _ _ st2 b hb; Heap.lt_size e
  have I0 : ∀ tk, Inv (compCx X scope N' (cellsFrom (h3.objs.size + 1) scope.names [] ++ closL X.env.cells scope.names) h3.objs.size s2 H2 fp pins) [(s2.heap.objs.size, { cls := .type "list", data := .seq ([] : List Value).toArray })] (capS cap σ) H2 { s2 with heap := h4, toks := tk } := fun tk =>
    comp_start I2 ok f2 hlt rfl sz3 sz5 hH4.symm hns5 hlo5 (fun v z => by cases z) old5
  have k4 : ∀ b o, s2.heap.get? b = some o → h4.get? b = some o := fun b o e => by rw [← hH4]; exact pushCells_keeps _ _ b o (old5 b o e)
  have st4 : tn 0 h4 := T.keep _ _ _ st2 fun b _ o e => k4 b o e
  obtain ⟨pg, pif, pel⟩ := hb (cellsFrom (h3.objs.size + 1) scope.names [] ++ closL X.env.cells scope.names) h3.objs.size s2 H2 fp pins
  generalize hcs : cellsFrom (h3.objs.size + 1) scope.names [] ++ closL X.env.cells scope.names = cs at I0 pg pif pel ⊢
  -- the iterator's objects through the loop
  have stat : ∀ {lo : Obj} {σ' : St} {H' : Hp} {s' : Shared}, Inv (compCx X scope N' cs h3.objs.size s2 H2 fp pins) [(s2.heap.objs.size, lo)] σ' H' s' → (∀ b ∈ fp, H' b = none) → ∀ b ∈ fp, FpOk (compCx X scope N' cs h3.objs.size s2 H2 fp pins) [(s2.heap.objs.size, lo)] H' b := fun {lo σ' H' s'} I' fr b hb => by
    have q := f2 b hb
    have lb := hlt b hb
    refine ⟨fr b hb, by show b ≠ h3.objs.size; walk_at "om", I'.ok.exfs b hb, .inl hb, (I'.ok.exf b hb).2, fun p hp => ?_⟩
    have hp : p ∈ (X.pn ++ pins) ++ [(s2.heap.objs.size, lo)] := hp
    rcases List.mem_append.mp hp with hp | hp
    · exact q.2.2.2.2.2 p hp
    · have : p = (s2.heap.objs.size, lo) := by simpa using hp
      subst this
      show s2.heap.objs.size ≠ b
      walk_at "om"
  have loop : ∀ tk, codeAny (model X.prog X.w) X.A (.compLoop (.ListComp elt [⟨tg, iter, ifs, 0⟩] scope pos) 0 (.ref it) (.ref s2.heap.objs.size) (compEnvC scope cs h3.objs.size X.env)) (RR (.ref s2.heap.objs.size) h3.objs.size) { s2 with heap := h4, toks := tk } := fun tk => by
    refine compLoop_gen (fun k s' => ∃ (i : Nat) (ys : List V) (σ' : St) (H' : Hp) (its : List Value) (c : Nat), Inv (compCx X scope N' cs h3.objs.size s2 H2 fp pins) [(s2.heap.objs.size, { cls := .type "list", data := .seq its.toArray c })] σ' H' s' ∧ tn i s'.heap ∧ (∀ b ∈ fp, H' b = none) ∧
      Vals ys its ∧ W i ys σ' H' ∧ k = n + 1 - i) ?_ (n + 1) ⟨0, [], capS cap σ, H2, [], 0, I0 tk, st4, fun b hb => (f2 b hb).1, .nil, w0, rfl⟩
    rintro k s3 ⟨i, ys, σ3, H3, its, c, I3, st3, fr3, hv3, w3, rfl⟩
    obtain ⟨hi, hy, hcase⟩ := turn i ys σ3 H3 w3
    rcases hcase with ⟨stop, q⟩ | ⟨go, hlt', step⟩
    · refine thn (T.done (compCx X scope N' cs h3.objs.size s2 H2 fp pins) rfl rfl rfl hc i _ s3 σ3 H3 _ I3 (stat I3 fr3) st3 stop) fun r s4 ⟨hr, I4⟩ => ?_
      subst hr
      have Ie := comp_end I2 I4 f2 (Nat.le_refl _) rfl hv3 (by walk_at "om")
      obtain ⟨_, pn, _⟩ := I4.pin (s2.heap.objs.size, _) (by show _ ∈ (X.pn ++ pins) ++ [_]; exact List.mem_append_right _ (List.mem_singleton.mpr rfl))
      obtain ⟨m, hm, _⟩ := I4.loc
      refine hRR _ _ s4 _ Ie (q _ pn) ⟨m, hm⟩ ?_ ?_ ?_ ?_ ?_
      · rw [upd_ne (by walk_at "om")]; exact I4.free
      · have := I2.lt; walk_at "om"
      · have := I2.sz; walk_at "om"
      · intro x c e; have := I2.cell_lt e; walk_at "om"
      · intro p hp; have := I2.pin_lt hp; walk_at "om"
    · refine thn (T.item (compCx X scope N' cs h3.objs.size s2 H2 fp pins) rfl rfl rfl hc i _ s3 σ3 H3 _ I3 (stat I3 fr3) st3 go) fun r s4 ⟨u, hr, h4'⟩ => ?_
      subst hr
      refine thn h4' fun _ s5 ⟨x, H5, I5, r5, y5, st5, fr5⟩ => ?_
      have I5' := I5.pinned (stat I5 fr5) (T.obj _ _ st5)
      refine thn (pg _ s5 σ3 H5 x u _ I5' r5 (step x H5 y5)) fun _ s6 ⟨σ6, H6, I6, q6⟩ => ?_
      refine thn (pif _ s6 σ6 H6 _ I6 q6) fun b s7 ⟨H7, I7, q7⟩ => ?_
      have back : ∀ {σ8 : St} {H8 : Hp} {s8 : Shared} {o : List (Addr × Obj)}, Inv (compCx X scope N' cs h3.objs.size s2 H2 fp pins) (o ++ pinsAt fp s5.heap) σ8 H8 s8 → tn (i + 1) s8.heap ∧ ∀ b ∈ fp, H8 b = none := fun {σ8 H8 s8 o} I8 => by
        have pp : ∀ b ob, b ∈ fp → s5.heap.get? b = some ob → s8.heap.get? b = some ob ∧ H8 b = none := fun b ob hb e => by
          have := I8.pin (b, ob) (List.mem_append_right _ (List.mem_append_right _ (mem_pinsAt hb e)))
          exact ⟨this.1, this.2.1⟩
        refine ⟨T.keep _ _ _ st5 fun b hb ob e => (pp b ob hb e).1, fun b hb => ?_⟩
        obtain ⟨ob, e, _⟩ := T.obj _ _ st5 b hb
        exact (pp b ob hb e).2
      cases b with
      | false =>
        simp only [Bool.false_eq_true, if_false]
        simp only [Bool.false_eq_true, if_false] at q7
        obtain ⟨st7, fr7⟩ := back I7
        exact ⟨n + 1 - (i + 1), by walk_at "om", i + 1, ys, σ6, H7, its, c, I7.unpinned, st7, fr7, hv3, q7, rfl⟩
      | true =>
        simp only [if_true]
        simp only [if_true] at q7
        refine thn (pel _ s7 σ6 H7 _ I7 q7) fun y s8 ⟨v, H8, I8, r8, q8⟩ => ?_
        obtain ⟨st8, fr8⟩ := back I8
        have I8u := I8.unpinned
        obtain ⟨pd, pn, pc, pf, _⟩ := I8u.pin (s2.heap.objs.size, { cls := .type "list", data := .seq its.toArray c }) (List.mem_append_right _ (List.mem_singleton.mpr rfl))
        have pd : s8.heap.get? s2.heap.objs.size = some { cls := .type "list", data := .seq its.toArray c } := pd
        have hits : its.length ≤ sizeLine := by have := hv3.length; walk_at "om"
        refine wpAny_list_append_plain (s := s8) (hsz := by simpa using hits) ⟨c, pd⟩ fun h9 ⟨c9, pl9⟩ sb9 => ?_
        have k9 : ∀ b o, b ≠ s2.heap.objs.size → s8.heap.get? b = some o → h9.get? b = some o := fun b o hb e => (sb9.2 b hb).trans e
        have I8n : Inv (compCx X scope N' cs h3.objs.size s2 H2 fp pins) [] σ6 H8 s8 := I8u.pins_of (pins' := []) fun p hp => (nomatch hp)
        have I9 : Inv (compCx X scope N' cs h3.objs.size s2 H2 fp pins) [] σ6 H8 { s8 with heap := h9, toks := s8.toks } := I8n.turned k9 pn (by show s2.heap.objs.size ≠ h3.objs.size; walk_at "om") (.inr (Nat.le_refl _))
          (fun x c e z => by
            have e : cs.lookup x = some c := e
            rw [← hcs, lookup_app] at e
            cases ex : (cellsFrom (h3.objs.size + 1) scope.names []).lookup x with
            | some d =>
              rw [ex] at e; cases e
              have := (cellsFrom_mem (PySem.mem_of_lookup ex)).2
              walk_at "om"
            | none =>
              rw [ex] at e
              have := I2.cell_lt (closL_look e).2
              walk_at "om")
          (fun p hp => by
            have hp : p ∈ (X.pn ++ pins) ++ [] := hp
            rw [List.append_nil] at hp
            have := I2.pin_lt hp
            walk_at "om")
        have I9' : Inv (compCx X scope N' cs h3.objs.size s2 H2 fp pins) [(s2.heap.objs.size, { cls := .type "list", data := .seq (its ++ [y]).toArray c9 })] σ6 H8 { s8 with heap := h9, toks := s8.toks } := I9.pins_of fun p hp => by
          have : p = (s2.heap.objs.size, ({ cls := .type "list", data := .seq (its ++ [y]).toArray c9 } : Obj)) := by simpa using hp
          subst this
          refine ⟨?_, pn, pc, pf, fun v z => by cases z⟩
          show h9.get? s2.heap.objs.size = _
          rw [pl9]
          simp
        have stf : tn (i + 1) h9 := T.keep _ _ _ st8 fun b hb o e => k9 b o (by have := hlt b hb; walk_at "om") e
        exact ⟨n + 1 - (i + 1), by walk_at "om", i + 1, ys ++ [v], σ6, H8, its ++ [y], c9, I9', stf, fr8, Vals.append hv3 (.cons r8 .nil), q8, rfl⟩
  exact codeAny_compStart_list (loop _) (T.self _ 0 _ _ _ st4 (loop _))
end

section
variable {X : Cx}
theorem comp_hnames {scope : Scope} {N' : List Str} {cap : List (Option Nat)} (ok : CompOk X scope N' cap) : ∀ x ∈ scope.names, x.2 = .local → scope.names.lookup x.1 = some .local := fun x hx e => by rw [ok.uniq x hx, e]
theorem comp_clos {scope : Scope} {N' : List Str} {cap : List (Option Nat)} (okX : X.Ok) (ok : CompOk X scope N' cap) : closureFor scope X.env = pure (closL X.env.cells scope.names) :=
  closureFor_eq fun x hx e => okX.has x.1 (ok.fre x hx e)
/-- [elt for tg in iter if ..] as a value -/
theorem pe_comp {elt tg iter : Expr} {ifs : List Expr} {scope : Scope} {pos : Pos} {N' : List Str} {cap : List (Option Nat)} {wi : TI} {g : TG} {tt : TT} {te : TE} (hc : X.calm = true) (ok : CompOk X scope N' cap) (hi : PI X tg iter wi)
    (hb : ∀ cells C s₀ H₀ fp pins, PG (compCx X scope N' cells C s₀ H₀ fp pins) tg g ∧ PIfs (compCx X scope N' cells C s₀ H₀ fp pins) ifs tt ∧ PE (compCx X scope N' cells C s₀ H₀ fp pins) elt te)
    (hs : ∀ x, foldedSetIterable iter X.env x = pure x := by intro _; rfl) : PE X (.ListComp elt [⟨tg, iter, ifs, 0⟩] scope pos) (tComp wi cap g tt te) := by
  intro pins s σ H Q I h
  rw [eval_ListComp]
  refine wpAny_comprehension_free (use := none) rfl hs (comp_clos I.ok ok) ok.kind (comp_hnames ok) (thn (hi pins s σ H _ I h) fun v s1 h1 => thn h1 fun itv s2 h2 => ?_)
  obtain ⟨it, fp, tn, J, H2, e, I2, T, st2, f2, n, W, hn, w0, turn⟩ := h2
  subst e
  refine comp_run (RR := fun acc C => compPost (model X.prog X.w) X.A X.xe none (EP X pins σ Q) acc C) hc ok hb I2 T st2 f2 hn w0 turn ?_
  intro D C s' H' I' q hm fr c1 c2 c3 c4
  obtain ⟨m, hm⟩ := hm
  exact ⟨m, hm, fun h' sb => ⟨.ref D, H', I'.turned (t' := s'.toks) (fun b o hb e => (sb.2 b hb).trans e) fr c1 (.inr c2) c3 c4, rfl, q⟩⟩
/-- name = [elt for ..]: stored ahead of the block's end -/
theorem ps_setComp {i : Nat} {y : Str} {elt tg iter : Expr} {ifs : List Expr} {scope : Scope} {pos spos py : Pos} {N' : List Str} {cap : List (Option Nat)} {wi : TI} {g : TG} {tt : TT} {te : TE} (hN : X.N.Nodup) (hiy : X.N[i]? = some y) (hy : X.env.scope.names.lookup y = some .local)
    (hc : X.calm = true) (ok : CompOk X scope N' cap) (hi : PI X tg iter wi)
    (hb : ∀ cells C s₀ H₀ fp pins, PG (compCx X scope N' cells C s₀ H₀ fp pins) tg g ∧ PIfs (compCx X scope N' cells C s₀ H₀ fp pins) ifs tt ∧ PE (compCx X scope N' cells C s₀ H₀ fp pins) elt te)
    (hsw : swapsWith (.ListComp elt [⟨tg, iter, ifs, 0⟩] scope pos) (some (.Name y py)) spos.line X.env = pure true := by rfl)
    (hs : ∀ x, foldedSetIterable iter X.env x = pure x := by intro _; rfl) : PS X (.Assign [.Name y py] (.ListComp elt [⟨tg, iter, ifs, 0⟩] scope pos) spos) (tAsg (tComp wi cap g tt te) (gName i)) := by
  intro pins s σ H D I h
  rw [exec_Assign_Name_used _ _ _ _ hsw]
  refine wpAny_bind (wpAny_standAt (wpAny_bind ?_))
  show wpAny _ X.A (do let _ ← comprehension (.ListComp elt [⟨tg, iter, ifs, 0⟩] scope pos) scope X.env _ (newList []) false (eval iter X.env) (some (assign (.Name y py) X.env))) _ _ s
  refine wpAny_bind (wpAny_mono (wpAny_comprehension_free (use := some (assign (.Name y py) X.env)) (Q := fun _ s' => SP X pins D .next s') rfl hs (comp_clos I.ok ok) ok.kind (comp_hnames ok)
    (thn (hi pins s σ H _ I h) fun v s1 h1 => thn h1 fun itv s2 h2 => ?_)) (fun _ s' hq => wpAny_pure (wpAny_pure hq)) fun _ _ e => e)
  obtain ⟨it, fp, tn, J, H2, e, I2, T, st2, f2, n, W, hn, w0, turn⟩ := h2
  subst e
  refine comp_run (RR := fun acc C => compPost (model X.prog X.w) X.A X.xe (some (assign (.Name y py) X.env)) (fun _ s' => SP X pins D .next s') acc C) (Q := fun v H1 => gName i v σ H1 D.nx) hc ok hb I2 T st2 f2 hn w0 turn ?_
  intro D' C s' H' I' q hm fr c1 c2 c3 c4
  obtain ⟨m, hm⟩ := hm
  show wpAny _ X.A (assign (.Name y py) X.env (.ref D')) _ _ s'
  refine wpAny_assign_Name (store_ok2 I' hN hiy (.inl hy) (v := .ref D') rfl (fun s'' I'' ⟨a, sb, ha⟩ => ?_) (.inr hy))
  have aC : C ≠ a := by
    rcases ha with z | z
    · rw [z]; exact c1
    · exact (c3 _ _ z).symm
  refine ⟨m, hm.sameBut sb aC, fun h' sb' => ?_⟩
  exact ⟨_, H', I''.turned (t' := s''.toks) (fun b o hb e => (sb'.2 b hb).trans e) fr c1 (.inr c2) c3 c4, q⟩
end

/-! ### the forms one uses -/
/-- over a range -/
theorem comp_range {lo : Int} {m : Nat} {cap : List (Option Nat)} {g : TG} {tt : TT} {te : TE} {σ : St} {H : Hp} {Q : VK} (hm : m ≤ sizeLine) (Pv : Nat → List V → St → Hp → Prop) (h0 : Pv 0 [] (capS cap σ) H)
    (hl : ∀ i ys σ H, Pv i ys σ H → i ≤ m ∧ ys.length ≤ i)
    (hs : ∀ i ys σ H, i < m → Pv i ys σ H → g (.int (lo + i)) σ H fun σ2 H2 => tt σ2 H2 fun b H3 => if b = true then te σ2 H3 fun v H4 => Pv (i + 1) (ys ++ [v]) σ2 H4 else Pv (i + 1) ys σ2 H3)
    (hd : ∀ ys σ H, Pv m ys σ H → ∀ D, H D = none → Q (.ref D) (upd H D (.lst ys))) :
    CompR cap g tt te σ Q (Itr lo m) H := by
  refine ⟨m, Pv, hm, h0, fun i ys σ' H p => ⟨(hl i ys σ' H p).1, (hl i ys σ' H p).2, ?_⟩⟩
  by_cases hi : i < m
  · refine .inr ⟨hi, hi, fun x H' ⟨e1, e2⟩ => ?_⟩
    subst e1 e2
    exact hs i ys σ' H' hi p
  · have : i = m := by have := (hl i ys σ' H p).1; walk_at "om"
    subst this
    exact .inl ⟨Nat.le_refl _, hd ys σ' H p⟩
/-- over a list that stays -/
theorem comp_list {K : PySem.W.Frag} {a : Addr} {xs : List V} {cap : List (Option Nat)} {g : TG} {tt : TT} {te : TE} {σ : St} {H : Hp} {Q : VK} (hm : xs.length ≤ sizeLine) (Pv : Nat → List V → St → Hp → Prop) (h0 : Pv 0 [] (capS cap σ) H)
    (hl : ∀ i ys σ H, Pv i ys σ H → i ≤ xs.length ∧ ys.length ≤ i ∧ SqL K H a xs)
    (hs : ∀ i x ys σ H, xs[i]? = some x → Pv i ys σ H → g x σ H fun σ2 H2 => tt σ2 H2 fun b H3 => if b = true then te σ2 H3 fun v H4 => Pv (i + 1) (ys ++ [v]) σ2 H4 else Pv (i + 1) ys σ2 H3)
    (hd : ∀ ys σ H, Pv xs.length ys σ H → ∀ D, H D = none → Q (.ref D) (upd H D (.lst ys))) :
    CompR cap g tt te σ Q (Itl K a) H := by
  refine ⟨xs.length, Pv, hm, h0, fun i ys σ' H p => ?_⟩
  obtain ⟨h1, h2, h3⟩ := hl i ys σ' H p
  refine ⟨h1, h2, ?_⟩
  by_cases hi : i < xs.length
  · obtain ⟨x, hx⟩ : ∃ x, xs[i]? = some x := ⟨xs[i], List.getElem?_eq_getElem hi⟩
    refine .inr ⟨⟨xs, x, h3, hx⟩, hi, fun x' H' ⟨e1, e2⟩ => ?_⟩
    subst e1
    exact hs i x' ys σ' H' (e2 xs h3) p
  · have : i = xs.length := by walk_at "om"
    subst this
    exact .inl ⟨⟨xs, h3, Nat.le_refl _⟩, hd ys σ' H p⟩
end L2
set_option Elab.async false
set_option linter.all false
set_option maxRecDepth 100000
set_option maxHeartbeats 2000000
namespace L2
open PySem PySem.Spec PyProof.Rows
local macro_rules | `(tactic| walk_at "om") => `(tactic| first | omega | (unfold Addr at *; omega))
section
variable {X : Cx}
/-! ### isinstance, one class -/
theorem call_isT : CallR X (.builtin "isinstance") (fun xs H Q => ∃ x n t b, xs = [x, .ty n] ∧ TyOf X.K H x t ∧ PySem.W.kitOne X.K t (.type n) = some b ∧ Q (.bl b) H) := by
  intro pins s σ H xs us Q I r h
  obtain ⟨x, n, t, b, rfl, ty, e, q⟩ := h
  obtain ⟨u, w', rfl, rx, rc⟩ := vals2 r
  cases rc
  exact isinst_ok I rx ty e fun tk => ⟨.bl b, H, I.tok tk, rfl, q⟩
/-! ### sum of a list of ints -/
/-! ### all of a list of bools -/
end

/-! ### == of data: lists, tuples, flat values -/
inductive Tr where
  | flat (v : V)
  | lst (xs : List Tr)
  | tup (xs : List Tr)
mutual
def eqT : Tr → Tr → Bool
  | .flat a, .flat b => eqV a b
  | .lst xs, .lst ys => eqTs xs ys
  | .tup xs, .tup ys => eqTs xs ys
  | _, _ => false
def eqTs : List Tr → List Tr → Bool
  | [], [] => true
  | x :: xs, y :: ys => eqT x y && eqTs xs ys
  | _, _ => false
end
theorem eqV_refl : ∀ {v : V}, flatV v = true → eqV v v = true
  | .non, _ => rfl
  | .bl b, _ => by simp [eqV]
  | .int i, _ => by simp [eqV]
  | .str x, _ => by simp [eqV]
/-- the value stands for the tree, of depth below n -/
inductive Holds (K : PySem.W.Frag) (H : Hp) : Nat → V → Tr → Prop where
  | flat {n : Nat} {v : V} (h : flatV v = true) : Holds K H n v (.flat v)
  | lst {n : Nat} {a : Addr} {xs : List V} {ts : List Tr} (h : SqL K H a xs) (hl : xs.length = ts.length) (he : ∀ (i : Nat) x t, xs[i]? = some x → ts[i]? = some t → Holds K H n x t) : Holds K H (n + 1) (.ref a) (.lst ts)
  | tup {n : Nat} {a : Addr} {xs : List V} {ts : List Tr} (h : SqT K H a xs) (hl : xs.length = ts.length) (he : ∀ (i : Nat) x t, xs[i]? = some x → ts[i]? = some t → Holds K H n x t) : Holds K H (n + 1) (.ref a) (.tup ts)
theorem eqTs_len : ∀ {xs ys : List Tr}, xs.length ≠ ys.length → eqTs xs ys = false
  | [], [], h => absurd rfl h
  | [], _ :: _, _ => by simp [eqTs]
  | _ :: _, [], _ => by simp [eqTs]
  | x :: xs, y :: ys, h => by
    have := eqTs_len (xs := xs) (ys := ys) (fun e => h (by simp [e]))
    simp [eqTs, this]
theorem eqTs_all : ∀ {xs ys : List Tr}, xs.length = ys.length → eqTs xs ys = (List.range xs.length).all fun i => match xs[i]?, ys[i]? with | some x, some y => eqT x y | _, _ => true
  | [], [], _ => by simp [eqTs]
  | x :: xs, y :: ys, h => by
    have ih := eqTs_all (xs := xs) (ys := ys) (by simpa using h)
    rw [List.length_cons, List.range_succ_eq_map, List.all_cons, List.all_map]
    simp only [eqTs]
    rw [ih]
    rfl
section
variable {X : Cx} {pins : List (Addr × Obj)} {σ : St} {H : Hp} {s : Shared}
/-- what stands for itself is equal to itself -/
theorem Holds.same (I : Inv X pins σ H s) : ∀ {n : Nat} {x : V} {t u : Tr}, Holds X.K H n x t → ∀ {m : Nat}, Holds X.K H m x u → eqT t u = true := by
  intro n x t u h
  induction h generalizing u with
  | flat hv =>
    intro m h'
    cases h' with
    | flat _ => simp only [eqT]; exact eqV_refl hv
    | lst => simp [flatV] at hv
    | tup => simp [flatV] at hv
  | @lst n a xs ts h hl he ih =>
    intro m h'
    cases h' with
    | flat hv => simp [flatV] at hv
    | @lst _ _ ys us h2 hl2 he2 =>
      have e := I.list_inj h h2
      subst e
      simp only [eqT]
      rw [eqTs_all (hl.symm.trans hl2), List.all_eq_true]
      intro i hi
      have hi : i < ts.length := by simpa using hi
      have hx : xs[i]? = some xs[i] := List.getElem?_eq_getElem (by walk_at "om")
      have ht : ts[i]? = some ts[i] := List.getElem?_eq_getElem hi
      have hu : us[i]? = some us[i] := List.getElem?_eq_getElem (by walk_at "om")
      rw [ht, hu]
      exact ih i _ _ hx ht (he2 i _ _ hx hu)
    | tup h2 =>
      exfalso
      obtain ⟨its, _, p, _⟩ := I.list h
      obtain ⟨its2, _, p2, _⟩ := I.tuple h2
      obtain ⟨o, ho, hc, _⟩ := p.isList
      obtain ⟨o2, ho2, hc2, _⟩ := p2
      rw [ho] at ho2; cases ho2
      rw [hc] at hc2
      injection hc2 with z
      exact absurd z (by decide)
  | @tup n a xs ts h hl he ih =>
    intro m h'
    cases h' with
    | flat hv => simp [flatV] at hv
    | lst h2 =>
      exfalso
      obtain ⟨its, _, p, _⟩ := I.list h2
      obtain ⟨its2, _, p2, _⟩ := I.tuple h
      obtain ⟨o, ho, hc, _⟩ := p.isList
      obtain ⟨o2, ho2, hc2, _⟩ := p2
      rw [ho] at ho2; cases ho2
      rw [hc] at hc2
      injection hc2 with z
      exact absurd z (by decide)
    | @tup _ _ ys us h2 hl2 he2 =>
      have e := I.tuple_inj h h2
      subst e
      simp only [eqT]
      rw [eqTs_all (hl.symm.trans hl2), List.all_eq_true]
      intro i hi
      have hi : i < ts.length := by simpa using hi
      have hx : xs[i]? = some xs[i] := List.getElem?_eq_getElem (by walk_at "om")
      have ht : ts[i]? = some ts[i] := List.getElem?_eq_getElem hi
      have hu : us[i]? = some us[i] := List.getElem?_eq_getElem (by walk_at "om")
      rw [ht, hu]
      exact ih i _ _ hx ht (he2 i _ _ hx hu)
/-- the items' answers of two rows -/
theorem items_eq {A : Around} {n m : Nat} {xs ys : List V} {ts us : List Tr} {its its2 : List Value} (rv : Vals xs its) (rv2 : Vals ys its2) (hl : xs.length = ts.length) (hl2 : ys.length = us.length)
    (he : ∀ (i : Nat) x t y u v w', xs[i]? = some x → ts[i]? = some t → ys[i]? = some y → us[i]? = some u → RelV x v → RelV y w' → SeqAt.EqAt A s v w' (eqT t u)) :
    ∀ j (h1 : j < its.toArray.size) (h2 : j < its2.toArray.size), SeqAt.EqAt A s its.toArray[j] its2.toArray[j] (match ts[j]?, us[j]? with | some x, some y => eqT x y | _, _ => true) := by
  intro j h1 h2
  have a1 := rv.length
  have a2 := rv2.length
  have h1' : j < its.length := by simpa using h1
  have h2' : j < its2.length := by simpa using h2
  have hx : xs[j]? = some xs[j] := List.getElem?_eq_getElem (by walk_at "om")
  have hy : ys[j]? = some ys[j] := List.getElem?_eq_getElem (by walk_at "om")
  have ht : ts[j]? = some ts[j] := List.getElem?_eq_getElem (by walk_at "om")
  have hu : us[j]? = some us[j] := List.getElem?_eq_getElem (by walk_at "om")
  obtain ⟨v, ev, r1⟩ := rv.get hx
  obtain ⟨w', ew, r2⟩ := rv2.get hy
  rw [ht, hu]
  have e1 : its.toArray[j] = v := by
    have : its[j]? = some its[j] := List.getElem?_eq_getElem h1'
    rw [this] at ev
    simpa using ev
  have e2 : its2.toArray[j] = w' := by
    have : its2[j]? = some its2[j] := List.getElem?_eq_getElem h2'
    rw [this] at ew
    simpa using ew
  rw [e1, e2]
  exact he j _ _ _ _ _ _ hx ht hy hu r1 r2
theorem eqAt_T (I : Inv X pins σ H s) : ∀ {n : Nat} {x : V} {t : Tr}, Holds X.K H n x t → ∀ {m : Nat} {y : V} {u : Tr} {v w' : Value} {A : Around}, Holds X.K H m y u → RelV x v → RelV y w' → A.units + n + 1 < cLine → SeqAt.EqAt A s v w' (eqT t u) := by
  intro n x t h
  induction h with
  | @flat n x hv =>
    intro m y u v w' A h' rx ry hu
    cases h' with
    | flat hv2 => simp only [eqT]; exact eqAt_V rx ry hv hv2
    | @lst _ a xs ts h =>
      cases ry
      obtain ⟨its, _, p, _⟩ := I.list h
      simp only [eqT]
      cases x with
      | non => cases rx; exact SeqAt.EqAt.none_list p.isList (by walk_at "om")
      | bl b => cases rx; exact SeqAt.EqAt.bool_list b p.isList (by walk_at "om")
      | int i => obtain ⟨t, rfl⟩ := rx; exact SeqAt.EqAt.int_list i t p.isList (by walk_at "om")
      | str x => obtain ⟨t, rfl⟩ := rx; exact SeqAt.EqAt.str_list x t p.isList (by walk_at "om")
      | _ => simp [flatV] at hv
    | @tup _ a xs ts h =>
      cases ry
      obtain ⟨its, _, p, _⟩ := I.tuple h
      simp only [eqT]
      cases x with
      | non => cases rx; exact SeqAt.EqAt.none_tuple p (by walk_at "om")
      | bl b => cases rx; exact SeqAt.EqAt.bool_tuple b p (by walk_at "om")
      | int i => obtain ⟨t, rfl⟩ := rx; exact SeqAt.EqAt.int_tuple i t p (by walk_at "om")
      | str x => obtain ⟨t, rfl⟩ := rx; exact SeqAt.EqAt.str_tuple x t p (by walk_at "om")
      | _ => simp [flatV] at hv
  | @lst n a xs ts h hl he ih =>
    intro m y u v w' A h' rx ry hu
    cases rx
    obtain ⟨its, rv, p, _⟩ := I.list h
    cases h' with
    | @flat _ y hv =>
      simp only [eqT]
      cases y with
      | non => cases ry; exact SeqAt.EqAt.list_none p.isList (by walk_at "om")
      | bl b => cases ry; exact SeqAt.EqAt.list_bool b p.isList (by walk_at "om")
      | int i => obtain ⟨t, rfl⟩ := ry; exact SeqAt.EqAt.list_int i t p.isList (by walk_at "om")
      | str x => obtain ⟨t, rfl⟩ := ry; exact SeqAt.EqAt.list_str x t p.isList (by walk_at "om")
      | _ => simp [flatV] at hv
    | @lst m b ys us h2 hl2 he2 =>
      cases ry
      by_cases hab : a = b
      · subst hab
        rw [Holds.same I (.lst h hl he) (Holds.lst h2 hl2 he2)]
        exact SeqAt.EqAt.same _
      · obtain ⟨its2, rv2, p2, _⟩ := I.list h2
        have a1 := rv.length
        have a2 := rv2.length
        simp only [eqT]
        by_cases hlen : ts.length = us.length
        · rw [eqTs_all hlen]
          have q := SeqAt.RcAt.lists (A := A) p.isList p2.isList (by simp; walk_at "om") (by walk_at "om") (items_eq (A := A.in1) (n := n) (m := m) rv rv2 hl hl2 fun i x t y u v w' h1 h2 h3 h4 r1 r2 => ih i x t h1 h2 (he2 i y u h3 h4) r1 r2 (by show A.units + 1 + n + 1 < cLine; walk_at "om"))
          have e : its.toArray.size = ts.length := by simp; walk_at "om"
          rw [e] at q
          exact .of_refs hab q
        · rw [eqTs_len hlen]
          exact .of_refs hab (SeqAt.RcAt.lists_lengths p.isList p2.isList (by simp; walk_at "om") (by walk_at "om"))
    | @tup m b ys us h2 hl2 he2 =>
      cases ry
      obtain ⟨its2, rv2, p2, _⟩ := I.tuple h2
      simp only [eqT]
      exact SeqAt.EqAt.list_tuple p.isList p2 (by walk_at "om")
  | @tup n a xs ts h hl he ih =>
    intro m y u v w' A h' rx ry hu
    cases rx
    obtain ⟨its, rv, p, _⟩ := I.tuple h
    cases h' with
    | @flat _ y hv =>
      simp only [eqT]
      cases y with
      | non => cases ry; exact SeqAt.EqAt.tuple_none p (by walk_at "om")
      | bl b => cases ry; exact SeqAt.EqAt.tuple_bool b p (by walk_at "om")
      | int i => obtain ⟨t, rfl⟩ := ry; exact SeqAt.EqAt.tuple_int i t p (by walk_at "om")
      | str x => obtain ⟨t, rfl⟩ := ry; exact SeqAt.EqAt.tuple_str x t p (by walk_at "om")
      | _ => simp [flatV] at hv
    | @lst m b ys us h2 hl2 he2 =>
      cases ry
      obtain ⟨its2, rv2, p2, _⟩ := I.list h2
      simp only [eqT]
      exact SeqAt.EqAt.tuple_list p p2.isList (by walk_at "om")
    | @tup m b ys us h2 hl2 he2 =>
      cases ry
      by_cases hab : a = b
      · subst hab
        rw [Holds.same I (.tup h hl he) (Holds.tup h2 hl2 he2)]
        exact SeqAt.EqAt.same _
      · obtain ⟨its2, rv2, p2, _⟩ := I.tuple h2
        have a1 := rv.length
        have a2 := rv2.length
        simp only [eqT]
        have q := SeqAt.RcAt.tuples (A := A) p p2 (by walk_at "om") (items_eq (A := A.in1) (n := n) (m := m) rv rv2 hl hl2 fun i x t y u v w' h1 h2 h3 h4 r1 r2 => ih i x t h1 h2 (he2 i y u h3 h4) r1 r2 (by show A.units + 1 + n + 1 < cLine; walk_at "om"))
        have e : ((List.range (min its.toArray.size its2.toArray.size)).all (fun j => match ts[j]?, us[j]? with | some x, some y => eqT x y | _, _ => true) && its.toArray.size == its2.toArray.size) = eqTs ts us := by
          have s1 : its.toArray.size = ts.length := by simp; walk_at "om"
          have s2 : its2.toArray.size = us.length := by simp; walk_at "om"
          rw [s1, s2]
          by_cases hlen : ts.length = us.length
          · rw [eqTs_all hlen, ← hlen, Nat.min_self]
            simp
          · rw [eqTs_len hlen]
            simp [hlen]
        rw [e] at q
        exact .of_refs hab q
end
section
variable {X : Cx}
/-- a == b of data, a a list or a tuple -/
def rEqT (K : PySem.W.Frag) (neg : Bool) : R2 := fun x y H Q => ∃ a b n m t u, x = .ref a ∧ y = .ref b ∧ n ≤ 50 ∧ m ≤ 50 ∧ Holds K H n x t ∧ Holds K H m y u ∧ (∀ z, u ≠ .tup z) ∧ (∀ z, t ≠ .tup z) ∧ Q (.bl (if neg then !(eqT t u) else eqT t u)) H
theorem op_eqT (hu : X.A.units + 60 < cLine) : OpR X (compareOp .Eq) (rEqT X.K false) := by
  intro pins s σ H x y v u Q I rx ry h
  obtain ⟨a, b, n, m, t, u', rfl, rfl, hn, hm, ht, hu', nt, nt', q⟩ := h
  simp only [Bool.false_eq_true, if_false] at q
  cases rx; cases ry
  cases ht with
  | flat hv => simp [flatV] at hv
  | tup => exact absurd rfl (nt' _)
  | @lst n _ xs ts h1 hl he =>
    cases hu' with
    | flat hv => simp [flatV] at hv
    | tup => exact absurd rfl (nt _)
    | @lst m _ ys us h2 hl2 he2 =>
      obtain ⟨its, rv, p, _⟩ := I.list h1
      obtain ⟨its2, rv2, p2, _⟩ := I.list h2
      have a1 := rv.length
      have a2 := rv2.length
      simp only [eqT] at q
      by_cases hlen : ts.length = us.length
      · rw [eqTs_all hlen] at q
        have e : its.toArray.size = ts.length := by simp; walk_at "om"
        rw [← e] at q
        exact SeqAt.eq_listAt p.isList p2.isList (by simp; walk_at "om") (by walk_at "om") (items_eq (A := X.A.in1) (n := n) (m := m) rv rv2 hl hl2 fun i x t y u v w' h1 h2 h3 h4 r1 r2 => eqAt_T I (he i x t h1 h2) (he2 i y u h3 h4) r1 r2 (by show X.A.units + 1 + n + 1 < cLine; walk_at "om")) ⟨.bl _, H, I, rfl, q⟩
      · rw [eqTs_len hlen] at q
        exact SeqAt.eq_list_lengthsAt p.isList p2.isList (by simp; walk_at "om") (by walk_at "om") ⟨.bl _, H, I, rfl, q⟩
theorem op_neT (hu : X.A.units + 60 < cLine) : OpR X (compareOp .NotEq) (rEqT X.K true) := by
  intro pins s σ H x y v u Q I rx ry h
  obtain ⟨a, b, n, m, t, u', rfl, rfl, hn, hm, ht, hu', nt, nt', q⟩ := h
  simp only [if_true] at q
  cases rx; cases ry
  cases ht with
  | flat hv => simp [flatV] at hv
  | tup => exact absurd rfl (nt' _)
  | @lst n _ xs ts h1 hl he =>
    cases hu' with
    | flat hv => simp [flatV] at hv
    | tup => exact absurd rfl (nt _)
    | @lst m _ ys us h2 hl2 he2 =>
      obtain ⟨its, rv, p, _⟩ := I.list h1
      obtain ⟨its2, rv2, p2, _⟩ := I.list h2
      have a1 := rv.length
      have a2 := rv2.length
      simp only [eqT] at q
      by_cases hlen : ts.length = us.length
      · rw [eqTs_all hlen] at q
        have e : its.toArray.size = ts.length := by simp; walk_at "om"
        rw [← e] at q
        exact SeqAt.RcNeAt.lists p.isList p2.isList (by simp; walk_at "om") (by walk_at "om") (items_eq (A := X.A.in1) (n := n) (m := m) rv rv2 hl hl2 fun i x t y u v w' h1 h2 h3 h4 r1 r2 => eqAt_T I (he i x t h1 h2) (he2 i y u h3 h4) r1 r2 (by show X.A.units + 1 + n + 1 < cLine; walk_at "om")) X.prog X.w X.xe _ ⟨.bl _, H, I, rfl, q⟩
      · rw [eqTs_len hlen] at q
        exact SeqAt.RcNeAt.lists_lengths p.isList p2.isList (by simp; walk_at "om") (by walk_at "om") X.prog X.w X.xe _ ⟨.bl _, H, I, rfl, q⟩
end

/-! ### enumerate(list), enumerate(list, start=1) -/
section
variable {X : Cx} {elts : List Expr} {k0} {tp : Pos}
end
end L2
set_option Elab.async false
set_option linter.all false
set_option maxRecDepth 100000
set_option maxHeartbeats 1000000
namespace L2
open PySem PySem.Spec PyProof.Rows
/-! ### a def with defaults -/
structure FunD (K : PySem.W.Frag) (x qual : Str) (st : Stmt) (f : Addr) (fd : FuncData) (dV : Value) : Prop where
  ex : ∃ (oc : Value) (od : Option Addr) (kV doc pm : Value) (an : Option Addr) (cdv ct : Value) (osl : Array (Option Value)),
    fd = PySem.W.fnOf x qual (defArgs st) (defBody st) (defScope st) dV kV doc pm an cdv ct ∧ K.lookup f = some ⟨oc, od, .func fd, osl⟩ ∧ PySem.W.codeIn K cdv qual = true
  kp : PySem.W.keepIn K (.ref f) = true
section
variable {P : Program} {w : World} {K : PySem.W.Frag} {mg : Str → Option Value} {base : Heap}
theorem FunD.ok {x qual : Str} {st : Stmt} {f : Addr} {fd : FuncData} {dV : Value} {N ps : List Str} {k : Nat} {sp : Sp} (F : FunD K x qual st f fd dV) (S : FnScope N ps (defScope st)) (len : ∀ vs H Q E, sp vs H Q E → vs.length = ps.length)
    (hbody : ∀ (cdv : Value) (A : Around) (outer : List Env) (s : Shared) (H : Hp) (vs : List V) (Q : VK) (E : XK), Room k (A.deeper (envOfC qual (defScope st) s.heap.objs.size f cdv)) → sp vs H Q E →
      ∃ t, PSs (cxOf CX0 P w K mg base N qual (defScope st) f cdv A outer s H E).nox (defBody st) t ∧ t { nx := fun _ H' => Q .non H', rt := Q } (start N vs) H) : FnOk P w K mg base CX0 (k + 1) f fd ps sp := by
  obtain ⟨oc, od, kV, doc, pm, an, cdv, ct, osl, rfl, lk, hcd⟩ := F.ex
  refine fn_of lk hcd S len fun A outer s H vs Q E hr hsp => ?_
  obtain ⟨t, h, q⟩ := hbody cdv A outer s H vs Q E hr hsp
  exact ⟨t, h.nox, q⟩
end
theorem Same.upd {H H' : Hp} (s : Same H H') {p : Addr} {o : HO} (h : H' p = Option.none) : Same H (upd H' p o) := fun b u e => by
  rw [upd_ne (ne_of_none (s b u e) h)]
  exact s b u e
theorem Same.upd0 {H : Hp} {p : Addr} {o : HO} (h : H p = Option.none) : Same H (L2.upd H p o) := (Same.refl H).upd h
theorem Same.updF {H H' : Hp} (s : Same H H') {p : Addr} {o : HO} (h : H p = Option.none) : Same H (L2.upd H' p o) := fun b u e => by
  rw [upd_ne (ne_of_none e h)]
  exact s b u e
/-- a def's promise, the same for more -/
theorem small_len {n : Nat} (h : n ≤ 1000) : n ≤ sizeLine := Nat.le_of_lt (small1000 h)
/-- the rows of a list of rows of ints -/
structure Vol (H : Hp) (v : Addr) (as : List Addr) (rows : List (List Int)) : Prop where
  top : H v = some (.lst (as.map V.ref))
  len : as.length = rows.length
  nd : as.Nodup
  row : ∀ (i : Nat) a r, as[i]? = some a → rows[i]? = some r → H a = some (.lst (r.map V.int))
theorem nodup_set {α : Type} [DecidableEq α] : ∀ {l : List α} {i : Nat} {q : α}, l.Nodup → q ∉ l → (l.set i q).Nodup
  | [], _, _, h, _ => h
  | x :: r, 0, q, h, hq => by
    rw [List.set_cons_zero]
    exact List.nodup_cons.mpr ⟨fun z => hq (List.mem_cons_of_mem _ z), (List.nodup_cons.mp h).2⟩
  | x :: r, i + 1, q, h, hq => by
    rw [List.set_cons_succ]
    refine List.nodup_cons.mpr ⟨fun z => ?_, nodup_set (List.nodup_cons.mp h).2 fun z => hq (List.mem_cons_of_mem _ z)⟩
    rcases List.mem_or_eq_of_mem_set z with z | z
    · exact (List.nodup_cons.mp h).1 z
    · exact hq (by rw [← z]; exact List.mem_cons_self)
theorem Vol.same {H H' : Hp} {v : Addr} {as : List Addr} {rows : List (List Int)} (x : Vol H v as rows) (s : Same H H') : Vol H' v as rows :=
  ⟨s _ _ x.top, x.len, x.nd, fun i a r h1 h2 => s _ _ (x.row i a r h1 h2)⟩
/-- ints as a tree -/
def trI (ns : List Int) : Tr := .lst (ns.map fun i => .flat (.int i))
theorem holds_ints {K : PySem.W.Frag} {H : Hp} {n : Nat} {a : Addr} {ns : List Int} (h : SqL K H a (ns.map V.int)) : Holds K H (n + 1) (.ref a) (trI ns) := by
  refine .lst h (by simp) fun i x t hx ht => ?_
  rw [List.getElem?_map] at hx ht
  cases e : ns[i]? with
  | none => rw [e] at hx; cases hx
  | some z => rw [e] at hx ht; cases hx; cases ht; exact .flat rfl
theorem eqT_ints : ∀ {ns ms : List Int}, eqTs (ns.map fun i => .flat (.int i)) (ms.map fun i => .flat (.int i)) = decide (ns = ms)
  | [], [] => by simp [eqTs]
  | [], _ :: _ => by simp [eqTs]
  | _ :: _, [] => by simp [eqTs]
  | n :: ns, m :: ms => by
    rw [List.map_cons, List.map_cons]
    simp only [eqTs, eqT, eqV]
    rw [eqT_ints]
    by_cases h : n = m <;> by_cases h2 : ns = ms <;> simp [h, h2]
theorem eqT_I (ns ms : List Int) : eqT (trI ns) (trI ms) = decide (ns = ms) := by
  unfold trI
  simp only [eqT]
  exact eqT_ints
/-! ### tests that are known -/
theorem iteB {b : Bool} {A B : Prop} (hb : b = true) (h : A) : if b = true then A else B := by rw [if_pos hb]; exact h
theorem iteBF {b : Bool} {A B : Prop} (hb : b = false) (h : B) : if b = true then A else B := by rw [if_neg (by simp [hb])]; exact h
/-! ### a comprehension's names, by a look -/
def compB (N : List Str) (outer : List (Str × NameKind)) (sc : Scope) (N' : List Str) (cap : List (Option Nat)) : Bool :=
  (sc.kind == .function) && sc.names.all (fun y => sc.names.lookup y.1 == some y.2) && sc.names.all (fun y => y.2 != .free || (outer.lookup y.1 == some .cell || outer.lookup y.1 == some .free)) && cap.length == N'.length &&
    (List.range cap.length).all fun j => match cap[j]? with
      | some (some i) => (match N'[j]?, N[i]? with | some x, some y => x == y && sc.names.lookup x == some .free | _, _ => false)
      | _ => true
theorem compOk_of {X : Cx} {scope : Scope} {N' : List Str} {cap : List (Option Nat)} (h : compB X.N X.env.scope.names scope N' cap = true) : CompOk X scope N' cap := by
  unfold compB at h
  simp only [Bool.and_eq_true] at h
  obtain ⟨⟨⟨⟨h1, h2⟩, h3⟩, h4⟩, h5⟩ := h
  refine ⟨by simpa using h1, fun y hy => ?_, fun y hy e => ?_, by simpa using h4, fun j i e => ?_⟩
  · have := List.all_eq_true.mp h2 y hy
    simpa using this
  · have := List.all_eq_true.mp h3 y hy
    rw [e] at this
    simpa using this
  · have hj : j < cap.length := (List.getElem?_eq_some_iff.mp e).1
    have := List.all_eq_true.mp h5 j (by simpa using hj)
    rw [e] at this
    simp only at this
    split at this
    · rename_i x y ex ey
      simp only [Bool.and_eq_true, beq_iff_eq] at this
      obtain ⟨q1, q2⟩ := this
      subst q1
      exact ⟨x, ex, ey, q2⟩
    · cases this
/-! ### enumerate's forms -/
/-! ### rows of rows -/
theorem Vol.ne {H : Hp} {v : Addr} {as : List Addr} {rows : List (List Int)} (x : Vol H v as rows) {a : Addr} (h : a ∈ as) : a ≠ v := by
  obtain ⟨i, hi, e⟩ := List.getElem_of_mem h
  have h1 : as[i]? = some a := by rw [List.getElem?_eq_getElem hi, e]
  have hr : i < rows.length := by rw [← x.len]; exact hi
  have q := x.row i a rows[i] h1 (List.getElem?_eq_getElem hr)
  intro z
  rw [z, x.top] at q
  have q' : as.map V.ref = rows[i].map V.int := by injection (Option.some.inj q)
  cases as with
  | nil => cases h
  | cons b r =>
    cases e2 : rows[i] with
    | nil => rw [e2] at q'; cases q'
    | cons n m => rw [e2] at q'; simp at q'
/-- the row at i becomes the list at q -/
theorem Vol.set {H : Hp} {v q : Addr} {as : List Addr} {rows : List (List Int)} {i : Nat} {r : List Int} (x : Vol H v as rows) (hq : H q = some (.lst (r.map V.int))) (nq : q ∉ as) (nv : q ≠ v) :
    Vol (upd H v (.lst ((as.map V.ref).set i (.ref q)))) v (as.set i q) (rows.set i r) := by
  refine ⟨by rw [upd_same, List.map_set], by simp [x.len], ?_, fun j a r' h1 h2 => ?_⟩
  · exact nodup_set x.nd nq
  · by_cases hj : j = i
    · subst hj
      have hl : j < as.length := by have := (List.getElem?_eq_some_iff.mp h1).1; simpa using this
      rw [List.getElem?_set_self hl] at h1
      rw [List.getElem?_set_self (by rw [← x.len]; exact hl)] at h2
      cases h1; cases h2
      rw [upd_ne nv]; exact hq
    · rw [List.getElem?_set_ne (Ne.symm hj)] at h1 h2
      rw [upd_ne (x.ne (List.mem_of_getElem? h1))]
      exact x.row j a r' h1 h2
theorem Vol.fresh {H : Hp} {v q : Addr} {as : List Addr} {rows : List (List Int)} (x : Vol H v as rows) (h : H q = none) : q ∉ as ∧ q ≠ v := by
  refine ⟨fun z => ?_, fun z => by rw [z, x.top] at h; cases h⟩
  obtain ⟨i, hi, e⟩ := List.getElem_of_mem z
  have h1 : as[i]? = some q := by rw [List.getElem?_eq_getElem hi, e]
  have hr : i < rows.length := by rw [← x.len]; exact hi
  have q' := x.row i q rows[i] h1 (List.getElem?_eq_getElem hr)
  rw [h] at q'; cases q'
theorem ixN_nat {n i : Nat} (h : i < n) : ixN n (i : Int) = some i := by
  unfold ixN
  rw [if_pos (by omega), if_pos (by omega)]
  simp
end L2
set_option Elab.async false
set_option linter.all false
set_option maxRecDepth 100000
set_option maxHeartbeats 1000000
/-! the same rules with the written part K named: inside a comprehension's block a reading must not speak of the block's own context -/
namespace L2
open PySem PySem.Spec PyProof.Rows
section
variable {X : Cx} {K : PySem.W.Frag}
theorem call_isTK (h : X.K = K) : CallR X (.builtin "isinstance") (fun xs H Q => ∃ x n t b, xs = [x, .ty n] ∧ TyOf K H x t ∧ PySem.W.kitOne K t (.type n) = some b ∧ Q (.bl b) H) := by subst h; exact call_isT
theorem pe_fldK {e : Expr} {f : Str} {pos : Pos} {ta : TE} (h : X.K = K) (he : PE X e ta) (hb : attributeBase e f X.env (eval e X.env) = eval e X.env) : PE X (.Attribute e f pos) (tFld K ta f) := by subst h; exact pe_fld he hb
end
end L2
set_option Elab.async false
set_option linter.all false
set_option maxRecDepth 100000
set_option maxHeartbeats 1000000
/-! the stations of an exception on its way, with its own dict told -/
namespace L2
open PySem
theorem dict_mapF (o : Obj) (f : Array Value → Array Value) : (Obj.mapFields f o).dict = o.dict := by
  obtain ⟨c, d, dt, sl⟩ := o
  cases dt <;> rfl
/-- the exception at e, of the class cls, its dict d, flies through the frames l; fl: the frame that holds it; base stays whatever comes -/
structure Fly (base : Heap) (l : List Env) (e : Addr) (cls : Value) (d : Option Addr) (fl : Value) (h : Heap) : Prop where
  st : base.StaysIn h
  en : base.get? e = none
  fr : h.FunFrames base l
  tr : ∃ oe vs T oT ts, h.get? e = some oe ∧ oe.cls = cls ∧ oe.dict = d ∧ oe.data = .fields vs ∧ vs[1]? = some (.ref T) ∧ base.get? T = none ∧ T ≠ e ∧ h.get? T = some oT ∧ oT.data = .fields ts ∧ ts[3]? = some fl
section
variable {M : Model} {A : Around} {E : Value → Shared → Prop} {s : Shared} {base : Heap} {env : Env} {outer l : List Env} {L e : Addr} {cls fl : Value} {d : Option Addr} {Q : Unit → Shared → Prop}
theorem Fly.there {h : Heap} (x : Fly base l e cls d fl h) : ∃ ob vs, h.get? e = some ob ∧ ob.cls = cls ∧ ob.dict = d ∧ ob.data = .fields vs := by
  obtain ⟨oe, vs, _, _, _, a, b, c, z, _⟩ := x.tr
  exact ⟨oe, vs, a, b, c, z⟩
/-- a new entry of the traceback -/
theorem entry_ok {oe : Obj} {vs : Array Value} {head : Value} {hn : Bool} (hfr : A.frames = some (env :: outer)) (hl : s.heap.FunFrames base (env :: outer)) (hf : env.frame = some L) (he : s.heap.get? e = some oe) (hb : base.StaysIn s.heap)
    (ne : base.get? e = none) (hd : oe.data = .fields vs) (hz : 1 < vs.size) (h : ∀ h', Fly base (env :: outer) e oe.cls oe.dict (rawInt L) h' → s.heap.UpToSlots h' → Q () { s with heap := h' }) :
    wpAny M A (do let a ← frameOf env; let pl ← entryPlaceOf L hn; let b ← EntryCells.newEntry head a .none (rawInt L) .none pl; setField (.ref e) 1 b) Q E s := by
  have nF : e ∉ (env :: outer).filterMap (·.frame) := by
    intro z; obtain ⟨_, o, ho, nf⟩ := hl.mem z
    rw [he] at ho; cases ho; exact nf vs hd
  refine wpAny_bind (wpAny_frameOf_fun hfr hl hf fun h1 q1 => wpAny_bind (wpAny_entryPlaceOf fun pl hpl => ?_))
  unfold EntryCells.newEntry newFields
  refine wpAny_bind (wpAny_newObj_type ?_ (hpl.sizeOk5 _ _ _ _ _))
  generalize eo : ({ cls := .type "traceback", dict := none, data := .fields ([head, .ref L, .none, rawInt L, .none] ++ (if pl.isEmpty then List.replicate 6 Value.none else pl)).toArray } : Obj) = ob
  have e1 : h1.get? e = some oe := (q1.2.1 e nF).trans he
  have b1 : base.StaysIn h1 := fun b o z => (q1.2.1 b fun y => by rw [(hl.mem y).1] at z; cases z).trans (hb b o z)
  have e2 : (h1.push ob).get? e = some oe := Heap.get?_push_of_some ob e1
  have nT : h1.objs.size ≠ e := Nat.ne_of_gt (Heap.lt_size e1)
  have d3 := Obj.data_mapFields hd (·.setIfInBounds 1 (Value.ref h1.objs.size))
  have e3 := Heap.get?_update_self (Obj.mapFields (·.setIfInBounds 1 (Value.ref h1.objs.size))) e2 (Obj.isFreed_of_fields d3)
  have kp : ∀ b o, b ≠ e → h1.get? b = some o → ((h1.push ob).update e (Obj.mapFields (·.setIfInBounds 1 (Value.ref h1.objs.size)))).get? b = some o := by
    intro b o n z
    rw [Heap.get?_update_other _ _ (Ne.symm n)]; exact Heap.get?_push_of_some _ z
  have nR : ∀ b o, s.heap.get? b = some o → (∀ ws, o.data ≠ .fields ws) → b ≠ e := by
    intro b o z nf y
    rw [y, he] at z; cases z; exact nf vs hd
  refine wpAny_setField e2 hd hz (h _ ?_ ?_)
  · have t3 : ((h1.push ob).update e (Obj.mapFields (·.setIfInBounds 1 (Value.ref h1.objs.size)))).get? h1.objs.size = some ob := by
      rw [Heap.get?_update_other _ _ (Ne.symm nT)]; refine Heap.get?_push_size h1 ?_; rw [← eo]; rfl
    refine ⟨fun b o z => kp b o (fun y => by rw [y, ne] at z; cases z) (b1 b o z), ne, hl.of_keeps fun b o z nf => ?_, ?_⟩
    · obtain ⟨sl, y⟩ := q1.2.2 b o z; exact ⟨_, kp b _ (nR b o z nf) y, rfl⟩
    · refine ⟨_, _, h1.objs.size, ob, _, e3, Obj.cls_mapFields _ _, dict_mapF _ _, d3, by simp [hz], b1.fresh, nT, t3, by rw [← eo], ?_⟩
      first | (simp; done) | (rcases hpl with rfl | ⟨_, _, _, _, _, _, _, rfl⟩ <;> simp)
  · intro b o z nf
    obtain ⟨sl, y⟩ := q1.2.2 b o z; exact ⟨sl, kp b _ (nR b o z nf) y⟩
/-- it lands: no frame holds it -/
theorem land (x : Fly base l e cls d fl s.heap) (h : ∀ h', Fly base l e cls d .none h' → s.heap.UpToSlots h' → Q () { s with heap := h' }) : wpAny M A (setFlight (.ref e) none) Q E s := by
  obtain ⟨hb, ne, hl, oe, vs, T, oT, ts, he, rfl, rfl, hd, h1, nT, Te, hT, dT, h3⟩ := x
  have z3 : 3 < ts.size := (Array.getElem?_eq_some_iff.mp h3).1
  have ot : ∀ b, b ≠ T → (s.heap.update T (Obj.mapFields (·.setIfInBounds 3 ((none : Option Addr).elim Value.none fun f => rawInt f)))).get? b = s.heap.get? b := fun b n => Heap.get?_update_other _ _ (Ne.symm n)
  have nR : ∀ b o, s.heap.get? b = some o → (∀ ws, o.data ≠ .fields ws) → b ≠ T := fun b o z nf y => by rw [y, hT] at z; cases z; exact nf ts dT
  unfold setFlight
  refine wpAny_bind (wpAny_field he hd h1 ?_)
  rw [if_pos (by simp : (Value.ref T != Value.none) = true)]
  refine wpAny_setField hT dT z3 (h _ ⟨fun b o z => (ot b fun y => by rw [y, nT] at z; cases z).trans (hb b o z), ne, hl.of_keeps fun b o z nf => ⟨o, (ot b (nR b o z nf)).trans z, rfl⟩, ?_⟩ fun b o z nf => ⟨o.slots, (ot b (nR b o z nf)).trans z⟩)
  exact ⟨oe, vs, T, _, _, (ot e (Ne.symm Te)).trans he, rfl, rfl, hd, h1, nT, Te, Heap.get?_update_self _ hT (Obj.isFreed_of_fields (Obj.data_mapFields dT _)), Obj.data_mapFields dT _, by simp [z3]⟩
/-- a new exception leaves the frame where it was raised -/
theorem leave_new {oe : Obj} {vs : Array Value} (hfr : A.frames = some (env :: outer)) (hf : env.frame = some L) (hl : s.heap.FunFrames base (env :: outer)) (he : s.heap.get? e = some oe) (hb : base.StaysIn s.heap) (ne : base.get? e = none)
    (hd : oe.data = .fields vs) (h1 : vs[1]? = some .none) (h : ∀ h', Fly base outer e oe.cls oe.dict .none h' → s.heap.UpToSlots h' → Q () { s with heap := h' }) : wpAny M A (leaving env (.ref e)) Q E s := by
  unfold leaving noteFrame
  simp only [hf]
  refine wpAny_bind (wpAny_bind (wpAny_field he hd h1 ?_))
  rw [if_neg (by decide)]
  exact entry_ok hfr hl hf he hb ne hd (Array.getElem?_eq_some_iff.mp h1).1 fun h1 f1 u1 => land (s := { s with heap := h1 }) f1 fun h2 f2 u2 => h h2 ⟨f2.st, f2.en, f2.fr.2.2, f2.tr⟩ (u1.trans u2)
end
end L2
set_option Elab.async false
set_option linter.all false
set_option maxRecDepth 100000
set_option maxHeartbeats 1000000
namespace L2
open PySem PySem.Spec PyProof.Rows
local macro_rules | `(tactic| walk_at "om") => `(tactic| first | omega | (unfold Addr at *; omega))
/-! ### exceptions over the layer: the heap at the raise, without the frames, lies in B -/
structure Fl (X : Cx) (pins : List (Addr × Obj)) (B : Heap) : Prop where
  k0 : ∀ b o, X.s₀.heap.get? b = some o → X.H₀ b = none → b ∉ X.fs → b ∉ X.ex → B.get? b = some o
  kt : ∀ b o, X.s₀.heap.get? b = some o → b ∉ X.fs → b ∉ X.ex → ∃ o', B.get? b = some o'
  kp : ∀ p ∈ X.pn ++ pins, B.get? p.1 = some p.2
theorem up_cell {h h' : Heap} {c : Addr} {v : Option Value} (up : h.UpToSlots h') (z : h.IsCell c v) : h'.IsCell c v := by
  obtain ⟨o, ho, hd⟩ := z
  obtain ⟨sl, q⟩ := up c o ho (fun vs e => by rw [hd] at e; cases e)
  exact ⟨_, q, hd⟩
theorem ObjOk.there {P : Program} {w : World} {H : Hp} {h : Heap} {a : Addr} {o : HO} (x : ObjOk P w H h a o) : ∃ ob, h.get? a = some ob := by
  cases o with
  | lst xs => obtain ⟨_, _, _, _, e⟩ := x; exact ⟨_, e⟩
  | tup xs => obtain ⟨_, _, _, ob, e, _⟩ := x; exact ⟨_, e⟩
  | dK kvs => obtain ⟨_, _, _, _, o, _, _, e, _⟩ := x; exact ⟨_, e⟩
  | dT kvs => obtain ⟨_, _, _, _, o, _, _, e, _⟩ := x; exact ⟨_, e⟩
  | set S n => obtain ⟨o, _, _, _, e, _⟩ := x; exact ⟨_, e⟩
  | ins C dx fs => obtain ⟨_, _, _, e, _⟩ := x; exact ⟨_, e⟩
  | own y => obtain ⟨_, e⟩ := x; exact ⟨_, e⟩
  | xd fs => obtain ⟨_, ⟨_, _, _, e, _⟩, _⟩ := x; exact ⟨_, e⟩
  | rng lo hi => obtain ⟨_, _, _, e⟩ := x; exact ⟨_, e⟩
  | frz ob u => obtain ⟨e, _⟩ := x; exact ⟨_, e⟩
  | tbl ps => exact ⟨_, (show h.get? a = some _ from x)⟩
  | met f y => exact ⟨_, (show h.get? a = some _ from x)⟩
  | ext φ => obtain ⟨_, ⟨_, e⟩, _⟩ := x; exact ⟨_, e⟩
section
variable {X : Cx} {pins : List (Addr × Obj)} {σ : St} {H : Hp} {s : Shared}
theorem Inv.flown {h' B : Heap} (I : Inv X pins σ H s) (hB : B.StaysIn h') (up : s.heap.UpToSlots h') (hok : HOk X.prog X.w H B) (F : Fl X pins B) : Inv X pins σ H { s with heap := h' } := by
  have sl : ∀ b o, X.s₀.heap.get? b = some o → X.H₀ b = none → b ∈ X.fs → b ∉ X.ex → ∃ sl, h'.get? b = some { o with slots := sl } := by
    intro b o e n hb hx
    obtain ⟨sl, e1⟩ := I.base.slot b o e n hb hx
    obtain ⟨_, o', ho', nf⟩ := I.ok.funs.mem hb
    rw [e] at ho'; cases ho'
    obtain ⟨sl', e2⟩ := up b _ e1 nf
    exact ⟨sl', e2⟩
  refine ⟨I.ok, I.os, I.bare, ⟨fun b o e n hb hx => hB b o (F.k0 b o e n hb hx), sl, I.base.free, fun b o e hx => ?_, I.base.tups, I.base.frzs, I.base.tbls⟩, ?_, fun x c e => ?_, I.free, I.freeC, fun p hp => ?_, hok.kept hB, I.len⟩
  · by_cases hb : b ∈ X.fs
    · obtain ⟨sl', q⟩ := sl b o e (I.ok.frf b hb) hb hx
      exact ⟨_, q⟩
    · obtain ⟨o', q⟩ := F.kt b o e hb hx
      exact ⟨o', hB b o' q⟩
  · obtain ⟨m, hn, hl⟩ := I.loc
    refine ⟨m, up.ns hn, fun i x v e1 e2 e3 => ?_⟩
    obtain ⟨u, r, l⟩ := hl i x v e1 e2 e3
    refine ⟨u, r, ?_⟩
    rcases l with l | ⟨k, c, e, z⟩
    · exact .inl l
    · exact .inr ⟨k, c, e, up_cell up z⟩
  · obtain ⟨v, z⟩ := I.cell x c e
    exact ⟨v, up_cell up z⟩
  · obtain ⟨_, n, ne, nf, d⟩ := I.pin p hp
    exact ⟨hB _ _ (F.kp p hp), n, ne, nf, d⟩
/-- an old object is no running frame of ours -/
theorem Inv.oldStk (I : Inv X pins σ H s) {b : Addr} {o : Obj} (e : X.s₀.heap.get? b = some o) (hb : b ∉ X.fs) : b ∉ frs X.stack := fun z => by
  rcases List.mem_cons.mp (I.stkSub b z) with q | q
  · have h1 := Heap.lt_size e
    have h2 := I.ok.above
    rw [q] at h1
    exact absurd (Nat.lt_of_lt_of_le h1 h2) (Nat.lt_irrefl _)
  · exact hb q
/-- the heap without the frames -/
def noFr (h : Heap) (l : List Env) : Heap := PySem.W.hideAll h (frs l)
theorem noFr_get {h : Heap} {l : List Env} {b : Addr} {o : Obj} (e : h.get? b = some o) (n : b ∉ frs l) : (noFr h l).get? b = some o := PySem.W.hideAll_get _ e n
theorem of_noFr {h : Heap} {l : List Env} : (noFr h l).StaysIn h := fun _ _ e => PySem.W.of_hideAll (frs l) e
theorem noFr_none {h : Heap} {l : List Env} : ∀ b ∈ frs l, (noFr h l).get? b = none := fun _ hb => PySem.W.hideAll_none (frs l) hb
theorem funs_base {h base B : Heap} : ∀ {l : List Env}, (∀ b ∈ frs l, B.get? b = none) → h.FunFrames base l → h.FunFrames B l
  | [], _, _ => trivial
  | env :: r, hB, ⟨hk, ⟨L, o, hf, _, ho, hd⟩, hr⟩ => by
    have e : frs (env :: r) = L :: frs r := by unfold frs; rw [List.filterMap_cons, hf]
    rw [e] at hB
    exact ⟨hk, ⟨L, o, hf, hB L List.mem_cons_self, ho, hd⟩, funs_base (fun b hb => hB b (List.mem_cons_of_mem _ hb)) hr⟩
theorem Inv.hokB (I : Inv X pins σ H s) : HOk X.prog X.w H (noFr s.heap X.stack) := fun a o e => by
  have nt : ∀ b u, H b = some u → b ∉ frs X.stack := fun b u q z => by rw [I.stkFree b z] at q; cases q
  refine (I.hok a o e).stay (fun b u hb q => noFr_get q ?_) (fun _ q => q) fun _ _ q => q
  rcases hb with rfl | hb
  · exact nt _ _ e
  · exact nt _ _ hb
theorem Inv.flB (I : Inv X pins σ H s) : Fl X pins (noFr s.heap X.stack) where
  k0 := fun b o e n hb hx => noFr_get (I.base.keep b o e n hb hx) (I.oldStk e hb)
  kt := fun b o e hb hx => let ⟨o', q⟩ := I.base.there b o e hx; ⟨o', noFr_get q (I.oldStk e hb)⟩
  kp := fun p hp => by
    obtain ⟨e, n, ne, nf, d⟩ := I.pin p hp
    refine noFr_get e fun z => ?_
    rcases List.mem_cons.mp (I.stkSub _ z) with q | q
    · exact ne q
    · exact nf q
/-- an exception of the class cls has come up from a callee -/
def XS (X : Cx) (pins : List (Addr × Obj)) (σ : St) (E : XK) (e : Value) (s' : Shared) : Prop :=
  ∃ (ea : Addr) (cls : Value) (d : Option Addr) (H' : Hp) (B : Heap), e = .ref ea ∧ Inv X pins σ H' s' ∧ Fly B X.stack ea cls d .none s'.heap ∧ HOk X.prog X.w H' B ∧ Fl X pins B ∧ E cls d H'
/-- how an exception lies behind a call -/
def CX1 (P : Program) (w : World) : CXT := fun outer H s E e s' =>
  ∃ (ea : Addr) (cls : Value) (d : Option Addr) (H' : Hp) (B : Heap), e = .ref ea ∧ s'.os = s.os ∧ AllBare s'.gens ∧ Fly B outer ea cls d .none s'.heap ∧ HOk P w H' B ∧ Un (frs outer) [] H H' s.heap s'.heap ∧
    (∀ b o, s.heap.get? b = some o → H b = none → b ∉ frs outer → B.get? b = some o) ∧ (∀ b o, s.heap.get? b = some o → b ∉ frs outer → ∃ o', B.get? b = some o') ∧ E cls d H'
theorem xs_of {E : XK} {e : Value} {s' : Shared} (I : Inv X pins σ H s) (h : CX1 X.prog X.w X.stack H s E e s') : XS X pins σ E e s' := by
  obtain ⟨ea, cls, d, H', B, rfl, os, bare, fl, hok, un, k0, kt, q⟩ := h
  refine ⟨ea, cls, d, H', B, rfl, I.call' (ch := []) os un (hok.kept fl.st) bare (fun b z => absurd z (by simp)), fl, hok, ⟨fun b o e n hb hx => ?_, fun b o e hb hx => ?_, fun p hp => ?_⟩, q⟩
  · exact k0 b o (I.base.keep b o e n hb hx) (I.base.free b o e n hx) (I.oldStk e hb)
  · obtain ⟨o', e'⟩ := I.base.there b o e hx
    exact kt b o' e' (I.oldStk e hb)
  · obtain ⟨e, n, ne, nf, _⟩ := I.pin p hp
    refine k0 _ _ e n fun z => ?_
    rcases List.mem_cons.mp (I.stkSub _ z) with q | q
    · exact ne q
    · exact nf q
/-- what this body wants of an exception that comes up; of one that is made here (its object as new, its dict d) -/
def Takes (X : Cx) (E : St → XK) : Prop := ∀ (pins : List (Addr × Obj)) (σ : St) (e : Value) (s' : Shared), XS X pins σ (E σ) e s' → X.xe e s'
def TakesN (X : Cx) (E : St → XK) : Prop := ∀ (pins : List (Addr × Obj)) (σ : St) (H : Hp) (s : Shared) (ea : Addr) (oe : Obj) (vs : Array Value), Inv X pins σ H s → H ea = none →
  (∀ b o, X.s₀.heap.get? b = some o → b ∉ X.ex → b ≠ ea) → (∀ p ∈ X.pn ++ pins, p.1 ≠ ea) → s.heap.get? ea = some oe → oe.data = .fields vs → vs[1]? = some .none → E σ oe.cls oe.dict H → X.xe (.ref ea) s
end
theorem takesN_cx {P : Program} {w : World} {K : PySem.W.Frag} {mg : Str → Option Value} {base : Heap} {N : List Str} {qual : Str} {scope : Scope} {f : Addr} {cd : Value} {A : Around} {outer : List Env} {s : Shared} {H : Hp} {E : XK} :
    TakesN (cxOf (CX1 P w) P w K mg base N qual scope f cd A outer s H E) (fun _ => E) := by
  intro pins σ H1 s1 ea oe vs I hn hold hpin he hd h1 q
  -- the exception itself must not lie in B
  let l := envOfC qual scope s.heap.objs.size f cd :: outer
  let B : Heap := PySem.W.hideAll (noFr s1.heap l) [ea]
  have bst : B.StaysIn s1.heap := fun b o e => of_noFr b o (PySem.W.of_hideAll [ea] e)
  have bget : ∀ b o, (noFr s1.heap l).get? b = some o → b ≠ ea → B.get? b = some o := fun b o e n => PySem.W.hideAll_get _ e (by simpa using n)
  have bne : B.get? ea = none := PySem.W.hideAll_none [ea] (by simp)
  have hokB : HOk P w H1 B := fun a o e => by
    have nt : ∀ b u, H1 b = some u → b ≠ ea := fun b u q z => by rw [z, hn] at q; cases q
    refine (I.hokB a o e).stay (fun b u hb q => bget b u q ?_) (fun _ q => q) fun _ _ q => q
    rcases hb with rfl | hb
    · exact nt _ _ e
    · exact nt _ _ hb
  have F : Fl (cxOf (CX1 P w) P w K mg base N qual scope f cd A outer s H E) pins B := by
    refine ⟨fun b o e n hb hx => bget b o (I.flB.k0 b o e n hb hx) (hold b o e hx), fun b o e hb hx => ?_, fun p hp => bget _ _ (I.flB.kp p hp) (hpin p hp)⟩
    obtain ⟨o', q'⟩ := I.flB.kt b o e hb hx
    exact ⟨o', bget b o' q' (hold b o e hx)⟩
  have hl : s1.heap.FunFrames B l := funs_base (fun b hb => by
    cases z : B.get? b with
    | none => rfl
    | some o =>
      have := noFr_none (h := s1.heap) b hb
      rw [PySem.W.of_hideAll [ea] z] at this
      cases this) I.stack
  refine leave_new (base := B) I.ok.frames rfl hl he bst bne hd h1 fun h' fl up => ?_
  have J := I.flown fl.st up hokB F
  exact ⟨ea, oe.cls, oe.dict, H1, B, rfl, I.os, I.bare, fl, hokB, J.base, fun b o e n hb => F.k0 b o e n hb (by intro z; cases z), fun b o e hb => F.kt b o e hb (by intro z; cases z), q⟩
/-! ### calls that may raise -/
def tMakeX (C : Addr) (sp : Sp) (dvs : List V) (E : St → XK) (t : TA) : TE := fun σ H Q => t σ H fun vs H1 => ∀ x dx, H1 x = none → H1 dx = none → dx ≠ x →
  sp (.ref x :: (vs ++ dvs)) (upd (upd H1 dx (.own x)) x (.ins C dx [])) (fun v H2 => v = .non ∧ Q (.ref x) H2) (E σ)
section
variable {X : Cx} {k : Nat} {f C : Addr} {fd : FuncData} {ps : List Str} {sp : Sp} {dvs : List V} {ds : List Value} {E : St → XK} {x m : Str} {p pos apos : Pos} {e o : Expr} {es : List Expr} {ta : TE} {t : TA}
theorem run_makeX {pins : List (Addr × Obj)} {σ : St} {H : Hp} {s : Shared} {Q : VK} {us : List Value} {vs : List V} (M : Mk X.K C f) (F : FnOk X.prog X.w X.K X.mg X.base (CX1 X.prog X.w) k f fd ps sp) (hr : Room (k + 1) X.A) (hb : Binds X.K fd ps ds) (hd : Vals dvs ds)
    (hx : Takes X E) (I : Inv X pins σ H s) (r : Vals vs us)
    (h : ∀ x dx, H x = none → H dx = none → dx ≠ x → sp (.ref x :: (vs ++ dvs)) (upd (upd H dx (.own x)) x (.ins C dx [])) (fun v H2 => v = .non ∧ Q (.ref x) H2) (E σ)) :
    wpAny (model X.prog X.w) X.A (call (.ref C) us) (EP X pins σ Q) X.xe s := by
  have hq := h (s.heap.objs.size + 1) s.heap.objs.size (I.hok.fresh (Nat.le_succ _)) (I.hok.fresh (Nat.le_refl _)) (Nat.ne_of_lt (Nat.lt_succ_self _))
  have I2 := Inv.made (C := C) I
  have r2 : Vals (V.ref (s.heap.objs.size + 1) :: (vs ++ dvs)) (Value.ref (s.heap.objs.size + 1) :: (us ++ ds)) := .cons rfl (r.append hd)
  have hl : (Value.ref (s.heap.objs.size + 1) :: us ++ ds).length = ps.length := by
    have e := r2.length
    rw [F.len _ _ _ _ hq] at e
    exact e.symm
  refine wpAny_call (make_map (f := f) I.kIn M.makes M.init (beq_iff_eq.mp M.fn) (codeAny_mono (F.run _ X.stack _ _ ⟨Value.ref (s.heap.objs.size + 1) :: us, []⟩ (Value.ref (s.heap.objs.size + 1) :: (us ++ ds)) _ _ (E σ) (hr.make C us [])
    (I2.env0.make C us []) (hb _ (Value.ref (s.heap.objs.size + 1) :: us) I2.kIn hl) r2 hq) fun r s' hq' => ?_))
  cases r with
  | error e => exact hx pins σ e s' (xs_of I2 hq')
  | ok fl =>
    cases fl with
    | ret u =>
      obtain ⟨v, H', I3, rv, ev, q3⟩ := I2.after hq'
      subst ev
      exact ⟨rv, ⟨V.ref (s.heap.objs.size + 1), H', I3, rfl, q3⟩⟩
    | next => exact False.elim hq'
    | brk => exact False.elim hq'
    | cont => exact False.elim hq'
theorem pe_makeX (M : Mk X.K C f) (F : FnOk X.prog X.w X.K X.mg X.base (CX1 X.prog X.w) k f fd ps sp) (hr : Room (k + 1) X.A) (hg : Gl X x) (hm : X.mg x = some (.ref C)) (hb : Binds X.K fd ps ds) (hd : Vals dvs ds) (hx : Takes X E)
    (ha : PA X (e :: es) t) (hdb : (x == ("__debug__" : Str)) = false := by decide) (he : starEach (e :: es) X.env = (false, eval e X.env) :: starEach es X.env := by rfl) (hpl : (backTo pos (starEach es X.env)).any (·.1) = false := by rfl) :
    PE X (.Call (.Name x p) (e :: es) [] pos) (tMakeX C sp dvs E t) := by
  intro pins s σ H Q I h
  refine wpAny_Call_Name_kw (ld_glob I hg hm ?_ hdb)
  refine PySem.W.callWith_K (h₀ := X.base) I.ok.mod.kin M.kp (thn (ha pos pins s σ H _ I h) fun us s1 ⟨vs, H1, I1, r, q⟩ => ⟨I1.kIn, ?_⟩) he hpl
  exact run_makeX M F hr hb hd hx I1 r q
end
/-- a def that lets none by is one that may let some by -/
theorem FnOk.any {P : Program} {w : World} {K : PySem.W.Frag} {mg : Str → Option Value} {base : Heap} {CX : CXT} {k : Nat} {f : Addr} {fd : FuncData} {ps : List Str} {sp : Sp} (F : FnOk P w K mg base CX0 k f fd ps sp) : FnOk P w K mg base CX k f fd ps sp :=
  ⟨F.len, fun A outer s H args us vs Q E hr e0 hb r h => codeAny_mono (F.run A outer s H args us vs Q E hr e0 hb r h) fun r s' q => by
    cases r with
    | error e => exact False.elim q
    | ok fl => cases fl <;> exact q⟩
/-- THE RULE for a def that may raise -/
theorem Fun.okX {P : Program} {w : World} {K : PySem.W.Frag} {mg : Str → Option Value} {base : Heap} {x qual : Str} {st : Stmt} {f : Addr} {fd : FuncData} {N ps : List Str} {k : Nat} {sp : Sp} (F : Fun K x qual st f fd) (S : FnScope N ps (defScope st)) (len : ∀ vs H Q E, sp vs H Q E → vs.length = ps.length)
    (hbody : ∀ (cdv : Value) (A : Around) (outer : List Env) (s : Shared) (H : Hp) (vs : List V) (Q : VK) (E : XK), Room k (A.deeper (envOfC qual (defScope st) s.heap.objs.size f cdv)) → sp vs H Q E →
      ∃ t, PSs (cxOf (CX1 P w) P w K mg base N qual (defScope st) f cdv A outer s H E) (defBody st) t ∧ t { nx := fun _ H' => Q .non H', rt := Q } (start N vs) H) : FnOk P w K mg base (CX1 P w) (k + 1) f fd ps sp := by
  obtain ⟨oc, od, kV, doc, pm, an, cdv, ct, osl, rfl, lk, hcd⟩ := F.ex
  exact fn_of lk hcd S len fun A outer s H vs Q E hr hsp => hbody cdv A outer s H vs Q E hr hsp
end L2
set_option Elab.async false
set_option linter.all false
set_option maxRecDepth 100000
set_option maxHeartbeats 1000000
namespace L2
open PySem PySem.Spec PyProof.Rows
/-! ### raise C(..), C an own class under ValueError without an __init__ -/
abbrev bmV : List Value := [.type "ValueError", .type "Exception", .type "BaseException", .type "object"]
/-- the class's object, out of the look -/
theorem exc_obj {K : PySem.W.Frag} {h : Heap} {C : Addr} {bmB : List Value} {newId : String} (X : K.In h) (q : PySem.W.excIn K C bmB newId = true) :
    ∃ bm N nm q bs hdct sn sub ab col dd k0 k1 k2 k3 k5 mN, h.get? C = some (excClassObj nm q C N bs bm hdct sn sub ab col dd k0 k1 k2 k3 k5 newId) ∧ h.Ns N mN ∧ mN "__init__" = none ∧ OwnTail h bmB bm := by
  unfold PySem.W.excIn at q; split at q
  · rename_i dd cd sl ho; split at q
    · rename_i C' bm k0 k1 k2 k3 n k5 hm hs
      simp only [Bool.and_eq_true, Bool.not_eq_true', beq_iff_eq] at q
      obtain ⟨⟨⟨⟨⟨e1, e2⟩, e3⟩, ht⟩, hk⟩, hi⟩ := q
      subst e1 e2
      obtain ⟨nm, bs, mro, ns, qn, hd, sn, sub, ab, col, del⟩ := cd
      dsimp only at hm e3 hk hi; subst hm e3
      have es : sl = #[k0, k1, k2, k3, some (.builtin n), k5] := by obtain ⟨l⟩ := sl; simp only at hs; rw [hs]
      subst es
      exact ⟨bm, ns, nm, qn, bs, hd, sn, sub, ab, col, dd, k0, k1, k2, k3, k5, _, X _ _ ho, .of_isNs (PySem.W.isNs_of_in X hk), PySem.W.nsMap_none_of_in X hk hi, PySem.W.tail_of_in X ht⟩
    · cases q
  · cases q
def tRaise (C : Addr) (E : St → XK) (t : TA) : TS := fun _ σ H => t σ H fun vs H1 => vs.length ≤ sizeLine ∧ E σ (.ref C) none H1
section
variable {X : Cx} {C : Addr} {x : Str} {np cpos pos : Pos} {e : Expr} {es : List Expr} {t : TA} {E : St → XK}
/-- a new exception is laid -/
theorem made_takes {pins : List (Addr × Obj)} {σ : St} {H : Hp} {s : Shared} {h' : Heap} {ea : Addr} {cls : Value} {args : List Value} (hT : TakesN X E) (I : Inv X pins σ H s) (hm : Heap.MadeExcOf s.heap h' ea cls args) (q : E σ cls none H) :
    X.xe (.ref ea) { s with heap := h' } := by
  obtain ⟨t, he, _, _⟩ := hm.there
  have new : ∀ b o, s.heap.get? b = some o → b ≠ ea := fun b o z y => by rw [y, hm.new] at z; cases z
  refine hT pins σ H { s with heap := h' } ea _ _ (I.kept hm.keeps) ?_ (fun b o z => ?_) (fun p hp => new _ _ (I.pin p hp).1) he rfl rfl q
  · cases z : H ea with
    | none => rfl
    | some o =>
      obtain ⟨ob, y⟩ := (I.hok ea o z).there
      exact absurd rfl (new ea ob y)
  · intro hx y
    subst y
    obtain ⟨o', y⟩ := I.base.there b o z hx
    exact new b o' y rfl
theorem ps_raise (hc : X.calm = true) (ex : PySem.W.excIn X.K C bmV "ValueError.__new__" = true) (hg : Gl X x) (hm : X.mg x = some (.ref C)) (hT : TakesN X E) (ha : PA X (e :: es) t)
    (hdb : (x == ("__debug__" : Str)) = false := by decide) (he : starEach (e :: es) X.env = (false, eval e X.env) :: starEach es X.env := by rfl) (hpl : (backTo cpos (starEach es X.env)).any (·.1) = false := by rfl) :
    PS X (.Raise (some (.Call (.Name x np) (e :: es) [] cpos)) none pos) (tRaise C E t) := by
  intro pins s σ H D I h
  obtain ⟨tl, N, nm, q, bs, hdct, sn, sub, ab, col, dd, k0, k1, k2, k3, k5, mN, hC, hN, hni, T⟩ := exc_obj I.ok.mod.kin ex
  refine wpAny_Raise_call_subT (nm := nm) (q := q) (k5 := k5) (k0 := k0) (k1 := k1) (k2 := k2) (k3 := k3) (dd := dd) (col := col) (ab := ab) (sub := sub) (sn := sn) (hdct := hdct) (bs := bs) (C := C) (N := N) (bm := tl) F.excBase_ValueError (mN := mN) (T.hasType F.excBase_ValueError.hasBase) (I.ok.hd hc) ?_ hni (ld_glob I hg hm ⟨rfl, ?_⟩ hdb)
  · rw [he]; show (false || _) = false; rw [Bool.false_or]; exact hpl
  · have z := ha cpos pins s σ H _ I h
    rw [he] at z ⊢
    exact Calls.evalArgs_plain (thn z fun us s2 ⟨vs, H2, I2, r, zl, q2⟩ => ⟨rfl, by rw [← r.length]; exact zl, I2.bk _ _ hC, hN.keeps I2.bk, T.keeps I2.bk, fun h' ea hme => made_takes hT I2 hme q2⟩)
end

/-! ### try: .. except C as n: .. -/
/-- the exception at ea, caught: of the class C, its dict d -/
def excO (ea C : Addr) (d : Option Addr) : HO := .ext fun h => ∃ o vs, h.get? ea = some o ∧ o.cls = .ref C ∧ o.dict = d ∧ o.data = .fields vs
/-- the suite's context: the exception at ea is handled; none leaves -/
abbrev Cx.suite (X : Cx) (ea : Addr) : Cx := { X with A := X.A.mark (some (.ref ea)), calm := false, xe := fun _ _ => False }
section
variable {X : Cx} {pins : List (Addr × Obj)} {σ : St} {H : Hp} {s : Shared}
theorem Inv.suite (I : Inv X pins σ H s) (ea : Addr) : Inv (X.suite ea) pins σ H s :=
  ⟨⟨I.ok.mod, I.ok.kind, I.ok.glob, I.ok.blt, I.ok.above, I.ok.inj, I.ok.has, I.ok.cab, (fun z => (by cases z)), I.ok.frames, I.ok.stk, I.ok.exf, I.ok.bs, I.ok.bsz, I.ok.noex, I.ok.exfs, I.ok.funs, I.ok.frf⟩, I.os, I.bare, I.base, I.loc, I.cell, I.free, I.freeC, I.pin, I.hok, I.len⟩
/-- the caught exception is tracked from here on -/
theorem Inv.caught {B : Heap} {l : List Env} {ea C : Addr} {d : Option Addr} {fl : Value} (I : Inv X pins σ H s) (f : Fly B l ea (.ref C) d fl s.heap) (hok : HOk X.prog X.w H B) (F : Fl X pins B) (hn : H ea = none) : Inv X pins σ (upd H ea (excO ea C d)) s := by
  obtain ⟨ob, vs, ho, hc, hdd, hd⟩ := f.there
  have keep : ∀ b u, H b = some u → upd H ea (excO ea C d) b = some u := fun b u e => by rw [upd_ne (ne_of_none e hn)]; exact e
  have data : ∀ b o, s.heap.get? b = some o → (∀ ws, o.data ≠ .fields ws) → b ≠ ea := fun b o e nf z => by rw [z, ho] at e; cases e; exact nf vs hd
  have new : ∀ b o, X.s₀.heap.get? b = some o → b ∉ X.ex → b ≠ ea := fun b o e hx z => by
    by_cases hb : b ∈ X.fs
    · obtain ⟨sl, q⟩ := I.base.slot b o e (I.ok.frf b hb) hb hx
      obtain ⟨_, o', e', nf⟩ := I.ok.funs.mem hb
      rw [e] at e'; cases e'
      exact data b _ q nf z
    · obtain ⟨o', q⟩ := F.kt b o e hb hx
      rw [z, f.en] at q; cases q
  refine ⟨I.ok, I.os, I.bare, ⟨I.base.keep, I.base.slot, fun b o e n hx => ?_, I.base.there, fun b xs e => keep _ _ (I.base.tups b xs e), fun b o u e => keep _ _ (I.base.frzs b o u e), fun b ps e => ?_⟩, I.loc, I.cell, ?_, fun x c e => ?_, fun p hp => ?_, fun b u e => ?_, I.len⟩
  · rw [upd_ne (new b o e hx)]; exact I.base.free b o e n hx
  · obtain ⟨m, q⟩ := I.base.tbls b ps e
    exact ⟨m, keep _ _ q⟩
  · obtain ⟨m, ⟨o, es, ep, e, dd, _⟩, _⟩ := I.loc
    rw [upd_ne (data _ o e fun ws z => by rw [dd] at z; cases z)]; exact I.free
  · obtain ⟨v, o, e', dd⟩ := I.cell x c e
    rw [upd_ne (data _ o e' fun ws z => by rw [dd] at z; cases z)]; exact I.freeC x c e
  · obtain ⟨e, n, ne, nf, z⟩ := I.pin p hp
    refine ⟨e, ?_, ne, nf, z⟩
    rw [upd_ne (fun y => by have := F.kp p hp; rw [y, f.en] at this; cases this)]; exact n
  · by_cases hb : b = ea
    · subst hb
      rw [upd_same] at e; cases e
      exact ⟨⟨ob, vs, ho, hc, hdd, hd⟩, ⟨ob, ho⟩, fun h1 h2 ⟨o, ws, a1, a2⟩ k => ⟨o, ws, k _ a1, a2⟩⟩
    · rw [upd_ne hb] at e
      exact (I.hok b u e).stay (fun _ _ _ q => q) (fun c q => keep _ _ q) fun c xs q => keep _ _ q
end
section
variable {X : Cx} {C : Addr} {x n : Str} {i : Nat} {np hp pos : Pos} {body suite orelse : List Stmt} {b₀ : Stmt} {tb : (St → XK) → TS} {th to : TS}
end
end L2
set_option Elab.async false
set_option linter.all false
set_option maxRecDepth 100000
set_option maxHeartbeats 1000000
/-! isinstance of a caught exception -/
namespace L2
open PySem PySem.Spec PyProof.Rows PySem.W
/-- what of the text an own class of exceptions must have -/
structure ExT (K : Frag) (C : Addr) : Prop where
  ga : findIn K (.ref C) "__getattribute__" = some (some (.builtin "BaseException.__getattribute__"))
  gt : findIn K (.ref C) "__getattr__" = some none
  cl : (clsIn K C).isSome = true
  ha : findIn K (.ref C) "__class__" = some (some (.builtin "object.__class__"))
  hn : specialIn K (.builtin "object.__class__") "__get__" = some (some (.builtin "getset_descriptor.__get__"))
  tk : takesIn K (.builtin "object.__class__") = some true
  mO : mroIn K C (.type "object") = some true
  mB : mroIn K C (.type "BaseException") = some true
section
variable {prog : Program} {w : World} {A : Around} {E : Value → Shared → Prop} {s : Shared} {K : Frag} {x C : Addr} {ox : Obj} {od : Option Obj} {name : Str}
end
/-- the dict of a caught exception: none, or one that is tracked -/
def DictOf (H : Hp) (d : Option Addr) : Prop := d = none ∨ ∃ dx fs, d = some dx ∧ H dx = some (.xd fs)
section
variable {X : Cx} {K : Frag}
end
/-- no exception comes: none is wanted -/
theorem takes0 {X : Cx} : Takes X (fun _ => E0) := fun _ _ _ _ ⟨_, _, _, _, _, _, _, _, _, _, q⟩ => q.elim
end L2
set_option Elab.async false
set_option linter.all false
set_option maxRecDepth 100000
set_option maxHeartbeats 1000000
/-! == and != of tuples -/
namespace L2
open PySem PySem.Spec PyProof.Rows
local macro_rules | `(tactic| walk_at "om") => `(tactic| first | omega | (unfold Addr at *; omega))
section
variable {X : Cx}
end
/-- a tuple of flat values, a list of flat values -/
theorem holds_flats {K : PySem.W.Frag} {H : Hp} {n : Nat} {a : Addr} {xs : List V} (h : SqT K H a xs) (hf : xs.all flatV = true) : Holds K H (n + 1) (.ref a) (.tup (xs.map .flat)) := by
  refine .tup h (by simp) fun i x t hx ht => ?_
  rw [List.getElem?_map, hx] at ht
  cases ht
  exact .flat (List.all_eq_true.mp hf x (List.mem_of_getElem? hx))
theorem holds_flatsL {K : PySem.W.Frag} {H : Hp} {n : Nat} {a : Addr} {xs : List V} (h : SqL K H a xs) (hf : xs.all flatV = true) : Holds K H (n + 1) (.ref a) (.lst (xs.map .flat)) := by
  refine .lst h (by simp) fun i x t hx ht => ?_
  rw [List.getElem?_map, hx] at ht
  cases ht
  exact .flat (List.all_eq_true.mp hf x (List.mem_of_getElem? hx))
/-! ### and, or, chains of ints whose parts change nothing: one way behind them -/
section
variable {X : Cx} {a b c : Expr} {ta tb tc : TE} {pos : Pos} {rest : List Expr}
end
end L2
set_option Elab.async false
set_option linter.all false
set_option maxRecDepth 100000
set_option maxHeartbeats 1000000
/-! an own exception with an __init__ of its own: made, given a text, given a field -/
namespace L2
open PySem PySem.Spec PyProof.Rows PySem.W PySem.Builtin PySem.Builtin.ObjectAttr
/-- own classes, then ValueError's own row -/
def exMro : List Value → Bool
  | .ref _ :: r => exMro r
  | l => l == [.type "ValueError", .type "Exception", .type "BaseException", .type "object"]
/-- what of the text the class of such an exception must have, to be given a field -/
structure ExS (K : Frag) (C : Addr) : Prop where
  cls : ∃ cd, clsIn K C = some cd ∧ exMro cd.mro = true ∧ cd.hasDict = true
  sa : findIn K (.ref C) "__setattr__" = some (some (.builtin "object.__setattr__"))
section
variable {prog : Program} {w : World} {A : Around} {E : Value → Shared → Prop} {s : Shared} {K : Frag} {x C : Addr} {ox : Obj} {od : Option Obj} {name : Str} {v : Value}
end
section
variable {prog : Program} {w : World} {A : Around} {E : Value → Shared → Prop} {h : Heap} {g : Array GenState} {d : Drawn} {t : Nat} {os : OsState} {nm q : Str} {C N : Addr} {bs bm bmB : List Value} {hdct : Bool} {sn : List Str} {sub : List Value} {ab : Bool} {col : Option Bool} {dd : Option Addr} {k0 k1 k2 k3 k5 : Option Value} {B newId initId : String}
end
end L2
set_option Elab.async false
set_option linter.all false
set_option maxRecDepth 100000
set_option maxHeartbeats 1000000
/-! exceptions with an __init__ and a field, over the layer -/
namespace L2
open PySem PySem.Spec PyProof.Rows PySem.W
local macro_rules | `(tactic| walk_at "om") => `(tactic| first | omega | (unfold Addr at *; omega))
theorem ns_of_in {K : Frag} {h : Heap} {N : Addr} {m : Str → Option Value} {n : Str} {v : Value} (X : K.In h) (G : h.Ns N m) (e : nsIn K N n = some (some v)) : m n = some v := by
  obtain ⟨o, es, ep, ho, hd, _, hf⟩ := G
  unfold nsIn at e; split at e
  · rename_i q; have z := (X _ _ q).symm.trans ho; cases z; cases hd
    split at e
    · rename_i en he; cases e; rw [← hf]; unfold nsFind findBy; rw [← Array.find?_toList, he]; rfl
    · split at e <;> cases e
  · cases e
/-- an own class of exceptions under ValueError, its __init__ at f -/
structure ExN (K : Frag) (C f : Addr) : Prop where
  ex : ∃ (nm q : Str) (N : Addr) (bs bm : List Value) (hdct : Bool) (sn : List Str) (sub : List Value) (ab : Bool) (col : Option Bool) (dd : Option Addr) (k0 k1 k2 k3 k5 : Option Value),
    K.lookup C = some (excClassObj nm q C N bs bm hdct sn sub ab col dd k0 k1 k2 k3 k5 "ValueError.__new__") ∧ nsOkIn K N = true ∧ nsIn K N "__init__" = some (some (.ref f)) ∧ tailIn K bmV bm = true
  fn : isFn K (.ref f) = true
theorem ExN.obj {K : Frag} {C f : Addr} {h : Heap} (T : ExN K C f) (X : K.In h) : ∃ bm N nm q bs hdct sn sub ab col dd k0 k1 k2 k3 k5 mN, h.get? C = some (excClassObj nm q C N bs bm hdct sn sub ab col dd k0 k1 k2 k3 k5 "ValueError.__new__") ∧ h.Ns N mN ∧ mN "__init__" = some (.ref f) ∧ OwnTail h bmV bm := by
  obtain ⟨nm, q, N, bs, bm, hdct, sn, sub, ab, col, dd, k0, k1, k2, k3, k5, h1, h2, h3, h4⟩ := T.ex
  have G : h.Ns N (h.nsMap N) := .of_isNs (isNs_of_in X h2)
  exact ⟨bm, N, nm, q, bs, hdct, sn, sub, ab, col, dd, k0, k1, k2, k3, k5, _, X _ _ h1, G, ns_of_in X G h3, tail_of_in X h4⟩
theorem ExN.fun {K : Frag} {C f : Addr} {h : Heap} (T : ExN K C f) (X : K.In h) : ∃ o, h.get? f = some o ∧ o.cls = .type "function" := by
  have e : typeIn K (.ref f) = some (.type "function") := beq_iff_eq.mp T.fn
  obtain ⟨o, h1, h2⟩ := Option.map_eq_some_iff.mp e
  exact ⟨o, X _ _ h1, h2⟩
section
variable {X : Cx} {pins : List (Addr × Obj)} {σ : St} {H : Hp} {s : Shared}
/-- nothing lies at e: nor did it at the entry, no frame, no cell, no pin -/
structure NewAt (X : Cx) (pins : List (Addr × Obj)) (H : Hp) (e : Addr) : Prop where
  free : H e = none
  old : ∀ b o, X.s₀.heap.get? b = some o → b ∉ X.ex → b ≠ e
  loc : X.env.locals ≠ e
  cell : ∀ x c, X.env.cells.lookup x = some c → c ≠ e
  pin : ∀ p ∈ X.pn ++ pins, p.1 ≠ e
theorem Inv.newAt (I : Inv X pins σ H s) {e : Addr} (h : s.heap.get? e = none) : NewAt X pins H e := by
  have ne : ∀ b o, s.heap.get? b = some o → b ≠ e := fun b o q z => by rw [z, h] at q; cases q
  refine ⟨?_, fun b o q hx => ?_, ?_, fun x c q => ?_, fun p hp => ne _ _ (I.pin p hp).1⟩
  · cases z : H e with
    | none => rfl
    | some o => obtain ⟨ob, y⟩ := (I.hok e o z).there; exact absurd rfl (ne e ob y)
  · obtain ⟨o', y⟩ := I.base.there b o q hx; exact ne b o' y
  · obtain ⟨m, ⟨o, _, _, y, _⟩, _⟩ := I.loc; exact ne _ o y
  · obtain ⟨v, o, y, _⟩ := I.cell x c q; exact ne _ o y
theorem Inv.track {e : Addr} {o : HO} (I : Inv X pins σ H s) (n : NewAt X pins H e) (ok : ObjOk X.prog X.w (upd H e o) s.heap e o) : Inv X pins σ (upd H e o) s := by
  have keep : ∀ b u, H b = some u → upd H e o b = some u := fun b u q => by rw [upd_ne (ne_of_none q n.free)]; exact q
  refine ⟨I.ok, I.os, I.bare, ⟨I.base.keep, I.base.slot, fun b ob q z hx => ?_, I.base.there, fun b xs q => keep _ _ (I.base.tups b xs q), fun b ob u q => keep _ _ (I.base.frzs b ob u q), fun b ps q => ?_⟩, I.loc, I.cell, ?_, fun x c q => ?_, fun p hp => ?_, fun b u q => ?_, I.len⟩
  · rw [upd_ne (n.old b ob q hx)]; exact I.base.free b ob q z hx
  · obtain ⟨m, y⟩ := I.base.tbls b ps q; exact ⟨m, keep _ _ y⟩
  · rw [upd_ne n.loc]; exact I.free
  · rw [upd_ne (n.cell x c q)]; exact I.freeC x c q
  · obtain ⟨q, z, a, b, d⟩ := I.pin p hp
    refine ⟨q, ?_, a, b, d⟩; rw [upd_ne (n.pin p hp)]; exact z
  · by_cases hb : b = e
    · subst hb; rw [upd_same] at q; cases q; exact ok
    · rw [upd_ne hb] at q
      exact (I.hok b u q).stay (fun _ _ _ z => z) (fun c z => keep _ _ z) fun c xs z => keep _ _ z
end
/-! ### the base's __init__, an f-string, the field -/
section
variable {X : Cx} {V₀ : Addr} {x : Str} {p apos pos : Pos} {e : Expr} {es : List Expr} {t : TA} {te : TE}
end
end L2
set_option Elab.async false
set_option linter.all false
set_option maxRecDepth 100000
set_option maxHeartbeats 1000000
/-! raise C(..), C with an __init__; a field of a caught exception -/
namespace L2
open PySem PySem.Spec PyProof.Rows PySem.W
section
variable {M : Model} {A : Around} {E : Value → Shared → Prop} {env : Env} {nm q : Str} {C N : Addr} {bs bm : List Value} {hdct : Bool} {sn : List Str} {sub : List Value} {ab : Bool} {col : Option Bool} {dd : Option Addr} {k0 k1 k2 k3 k5 : Option Value} {newId : String}
end
section
variable {X : Cx} {C f : Addr} {fd : FuncData} {ps : List Str} {sp : Sp} {k : Nat} {x : Str} {np cpos pos : Pos} {e : Expr} {es : List Expr} {t : TA} {E : St → XK}
end
/-! ### e.f of a caught exception -/
section
variable {prog : Program} {w : World} {A : Around} {E : Value → Shared → Prop} {s : Shared} {K : Frag} {x C : Addr} {ox : Obj} {od : Option Obj} {name : Str} {v : Value}
end
end L2
namespace L2
open PySem PySem.Spec PyProof.Rows PySem.W
theorem ExS.of {K : Frag} {C N : Addr} {nm q : Str} {bs bm : List Value} {hdct : Bool} {sn : List Str} {sub : List Value} {ab : Bool} {col : Option Bool} {dd : Option Addr} {k0 k1 k2 k3 k5 : Option Value} {newId : String}
    (l : K.lookup C = some (excClassObj nm q C N bs bm hdct sn sub ab col dd k0 k1 k2 k3 k5 newId)) (em : exMro bm = true) (hd : hdct = true) (sa : findIn K (.ref C) "__setattr__" = some (some (.builtin "object.__setattr__"))) : ExS K C :=
  ⟨⟨_, by unfold clsIn; rw [l], em, hd⟩, sa⟩
/-! ### min of a list of ints -/
end L2
set_option Elab.async false
set_option linter.all false
set_option maxRecDepth 100000
set_option maxHeartbeats 1000000
/-! a cut: what holds between a statement and the rest, said once for all its branches -/
namespace L2
open PySem PySem.Spec PyProof.Rows PySem.W
end L2
set_option Elab.async false
set_option linter.all false
set_option maxRecDepth 100000
set_option maxHeartbeats 1000000
/-! sorted of a list of ints; max of one -/
namespace L2
open PySem PySem.Spec PyProof.Rows PySem.W
theorem ints_vals : ∀ {us : List Value} {ns : List Int}, IntsAre us ns → Vals (ns.map V.int) us
  | _, _, .nil => .nil
  | _, _, .cons _ _ h => .cons ⟨_, rfl⟩ (ints_vals h)
section
variable {X : Cx}
end
/-! ### zip of two lists -/
section
variable {X : Cx} {pins : List (Addr × Obj)} {σ : St} {H : Hp} {s : Shared}
/-- iterators' own records were written over -/
theorem Inv.poked {ch : List Addr} {h' : Heap} (I : Inv X pins σ H s) (k : ∀ b o, b ∉ ch → s.heap.get? b = some o → h'.get? b = some o) (f : ∀ b ∈ ch, FpOk X pins H b) : Inv X pins σ H { s with heap := h' } := by
  refine I.call' (ch := ch) rfl ⟨fun b o q _ _ hx => k b o hx q, fun b o q _ _ hx => ⟨o.slots, k b o hx q⟩, fun b o q n _ => n, fun b o q hx => ⟨o, k b o hx q⟩, fun _ _ q => q, fun _ _ _ q => q, fun b ps q => ⟨#[], by rw [q]; simp⟩⟩ (fun b ob q => ?_) I.bare fun b hb => ?_
  · refine (I.hok b ob q).stay (fun c v hc r => k c v (fun z => ?_) r) (fun _ r => r) fun _ _ r => r
    have n := (f c z).1
    rcases hc with w | w
    · rw [← w, n] at q; cases q
    · rw [n] at w; cases w
  · have fb := f b hb
    exact ⟨fb.2.2.2.1, fb.2.1, fb.2.2.2.2.1, fb.2.2.2.2.2⟩
end
section
variable {X : Cx} {elts : List Expr} {k0} {tp : Pos}
end
end L2
set_option Elab.async false
set_option linter.all false
set_option maxRecDepth 100000
set_option maxHeartbeats 1000000
/-! volumes: rows made anew, a number put into a row, copies; data trees over what is tracked -/
namespace L2
open PySem PySem.Spec PyProof.Rows PySem.W
theorem ndp1 {a : Str} : [a].Nodup := by simp
theorem ndp2 {a b : Str} (h : a ≠ b) : [a, b].Nodup := by simp [h]
theorem ndp3 {a b c : Str} (h1 : a ≠ b) (h2 : a ≠ c) (h3 : b ≠ c) : [a, b, c].Nodup := by simp [h1, h2, h3]
theorem nodup_at {α : Type} {l : List α} (hN : l.Nodup) {i j : Nat} {x : α} (a : l[i]? = some x) (b : l[j]? = some x) : i = j := by
  obtain ⟨hi, ei⟩ := List.getElem?_eq_some_iff.mp a
  obtain ⟨hj, ej⟩ := List.getElem?_eq_some_iff.mp b
  have p := List.pairwise_iff_getElem.mp hN
  rcases Nat.lt_trichotomy i j with h | h | h
  · exact absurd (ei.trans ej.symm) (p i j hi hj h)
  · exact h
  · exact absurd (ej.trans ei.symm) (p j i hj hi h)
/-- rows of ints that came since H0 -/
structure Rows (H0 H : Hp) (as : List Addr) (rows : List (List Int)) : Prop where
  len : as.length = rows.length
  nd : as.Nodup
  new : ∀ a ∈ as, H0 a = none
  row : ∀ (i : Nat) a r, as[i]? = some a → rows[i]? = some r → H a = some (.lst (r.map V.int))
  same : Same H0 H
theorem Rows.nil {H : Hp} : Rows H H [] [] := ⟨rfl, List.nodup_nil, fun _ h => (nomatch h), fun i a r h => by simp at h, Same.refl H⟩
theorem Rows.at {H0 H : Hp} {as : List Addr} {rows : List (List Int)} (x : Rows H0 H as rows) {a : Addr} (h : a ∈ as) : ∃ o, H a = some o := by
  obtain ⟨i, hi, e⟩ := List.getElem_of_mem h
  have h1 : as[i]? = some a := by rw [List.getElem?_eq_getElem hi, e]
  have hr : i < rows.length := by rw [← x.len]; exact hi
  exact ⟨_, x.row i a rows[i] h1 (List.getElem?_eq_getElem hr)⟩
theorem Rows.on {H0 H H' : Hp} {as : List Addr} {rows : List (List Int)} (x : Rows H0 H as rows) (s : Same H H') : Rows H0 H' as rows :=
  ⟨x.len, x.nd, x.new, fun i a r h1 h2 => s _ _ (x.row i a r h1 h2), x.same.trans s⟩
theorem Vol.off {H : Hp} {v b : Addr} {as : List Addr} {rows : List (List Int)} {o : HO} (x : Vol H v as rows) (n1 : b ∉ as) (n2 : b ≠ v) : Vol (upd H b o) v as rows :=
  ⟨by rw [upd_ne (Ne.symm n2)]; exact x.top, x.len, x.nd, fun i a r e1 e2 => by rw [upd_ne (fun z => n1 (by rw [← z]; exact List.mem_of_getElem? e1))]; exact x.row i a r e1 e2⟩
/-- a number is put into a row -/
theorem Vol.put {H : Hp} {v a : Addr} {as : List Addr} {rows : List (List Int)} {i j : Nat} {r : List Int} {n : Int} (x : Vol H v as rows) (ha : as[i]? = some a) (hr : rows[i]? = some r) :
    Vol (upd H a (.lst ((r.map V.int).set j (.int n)))) v as (rows.set i (r.set j n)) := by
  have hi : i < as.length := (List.getElem?_eq_some_iff.mp ha).1
  refine ⟨by rw [upd_ne (Ne.symm (x.ne (List.mem_of_getElem? ha)))]; exact x.top, by simp [x.len], x.nd, fun k b r' e1 e2 => ?_⟩
  by_cases hk : k = i
  · subst hk
    rw [ha] at e1
    cases e1
    rw [List.getElem?_set_self (by rw [← x.len]; exact hi)] at e2
    cases e2
    rw [upd_same, List.map_set]
  · rw [List.getElem?_set_ne (Ne.symm hk)] at e2
    have nb : b ≠ a := fun z => by
      subst z
      exact hk (nodup_at x.nd e1 ha)
    rw [upd_ne nb]
    exact x.row k b r' e1 e2
end L2
set_option Elab.async false
set_option linter.all false
set_option maxRecDepth 100000
set_option maxHeartbeats 1000000
/-! set of a list of ints, its len -/
namespace L2
open PySem PySem.Spec PyProof.Rows PySem.W
def dd (ns : List Int) : List Int := firstMet (fun i => ns.getD i 0) ns.length
section
variable {X : Cx}
end
end L2
set_option Elab.async false
set_option linter.all false
set_option maxRecDepth 100000
set_option maxHeartbeats 1000000
/-! o.m(..) where the class of o is one of several -/
namespace L2
open PySem PySem.Spec PyProof.Rows PySem.W
section
variable {X : Cx} {CX : CXT} {k : Nat} {D : Addr → Prop} {sp : Addr → Sp} {dvs : List V} {ds : List Value} {E : XK} {m : Str} {pos apos : Pos} {e o : Expr} {es : List Expr} {ta : TE} {t : TA}
end
end L2
set_option Elab.async false
set_option linter.all false
set_option maxRecDepth 100000
set_option maxHeartbeats 1000000
/-! enumerate(l, start=NAME) where NAME is 4; lists of rows; writes whose rows are apart -/
namespace PySem
open Sem (wp)
open AutoSeq1 (wpAny_loadPart')
section
variable {prog : Program} {w : World} {A : Around} {E : Value → Shared → Prop} {s : Shared}
end
end PySem
namespace L2
open PySem PySem.Spec PyProof.Rows PySem.W
section
variable {X : Cx} {elts : List Expr} {k0} {tp : Pos}
end
/-- a list of rows of ints, not apart -/
structure Rs (H : Hp) (v : Addr) (as : List Addr) (rows : List (List Int)) : Prop where
  top : H v = some (.lst (as.map V.ref))
  len : as.length = rows.length
  row : ∀ (i : Nat) a r, as[i]? = some a → rows[i]? = some r → H a = some (.lst (r.map V.int))
theorem Rs.same {H H' : Hp} {v : Addr} {as : List Addr} {rows : List (List Int)} (h : Rs H v as rows) (s : Same H H') : Rs H' v as rows := ⟨s _ _ h.top, h.len, fun i a r e1 e2 => s _ _ (h.row i a r e1 e2)⟩
/-- writes: pairs of a block and a row -/
abbrev Wt := Int × List Int
def trW (x : Wt) : Tr := .tup [.flat (.int x.1), trI x.2]
structure Wr (H : Hp) (w : Addr) (ts : List Addr) (ws : List Wt) : Prop where
  top : H w = some (.lst (ts.map V.ref))
  len : ts.length = ws.length
  item : ∀ (i : Nat) t x, ts[i]? = some t → ws[i]? = some x → ∃ ra, H t = some (.tup [.int x.1, .ref ra]) ∧ H ra = some (.lst (x.2.map V.int))
theorem Wr.same {H H' : Hp} {w : Addr} {ts : List Addr} {ws : List Wt} (h : Wr H w ts ws) (s : Same H H') : Wr H' w ts ws :=
  ⟨s _ _ h.top, h.len, fun i t x e1 e2 => let ⟨ra, h1, h2⟩ := h.item i t x e1 e2; ⟨ra, s _ _ h1, s _ _ h2⟩⟩
theorem Wr.holds {K : PySem.W.Frag} {H : Hp} {w : Addr} {ts : List Addr} {ws : List Wt} (h : Wr H w ts ws) : Holds K H 3 (.ref w) (.lst (ws.map trW)) := by
  refine .lst (SqL.of h.top) (by simp [h.len]) fun i x t e1 e2 => ?_
  rw [List.getElem?_map] at e1 e2
  cases ea : ts[i]? with
  | none => rw [ea] at e1; cases e1
  | some ta =>
    cases ew : ws[i]? with
    | none => rw [ew] at e2; cases e2
    | some y =>
      rw [ea] at e1
      rw [ew] at e2
      cases e1
      cases e2
      obtain ⟨ra, h1, h2⟩ := h.item i ta y ea ew
      refine .tup (SqT.of h1) rfl fun j x t f1 f2 => ?_
      match j with
      | 0 => cases f1; cases f2; exact .flat rfl
      | 1 => cases f1; cases f2; exact holds_ints (SqL.of h2)
      | j + 2 => simp at f1
/-- pairs with rows of their own that came since H0 -/
structure Wrs (H0 H : Hp) (ts ras : List Addr) (ws : List Wt) : Prop where
  lt : ts.length = ws.length
  lr : ras.length = ws.length
  nd : ras.Nodup
  new : ∀ a ∈ ras, H0 a = none
  tup : ∀ (i : Nat) t a x, ts[i]? = some t → ras[i]? = some a → ws[i]? = some x → H t = some (.tup [.int x.1, .ref a])
  row : ∀ (i : Nat) a x, ras[i]? = some a → ws[i]? = some x → H a = some (.lst (x.2.map V.int))
  same : Same H0 H
theorem Wrs.nil {H : Hp} : Wrs H H [] [] [] := ⟨rfl, rfl, List.nodup_nil, fun _ h => (nomatch h), fun i t a x h => by simp at h, fun i a x h => by simp at h, Same.refl H⟩
theorem Wrs.at {H0 H : Hp} {ts ras : List Addr} {ws : List Wt} (x : Wrs H0 H ts ras ws) {a : Addr} (h : a ∈ ras) : ∃ ns : List Int, H a = some (.lst (ns.map V.int)) := by
  obtain ⟨i, hi, e⟩ := List.getElem_of_mem h
  have h1 : ras[i]? = some a := by rw [List.getElem?_eq_getElem hi, e]
  have hr : i < ws.length := by rw [← x.lr]; exact hi
  exact ⟨_, x.row i a ws[i] h1 (List.getElem?_eq_getElem hr)⟩
theorem Wrs.on {H0 H H' : Hp} {ts ras : List Addr} {ws : List Wt} (x : Wrs H0 H ts ras ws) (s : Same H H') : Wrs H0 H' ts ras ws :=
  ⟨x.lt, x.lr, x.nd, x.new, fun i t a y h1 h2 h3 => s _ _ (x.tup i t a y h1 h2 h3), fun i a r h1 h2 => s _ _ (x.row i a r h1 h2), x.same.trans s⟩
/-- what is written over beside them -/
theorem Wrs.off {H0 H : Hp} {ts ras : List Addr} {ws : List Wt} {b : Addr} {o : HO} (x : Wrs H0 H ts ras ws) (n0 : H0 b = none) (n1 : b ∉ ras) (n2 : ∃ xs, H b = some (.lst xs)) : Wrs H0 (upd H b o) ts ras ws := by
  obtain ⟨xs, hb⟩ := n2
  refine ⟨x.lt, x.lr, x.nd, x.new, fun i t a y e0 e1 e2 => ?_, fun i a y e1 e2 => ?_, fun c u e => ?_⟩
  · have := x.tup i t a y e0 e1 e2
    rw [upd_ne (fun z => by rw [z, hb] at this; cases this)]
    exact this
  · rw [upd_ne (fun z => n1 (by rw [← z]; exact List.mem_of_getElem? e1))]
    exact x.row i a y e1 e2
  · rw [upd_ne (fun z => by rw [z, n0] at e; cases e)]
    exact x.same c u e
/-- the list of them stands at w -/
structure WrA (H0 H : Hp) (w : Addr) (ts ras : List Addr) (ws : List Wt) : Prop extends Wrs H0 H ts ras ws where
  top : H w = some (.lst (ts.map V.ref))
  nw : w ∉ ras
theorem Wrs.list {H0 H : Hp} {w : Addr} {ts ras : List Addr} {ws : List Wt} (x : Wrs H0 H ts ras ws) (hw : H w = none) : WrA H0 (upd H w (.lst (ts.map V.ref))) w ts ras ws :=
  ⟨x.on (Same.upd0 hw), upd_same, fun z => let ⟨_, e⟩ := x.at z; by rw [hw] at e; cases e⟩
/-- a number is put into a row of them -/
theorem WrA.put {H0 H : Hp} {w a : Addr} {ts ras : List Addr} {ws : List Wt} {i j : Nat} {y : Wt} {n : Int} (x : WrA H0 H w ts ras ws) (ha : ras[i]? = some a) (hy : ws[i]? = some y) :
    WrA H0 (upd H a (.lst ((y.2.map V.int).set j (.int n)))) w ts ras (ws.set i (y.1, y.2.set j n)) := by
  have hi : i < ras.length := (List.getElem?_eq_some_iff.mp ha).1
  have hiw : i < ws.length := by rw [← x.lr]; exact hi
  have hA := x.row i a y ha hy
  have n0 : H0 a = none := x.new a (List.mem_of_getElem? ha)
  refine ⟨⟨by rw [List.length_set]; exact x.lt, by rw [List.length_set]; exact x.lr, x.nd, x.new, fun k t b r' e0 e1 e2 => ?_, fun k b r' e1 e2 => ?_, fun c u e => ?_⟩, ?_, x.nw⟩
  · have ht : ∀ z, H t = some (.tup z) → upd H a (.lst ((y.2.map V.int).set j (.int n))) t = some (.tup z) := fun z h => by
      rw [upd_ne (fun z' => by rw [z', hA] at h; cases h)]; exact h
    by_cases hk : k = i
    · subst hk
      rw [List.getElem?_set_self hiw] at e2
      cases e2
      exact ht _ (x.tup k t b y e0 e1 hy)
    · rw [List.getElem?_set_ne (Ne.symm hk)] at e2
      exact ht _ (x.tup k t b r' e0 e1 e2)
  · by_cases hk : k = i
    · subst hk
      rw [ha] at e1
      cases e1
      rw [List.getElem?_set_self hiw] at e2
      cases e2
      rw [upd_same, List.map_set]
    · rw [List.getElem?_set_ne (Ne.symm hk)] at e2
      have nb : b ≠ a := fun z => by
        subst z
        exact hk (nodup_at x.nd e1 ha)
      rw [upd_ne nb]
      exact x.row k b r' e1 e2
  · rw [upd_ne (fun z => by rw [z, n0] at e; cases e)]
    exact x.same c u e
  · rw [upd_ne (fun z => x.nw (by rw [z]; exact List.mem_of_getElem? ha))]
    exact x.top
theorem Wrs.base {H0 H1 H : Hp} {ts ras : List Addr} {ws : List Wt} (x : Wrs H1 H ts ras ws) (s : Same H0 H1) : Wrs H0 H ts ras ws := ⟨x.lt, x.lr, x.nd, fun a h => s.free (x.new a h), x.tup, x.row, s.trans x.same⟩
theorem WrA.base {H0 H1 H : Hp} {w : Addr} {ts ras : List Addr} {ws : List Wt} (x : WrA H1 H w ts ras ws) (s : Same H0 H1) : WrA H0 H w ts ras ws := ⟨x.toWrs.base s, x.top, x.nw⟩
theorem Wrs.one {H0 H : Hp} {t q : Addr} {y : Wt} (s : Same H0 H) (h0 : H0 q = none) (h1 : H t = some (.tup [.int y.1, .ref q])) (h2 : H q = some (.lst (y.2.map V.int))) : Wrs H0 H [t] [q] [y] := by
  refine ⟨rfl, rfl, by simp, fun a h => ?_, fun i t' a x e0 e1 e2 => ?_, fun i a x e1 e2 => ?_, s⟩
  · have : a = q := by simpa using h
    rw [this]; exact h0
  · match i with
    | 0 => cases e0; cases e1; cases e2; exact h1
    | i + 1 => simp at e0
  · match i with
    | 0 => cases e1; cases e2; exact h2
    | i + 1 => simp at e1
/-- pairs, not apart, without their list -/
structure WI (H : Hp) (ts : List Addr) (ws : List Wt) : Prop where
  len : ts.length = ws.length
  item : ∀ (i : Nat) t x, ts[i]? = some t → ws[i]? = some x → ∃ ra, H t = some (.tup [.int x.1, .ref ra]) ∧ H ra = some (.lst (x.2.map V.int))
theorem WI.same {H H' : Hp} {ts : List Addr} {ws : List Wt} (h : WI H ts ws) (s : Same H H') : WI H' ts ws :=
  ⟨h.len, fun i t x e1 e2 => let ⟨ra, h1, h2⟩ := h.item i t x e1 e2; ⟨ra, s _ _ h1, s _ _ h2⟩⟩
theorem WI.nil {H : Hp} : WI H [] [] := ⟨rfl, fun i t x e => by simp at e⟩
theorem WI.one {H : Hp} {t q : Addr} {y : Wt} (h1 : H t = some (.tup [.int y.1, .ref q])) (h2 : H q = some (.lst (y.2.map V.int))) : WI H [t] [y] := by
  refine ⟨rfl, fun i t' x e0 e1 => ?_⟩
  match i with
  | 0 => cases e0; cases e1; exact ⟨q, h1, h2⟩
  | i + 1 => simp at e0
theorem Wr.wi {H : Hp} {w : Addr} {ts : List Addr} {ws : List Wt} (h : Wr H w ts ws) : WI H ts ws := ⟨h.len, h.item⟩
end L2
set_option Elab.async false
set_option linter.all false
set_option maxRecDepth 100000
set_option maxHeartbeats 1000000
/-! displays of whole numbers at once -/
namespace L2
open PySem PySem.Spec PyProof.Rows PySem.W
def intOf : Expr → Option Int
  | .Constant (.int n) _ _ => some n
  | .UnaryOp .USub (.Constant (.int n) _ _) _ => some (-n)
  | _ => none
def intsOf : List Expr → Option (List Int)
  | [] => some []
  | e :: es => (intOf e).bind fun n => (intsOf es).map (n :: ·)
def tIntsA (ns : List Int) : TA := fun _ H Q => Q (ns.map V.int) H
def tInts (ns : List Int) : TE := fun _ H Q => ns.length ≤ sizeLine ∧ ∀ p, H p = none → Q (.ref p) (upd H p (.lst (ns.map V.int)))
section
variable {X : Cx}
theorem pe_intOf {e : Expr} {n : Int} (h : intOf e = some n) : PE X e (tC (.int n)) := by
  unfold intOf at h
  split at h
  · cases h
    exact pe_int
  · cases h
    exact fun pins s σ H Q I hq => pe_un un_neg pe_int pins s σ H Q I ⟨_, rfl, hq⟩
  · cases h
theorem star_intOf {e : Expr} {n : Int} {es : List Expr} (h : intOf e = some n) : starEach (e :: es) X.env = (false, eval e X.env) :: starEach es X.env := by
  unfold intOf at h
  split at h
  · rfl
  · rfl
  · cases h
theorem pa_ints : ∀ {es : List Expr} {ns : List Int}, intsOf es = some ns → PA X es (tIntsA ns)
  | [], ns, h => by
    cases h
    exact pa_nil
  | e :: es, ns, h => by
    unfold intsOf at h
    cases hn : intOf e with
    | none => rw [hn] at h; cases h
    | some n =>
      cases hs : intsOf es with
      | none => rw [hn, hs] at h; cases h
      | some ms =>
        rw [hn, hs] at h
        cases h
        intro pos pins s σ H Q I hq
        exact pa_cons (pe_intOf hn) (pa_ints hs) (star_intOf hn) pos pins s σ H Q I hq
theorem pe_ints {es : List Expr} {ns : List Int} {pos : Pos} (h : intsOf es = some ns) : PE X (.List es pos) (tInts ns) := by
  intro pins s σ H Q I hq
  refine pe_lst (pa_ints h) pins s σ H Q I ?_
  obtain ⟨h1, h2⟩ := hq
  exact ⟨by rw [List.length_map]; exact h1, h2⟩
end
end L2
set_option Elab.async false
set_option linter.all false
set_option maxRecDepth 100000
set_option maxHeartbeats 1000000
/-! for k, v in d.items(), in a loop and in a comprehension: the dict is frozen from then on -/
namespace L2
open PySem PySem.Spec PyProof.Rows PySem.W
theorem KV.at {kvs : List (Key × V)} {vs : List (Key × Value)} (r : KV kvs vs) : ∀ {i : Nat} {k : Key} {x : V}, kvs[i]? = some (k, x) → ∃ u, vs[i]? = some (k, u) ∧ RelV x u := by
  induction r with
  | nil => intro i k x e; simp at e
  | @cons a b l1 l2 h t ih =>
    intro i k x e
    match i with
    | 0 =>
      rw [List.getElem?_cons_zero] at e
      cases e
      obtain ⟨h1, h2⟩ := h
      exact ⟨b.2, by rw [List.getElem?_cons_zero]; exact congrArg some (Prod.ext h1.symm rfl), h2⟩
    | i + 1 =>
      rw [List.getElem?_cons_succ] at e
      obtain ⟨u, h1, h2⟩ := ih e
      exact ⟨u, by rw [List.getElem?_cons_succ]; exact h1, h2⟩
section
variable {X : Cx} {elts : List Expr} {k0} {tp : Pos}
end
end L2
set_option Elab.async false
set_option linter.all false
set_option maxRecDepth 100000
set_option maxHeartbeats 1000000
/-! two dicts with the same pairs are equal -/
namespace PySem
open Sem (wp)
open PySem.Spec PyProof.Rows
section
variable {prog : Program} {w : World} {K : Type} [DecidableEq K] {knd : KeyKind prog w K} {A : Around} {E : Value → Shared → Prop} {s : Shared}
end
end PySem
namespace L2
open PySem PySem.Spec PyProof.Rows PySem.W
section
variable {X : Cx}
end
/-! ### for k in d -/
end L2
set_option Elab.async false
set_option linter.all false
set_option maxRecDepth 100000
set_option maxHeartbeats 1000000
namespace L2
open PySem PySem.Spec PyProof.Rows
/-! ### a comprehension over a tuple; triples of whole numbers in lists -/
theorem int_of {a b : Int} (h : V.int a = V.int b) : a = b := by injection h
abbrev T3 := Int × Int × Int
def trT (p : T3) : Tr := .tup [.flat (.int p.1), .flat (.int p.2.1), .flat (.int p.2.2)]
def tupT (p : T3) : HO := .tup [.int p.1, .int p.2.1, .int p.2.2]
/-- triples without their list -/
structure TI3 (H : Hp) (ts : List Addr) (ps : List T3) : Prop where
  len : ts.length = ps.length
  item : ∀ (i : Nat) t p, ts[i]? = some t → ps[i]? = some p → H t = some (tupT p)
/-- a list of triples -/
structure Ts (H : Hp) (w : Addr) (ts : List Addr) (ps : List T3) : Prop where
  top : H w = some (.lst (ts.map V.ref))
  it : TI3 H ts ps
theorem TI3.tups {H H' : Hp} {ts : List Addr} {ps : List T3} (h : TI3 H ts ps) (s : ∀ b xs, H b = some (.tup xs) → H' b = some (.tup xs)) : TI3 H' ts ps := ⟨h.len, fun i t p e1 e2 => s _ _ (h.item i t p e1 e2)⟩
theorem TI3.same {H H' : Hp} {ts : List Addr} {ps : List T3} (h : TI3 H ts ps) (s : Same H H') : TI3 H' ts ps := h.tups fun _ _ e => s _ _ e
theorem Ts.same {H H' : Hp} {w : Addr} {ts : List Addr} {ps : List T3} (h : Ts H w ts ps) (s : Same H H') : Ts H' w ts ps := ⟨s _ _ h.top, h.it.same s⟩
theorem Ts.holds {K : PySem.W.Frag} {H : Hp} {w : Addr} {ts : List Addr} {ps : List T3} (h : Ts H w ts ps) : Holds K H 2 (.ref w) (.lst (ps.map trT)) := by
  refine .lst (SqL.of h.top) (by simp [h.it.len]) fun i x t e1 e2 => ?_
  rw [List.getElem?_map] at e1 e2
  cases ea : ts[i]? with
  | none => rw [ea] at e1; cases e1
  | some ta =>
    cases ew : ps[i]? with
    | none => rw [ew] at e2; cases e2
    | some y =>
      rw [ea] at e1
      rw [ew] at e2
      cases e1
      cases e2
      exact holds_flats (xs := [.int y.1, .int y.2.1, .int y.2.2]) (SqT.of (h.it.item i ta y ea ew)) rfl
theorem TI3.nil {H : Hp} : TI3 H [] [] := ⟨rfl, fun i t p e => by simp at e⟩
theorem TI3.one {H : Hp} {t : Addr} {p : T3} (h : H t = some (tupT p)) : TI3 H [t] [p] := ⟨rfl, fun i t' p' e1 e2 => by
  match i with
  | 0 => cases e1; cases e2; exact h
  | i + 1 => simp at e1⟩
/-! ### places that are not as they should be -/
end L2
set_option Elab.async false
set_option linter.all false
set_option maxRecDepth 100000
set_option maxHeartbeats 1000000
namespace L2
open PySem PySem.Spec PyProof.Rows PySem.W
/-! ### list(d), list(d.values()), any of bools, a list unpacked, a row in a list of rows -/
section
variable {X : Cx}
end
/-! ### a list unpacked -/
section
variable {prog : Program} {w : World} {A : Around} {E : Value → Shared → Prop}
end
section
variable {X : Cx} {pos : Pos}
/-! ### a row in a list of rows -/
end
end L2
set_option Elab.async false
set_option linter.all false
set_option maxRecDepth 100000
set_option maxHeartbeats 1000000
/-! for x in d.values(): the dict is frozen from then on -/
namespace L2
open PySem PySem.Spec PyProof.Rows PySem.W
section
variable {X : Cx} {tg : Expr}
end
end L2
set_option Elab.async false
set_option linter.all false
set_option maxRecDepth 100000
set_option maxHeartbeats 1000000
/-! o[i] of a list by values, for o[i] op= e -/
namespace L2
open PySem PySem.Spec PyProof.Rows PySem.W
variable {X : Cx}
theorem pget_list : PGet X (rIxL X.K) := by
  intro pins s σ H x y v u Q I rx ry h
  obtain ⟨p, xs, i, z, rfl, rfl, hq, he, q⟩ := h
  cases rx
  obtain ⟨t, rfl⟩ := ry
  obtain ⟨its, r, pl, hz⟩ := I.list hq
  obtain ⟨j, h1, h2, h3, h4, h5⟩ := atI_get he
  obtain ⟨w, ew, rw'⟩ := r.get h2
  have hl := r.length
  have hn := line63
  have fin : EP X pins σ Q w s := ⟨z, H, I, rw', q⟩
  by_cases h0 : 0 ≤ i
  · have hj : i.toNat = j := by
      rw [seqIndex_of h0 h5] at h1
      exact Option.some.inj h1
    exact wpAny_getItem_list pl.isList h0 (by omega) (by rw [hj]; simpa using ew) fin
  · have hj : (i + (its.toArray.size : Int)).toNat = j := by
      rw [seqIndex_neg (by omega) h4] at h1
      rw [List.size_toArray, ← hl]
      exact Option.some.inj h1
    exact wpAny_getItem_list_neg pl.isList (by omega) (by rw [List.size_toArray] <;> omega) (by omega) (by rw [hj]; simpa using ew) fin
end L2
set_option Elab.async false
set_option linter.all false
set_option maxRecDepth 100000
set_option maxHeartbeats 1000000
/-! sorted of a dict with whole numbers as keys; a tuple of whole numbers in a list of such -/
namespace L2
open PySem PySem.Spec PyProof.Rows PySem.W
section
variable {X : Cx}
structure RsT (H : Hp) (v : Addr) (as : List Addr) (rows : List (List Int)) : Prop where
  top : H v = some (.lst (as.map V.ref))
  len : as.length = rows.length
  row : ∀ (i : Nat) a r, as[i]? = some a → rows[i]? = some r → H a = some (.tup (r.map V.int))
theorem RsT.same {H H' : Hp} {v : Addr} {as : List Addr} {rows : List (List Int)} (h : RsT H v as rows) (s : Same H H') : RsT H' v as rows := ⟨s _ _ h.top, h.len, fun i a r e1 e2 => s _ _ (h.row i a r e1 e2)⟩
end
end L2
set_option Elab.async false
set_option linter.all false
set_option maxRecDepth 100000
set_option maxHeartbeats 1000000
/-! sorted(l, key=f): whatever stays true through the calls of f and sorted's own writes -/
namespace L2
open PySem PySem.Spec PyProof.Rows PySem.W

/-- stays true while sorted works on its own objects, which lie at n₀ or behind it -/
structure Stays (n₀ : Nat) (J : Shared → Prop) : Prop where
  size : ∀ s, J s → n₀ ≤ s.heap.objs.size
  push : ∀ (s : Shared) o, J s → J { s with heap := s.heap.push o }
  upd : ∀ (s : Shared) (a : Addr) (f : Obj → Obj), n₀ ≤ a → J s → J { s with heap := s.heap.update a f }

section
variable {prog : Program} {w : World} {A : Around} {E : Value → Shared → Prop} {s : Shared} {a kS : Addr} {vs : List Value} {kz : List Int} {keys : Array Value} {e e1 : Nat} {P : PySem.Fin → Shared → Prop} {n₀ : Nat} {J : Shared → Prop}

theorem sk_tail {st : SortSt} (S : Stays n₀ J) (j : J s) (ok : s.heap.get? kS = some (seqObj "list" keys e)) (oa : s.heap.get? a = some (seqObj "list" #[] e1)) (hka : kS ≠ a) (lk : n₀ ≤ kS) (la : n₀ ≤ a)
    (hk : IntsAre keys.toList kz) (hlen : kz.length = vs.length) (h64 : vs.length < 64) (hp : (arrOf st).Perm (keys.zip vs.toArray)) (hs : SortedTo (arrOf st) (arrOf st).size) (hfl : failedOf st = none)
    (h : ∀ s' out c, J s' → s'.heap.get? a = some (seqObj "list" out c) → KskOut false kz vs out.toList → P (.done (.ret .none)) s') :
    wpAny (model prog w) A (ksk_tail a false e1 (.ref kS) st) P E s := by
  have hsz : keys.size = vs.length := by
    have h1 := hk.length
    rw [Array.length_toList] at h1
    omega
  have hsz2 : (arrOf st).size = vs.length := by rw [hp.size_eq, Array.size_zip, hsz, List.size_toArray, Nat.min_self]
  have hout : ((arrOf st).map (·.2)).size = vs.length := by rw [Array.size_map]; exact hsz2
  have s1 := Heap.SameBut.update s.heap kS (Obj.mapSeq fun _ => (#[] : Array Value))
  have na1 : (s.heap.update kS (Obj.mapSeq fun _ => (#[] : Array Value))).get? a = some (seqObj "list" #[] e1) := (s1.2 a hka.symm).trans oa
  obtain ⟨c2, hc2⟩ : ∃ c2, ((s.heap.update kS (Obj.mapSeq fun _ => (#[] : Array Value))).update a (Obj.mapSeq fun _ => (arrOf st).map (·.2))).get? a = some (seqObj "list" ((arrOf st).map (·.2)) c2) :=
    ⟨_, get?_update_seq na1 fun _ => (arrOf st).map (·.2)⟩
  have j2 := S.upd _ a (Obj.mapSeq fun _ => (arrOf st).map (·.2)) la (S.upd s kS (Obj.mapSeq fun _ => (#[] : Array Value)) lk j)
  have ko := ksk_out (b := false) hk hp hs
  unfold ksk_tail
  simp only [Bool.false_eq_true, if_false]
  refine wpAny_bind (listUpdate_at ok rfl ?_ (by rw [hsz, sizeLine_eq]; omega) (Nat.zero_le _))
  refine wpAny_bind (wpAny_letGo ?_)
  refine wpAny_bind (seqEpoch_at na1 rfl ?_)
  refine wpAny_bind (listUpdate_at na1 rfl ?_ (Nat.zero_le _) (Nat.le_trans (Nat.le_of_eq hout) (by rw [sizeLine_eq]; omega)))
  rw [hfl]
  simp only [bne_self_eq_false, Bool.false_eq_true, if_false]
  exact wpAny_pure (h _ _ c2 j2 hc2 ko)

theorem sk_end (S : Stays n₀ J) (j : J s) (ok : s.heap.get? kS = some (seqObj "list" keys e)) (oa : s.heap.get? a = some (seqObj "list" #[] e1)) (hka : kS ≠ a) (lk : n₀ ≤ kS) (la : n₀ ≤ a)
    (hk : IntsAre keys.toList kz) (hlen : kz.length = vs.length) (h64 : vs.length < 64)
    (h : ∀ s' out c, J s' → s'.heap.get? a = some (seqObj "list" out c) → KskOut false kz vs out.toList → P (.done (.ret .none)) s') :
    wpAny (model prog w) A (ksk_end a false vs.toArray e1 (.ref kS) keys) P E s := by
  have hsz : keys.size = vs.length := by
    have h1 := hk.length
    rw [Array.length_toList] at h1
    omega
  have hzs : (keys.zip vs.toArray).size = vs.length := by rw [Array.size_zip, hsz, List.size_toArray, Nat.min_self]
  unfold ksk_end
  simp only [Bool.false_eq_true, if_false]
  by_cases h2 : vs.toArray.size < 2
  · rw [if_pos h2, if_pos h2]
    refine wpAny_bind (wpAny_pure ?_)
    rw [StateT.run_pure]
    refine wpAny_bind (wpAny_pure ?_)
    try dsimp only
    refine sk_tail (st := SortSt.mk' general' (keys.zip vs.toArray) #[] 7 none) S j ok oa hka lk la hk hlen h64 (Array.Perm.refl _) ?_ rfl h
    intro i j hij hj
    have hj2 : j < (keys.zip vs.toArray).size := hj
    rw [hzs] at hj2
    rw [List.size_toArray] at h2
    have : i = j := by omega
    subst this
    exact Int.le_refl _
  · rw [if_neg h2, if_neg h2]
    rw [List.size_toArray] at h2
    rw [ksk_kind hk (by rw [hsz]; omega)]
    refine wpAny_bind (wpAny_pure ?_)
    refine wpAny_bind (wpAny_mono (wpS_sortRuns (a₀ := keys.zip vs.toArray) (st := SortSt.mk' oneType' (keys.zip vs.toArray) #[] 7 none)
      (Q := fun _ st' => (arrOf st').Perm (keys.zip vs.toArray) ∧ failedOf st' = none ∧ SortedTo (arrOf st') (keys.zip vs.toArray).size)
      (ksk_intKeys hk) ⟨Array.Perm.refl _, rfl, rfl, rfl⟩ (by rw [hzs]; omega) (by rw [hzs]; exact h64) fun st' a1 a2 a3 => ⟨a1, a2, a3⟩) ?_ fun _ _ e => e)
    rintro ⟨⟨⟩, st'⟩ s' ⟨rfl, hp, hf, hs⟩
    try dsimp only
    exact sk_tail S j ok oa hka lk la hk hlen h64 hp (by rw [hp.size_eq]; exact hs) hf h

/-- a call of the key's function -/
def KeyTurn (prog : Program) (w : World) (A : Around) (n₀ : Nat) (J : Shared → Prop) (f v : Value) (k : Int) : Prop :=
  ∀ (s' : Shared) (own : List (Addr × Obj)), J s' → (∀ p ∈ own, n₀ ≤ p.1 ∧ s'.heap.get? p.1 = some p.2) →
    wpAny (model prog w) A (call f [v]) (fun u s'' => (∃ t, u = .int k t) ∧ J s'' ∧ ∀ p ∈ own, s''.heap.get? p.1 = some p.2) (fun _ _ => False) s'

theorem sk_rest {f : Value} (S : Stays n₀ J) (j : J s) (ok : s.heap.get? kS = some (seqObj "list" #[] 0)) (oa : s.heap.get? a = some (seqObj "list" #[] e1)) (hka : kS ≠ a) (lk : n₀ ≤ kS) (la : n₀ ≤ a)
    (hlen : kz.length = vs.length) (h64 : vs.length < 64)
    (turn : ∀ (i : Nat) (v : Value) (k : Int), vs[i]? = some v → kz[i]? = some k → KeyTurn prog w A n₀ J f v k)
    (h : ∀ s' out c, J s' → s'.heap.get? a = some (seqObj "list" out c) → KskOut false kz vs out.toList → P (.done (.ret .none)) s') :
    wpAny (model prog w) A (ksk_rest a f false vs.toArray e1 (.ref kS)) P E s := by
  unfold ksk_rest
  refine wpAny_bind (wpAny_rule ?_)
  first
    | rw [List.forIn_toArray]
    | (rw [← Array.forIn_toList]; simp only [List.toList_toArray])
    | rw [← Array.forIn_toList]
  refine wpAny_bind (ksk_fold (fun i s' => J s' ∧ ∃ kA e, s'.heap.get? kS = some (seqObj "list" kA e) ∧ s'.heap.get? a = some (seqObj "list" #[] e1) ∧ IntsAre kA.toList (kz.take i)) vs 0 s
    ⟨j, #[], 0, ok, oa, by simpa using IntsAre.nil⟩ ?step ?done)
  case step =>
    rintro i x s' hx ⟨j', kA, e, ok', oa', hk⟩
    simp only [Nat.zero_add] at hk ⊢
    have hj : i < vs.length := (List.getElem?_eq_some_iff.mp hx).1
    obtain ⟨k, hkj⟩ : ∃ k, kz[i]? = some k := ⟨_, List.getElem?_eq_getElem (by omega)⟩
    have hz : kA.size ≤ vs.length := by
      have h1 := hk.length
      rw [Array.length_toList, List.length_take] at h1
      omega
    refine wpAny_bind (wpAny_attempt (wpAny_mono (turn i x k hx hkj s' [(kS, seqObj "list" kA e), (a, seqObj "list" #[] e1)] j' (fun p hp => ?_)) (fun v s'' he => ?_) fun _ _ hF => hF.elim))
    · rcases List.mem_cons.mp hp with rfl | hp
      · exact ⟨lk, ok'⟩
      · rw [List.mem_singleton.mp hp]
        exact ⟨la, oa'⟩
    obtain ⟨⟨t2, rfl⟩, j2, ow⟩ := he
    try dsimp only
    have ok2 := ow (kS, seqObj "list" kA e) (.head _)
    have oa2 := ow (a, seqObj "list" #[] e1) (.tail _ (.head _))
    have s1 := Heap.SameBut.update s''.heap kS (Obj.mapSeq (·.push (.int k t2)))
    obtain ⟨c2, hc2⟩ : ∃ c2, (s''.heap.update kS (Obj.mapSeq (·.push (.int k t2)))).get? kS = some (seqObj "list" (kA.push (.int k t2)) c2) := ⟨_, get?_update_seq ok2 (·.push (.int k t2))⟩
    have ek : kz.take (i + 1) = kz.take i ++ [k] := by rw [List.take_add_one, hkj]; simp
    have ea : (kA.push (Value.int k t2)).toList = kA.toList ++ [Value.int k t2] := by simp
    refine wpAny_bind (listUpdate_at ok2 rfl ?_ (by rw [sizeLine_eq]; omega) (Nat.le_trans (Nat.le_of_eq (Array.size_push ..)) (by rw [sizeLine_eq]; omega)))
    exact wpAny_pure ⟨rfl, S.upd _ _ _ lk j2, kA.push (.int k t2), c2, hc2, (s1.2 a hka.symm).trans oa2, by rw [ea, ek]; exact ksk_snoc hk⟩
  case done =>
    rintro s' ⟨j', kA, e, ok', oa', hk⟩
    have hk' : IntsAre kA.toList kz := by
      have e3 : kz.take (0 + vs.length) = kz := List.take_of_length_le (by omega)
      rw [e3] at hk
      exact hk
    try dsimp only
    refine wpAny_bind (listItems_at ok' rfl ?_)
    exact sk_end S j' ok' oa' hka lk la hk' hlen h64 h

theorem sk_sort {f : Value} {n : Nat} (S : Stays n₀ J) (j : J s) (ho : s.heap.get? a = some (seqObj "list" vs.toArray n)) (la : n₀ ≤ a) (hlen : kz.length = vs.length) (h64 : vs.length < 64)
    (turn : ∀ (i : Nat) (v : Value) (k : Int), vs[i]? = some v → kz[i]? = some k → KeyTurn prog w A n₀ J f v k)
    (h : ∀ s' out c, J s' → s'.heap.get? a = some (seqObj "list" out c) → KskOut false kz vs out.toList → P (.done (.ret .none)) s') :
    wpAny (model prog w) A (ksk_tree a f false) P E s := by
  have ha : a < s.heap.objs.size := Heap.lt_size ho
  obtain ⟨e1, ho1⟩ : ∃ e1, (s.heap.update a (Obj.mapSeq fun _ => (#[] : Array Value))).get? a = some (seqObj "list" #[] e1) := ⟨_, get?_update_seq ho fun _ => #[]⟩
  have hkS : ((s.heap.update a (Obj.mapSeq fun _ => (#[] : Array Value))).push (seqObj "tuple" vs.toArray 0)).objs.size = s.heap.objs.size + 1 := by rw [size_push', Heap.size_update]
  have j1 := S.push _ (seqObj "list" #[] 0) (S.push _ (seqObj "tuple" vs.toArray 0) (S.upd s a (Obj.mapSeq fun _ => (#[] : Array Value)) la j))
  have hn := S.size s j
  unfold ksk_tree
  refine wpAny_bind (listItems_at ho rfl ?_)
  refine wpAny_bind (listUpdate_at ho rfl ?_ (by rw [List.size_toArray, sizeLine_eq]; omega) (Nat.zero_le _))
  refine wpAny_bind (seqEpoch_at ho1 rfl ?_)
  refine wpAny_bind (wpAny_newTuple ?_ (by show vs.length ≤ _; rw [sizeLine_eq]; omega))
  refine wpAny_bind (wpAny_newList ?_ (Nat.zero_le _))
  refine wpAny_holding ?_
  refine sk_rest (s := { s with heap := ((s.heap.update a (Obj.mapSeq fun _ => (#[] : Array Value))).push (seqObj "tuple" vs.toArray 0)).push (seqObj "list" #[] 0) }) (kS := ((s.heap.update a (Obj.mapSeq fun _ => (#[] : Array Value))).push (seqObj "tuple" vs.toArray 0)).objs.size)
    S j1 (Heap.get?_push_size _ rfl) (Heap.get?_push_of_some _ (Heap.get?_push_of_some _ ho1)) (by rw [hkS]; exact Nat.ne_of_gt (Nat.lt_succ_of_lt ha)) (by rw [hkS]; exact Nat.le_succ_of_le hn) la hlen h64 turn h
end

section
variable {prog : Program} {w : World} {A : Around} {E : Value → Shared → Prop} {s : Shared} {l : Addr} {vs : List Value} {kz : List Int} {Q : Value → Shared → Prop} {J : Shared → Prop}
theorem sk_sorted {fa : Addr} (S : Stays s.heap.objs.size J) (j : J s) (hl : s.heap.IsList l vs.toArray) (hlen : kz.length = vs.length) (h64 : vs.length < 64)
    (turn : ∀ (i : Nat) (v : Value) (k : Int), vs[i]? = some v → kz[i]? = some k → KeyTurn prog w A.in1.in1 s.heap.objs.size J (.ref fa) v k)
    (h : ∀ s' D out c, J s' → s.heap.objs.size ≤ D → s'.heap.get? D = some (seqObj "list" out c) → KskOut false kz vs out.toList → Q (.ref D) s') :
    wpAny (model prog w) A (call (.builtin "sorted") [.ref l] [(Str.ofString "key", .ref fa)]) Q E s := by
  refine call_function_entry_kw kind_sorted plain_sorted entry_sorted (ksk_s1 _ _) ?_
  unfold Builtin.«sorted»
  refine wpAny_bind (m := checkCount "sorted" 1 1 _) (wpAny_pure ?_)
  refine wpAny_bind (collect_list hl ?_ (by rw [sizeLine_eq]; omega))
  refine wpAny_bind (wpAny_newList ?_ (by rw [sizeLine_eq]; omega))
  have hsz : ((s.heap.push (seqObj "list" #[] 0)).update s.heap.objs.size (Obj.mapSeq (· ++ vs.toArray))).objs.size = s.heap.objs.size + 1 := by
    rw [Heap.size_update, size_push']
  have hoL : (((s.heap.push (seqObj "list" #[] 0)).update s.heap.objs.size (Obj.mapSeq (· ++ vs.toArray))).push (seqObj "list" vs.toArray 0)).get? (s.heap.objs.size + 1) = some (seqObj "list" vs.toArray 0) := by
    rw [← hsz]; exact Heap.get?_push_size _ rfl
  have j1 := S.push _ (seqObj "list" vs.toArray 0) (S.upd _ s.heap.objs.size (Obj.mapSeq (· ++ vs.toArray)) (Nat.le_refl _) (S.push s (seqObj "list" #[] 0) j))
  show wpAny _ _ _ _ _ { s with heap := ((s.heap.push (seqObj "list" #[] 0)).update s.heap.objs.size (Obj.mapSeq (· ++ vs.toArray))).push (seqObj "list" vs.toArray 0) }
  rw [hsz]
  refine wpAny_bind (wpAny_holding (wpAny_call_entry_kw slot_list_sort ⟨_, hoL, rfl⟩ entry_list_sort ?body (ksk_l1 _ _)))
  case body =>
    show wpAny (model prog w) A.in1.in1 (Builtin.«list.sort» ⟨[.ref (s.heap.objs.size + 1)], [(Str.ofString "key", .ref fa)]⟩) _ _ _
    rw [ksk_t1]
    refine sk_sort (s := { s with heap := ((s.heap.push (seqObj "list" #[] 0)).update s.heap.objs.size (Obj.mapSeq (· ++ vs.toArray))).push (seqObj "list" vs.toArray 0) })
      S j1 hoL (Nat.le_succ _) hlen h64 turn fun s' out c j' o' k' => ⟨_, rfl, ?_⟩
    exact wpAny_pure ⟨_, rfl, h _ _ out c j' (Nat.le_succ _) o' k'⟩

/-- the keys are whole numbers and so are the things: what comes out is a permutation -/
theorem sk_perm {ns : List Int} {g : Int → Int} {out : List Value} (hi : IntsAre vs ns) (ko : KskOut false (ns.map g) vs out) : ∃ ms, IntsAre out ms ∧ ms.Perm ns := by
  have hlen := hi.length
  obtain ⟨ps, hp, ho, hs⟩ := ko
  have hm : (ps.map Prod.snd).Perm vs := by
    have h1 := hp.map Prod.snd
    rw [List.map_snd_zip (by rw [List.length_map]; omega)] at h1
    exact h1
  refine ⟨out.map numOf, ?_, ?_⟩
  · rw [ho]
    exact intsAre_map _ fun v hv => hi.all _ (hm.mem_iff.mp hv)
  · rw [ho]
    have h2 := hm.map numOf
    rw [hi.nums] at h2
    exact h2
end
end L2
set_option Elab.async false
set_option linter.all false
set_option maxRecDepth 100000
set_option maxHeartbeats 1000000
/-! a lambda of one parameter and one captured name, made and called from sorted -/
namespace L2
open PySem PySem.Spec PyProof.Rows PySem.W

/-- the module of the built-ins, as a def's making reads it -/
def BM (mg : Str → Option Value) (h : Heap) : Prop := ∃ bm ob, mg "__builtins__" = some (.ref bm) ∧ bm ≠ builtinsNs ∧ h.get? bm = some ob ∧ ob.cls = .type "module" ∧ ob.dict = some builtinsNs ∧ ob.data = .plain

section
variable {X : Cx} {pins : List (Addr × Obj)} {σ : St} {H : Hp} {s : Shared} {c P : Addr} {ps : Array Value} {params : Arguments} {body : Expr} {scope : Scope} {pos : Pos} {clos : List (Str × Addr)} {Q : Value → Shared → Prop}
/-- a table of codes grows -/
theorem Inv.tblUp {ps more : Array Value} {h' : Heap} {tk : Nat} (I : Inv X pins σ H s) (hP : H P = some (.tbl ps)) (k : ∀ b o, b ≠ P → s.heap.get? b = some o → h'.get? b = some o) (hp : h'.get? P = some { cls := .none, data := .fields (ps ++ more) }) :
    Inv X pins σ (upd H P (.tbl (ps ++ more))) { s with heap := h', toks := tk } := by
  have ne : ∀ b o, H b = some o → (∀ qs, o ≠ .tbl qs) → b ≠ P := fun b o q n z => by subst z; rw [hP] at q; cases q; exact n _ rfl
  have ne0 : ∀ b, H b = none → b ≠ P := fun b q z => by subst z; rw [hP] at q; cases q
  refine I.call' (ch := []) rfl ⟨fun b o q n _ _ => k b o (ne0 b n) q, fun b o q n _ _ => ⟨o.slots, k b o (ne0 b n) q⟩, fun b o q n _ => by rw [upd_ne (ne0 b n)]; exact n, fun b o q _ => ?_, fun b xs q => ?_, fun b o u q => ?_, fun b qs q => ?_⟩ (fun b u q => ?_) I.bare fun b hb => absurd hb (by simp)
  · by_cases e : b = P
    · subst e; exact ⟨_, hp⟩
    · exact ⟨o, k b o e q⟩
  · rw [upd_ne (ne b _ q fun _ z => by cases z)]; exact q
  · rw [upd_ne (ne b _ q fun _ z => by cases z)]; exact q
  · by_cases e : b = P
    · subst e
      rw [hP] at q; cases q
      exact ⟨more, by rw [upd_same]⟩
    · exact ⟨#[], by rw [upd_ne e, q]; simp⟩
  · by_cases e : b = P
    · subst e
      rw [upd_same] at q; cases q
      exact hp
    · rw [upd_ne e] at q
      refine (I.hok b u q).stay (fun c v hc r => k c v (fun z => ?_) r) (fun c r => by rw [upd_ne (ne c _ r fun _ z => by cases z)]; exact r) fun c xs r => by rw [upd_ne (ne c _ r fun _ z => by cases z)]; exact r
      rcases hc with w | w
      · exact e (w.symm.trans z)
      · subst z; rw [hP] at w; cases w

theorem lam_make (I : Inv X pins σ H s) (B : BM X.mg X.base) (C : CodeHd X.base c P) (hcd : X.env.code = .ref c) (hP : H P = some (.tbl ps)) (ht : TriplesOk ps.toList) (hn : codeAmong pos ps.toList = none) (hcl : closureFor scope X.env = pure clos) (hdef : defaultsOf params X.env = ([], []))
    (h : ∀ (f c' : Addr) (oc : Obj) (vs : Array Value) (t : Tok) (ctv : Value) (s' : Shared), s'.heap.objs.size = f + 1 → Inv X (pins ++ [(f, kla_obj "<lambda>" (X.env.qual ++ "<lambda>") params body scope clos ((X.mg "__name__").getD .none) c' ctv), (c', oc)]) σ (upd H P (.tbl (ps ++ #[rawInt pos.line, rawInt pos.col, .ref c']))) s' →
      oc.data = .fields vs → vs[1]? = some (.str (X.env.qual ++ "<lambda>") t) → Q (.ref f) s') :
    wpAny (model X.prog X.w) X.A (eval (.Lambda params body scope pos) X.env) Q X.xe s := by
  have hgP : mainGlobals ≠ P := fun q => by
    obtain ⟨o, es, ep, e, _⟩ := I.ok.mod.glob
    have := (I.bs _ _ e).2
    rw [q, hP] at this; cases this
  obtain ⟨bm, ob, b1, b2, b3, b4, b5, b6⟩ := B
  have hbP : bm ≠ P := fun q => by
    have := (I.bs _ _ b3).2
    rw [q, hP] at this; cases this
  have hbG : bm ≠ mainGlobals := fun q => by
    obtain ⟨o, es, ep, e, hd, _⟩ := I.ok.mod.glob
    rw [q, e] at b3; cases b3; rw [hd] at b6; cases b6
  have oP : s.heap.get? P = some (tabObj ps) := I.hok P _ hP
  refine kla_eval hdef (kla_makeFunction (mg := X.mg) hcl I.ok.glob (I.ok.mod.glob.keeps I.bk) hcd (C.keeps I.bk) oP ht hn hgP ⟨bm, ob, b1, b2, hbG, hbP, I.bk _ _ b3, b4, b5, b6⟩ fun c' ctv h' tk hx hge hlt hrec htb => ?_)
  obtain ⟨c₂, oc, vs, t, e2, hoc, hd, hv⟩ := hrec
  cases e2
  have lP : P < s.heap.objs.size := Heap.lt_size oP
  have hgf : s.heap.objs.size ≤ h'.objs.size := Nat.le_of_lt (Nat.lt_of_le_of_lt hge hlt)
  have I1 := I.tblUp (tk := tk) (h' := h'.push (kla_obj "<lambda>" (X.env.qual ++ "<lambda>") params body scope clos ((X.mg "__name__").getD .none) c' ctv)) hP (fun b o hb e => Heap.get?_push_of_some _ (hx b o hb e)) (Heap.get?_push_of_some _ htb)
  refine h h'.objs.size c' oc vs t ctv _ (Heap.size_push ..) (I1.pins_of fun p hp => ?_) hd hv
  rcases List.mem_append.mp hp with hp | hp
  · exact I1.pin p (List.mem_append_right _ hp)
  · rcases List.mem_cons.mp hp with rfl | hp
    · exact ⟨Heap.get?_push_size _ rfl, by rw [upd_ne (Nat.ne_of_gt (Nat.lt_of_lt_of_le lP hgf))]; exact I.hok.fresh hgf, Nat.ne_of_gt (Nat.lt_of_lt_of_le I.lt hgf), I.nofs hgf, fun v z => by cases z⟩
    · rw [List.mem_singleton.mp hp]
      exact ⟨Heap.get?_push_of_some _ hoc, by rw [upd_ne (Nat.ne_of_gt (Nat.lt_of_lt_of_le lP hge))]; exact I.hok.fresh hge, Nat.ne_of_gt (Nat.lt_of_lt_of_le I.lt hge), I.nofs hge, fun v z => by rw [hd] at z; cases z⟩
end

/-- the context of a lambda's body -/
def lamCx (P : Program) (w : World) (K : PySem.W.Frag) (mg : Str → Option Value) (base : Heap) (N : List Str) (qual : Str) (scope : Scope) (f : Addr) (cd : Value) (cl : List (Str × Addr)) (A : Around) (outer : List Env) (s : Shared) (H : Hp) : Cx where
  prog := P
  w := w
  K := K
  mg := mg
  base := base
  A := A.deeper (envX qual scope s.heap.objs.size f cd cl)
  N := N
  s₀ := s
  H₀ := H
  env := envX qual scope s.heap.objs.size f cd cl
  outer := outer
  stack := envX qual scope s.heap.objs.size f cd cl :: outer
  ex := []
  calm := true
  fn := fun _ => false
  pn := []
  xe := fun _ _ => False

structure LamScope (p c : Str) (sc : Scope) : Prop where
  kind : sc.kind = .function
  co : sc.isCoroutine = false
  gen : sc.isGenerator = false
  par : sc.names.lookup p = some .local
  cap : sc.names.lookup c = some .free
  nocell : ∀ x ∈ sc.names, x.2 ≠ .cell
  one : ∀ x ∈ sc.names, x.2 = .free → x.1 = c

section
variable {P : Program} {w : World} {K : PySem.W.Frag} {mg : Str → Option Value} {base : Heap} {A : Around} {outer : List Env} {s : Shared} {H : Hp} {name qual p c : Str} {params : Arguments} {body : Expr} {scope : Scope} {ca f c' : Addr} {pm ctv : Value} {t : TE} {Q : VK} {E : XK} {u uc : Value} {v vc : V}
theorem lam_run (S : LamScope p c scope) (ho : s.heap.get? f = some (kla_obj name qual params body scope [(c, ca)] pm c' ctv)) (hcr : s.heap.CodeRec (.ref c') qual) (hbind : bindArgs (kla_fn name qual params body scope [(c, ca)] pm (.ref c') ctv) ⟨[u], []⟩ = pure [(p, u)])
    (hdp : A.depth < recursionLimit) (hd : A.handled = none) (e0 : Env0 P w K mg base A outer s H) (hcell : s.heap.IsCell ca (some uc)) (rc : RelV vc uc) (fc : H ca = none) (rv : RelV v u)
    (hb : PE (lamCx P w K mg base [p, c] qual scope f (.ref c') [(c, ca)] A outer s H) body t) (q : t [some v, some vc] H Q) :
    codeAny (model P w) A (.call (.ref f) ⟨[u], []⟩) (CR CX0 outer P w H s Q E) s := by
  have lim : s.heap.NoLimit := e0.mod.nolimit.keeps fun b o e => (e0.bs b o e).1
  refine kla_callFunE hdp ho rfl S.co S.gen rfl hcr ?_
  rw [hbind]
  refine wpAny_pure (wpAny_newFunctionEnv S.nocell (fun x hx => ?_) (fun h₁ hns hsb => ⟨lim.fresh _ hsb, ?_⟩) S.kind)
  · rw [List.mem_singleton.mp hx]; exact S.par
  have hk₁ : ∀ b o, s.heap.get? b = some o → h₁.get? b = some o := fun b o e => hsb.extBut b o (Nat.ne_of_lt (Heap.lt_size e)) (Heap.get?_push_of_some _ e)
  have lk1 : ∀ y cc, ([(c, ca)] : List (Str × Addr)).lookup y = some cc → y = c ∧ cc = ca := fun y cc e => by
    have := PySem.mem_of_lookup e
    rw [List.mem_singleton] at this
    cases this
    exact ⟨rfl, rfl⟩
  have lk2 : ([(c, ca)] : List (Str × Addr)).lookup c = some ca := by rw [List.lookup_cons, beq_self_eq_true]
  have noA : ∀ b : Addr, b ∉ (lamCx P w K mg base [p, c] qual scope f (.ref c') [(c, ca)] A outer s H).ex := fun b z => absurd (show b ∈ ([] : List Addr) from z) (by simp)
  have cell₁ : h₁.IsCell ca (some uc) := by
    obtain ⟨o, e1, e2⟩ := hcell
    exact ⟨o, hk₁ _ _ e1, e2⟩
  have I : Inv (lamCx P w K mg base [p, c] qual scope f (.ref c') [(c, ca)] A outer s H) [] [some v, some vc] H { s with heap := h₁, toks := s.toks + [(p, u)].length } := by
    refine ⟨⟨e0.mod, S.kind, rfl, rfl, Nat.le_refl _, fun y z cc h1 h2 => (lk1 y cc h1).1.trans (lk1 z cc h2).1.symm, fun y hy => ?_, fun y cc z => absurd z Bool.false_ne_true, fun _ => hd, Around.frames_deeper e0.frames, .inr ⟨rfl, rfl⟩, fun b z => absurd z (noA b), e0.bs, e0.bsz, fun b _ _ => noA b, fun b z => absurd z (noA b), e0.funs, e0.frf⟩,
      rfl, e0.bare, Un.kept hk₁, ⟨_, hns, fun i y vv h1 h2 h3 => ?_⟩, fun y cc h => ?_, e0.hok.fresh (Nat.le_refl _), fun y cc h => ?_, fun p hp => absurd (show p ∈ ([] : List (Addr × Obj)) from hp) (by simp), e0.hok.kept hk₁, rfl⟩
    · have hy : scope.names.lookup y = some .cell ∨ scope.names.lookup y = some .free := hy
      rcases hy with hy | hy
      · exact absurd rfl (S.nocell _ (PySem.mem_of_lookup hy))
      · have e : y = c := S.one _ (PySem.mem_of_lookup hy) rfl
        exact ⟨ca, by rw [e]; exact lk2⟩
    · match i, h1, h2 with
      | 0, h1, h2 =>
        cases h1; cases h2
        exact ⟨u, rv, .inl ⟨S.par, by show ([(p, u)] : List (Str × Value)).reverse.lookup p = _; rw [List.reverse_singleton, List.lookup_cons, beq_self_eq_true]⟩⟩
      | 1, h1, h2 =>
        cases h1; cases h2
        exact ⟨uc, rc, .inr ⟨.inr S.cap, ca, lk2, cell₁⟩⟩
      | i + 2, h1, h2 => cases h1
    · rw [(lk1 y cc h).2]; exact ⟨_, cell₁⟩
    · rw [(lk1 y cc h).2]; exact fc
  show codeAny _ _ (.expr body (envX qual scope s.heap.objs.size f (.ref c') [(c, ca)])) _ _
  refine kla_codeExpr (wpAny_mono (hb [] _ _ H Q I q) (fun u' s' hs => ?_) fun e s' hs => hs.elim)
  obtain ⟨v', H', J, r', q'⟩ := hs
  exact ⟨v', H', J.os, J.bare, J.base, J.hok, r', q'⟩
end

section
variable {X : Cx} {pins : List (Addr × Obj)} {σ : St} {H : Hp}
/-- the state of a def stays through sorted's own writes -/
theorem Inv.stays {s : Shared} (I : Inv X pins σ H s) : Stays s.heap.objs.size (fun s' => Inv X pins σ H s' ∧ s.heap.objs.size ≤ s'.heap.objs.size) where
  size := fun s' j => j.2
  push := fun s' o j => ⟨j.1.kept (t' := s'.toks) fun b u e => Heap.get?_push_of_some _ e, by rw [Heap.size_push]; exact Nat.le_succ_of_le j.2⟩
  upd := fun s' a f la j => ⟨j.1.poked (ch := [a]) (fun b o hb e => ((Heap.SameBut.update s'.heap a f).2 b fun z => hb (by rw [z]; exact List.mem_singleton.mpr rfl)).trans e) fun b hb => by
      rw [List.mem_singleton.mp hb]
      exact I.fpOk la (I.hok.fresh la), by rw [Heap.size_update]; exact j.2⟩
end

/-- sorted(e, key=lambda n: body) of fewer than 64 whole numbers -/
abbrev skR (K : PySem.W.Frag) (P : Addr) (lpos : Pos) (i : Nat) (tb : TE) (σ : St) (Q : VK) (xs : List V) (H1 : Hp) : Prop := ∃ (a : Addr) (ns : List Int) (vc : V) (g : Int → Int) (ps : Array Value),
  xs = [.ref a] ∧ SqL K H1 a (ns.map V.int) ∧ ns.length < 64 ∧ σ[i]? = some (some vc) ∧ H1 P = some (.tbl ps) ∧ TriplesOk ps.toList ∧ codeAmong lpos ps.toList = none ∧
  (∀ n ∈ ns, ∀ more, tb [some (.int n), some vc] (upd H1 P (.tbl (ps ++ more))) (fun v H' => v = .int (g n) ∧ H' = upd H1 P (.tbl (ps ++ more)))) ∧
  ∀ (cr : Value) (l : Addr) (ms : List Int), ms.Perm ns → H1 l = none → l ≠ P → Q (.ref l) (upd (upd H1 P (.tbl (ps ++ #[rawInt lpos.line, rawInt lpos.col, cr]))) l (.lst (ms.map V.int)))
def tSK (K : PySem.W.Frag) (P : Addr) (lpos : Pos) (i : Nat) (te tb : TE) : TE := fun σ H Q => te σ H fun x H1 => skR K P lpos i tb σ Q [x] H1

section
variable {X : Cx} {e body : Expr} {te tb : TE} {params : Arguments} {scope : Scope} {lpos p kp pos : Pos} {c P : Addr} {pn cn : Str} {k : Nat}
theorem pe_sortKey (i : Nat) (he : PE X e te) (hg : Gl X "sorted") (hm : X.mg "sorted" = none) (B : BM X.mg X.base) (C : codeHdIn X.K c P = true) (hcd : X.env.code = .ref c) (S : LamScope pn cn scope) (hr : Room (k + 3) X.A)
    (hN : X.N[i]? = some cn) (hk : X.env.kindOf cn = some .cell) (ca : Addr) (hca : X.env.cells.lookup cn = some ca) (hcl : closureFor scope X.env = pure [(cn, ca)])
    (hbind : ∀ (pm ctv u : Value) (c' : Addr), bindArgs (kla_fn "<lambda>" (X.env.qual ++ "<lambda>") params body scope [(cn, ca)] pm (.ref c') ctv) ⟨[u], []⟩ = pure [(pn, u)])
    (hbody : ∀ (f c' : Addr) (A : Around) (outer : List Env) (s : Shared) (H : Hp), Room k (A.deeper (envX (X.env.qual ++ "<lambda>") scope s.heap.objs.size f (.ref c') [(cn, ca)])) →
      PE (lamCx X.prog X.w X.K X.mg X.base [pn, cn] (X.env.qual ++ "<lambda>") scope f (.ref c') [(cn, ca)] A outer s H) body tb)
    (hdef : defaultsOf params X.env = ([], []) := by rfl) (hst : starEach [e] X.env = [(false, eval e X.env)] := by rfl) :
    PE X (.Call (.Name "sorted" p) [e] [⟨some "key", .Lambda params body scope lpos, kp⟩] pos) (tSK X.K P lpos i te tb) := by
  intro pins s σ H Q I h
  refine wpAny_Call_Name_kw (ld_blt I hg hm (rfl : bootBuiltins "sorted" = some (.builtin "sorted")) ?_)
  have ha : PA X [e] (tCons te tNil) := pa_cons he pa_nil hst
  refine callWith_kw (thn (ha pos pins s σ H (skR X.K P lpos i tb σ Q) I h) fun us s1 ⟨vs, H1, I1, r1, q1⟩ => ?_) (by rw [hst]; rfl) (by rw [hst]; rfl)
  obtain ⟨a, ns, vc, g, ps, ex, hq, hn, hv, hP, ht, hnf, hb, q⟩ := q1
  subst ex
  obtain ⟨u, rfl, rx⟩ := vals1 r1
  cases rx
  refine kws_cons (lam_make I1 B (codeHd_of_K I1.ok.mod.kin C) hcd hP ht hnf hcl hdef fun f c' oc fvs t ctv s2 hsz I2 hd hfv => kws_nil ?_)
  show wpAny _ _ (call (.builtin "sorted") [.ref a] [(Str.ofString "key", .ref f)]) _ _ s2
  have ne : ∀ b o, H1 b = some o → (∀ qs, o ≠ .tbl qs) → b ≠ P := fun b o e n z => by subst z; rw [hP] at e; cases e; exact n _ rfl
  have hq2 : SqL X.K (upd H1 P (.tbl (ps ++ #[rawInt lpos.line, rawInt lpos.col, .ref c']))) a (ns.map V.int) := by
    rcases hq with (h | ⟨o, h⟩) | h
    · exact .inl (.inl (by rw [upd_ne (ne _ _ h fun _ z => by cases z)]; exact h))
    · exact .inl (.inr ⟨o, by rw [upd_ne (ne _ _ h fun _ z => by cases z)]; exact h⟩)
    · exact .inr h
  obtain ⟨its, rv, pl, hz⟩ := I2.list hq2
  have hi : IntsAre its ns := intsAre_of rv
  have hl : its.length = ns.length := by have := rv.length; rw [List.length_map] at this; exact this.symm
  have lP : P < s2.heap.objs.size := I2.hok.lt (show upd H1 P (.tbl (ps ++ #[rawInt lpos.line, rawInt lpos.col, .ref c'])) P = _ from upd_same ..)
  refine sk_sorted (kz := ns.map g) I2.stays ⟨I2, Nat.le_refl _⟩ pl.isList (by rw [List.length_map]; exact hl.symm) (by omega) (fun j v kk hjv hjk s3 own j3 hown => ?_) fun s3 D out cc j hD o ko => ?_
  · obtain ⟨I3, hn3⟩ := j3
    rw [List.getElem?_map] at hjk
    cases en : ns[j]? with
    | none => rw [en] at hjk; cases hjk
    | some n =>
      rw [en] at hjk
      cases (show some (g n) = some kk from hjk)
      obtain ⟨u, hu, ru⟩ := rv.get (x := .int n) (i := j) (by rw [List.getElem?_map, en]; rfl)
      rw [hjv] at hu
      cases hu
      obtain ⟨m, hns, hlk⟩ := I3.loc
      obtain ⟨uc, ruc, lk⟩ := hlk i cn vc hN hv (.inr (.inl hk))
      have hcell : s3.heap.IsCell ca (some uc) := by
        rcases lk with ⟨z, _⟩ | ⟨_, cb, e1, e2⟩
        · rw [hk] at z; cases z
        · rw [hca] at e1; cases e1; exact e2
      have p1 := I3.pin (f, kla_obj "<lambda>" (X.env.qual ++ "<lambda>") params body scope [(cn, ca)] ((X.mg "__name__").getD .none) c' ctv) (List.mem_append_right _ (List.mem_append_right _ (.head _)))
      have p2 := I3.pin (c', oc) (List.mem_append_right _ (List.mem_append_right _ (.tail _ (.head _))))
      have hr2 : Room (k + 1) X.A.in1.in1 := hr.in1.in1
      refine wpAny_call (codeAny_mono (lam_run (Q := fun v H' => v = .int (g n) ∧ H' = upd H1 P (.tbl (ps ++ #[rawInt lpos.line, rawInt lpos.col, .ref c']))) (E := E0) S p1.1 ⟨c', oc, fvs, t, rfl, p2.1, hd, hfv⟩ (hbind _ _ _ _) hr2.depth hr2.hd I3.env0.in1.in1 hcell ruc (I3.freeC cn ca hca) ru
        (hbody _ _ _ _ _ _ (hr2.deeper _)) (hb n (List.mem_of_getElem? en) _)) fun r s4 hq4 => ?_)
      cases r with
      | error e => exact hq4.elim
      | ok fl =>
        cases fl with
        | next => exact False.elim hq4
        | brk => exact False.elim hq4
        | cont => exact False.elim hq4
        | ret u4 =>
          have un := hq4
          obtain ⟨_, _, _, _, un, _⟩ := un
          obtain ⟨v4, H4, I4, r4, e1, e2⟩ := I3.after hq4
          subst e1 e2
          refine ⟨r4, ⟨I4, ?_⟩, fun p hp => ?_⟩
          · have p4 := I4.pin (f, kla_obj "<lambda>" (X.env.qual ++ "<lambda>") params body scope [(cn, ca)] ((X.mg "__name__").getD .none) c' ctv) (List.mem_append_right _ (List.mem_append_right _ (.head _)))
            have := Heap.lt_size p4.1
            rw [hsz]
            exact this
          · obtain ⟨hp1, hp2⟩ := hown p hp
            refine un.keep p.1 p.2 hp2 (I2.hok.fresh hp1) (fun z => ?_) (by simp)
            rcases List.mem_cons.mp (I2.stkSub _ z) with z | z
            · exact absurd (Nat.lt_of_lt_of_le I2.lt hp1) (by rw [z]; exact Nat.lt_irrefl _)
            · exact I2.nofs hp1 z
  · obtain ⟨ms, hms, hpm⟩ := sk_perm hi ko
    have I3 := j.1.unpinned
    have hf := I2.hok.fresh hD
    have dP : D ≠ P := Nat.ne_of_gt (Nat.lt_of_lt_of_le lP hD)
    have nA : NewAt X pins (upd H1 P (.tbl (ps ++ #[rawInt lpos.line, rawInt lpos.col, .ref c']))) D := I2.unpinned.newAt (Heap.get?_none_of_le hD)
    refine ⟨.ref D, _, I3.track (o := .lst (ms.map V.int)) nA ⟨?_, out.toList, cc, ints_vals hms, by rw [Array.toArray_toList]; exact o⟩, rfl, q _ D ms hpm (by rw [upd_ne dP] at hf; exact hf) dP⟩
    rw [List.length_map, hpm.length_eq]
    exact small_len (by omega)
end
end L2
set_option Elab.async false
set_option linter.all false
set_option maxRecDepth 100000
set_option maxHeartbeats 1000000
/-! the entry of a law some of whose defs hold a lambda: the tables of their codes are tracked -/
namespace L2
open PySem PySem.Spec PyProof.Rows PySem.W

theorem isTable_of {h : Heap} {c P : Addr} (C : CodeHd h c P) : isCodeTable h P := by
  obtain ⟨o, vs, file, tf, flags, tg, inF, text, tt, e1, e2, e3, e4, _⟩ := C
  exact ⟨c, o, vs, e1, e2, e3, e4⟩

theorem law_callT {P : Program} {w : World} {K : PySem.W.Frag} {mg mb : Str → Option Value} {CX : CXT} {k : Nat} {fa a : Addr} {fd : FuncData} {x : Str} {sp : Sp} {s₁ : Shared} {vs : List Value} {ns : List Int} {ts : List Addr}
    (KX : K.In s₁.heap) (hns : s₁.heap.Ns mainGlobals mg) (hb : s₁.heap.Ns builtinsNs mb) (hbb : ∀ x : Str, x ≠ "__name__" → mb x = bootBuiltins x) (hlim : s₁.heap.NoLimit) (hg : s₁.gens = #[]) (hbm : BM mg s₁.heap)
    (hT : ∀ p ∈ ts, s₁.heap.get? p = some (tabObj #[])) (hTK : ∀ p ∈ ts, K.lookup p = none ∧ ∃ c, codeHdIn K c p = true)
    (ha : s₁.heap.get? a = some { cls := .type "list", data := .seq vs.toArray }) (hi : IntsAre vs ns) (hl : ns.length ≤ sizeLine) (hr : Room k callerA)
    (F : ∀ base : Heap, K.In base → base.Ns mainGlobals mg → BM mg base → FnOk P w K mg base CX k fa fd [x] sp) (hbind : ∀ (s : Shared) (u : Value), BindsTo s fd ⟨[u], []⟩ [(x, u)])
    (hsp : ∀ H : Hp, (∀ p ∈ ts, H p = some (.tbl #[])) → SqL K H a (ns.map V.int) → sp [.ref a] H (fun v _ => v = .bl true) fun _ _ _ => False)
    (hCX : ∀ H e s', CX [] H s₁ (fun _ _ _ => False) e s' → False) :
    codeAny (model P w) callerA (.call (.ref fa) ⟨[.ref a], []⟩) (fun r s' => r = .ok (.ret (.bool true)) ∧ OldK s₁.heap s'.heap ∧ s'.os = s₁.os ∧ AllBare s'.gens) s₁ := by
  have rv := vals_ints hi
  have lenV := hi.length
  have na : a ∉ ts := fun z => by rw [hT a z] at ha; cases ha
  have core : ∀ H : Hp, (∀ b, H b = none ∨ (b = a ∧ ∃ o xs, H b = some (.frz o (.lst xs))) ∨ (b ∈ ts ∧ H b = some (.tbl #[]))) → (∀ p ∈ ts, H p = some (.tbl #[])) → SqL K H a (ns.map V.int) → HOk P w H s₁.heap → (H a ≠ none → K.lookup a = none) →
      codeAny (model P w) callerA (.call (.ref fa) ⟨[.ref a], []⟩) (fun r s' => r = .ok (.ret (.bool true)) ∧ OldK s₁.heap s'.heap ∧ s'.os = s₁.os ∧ AllBare s'.gens) s₁ := by
    intro H hO hTb hS hok hK
    have base_of : ∀ {b : Addr} {o : Obj}, s₁.heap.get? b = some o → H b = none → (hidT s₁.heap H).get? b = some o := fun e n => hidT_get e n
    have noA : ∀ {b : Addr} {o : Obj}, s₁.heap.get? b = some o → (∀ es n, o.data ≠ .seq es n) → (∀ vs, o.data ≠ .fields vs) → H b = none := fun {b o} e d1 d2 => by
      rcases hO b with q | ⟨q, _⟩ | ⟨q, _⟩
      · exact q
      · subst q
        rw [ha] at e; cases e
        exact absurd rfl (d1 _ _)
      · rw [hT b q] at e; cases e
        exact absurd rfl (d2 _)
    have nsK : ∀ {b : Addr} {m : Str → Option Value}, s₁.heap.Ns b m → (hidT s₁.heap H).Ns b m := fun {b m} ⟨o, es, ep, e, d, r⟩ => ⟨o, es, ep, base_of e (noA e (fun _ _ z => by rw [d] at z; cases z) fun _ z => by rw [d] at z; cases z), d, r⟩
    have hKb : K.In (hidT s₁.heap H) := fun b o e => base_of (KX b o e) (by
      rcases hO b with q | ⟨q, oo, xs, q2⟩ | ⟨q, _⟩
      · exact q
      · subst q
        rw [hK (by rw [q2]; simp)] at e; cases e
      · rw [(hTK b q).1] at e; cases e)
    have hM : Mod K mg (hidT s₁.heap H) := ⟨hKb, nsK hns, ⟨mb, nsK hb, hbb⟩, let ⟨mc, h1, h2⟩ := hlim; ⟨mc, nsK h1, h2⟩⟩
    have hB : BM mg (hidT s₁.heap H) := by
      obtain ⟨bm, ob, b1, b2, b3, b4, b5, b6⟩ := hbm
      exact ⟨bm, ob, b1, b2, base_of b3 (noA b3 (fun _ _ z => by rw [b6] at z; cases z) fun _ z => by rw [b6] at z; cases z), b4, b5, b6⟩
    have e0 : Env0 P w K mg (hidT s₁.heap H) callerA [] s₁ H := ⟨rfl, hM, fun b o e => of_hidT e, Nat.le_of_eq (hidT_size _ _), trivial, fun b hb => absurd (show b ∈ ([] : List Addr) from hb) (by simp), hok, .of_eq hg⟩
    refine codeAny_mono ((F _ hKb (nsK hns) hB).run callerA [] s₁ H ⟨[.ref a], []⟩ [.ref a] [.ref a] _ _ hr e0 (hbind s₁ (.ref a)) (.cons rfl .nil) (hsp H hTb hS)) fun r s' h => ?_
    cases r with
    | error e => exact (hCX H e s' h).elim
    | ok fl =>
      cases fl with
      | next => exact False.elim h
      | brk => exact False.elim h
      | cont => exact False.elim h
      | ret u =>
        obtain ⟨v, H', os, bare, un, hok', r', q⟩ := h
        have q' : v = .bl true := q
        subst q'
        obtain rfl : u = Value.bool true := r'
        have main : ∀ b o, s₁.heap.get? b = some o → asItWas s₁.heap s'.heap b o ∧ ∃ o', s'.heap.get? b = some o' := fun b o e => by
          rcases hO b with q | ⟨_, ob, xs, z⟩ | ⟨q, z⟩
          · have := un.keep b o e q (by intro z; exact absurd (show b ∈ ([] : List Addr) from z) (by simp)) (by simp)
            exact ⟨.inl this, o, this⟩
          · have z2 := un.frzs b ob _ z
            obtain ⟨e1, _⟩ := hok b _ z
            obtain ⟨e2, _⟩ := hok' b _ z2
            rw [e] at e1; cases e1
            exact ⟨.inl e2, _, e2⟩
          · obtain ⟨more, z2⟩ := un.tbls b _ z
            have e2 : s'.heap.get? b = some { cls := .none, data := .fields (#[] ++ more) } := hok' b _ z2
            have e1 := hT b q
            rw [e] at e1; cases e1
            obtain ⟨_, c, hc⟩ := hTK b q
            exact ⟨.inr (.inl ⟨isTable_of (codeHd_of_K KX hc), rfl, #[], more, rfl, e2⟩), _, e2⟩
        exact ⟨rfl, ⟨fun b o e => (main b o e).1, fun b o e => (main b o e).2⟩, os, bare⟩
  cases hk : K.lookup a with
  | some o =>
    have e := KX a o hk
    rw [ha] at e
    cases e
    refine core (fun b => if b ∈ ts then some (.tbl #[]) else none) (fun b => ?_) (fun p hp => if_pos hp) (.inr ⟨_, vs.toArray, _, hk, rfl, rfl, rfl, by rw [List.size_toArray, lenV]; exact hl, by simpa using rv⟩) (fun b u z => ?_) fun z => absurd (if_neg na) z
    · by_cases hb : b ∈ ts
      · exact .inr (.inr ⟨hb, if_pos hb⟩)
      · exact .inl (if_neg hb)
    · by_cases hb : b ∈ ts
      · have z' := (if_pos hb).symm.trans z
        cases z'
        exact hT b hb
      · have z' := (if_neg hb).symm.trans z
        cases z'
  | none =>
    refine core (fun b => if b = a then some (.frz { cls := .type "list", data := .seq vs.toArray } (.lst (ns.map V.int))) else if b ∈ ts then some (.tbl #[]) else none) (fun b => ?_) (fun p hp => ?_) (.inl (.inr ⟨{ cls := .type "list", data := .seq vs.toArray }, if_pos rfl⟩)) (fun b u z => ?_) fun _ => hk
    · by_cases hb : b = a
      · exact .inr (.inl ⟨hb, _, _, if_pos hb⟩)
      · by_cases hb2 : b ∈ ts
        · exact .inr (.inr ⟨hb2, by rw [if_neg hb, if_pos hb2]⟩)
        · exact .inl (by rw [if_neg hb, if_neg hb2])
    · have hb : p ≠ a := fun z => na (z ▸ hp)
      show (if p = a then _ else if p ∈ ts then _ else _) = _
      rw [if_neg hb, if_pos hp]
    · by_cases hb : b = a
      · have z' := (if_pos hb).symm.trans z
        cases z'
        subst hb
        exact ⟨ha, by rw [List.length_map]; exact hl, vs, _, rv, ha⟩
      · have z' := (if_neg hb).symm.trans z
        by_cases hb2 : b ∈ ts
        · have z'' := (if_pos hb2).symm.trans z'
          cases z''
          exact hT b hb2
        · have z'' := (if_neg hb2).symm.trans z'
          cases z''

theorem walk_ofT {l : PySem.W.OpenLaw} {n k : Nat} {q : Program} {loose : List Str} {XP : (Str → Option Value) → Heap → Prop} {YP : World → Heap → Prop} {d : DefRec} {K : Params → PySem.W.Frag} {CX : World → CXT} {sp : World → Sp} {x : Str} {ts : List Addr}
    (hn : l.most = some n) (hn2 : n ≤ sizeLine) (hdf : d.params.defaults = []) (hr : Room k callerA)
    (hY : ∀ (w : World) (h : Heap), YP w h → (K w.params).In h) (hYT : ∀ (w : World) (h : Heap), YP w h → ∀ p ∈ ts, h.get? p = some (tabObj #[]))
    (F : ∀ (w : World) (mg : Str → Option Value) (fa : Addr) (h : Heap), (K w.params).In h → h.Ns mainGlobals mg → mg d.name = some (.ref fa) →
      ∃ fd : FuncData, (∀ (s : Shared) (u : Value), BindsTo s fd ⟨[u], []⟩ [(x, u)]) ∧ (∀ p ∈ ts, (K w.params).lookup p = none ∧ ∃ c, codeHdIn (K w.params) c p = true) ∧
        ∀ base : Heap, (K w.params).In base → base.Ns mainGlobals mg → BM mg base → FnOk l.prog w (K w.params) mg base (CX w) k fa fd [x] (sp w))
    (hsp : ∀ (w : World) (H : Hp) (a : Addr) (ns : List Int), ns.length ≤ n → (∀ p ∈ ts, H p = some (.tbl #[])) → SqL (K w.params) H a (ns.map V.int) → sp w [.ref a] H (fun v _ => v = .bl true) fun _ _ _ => False)
    (hCX : ∀ (w : World) (H : Hp) (s : Shared) (e : Value) (s' : Shared), CX w [] H s (fun _ _ _ => False) e s' → False) :
    PySem.W.WalkO q loose XP YP l.row.toRowW d [] (fun f vs => PySem.call f vs) := by
  refine Att.attach_call hn hdf fun w s₀ s₁ mg mb fa o pm cd doc a vs ns G Y ho hd hcd hmg hobj hints hlen hg => ?_
  have KX := hY w _ Y
  obtain ⟨fd, hb, hTK, hF⟩ := F w mg fa _ KX G.T.g hmg
  exact law_callT KX G.T.g G.T.b G.T.builtins G.T.nolimit hg G.T.bmain (hYT w _ Y) hTK hobj hints (Nat.le_trans hlen hn2) hr hF hb (fun H hO hS => hsp w H a ns hlen hO hS) fun H e s' => hCX w H s₁ e s'

/-- a def of the text that holds a lambda: its code c, the table P of its codes -/
structure FunC (K : PySem.W.Frag) (x qual : Str) (st : Stmt) (f : Addr) (fd : FuncData) (c P : Addr) : Prop where
  ex : ∃ (oc : Value) (od : Option Addr) (kV doc pm : Value) (an : Option Addr) (ct : Value) (osl : Array (Option Value)),
    fd = PySem.W.fnOf x qual (defArgs st) (defBody st) (defScope st) .none kV doc pm an (.ref c) ct ∧ K.lookup f = some ⟨oc, od, .func fd, osl⟩ ∧ PySem.W.codeIn K (.ref c) qual = true
  hd : codeHdIn K c P = true
theorem funC_mk {K : PySem.W.Frag} {x qual : Str} {st : Stmt} {f : Addr} {oc : Value} {od an : Option Addr} {osl : Array (Option Value)} {kV doc pm cdv ct : Value} {c P : Addr} (l : K.lookup f = some ⟨oc, od, .func (PySem.W.fnOf x qual (defArgs st) (defBody st) (defScope st) .none kV doc pm an cdv ct), osl⟩)
    (hc : PySem.W.codeIn K cdv qual = true) (e : cdv = .ref c) (h : codeHdIn K c P = true) : FunC K x qual st f (PySem.W.fnOf x qual (defArgs st) (defBody st) (defScope st) .none kV doc pm an cdv ct) c P := by
  subst e
  exact ⟨⟨oc, od, kV, doc, pm, an, ct, osl, rfl, l, hc⟩, h⟩
section
variable {P : Program} {w : World} {K : PySem.W.Frag} {mg : Str → Option Value} {base : Heap}
theorem FunC.ok {x qual : Str} {st : Stmt} {f : Addr} {fd : FuncData} {c Pt : Addr} {N ps : List Str} {k : Nat} {sp : Sp} (F : FunC K x qual st f fd c Pt) (S : FnScope N ps (defScope st)) (len : ∀ vs H Q E, sp vs H Q E → vs.length = ps.length)
    (hbody : ∀ (A : Around) (outer : List Env) (s : Shared) (H : Hp) (vs : List V) (Q : VK) (E : XK), Room k (A.deeper (envOfC qual (defScope st) s.heap.objs.size f (.ref c))) → sp vs H Q E →
      ∃ t, PSs (cxOf CX0 P w K mg base N qual (defScope st) f (.ref c) A outer s H E).nox (defBody st) t ∧ t { nx := fun _ H' => Q .non H', rt := Q } (start N vs) H) : FnOk P w K mg base CX0 (k + 1) f fd ps sp := by
  obtain ⟨oc, od, kV, doc, pm, an, ct, osl, rfl, lk, hcd⟩ := F.ex
  refine fn_of lk hcd S len fun A outer s H vs Q E hr hsp => ?_
  obtain ⟨t, h, q⟩ := hbody A outer s H vs Q E hr hsp
  exact ⟨t, h.nox, q⟩
end
end L2
set_option Elab.async false
set_option linter.all false
set_option maxRecDepth 100000
set_option maxHeartbeats 1000000
namespace K03
open PySem L2 PyProof.Rows PySem.W
/-! ### the text by places -/
def top (i : Nat) : Stmt := PySem.Challenge.pw_volumemend_k03_maps.main.body.getD i (.Pass ⟨0, 0, 0, 0⟩)
abbrev s_Layout_init : Stmt := inClass (top 7) 0
abbrev s_Layout_record_at : Stmt := inClass (top 7) 2
abbrev s_Layout_names_at : Stmt := inClass (top 7) 3
abbrev s_Layout_data_at : Stmt := inClass (top 7) 4
abbrev s_bit_of : Stmt := top 10
abbrev s_is_told : Stmt := top 11
abbrev s_map_row : Stmt := top 12
abbrev s_claimed_of : Stmt := top 13
abbrev s_free_of : Stmt := top 14
abbrev s_l_cell : Stmt := top 16
abbrev s_l_mixed : Stmt := top 17
abbrev s_l_layout : Stmt := top 18
abbrev s_l_some : Stmt := top 19
abbrev s_l_row : Stmt := top 20
abbrev s_l_blocks : Stmt := top 21
abbrev s_law : Stmt := top 22
theorem sc_Layout_init : FnScope ["self", "files", "slots", "data"] ["self", "files", "slots", "data"] (defScope s_Layout_init) := ⟨rfl, rfl, rfl, by decide +kernel, rfl, by decide +kernel, by decide +kernel⟩
theorem sc_Layout_record_at : FnScope ["self", "f"] ["self", "f"] (defScope s_Layout_record_at) := ⟨rfl, rfl, rfl, by decide +kernel, rfl, by decide +kernel, by decide +kernel⟩
theorem sc_Layout_names_at : FnScope ["self", "e"] ["self", "e"] (defScope s_Layout_names_at) := ⟨rfl, rfl, rfl, by decide +kernel, rfl, by decide +kernel, by decide +kernel⟩
theorem sc_Layout_data_at : FnScope ["self", "i"] ["self", "i"] (defScope s_Layout_data_at) := ⟨rfl, rfl, rfl, by decide +kernel, rfl, by decide +kernel, by decide +kernel⟩
theorem sc_bit_of : FnScope ["place", "bit", "step"] ["place"] (defScope s_bit_of) := ⟨rfl, rfl, rfl, by decide +kernel, rfl, by decide +kernel, by decide +kernel⟩
theorem sc_is_told : FnScope ["row", "place"] ["row", "place"] (defScope s_is_told) := ⟨rfl, rfl, rfl, by decide +kernel, rfl, by decide +kernel, by decide +kernel⟩
theorem sc_map_row : FnScope ["layout", "blocks", "row", "place"] ["layout", "blocks"] (defScope s_map_row) := ⟨rfl, rfl, rfl, by decide +kernel, rfl, by decide +kernel, by decide +kernel⟩
theorem sc_claimed_of : FnScope ["layout", "row"] ["layout", "row"] (defScope s_claimed_of) := ⟨rfl, rfl, rfl, by decide +kernel, rfl, by decide +kernel, by decide +kernel⟩
theorem sc_free_of : FnScope ["layout", "row"] ["layout", "row"] (defScope s_free_of) := ⟨rfl, rfl, rfl, by decide +kernel, rfl, by decide +kernel, by decide +kernel⟩
theorem sc_l_cell : FnScope ["_law_script", "_law_k"] ["_law_script", "_law_k"] (defScope s_l_cell) := ⟨rfl, rfl, rfl, by decide +kernel, rfl, by decide +kernel, by decide +kernel⟩
theorem sc_l_mixed : FnScope ["_law_cell_here", "_law_k", "_law_number"] ["_law_cell_here", "_law_k"] (defScope s_l_mixed) := ⟨rfl, rfl, rfl, by decide +kernel, rfl, by decide +kernel, by decide +kernel⟩
theorem sc_l_layout : FnScope ["_law_script", "_law_files", "_law_slots", "_law_data"] ["_law_script"] (defScope s_l_layout) := ⟨rfl, rfl, rfl, by decide +kernel, rfl, by decide +kernel, by decide +kernel⟩
theorem sc_l_some : FnScope ["_law_layout_here", "_law_cell_here", "_law_some_here", "_law_place"] ["_law_layout_here", "_law_cell_here"] (defScope s_l_some) := ⟨rfl, rfl, rfl, by decide +kernel, rfl, by decide +kernel, by decide +kernel⟩
theorem sc_l_row : FnScope ["_law_layout_here", "_law_some_here", "_law_row_here", "_law_number", "_law_place", "_law_bit", "_law_turn"] ["_law_layout_here", "_law_some_here"] (defScope s_l_row) := ⟨rfl, rfl, rfl, by decide +kernel, rfl, by decide +kernel, by decide +kernel⟩
theorem sc_l_blocks : FnScope ["_law_found", "_law_due"] ["_law_found", "_law_due"] (defScope s_l_blocks) := ⟨rfl, rfl, rfl, by decide +kernel, rfl, by decide +kernel, by decide +kernel⟩
theorem sc_law : FnScope ["_law_script", "_law_layout_here", "_law_some_here", "_law_rest", "_law_handed", "_law_kept", "_law_found", "_law_due"] ["_law_script"] (defScope s_law) := ⟨rfl, rfl, rfl, by decide +kernel, rfl, by decide +kernel, by decide +kernel⟩
/-! ### what the top has written -/
set_option genInjectivity false in
set_option genSizeOfSpec false in
structure Tx (K : PySem.W.Frag) (mg : Str → Option Value) where
  C_Layout : Addr
  cl_Layout : Cls K C_Layout
  g_Layout : mg "Layout" = some (.ref C_Layout)
  n_Layout_files : NoAttr K C_Layout "files"
  n_Layout_slots : NoAttr K C_Layout "slots"
  n_Layout_data : NoAttr K C_Layout "data"
  C_NoLayout : Addr
  g_NoLayout : mg "NoLayout" = some (.ref C_NoLayout)
  f_Layout_init : Addr
  fd_Layout_init : FuncData
  F_Layout_init : Fun K "__init__" "Layout.__init__" s_Layout_init f_Layout_init fd_Layout_init
  b_Layout_init : Binds K fd_Layout_init ["self", "files", "slots", "data"] []
  mk_Layout : Mk K C_Layout f_Layout_init
  f_Layout_record_at : Addr
  fd_Layout_record_at : FuncData
  F_Layout_record_at : Fun K "record_at" "Layout.record_at" s_Layout_record_at f_Layout_record_at fd_Layout_record_at
  b_Layout_record_at : Binds K fd_Layout_record_at ["self", "f"] []
  m_Layout_record_at : Meth K C_Layout "record_at" f_Layout_record_at
  f_Layout_names_at : Addr
  fd_Layout_names_at : FuncData
  F_Layout_names_at : Fun K "names_at" "Layout.names_at" s_Layout_names_at f_Layout_names_at fd_Layout_names_at
  b_Layout_names_at : Binds K fd_Layout_names_at ["self", "e"] []
  m_Layout_names_at : Meth K C_Layout "names_at" f_Layout_names_at
  f_Layout_data_at : Addr
  fd_Layout_data_at : FuncData
  F_Layout_data_at : Fun K "data_at" "Layout.data_at" s_Layout_data_at f_Layout_data_at fd_Layout_data_at
  b_Layout_data_at : Binds K fd_Layout_data_at ["self", "i"] []
  m_Layout_data_at : Meth K C_Layout "data_at" f_Layout_data_at
  f_bit_of : Addr
  fd_bit_of : FuncData
  F_bit_of : Fun K "bit_of" "bit_of" s_bit_of f_bit_of fd_bit_of
  b_bit_of : Binds K fd_bit_of ["place"] []
  g_bit_of : mg "bit_of" = some (.ref f_bit_of)
  f_is_told : Addr
  fd_is_told : FuncData
  F_is_told : Fun K "is_told" "is_told" s_is_told f_is_told fd_is_told
  b_is_told : Binds K fd_is_told ["row", "place"] []
  g_is_told : mg "is_told" = some (.ref f_is_told)
  f_map_row : Addr
  fd_map_row : FuncData
  F_map_row : Fun K "map_row" "map_row" s_map_row f_map_row fd_map_row
  b_map_row : Binds K fd_map_row ["layout", "blocks"] []
  g_map_row : mg "map_row" = some (.ref f_map_row)
  f_claimed_of : Addr
  fd_claimed_of : FuncData
  F_claimed_of : Fun K "claimed_of" "claimed_of" s_claimed_of f_claimed_of fd_claimed_of
  b_claimed_of : Binds K fd_claimed_of ["layout", "row"] []
  g_claimed_of : mg "claimed_of" = some (.ref f_claimed_of)
  f_free_of : Addr
  fd_free_of : FuncData
  F_free_of : Fun K "free_of" "free_of" s_free_of f_free_of fd_free_of
  b_free_of : Binds K fd_free_of ["layout", "row"] []
  g_free_of : mg "free_of" = some (.ref f_free_of)
  f_l_cell : Addr
  fd_l_cell : FuncData
  F_l_cell : Fun K "_law_cell" "_law_cell" s_l_cell f_l_cell fd_l_cell
  b_l_cell : Binds K fd_l_cell ["_law_script", "_law_k"] []
  g_l_cell : mg "_law_cell" = some (.ref f_l_cell)
  f_l_mixed : Addr
  fd_l_mixed : FuncData
  F_l_mixed : Fun K "_law_mixed" "_law_mixed" s_l_mixed f_l_mixed fd_l_mixed
  b_l_mixed : Binds K fd_l_mixed ["_law_cell_here", "_law_k"] []
  g_l_mixed : mg "_law_mixed" = some (.ref f_l_mixed)
  f_l_layout : Addr
  fd_l_layout : FuncData
  F_l_layout : Fun K "_law_layout" "_law_layout" s_l_layout f_l_layout fd_l_layout
  b_l_layout : Binds K fd_l_layout ["_law_script"] []
  g_l_layout : mg "_law_layout" = some (.ref f_l_layout)
  f_l_some : Addr
  fd_l_some : FuncData
  F_l_some : Fun K "_law_some" "_law_some" s_l_some f_l_some fd_l_some
  b_l_some : Binds K fd_l_some ["_law_layout_here", "_law_cell_here"] []
  g_l_some : mg "_law_some" = some (.ref f_l_some)
  f_l_row : Addr
  fd_l_row : FuncData
  F_l_row : Fun K "_law_row" "_law_row" s_l_row f_l_row fd_l_row
  b_l_row : Binds K fd_l_row ["_law_layout_here", "_law_some_here"] []
  g_l_row : mg "_law_row" = some (.ref f_l_row)
  f_l_blocks : Addr
  fd_l_blocks : FuncData
  F_l_blocks : Fun K "_law_blocks" "_law_blocks" s_l_blocks f_l_blocks fd_l_blocks
  b_l_blocks : Binds K fd_l_blocks ["_law_found", "_law_due"] []
  g_l_blocks : mg "_law_blocks" = some (.ref f_l_blocks)
  f_law : Addr
  fd_law : FuncData
  F_law : Fun K "law" "law" s_law f_law fd_law
  b_law : Binds K fd_law ["_law_script"] []
  cc_law : Addr
  P_law : Addr
  FC_law : FunC K "law" "law" s_law f_law fd_law cc_law P_law
  g_law : mg "law" = some (.ref f_law)
  t_WIDE : Tok
  g_WIDE : mg "WIDE" = some (.int 8 t_WIDE)
  t_RECORDS_AT : Tok
  g_RECORDS_AT : mg "RECORDS_AT" = some (.int 10 t_RECORDS_AT)
  t_BITS : Tok
  g_BITS : mg "BITS" = some (.int 20 t_BITS)
  ex_NoLayout : PySem.W.excIn K C_NoLayout bmV "ValueError.__new__" = true
  z_len : mg "len" = none
  z_range : mg "range" = none
  z_isinstance : mg "isinstance" = none
  z_list : mg "list" = none
  z_bool : mg "bool" = none
  z_sorted : mg "sorted" = none
def lay (F E B : Int) : List (Str × V) := putF "data" (.int B) (putF "slots" (.int E) (putF "files" (.int F) []))
theorem fs : ¬ (("files" : Str) = "slots") := by decide +kernel
theorem fd : ¬ (("files" : Str) = "data") := by decide +kernel
theorem sd : ¬ (("slots" : Str) = "data") := by decide +kernel
theorem lay_files (F E B : Int) : (lay F E B).lookup ("files" : Str) = some (.int F) := by
  unfold lay
  rw [lookup_putF, if_neg fd, lookup_putF, if_neg fs, lookup_putF, if_pos rfl]
theorem lay_slots (F E B : Int) : (lay F E B).lookup ("slots" : Str) = some (.int E) := by
  unfold lay
  rw [lookup_putF, if_neg sd, lookup_putF, if_pos rfl]
theorem lay_data (F E B : Int) : (lay F E B).lookup ("data" : Str) = some (.int B) := by
  unfold lay
  rw [lookup_putF, if_pos rfl]
theorem lay_no (F E B : Int) {m : Str} (h1 : ¬ m = "files") (h2 : ¬ m = "slots") (h3 : ¬ m = "data") : (lay F E B).lookup m = none := by
  unfold lay
  rw [lookup_putF, if_neg h3, lookup_putF, if_neg h2, lookup_putF, if_neg h1]
  rfl
/-- a layout stands at p -/
def Lay (C : Addr) (H : Hp) (p : Addr) (F E B : Int) : Prop := ∃ dx, H p = some (.ins C dx (lay F E B))
structure LayOk (F E B : Int) : Prop where
  f1 : 2 ≤ F
  f2 : F ≤ 12
  e1 : 1 ≤ E
  e2 : E ≤ 8
  b1 : 2 ≤ B
  b2 : B ≤ 40
theorem Lay.same {C : Addr} {H H' : Hp} {p : Addr} {F E B : Int} (h : Lay C H p F E B) (s : Same H H') : Lay C H' p F E B := let ⟨dx, e⟩ := h; ⟨dx, s _ _ e⟩
def spInit (C N : Addr) : Sp := fun vs H Q X => ∃ (p dx : Addr) (F E B : Int), vs = [.ref p, .int F, .int E, .int B] ∧ H p = some (.ins C dx []) ∧
  (LayOk F E B → ∀ H' : Hp, H' p = some (.ins C dx (lay F E B)) → (∀ b o, H b = some o → b ≠ p → H' b = some o) → Q .non H') ∧ (¬ LayOk F E B → X (.ref N) none H)
def spAt (C : Addr) (g : Int → Int → Int → Int → Int) : Sp := fun vs H Q _ => ∃ (p : Addr) (F E B n : Int), vs = [.ref p, .int n] ∧ Lay C H p F E B ∧ Q (.int (g F E B n)) H
/-! ### numbers of a cell -/
def mixN (c k : Int) : Int := (c + 7919 * k + 1) * 48271 % 2147483647
def mix (c k : Int) : Int := mixN c k * (mixN c k / 1009 + 69621) % 2147483647
def spCell (K : PySem.W.Frag) : Sp := fun vs H Q _ => ∃ (a : Addr) (ns : List Int) (k : Nat), vs = [.ref a, .int k] ∧ SqL K H a (ns.map V.int) ∧ ns.length ≤ 63 ∧ Q (.int (ns.getD k 0)) H
def spMixed : Sp := fun vs H Q _ => ∃ c k : Int, vs = [.int c, .int k] ∧ Q (.int (mix c k)) H
def spLayout (K : PySem.W.Frag) (C : Addr) : Sp := fun vs H Q _ => ∃ (a : Addr) (ns : List Int), vs = [.ref a] ∧ SqL K H a (ns.map V.int) ∧ ns.length ≤ 63 ∧ ∀ (p : Addr) (F E B : Int) (H' : Hp), LayOk F E B → Lay C H' p F E B → Same H H' → Q (.ref p) H'
section
variable {P : Program} {w : World} {K : PySem.W.Frag} {mg : Str → Option Value} {base : Heap}
theorem ok_init (T : Tx K mg) : FnOk P w K mg base (CX1 P w) 1 T.f_Layout_init T.fd_Layout_init ["self", "files", "slots", "data"] (spInit T.C_Layout T.C_NoLayout) := by
  refine T.F_Layout_init.okX sc_Layout_init (fun vs H Q E h => ?_) (fun cdv A outer s H vs Q X hr h => ?_)
  · obtain ⟨p, dx, F, E, B, rfl, _⟩ := h
    rfl
  · obtain ⟨p, dx, F, E, B, rfl, hp, k, kx⟩ := h
    refine ⟨_, pss_cons (ps_if (pt_not (pt_chain op_le op_le pe_int (pv 1) pe_int)) (pss_one (ps_raise rfl T.ex_NoLayout rfl T.g_NoLayout takesN_cx (pa_cons pe_str pa_nil))) pss_nil)
      (pss_cons (ps_if (pt_not (pt_chain op_le op_le pe_int (pv 2) pe_int)) (pss_one (ps_raise rfl T.ex_NoLayout rfl T.g_NoLayout takesN_cx (pa_cons pe_str pa_nil))) pss_nil)
      (pss_cons (ps_if (pt_not (pt_chain op_le op_le pe_int (pv 3) pe_int)) (pss_one (ps_raise rfl T.ex_NoLayout rfl T.g_NoLayout takesN_cx (pa_cons pe_str pa_nil))) pss_nil)
      (pss_cons (ps_fld (pv 0) (pv 1) rfl) (pss_cons (ps_fld (pv 0) (pv 2) rfl) (pss_one (ps_fld (pv 0) (pv 3) rfl)))))), ?_⟩
    have no : ¬ LayOk F E B → [V.str "x"].length ≤ sizeLine ∧ X (.ref T.C_NoLayout) none H := fun h => ⟨by decide, kx h⟩
    refine ⟨_, rfl, _, _, rfl, rfl, _, rfl, ite2 (fun f1 => ?_) (fun f1 => ⟨_, rfl, iteT (no fun ok => f1 (by simpa using ok.f1))⟩)⟩
    refine ⟨_, _, rfl, rfl, _, rfl, ite2 (fun f2 => no fun ok => by simp [ok.f2] at f2) (fun f2 => ?_)⟩
    refine ⟨_, rfl, _, _, rfl, rfl, _, rfl, ite2 (fun e1 => ?_) (fun e1 => ⟨_, rfl, iteT (no fun ok => e1 (by simpa using ok.e1))⟩)⟩
    refine ⟨_, _, rfl, rfl, _, rfl, ite2 (fun e2 => no fun ok => by simp [ok.e2] at e2) (fun e2 => ?_)⟩
    refine ⟨_, rfl, _, _, rfl, rfl, _, rfl, ite2 (fun b1 => ?_) (fun b1 => ⟨_, rfl, iteT (no fun ok => b1 (by simpa using ok.b1))⟩)⟩
    refine ⟨_, _, rfl, rfl, _, rfl, ite2 (fun b2 => no fun ok => by simp [ok.b2] at b2) (fun b2 => ?_)⟩
    have ok : LayOk F E B := ⟨by simpa using f1, by simpa using f2, by simpa using e1, by simpa using e2, by simpa using b1, by simpa using b2⟩
    refine ⟨_, rfl, _, rfl, p, T.C_Layout, dx, _, rfl, hp, T.cl_Layout, T.n_Layout_files, (by show 0 < 1000; decide), ?_⟩
    refine ⟨_, rfl, _, rfl, p, T.C_Layout, dx, _, rfl, upd_same, T.cl_Layout, T.n_Layout_slots, Nat.lt_of_le_of_lt (length_putF _ _ _) (by decide), ?_⟩
    refine ⟨_, rfl, _, rfl, p, T.C_Layout, dx, _, rfl, upd_same, T.cl_Layout, T.n_Layout_data, Nat.lt_of_le_of_lt (length_putF _ _ _) (Nat.lt_of_le_of_lt (Nat.add_le_add_right (length_putF _ _ _) 1) (by decide)), ?_⟩
    refine k ok _ upd_same fun b o e hb => ?_
    rw [upd_ne hb, upd_ne hb, upd_ne hb]
    exact e
theorem ok_record_at (T : Tx K mg) : FnOk P w K mg base CX0 1 T.f_Layout_record_at T.fd_Layout_record_at ["self", "f"] (spAt T.C_Layout fun _ _ _ n => 10 + n) := by
  refine T.F_Layout_record_at.ok sc_Layout_record_at (fun vs H Q E h => ?_) (fun cdv A outer s H vs Q E hr h => ?_)
  · obtain ⟨p, F, E, B, n, rfl, _⟩ := h
    rfl
  · obtain ⟨p, F, E, B, n, rfl, hp, k⟩ := h
    refine ⟨_, pss_one (ps_ret (pe_op op_add (pe_glob (v := .int 10) rfl T.g_RECORDS_AT ⟨_, rfl⟩) (pv 1))), ?_⟩
    exact ⟨_, rfl, _, _, rfl, rfl, k⟩
theorem ok_names_at (T : Tx K mg) : FnOk P w K mg base CX0 2 T.f_Layout_names_at T.fd_Layout_names_at ["self", "e"] (spAt T.C_Layout fun F _ _ n => 10 + F + n) := by
  refine T.F_Layout_names_at.ok sc_Layout_names_at (fun vs H Q E h => ?_) (fun cdv A outer s H vs Q E hr h => ?_)
  · obtain ⟨p, F, E, B, n, rfl, _⟩ := h
    rfl
  · obtain ⟨p, F, E, B, n, rfl, ⟨dx, hp⟩, k⟩ := h
    refine ⟨_, pss_one (ps_ret (pe_op op_add (pe_meth (pv 0) T.cl_Layout T.m_Layout_record_at (ok_record_at T) hr T.b_Layout_record_at .nil pass0 (pa_cons (pe_fld (pv 0) rfl) pa_nil)) (pv 1))), ?_⟩
    exact ⟨_, rfl, p, dx, _, rfl, hp, lay_no _ _ _ (by decide +kernel) (by decide +kernel) (by decide +kernel), _, rfl, p, T.C_Layout, dx, _, _, rfl, hp, T.cl_Layout, T.n_Layout_files, lay_files _ _ _, p, F, E, B, F, rfl, ⟨dx, hp⟩, _, rfl, _, _, rfl, rfl, k⟩
theorem ok_data_at (T : Tx K mg) : FnOk P w K mg base CX0 3 T.f_Layout_data_at T.fd_Layout_data_at ["self", "i"] (spAt T.C_Layout fun F E _ n => 10 + F + E + n) := by
  refine T.F_Layout_data_at.ok sc_Layout_data_at (fun vs H Q E h => ?_) (fun cdv A outer s H vs Q E hr h => ?_)
  · obtain ⟨p, F, E, B, n, rfl, _⟩ := h
    rfl
  · obtain ⟨p, F, E, B, n, rfl, ⟨dx, hp⟩, k⟩ := h
    refine ⟨_, pss_one (ps_ret (pe_op op_add (pe_meth (pv 0) T.cl_Layout T.m_Layout_names_at (ok_names_at T) hr T.b_Layout_names_at .nil pass0 (pa_cons (pe_fld (pv 0) rfl) pa_nil)) (pv 1))), ?_⟩
    exact ⟨_, rfl, p, dx, _, rfl, hp, lay_no _ _ _ (by decide +kernel) (by decide +kernel) (by decide +kernel), _, rfl, p, T.C_Layout, dx, _, _, rfl, hp, T.cl_Layout, T.n_Layout_slots, lay_slots _ _ _, p, F, E, B, E, rfl, ⟨dx, hp⟩, _, rfl, _, _, rfl, rfl, k⟩
theorem ok_cell (T : Tx K mg) : FnOk P w K mg base CX0 1 T.f_l_cell T.fd_l_cell ["_law_script", "_law_k"] (spCell K) := by
  refine T.F_l_cell.ok sc_l_cell (fun vs H Q E h => ?_) (fun cdv A outer s H vs Q E hr h => ?_)
  · obtain ⟨a, ns, k, rfl, _⟩ := h
    rfl
  · obtain ⟨a, ns, k, rfl, hS, hl, q⟩ := h
    refine ⟨_, pss_cons (ps_if (pt_cmpR op_lt (pv 1) (pe_callB call_len_seq rfl T.z_len PySem.boot_len (pa_cons (pv 0) pa_nil)) (nomark _)) (pss_one (ps_ret (pe_ix ix_list (pv 0) (pv 1) (fun _ _ => rfl)))) pss_nil) (pss_one (ps_ret pe_int)), ?_⟩
    refine ⟨_, rfl, _, rfl, a, _, rfl, .inl hS, _, _, rfl, rfl, _, rfl, ite2 (fun h => ?_) (fun h => ?_)⟩
    rotate_left
    · have hk : ns.length ≤ k := by
        have := of_decide_eq_false (Bool.eq_false_iff.mpr h)
        rw [List.length_map] at this
        omega
      rw [List.getD_eq_getElem?_getD, List.getElem?_eq_none hk] at q
      exact q
    have hk : k < ns.length := by
      have := of_decide_eq_true h
      rw [List.length_map] at this
      omega
    rw [List.getD_eq_getElem?_getD, List.getElem?_eq_getElem hk] at q
    exact ⟨_, rfl, _, rfl, a, _, k, .int ns[k], rfl, rfl, hS, atI_nat (by rw [List.getElem?_map, List.getElem?_eq_getElem hk]; rfl), q⟩
theorem ok_mixed (T : Tx K mg) : FnOk P w K mg base CX0 1 T.f_l_mixed T.fd_l_mixed ["_law_cell_here", "_law_k"] spMixed := by
  refine T.F_l_mixed.ok sc_l_mixed (fun vs H Q E h => ?_) (fun cdv A outer s H vs Q E hr h => ?_)
  · obtain ⟨c, k, rfl, _⟩ := h
    rfl
  · obtain ⟨c, k, rfl, q⟩ := h
    refine ⟨_, pss_cons (ps_set (i := 2) sc_l_mixed.nd rfl (Or.inl rfl) (pe_op op_mod (pe_op op_mul (pe_op op_add (pe_op op_add (pv 0) (pe_op op_mul pe_int (pv 1))) pe_int) pe_int) pe_int))
      (pss_one (ps_ret (pe_op op_mod (pe_op op_mul (pv 2) (pe_op op_add (pe_op op_fdiv (pv 2) pe_int) pe_int)) pe_int))), ?_⟩
    refine ⟨_, rfl, _, rfl, _, _, rfl, rfl, .inl ⟨by decide, by decide⟩, _, _, rfl, rfl, _, _, rfl, rfl, _, _, rfl, rfl, .inr ⟨by decide, by decide⟩, _, _, rfl, rfl, (by show (0 : Int) < 2147483647; decide), ?_⟩
    have h0 : 0 ≤ mixN c k := Int.emod_nonneg _ (by decide)
    have h1 : mixN c k < 2147483647 := Int.emod_lt_of_pos _ (by decide)
    exact ⟨_, rfl, _, rfl, _, _, rfl, rfl, ⟨by decide, by decide⟩, _, _, rfl, rfl, _, _, rfl, rfl, .inl (show _ < mixN c k ∧ mixN c k < _ from ⟨by omega, by omega⟩), _, _, rfl, rfl, (by show (0 : Int) < 2147483647; decide), q⟩
theorem ok_layout (T : Tx K mg) : FnOk P w K mg base CX0 3 T.f_l_layout T.fd_l_layout ["_law_script"] (spLayout K T.C_Layout) := by
  refine T.F_l_layout.ok sc_l_layout (fun vs H Q E h => ?_) (fun cdv A outer s H vs Q E hr h => ?_)
  · obtain ⟨a, ns, rfl, _⟩ := h
    rfl
  · obtain ⟨a, ns, rfl, hS, hl, k⟩ := h
    have hr1 : Room 1 _ := hr.mono (by decide)
    have hr2 : Room 2 _ := hr.mono (by decide)
    refine ⟨_, pss_cons (ps_set (i := 1) sc_l_layout.nd rfl (Or.inl rfl) (pe_op op_add pe_int (pe_op op_mod (pe_call (ok_mixed T) hr1 rfl T.g_l_mixed T.F_l_mixed.kp T.b_l_mixed .nil pass0 (pa_cons (pe_call (ok_cell T) hr1 rfl T.g_l_cell T.F_l_cell.kp T.b_l_cell .nil pass0 (pa_cons (pv 0) (pa_cons pe_int pa_nil))) (pa_cons pe_int pa_nil))) pe_int)))
      (pss_cons (ps_set (i := 2) sc_l_layout.nd rfl (Or.inl rfl) (pe_op op_add pe_int (pe_op op_mod (pe_call (ok_mixed T) hr1 rfl T.g_l_mixed T.F_l_mixed.kp T.b_l_mixed .nil pass0 (pa_cons (pe_call (ok_cell T) hr1 rfl T.g_l_cell T.F_l_cell.kp T.b_l_cell .nil pass0 (pa_cons (pv 0) (pa_cons pe_int pa_nil))) (pa_cons pe_int pa_nil))) pe_int)))
      (pss_cons (ps_set (i := 3) sc_l_layout.nd rfl (Or.inl rfl) (pe_op op_add pe_int (pe_op op_mod (pe_call (ok_mixed T) hr1 rfl T.g_l_mixed T.F_l_mixed.kp T.b_l_mixed .nil pass0 (pa_cons (pe_call (ok_cell T) hr1 rfl T.g_l_cell T.F_l_cell.kp T.b_l_cell .nil pass0 (pa_cons (pv 0) (pa_cons pe_int pa_nil))) (pa_cons pe_int pa_nil))) pe_int)))
      (pss_one (ps_ret (pe_makeX T.mk_Layout (ok_init T) hr2 rfl T.g_Layout T.b_Layout_init .nil takes0 (pa_cons (pv 1) (pa_cons (pv 2) (pa_cons (pv 3) pa_nil)))))))), ?_⟩
    refine ⟨_, rfl, a, ns, 0, rfl, hS, hl, _, 1, rfl, _, _, rfl, rfl, (by show (0 : Int) < 11; decide), _, _, rfl, rfl, ?_⟩
    refine ⟨_, rfl, a, ns, 0, rfl, hS, hl, _, 2, rfl, _, _, rfl, rfl, (by show (0 : Int) < 8; decide), _, _, rfl, rfl, ?_⟩
    refine ⟨_, rfl, a, ns, 0, rfl, hS, hl, _, 3, rfl, _, _, rfl, rfl, (by show (0 : Int) < 39; decide), _, _, rfl, rfl, ?_⟩
    have ok : LayOk (2 + mix (ns.getD 0 0) 1 % 11) (1 + mix (ns.getD 0 0) 2 % 8) (2 + mix (ns.getD 0 0) 3 % 39) := ⟨by omega, by omega, by omega, by omega, by omega, by omega⟩
    refine ⟨_, rfl, _, rfl, _, rfl, fun x dx nx ndx ne => ⟨x, dx, _, _, _, rfl, upd_same, fun _ H' e1 kp => ⟨rfl, k x _ _ _ H' ok ⟨dx, e1⟩ fun b o e => kp b o ?_ (ne_of_none e nx)⟩, fun no => absurd ok no⟩⟩
    rw [upd_ne (ne_of_none e nx), upd_ne (ne_of_none e ndx)]
    exact e
end
end K03
set_option Elab.async false
set_option linter.all false
set_option maxRecDepth 100000
set_option maxHeartbeats 1000000
namespace K03
open PySem L2 PyProof.Rows PySem.W
section
variable {P : Program} {w : World} {K : PySem.W.Frag} {mg : Str → Option Value} {base : Heap}
/-! ### a map in numbers -/
def val (k : Nat) : List Nat → Int
  | [] => 0
  | p :: r => (if p / 20 = k then (2 : Int) ^ (p % 20) else 0) + val k r
theorem val_app (k : Nat) : ∀ (a b : List Nat), val k (a ++ b) = val k a + val k b
  | [], b => by show val k b = 0 + val k b; rw [Int.zero_add]
  | p :: a, b => by
    show _ + val k (a ++ b) = _ + val k a + val k b
    rw [val_app k a b, Int.add_assoc]
def row8 (ps : List Nat) : List Int := (List.range 8).map fun k => val k ps
theorem row8_len (ps : List Nat) : (row8 ps).length = 8 := by unfold row8; rw [List.length_map, List.length_range]
theorem row8_at (ps : List Nat) {k : Nat} (h : k < 8) : (row8 ps)[k]? = some (val k ps) := by unfold row8; rw [List.getElem?_map, List.getElem?_range h]; rfl
theorem row8_put (ps : List Nat) (p : Nat) : (row8 ps).set (p / 20) (val (p / 20) ps + 2 ^ (p % 20)) = row8 (ps ++ [p]) := by
  apply List.ext_getElem?
  intro i
  by_cases hi : i < 8
  · rw [row8_at _ hi, List.getElem?_set, row8_at _ hi, val_app]
    by_cases e : p / 20 = i
    · subst e
      rw [if_pos rfl, if_pos (by rw [row8_len]; exact hi)]
      show some (_ + _) = some (_ + ((if p / 20 = p / 20 then (2 : Int) ^ (p % 20) else 0) + 0))
      rw [if_pos rfl, Int.add_zero]
    · rw [if_neg e]
      show some _ = some (_ + ((if p / 20 = i then (2 : Int) ^ (p % 20) else 0) + 0))
      rw [if_neg e, Int.add_zero, Int.add_zero]
  · rw [List.getElem?_eq_none (by rw [List.length_set, row8_len]; omega), List.getElem?_eq_none (by rw [row8_len]; omega)]
/-- the places of the blocks told, rising -/
def plc (lo : Int) (tk : List Int) (n : Nat) : List Nat := (List.range n).filter fun p => decide (lo + ((p : Nat) : Int) ∈ tk)
theorem plc_succ (lo : Int) (tk : List Int) (n : Nat) : plc lo tk (n + 1) = plc lo tk n ++ (if lo + (n : Int) ∈ tk then [n] else []) := by
  unfold plc
  rw [List.range_succ, List.filter_append]
  congr 1
  by_cases h : lo + (n : Int) ∈ tk
  · rw [if_pos h]; simp [h]
  · rw [if_neg h]; simp [h]
/-! ### the blocks told by a test of places -/
def sel (lo : Int) (f : Nat → Bool) (n : Nat) : List Int := ((List.range n).filter f).map fun i => lo + ((i : Nat) : Int)
theorem sel_succ (lo : Int) (f : Nat → Bool) (n : Nat) : sel lo f (n + 1) = sel lo f n ++ (if f n = true then [lo + (n : Int)] else []) := by
  unfold sel
  rw [List.range_succ, List.filter_append, List.map_append]
  congr 1
  by_cases h : f n = true
  · rw [if_pos h]; simp [h]
  · rw [if_neg h]; simp [h]
theorem sel_len (lo : Int) (f : Nat → Bool) (n : Nat) : (sel lo f n).length ≤ n := by
  unfold sel
  rw [List.length_map]
  have := List.length_filter_le f (List.range n)
  rw [List.length_range] at this
  exact this
theorem mem_sel {lo : Int} {f : Nat → Bool} {n p : Nat} (h : p < n) : lo + (p : Int) ∈ sel lo f n ↔ f p = true := by
  unfold sel
  rw [List.mem_map]
  constructor
  · rintro ⟨i, hi, e⟩
    have : i = p := by omega
    subst this
    exact (List.mem_filter.mp hi).2
  · intro hp
    exact ⟨p, List.mem_filter.mpr ⟨List.mem_range.mpr h, hp⟩, rfl⟩
/-! ### a number told by the places of its bits -/
theorem val_bits (f : Nat → Bool) (k : Nat) : ∀ n : Nat, 0 ≤ val k ((List.range n).filter f) ∧ val k ((List.range n).filter f) < 2 ^ (min 20 (n - 20 * k)) ∧
    ∀ j : Nat, j < min 20 (n - 20 * k) → val k ((List.range n).filter f) / 2 ^ j % 2 = if f (20 * k + j) = true then 1 else 0
  | 0 => ⟨by show (0 : Int) ≤ 0; decide, by show (0 : Int) < 2 ^ (min 20 (0 - 20 * k)); exact Int.pow_pos (by decide), fun j hj => by omega⟩
  | n + 1 => by
    obtain ⟨h0, h1, h2⟩ := val_bits f k n
    have e : val k ((List.range (n + 1)).filter f) = val k ((List.range n).filter f) + (if f n = true then (if n / 20 = k then 2 ^ (n % 20) else 0) else 0) := by
      rw [List.range_succ, List.filter_append, val_app]
      congr 1
      by_cases h : f n = true
      · rw [if_pos h]; simp [h, val]
      · rw [if_neg h]; simp [h, val]
    rw [e]
    generalize val k ((List.range n).filter f) = v at h0 h1 h2 ⊢
    by_cases hk : n / 20 = k
    · have e1 : min 20 (n - 20 * k) = n % 20 := by omega
      have e2 : min 20 (n + 1 - 20 * k) = n % 20 + 1 := by omega
      have en : 20 * k + n % 20 = n := by omega
      rw [e1] at h1 h2
      rw [e2, if_pos hk]
      generalize n % 20 = t at h1 h2 en ⊢
      have tp : (0 : Int) < 2 ^ t := Int.pow_pos (by decide)
      by_cases hf : f n = true
      · rw [if_pos hf]
        refine ⟨by omega, by rw [Int.pow_succ]; omega, fun j hj => ?_⟩
        by_cases hjt : j = t
        · subst hjt
          rw [en, if_pos hf, Int.add_ediv_of_dvd_right (Int.dvd_refl _), Int.ediv_self (by omega), Int.ediv_eq_zero_of_lt h0 h1]
          rfl
        · have hj2 : j < t := by omega
          obtain ⟨d, rfl⟩ : ∃ d, t = j + 1 + d := ⟨t - j - 1, by omega⟩
          rw [← h2 j hj2, show (2 : Int) ^ (j + 1 + d) = 2 ^ j * (2 * 2 ^ d) by rw [Int.pow_add, Int.pow_succ, Int.mul_assoc], Int.add_mul_ediv_left _ _ (Int.ne_of_gt (Int.pow_pos (by decide)))]
          omega
      · rw [if_neg hf, Int.add_zero]
        refine ⟨h0, by rw [Int.pow_succ]; omega, fun j hj => ?_⟩
        by_cases hjt : j = t
        · subst hjt
          rw [en, if_neg hf, Int.ediv_eq_zero_of_lt h0 h1]
          rfl
        · exact h2 j (by omega)
    · have e1 : min 20 (n + 1 - 20 * k) = min 20 (n - 20 * k) := by omega
      rw [e1, if_neg hk]
      have z : (if f n = true then (0 : Int) else 0) = 0 := by split <;> rfl
      rw [z, Int.add_zero]
      exact ⟨h0, h1, h2⟩
theorem told_at (f : Nat → Bool) {n i : Nat} (h : i < n) : (val (i / 20) ((List.range n).filter f) / 2 ^ (i % 20) % 2 = 1) ↔ f i = true := by
  have := (val_bits f (i / 20) n).2.2 (i % 20) (by omega)
  rw [this, show 20 * (i / 20) + i % 20 = i by omega]
  by_cases hf : f i = true
  · rw [if_pos hf]; exact ⟨fun _ => hf, fun _ => rfl⟩
  · rw [if_neg hf]; exact ⟨fun z => absurd z (by decide), fun z => absurd z hf⟩
theorem plc_sel {lo : Int} {f : Nat → Bool} {n : Nat} {ms : List Int} (h : ms.Perm (sel lo f n)) : plc lo ms n = (List.range n).filter f := by
  unfold plc
  refine List.filter_congr fun p hp => ?_
  have hp : p < n := List.mem_range.mp hp
  have hm : lo + (p : Int) ∈ ms ↔ f p = true := (h.mem_iff).trans (mem_sel hp)
  by_cases hf : f p = true
  · rw [hf, decide_eq_true (hm.mpr hf)]
  · rw [Bool.eq_false_iff.mpr hf, decide_eq_false (fun z => hf (hm.mp z))]
theorem plc_nil (lo : Int) (n : Nat) : plc lo [] n = [] := by
  unfold plc
  rw [List.filter_eq_nil_iff]
  intro a _
  simp
/-! ### bit_of, map_row, map_wrong -/
theorem inV_int (n : Int) (ns : List Int) : inV (.int n) (ns.map V.int) = decide (n ∈ ns) := by
  unfold inV
  rw [List.any_map]
  by_cases h : n ∈ ns
  · rw [decide_eq_true h, List.any_eq_true]
    exact ⟨n, h, by simp [eqV]⟩
  · rw [decide_eq_false h, List.any_eq_false]
    intro x hx z
    have : x = n := by simpa [eqV] using z
    exact h (by rw [← this]; exact hx)
theorem flats_int (ns : List Int) : (ns.map V.int).all flatV = true := by
  rw [List.all_map, List.all_eq_true]
  intro x _
  rfl
def spBit : Sp := fun vs H Q _ => ∃ p : Nat, vs = [.int p] ∧ Q (.int (2 ^ (p % 20))) H
theorem ok_bit (T : Tx K mg) : FnOk P w K mg base CX0 1 T.f_bit_of T.fd_bit_of ["place"] spBit := by
  refine T.F_bit_of.ok sc_bit_of (fun vs H Q E h => ?_) (fun cdv A outer s H vs Q E hr h => ?_)
  · obtain ⟨p, rfl, _⟩ := h
    rfl
  · obtain ⟨p, rfl, k⟩ := h
    refine ⟨_, pss_cons (ps_set (i := 1) sc_bit_of.nd rfl (Or.inl rfl) pe_int)
      (pss_cons (ps_for PassesOwn.never rfl (pi_range1 rfl T.z_range (pa_cons (pe_op op_mod (pv 0) (pe_glob (v := .int 20) rfl T.g_BITS ⟨_, rfl⟩)) pa_nil)) (pg_name (i := 2) sc_bit_of.nd rfl (Or.inl rfl))
        (pss_one (ps_set (i := 1) sc_bit_of.nd rfl (Or.inl rfl) (pe_op op_mul (pv 1) pe_int))))
      (pss_one (ps_ret (pv 1)))), ?_⟩
    refine ⟨_, rfl, _, _, rfl, rfl, (by show (0 : Int) < 20; decide), (p : Int) % 20, rfl, by omega, by omega, ?_⟩
    refine for_range (fun i σ H' => ∃ x2, σ = [some (.int p), some (.int (2 ^ i)), x2] ∧ H' = H) ⟨none, rfl, rfl⟩ ?_ ?_
    · rintro i σ H' hi ⟨x2, rfl, rfl⟩
      refine ⟨_, rfl, _, _, rfl, rfl, .inr ⟨by decide, by decide⟩, some (.int (0 + (i : Int))), ?_, rfl⟩
      rw [Int.pow_succ]
      rfl
    rintro σ H' ⟨x2, rfl, rfl⟩
    refine ⟨_, rfl, ?_⟩
    have e : ((p : Int) % 20).toNat = p % 20 := by omega
    first | (rw [e]; exact k) | (rw [show ((p : Int) % 20 - 0).toNat = p % 20 by omega]; exact k)
def spMapRow (C : Addr) : Sp := fun vs H Q _ => ∃ (p b : Addr) (F E B : Int) (tk : List Int), vs = [.ref p, .ref b] ∧ Lay C H p F E B ∧ LayOk F E B ∧ H b = some (.lst (tk.map V.int)) ∧
  ∀ (q : Addr) (H' : Hp), Same H H' → H q = none → H' q = some (.lst ((row8 (plc (10 + F + E) tk B.toNat)).map V.int)) → Q (.ref q) H'
theorem ok_maprow (T : Tx K mg) : FnOk P w K mg base CX0 4 T.f_map_row T.fd_map_row ["layout", "blocks"] (spMapRow T.C_Layout) := by
  refine T.F_map_row.ok sc_map_row (fun vs H Q E h => ?_) (fun cdv A outer s H vs Q E hr h => ?_)
  · obtain ⟨p, b, F, E, B, tk, rfl, _⟩ := h
    rfl
  · obtain ⟨p, b, F, E, B, tk, rfl, ⟨dx, hp⟩, ok, hb, k⟩ := h
    have r1 : Room 1 _ := hr.mono (by decide)
    have r3 : Room 3 _ := hr.mono (by decide)
    refine ⟨_, pss_cons (ps_set (i := 2) sc_map_row.nd rfl (Or.inl rfl) (pe_op op_rep (pe_lst (pa_cons pe_int pa_nil)) (pe_glob (v := .int 8) rfl T.g_WIDE ⟨_, rfl⟩)))
      (pss_cons (ps_for PassesOwn.never rfl (pi_range1 rfl T.z_range (pa_cons (pe_fld (pv 0) rfl) pa_nil)) (pg_name (i := 3) sc_map_row.nd rfl (Or.inl rfl))
        (pss_one (ps_if (pt_cmpR op_in_seq (pe_meth (pv 0) T.cl_Layout T.m_Layout_data_at (ok_data_at T) r3 T.b_Layout_data_at .nil pass0 (pa_cons (pv 3) pa_nil)) (pv 1) rfl)
          (pss_one (ps_augS (pv 2) (pe_op op_fdiv (pv 3) (pe_glob (v := .int 20) rfl T.g_BITS ⟨_, rfl⟩)) pget_list (pe_call (ok_bit T) r1 rfl T.g_bit_of T.F_bit_of.kp T.b_bit_of .nil pass0 (pa_cons (pv 3) pa_nil)) ip_add set_list)) pss_nil)))
      (pss_one (ps_ret (pv 2)))), ?_⟩
    have b1 := ok.b1; have b2 := ok.b2
    refine ⟨(by show 1 ≤ sizeLine; decide), fun l0 fl0 => ⟨l0, 8, _, rfl, rfl, upd_same, by decide, by decide, (by show 1 * 8 ≤ sizeLine; decide), fun q fq => ?_⟩⟩
    have s0 : Same H (upd H l0 (.lst [.int 0])) := Same.upd0 fl0
    have fq0 : H q = none := s0.free fq
    have s1 := s0.upd (o := .lst ((row8 []).map V.int)) fq
    have hq1 : upd (upd H l0 (.lst [.int 0])) q (.lst ((row8 []).map V.int)) q = some (.lst ((row8 []).map V.int)) := upd_same
    show _
    refine ⟨_, rfl, p, T.C_Layout, dx, _, _, rfl, s1 _ _ hp, T.cl_Layout, T.n_Layout_data, lay_data _ _ _, B, rfl, by omega, by omega, ?_⟩
    refine for_range (fun i σ H' => ∃ x3, σ = [some (.ref p), some (.ref b), some (.ref q), x3] ∧ i ≤ B.toNat ∧ Same H H' ∧ H' q = some (.lst ((row8 (plc (10 + F + E) tk i)).map V.int)))
      ⟨none, rfl, Nat.zero_le _, s1, hq1⟩ ?_ ?_
    · rintro i σ H' hi ⟨x3, rfl, _, sH, hq⟩
      have e0 : (0 : Int) + (i : Int) = (i : Int) := by omega
      rw [e0]
      have iB : i < B.toNat := by omega
      have i8 : i / 20 < 8 := by omega
      refine ⟨_, rfl, p, dx, _, rfl, sH _ _ hp, lay_no _ _ _ (by decide +kernel) (by decide +kernel) (by decide +kernel), _, rfl, p, F, E, B, (i : Int), rfl, ⟨dx, sH _ _ hp⟩, _, rfl, b, _, rfl, .inl (SqL.of (sH _ _ hb)), rfl, flats_int _, _, rfl, ?_⟩
      rw [plc_succ]
      by_cases c : 10 + F + E + (i : Int) ∈ tk
      rotate_left
      · refine iteBF (by show inV (.int (10 + F + E + (i : Int))) _ = false; rw [inV_int, decide_eq_false c]) ⟨_, rfl, iB, sH, ?_⟩
        rw [if_neg c, List.append_nil]
        exact hq
      refine iteB (by show inV (.int (10 + F + E + (i : Int))) _ = true; rw [inV_int, decide_eq_true c]) ?_
      have ei : (i : Int) / 20 = ((i / 20 : Nat) : Int) := by omega
      refine ⟨_, rfl, _, rfl, _, _, rfl, rfl, ⟨by decide, by decide⟩, q, _, _, .int (val (i / 20) (plc (10 + F + E) tk i)), rfl, rfl, SqL.of hq, (by show atI _ ((i : Int) / 20) = _; rw [ei]; exact atI_nat (by rw [List.getElem?_map, row8_at _ i8]; rfl)), ?_⟩
      refine ⟨_, rfl, i, rfl, _, _, rfl, rfl, q, _, _, i / 20, rfl, rfl, hq, (by show ixN _ ((i : Int) / 20) = _; rw [ei]; exact ixN_nat (by rw [List.length_map, row8_len]; exact i8)), ?_⟩
      refine ⟨_, rfl, iB, sH.updF fq0, ?_⟩
      rw [upd_same, if_pos c, ← row8_put, List.map_set]
    rintro σ H' ⟨x3, rfl, _, sH, hq⟩
    exact ⟨_, rfl, k q H' sH fq0 hq⟩

/-! ### is_told, claimed_of, free_of -/
theorem op_notIn_seqK {X : Cx} {K : PySem.W.Frag} (h : X.K = K) : OpR X (compareOp .NotIn) (rIn K true) := by subst h; exact op_notIn_seq
def MapAt (H : Hp) (r : Addr) (f : Nat → Bool) (n : Nat) : Prop := H r = some (.lst ((row8 ((List.range n).filter f)).map V.int))
def spTold : Sp := fun vs H Q _ => ∃ (r : Addr) (i n : Nat) (f : Nat → Bool), vs = [.ref r, .int i] ∧ MapAt H r f n ∧ i < n ∧ n ≤ 40 ∧ Q (.bl (f i)) H
theorem ok_told (T : Tx K mg) : FnOk P w K mg base CX0 2 T.f_is_told T.fd_is_told ["row", "place"] spTold := by
  refine T.F_is_told.ok sc_is_told (fun vs H Q E h => ?_) (fun cdv A outer s H vs Q E hr h => ?_)
  · obtain ⟨r, i, n, f, rfl, _⟩ := h
    rfl
  · obtain ⟨r, i, n, f, rfl, hr2, hi, hn, k⟩ := h
    refine ⟨_, pss_one (ps_ret (pe_cmpR op_eq (pe_op op_mod (pe_op op_fdiv (pe_ix ix_list (pv 0) (pe_op op_fdiv (pv 1) (pe_glob (v := .int 20) rfl T.g_BITS ⟨_, rfl⟩)) (fun _ _ => rfl)) (pe_call (ok_bit T) hr rfl T.g_bit_of T.F_bit_of.kp T.b_bit_of .nil pass0 (pa_cons (pv 1) pa_nil))) pe_int) pe_int (nomark _))), ?_⟩
    have ei : (i : Int) / 20 = ((i / 20 : Nat) : Int) := by omega
    have tp : (0 : Int) < 2 ^ (i % 20) := Int.pow_pos (by decide)
    have tb : (2 : Int) ^ (i % 20) < 1073741824 := by
      have h20 : i % 20 < 20 := Nat.mod_lt _ (by decide)
      have all : ∀ t, t < 20 → (2 : Int) ^ t < 1073741824 := by decide
      exact all _ h20
    refine ⟨_, rfl, _, rfl, _, _, rfl, rfl, ⟨by decide, by decide⟩, r, _, _, .int (val (i / 20) ((List.range n).filter f)), rfl, rfl, SqL.of hr2, (by show atI _ ((i : Int) / 20) = _; rw [ei]; exact atI_nat (by rw [List.getElem?_map, row8_at _ (by omega)]; rfl)), ?_⟩
    refine ⟨_, rfl, i, rfl, _, _, rfl, rfl, ⟨tp, tb⟩, _, _, rfl, rfl, (by show (0 : Int) < 2; decide), rfl, ?_⟩
    have e : decide (V.int (val (i / 20) ((List.range n).filter f) / 2 ^ (i % 20) % 2) = V.int 1) = f i := by
      have h := told_at f hi
      by_cases hf : f i = true
      · rw [h.mpr hf, hf]; rfl
      · rw [Bool.eq_false_iff.mpr hf]
        exact decide_eq_false fun z => hf (h.mp (int_of z))
    show Q (.bl (decide (V.int (val (i / 20) ((List.range n).filter f) / 2 ^ (i % 20) % 2) = V.int 1))) H
    rw [e]
    exact k
def spClaim (C : Addr) (g : (Nat → Bool) → Nat → Bool) : Sp := fun vs H Q _ => ∃ (p r : Addr) (F E B : Int) (f : Nat → Bool), vs = [.ref p, .ref r] ∧ Lay C H p F E B ∧ LayOk F E B ∧ MapAt H r f B.toNat ∧
  ∀ (q : Addr) (H' : Hp), Same H H' → H q = none → H' q = some (.lst ((sel (10 + F + E) (g f) B.toNat).map V.int)) → Q (.ref q) H'
theorem ok_claimed (T : Tx K mg) : FnOk P w K mg base CX0 4 T.f_claimed_of T.fd_claimed_of ["layout", "row"] (spClaim T.C_Layout (fun f i => f i)) := by
  refine T.F_claimed_of.ok sc_claimed_of (fun vs H Q E h => ?_) (fun cdv A outer s H vs Q E hr h => ?_)
  · obtain ⟨p, r, F, E, B, f, rfl, _⟩ := h
    rfl
  · obtain ⟨p, r, F, E, B, f, rfl, ⟨dx, hp⟩, ok, hm, k⟩ := h
    have r2 : Room 2 _ := hr.mono (by decide)
    refine ⟨_, pss_one (ps_ret (pe_comp (N' := ["place", "layout", "row"]) (cap := [none, some 0, some 1]) rfl (compOk_of (by kernel_rfl)) (pi_range1 rfl T.z_range (pa_cons (pe_fld (pv 0) rfl) pa_nil))
      (fun cells C s₀ H₀ fp pins => ⟨pg_name (i := 0) (ndp3 (by decide +kernel) (by decide +kernel) (by decide +kernel)) rfl (Or.inl rfl) (.inr rfl), pifs_one (pt_val (pe_call (ok_told T) r2 rfl T.g_is_told T.F_is_told.kp T.b_is_told .nil pass0 (pa_cons (pv 2) (pa_cons (pv 0) pa_nil)))), pe_meth (pv 1) T.cl_Layout T.m_Layout_data_at (ok_data_at T) hr T.b_Layout_data_at .nil pass0 (pa_cons (pv 0) pa_nil)⟩))), ?_⟩
    have b1 := ok.b1; have b2 := ok.b2
    refine ⟨_, rfl, p, T.C_Layout, dx, _, _, rfl, hp, T.cl_Layout, T.n_Layout_data, lay_data _ _ _, B, rfl, by omega, by omega, ?_⟩
    refine comp_range (cap := [none, some 0, some 1]) (σ := [some (.ref p), some (.ref r)]) (small_len (n := B.toNat) (by omega)) (fun i ys σ H' => i ≤ B.toNat ∧ ys = (sel (10 + F + E) (fun i => f i) i).map V.int ∧ (∃ s0, σ = [s0, some (.ref p), some (.ref r)]) ∧ H' = H)
      (by exact ⟨Nat.zero_le _, rfl, ⟨none, rfl⟩, rfl⟩) (fun i ys σ H' ⟨h1, h2, _⟩ => ⟨h1, by rw [h2, List.length_map]; exact sel_len ..⟩) ?_ ?_
    · rintro i ys σ H' hi ⟨h1, rfl, ⟨s0, rfl⟩, rfl⟩
      have e0 : (0 : Int) + (i : Int) = (i : Int) := by omega
      rw [e0]
      refine ⟨_, rfl, _, rfl, r, i, B.toNat, f, rfl, hm, hi, by omega, _, rfl, ?_⟩
      rw [sel_succ]
      cases hf : f i
      · exact iteBF rfl ⟨hi, by rw [if_neg (by decide), List.append_nil], ⟨_, rfl⟩, rfl⟩
      · exact iteB rfl ⟨_, rfl, p, dx, _, rfl, hp, lay_no _ _ _ (by decide +kernel) (by decide +kernel) (by decide +kernel), _, rfl, p, F, E, B, (i : Int), rfl, ⟨dx, hp⟩, hi, by rw [if_pos (by rfl), List.map_append]; rfl, ⟨_, rfl⟩, rfl⟩
    rintro ys σ H' ⟨h1, rfl, ⟨s0, rfl⟩, rfl⟩ D hD
    exact k D _ (Same.upd0 hD) hD upd_same
theorem ok_free (T : Tx K mg) : FnOk P w K mg base CX0 4 T.f_free_of T.fd_free_of ["layout", "row"] (spClaim T.C_Layout (fun f i => !f i)) := by
  refine T.F_free_of.ok sc_free_of (fun vs H Q E h => ?_) (fun cdv A outer s H vs Q E hr h => ?_)
  · obtain ⟨p, r, F, E, B, f, rfl, _⟩ := h
    rfl
  · obtain ⟨p, r, F, E, B, f, rfl, ⟨dx, hp⟩, ok, hm, k⟩ := h
    have r2 : Room 2 _ := hr.mono (by decide)
    refine ⟨_, pss_one (ps_ret (pe_comp (N' := ["place", "layout", "row"]) (cap := [none, some 0, some 1]) rfl (compOk_of (by kernel_rfl)) (pi_range1 rfl T.z_range (pa_cons (pe_fld (pv 0) rfl) pa_nil))
      (fun cells C s₀ H₀ fp pins => ⟨pg_name (i := 0) (ndp3 (by decide +kernel) (by decide +kernel) (by decide +kernel)) rfl (Or.inl rfl) (.inr rfl), pifs_one (pt_not (pt_val (pe_call (ok_told T) r2 rfl T.g_is_told T.F_is_told.kp T.b_is_told .nil pass0 (pa_cons (pv 2) (pa_cons (pv 0) pa_nil))))), pe_meth (pv 1) T.cl_Layout T.m_Layout_data_at (ok_data_at T) hr T.b_Layout_data_at .nil pass0 (pa_cons (pv 0) pa_nil)⟩))), ?_⟩
    have b1 := ok.b1; have b2 := ok.b2
    refine ⟨_, rfl, p, T.C_Layout, dx, _, _, rfl, hp, T.cl_Layout, T.n_Layout_data, lay_data _ _ _, B, rfl, by omega, by omega, ?_⟩
    refine comp_range (cap := [none, some 0, some 1]) (σ := [some (.ref p), some (.ref r)]) (small_len (n := B.toNat) (by omega)) (fun i ys σ H' => i ≤ B.toNat ∧ ys = (sel (10 + F + E) (fun i => !f i) i).map V.int ∧ (∃ s0, σ = [s0, some (.ref p), some (.ref r)]) ∧ H' = H)
      (by exact ⟨Nat.zero_le _, rfl, ⟨none, rfl⟩, rfl⟩) (fun i ys σ H' ⟨h1, h2, _⟩ => ⟨h1, by rw [h2, List.length_map]; exact sel_len ..⟩) ?_ ?_
    · rintro i ys σ H' hi ⟨h1, rfl, ⟨s0, rfl⟩, rfl⟩
      have e0 : (0 : Int) + (i : Int) = (i : Int) := by omega
      rw [e0]
      refine ⟨_, rfl, _, rfl, r, i, B.toNat, f, rfl, hm, hi, by omega, _, rfl, ?_⟩
      rw [sel_succ]
      cases hf : f i
      · exact iteB rfl ⟨_, rfl, p, dx, _, rfl, hp, lay_no _ _ _ (by decide +kernel) (by decide +kernel) (by decide +kernel), _, rfl, p, F, E, B, (i : Int), rfl, ⟨dx, hp⟩, hi, by rw [if_pos (by rfl), List.map_append]; rfl, ⟨_, rfl⟩, rfl⟩
      · exact iteBF rfl ⟨hi, by rw [if_neg (by decide), List.append_nil], ⟨_, rfl⟩, rfl⟩
    rintro ys σ H' ⟨h1, rfl, ⟨s0, rfl⟩, rfl⟩ D hD
    exact k D _ (Same.upd0 hD) hD upd_same
/-! ### the law's own: some, row, blocks -/
def fS (c : Int) (i : Nat) : Bool := decide (mix c i % 4 < 1 + c % 4)
def spSome (C : Addr) : Sp := fun vs H Q _ => ∃ (p : Addr) (F E B c : Int), vs = [.ref p, .int c] ∧ Lay C H p F E B ∧ LayOk F E B ∧
  ∀ (q : Addr) (H' : Hp), Same H H' → H q = none → H' q = some (.lst ((sel (10 + F + E) (fS c) B.toNat).map V.int)) → Q (.ref q) H'
theorem ok_some (T : Tx K mg) : FnOk P w K mg base CX0 2 T.f_l_some T.fd_l_some ["_law_layout_here", "_law_cell_here"] (spSome T.C_Layout) := by
  refine T.F_l_some.ok sc_l_some (fun vs H Q E h => ?_) (fun cdv A outer s H vs Q E hr h => ?_)
  · obtain ⟨p, F, E, B, c, rfl, _⟩ := h
    rfl
  · obtain ⟨p, F, E, B, c, rfl, ⟨dx, hp⟩, ok, k⟩ := h
    refine ⟨_, pss_cons (ps_set (i := 2) sc_l_some.nd rfl (Or.inl rfl) (pe_lst pa_nil))
      (pss_cons (ps_for PassesOwn.never rfl (pi_range1 rfl T.z_range (pa_cons (pe_fld (pv 0) rfl) pa_nil)) (pg_name (i := 3) sc_l_some.nd rfl (Or.inl rfl))
        (pss_one (ps_if (pt_cmpR op_lt (pe_op op_mod (pe_call (ok_mixed T) hr rfl T.g_l_mixed T.F_l_mixed.kp T.b_l_mixed .nil pass0 (pa_cons (pv 1) (pa_cons (pv 3) pa_nil))) pe_int) (pe_op op_add pe_int (pe_op op_mod (pv 1) pe_int)) (nomark _))
          (pss_one (ps_expr (pe_bm PySem.F.plainAttrs_list PySem.F.slot_list_append PySem.F.type_list_append mt_append (pv 2) (pa_cons (pe_op op_add (pe_op op_add (pe_op op_add pe_int (pe_fld (pv 0) rfl)) (pe_fld (pv 0) rfl)) (pv 3)) pa_nil)))) pss_nil)))
      (pss_one (ps_ret (pv 2)))), ?_⟩
    have b1 := ok.b1; have b2 := ok.b2
    refine ⟨(by show 0 ≤ sizeLine; decide), fun q fq => ?_⟩
    have s1 : Same H (upd H q (.lst [])) := Same.upd0 fq
    refine ⟨_, rfl, p, T.C_Layout, dx, _, _, rfl, s1 _ _ hp, T.cl_Layout, T.n_Layout_data, lay_data _ _ _, B, rfl, by omega, by omega, ?_⟩
    refine for_range (fun i σ H' => ∃ x3, σ = [some (.ref p), some (.int c), some (.ref q), x3] ∧ i ≤ B.toNat ∧ Same H H' ∧ H' q = some (.lst ((sel (10 + F + E) (fS c) i).map V.int)))
      ⟨none, rfl, Nat.zero_le _, s1, upd_same⟩ ?_ ?_
    · rintro i σ H' hi ⟨x3, rfl, _, sH, hq⟩
      have e0 : (0 : Int) + (i : Int) = (i : Int) := by omega
      rw [e0]
      have iB : i < B.toNat := by omega
      refine ⟨_, rfl, _, rfl, c, (i : Int), rfl, _, _, rfl, rfl, (by show (0 : Int) < 4; decide), _, rfl, _, _, rfl, rfl, (by show (0 : Int) < 4; decide), _, _, rfl, rfl, _, _, rfl, rfl, _, rfl, ?_⟩
      rw [sel_succ]
      refine ite2 (fun h => ?_) (fun h => ?_)
      · have hf : fS c i = true := h
        refine ⟨_, rfl, .inl ⟨rfl, _, SqL.of hq⟩, _, rfl, p, T.C_Layout, dx, _, _, rfl, sH _ _ hp, T.cl_Layout, T.n_Layout_files, lay_files _ _ _, _, _, rfl, rfl, _, rfl, p, T.C_Layout, dx, _, _, rfl, sH _ _ hp, T.cl_Layout, T.n_Layout_slots, lay_slots _ _ _, _, _, rfl, rfl, _, rfl, _, _, rfl, rfl, ?_⟩
        refine ⟨q, _, _, rfl, rfl, hq, (by rw [List.length_map]; have := sel_len (10 + F + E) (fS c) i; exact Nat.lt_of_le_of_lt this (Nat.lt_of_lt_of_le (show i < 1000 by omega) (by decide))), ?_⟩
        refine ⟨_, rfl, iB, sH.updF fq, ?_⟩
        rw [upd_same, if_pos hf, List.map_append]
        rfl
      · have hf : ¬ fS c i = true := h
        refine ⟨_, rfl, iB, sH, ?_⟩
        rw [if_neg hf, List.append_nil]
        exact hq
    rintro σ H' ⟨x3, rfl, _, sH, hq⟩
    exact ⟨_, rfl, k q H' sH fq hq⟩
def spRow (C : Addr) : Sp := fun vs H Q _ => ∃ (p b : Addr) (F E B : Int) (f : Nat → Bool), vs = [.ref p, .ref b] ∧ Lay C H p F E B ∧ LayOk F E B ∧ H b = some (.lst ((sel (10 + F + E) f B.toNat).map V.int)) ∧
  ∀ (q : Addr) (H' : Hp), Same H H' → H q = none → MapAt H' q f B.toNat → Q (.ref q) H'
theorem ok_row (T : Tx K mg) : FnOk P w K mg base CX0 1 T.f_l_row T.fd_l_row ["_law_layout_here", "_law_some_here"] (spRow T.C_Layout) := by
  refine T.F_l_row.ok sc_l_row (fun vs H Q E h => ?_) (fun cdv A outer s H vs Q E hr h => ?_)
  · obtain ⟨p, b, F, E, B, f, rfl, _⟩ := h
    rfl
  · obtain ⟨p, b, F, E, B, f, rfl, ⟨dx, hp⟩, ok, hb, k⟩ := h
    refine ⟨_, @pss_cons _ _ _ _ _ (@ps_set _ _ 2 _ _ _ _ sc_l_row.nd rfl (Or.inl rfl) (@pe_ints _ _ _ _ rfl) rfl (.inr rfl))
      (pss_cons (ps_for PassesOwn.never rfl (pi_list (pv 1)) (pg_name (i := 3) sc_l_row.nd rfl (Or.inl rfl))
        (pss_cons (ps_set (i := 4) sc_l_row.nd rfl (Or.inl rfl) (pe_op op_sub (pe_op op_sub (pe_op op_sub (pv 3) pe_int) (pe_fld (pv 0) rfl)) (pe_fld (pv 0) rfl)))
        (pss_cons (ps_set (i := 5) sc_l_row.nd rfl (Or.inl rfl) pe_int)
        (pss_cons (ps_for PassesOwn.never rfl (pi_range1 rfl T.z_range (pa_cons (pe_op op_mod (pv 4) pe_int) pa_nil)) (pg_name (i := 6) sc_l_row.nd rfl (Or.inl rfl))
          (pss_one (ps_set (i := 5) sc_l_row.nd rfl (Or.inl rfl) (pe_op op_mul (pv 5) pe_int))))
        (pss_one (ps_asg (pe_op op_add (pe_ix ix_list (pv 2) (pe_op op_fdiv (pv 4) pe_int) (fun _ _ => rfl)) (pv 5)) (pg_sub (pv 2) (pe_op op_fdiv (pv 4) pe_int) set_list)))))))
      (pss_one (ps_ret (pv 2)))), ?_⟩
    have b1 := ok.b1; have b2 := ok.b2
    refine ⟨(by show 8 ≤ sizeLine; decide), fun q fq => ?_⟩
    have s1 := Same.upd0 (o := .lst ((row8 []).map V.int)) fq
    refine ⟨_, rfl, b, rfl, ⟨_, SqL.of (s1 _ _ hb)⟩, for_list (K := K) (a := b) (xs := (sel (10 + F + E) f B.toNat).map V.int) (fun i σ H' => ∃ x3 x4 x5 x6, σ = [some (.ref p), some (.ref b), some (.ref q), x3, x4, x5, x6] ∧ Same H H' ∧ H' q = some (.lst ((row8 (((List.range B.toNat).filter f).take i)).map V.int)))
      ⟨none, none, none, none, rfl, s1, upd_same⟩ (fun i σ H' _ ⟨_, _, _, _, _, sH, _⟩ => SqL.of (sH _ _ hb)) ?_ ?_⟩
    · rintro i x σ H' hx ⟨x3, x4, x5, x6, rfl, sH, hq⟩
      unfold sel at hx
      rw [List.getElem?_map, List.getElem?_map] at hx
      cases en : ((List.range B.toNat).filter f)[i]? with
      | none => rw [en] at hx; cases hx
      | some n =>
        rw [en] at hx
        cases hx
        have hn : n < B.toNat := List.mem_range.mp (List.mem_filter.mp (List.mem_of_getElem? en)).1
        refine ⟨_, rfl, _, _, rfl, rfl, _, rfl, p, T.C_Layout, dx, _, _, rfl, sH _ _ hp, T.cl_Layout, T.n_Layout_files, lay_files _ _ _, _, _, rfl, rfl, _, rfl, p, T.C_Layout, dx, _, _, rfl, sH _ _ hp, T.cl_Layout, T.n_Layout_slots, lay_slots _ _ _, _, _, rfl, rfl, ?_⟩
        have ep : 10 + F + E + (n : Int) - 10 - F - E = (n : Int) := by omega
        dsimp only
        rw [ep]
        refine ⟨_, rfl, _, _, rfl, rfl, (by show (0 : Int) < 20; decide), (n : Int) % 20, rfl, by omega, by omega, ?_⟩
        refine for_range (fun j σ' H2 => ∃ y6, σ' = [some (.ref p), some (.ref b), some (.ref q), some (.int (10 + F + E + (n : Int))), some (.int n), some (.int (2 ^ j)), y6] ∧ H2 = H') ⟨x6, rfl, rfl⟩ ?_ ?_
        · rintro j σ' H2 hj ⟨y6, rfl, rfl⟩
          refine ⟨_, rfl, _, _, rfl, rfl, .inr ⟨by decide, by decide⟩, some (.int (0 + (j : Int))), ?_, rfl⟩
          rw [Int.pow_succ]
          rfl
        rintro σ' H2 ⟨y6, rfl, rfl⟩
        have ei : (n : Int) / 20 = ((n / 20 : Nat) : Int) := by omega
        have e2 : ((n : Int) % 20).toNat = n % 20 := by omega
        have e3 : ((n : Int) % 20 - 0).toNat = n % 20 := by omega
        have i8 : n / 20 < 8 := by omega
        first | rw [e2] | rw [e3]
        refine ⟨_, rfl, _, rfl, _, _, rfl, rfl, ⟨by decide, by decide⟩, q, _, _, .int (val (n / 20) (((List.range B.toNat).filter f).take i)), rfl, rfl, SqL.of hq, (by show atI _ ((n : Int) / 20) = _; rw [ei]; exact atI_nat (by rw [List.getElem?_map, row8_at _ i8]; rfl)), ?_⟩
        refine ⟨_, rfl, _, _, rfl, rfl, _, rfl, _, rfl, _, _, rfl, rfl, ⟨by decide, by decide⟩, q, _, _, n / 20, rfl, rfl, hq, (by show ixN _ ((n : Int) / 20) = _; rw [ei]; exact ixN_nat (by rw [List.length_map, row8_len]; exact i8)), ?_⟩
        refine ⟨_, _, _, _, rfl, sH.updF fq, ?_⟩
        rw [upd_same]
        have et : ((List.range B.toNat).filter f).take (i + 1) = ((List.range B.toNat).filter f).take i ++ [n] := by
          rw [List.take_add_one, en]; rfl
        rw [et, ← row8_put, List.map_set]
    rintro σ H' ⟨x3, x4, x5, x6, rfl, sH, hq⟩
    rw [List.length_map, show (sel (10 + F + E) f B.toNat).length = ((List.range B.toNat).filter f).length from List.length_map .., List.take_length] at hq
    exact ⟨_, rfl, k q H' sH fq hq⟩
def spBlk (K : PySem.W.Frag) : Sp := fun vs H Q _ => ∃ (a b : Addr) (ns : List Int), vs = [.ref a, .ref b] ∧ SqL K H a (ns.map V.int) ∧ SqL K H b (ns.map V.int) ∧ H a = some (.lst (ns.map V.int)) ∧ ns.length ≤ 900 ∧ ∀ H', Same H H' → Q (.bl true) H'
theorem ok_blocks (T : Tx K mg) : FnOk P w K mg base CX0 1 T.f_l_blocks T.fd_l_blocks ["_law_found", "_law_due"] (spBlk K) := by
  refine T.F_l_blocks.ok sc_l_blocks (fun vs H Q E h => ?_) (fun cdv A outer s H vs Q E hr h => ?_)
  · obtain ⟨a, b, ns, rfl, _⟩ := h
    rfl
  · obtain ⟨a, b, ns, rfl, ha, hb, ha', hl, k⟩ := h
    have hu : _ + 60 < cLine := Nat.lt_of_le_of_lt (Nat.add_le_add_left (by decide : 60 ≤ 64) _) hr.units
    refine ⟨_, pss_cons (ps_if (PW.pt (pw_or (pt_not (pt_val (pe_callB call_isT rfl T.z_isinstance (by kernel_rfl) (pa_cons (pv 0) (pa_cons (pe_bltn (v := .ty "list") rfl T.z_list (by kernel_rfl) rfl) pa_nil)))))
          (pw_or1 (pt_cmpR (op_neT hu) (pe_comp (N' := ["_law_one"]) (cap := [none]) rfl (compOk_of (by kernel_rfl)) (pi_list (pv 0)) (fun cells C s₀ H₀ fp pins => ⟨pg_name (i := 0) ndp1 rfl (Or.inl rfl) (.inr rfl), pifs_one (pt_val (pe_callB (call_isTK (K := K) rfl) rfl T.z_isinstance (by kernel_rfl) (pa_cons (pv 0) (pa_cons (pe_bltn (v := .ty "bool") rfl T.z_bool (by kernel_rfl) rfl) pa_nil)))), pv 0⟩)) (pe_lst pa_nil) (nomark _))))) (pss_one (ps_ret pe_bl)) pss_nil)
      (pss_one (ps_ret (pe_cmpR (op_eqT hu) (pv 0) (pv 1) (nomark _)))), ?_⟩
    refine ⟨_, rfl, _, _, _, true, rfl, TyOf.lst ha', rfl, true, rfl, iteF ?_⟩
    refine ⟨_, rfl, a, rfl, ⟨_, ha⟩, ?_⟩
    refine comp_list (cap := [none]) (K := K) (a := a) (xs := ns.map V.int) (small_len (by rw [List.length_map]; omega)) (fun i ys σ H3 => i ≤ ns.length ∧ ys = [] ∧ σ.length = 1 ∧ H3 = H)
      (by exact ⟨Nat.zero_le _, rfl, rfl, rfl⟩) (fun i ys σ H3 ⟨h1, h2, h3, h4⟩ => ⟨by rw [List.length_map]; exact h1, by rw [h2]; exact Nat.zero_le _, by rw [h4]; exact ha⟩) ?_ ?_
    · rintro j z ys σ' H3 hz ⟨h1, rfl, h3, rfl⟩
      rw [List.getElem?_map] at hz
      cases en : ns[j]? with
      | none => rw [en] at hz; cases hz
      | some n =>
        rw [en] at hz
        cases hz
        have hj : j < ns.length := (List.getElem?_eq_some_iff.mp en).1
        match σ', h3 with
        | [z0], _ => exact ⟨_, rfl, _, _, _, false, rfl, TyOf.int n, rfl, false, rfl, iteF ⟨hj, rfl, rfl, rfl⟩⟩
    rintro ys σ' H3 ⟨h1, rfl, h3, rfl⟩ Dm hDm
    refine ⟨(by show 0 ≤ sizeLine; decide), fun l fl => ?_⟩
    refine ⟨Dm, l, 1, 1, .lst [], .lst [], rfl, rfl, by decide, by decide, holds_flatsL (xs := []) (SqL.of ((Same.upd0 fl) _ _ upd_same)) rfl, holds_flatsL (xs := []) (SqL.of upd_same) rfl, (fun _ h => nomatch h), (fun _ h => nomatch h), _, rfl, iteBF rfl ?_⟩
    have S := (Same.upd0 (o := .lst []) hDm).upd (o := .lst []) fl
    refine ⟨_, rfl, _, rfl, a, b, 1, 1, _, _, rfl, rfl, by decide, by decide, holds_ints (S.seq ha), holds_ints (S.seq hb), (fun _ h => nomatch h), (fun _ h => nomatch h), ?_⟩
    show Q (.bl (eqT (trI ns) (trI ns))) _
    rw [eqT_I, decide_eq_true rfl]
    exact k _ S
end
end K03
set_option Elab.async false
set_option linter.all false
set_option maxRecDepth 100000
set_option maxHeartbeats 1000000
namespace K03
open PySem L2 PyProof.Rows PySem.W
section
variable {P : Program} {w : World} {K : PySem.W.Frag} {mg : Str → Option Value} {base : Heap}
/-! ### the law -/
theorem SqL.tb {K : PySem.W.Frag} {H : Hp} {a P : Addr} {xs : List V} {ps : Array Value} {o : HO} (hP : H P = some (.tbl ps)) (hq : SqL K H a xs) : SqL K (upd H P o) a xs := by
  have ne : ∀ b u, H b = some u → (∀ qs, u ≠ .tbl qs) → b ≠ P := fun b u e n z => by subst z; rw [hP] at e; cases e; exact n _ rfl
  rcases hq with (h | ⟨o, h⟩) | h
  · exact .inl (.inl (by rw [upd_ne (ne _ _ h fun _ z => by cases z)]; exact h))
  · exact .inl (.inr ⟨o, by rw [upd_ne (ne _ _ h fun _ z => by cases z)]; exact h⟩)
  · exact .inr h
structure LS (C p sm rs hd : Addr) (F E B : Int) (f : Nat → Bool) (ms : List Int) (H : Hp) : Prop where
  lay : Lay C H p F E B
  some : H sm = some (.lst ((sel (10 + F + E) f B.toNat).map V.int))
  rest : H rs = Option.some (.lst ((sel (10 + F + E) (fun i => !f i) B.toNat).map V.int))
  hand : H hd = Option.some (.lst (ms.map V.int))
theorem LS.same {C p sm rs hd : Addr} {F E B : Int} {f : Nat → Bool} {ms : List Int} {H H' : Hp} (h : LS C p sm rs hd F E B f ms H) (s : Same H H') : LS C p sm rs hd F E B f ms H' := ⟨h.lay.same s, s _ _ h.some, s _ _ h.rest, s _ _ h.hand⟩
theorem sel_all (lo : Int) (n i : Nat) : (sel lo (fun _ => true) n)[i]? = if i < n then some (lo + (i : Int)) else none := by
  unfold sel
  rw [List.filter_eq_self.mpr (fun _ _ => rfl), List.getElem?_map]
  by_cases h : i < n
  · rw [List.getElem?_range h, if_pos h]; rfl
  · rw [List.getElem?_eq_none (by rw [List.length_range]; omega), if_neg h]; rfl
theorem sel_all_len (lo : Int) (n : Nat) : (sel lo (fun _ => true) n).length = n := by
  unfold sel
  rw [List.filter_eq_self.mpr (fun _ _ => rfl), List.length_map, List.length_range]
def spLaw (K : PySem.W.Frag) (ts : List Addr) : Sp := fun vs H Q _ => ∃ (a : Addr) (ns : List Int), vs = [.ref a] ∧ SqL K H a (ns.map V.int) ∧ ns.length ≤ 63 ∧ (∀ p ∈ ts, H p = some (.tbl #[])) ∧ ∀ H', Q (.bl true) H'
theorem ok_law (T : Tx K mg) (BB : BM mg base) {ts : List Addr} (hts : T.P_law ∈ ts) : FnOk P w K mg base CX0 5 T.f_law T.fd_law ["_law_script"] (spLaw K ts) := by
  refine T.FC_law.ok sc_law (fun vs H Q E h => ?_) (fun A outer s H vs Q E hr h => ?_)
  · obtain ⟨a, ns, rfl, _⟩ := h
    rfl
  · obtain ⟨a, ns, rfl, hS, hl, hT, k⟩ := h
    have r1 : Room 1 _ := hr.mono (by decide)
    have r2 : Room 2 _ := hr.mono (by decide)
    have r3 : Room 3 _ := hr.mono (by decide)
    have hu : _ + 60 < cLine := Nat.lt_of_le_of_lt (Nat.add_le_add_left (by decide : 60 ≤ 64) _) hr.units
    refine ⟨_, pss_cons (ps_set (i := 1) sc_law.nd rfl (Or.inr rfl) (pe_call (ok_layout T) r3 rfl T.g_l_layout T.F_l_layout.kp T.b_l_layout .nil pass0 (pa_cons (pv 0) pa_nil)))
      (pss_cons (ps_set (i := 2) sc_law.nd rfl (Or.inr rfl) (pe_call (ok_some T) r2 rfl T.g_l_some T.F_l_some.kp T.b_l_some .nil pass0 (pa_cons (pv 1) (pa_cons (pe_call (ok_cell T) r1 rfl T.g_l_cell T.F_l_cell.kp T.b_l_cell .nil pass0 (pa_cons (pv 0) (pa_cons pe_int pa_nil))) pa_nil))))
      (pss_cons (ps_setComp (i := 3) (N' := ["_law_k", "_law_layout_here"]) (cap := [none, some 1]) sc_law.nd rfl rfl rfl (compOk_of (by kernel_rfl)) (pi_range1 rfl T.z_range (pa_cons (pe_fld (pv 1) rfl) pa_nil))
        (fun cells C s₀ H₀ fp pins => ⟨pg_name (i := 0) (ndp2 (by decide +kernel)) rfl (Or.inl rfl) (.inr rfl), pifs_nil, pe_op op_add (pe_op op_add (pe_op op_add pe_int (pe_fldK (K := K) rfl (pv 1) rfl)) (pe_fldK (K := K) rfl (pv 1) rfl)) (pv 0)⟩))
      (pss_cons (ps_setComp (i := 3) (N' := ["_law_number", "_law_some_here"]) (cap := [none, some 2]) sc_law.nd rfl rfl rfl (compOk_of (by kernel_rfl)) (pi_list (pv 3))
        (fun cells C s₀ H₀ fp pins => ⟨pg_name (i := 0) (ndp2 (by decide +kernel)) rfl (Or.inl rfl) (.inr rfl), pifs_one (pt_cmpR (op_notIn_seqK (K := K) rfl) (pv 0) (pv 1) rfl), pv 0⟩))
      (pss_cons (ps_set (i := 4) sc_law.nd rfl (Or.inl rfl) (pe_sortKey (k := 1) (pn := "_law_one") (cn := "_law_script") 0 (pv 2) rfl T.z_sorted BB T.FC_law.hd rfl (by exact ⟨rfl, rfl, rfl, rfl, rfl, by decide +kernel, by decide +kernel⟩) hr rfl rfl (s.heap.objs.size + 1) rfl rfl
        (fun _ _ _ _ => rfl) (fun f c' A outer s H hr => pe_op op_mod (pe_op op_mul (pv 0) (pe_op op_add pe_int (pe_op op_mod (pe_call (ok_cell T) hr rfl T.g_l_cell T.F_l_cell.kp T.b_l_cell .nil pass0 (pa_cons (pv 1) (pa_cons pe_int pa_nil))) pe_int))) pe_int)))
      (pss_cons (ps_set (i := 5) sc_law.nd rfl (Or.inl rfl) (pe_callTy call_list_of rfl T.z_list (by kernel_rfl) (pa_cons (pv 4) pa_nil)))
      (pss_cons (ps_set (i := 6) sc_law.nd rfl (Or.inl rfl) (pe_call (ok_maprow T) hr rfl T.g_map_row T.F_map_row.kp T.b_map_row .nil pass0 (pa_cons (pv 1) (pa_cons (pv 4) pa_nil))))
      (pss_cons (ps_set (i := 7) sc_law.nd rfl (Or.inl rfl) (pe_call (ok_row T) r1 rfl T.g_l_row T.F_l_row.kp T.b_l_row .nil pass0 (pa_cons (pv 1) (pa_cons (pv 2) pa_nil))))
      (pss_cons (ps_if (PW.pt (pw_or (pt_not (pt_val (pe_call (ok_blocks T) r1 rfl T.g_l_blocks T.F_l_blocks.kp T.b_l_blocks .nil pass0 (pa_cons (pv 6) (pa_cons (pv 7) pa_nil))))) (pw_or1 (pt_cmpR (op_neT hu) (pv 4) (pv 5) (nomark _))))) (pss_one (ps_ret pe_bl)) pss_nil)
      (pss_cons (ps_if (PW.pt (pw_or (pt_not (pt_val (pe_call (ok_blocks T) r1 rfl T.g_l_blocks T.F_l_blocks.kp T.b_l_blocks .nil pass0 (pa_cons (pe_call (ok_claimed T) hr rfl T.g_claimed_of T.F_claimed_of.kp T.b_claimed_of .nil pass0 (pa_cons (pv 1) (pa_cons (pv 6) pa_nil))) (pa_cons (pv 2) pa_nil)))))
        (pw_or1 (pt_not (pt_val (pe_call (ok_blocks T) r1 rfl T.g_l_blocks T.F_l_blocks.kp T.b_l_blocks .nil pass0 (pa_cons (pe_call (ok_free T) hr rfl T.g_free_of T.F_free_of.kp T.b_free_of .nil pass0 (pa_cons (pv 1) (pa_cons (pv 6) pa_nil))) (pa_cons (pv 3) pa_nil)))))))) (pss_one (ps_ret pe_bl)) pss_nil)
      (pss_cons (ps_if (PW.pt (pw_or (pt_cmpR (op_neT hu) (pv 6) (pv 7) (nomark _)) (pw_or1 (pt_not (pt_val (pe_call (ok_blocks T) r1 rfl T.g_l_blocks T.F_l_blocks.kp T.b_l_blocks .nil pass0 (@pa_cons _ _ _ _ _ (pe_call (ok_maprow T) hr rfl T.g_map_row T.F_map_row.kp T.b_map_row .nil pass0 (pa_cons (pv 1) (pa_cons (pe_lst pa_nil) pa_nil))) (@pa_cons _ _ _ _ _ (@pe_ints _ _ _ _ rfl) pa_nil rfl) rfl))))))) (pss_one (ps_ret pe_bl)) pss_nil)
      (pss_cons (ps_asg (pe_op op_add (pe_ix ix_list (pv 6) pe_int (fun _ _ => rfl)) pe_int) (pg_sub (pv 6) pe_int set_list))
      (pss_cons (ps_expr (pe_bm PySem.F.plainAttrs_list PySem.F.slot_list_append PySem.F.type_list_append mt_append (pe_call (ok_claimed T) hr rfl T.g_claimed_of T.F_claimed_of.kp T.b_claimed_of .nil pass0 (pa_cons (pv 1) (pa_cons (pv 7) pa_nil))) (pa_cons pe_int pa_nil)))
      (pss_cons (ps_expr (pe_bm PySem.F.plainAttrs_list PySem.F.slot_list_append PySem.F.type_list_append mt_append (pe_call (ok_free T) hr rfl T.g_free_of T.F_free_of.kp T.b_free_of .nil pass0 (pa_cons (pv 1) (pa_cons (pv 7) pa_nil))) (pa_cons pe_int pa_nil)))
      (pss_cons (ps_if (PW.pt (pw_or (pt_not (pt_val (pe_call (ok_blocks T) r1 rfl T.g_l_blocks T.F_l_blocks.kp T.b_l_blocks .nil pass0 (pa_cons (pe_call (ok_claimed T) hr rfl T.g_claimed_of T.F_claimed_of.kp T.b_claimed_of .nil pass0 (pa_cons (pv 1) (pa_cons (pv 7) pa_nil))) (pa_cons (pv 2) pa_nil)))))
        (pw_or1 (pt_not (pt_val (pe_call (ok_blocks T) r1 rfl T.g_l_blocks T.F_l_blocks.kp T.b_l_blocks .nil pass0 (pa_cons (pe_call (ok_free T) hr rfl T.g_free_of T.F_free_of.kp T.b_free_of .nil pass0 (pa_cons (pv 1) (pa_cons (pv 7) pa_nil))) (pa_cons (pv 3) pa_nil)))))))) (pss_one (ps_ret pe_bl)) pss_nil)
      (pss_one (ps_ret (pe_call (ok_blocks T) r1 rfl T.g_l_blocks T.F_l_blocks.kp T.b_l_blocks .nil pass0 (pa_cons (pe_call (ok_maprow T) hr rfl T.g_map_row T.F_map_row.kp T.b_map_row .nil pass0 (pa_cons (pv 1) (pa_cons (pv 4) pa_nil))) (pa_cons (pv 7) pa_nil))))))))))))))))))), ?_⟩
    refine ⟨_, rfl, a, ns, rfl, hS, hl, fun p F E B H1 ok hp1 s1 => ?_⟩
    have b1 := ok.b1; have b2 := ok.b2
    have hP1 := s1 _ _ (hT _ hts)
    obtain ⟨dx, hp1⟩ := hp1
    refine ⟨_, rfl, _, rfl, a, ns, 1, rfl, s1.seq hS, hl, p, F, E, B, _, rfl, ⟨dx, hp1⟩, ok, fun sm H2 s2 fsm hsm => ?_⟩
    generalize hf : fS (ns.getD 1 0) = f at hsm
    have hp2 := s2 _ _ hp1
    have hS2 := (s1.trans s2).seq hS
    have hP2 := s2 _ _ hP1
    refine ⟨_, rfl, p, T.C_Layout, dx, _, _, rfl, hp2, T.cl_Layout, T.n_Layout_data, lay_data _ _ _, B, rfl, by omega, by omega, ?_⟩
    refine comp_range (cap := [none, some 1]) (σ := [some (.ref a), some (.ref p), some (.ref sm), none, none, none, none, none]) (small_len (n := B.toNat) (by omega)) (fun i ys σ H' => i ≤ B.toNat ∧ ys = (sel (10 + F + E) (fun _ => true) i).map V.int ∧ (∃ s0, σ = [s0, some (.ref p)]) ∧ H' = H2)
      (by exact ⟨Nat.zero_le _, rfl, ⟨none, rfl⟩, rfl⟩) (fun i ys σ H' ⟨h1, h2, _⟩ => ⟨h1, by rw [h2, List.length_map]; exact sel_len ..⟩) ?_ ?_
    · rintro i ys σ H' hi ⟨h1, rfl, ⟨s0, rfl⟩, rfl⟩
      have e0 : (0 : Int) + (i : Int) = (i : Int) := by omega
      rw [e0]
      exact ⟨_, rfl, p, T.C_Layout, dx, _, _, rfl, hp2, T.cl_Layout, T.n_Layout_files, lay_files _ _ _, _, _, rfl, rfl, _, rfl, p, T.C_Layout, dx, _, _, rfl, hp2, T.cl_Layout, T.n_Layout_slots, lay_slots _ _ _, _, _, rfl, rfl, _, rfl, _, _, rfl, rfl, hi, by rw [sel_succ, if_pos rfl, List.map_append]; rfl, ⟨_, rfl⟩, rfl⟩
    rintro ys σ H' ⟨h1, rfl, ⟨s0, rfl⟩, rfl⟩ r0 fr0
    have s3 := Same.upd0 (o := .lst ((sel (10 + F + E) (fun _ => true) B.toNat).map V.int)) fr0
    have hr0 : upd H' r0 (.lst ((sel (10 + F + E) (fun _ => true) B.toNat).map V.int)) r0 = _ := upd_same
    have hsm3 := s3 _ _ hsm
    have hp3 := s3 _ _ hp2
    have hS3 := s3.seq hS2
    have hP3 := s3 _ _ hP2
    generalize upd H' r0 (.lst ((sel (10 + F + E) (fun _ => true) B.toNat).map V.int)) = H3 at s3 hr0 hsm3 hp3 hS3 hP3 ⊢
    refine ⟨_, rfl, r0, rfl, ⟨_, SqL.of hr0⟩, ?_⟩
    refine comp_list (cap := [none, some 2]) (σ := [some (.ref a), some (.ref p), some (.ref sm), some (.ref r0), none, none, none, none]) (K := K) (a := r0) (xs := (sel (10 + F + E) (fun _ => true) B.toNat).map V.int) (small_len (by rw [List.length_map, sel_all_len]; omega)) (fun i ys σ H' => i ≤ B.toNat ∧ ys = (sel (10 + F + E) (fun i => !f i) i).map V.int ∧ (∃ s0, σ = [s0, some (.ref sm)]) ∧ H' = H3)
      (by exact ⟨Nat.zero_le _, rfl, ⟨none, rfl⟩, rfl⟩) (fun i ys σ H' ⟨h1, h2, _, h4⟩ => ⟨by rw [List.length_map, sel_all_len]; exact h1, by rw [h2, List.length_map]; exact sel_len .., by rw [h4]; exact SqL.of hr0⟩) ?_ ?_
    · rintro i x ys σ H' hx ⟨h1, rfl, ⟨s0, rfl⟩, rfl⟩
      rw [List.getElem?_map, sel_all] at hx
      by_cases hi : i < B.toNat
      rotate_left
      · rw [if_neg hi] at hx; cases hx
      rw [if_pos hi] at hx
      cases hx
      refine ⟨_, rfl, _, rfl, sm, _, rfl, .inl (SqL.of hsm3), rfl, flats_int _, _, rfl, ?_⟩
      rw [sel_succ]
      have hm := mem_sel (lo := 10 + F + E) (f := f) hi
      have ev : inV (.int (10 + F + E + (i : Int))) ((sel (10 + F + E) f B.toNat).map V.int) = f i := by
        rw [inV_int]
        cases hfi : f i
        · exact decide_eq_false fun z => by rw [hm.mp z] at hfi; cases hfi
        · exact decide_eq_true (hm.mpr hfi)
      cases hfi : f i
      · exact iteB (by show (!inV (.int (10 + F + E + (i : Int))) ((sel (10 + F + E) f B.toNat).map V.int)) = true; rw [ev, hfi]; rfl) ⟨_, rfl, hi, by rw [if_pos (by rfl), List.map_append]; rfl, ⟨_, rfl⟩, rfl⟩
      · exact iteBF (by show (!inV (.int (10 + F + E + (i : Int))) ((sel (10 + F + E) f B.toNat).map V.int)) = false; rw [ev, hfi]; rfl) ⟨hi, by rw [if_neg (by decide), List.append_nil], ⟨_, rfl⟩, rfl⟩
    rintro ys σ H' ⟨h1, rfl, ⟨s0, rfl⟩, rfl⟩ rs frs
    rw [List.length_map, sel_all_len]
    have s4 := Same.upd0 (o := .lst ((sel (10 + F + E) (fun i => !f i) B.toNat).map V.int)) frs
    have hrs : upd H' rs (.lst ((sel (10 + F + E) (fun i => !f i) B.toNat).map V.int)) rs = _ := upd_same
    have hsm4 := s4 _ _ hsm3
    have hp4 := s4 _ _ hp3
    have hS4 := s4.seq hS3
    have hP4 := s4 _ _ hP3
    generalize upd H' rs (.lst ((sel (10 + F + E) (fun i => !f i) B.toNat).map V.int)) = H4 at s4 hrs hsm4 hp4 hS4 hP4 ⊢
    have lsel := sel_len (10 + F + E) f B.toNat
    refine ⟨_, rfl, sm, sel (10 + F + E) f B.toNat, .ref a, fun n => n * (1 + ns.getD 2 0 % 97) % 101, #[], rfl, SqL.of hsm4, by omega, rfl, hP4, trivial, rfl, fun n hn more => ?_, fun cr hd ms hpm fhd nhd => ?_⟩
    · exact ⟨_, rfl, _, rfl, a, ns, 2, rfl, SqL.tb hP4 hS4, hl, _, _, rfl, rfl, (by show (0 : Int) < 97; decide), _, _, rfl, rfl, _, _, rfl, rfl, .inr ⟨by omega, by omega⟩, _, _, rfl, rfl, (by show (0 : Int) < 101; decide), rfl, rfl⟩
    generalize hT5 : upd (upd H4 T.P_law (.tbl (#[] ++ #[_, _, cr]))) hd (.lst (ms.map V.int)) = H5
    have keep : ∀ b o, H4 b = some o → (∀ qs, o ≠ .tbl qs) → H5 b = some o := fun b o e n => by
      rw [← hT5, upd_ne (ne_of_none e fhd), upd_ne (fun z => by rw [z, hP4] at e; cases e; exact n _ rfl)]
      exact e
    have hhd : H5 hd = some (.lst (ms.map V.int)) := by rw [← hT5, upd_same]
    have L5 : LS T.C_Layout p sm rs hd F E B f ms H5 := ⟨⟨dx, keep _ _ hp4 (fun _ z => by cases z)⟩, keep _ _ hsm4 (fun _ z => by cases z), keep _ _ hrs (fun _ z => by cases z), hhd⟩
    clear hT5 keep
    have lms : ms.length ≤ 40 := by rw [hpm.length_eq]; omega
    refine ⟨_, rfl, hd, _, rfl, .inl (SqL.of hhd), fun kp fkp => ?_⟩
    have L6 := L5.same (Same.upd0 (o := .lst (ms.map V.int)) fkp)
    have hkp : upd H5 kp (.lst (ms.map V.int)) kp = some (.lst (ms.map V.int)) := upd_same
    generalize upd H5 kp (.lst (ms.map V.int)) = H6 at L6 hkp ⊢
    refine ⟨_, rfl, _, rfl, p, hd, F, E, B, ms, rfl, L6.lay, ok, L6.hand, fun fo H7 s7 ffo hfo => ?_⟩
    rw [plc_sel hpm] at hfo
    have L7 := L6.same s7
    refine ⟨_, rfl, _, rfl, p, sm, F, E, B, f, rfl, L7.lay, ok, L7.some, fun du H8 s8 fdu hdu => ?_⟩
    have ne : du ≠ fo := fun z => by rw [z, hfo] at fdu; cases fdu
    have S8 := s7.trans s8
    have hfo8 := s8 _ _ hfo
    have l8 := row8_len ((List.range B.toNat).filter f)
    refine ⟨_, rfl, _, rfl, fo, du, _, rfl, SqL.of hfo8, SqL.of hdu, hfo8, by omega, fun H9 s9 => ⟨true, rfl, iteF ?_⟩⟩
    have L9 := (L7.same s8).same s9
    have hkp9 := s9 _ _ (S8 _ _ hkp)
    refine ⟨_, rfl, _, rfl, hd, kp, 1, 1, _, _, rfl, rfl, by decide, by decide, holds_ints (SqL.of L9.hand), holds_ints (SqL.of hkp9), (fun _ h => nomatch h), (fun _ h => nomatch h), _, rfl, iteBF (by rw [eqT_I]; simp) ?_⟩
    have hfo9 := s9 _ _ hfo8
    have hdu9 := s9 _ _ hdu
    have S9 := S8.trans s9
    have lsel2 := sel_len (10 + F + E) (fun i => !f i) B.toNat
    refine ⟨_, rfl, _, rfl, p, fo, F, E, B, f, rfl, L9.lay, ok, hfo9, fun cl H10 s10 fcl hcl => ⟨_, rfl, cl, sm, _, rfl, SqL.of hcl, SqL.of (L9.same s10).some, hcl, Nat.le_trans lsel (by omega), fun H11 s11 => ⟨true, rfl, iteF ?_⟩⟩⟩
    have s11 := s10.trans s11
    refine ⟨_, rfl, _, rfl, p, fo, F, E, B, f, rfl, (L9.same s11).lay, ok, s11 _ _ hfo9, fun cl2 H12 s12 fcl2 hcl2 => ⟨_, rfl, cl2, rs, _, rfl, SqL.of hcl2, SqL.of ((L9.same s11).same s12).rest, hcl2, Nat.le_trans lsel2 (by omega), fun H13 s13 => ⟨true, rfl, iteF ?_⟩⟩⟩
    have s13 := (s11.trans s12).trans s13
    have hfo13 := s13 _ _ hfo9
    have hdu13 := s13 _ _ hdu9
    have S13 := S9.trans s13
    refine ⟨_, rfl, _, rfl, fo, du, 1, 1, _, _, rfl, rfl, by decide, by decide, holds_ints (SqL.of hfo13), holds_ints (SqL.of hdu13), (fun _ h => nomatch h), (fun _ h => nomatch h), _, rfl, iteBF (by rw [eqT_I]; simp) ?_⟩
    refine ⟨_, rfl, (by show 0 ≤ sizeLine; decide), fun e fe => ⟨p, e, F, E, B, [], rfl, (L9.same (s13.upd fe)).lay, ok, upd_same, fun z H14 s14 fz hz => ⟨(by show 8 ≤ sizeLine; decide), fun d0 fd0 => ?_⟩⟩⟩
    rw [plc_nil] at hz
    have sz := Same.upd0 (o := .lst ((row8 []).map V.int)) fd0
    refine ⟨z, d0, row8 [], rfl, SqL.of (sz _ _ hz), SqL.of upd_same, sz _ _ hz, by decide, fun H15 s15 => ⟨true, rfl, iteF ?_⟩⟩
    have s15 := (((s13.upd (o := .lst []) fe).trans s14).trans sz).trans s15
    have S15 := S9.trans s15
    have hfo15 := s15 _ _ hfo9
    have hdu15 := s15 _ _ hdu9
    refine ⟨_, rfl, fo, _, 0, .int (val 0 ((List.range B.toNat).filter f)), rfl, rfl, SqL.of hfo15, atI_nat (j := 0) (by rw [List.getElem?_map, row8_at _ (by decide)]; rfl), _, _, rfl, rfl, _, rfl, fo, _, _, 0, rfl, rfl, hfo15, ixN_nat (i := 0) (by rw [List.length_map, l8]; decide), ?_⟩
    generalize hT16 : upd H15 fo _ = H16
    have S16 : Same H6 H16 := by rw [← hT16]; exact S15.updF ffo
    have hdu16 : MapAt H16 du f B.toNat := by
      show H16 du = _
      rw [← hT16, upd_ne ne]; exact hdu15
    clear hT16
    have L16 := L6.same S16
    refine ⟨_, rfl, _, rfl, p, du, F, E, B, f, rfl, L16.lay, ok, hdu16, fun c1 H17 s17 fc1 hc1 => ⟨.inl ⟨rfl, _, SqL.of hc1⟩, c1, _, _, rfl, rfl, hc1, (by rw [List.length_map]; exact Nat.lt_of_le_of_lt lsel (Nat.lt_of_lt_of_le (show B.toNat < 1000 by omega) (by decide))), ?_⟩⟩
    generalize hT18 : upd H17 c1 _ = H18
    have s18 : Same H16 H18 := by rw [← hT18]; exact s17.updF fc1
    clear hT18
    refine ⟨_, rfl, _, rfl, p, du, F, E, B, f, rfl, (L16.same s18).lay, ok, s18 _ _ hdu16, fun c2 H19 s19 fc2 hc2 => ⟨.inl ⟨rfl, _, SqL.of hc2⟩, c2, _, _, rfl, rfl, hc2, (by rw [List.length_map]; exact Nat.lt_of_le_of_lt lsel2 (Nat.lt_of_lt_of_le (show B.toNat < 1000 by omega) (by decide))), ?_⟩⟩
    generalize hT20 : upd H19 c2 _ = H20
    have s20 : Same H18 H20 := by rw [← hT20]; exact s19.updF fc2
    clear hT20
    have s20 := s18.trans s20
    have L20 := L16.same s20
    have hdu20 := s20 _ _ hdu16
    refine ⟨_, rfl, _, rfl, p, du, F, E, B, f, rfl, L20.lay, ok, hdu20, fun cl H21 s21 fcl hcl => ⟨_, rfl, cl, sm, _, rfl, SqL.of hcl, SqL.of (L20.same s21).some, hcl, Nat.le_trans lsel (by omega), fun H22 s22 => ⟨true, rfl, iteF ?_⟩⟩⟩
    have s22 := s21.trans s22
    refine ⟨_, rfl, _, rfl, p, du, F, E, B, f, rfl, (L20.same s22).lay, ok, s22 _ _ hdu20, fun cl2 H23 s23 fcl2 hcl2 => ⟨_, rfl, cl2, rs, _, rfl, SqL.of hcl2, SqL.of ((L20.same s22).same s23).rest, hcl2, Nat.le_trans lsel2 (by omega), fun H24 s24 => ⟨true, rfl, iteF ?_⟩⟩⟩
    have s24 := (s22.trans s23).trans s24
    have L24 := L20.same s24
    refine ⟨_, rfl, _, rfl, p, hd, F, E, B, ms, rfl, L24.lay, ok, L24.hand, fun z H25 s25 fz hz => ?_⟩
    rw [plc_sel hpm] at hz
    exact ⟨_, rfl, z, du, _, rfl, SqL.of hz, SqL.of (s25 _ _ (s24 _ _ hdu20)), hz, by omega, fun H26 _ => k H26⟩
end
end K03
set_option Elab.async false
set_option linter.all false
set_option maxRecDepth 100000
set_option maxHeartbeats 1000000
namespace K03
open PySem L2 PyProof.Rows PySem.W
/-! ### the making of it, and the end -/
theorem all_mk {l : PySem.W.OpenLaw} {w : World} {K : PySem.W.Frag} {h : Heap} {mg : Str → Option Value} {fa : Addr} {ts : List Addr} (X : K.In h) (G : h.Ns mainGlobals mg) (hfa : mg "law" = some (.ref fa))
    {C_Layout : Addr}
    {C_NoLayout : Addr}
    {f_Layout_init : Addr} {od_Layout_init an_Layout_init : Option Addr} {sl_Layout_init : Array (Option Value)} {oc_Layout_init kV_Layout_init dc_Layout_init pm_Layout_init cd_Layout_init ct_Layout_init : Value}
    {f_Layout_record_at : Addr} {od_Layout_record_at an_Layout_record_at : Option Addr} {sl_Layout_record_at : Array (Option Value)} {oc_Layout_record_at kV_Layout_record_at dc_Layout_record_at pm_Layout_record_at cd_Layout_record_at ct_Layout_record_at : Value}
    {f_Layout_names_at : Addr} {od_Layout_names_at an_Layout_names_at : Option Addr} {sl_Layout_names_at : Array (Option Value)} {oc_Layout_names_at kV_Layout_names_at dc_Layout_names_at pm_Layout_names_at cd_Layout_names_at ct_Layout_names_at : Value}
    {f_Layout_data_at : Addr} {od_Layout_data_at an_Layout_data_at : Option Addr} {sl_Layout_data_at : Array (Option Value)} {oc_Layout_data_at kV_Layout_data_at dc_Layout_data_at pm_Layout_data_at cd_Layout_data_at ct_Layout_data_at : Value}
    {f_bit_of : Addr} {od_bit_of an_bit_of : Option Addr} {sl_bit_of : Array (Option Value)} {oc_bit_of kV_bit_of dc_bit_of pm_bit_of cd_bit_of ct_bit_of : Value}
    {f_is_told : Addr} {od_is_told an_is_told : Option Addr} {sl_is_told : Array (Option Value)} {oc_is_told kV_is_told dc_is_told pm_is_told cd_is_told ct_is_told : Value}
    {f_map_row : Addr} {od_map_row an_map_row : Option Addr} {sl_map_row : Array (Option Value)} {oc_map_row kV_map_row dc_map_row pm_map_row cd_map_row ct_map_row : Value}
    {f_claimed_of : Addr} {od_claimed_of an_claimed_of : Option Addr} {sl_claimed_of : Array (Option Value)} {oc_claimed_of kV_claimed_of dc_claimed_of pm_claimed_of cd_claimed_of ct_claimed_of : Value}
    {f_free_of : Addr} {od_free_of an_free_of : Option Addr} {sl_free_of : Array (Option Value)} {oc_free_of kV_free_of dc_free_of pm_free_of cd_free_of ct_free_of : Value}
    {f_l_cell : Addr} {od_l_cell an_l_cell : Option Addr} {sl_l_cell : Array (Option Value)} {oc_l_cell kV_l_cell dc_l_cell pm_l_cell cd_l_cell ct_l_cell : Value}
    {f_l_mixed : Addr} {od_l_mixed an_l_mixed : Option Addr} {sl_l_mixed : Array (Option Value)} {oc_l_mixed kV_l_mixed dc_l_mixed pm_l_mixed cd_l_mixed ct_l_mixed : Value}
    {f_l_layout : Addr} {od_l_layout an_l_layout : Option Addr} {sl_l_layout : Array (Option Value)} {oc_l_layout kV_l_layout dc_l_layout pm_l_layout cd_l_layout ct_l_layout : Value}
    {f_l_some : Addr} {od_l_some an_l_some : Option Addr} {sl_l_some : Array (Option Value)} {oc_l_some kV_l_some dc_l_some pm_l_some cd_l_some ct_l_some : Value}
    {f_l_row : Addr} {od_l_row an_l_row : Option Addr} {sl_l_row : Array (Option Value)} {oc_l_row kV_l_row dc_l_row pm_l_row cd_l_row ct_l_row : Value}
    {f_l_blocks : Addr} {od_l_blocks an_l_blocks : Option Addr} {sl_l_blocks : Array (Option Value)} {oc_l_blocks kV_l_blocks dc_l_blocks pm_l_blocks cd_l_blocks ct_l_blocks : Value}
    {f_law : Addr} {od_law an_law : Option Addr} {sl_law : Array (Option Value)} {oc_law kV_law dc_law pm_law cd_law ct_law : Value}
    {cc_law P_law : Addr} {cv_law : Array Value} {cod_law : Option Addr} {cos_law : Array (Option Value)}
    {t_WIDE : Tok}
    {t_RECORDS_AT : Tok}
    {t_BITS : Tok}
    (aC_Layout : PySem.W.nsIn K mainGlobals "Layout" = some (some (.ref C_Layout)))
    (pg_Layout : PySem.W.plainGet K C_Layout Str.empty = true)
    (hd_Layout : PySem.W.hasDictIn K C_Layout = true)
    (po_Layout : PySem.W.plainOver K C_Layout = true)
    (sa_Layout : PySem.W.findIn K (.ref C_Layout) "__setattr__" = some (some (.builtin "object.__setattr__")))
    (n_Layout_files : PySem.W.findIn K (.ref C_Layout) "files" = some none)
    (n_Layout_slots : PySem.W.findIn K (.ref C_Layout) "slots" = some none)
    (n_Layout_data : PySem.W.findIn K (.ref C_Layout) "data" = some none)
    (aC_NoLayout : PySem.W.nsIn K mainGlobals "NoLayout" = some (some (.ref C_NoLayout)))
    (a_Layout_init : PySem.W.findIn K (.ref C_Layout) "__init__" = some (some (.ref f_Layout_init)))
    (i_Layout_init : PySem.W.isFn K (.ref f_Layout_init) = true)
    (l_Layout_init : K.lookup f_Layout_init = some ⟨oc_Layout_init, od_Layout_init, .func (PySem.W.fnOf "__init__" "Layout.__init__" (defArgs s_Layout_init) (defBody s_Layout_init) (defScope s_Layout_init) .none kV_Layout_init dc_Layout_init pm_Layout_init an_Layout_init cd_Layout_init ct_Layout_init), sl_Layout_init⟩)
    (c_Layout_init : PySem.W.codeIn K cd_Layout_init "Layout.__init__" = true)
    (k_Layout_init : PySem.W.keepIn K (.ref f_Layout_init) = true)
    (mk_Layout : PySem.W.makesIn K C_Layout = true)
    (kc_Layout : PySem.W.keepIn K (.ref C_Layout) = true)
    (a_Layout_record_at : PySem.W.findIn K (.ref C_Layout) "record_at" = some (some (.ref f_Layout_record_at)))
    (i_Layout_record_at : PySem.W.isFn K (.ref f_Layout_record_at) = true)
    (l_Layout_record_at : K.lookup f_Layout_record_at = some ⟨oc_Layout_record_at, od_Layout_record_at, .func (PySem.W.fnOf "record_at" "Layout.record_at" (defArgs s_Layout_record_at) (defBody s_Layout_record_at) (defScope s_Layout_record_at) .none kV_Layout_record_at dc_Layout_record_at pm_Layout_record_at an_Layout_record_at cd_Layout_record_at ct_Layout_record_at), sl_Layout_record_at⟩)
    (c_Layout_record_at : PySem.W.codeIn K cd_Layout_record_at "Layout.record_at" = true)
    (k_Layout_record_at : PySem.W.keepIn K (.ref f_Layout_record_at) = true)
    (a_Layout_names_at : PySem.W.findIn K (.ref C_Layout) "names_at" = some (some (.ref f_Layout_names_at)))
    (i_Layout_names_at : PySem.W.isFn K (.ref f_Layout_names_at) = true)
    (l_Layout_names_at : K.lookup f_Layout_names_at = some ⟨oc_Layout_names_at, od_Layout_names_at, .func (PySem.W.fnOf "names_at" "Layout.names_at" (defArgs s_Layout_names_at) (defBody s_Layout_names_at) (defScope s_Layout_names_at) .none kV_Layout_names_at dc_Layout_names_at pm_Layout_names_at an_Layout_names_at cd_Layout_names_at ct_Layout_names_at), sl_Layout_names_at⟩)
    (c_Layout_names_at : PySem.W.codeIn K cd_Layout_names_at "Layout.names_at" = true)
    (k_Layout_names_at : PySem.W.keepIn K (.ref f_Layout_names_at) = true)
    (a_Layout_data_at : PySem.W.findIn K (.ref C_Layout) "data_at" = some (some (.ref f_Layout_data_at)))
    (i_Layout_data_at : PySem.W.isFn K (.ref f_Layout_data_at) = true)
    (l_Layout_data_at : K.lookup f_Layout_data_at = some ⟨oc_Layout_data_at, od_Layout_data_at, .func (PySem.W.fnOf "data_at" "Layout.data_at" (defArgs s_Layout_data_at) (defBody s_Layout_data_at) (defScope s_Layout_data_at) .none kV_Layout_data_at dc_Layout_data_at pm_Layout_data_at an_Layout_data_at cd_Layout_data_at ct_Layout_data_at), sl_Layout_data_at⟩)
    (c_Layout_data_at : PySem.W.codeIn K cd_Layout_data_at "Layout.data_at" = true)
    (k_Layout_data_at : PySem.W.keepIn K (.ref f_Layout_data_at) = true)
    (a_bit_of : PySem.W.nsIn K mainGlobals "bit_of" = some (some (.ref f_bit_of)))
    (l_bit_of : K.lookup f_bit_of = some ⟨oc_bit_of, od_bit_of, .func (PySem.W.fnOf "bit_of" "bit_of" (defArgs s_bit_of) (defBody s_bit_of) (defScope s_bit_of) .none kV_bit_of dc_bit_of pm_bit_of an_bit_of cd_bit_of ct_bit_of), sl_bit_of⟩)
    (c_bit_of : PySem.W.codeIn K cd_bit_of "bit_of" = true)
    (k_bit_of : PySem.W.keepIn K (.ref f_bit_of) = true)
    (a_is_told : PySem.W.nsIn K mainGlobals "is_told" = some (some (.ref f_is_told)))
    (l_is_told : K.lookup f_is_told = some ⟨oc_is_told, od_is_told, .func (PySem.W.fnOf "is_told" "is_told" (defArgs s_is_told) (defBody s_is_told) (defScope s_is_told) .none kV_is_told dc_is_told pm_is_told an_is_told cd_is_told ct_is_told), sl_is_told⟩)
    (c_is_told : PySem.W.codeIn K cd_is_told "is_told" = true)
    (k_is_told : PySem.W.keepIn K (.ref f_is_told) = true)
    (a_map_row : PySem.W.nsIn K mainGlobals "map_row" = some (some (.ref f_map_row)))
    (l_map_row : K.lookup f_map_row = some ⟨oc_map_row, od_map_row, .func (PySem.W.fnOf "map_row" "map_row" (defArgs s_map_row) (defBody s_map_row) (defScope s_map_row) .none kV_map_row dc_map_row pm_map_row an_map_row cd_map_row ct_map_row), sl_map_row⟩)
    (c_map_row : PySem.W.codeIn K cd_map_row "map_row" = true)
    (k_map_row : PySem.W.keepIn K (.ref f_map_row) = true)
    (a_claimed_of : PySem.W.nsIn K mainGlobals "claimed_of" = some (some (.ref f_claimed_of)))
    (l_claimed_of : K.lookup f_claimed_of = some ⟨oc_claimed_of, od_claimed_of, .func (PySem.W.fnOf "claimed_of" "claimed_of" (defArgs s_claimed_of) (defBody s_claimed_of) (defScope s_claimed_of) .none kV_claimed_of dc_claimed_of pm_claimed_of an_claimed_of cd_claimed_of ct_claimed_of), sl_claimed_of⟩)
    (c_claimed_of : PySem.W.codeIn K cd_claimed_of "claimed_of" = true)
    (k_claimed_of : PySem.W.keepIn K (.ref f_claimed_of) = true)
    (a_free_of : PySem.W.nsIn K mainGlobals "free_of" = some (some (.ref f_free_of)))
    (l_free_of : K.lookup f_free_of = some ⟨oc_free_of, od_free_of, .func (PySem.W.fnOf "free_of" "free_of" (defArgs s_free_of) (defBody s_free_of) (defScope s_free_of) .none kV_free_of dc_free_of pm_free_of an_free_of cd_free_of ct_free_of), sl_free_of⟩)
    (c_free_of : PySem.W.codeIn K cd_free_of "free_of" = true)
    (k_free_of : PySem.W.keepIn K (.ref f_free_of) = true)
    (a_l_cell : PySem.W.nsIn K mainGlobals "_law_cell" = some (some (.ref f_l_cell)))
    (l_l_cell : K.lookup f_l_cell = some ⟨oc_l_cell, od_l_cell, .func (PySem.W.fnOf "_law_cell" "_law_cell" (defArgs s_l_cell) (defBody s_l_cell) (defScope s_l_cell) .none kV_l_cell dc_l_cell pm_l_cell an_l_cell cd_l_cell ct_l_cell), sl_l_cell⟩)
    (c_l_cell : PySem.W.codeIn K cd_l_cell "_law_cell" = true)
    (k_l_cell : PySem.W.keepIn K (.ref f_l_cell) = true)
    (a_l_mixed : PySem.W.nsIn K mainGlobals "_law_mixed" = some (some (.ref f_l_mixed)))
    (l_l_mixed : K.lookup f_l_mixed = some ⟨oc_l_mixed, od_l_mixed, .func (PySem.W.fnOf "_law_mixed" "_law_mixed" (defArgs s_l_mixed) (defBody s_l_mixed) (defScope s_l_mixed) .none kV_l_mixed dc_l_mixed pm_l_mixed an_l_mixed cd_l_mixed ct_l_mixed), sl_l_mixed⟩)
    (c_l_mixed : PySem.W.codeIn K cd_l_mixed "_law_mixed" = true)
    (k_l_mixed : PySem.W.keepIn K (.ref f_l_mixed) = true)
    (a_l_layout : PySem.W.nsIn K mainGlobals "_law_layout" = some (some (.ref f_l_layout)))
    (l_l_layout : K.lookup f_l_layout = some ⟨oc_l_layout, od_l_layout, .func (PySem.W.fnOf "_law_layout" "_law_layout" (defArgs s_l_layout) (defBody s_l_layout) (defScope s_l_layout) .none kV_l_layout dc_l_layout pm_l_layout an_l_layout cd_l_layout ct_l_layout), sl_l_layout⟩)
    (c_l_layout : PySem.W.codeIn K cd_l_layout "_law_layout" = true)
    (k_l_layout : PySem.W.keepIn K (.ref f_l_layout) = true)
    (a_l_some : PySem.W.nsIn K mainGlobals "_law_some" = some (some (.ref f_l_some)))
    (l_l_some : K.lookup f_l_some = some ⟨oc_l_some, od_l_some, .func (PySem.W.fnOf "_law_some" "_law_some" (defArgs s_l_some) (defBody s_l_some) (defScope s_l_some) .none kV_l_some dc_l_some pm_l_some an_l_some cd_l_some ct_l_some), sl_l_some⟩)
    (c_l_some : PySem.W.codeIn K cd_l_some "_law_some" = true)
    (k_l_some : PySem.W.keepIn K (.ref f_l_some) = true)
    (a_l_row : PySem.W.nsIn K mainGlobals "_law_row" = some (some (.ref f_l_row)))
    (l_l_row : K.lookup f_l_row = some ⟨oc_l_row, od_l_row, .func (PySem.W.fnOf "_law_row" "_law_row" (defArgs s_l_row) (defBody s_l_row) (defScope s_l_row) .none kV_l_row dc_l_row pm_l_row an_l_row cd_l_row ct_l_row), sl_l_row⟩)
    (c_l_row : PySem.W.codeIn K cd_l_row "_law_row" = true)
    (k_l_row : PySem.W.keepIn K (.ref f_l_row) = true)
    (a_l_blocks : PySem.W.nsIn K mainGlobals "_law_blocks" = some (some (.ref f_l_blocks)))
    (l_l_blocks : K.lookup f_l_blocks = some ⟨oc_l_blocks, od_l_blocks, .func (PySem.W.fnOf "_law_blocks" "_law_blocks" (defArgs s_l_blocks) (defBody s_l_blocks) (defScope s_l_blocks) .none kV_l_blocks dc_l_blocks pm_l_blocks an_l_blocks cd_l_blocks ct_l_blocks), sl_l_blocks⟩)
    (c_l_blocks : PySem.W.codeIn K cd_l_blocks "_law_blocks" = true)
    (k_l_blocks : PySem.W.keepIn K (.ref f_l_blocks) = true)
    (a_law : PySem.W.nsIn K mainGlobals "law" = some (some (.ref f_law)))
    (l_law : K.lookup f_law = some ⟨oc_law, od_law, .func (PySem.W.fnOf "law" "law" (defArgs s_law) (defBody s_law) (defScope s_law) .none kV_law dc_law pm_law an_law cd_law ct_law), sl_law⟩)
    (c_law : PySem.W.codeIn K cd_law "law" = true)
    (k_law : PySem.W.keepIn K (.ref f_law) = true)
    (ce_law : cd_law = .ref cc_law)
    (cl_law : K.lookup cc_law = some ⟨.type "code", cod_law, .fields cv_law, cos_law⟩)
    (cP_law : cv_law[11]? = some (.ref P_law))
    (ch_law : codeHdIn K cc_law P_law = true)
    (cn_law : (K.lookup P_law).isNone = true)
    (cm_law : ts.contains P_law = true)
    (a_WIDE : PySem.W.nsIn K mainGlobals "WIDE" = some (some (.int 8 t_WIDE)))
    (a_RECORDS_AT : PySem.W.nsIn K mainGlobals "RECORDS_AT" = some (some (.int 10 t_RECORDS_AT)))
    (a_BITS : PySem.W.nsIn K mainGlobals "BITS" = some (some (.int 20 t_BITS)))
    (ex_NoLayout : PySem.W.excIn K C_NoLayout [.type "ValueError", .type "Exception", .type "BaseException", .type "object"] "ValueError.__new__" = true)
    (z_len : PySem.W.nsIn K mainGlobals "len" = some none)
    (z_range : PySem.W.nsIn K mainGlobals "range" = some none)
    (z_isinstance : PySem.W.nsIn K mainGlobals "isinstance" = some none)
    (z_list : PySem.W.nsIn K mainGlobals "list" = some none)
    (z_bool : PySem.W.nsIn K mainGlobals "bool" = some none)
    (z_sorted : PySem.W.nsIn K mainGlobals "sorted" = some none)
    (ct_all : (ts.all fun p => p == P_law) = true)
    : ∃ fd : FuncData, (∀ (s : Shared) (v : Value), BindsTo s fd ⟨[v], []⟩ [("_law_script", v)]) ∧ (∀ p ∈ ts, K.lookup p = none ∧ ∃ c, codeHdIn K c p = true) ∧ ∀ base : Heap, K.In base → base.Ns mainGlobals mg → BM mg base → FnOk l.prog w K mg base CX0 5 fa fd ["_law_script"] (spLaw K ts) := by
  have e : f_law = fa := by
    have z := (PySem.W.mg_of X G a_law).symm.trans hfa
    injection z with z
    injection z
  subst e
  let T : Tx K mg := {
    C_Layout := C_Layout,
    cl_Layout := ⟨pg_Layout, hd_Layout, po_Layout, sa_Layout⟩,
    g_Layout := PySem.W.mg_of X G aC_Layout,
    n_Layout_files := n_Layout_files,
    n_Layout_slots := n_Layout_slots,
    n_Layout_data := n_Layout_data,
    C_NoLayout := C_NoLayout,
    g_NoLayout := PySem.W.mg_of X G aC_NoLayout,
    f_Layout_init := f_Layout_init,
    fd_Layout_init := PySem.W.fnOf "__init__" "Layout.__init__" (defArgs s_Layout_init) (defBody s_Layout_init) (defScope s_Layout_init) .none kV_Layout_init dc_Layout_init pm_Layout_init an_Layout_init cd_Layout_init ct_Layout_init,
    F_Layout_init := fun_mk (st := s_Layout_init) l_Layout_init c_Layout_init k_Layout_init,
    b_Layout_init := (fun_mk (st := s_Layout_init) l_Layout_init c_Layout_init k_Layout_init).binds (ps := ["self", "files", "slots", "data"]) fun _ _ _ _ _ _ us hl => match us, hl with | [_, _, _, _], _ => rfl,
    mk_Layout := ⟨mk_Layout, a_Layout_init, i_Layout_init, kc_Layout⟩,
    f_Layout_record_at := f_Layout_record_at,
    fd_Layout_record_at := PySem.W.fnOf "record_at" "Layout.record_at" (defArgs s_Layout_record_at) (defBody s_Layout_record_at) (defScope s_Layout_record_at) .none kV_Layout_record_at dc_Layout_record_at pm_Layout_record_at an_Layout_record_at cd_Layout_record_at ct_Layout_record_at,
    F_Layout_record_at := fun_mk (st := s_Layout_record_at) l_Layout_record_at c_Layout_record_at k_Layout_record_at,
    b_Layout_record_at := (fun_mk (st := s_Layout_record_at) l_Layout_record_at c_Layout_record_at k_Layout_record_at).binds (ps := ["self", "f"]) fun _ _ _ _ _ _ us hl => match us, hl with | [_, _], _ => rfl,
    m_Layout_record_at := ⟨a_Layout_record_at, i_Layout_record_at, k_Layout_record_at⟩,
    f_Layout_names_at := f_Layout_names_at,
    fd_Layout_names_at := PySem.W.fnOf "names_at" "Layout.names_at" (defArgs s_Layout_names_at) (defBody s_Layout_names_at) (defScope s_Layout_names_at) .none kV_Layout_names_at dc_Layout_names_at pm_Layout_names_at an_Layout_names_at cd_Layout_names_at ct_Layout_names_at,
    F_Layout_names_at := fun_mk (st := s_Layout_names_at) l_Layout_names_at c_Layout_names_at k_Layout_names_at,
    b_Layout_names_at := (fun_mk (st := s_Layout_names_at) l_Layout_names_at c_Layout_names_at k_Layout_names_at).binds (ps := ["self", "e"]) fun _ _ _ _ _ _ us hl => match us, hl with | [_, _], _ => rfl,
    m_Layout_names_at := ⟨a_Layout_names_at, i_Layout_names_at, k_Layout_names_at⟩,
    f_Layout_data_at := f_Layout_data_at,
    fd_Layout_data_at := PySem.W.fnOf "data_at" "Layout.data_at" (defArgs s_Layout_data_at) (defBody s_Layout_data_at) (defScope s_Layout_data_at) .none kV_Layout_data_at dc_Layout_data_at pm_Layout_data_at an_Layout_data_at cd_Layout_data_at ct_Layout_data_at,
    F_Layout_data_at := fun_mk (st := s_Layout_data_at) l_Layout_data_at c_Layout_data_at k_Layout_data_at,
    b_Layout_data_at := (fun_mk (st := s_Layout_data_at) l_Layout_data_at c_Layout_data_at k_Layout_data_at).binds (ps := ["self", "i"]) fun _ _ _ _ _ _ us hl => match us, hl with | [_, _], _ => rfl,
    m_Layout_data_at := ⟨a_Layout_data_at, i_Layout_data_at, k_Layout_data_at⟩,
    f_bit_of := f_bit_of,
    fd_bit_of := PySem.W.fnOf "bit_of" "bit_of" (defArgs s_bit_of) (defBody s_bit_of) (defScope s_bit_of) .none kV_bit_of dc_bit_of pm_bit_of an_bit_of cd_bit_of ct_bit_of,
    F_bit_of := fun_mk (st := s_bit_of) l_bit_of c_bit_of k_bit_of,
    b_bit_of := (fun_mk (st := s_bit_of) l_bit_of c_bit_of k_bit_of).binds (ps := ["place"]) fun _ _ _ _ _ _ us hl => match us, hl with | [_], _ => rfl,
    g_bit_of := PySem.W.mg_of X G a_bit_of,
    f_is_told := f_is_told,
    fd_is_told := PySem.W.fnOf "is_told" "is_told" (defArgs s_is_told) (defBody s_is_told) (defScope s_is_told) .none kV_is_told dc_is_told pm_is_told an_is_told cd_is_told ct_is_told,
    F_is_told := fun_mk (st := s_is_told) l_is_told c_is_told k_is_told,
    b_is_told := (fun_mk (st := s_is_told) l_is_told c_is_told k_is_told).binds (ps := ["row", "place"]) fun _ _ _ _ _ _ us hl => match us, hl with | [_, _], _ => rfl,
    g_is_told := PySem.W.mg_of X G a_is_told,
    f_map_row := f_map_row,
    fd_map_row := PySem.W.fnOf "map_row" "map_row" (defArgs s_map_row) (defBody s_map_row) (defScope s_map_row) .none kV_map_row dc_map_row pm_map_row an_map_row cd_map_row ct_map_row,
    F_map_row := fun_mk (st := s_map_row) l_map_row c_map_row k_map_row,
    b_map_row := (fun_mk (st := s_map_row) l_map_row c_map_row k_map_row).binds (ps := ["layout", "blocks"]) fun _ _ _ _ _ _ us hl => match us, hl with | [_, _], _ => rfl,
    g_map_row := PySem.W.mg_of X G a_map_row,
    f_claimed_of := f_claimed_of,
    fd_claimed_of := PySem.W.fnOf "claimed_of" "claimed_of" (defArgs s_claimed_of) (defBody s_claimed_of) (defScope s_claimed_of) .none kV_claimed_of dc_claimed_of pm_claimed_of an_claimed_of cd_claimed_of ct_claimed_of,
    F_claimed_of := fun_mk (st := s_claimed_of) l_claimed_of c_claimed_of k_claimed_of,
    b_claimed_of := (fun_mk (st := s_claimed_of) l_claimed_of c_claimed_of k_claimed_of).binds (ps := ["layout", "row"]) fun _ _ _ _ _ _ us hl => match us, hl with | [_, _], _ => rfl,
    g_claimed_of := PySem.W.mg_of X G a_claimed_of,
    f_free_of := f_free_of,
    fd_free_of := PySem.W.fnOf "free_of" "free_of" (defArgs s_free_of) (defBody s_free_of) (defScope s_free_of) .none kV_free_of dc_free_of pm_free_of an_free_of cd_free_of ct_free_of,
    F_free_of := fun_mk (st := s_free_of) l_free_of c_free_of k_free_of,
    b_free_of := (fun_mk (st := s_free_of) l_free_of c_free_of k_free_of).binds (ps := ["layout", "row"]) fun _ _ _ _ _ _ us hl => match us, hl with | [_, _], _ => rfl,
    g_free_of := PySem.W.mg_of X G a_free_of,
    f_l_cell := f_l_cell,
    fd_l_cell := PySem.W.fnOf "_law_cell" "_law_cell" (defArgs s_l_cell) (defBody s_l_cell) (defScope s_l_cell) .none kV_l_cell dc_l_cell pm_l_cell an_l_cell cd_l_cell ct_l_cell,
    F_l_cell := fun_mk (st := s_l_cell) l_l_cell c_l_cell k_l_cell,
    b_l_cell := (fun_mk (st := s_l_cell) l_l_cell c_l_cell k_l_cell).binds (ps := ["_law_script", "_law_k"]) fun _ _ _ _ _ _ us hl => match us, hl with | [_, _], _ => rfl,
    g_l_cell := PySem.W.mg_of X G a_l_cell,
    f_l_mixed := f_l_mixed,
    fd_l_mixed := PySem.W.fnOf "_law_mixed" "_law_mixed" (defArgs s_l_mixed) (defBody s_l_mixed) (defScope s_l_mixed) .none kV_l_mixed dc_l_mixed pm_l_mixed an_l_mixed cd_l_mixed ct_l_mixed,
    F_l_mixed := fun_mk (st := s_l_mixed) l_l_mixed c_l_mixed k_l_mixed,
    b_l_mixed := (fun_mk (st := s_l_mixed) l_l_mixed c_l_mixed k_l_mixed).binds (ps := ["_law_cell_here", "_law_k"]) fun _ _ _ _ _ _ us hl => match us, hl with | [_, _], _ => rfl,
    g_l_mixed := PySem.W.mg_of X G a_l_mixed,
    f_l_layout := f_l_layout,
    fd_l_layout := PySem.W.fnOf "_law_layout" "_law_layout" (defArgs s_l_layout) (defBody s_l_layout) (defScope s_l_layout) .none kV_l_layout dc_l_layout pm_l_layout an_l_layout cd_l_layout ct_l_layout,
    F_l_layout := fun_mk (st := s_l_layout) l_l_layout c_l_layout k_l_layout,
    b_l_layout := (fun_mk (st := s_l_layout) l_l_layout c_l_layout k_l_layout).binds (ps := ["_law_script"]) fun _ _ _ _ _ _ us hl => match us, hl with | [_], _ => rfl,
    g_l_layout := PySem.W.mg_of X G a_l_layout,
    f_l_some := f_l_some,
    fd_l_some := PySem.W.fnOf "_law_some" "_law_some" (defArgs s_l_some) (defBody s_l_some) (defScope s_l_some) .none kV_l_some dc_l_some pm_l_some an_l_some cd_l_some ct_l_some,
    F_l_some := fun_mk (st := s_l_some) l_l_some c_l_some k_l_some,
    b_l_some := (fun_mk (st := s_l_some) l_l_some c_l_some k_l_some).binds (ps := ["_law_layout_here", "_law_cell_here"]) fun _ _ _ _ _ _ us hl => match us, hl with | [_, _], _ => rfl,
    g_l_some := PySem.W.mg_of X G a_l_some,
    f_l_row := f_l_row,
    fd_l_row := PySem.W.fnOf "_law_row" "_law_row" (defArgs s_l_row) (defBody s_l_row) (defScope s_l_row) .none kV_l_row dc_l_row pm_l_row an_l_row cd_l_row ct_l_row,
    F_l_row := fun_mk (st := s_l_row) l_l_row c_l_row k_l_row,
    b_l_row := (fun_mk (st := s_l_row) l_l_row c_l_row k_l_row).binds (ps := ["_law_layout_here", "_law_some_here"]) fun _ _ _ _ _ _ us hl => match us, hl with | [_, _], _ => rfl,
    g_l_row := PySem.W.mg_of X G a_l_row,
    f_l_blocks := f_l_blocks,
    fd_l_blocks := PySem.W.fnOf "_law_blocks" "_law_blocks" (defArgs s_l_blocks) (defBody s_l_blocks) (defScope s_l_blocks) .none kV_l_blocks dc_l_blocks pm_l_blocks an_l_blocks cd_l_blocks ct_l_blocks,
    F_l_blocks := fun_mk (st := s_l_blocks) l_l_blocks c_l_blocks k_l_blocks,
    b_l_blocks := (fun_mk (st := s_l_blocks) l_l_blocks c_l_blocks k_l_blocks).binds (ps := ["_law_found", "_law_due"]) fun _ _ _ _ _ _ us hl => match us, hl with | [_, _], _ => rfl,
    g_l_blocks := PySem.W.mg_of X G a_l_blocks,
    f_law := f_law,
    fd_law := PySem.W.fnOf "law" "law" (defArgs s_law) (defBody s_law) (defScope s_law) .none kV_law dc_law pm_law an_law cd_law ct_law,
    F_law := fun_mk (st := s_law) l_law c_law k_law,
    b_law := (fun_mk (st := s_law) l_law c_law k_law).binds (ps := ["_law_script"]) fun _ _ _ _ _ _ us hl => match us, hl with | [_], _ => rfl,
    cc_law := cc_law,
    P_law := P_law,
    FC_law := funC_mk (st := s_law) l_law c_law ce_law ch_law,
    g_law := PySem.W.mg_of X G a_law,
    t_WIDE := t_WIDE,
    g_WIDE := PySem.W.mg_of X G a_WIDE,
    t_RECORDS_AT := t_RECORDS_AT,
    g_RECORDS_AT := PySem.W.mg_of X G a_RECORDS_AT,
    t_BITS := t_BITS,
    g_BITS := PySem.W.mg_of X G a_BITS,
    ex_NoLayout := ex_NoLayout,
    z_len := PySem.W.mg_none_of X G z_len,
    z_range := PySem.W.mg_none_of X G z_range,
    z_isinstance := PySem.W.mg_none_of X G z_isinstance,
    z_list := PySem.W.mg_none_of X G z_list,
    z_bool := PySem.W.mg_none_of X G z_bool,
    z_sorted := PySem.W.mg_none_of X G z_sorted }
  refine ⟨T.fd_law, fun s v => .of_eq rfl, fun p hp => ?_, fun base _ _ B => ok_law T B (by simpa using cm_law)⟩
  have hz := List.all_eq_true.mp ct_all p hp
  simp only [Bool.or_eq_true, beq_iff_eq] at hz
  rcases hz with rfl
  · exact ⟨Option.isNone_iff_eq_none.mp cn_law, _, ch_law⟩
theorem walk {l : PySem.W.OpenLaw} {q : Program} {loose : List Str} {XP : (Str → Option Value) → Heap → Prop} {YP : World → Heap → Prop} {d : DefRec} {K : Params → PySem.W.Frag} {ts : List Addr} (hn : l.most = some 63) (hdf : d.params.defaults = [])
    (hY : ∀ (w : World) (h : Heap), YP w h → (K w.params).In h) (hYT : ∀ (w : World) (h : Heap), YP w h → ∀ p ∈ ts, h.get? p = some (tabObj #[]))
    (F : ∀ (w : World) (mg : Str → Option Value) (fa : Addr) (h : Heap), (K w.params).In h → h.Ns mainGlobals mg → mg d.name = some (.ref fa) →
      ∃ fd : FuncData, (∀ (s : Shared) (u : Value), BindsTo s fd ⟨[u], []⟩ [("_law_script", u)]) ∧ (∀ p ∈ ts, (K w.params).lookup p = none ∧ ∃ c, codeHdIn (K w.params) c p = true) ∧ ∀ base : Heap, (K w.params).In base → base.Ns mainGlobals mg → BM mg base → FnOk l.prog w (K w.params) mg base CX0 5 fa fd ["_law_script"] (spLaw (K w.params) ts)) :
    PySem.W.WalkO q loose XP YP l.row.toRowW d [] (fun f vs => PySem.call f vs) :=
  L2.walk_ofT (n := 63) (k := 5) (x := "_law_script") (CX := fun _ => CX0) (sp := fun w => spLaw (K w.params) ts) hn (by decide) hdf ⟨rfl, by decide, by decide⟩ hY hYT F (fun _ _ a ns hl hO hS => ⟨a, ns, rfl, hS, hl, hO, fun _ => rfl⟩) fun _ _ _ _ _ z => z
end K03
theorem PySem.W.Fast.tw6328571777888130794 : True := trivial
theorem PySem.W.Fast.tw16246329688764209121 : True := trivial
theorem PySem.W.Fast.tw4416878534647706698 : True := trivial
theorem PySem.W.Fast.tw9796630844796832830 : True := trivial
theorem PySem.W.Fast.tw3244962375723588093 : True := trivial
theorem PySem.W.Fast.tw3957535406523046088 : True := trivial
theorem PySem.W.Fast.tw16601529722907874844 : True := trivial
theorem PySem.W.Fast.tw3272915203343541233 : True := trivial
theorem PySem.W.Fast.tw8909766683113869985 : True := trivial
theorem PySem.W.Fast.tw11908755876490511770 : True := trivial
theorem PySem.W.Fast.tw12103955272652041191 : True := trivial
theorem PySem.W.Fast.tw4204001939699181659 : True := trivial
theorem PySem.W.Fast.tw844349961928050923 : True := trivial
theorem PySem.W.Fast.tw3260493166614783409 : True := trivial
theorem PySem.W.Fast.tw17122633496609943152 : True := trivial
theorem PySem.W.Fast.tw1074606141596951249 : True := trivial
theorem PySem.W.Fast.tw5815734653463176393 : True := trivial
theorem PySem.W.Fast.tw17692843588631031451 : True := trivial
theorem PySem.W.Fast.tw14825307278654655122 : True := trivial
theorem PySem.W.Fast.tw12531765371222364172 : True := trivial
theorem PySem.W.Fast.tw14812197511465063167 : True := trivial
theorem PySem.W.Fast.tw14405516339597887837 : True := trivial
theorem PySem.W.Fast.tw10045870736380519411 : True := trivial
theorem PySem.W.Fast.tw2624451954933378355 : True := trivial
theorem PySem.W.Fast.tw16983535874398548409 : True := trivial
theorem PySem.W.Fast.tw13051023678085594294 : True := trivial
theorem PySem.W.Fast.tw427670867469265900 : True := trivial
theorem PySem.W.Fast.tw1936479272581751025 : True := trivial
theorem PySem.W.Fast.tw209122783104085361 : True := trivial
theorem PySem.W.Fast.tw1448694790894280511 : True := trivial
theorem PySem.W.Fast.tw17076408163683082033 : True := trivial
theorem PySem.W.Fast.tw5585405051570259182 : True := trivial
theorem PySem.W.Fast.tw9878233975801038049 : True := trivial
theorem PySem.W.Fast.tw14269784814349158496 : True := trivial
theorem PySem.W.Fast.tw4074417290677760783 : True := trivial
theorem PySem.W.Fast.tw17386125154308697152 : True := trivial
theorem PySem.W.Fast.tw12754430698651261511 : True := trivial
theorem PySem.W.Fast.tw4774559385593115834 : True := trivial
theorem PySem.W.Fast.tw12842882057293674890 : True := trivial
theorem PySem.W.Fast.tw13241097185311124769 : True := trivial
theorem PySem.W.Fast.tw619932056095722990 : True := trivial
theorem PySem.W.Fast.tw8777727874553112085 : True := trivial
theorem PySem.W.Fast.tw1899799399928962625 : True := trivial
theorem PySem.W.Fast.tw4586145288892760195 : True := trivial
theorem PySem.W.Fast.tw3274198022845566347 : True := trivial
theorem PySem.W.Fast.tw848694119917923353 : True := trivial
theorem PySem.W.Fast.tw3368674611786561872 : True := trivial
theorem PySem.W.Fast.tw11453196061550113057 : True := trivial
theorem PySem.W.Fast.tw11114430181654585468 : True := trivial
theorem PySem.W.Fast.tw6689577511145706419 : True := trivial
theorem PySem.W.Fast.tw2596812561285563286 : True := trivial
theorem PySem.W.Fast.tw7448787905051949785 : True := trivial
theorem PySem.W.Fast.tw8199746078113568959 : True := trivial
theorem PySem.W.Fast.tw3915748960101759110 : True := trivial
theorem PySem.W.Fast.tw3002993057353270762 : True := trivial
theorem PySem.W.Fast.tw17466742989321841397 : True := trivial
theorem PySem.W.Fast.tw16219701342672664828 : True := trivial
theorem PySem.W.Fast.tw9119799360184167226 : True := trivial
theorem PySem.W.Fast.tw2461358040062879976 : True := trivial
theorem PySem.W.Fast.tw7141990796010637197 : True := trivial
theorem PySem.W.Fast.tw7725253423385062286 : True := trivial
theorem PySem.W.Fast.tw10703144739070427728 : True := trivial
theorem PySem.W.Fast.tw9082362163565306271 : True := trivial
theorem PySem.W.Fast.tw15291642237935424743 : True := trivial
theorem PySem.W.Fast.tw14092278409454148057 : True := trivial
theorem PySem.W.Fast.tw4091402958536055414 : True := trivial
theorem PySem.W.Fast.tw6525579000710923567 : True := trivial
theorem PySem.W.Fast.tw5074237193169699938 : True := trivial
theorem PySem.W.Fast.tw5089460724580652078 : True := trivial
theorem PySem.W.Fast.tw16089743746241972785 : True := trivial
theorem PySem.W.Fast.tw6682480127702918732 : True := trivial
theorem PySem.W.Fast.tw3454013361397332135 : True := trivial
theorem PySem.W.Fast.tw5285118581865320887 : True := trivial
theorem PySem.W.Fast.tw7839574069312472651 : True := trivial
theorem PySem.W.Fast.tw6268601967366106546 : True := trivial
theorem PySem.W.Fast.tw10181005000049705587 : True := trivial
theorem PySem.W.Fast.tw12422566478331333493 : True := trivial
theorem PySem.W.Fast.tw8865061794376973892 : True := trivial
theorem PySem.W.Fast.tw15850325096099566428 : True := trivial
theorem PySem.W.Fast.tw18387270413979649399 : True := trivial
theorem PySem.W.Fast.tw6711514846328364546 : True := trivial
theorem PySem.W.Fast.tw12776233435426958763 : True := trivial
theorem PySem.W.Fast.tw458932619507911733 : True := trivial
theorem PySem.W.Fast.tw9713849891097996454 : True := trivial
theorem PySem.W.Fast.tw16509778930404661983 : True := trivial
theorem PySem.W.Fast.tw8938883129777930980 : True := trivial
theorem PySem.W.Fast.tw14285445662024595970 : True := trivial
theorem PySem.W.Fast.tw3570214776475136545 : True := trivial
theorem PySem.W.Fast.tw9182387371364352651 : True := trivial
theorem PySem.W.Fast.tw1299766837648781757 : True := trivial
theorem PySem.W.Fast.tw17316265592238639854 : True := trivial
theorem PySem.W.Fast.tw4503071934670545323 : True := trivial
theorem PySem.W.Fast.tw10348993983283032671 : True := trivial
theorem PySem.W.Fast.tw5444744336737814185 : True := trivial
theorem PySem.W.Fast.tw15446281845200591813 : True := trivial
theorem PySem.W.Fast.tw4302109624580095883 : True := trivial
theorem PySem.W.Fast.tw6961513674022312119 : True := trivial
theorem PySem.W.Fast.tw6481768700599035496 : True := trivial
theorem PySem.W.Fast.tw7347659209321082058 : True := trivial
theorem PySem.W.Fast.tw13558751967591068975 : True := trivial
theorem PySem.W.Fast.tw4672346063860140329 : True := trivial
theorem PySem.W.Fast.tw15183492072336954569 : True := trivial
theorem PySem.W.Fast.tw13931661930852813044 : True := trivial
theorem PySem.W.Fast.tw2262651384401882884 : True := trivial
theorem PySem.W.Fast.tw5937904766542317842 : True := trivial
theorem PySem.W.Fast.tw9222718662302139350 : True := trivial
theorem PySem.W.Fast.tw11619773866110240797 : True := trivial
theorem PySem.W.Fast.tw4908714738469411835 : True := trivial
theorem PySem.W.Fast.tw10794355569965112369 : True := trivial
theorem PySem.W.Fast.tw2018134616426001557 : True := trivial
theorem PySem.W.Fast.tw5488184882477910552 : True := trivial
theorem PySem.W.Fast.tw6518722165572473736 : True := trivial
theorem PySem.W.Fast.tw2238336282605699919 : True := trivial
theorem PySem.W.Fast.tw13959852552949194383 : True := trivial
theorem PySem.W.Fast.tw3854650185133202599 : True := trivial
theorem PySem.W.Fast.tw17907673297634710852 : True := trivial
theorem PySem.W.Fast.tw11293779538850133611 : True := trivial
theorem PySem.W.Fast.tw16113744774746904344 : True := trivial
theorem PySem.W.Fast.tw10517467144716492203 : True := trivial
theorem PySem.W.Fast.tw15992487129096069231 : True := trivial
theorem PySem.W.Fast.tw1054575491489947823 : True := trivial
theorem PySem.W.Fast.tw9059095008849928603 : True := trivial
theorem PySem.W.Fast.tw13727995984044130062 : True := trivial
theorem PySem.W.Fast.tw16706382568679124201 : True := trivial
theorem PySem.W.Fast.tw274785716276904538 : True := trivial
theorem PySem.W.Fast.tw15301260042971573750 : True := trivial
theorem PySem.W.Fast.tw5952934888830675053 : True := trivial
theorem PySem.W.Fast.tw5543520169894106709 : True := trivial
theorem PySem.W.Fast.tw12591301595989748825 : True := trivial
theorem PySem.W.Fast.tw12767019426437462810 : True := trivial
theorem PySem.W.Fast.tw17640001559814388690 : True := trivial
theorem PySem.W.Fast.tw12715696482923649783 : True := trivial
theorem PySem.W.Fast.tw6267422306673276150 : True := trivial
theorem PySem.W.Fast.tw14893948352657274232 : True := trivial
theorem PySem.W.Fast.tw6632985011879537260 : True := trivial
theorem PySem.W.Fast.tw13262561401659561986 : True := trivial
theorem PySem.W.Fast.tw613670255929680486 : True := trivial
theorem PySem.W.Fast.tw5343556004165509187 : True := trivial
theorem PySem.W.Fast.tw16327548080687713148 : True := trivial
theorem PySem.W.Fast.tw12316425154872287039 : True := trivial
theorem PySem.W.Fast.tw1569519323288587142 : True := trivial
theorem PySem.W.Fast.tw3832145787546701632 : True := trivial
theorem PySem.W.Fast.tw8943018590525609708 : True := trivial
theorem PySem.W.Fast.tw11003427315108875138 : True := trivial
theorem PySem.W.Fast.tw1539687248925152402 : True := trivial
theorem PySem.W.Fast.tw5131906224449291106 : True := trivial
theorem PySem.W.Fast.tw12156319863423555958 : True := trivial
theorem PySem.W.Fast.tw17595476468153605231 : True := trivial
theorem PySem.W.Fast.tw2405056533148410711 : True := trivial
theorem PySem.W.Fast.tw15711568722608746170 : True := trivial
theorem PySem.W.Fast.tw14829623146667515478 : True := trivial
theorem PySem.W.Fast.tw9374777600109452125 : True := trivial
theorem PySem.W.Fast.tw16396286019399765274 : True := trivial
theorem PySem.W.Fast.tw1794316447656847116 : True := trivial
theorem PySem.W.Fast.tw14455655289865431024 : True := trivial
theorem PySem.W.Fast.tw16519925309488777783 : True := trivial
theorem PySem.W.Fast.tw3535219051323226500 : True := trivial
theorem PySem.W.Fast.tw13788348556449924190 : True := trivial
theorem PySem.W.Fast.tw14611181124943683460 : True := trivial
theorem PySem.W.Fast.tw6174835871630952002 : True := trivial
theorem PySem.W.Fast.tw10345322839760761248 : True := trivial
theorem PySem.W.Fast.tw16688527097073782750 : True := trivial
theorem PySem.W.Fast.tw891333230561071745 : True := trivial
theorem PySem.W.Fast.tw11147529721928652097 : True := trivial
theorem PySem.W.Fast.tw10661513309228205202 : True := trivial
theorem PySem.W.Fast.tw2483097631074312754 : True := trivial
theorem PySem.W.Fast.tw12807480876594469548 : True := trivial
theorem PySem.W.Fast.tw10814231389388351373 : True := trivial
theorem PySem.W.Fast.tw7896908454416515669 : True := trivial
theorem PySem.W.Fast.tw16613733302835264151 : True := trivial
theorem PySem.W.Fast.tw2575831820623561649 : True := trivial
theorem PySem.W.Fast.tw123937777710898063 : True := trivial
open PySem PySem.W PyProof.Rows
set_option maxRecDepth 100000 in
set_option maxHeartbeats 0 in
theorem PySem.Challenge.cw_volumemend_k03_maps_holds : PySem.Challenge.rw_volumemend_k03_maps.Holds := by
  w_on; o_law; k_head; (case hw => w_witness2)
  k_fill
  refine K03.walk (l := PySem.Challenge.rw_volumemend_k03_maps) rfl rfl (fun w h Y => PySem.W.km_in_of Y) (fun w h Y => PySem.W.km_tabs_of Y) ?F
  case F =>
    intro w mg fa h KX G hmg
    refine' K03.all_mk KX G hmg ?aC_Layout ?pg_Layout ?hd_Layout ?po_Layout ?sa_Layout ?n_Layout_files ?n_Layout_slots ?n_Layout_data ?aC_NoLayout ?a_Layout_init ?i_Layout_init ?l_Layout_init ?c_Layout_init ?k_Layout_init ?mk_Layout ?kc_Layout ?a_Layout_record_at ?i_Layout_record_at ?l_Layout_record_at ?c_Layout_record_at ?k_Layout_record_at ?a_Layout_names_at ?i_Layout_names_at ?l_Layout_names_at ?c_Layout_names_at ?k_Layout_names_at ?a_Layout_data_at ?i_Layout_data_at ?l_Layout_data_at ?c_Layout_data_at ?k_Layout_data_at ?a_bit_of ?l_bit_of ?c_bit_of ?k_bit_of ?a_is_told ?l_is_told ?c_is_told ?k_is_told ?a_map_row ?l_map_row ?c_map_row ?k_map_row ?a_claimed_of ?l_claimed_of ?c_claimed_of ?k_claimed_of ?a_free_of ?l_free_of ?c_free_of ?k_free_of ?a_l_cell ?l_l_cell ?c_l_cell ?k_l_cell ?a_l_mixed ?l_l_mixed ?c_l_mixed ?k_l_mixed ?a_l_layout ?l_l_layout ?c_l_layout ?k_l_layout ?a_l_some ?l_l_some ?c_l_some ?k_l_some ?a_l_row ?l_l_row ?c_l_row ?k_l_row ?a_l_blocks ?l_l_blocks ?c_l_blocks ?k_l_blocks ?a_law ?l_law ?c_law ?k_law ?ce_law ?cl_law ?cP_law ?ch_law ?cn_law ?cm_law ?a_WIDE ?a_RECORDS_AT ?a_BITS ?ex_NoLayout ?z_len ?z_range ?z_isinstance ?z_list ?z_bool ?z_sorted ?ct_all
    (case aC_Layout => k_is)
    (case pg_Layout => k_is)
    (case hd_Layout => k_is)
    (case po_Layout => k_is)
    (case sa_Layout => k_is)
    (case n_Layout_files => k_is)
    (case n_Layout_slots => k_is)
    (case n_Layout_data => k_is)
    (case aC_NoLayout => k_is)
    (case a_Layout_init => k_is)
    (case i_Layout_init => k_is)
    (case l_Layout_init => k_is)
    (case c_Layout_init => k_is)
    (case k_Layout_init => k_is)
    (case mk_Layout => k_is)
    (case kc_Layout => k_is)
    (case a_Layout_record_at => k_is)
    (case i_Layout_record_at => k_is)
    (case l_Layout_record_at => k_is)
    (case c_Layout_record_at => k_is)
    (case k_Layout_record_at => k_is)
    (case a_Layout_names_at => k_is)
    (case i_Layout_names_at => k_is)
    (case l_Layout_names_at => k_is)
    (case c_Layout_names_at => k_is)
    (case k_Layout_names_at => k_is)
    (case a_Layout_data_at => k_is)
    (case i_Layout_data_at => k_is)
    (case l_Layout_data_at => k_is)
    (case c_Layout_data_at => k_is)
    (case k_Layout_data_at => k_is)
    (case a_bit_of => k_is)
    (case l_bit_of => k_is)
    (case c_bit_of => k_is)
    (case k_bit_of => k_is)
    (case a_is_told => k_is)
    (case l_is_told => k_is)
    (case c_is_told => k_is)
    (case k_is_told => k_is)
    (case a_map_row => k_is)
    (case l_map_row => k_is)
    (case c_map_row => k_is)
    (case k_map_row => k_is)
    (case a_claimed_of => k_is)
    (case l_claimed_of => k_is)
    (case c_claimed_of => k_is)
    (case k_claimed_of => k_is)
    (case a_free_of => k_is)
    (case l_free_of => k_is)
    (case c_free_of => k_is)
    (case k_free_of => k_is)
    (case a_l_cell => k_is)
    (case l_l_cell => k_is)
    (case c_l_cell => k_is)
    (case k_l_cell => k_is)
    (case a_l_mixed => k_is)
    (case l_l_mixed => k_is)
    (case c_l_mixed => k_is)
    (case k_l_mixed => k_is)
    (case a_l_layout => k_is)
    (case l_l_layout => k_is)
    (case c_l_layout => k_is)
    (case k_l_layout => k_is)
    (case a_l_some => k_is)
    (case l_l_some => k_is)
    (case c_l_some => k_is)
    (case k_l_some => k_is)
    (case a_l_row => k_is)
    (case l_l_row => k_is)
    (case c_l_row => k_is)
    (case k_l_row => k_is)
    (case a_l_blocks => k_is)
    (case l_l_blocks => k_is)
    (case c_l_blocks => k_is)
    (case k_l_blocks => k_is)
    (case a_law => k_is)
    (case l_law => k_is)
    (case c_law => k_is)
    (case k_law => k_is)
    (case ce_law => rfl)
    (case cl_law => k_is)
    (case cP_law => rfl)
    (case ch_law => kernel_rfl)
    (case cn_law => kernel_rfl)
    (case cm_law => kernel_rfl)
    (case a_WIDE => k_is)
    (case a_RECORDS_AT => k_is)
    (case a_BITS => k_is)
    (case ex_NoLayout => k_exc)
    (case z_len => k_is)
    (case z_range => k_is)
    (case z_isinstance => k_is)
    (case z_list => k_is)
    (case z_bool => k_is)
    (case z_sorted => k_is)
    (case ct_all => kernel_rfl)
