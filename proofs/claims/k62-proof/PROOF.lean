import PyProof.Rows.All
import Wide.All
import OpenK.AllK
import Wide.FinOn
import Lean
import PyProof.EqAt
import PyProof.EqKinds
import PyProof.TupleCall
import PyProof.EnumMake
import PyProof.EnumFor
import PyProof.StationsW
import PyProof.ExcClass
import PyProof.ExcInit
import PyProof.ExcClass2
import PyProof.DictItems
import KE.KPairComp
import PyProof.FactsDict
import PyProof.MeetsDictList
import PyProof.DictWalks
import KE.KDictList
import KE.KDictSum
import KE.KLam
import KE.KSortKey
import KE.KNestM
import KE.KSortTup
import PySem.Challenge.RW_volumemend_k62_files_read
set_option Elab.async false
set_option linter.all false
set_option maxRecDepth 100000
namespace L2
open PySem PySem.Spec PyProof.Rows
abbrev Key:=Sum Int Str
def keyIs:Key→Value→Bool
  | .inl k,v=>Value.isInt k v
  | .inr x,v=>Value.isStrOf x v
def keyH (w:World):Key→Int
  | .inl k=>hashInt k
  | .inr x=>hashStr w x
theorem keyIs_shape:∀ {k:Key}{v:Value},keyIs k v=true→(∃ i t,k=Sum.inl i∧v=Value.int i t)∨(∃ x t,k=Sum.inr x∧v=Value.str x t)
  | .inl i,v,h=>by
    obtain ⟨t,e⟩:=Value.isInt_shape (k:=i) (v:=v) h
    exact .inl ⟨i,t,rfl,e⟩
  | .inr x,v,h=>by
    obtain ⟨t,e⟩:=Value.isStrOf_shape (x:=x) (v:=v) h
    exact .inr ⟨x,t,rfl,e⟩
theorem keyIs_int (i:Int) (t:Tok):keyIs (.inl i) (.int i t)=true:=by simp [keyIs,Value.isInt]
theorem keyIs_str (x:Str) (t:Tok):keyIs (.inr x) (.str x t)=true:=by simp [keyIs,Value.isStrOf]
theorem key_ll (a b:Int):decide ((Sum.inl a:Key)=Sum.inl b)=(a == b):=by
  by_cases e:a=b
  · subst e;simp
  · have h:¬ (Sum.inl a:Key)=Sum.inl b:=fun q=>e (Sum.inl.inj q)
    rw [decide_eq_false h]
    exact (beq_eq_false_iff_ne.mpr e).symm
theorem key_rr (a b:Str):decide ((Sum.inr a:Key)=Sum.inr b)=decide (a=b):=by
  by_cases e:a=b
  · subst e;simp
  · have h:¬ (Sum.inr a:Key)=Sum.inr b:=fun q=>e (Sum.inr.inj q)
    rw [decide_eq_false h,decide_eq_false e]
theorem key_lr (a:Int) (b:Str):decide ((Sum.inl a:Key)=Sum.inr b)=false:=decide_eq_false (fun q=>nomatch q)
theorem key_rl (a:Str) (b:Int):decide ((Sum.inr a:Key)=Sum.inl b)=false:=decide_eq_false (fun q=>nomatch q)
def mixKind (prog:Program) (w:World):PySem.KeyKind prog w Key where
  is:=keyIs
  hash:=keyH w
  inj:=fun v a b ha hb=>by
    rcases keyIs_shape ha with ⟨i,t,rfl,rfl⟩ | ⟨x,t,rfl,rfl⟩
    · rcases keyIs_shape hb with ⟨j,u,rfl,e⟩ | ⟨y,u,rfl,e⟩
      · injection e with e1 _;rw [e1]
      · exact nomatch e
    · rcases keyIs_shape hb with ⟨j,u,rfl,e⟩ | ⟨y,u,rfl,e⟩
      · exact nomatch e
      · injection e with e1 _;rw [e1]
  byValue:=fun k v h=>by
    rcases keyIs_shape h with ⟨i,t,rfl,rfl⟩ | ⟨x,t,rfl,rfl⟩<;>rfl
  pyHash:=fun hv h=>by
    rcases keyIs_shape hv with ⟨i,t,rfl,rfl⟩ | ⟨x,t,rfl,rfl⟩
    · exact wpAny_pyHash_int h
    · exact wpAny_pyHash_str h
  eqBool:=fun hu hv h=>by
    rcases keyIs_shape hu with ⟨i,t,rfl,rfl⟩ | ⟨x,t,rfl,rfl⟩
    · rcases keyIs_shape hv with ⟨j,u,rfl,rfl⟩ | ⟨y,u,rfl,rfl⟩
      · rw [key_ll] at h;exact wpAny_eqBool_int h
      · rw [key_lr] at h;exact SeqAt.EqAt.int_str i t y u _ _ _ _ h
    · rcases keyIs_shape hv with ⟨j,u,rfl,rfl⟩ | ⟨y,u,rfl,rfl⟩
      · rw [key_rl] at h;exact SeqAt.EqAt.str_int x t j u _ _ _ _ h
      · rw [key_rr] at h;exact wpAny_eqBool_str h
  «strs»:=fun k x t v h=>by
    rcases keyIs_shape h with ⟨i,u,rfl,e⟩ | ⟨y,u,rfl,e⟩
    · exact nomatch e
    · injection e with e1 _
      subst e1
      cases v<;>rfl
theorem mixKind_int (prog:Program) (w:World) (i:Int) (t:Tok):(mixKind prog w).is (.inl i) (.int i t)=true:=keyIs_int i t
theorem mixKind_str (prog:Program) (w:World) (x:Str) (t:Tok):(mixKind prog w).is (.inr x) (.str x t)=true:=keyIs_str x t
end L2
namespace L2
open PySem PySem.Spec PyProof.Rows
inductive V where
  | non | bl (b:Bool) | int (i:Int) | str (x:Str) | byt (b:Array UInt8) | flt (b:UInt64) | ref (a:Addr) | ty (n:String)
  deriving DecidableEq
def RelV:V→Value→Prop
  | .non,u=>u=Value.none
  | .bl b,u=>u=Value.bool b
  | .int i,u=>∃ t,u=Value.int i t
  | .str x,u=>∃ t,u=Value.str x t
  | .byt b,u=>∃ t,u=Value.bytes b t
  | .flt b,u=>∃ t,u=Value.float b t
  | .ref a,u=>u=Value.ref a
  | .ty n,u=>u=Value.type n
abbrev Vals:List V→List Value→Prop:=Paired RelV
theorem Vals.length {xs:List V}{us:List Value}(r:Vals xs us):xs.length=us.length:=Paired.length r
theorem Vals.get:∀ {xs:List V}{us:List Value}{i:Nat}{x:V},Vals xs us→xs[i]?=some x→∃ u,us[i]?=some u∧RelV x u
  | _,_,_,_,.nil,e=>by simp at e
  | _,_,0,_,.cons r _,e=>by simp at e;subst e;exact ⟨_,rfl,r⟩
  | _,_,i + 1,x,.cons _ t,e=>by
    obtain ⟨u,h1,h2⟩:=Vals.get (i:=i) (x:=x) t (by simpa using e)
    exact ⟨u,by simpa using h1,h2⟩
theorem Vals.set {x:V}{u:Value}(r:RelV x u):∀ {xs:List V}{us:List Value}(i:Nat),Vals xs us→Vals (xs.set i x) (us.set i u)
  | _,_,_,.nil=>.nil
  | _,_,0,.cons _ t=>.cons r t
  | _,_,i + 1,.cons q t=>.cons q (Vals.set r i t)
theorem Vals.append:∀ {xs ys:List V}{us ws:List Value},Vals xs us→Vals ys ws→Vals (xs ++ ys) (us ++ ws)
  | _,_,_,_,.nil,s=>s
  | _,_,_,_,.cons r t,s=>.cons r (Vals.append t s)
theorem Vals.take:∀ {xs:List V}{us:List Value}(n:Nat),Vals xs us→Vals (xs.take n) (us.take n)
  | _,_,0,_=>.nil
  | _,_,_ + 1,.nil=>.nil
  | _,_,n + 1,.cons r t=>.cons r (Vals.take n t)
theorem Vals.drop:∀ {xs:List V}{us:List Value}(n:Nat),Vals xs us→Vals (xs.drop n) (us.drop n)
  | _,_,0,r=>r
  | _,_,_ + 1,.nil=>.nil
  | _,_,n + 1,.cons _ t=>Vals.drop n t
def RelO:Option V→Option Value→Prop
  | some v,some u=>RelV v u
  | none,none=>True
  | _,_=>False
def KV {κ:Type}:List (κ×V)→List (κ×Value)→Prop:=Paired fun (p:κ×V) (q:κ×Value)=>p.1=q.1∧RelV p.2 q.2
def kV:Key→V
  | .inl i=>.int i
  | .inr x=>.str x
inductive HO where
  | lst (xs:List V)
  | tup (xs:List V)
  | dK (kvs:List (Key×V)) | dT (kvs:List (List Key×V))
  | set (S:Int→Bool) (n:Nat)
  | ins (C dx:Addr) (fs:List (Str×V))
  | own (x:Addr)
  | xd (fs:List (Str×V))
  | met (f x:Addr)
  | rng (lo hi:Int)
  | frz (o:Obj) (u:HO)
  | tbl (ps:Array Value)
  | ext (φ:Heap→Prop)
abbrev Hp:=Addr→Option HO
def upd (H:Hp) (a:Addr) (o:HO):Hp:=fun b=>if b=a then some o else H b
theorem upd_same {H:Hp}{a:Addr}{o:HO}:upd H a o a=some o:=by unfold upd;rw [if_pos rfl]
theorem upd_ne {H:Hp}{a b:Addr}{o:HO}(h:b≠a):upd H a o b=H b:=by unfold upd;rw [if_neg h]
theorem ne_of {H:Hp}{a b:Addr}{o u:HO}(h:H a=some o) (h':H b=some u) (d:o≠u):a≠b:=by
  intro e;subst e;rw [h] at h';exact d (Option.some.inj h')
theorem ne_of_none {H:Hp}{a b:Addr}{o:HO}(h:H a=some o) (h':H b=none):a≠b:=by
  intro e;subst e;rw [h] at h';cases h'
section
variable (P:Program) (w:World)
def ObjOk (H:Hp) (h:Heap) (a:Addr):HO→Prop
  | .lst xs=>xs.length≤sizeLine∧∃ (its:List Value) (n:Nat),Vals xs its∧h.get? a=some { cls:=.type "list",data:=.seq its.toArray n }
  | .tup xs=>xs.length≤sizeLine∧∃ its:List Value,Vals xs its∧IsTup h a its.toArray
  | .dK kvs=>kvs.length≤sizeLine∧(a == sysModules)=false∧∃ vs,KV kvs vs∧h.DictOf (mixKind P w) a vs
  | .dT kvs=>kvs.length≤sizeLine∧(a == sysModules)=false∧∃ xs:List (List Key×Addr×Value),
      Paired (fun (p:List Key×V) (q:List Key×Addr×Value)=>p.1=q.1∧H q.2.1=some (.tup (p.1.map kV))∧RelV p.2 q.2.2) kvs xs ∧
      ∃ o es ep,h.get? a=some o∧o.ExactDict∧o.data=.dict es ep∧es.toList=xs.map (entryOfKey (tupleKind (mixKind P w)))∧(xs.map (·.1)).Nodup
  | .set S n=>h.SetOf (intKind P w) a S n
  | .ins C dx fs=>H dx=some (.own a)∧fs.length≤1000∧dx≠a∧h.get? a=some (PySem.W.instObj C dx) ∧
      ∃ mA,h.Ns1 dx mA∧(∀ f,RelO (fs.lookup f) (mA f))∧PySem.Within mA (fs.map (·.1))
  | .own _=>∃ o,h.get? a=some o
  | .xd fs=>∃ mA,h.Ns1 a mA∧∀ f,RelO (fs.lookup f) (mA f)
  | .rng lo hi=>∃ t u v,h.get? a=some { cls:=.type "range",data:=.fields #[.int lo t,.int hi u,.int 1 v] }
  | .frz o u=>h.get? a=some o∧ObjOk H h a u
  | .tbl ps=>h.get? a=some { cls:=.none,data:=.fields ps }
  | .met f x=>h.get? a=some (PySem.W.methodObj (.ref f) (.ref x))
  | .ext φ=>φ h∧(∃ o,h.get? a=some o)∧∀ h1 h2:Heap,φ h1→(∀ o,h1.get? a=some o→h2.get? a=some o)→φ h2
def HOk (H:Hp) (h:Heap):Prop:=∀ a o,H a=some o→ObjOk P w H h a o
end
section
variable {P:Program}{w:World}{H H':Hp}{h h':Heap}{a:Addr}{o:HO}
theorem ObjOk.lt (x:ObjOk P w H h a o):a < h.objs.size:=by
  cases o with
  | lst xs=>obtain ⟨_,_,_,_,e⟩:=x;exact Heap.lt_size e
  | tup xs=>obtain ⟨_,_,_,p⟩:=x;exact p.lt
  | dK kvs=>obtain ⟨_,_,_,_,o,_,_,e,_⟩:=x;exact Heap.lt_size e
  | dT kvs=>obtain ⟨_,_,_,_,o,_,_,e,_⟩:=x;exact Heap.lt_size e
  | set S n=>obtain ⟨o,_,_,_,e,_⟩:=x;exact Heap.lt_size e
  | ins C dx fs=>obtain ⟨_,_,_,e,_⟩:=x;exact Heap.lt_size e
  | own y=>obtain ⟨_,e⟩:=x;exact Heap.lt_size e
  | xd fs=>obtain ⟨_,⟨_,_,_,e,_⟩,_⟩:=x;exact Heap.lt_size e
  | rng lo hi=>obtain ⟨_,_,_,e⟩:=x;exact Heap.lt_size e
  | frz ob u=>obtain ⟨e,_⟩:=x;exact Heap.lt_size e
  | tbl ps=>exact Heap.lt_size (show h.get? a=some _ from x)
  | met f y=>exact Heap.lt_size (show h.get? a=some _ from x)
  | ext φ=>obtain ⟨_,⟨_,e⟩,_⟩:=x;exact Heap.lt_size e
theorem Paired.mapP {α β:Type}{F G:α→β→Prop}:∀ {l₁:List α}{l₂:List β},Paired F l₁ l₂→(∀ a b,F a b→G a b)→Paired G l₁ l₂
  | _,_,.nil,_=>.nil
  | _,_,.cons r t,f=>.cons (f _ _ r) (Paired.mapP t f)
theorem ObjOk.stay (x:ObjOk P w H h a o) (k:∀ b u,(b=a∨H b=some (.own a))→h.get? b=some u→h'.get? b=some u)
    (ho:∀ b,H b=some (.own a)→H' b=some (.own a)) (ht:∀ b xs,H b=some (.tup xs)→H' b=some (.tup xs)):ObjOk P w H' h' a o:=by
  induction o with
  | lst xs=>obtain ⟨z,its,n,r,e⟩:=x;exact ⟨z,its,n,r,k _ _ (.inl rfl) e⟩
  | tup xs=>obtain ⟨z,its,r,ob,e,c⟩:=x;exact ⟨z,its,r,ob,k _ _ (.inl rfl) e,c⟩
  | dK kvs=>obtain ⟨z,y,vs,r,ob,es,ep,e,c⟩:=x;exact ⟨z,y,vs,r,ob,es,ep,k _ _ (.inl rfl) e,c⟩
  | dT kvs =>
    obtain ⟨z,y,xs,r,ob,es,ep,e,c⟩:=x
    exact ⟨z,y,xs,Paired.mapP r fun p q z=>⟨z.1,ht _ _ z.2.1,z.2.2⟩,ob,es,ep,k _ _ (.inl rfl) e,c⟩
  | set S n=>obtain ⟨ob,es,ep,t,e,c⟩:=x;exact ⟨ob,es,ep,t,k _ _ (.inl rfl) e,c⟩
  | ins C dx fs =>
    obtain ⟨d,z,ne,e,mA,⟨od,es,ep,e2,c⟩,r⟩:=x
    exact ⟨ho _ d,z,ne,k _ _ (.inl rfl) e,mA,⟨od,es,ep,k _ _ (.inr d) e2,c⟩,r⟩
  | own y=>obtain ⟨ob,e⟩:=x;exact ⟨ob,k _ _ (.inl rfl) e⟩
  | xd fs=>obtain ⟨mA,⟨od,es,ep,e,c⟩,r⟩:=x;exact ⟨mA,⟨od,es,ep,k _ _ (.inl rfl) e,c⟩,r⟩
  | rng lo hi=>obtain ⟨t,u,v,e⟩:=x;exact ⟨t,u,v,k _ _ (.inl rfl) e⟩
  | frz ob u ih=>obtain ⟨e,q⟩:=x;exact ⟨k _ _ (.inl rfl) e,ih q⟩
  | tbl ps =>
    have e:h.get? a=some { cls:=.none,data:=.fields ps }:=x
    show h'.get? a=some { cls:=.none,data:=.fields ps }
    exact k a _ (.inl rfl) e
  | met f y =>
    have e:h.get? a=some (PySem.W.methodObj (.ref f) (.ref y)):=x
    show h'.get? a=some (PySem.W.methodObj (.ref f) (.ref y))
    exact k a _ (.inl rfl) e
  | ext φ=>obtain ⟨p,⟨o,e⟩,st⟩:=x;exact ⟨st _ _ p fun o q=>k _ _ (.inl rfl) q,⟨o,k _ _ (.inl rfl) e⟩,st⟩
theorem HOk.lt (x:HOk P w H h) (e:H a=some o):a < h.objs.size:=(x a o e).lt
theorem HOk.fresh (x:HOk P w H h) (e:h.objs.size≤a):H a=none:=by
  cases q:H a with
  | none=>rfl
  | some u=>exact absurd (Nat.lt_of_lt_of_le (x.lt q) e) (Nat.lt_irrefl _)
theorem HOk.kept (x:HOk P w H h) (k:∀ b u,h.get? b=some u→h'.get? b=some u):HOk P w H h':=fun a o e =>
  (x a o e).stay (fun b u _ q=>k b u q) (fun _ q=>q) fun _ _ q=>q
theorem HOk.laid (x:HOk P w H h) (k:∀ b u,h.get? b=some u→h'.get? b=some u) (hp:h.objs.size≤a) (new:ObjOk P w (upd H a o) h' a o):HOk P w (upd H a o) h':=fun b u e=>by
  have hn:=x.fresh hp
  by_cases hb:b=a
  · subst hb;rw [upd_same] at e;cases e;exact new
  · rw [upd_ne hb] at e
    exact (x b u e).stay (fun c v _ q=>k c v q) (fun c q=>by rw [upd_ne (ne_of_none q hn)];exact q) fun c xs q=>by rw [upd_ne (ne_of_none q hn)];exact q
end
def Rd (H:Hp) (a:Addr) (u:HO):Prop:=H a=some u∨∃ o,H a=some (.frz o u)
theorem Rd.ok {P:Program}{w:World}{H:Hp}{h:Heap}{a:Addr}{u:HO}(r:Rd H a u) (x:HOk P w H h):ObjOk P w H h a u:=by
  rcases r with r | ⟨o,r⟩
  · exact x a u r
  · obtain ⟨_,q⟩:=x a _ r
    exact q
def Mut:Option HO→Prop
  | some (.lst _)=>True
  | some (.dK _)=>True
  | some (.dT _)=>True
  | some (.set _ _)=>True
  | some (.ins _ _ _)=>True
  | some (.ext _)=>True
  | _=>False
section
variable {P:Program}{w:World}{H:Hp}{h h':Heap}{x e:Addr}{o':HO}
theorem HOk.write (ok:HOk P w H h) (mu:Mut (H x)) (he:e=x∨H e=some (.own x)) (k:∀ b u,b≠e→h.get? b=some u→h'.get? b=some u) (heo:∃ u,h'.get? e=some u)
    (new:ObjOk P w (upd H x o') h' x o'):HOk P w (upd H x o') h':=fun b u q=>by
  have nown:∀ c y,H c=some (.own y)→c≠x:=fun c y r z=>by subst z;rw [r] at mu;exact mu
  have ntup:∀ c xs,H c=some (.tup xs)→c≠x:=fun c xs r z=>by subst z;rw [r] at mu;exact mu
  by_cases hb:b=x
  · subst hb;rw [upd_same] at q;cases q;exact new
  · rw [upd_ne hb] at q
    by_cases hbe:b=e
    · have q':H b=some (.own x):=by
        rcases he with z | z
        · exact absurd (hbe.trans z) hb
        · rw [hbe];exact z
      rw [q] at q';cases q'
      obtain ⟨v,hv⟩:=heo
      exact ⟨v,by rw [hbe];exact hv⟩
    · refine (ok b u q).stay (fun c v hc r=>k c v ?_ r) (fun c r=>by rw [upd_ne (nown c b r)];exact r) fun c xs r=>by rw [upd_ne (ntup c xs r)];exact r
      rcases hc with rfl | hc
      · exact hbe
      · rintro rfl
        rcases he with z | z
        · exact nown c b hc z
        · rw [hc] at z;cases z;exact hb rfl
end
structure Un (fs ex:List Addr) (H H':Hp) (h h':Heap):Prop where
  keep:∀ b o,h.get? b=some o→H b=none→b∉fs→b∉ex→h'.get? b=some o
  slot:∀ b o,h.get? b=some o→H b=none→b∈fs→b∉ex→∃ sl,h'.get? b=some { o with slots:=sl }
  free:∀ b o,h.get? b=some o→H b=none→b∉ex→H' b=none
  there:∀ b o,h.get? b=some o→b∉ex→∃ o',h'.get? b=some o'
  tups:∀ b xs,H b=some (.tup xs)→H' b=some (.tup xs)
  frzs:∀ b o u,H b=some (.frz o u)→H' b=some (.frz o u)
  tbls:∀ b ps,H b=some (.tbl ps)→∃ more,H' b=some (.tbl (ps ++ more))
section
variable {fs fs' ex ex':List Addr}{H H1 H2:Hp}{h h1 h2 h':Heap}{a x e:Addr}{o:HO}
theorem Un.any (u:Un fs ex H H1 h h1) {b:Addr} {ob:Obj} (q:h.get? b=some ob) (n:H b=none) (hx:b∉ex):∃ sl,h1.get? b=some { ob with slots:=sl }:=by
  by_cases hb:b∈fs
  · exact u.slot b ob q n hb hx
  · exact ⟨ob.slots,u.keep b ob q n hb hx⟩
theorem Un.kept (k:∀ b u,h.get? b=some u→h'.get? b=some u):Un fs ex H H h h' :=
  ⟨fun b ob q _ _ _=>k b ob q,fun b ob q _ _ _=>⟨ob.slots,k b ob q⟩,fun _ _ _ n _=>n,fun b ob q _=>⟨ob,k b ob q⟩,fun _ _ q=>q,fun _ _ _ q=>q,fun _ ps q=>⟨#[],by rw [q];simp⟩⟩
theorem Un.refl:Un fs ex H H h h:=Un.kept fun _ _ q=>q
theorem Un.laid (k:∀ b u,h.get? b=some u→h'.get? b=some u) (hp:h.objs.size≤a) (hn:H a=none):Un fs ex H (upd H a o) h h' where
  keep:=fun b u q _ _ _=>k b u q
  slot:=fun b u q _ _ _=>⟨u.slots,k b u q⟩
  free:=fun b u q n _=>by rw [upd_ne (Nat.ne_of_lt (Nat.lt_of_lt_of_le (Heap.lt_size q) hp))];exact n
  there:=fun b u q _=>⟨u,k b u q⟩
  tups:=fun b xs q=>by rw [upd_ne (ne_of_none q hn)];exact q
  frzs:=fun b u xs q=>by rw [upd_ne (ne_of_none q hn)];exact q
  tbls:=fun b ps q=>⟨#[],by rw [upd_ne (ne_of_none q hn),q];simp⟩
theorem Un.write (mu:Mut (H x)) (he:e=x∨H e=some (.own x)) (k:∀ b u,b≠e→h.get? b=some u→h'.get? b=some u) (heo:∃ u,h'.get? e=some u):Un fs ex H (upd H x o) h h':=by
  have hx:∀ b,H b=none→b≠x:=fun b n z=>by subst z;rw [n] at mu;exact mu
  have hb:∀ b,H b=none→b≠e:=fun b n z=>by
    subst z
    rcases he with r | r
    · exact hx b n r
    · rw [n] at r;cases r
  have hm:∀ b u,H b=some u→¬ Mut (some u)→b≠x:=fun b u q nm z=>by subst z;rw [q] at mu;exact nm mu
  refine ⟨fun b u q n _ _=>k b u (hb b n) q,fun b u q n _ _=>⟨u.slots,k b u (hb b n) q⟩,fun b u q n _=>by rw [upd_ne (hx b n)];exact n,fun b u q _=>?_,
    fun b xs q=>by rw [upd_ne (hm b _ q fun z=>z)];exact q,fun b u xs q=>by rw [upd_ne (hm b _ q fun z=>z)];exact q,fun b ps q=>⟨#[],by rw [upd_ne (hm b _ q fun z=>z),q];simp⟩⟩
  by_cases hbe:b=e
  · subst hbe;exact heo
  · exact ⟨u,k b u hbe q⟩
end
def trk (h:Heap) (H:Hp):List Addr:=(List.range h.objs.size).filter fun a=>(H a).isSome
def hidT (h:Heap) (H:Hp):Heap:=PySem.W.hideAll h (trk h H)
theorem hidT_size (h:Heap) (H:Hp):(hidT h H).objs.size=h.objs.size:=PySem.W.hideAll_size _ _
theorem hidT_get {h:Heap}{H:Hp}{b:Addr}{o:Obj}(e:h.get? b=some o) (n:H b=none):(hidT h H).get? b=some o :=
  PySem.W.hideAll_get _ e fun hm=>by
    have q:(H b).isSome=true:=(List.mem_filter.mp hm).2
    rw [n] at q;simp at q
theorem of_hidT {h:Heap}{H:Hp}{b:Addr}{o:Obj}(e:(hidT h H).get? b=some o):h.get? b=some o∧H b=none:=by
  have e':h.get? b=some o:=PySem.W.of_hideAll (trk h H) e
  refine ⟨e',?_⟩
  cases q:H b with
  | none=>rfl
  | some x =>
    have hm:b∈trk h H:=List.mem_filter.mpr ⟨List.mem_range.mpr (Heap.lt_size e'),by simp [q]⟩
    have z:(hidT h H).get? b=none:=PySem.W.hideAll_none (trk h H) hm
    rw [z] at e;cases e
end L2
namespace L2
open PySem PySem.Spec PyProof.Rows
structure Mod (K:PySem.W.Frag) (mg:Str→Option Value) (base:Heap):Prop where
  kin:K.In base
  glob:base.Ns mainGlobals mg
  blt:∃ mb,base.Ns builtinsNs mb∧∀ x:Str,x≠"__name__"→mb x=bootBuiltins x
  nolimit:base.NoLimit
structure Cx where
  prog:Program
  w:World
  K:PySem.W.Frag
  mg:Str→Option Value
  base:Heap
  A:Around
  N:List Str
  s₀:Shared
  H₀:Hp
  env:Env
  outer:List Env
  stack:List Env
  ex:List Addr
  fn:Str→Bool
  calm:Bool
  pn:List (Addr×Obj)
  xe:Value→Shared→Prop
def frs (l:List Env):List Addr:=l.filterMap (·.frame)
abbrev Cx.fs (X:Cx):List Addr:=frs X.outer
def Vis (sc:Scope) (x:Str):Prop:=sc.names.lookup x=some .local∨sc.names.lookup x=some .cell∨sc.names.lookup x=some .free
def Loc (sc:Scope) (x:Str):Prop:=sc.names.lookup x=some .local∨sc.names.lookup x=some .cell
def Look (env:Env) (h:Heap) (m:Str→Option Value) (x:Str) (u:Value):Prop :=
  (env.kindOf x=some .local∧m x=some u)∨((env.kindOf x=some .cell∨env.kindOf x=some .free)∧∃ c,env.cells.lookup x=some c∧h.IsCell c (some u))
structure Cx.Ok (X:Cx):Prop where
  mod:Mod X.K X.mg X.base
  kind:X.env.scope.kind=.function
  glob:X.env.globals=mainGlobals
  blt:X.env.builtins=builtinsNs
  above:X.s₀.heap.objs.size≤X.env.locals
  inj:∀ x y c,X.env.cells.lookup x=some c→X.env.cells.lookup y=some c→x=y
  has:∀ x,(X.env.kindOf x=some .cell∨X.env.kindOf x=some .free)→∃ c,X.env.cells.lookup x=some c
  cab:∀ x c,X.fn x=true→X.env.cells.lookup x=some c→X.s₀.heap.objs.size≤c
  hd:X.calm=true→X.A.handled=none
  frames:X.A.frames=some X.stack
  stk:X.stack=X.outer∨(X.stack=X.env :: X.outer∧X.env.frame=some X.env.locals)
  exf:∀ b∈X.ex,b≠X.env.locals∧∀ x c,X.env.cells.lookup x=some c→c≠b
  bs:∀ b o,X.base.get? b=some o→X.s₀.heap.get? b=some o∧X.H₀ b=none
  bsz:X.base.objs.size≤X.s₀.heap.objs.size
  noex:∀ b o,X.base.get? b=some o→b∉X.ex
  exfs:∀ b∈X.ex,b∉X.fs
  funs:X.s₀.heap.FunFrames X.base X.outer
  frf:∀ b∈X.fs,X.H₀ b=none
structure Inv (X:Cx) (pins:List (Addr×Obj)) (σ:List (Option V)) (H:Hp) (s:Shared):Prop where
  ok:X.Ok
  os:s.os=X.s₀.os
  bare:AllBare s.gens
  base:Un X.fs X.ex X.H₀ H X.s₀.heap s.heap
  loc:∃ m,s.heap.Ns X.env.locals m∧∀ (i:Nat) (x:Str) (v:V),X.N[i]?=some x→σ[i]?=some (some v)→Vis X.env.scope x→∃ u,RelV v u∧Look X.env s.heap m x u
  cell:∀ x c,X.env.cells.lookup x=some c→∃ v,s.heap.IsCell c v
  free:H X.env.locals=none
  freeC:∀ x c,X.env.cells.lookup x=some c→H c=none
  pin:∀ p∈X.pn ++ pins,s.heap.get? p.1=some p.2∧H p.1=none∧p.1≠X.env.locals∧p.1∉X.fs∧∀ v,p.2.data≠.cell v
  hok:HOk X.prog X.w H s.heap
  len:σ.length=X.N.length
section
variable {X:Cx}{pins:List (Addr×Obj)}{σ:List (Option V)}{H H':Hp}{s:Shared}{h':Heap}
theorem Cx.Ok.nofr (ok:X.Ok) {b:Addr}{o:Obj}(e:X.base.get? b=some o):b∉X.fs:=fun hb=>by
  have:=(ok.funs.mem hb).1
  rw [e] at this;cases this
theorem Inv.bs (I:Inv X pins σ H s):∀ b o,X.base.get? b=some o→s.heap.get? b=some o∧H b=none:=fun b o e =>
  ⟨I.base.keep b o (I.ok.bs b o e).1 (I.ok.bs b o e).2 (I.ok.nofr e) (I.ok.noex b o e),I.base.free b o (I.ok.bs b o e).1 (I.ok.bs b o e).2 (I.ok.noex b o e)⟩
theorem Inv.bk (I:Inv X pins σ H s):∀ b o,X.base.get? b=some o→s.heap.get? b=some o:=fun b o e=>(I.bs b o e).1
theorem Inv.mod (I:Inv X pins σ H s):Mod X.K X.mg X.base:=I.ok.mod
theorem Inv.kIn (I:Inv X pins σ H s):X.K.In s.heap:=I.ok.mod.kin.keeps I.bk
theorem Inv.lt (I:Inv X pins σ H s):X.env.locals < s.heap.objs.size:=let ⟨_,hn,_⟩:=I.loc;hn.lt
theorem Inv.sz (I:Inv X pins σ H s):X.s₀.heap.objs.size≤s.heap.objs.size:=Nat.le_trans I.ok.above (Nat.le_of_lt I.lt)
theorem Inv.nofs (I:Inv X pins σ H s) {a:Addr}(h:s.heap.objs.size≤a):a∉X.fs:=fun hb=>by
  obtain ⟨_,o,ho,_⟩:=I.ok.funs.mem hb
  exact absurd (Nat.lt_of_lt_of_le (Heap.lt_size ho) (Nat.le_trans I.sz h)) (Nat.lt_irrefl _)
theorem Inv.cne (I:Inv X pins σ H s):∀ x c,X.env.cells.lookup x=some c→c≠X.env.locals:=fun x c e z=>by
  obtain ⟨v,o,ho,hd⟩:=I.cell x c e
  obtain ⟨m,⟨o',es,ep,ho',hd',_⟩,_⟩:=I.loc
  rw [z,ho'] at ho;cases ho;rw [hd'] at hd;cases hd
theorem Inv.funs (I:Inv X pins σ H s):s.heap.FunFrames X.base X.outer:=by
  have all:∀ (l:List Env),(∀ b∈frs l,b∈X.fs)→X.s₀.heap.FunFrames X.base l→s.heap.FunFrames X.base l:=by
    intro l
    induction l with
    | nil=>intro _ _;trivial
    | cons env r ih =>
      intro hs hl
      obtain ⟨hk,⟨L,o,hf,hn,ho,hd⟩,hr⟩:=hl
      have hL:L∈X.fs:=hs L (by unfold frs;rw [List.filterMap_cons,hf];exact List.mem_cons_self)
      obtain ⟨sl,e⟩:=I.base.slot L o ho (I.ok.frf L hL) hL fun z=>I.ok.exfs L z hL
      exact ⟨hk,⟨L,_,hf,hn,e,hd⟩,ih (fun b hb=>hs b (by unfold frs;rw [List.filterMap_cons,hf];exact List.mem_cons_of_mem _ hb)) hr⟩
  exact all X.outer (fun _ hb=>hb) I.ok.funs
theorem Inv.stack (I:Inv X pins σ H s):s.heap.FunFrames X.base X.stack:=by
  rcases I.ok.stk with e | ⟨e,hf⟩
  · rw [e];exact I.funs
  · rw [e]
    obtain ⟨m,hn,_⟩:=I.loc
    refine .cons (by rw [I.ok.kind];decide) hf hn ?_ I.funs
    exact Heap.get?_none_of_le (Nat.le_trans I.ok.bsz I.ok.above)
theorem Inv.stkSub (I:Inv X pins σ H s):∀ b∈frs X.stack,b∈X.env.locals :: X.fs:=fun b hb=>by
  rcases I.ok.stk with e | ⟨e,hf⟩
  · rw [e] at hb;exact List.mem_cons_of_mem _ hb
  · rw [e] at hb
    unfold frs at hb
    rw [List.filterMap_cons,hf] at hb
    exact hb
theorem Inv.stkFree (I:Inv X pins σ H s):∀ b∈frs X.stack,H b=none:=fun b hb=>by
  rcases List.mem_cons.mp (I.stkSub b hb) with e | hb
  · rw [e];exact I.free
  · obtain ⟨_,o,ho,_⟩:=I.ok.funs.mem hb
    exact I.base.free b o ho (I.ok.frf b hb) fun z=>I.ok.exfs b z hb
theorem Inv.step {g':Array GenState}{t':Nat}{d':Drawn}{ch:List Addr}(I:Inv X pins σ H s)
    (hch:∀ b∈ch,(b∈X.ex∨X.s₀.heap.objs.size≤b)∧b≠X.env.locals∧(∀ x c,X.env.cells.lookup x=some c→c≠b)∧∀ p∈X.pn ++ pins,p.1≠b)
    (keep:∀ b o,b≠X.env.locals→b∉X.fs→b∉ch→s.heap.get? b=some o→H b=none→h'.get? b=some o)
    (slot:∀ b o,b≠X.env.locals→b∈X.fs→b∉ch→s.heap.get? b=some o→H b=none→∃ sl,h'.get? b=some { o with slots:=sl }) (free:∀ b o,b∉ch→s.heap.get? b=some o→H b=none→H' b=none)
    (there:∀ b o,b∉ch→s.heap.get? b=some o→∃ o',h'.get? b=some o')
    (tups:∀ b xs,H b=some (.tup xs)→H' b=some (.tup xs)) (frzs:∀ b o u,H b=some (.frz o u)→H' b=some (.frz o u)) (tbls:∀ b ps,H b=some (.tbl ps)→∃ more,H' b=some (.tbl (ps ++ more)))
    (ns:∀ m,s.heap.Ns X.env.locals m→h'.Ns X.env.locals m) (hok:HOk X.prog X.w H' h') (hg:AllBare g') :
    Inv X pins σ H' { s with heap:=h',gens:=g',drawn:=d',toks:=t' }:=by
  have neL:∀ b o,X.s₀.heap.get? b=some o→b≠X.env.locals:=fun b o e=>Nat.ne_of_lt (Nat.lt_of_lt_of_le (Heap.lt_size e) I.ok.above)
  have neC:∀ b o,X.s₀.heap.get? b=some o→b∉X.ex→b∉ch:=fun b o e hx hb=>by
    rcases (hch b hb).1 with z | z
    · exact hx z
    · exact absurd (Nat.lt_of_lt_of_le (Heap.lt_size e) z) (Nat.lt_irrefl _)
  have cellK:∀ x c,X.env.cells.lookup x=some c→∀ v,s.heap.IsCell c v→h'.IsCell c v:=fun x c e v ⟨o,ho,hd⟩=>by
    have nch:c∉ch:=fun z=>(hch c z).2.2.1 x c e rfl
    by_cases hc:c∈X.fs
    · obtain ⟨sl,q⟩:=slot c o (I.cne x c e) hc nch ho (I.freeC x c e)
      exact ⟨_,q,hd⟩
    · exact ⟨o,keep c o (I.cne x c e) hc nch ho (I.freeC x c e),hd⟩
  refine ⟨I.ok,I.os,hg,⟨fun b o e n hb hx=>?_,fun b o e n hb hx=>?_,fun b o e n hx=>?_,fun b o e hx=>?_,fun b xs e=>tups b xs (I.base.tups b xs e),fun b o xs e=>frzs b o xs (I.base.frzs b o xs e),fun b ps e=>?_⟩,?_,fun x c e=>?_,?_,fun x c e=>?_,fun p hp=>?_,hok,I.len⟩
  · exact keep b o (neL b o e) hb (neC b o e hx) (I.base.keep b o e n hb hx) (I.base.free b o e n hx)
  · obtain ⟨sl,e1⟩:=I.base.slot b o e n hb hx
    obtain ⟨sl',e2⟩:=slot b _ (neL b o e) hb (neC b o e hx) e1 (I.base.free b o e n hx)
    exact ⟨sl',e2⟩
  · obtain ⟨o',e1⟩:=I.base.there b o e hx
    exact free b o' (neC b o e hx) e1 (I.base.free b o e n hx)
  · obtain ⟨o',e1⟩:=I.base.there b o e hx
    exact there b o' (neC b o e hx) e1
  · obtain ⟨m1,e1⟩:=I.base.tbls b ps e
    obtain ⟨m2,e2⟩:=tbls b _ e1
    exact ⟨m1 ++ m2,by rw [e2,Array.append_assoc]⟩
  · obtain ⟨m,hn,hl⟩:=I.loc
    refine ⟨m,ns m hn,fun i x v e1 e2 e3=>?_⟩
    obtain ⟨u,r,l⟩:=hl i x v e1 e2 e3
    refine ⟨u,r,?_⟩
    rcases l with l | ⟨k,c,e,z⟩
    · exact .inl l
    · exact .inr ⟨k,c,e,cellK x c e _ z⟩
  · obtain ⟨v,z⟩:=I.cell x c e
    exact ⟨v,cellK x c e v z⟩
  · obtain ⟨m,⟨o,_,_,ho,_⟩,_⟩:=I.loc
    exact free _ o (fun z=>(hch _ z).2.1 rfl) ho I.free
  · obtain ⟨v,o,ho,hd⟩:=I.cell x c e
    exact free c o (fun z=>(hch c z).2.2.1 x c e rfl) ho (I.freeC x c e)
  · obtain ⟨e,n,ne,nf,d⟩:=I.pin p hp
    have nch:p.1∉ch:=fun z=>(hch p.1 z).2.2.2 p hp rfl
    exact ⟨keep p.1 p.2 ne nf nch e n,free p.1 p.2 nch e n,ne,nf,d⟩
theorem Inv.un {t':Nat} (I:Inv X pins σ H s) (u:Un X.fs [] H H' s.heap h') (hok:HOk X.prog X.w H' h'):Inv X pins σ H' { s with heap:=h',toks:=t' }:=by
  obtain ⟨m,⟨o,es,ep,ho,r⟩,_⟩:=id I.loc
  obtain ⟨sl,hL⟩:=u.any ho I.free (by simp)
  exact I.step (g':=s.gens) (d':=s.drawn) (ch:=[]) (fun _ z=>nomatch z) (fun b o _ hb _ e n=>u.keep b o e n hb (by simp)) (fun b o _ hb _ e n=>u.slot b o e n hb (by simp)) (fun b o _ e n=>u.free b o e n (by simp)) (fun b o _ e=>u.there b o e (by simp)) u.tups u.frzs u.tbls (fun m' hm=>by
    obtain ⟨o',es',ep',ho',r'⟩:=hm
    rw [ho] at ho';cases ho'
    exact ⟨_,es',ep',hL,r'⟩) hok I.bare
theorem Inv.call {g':Array GenState}{t':Nat}{d':Drawn}{ch:List Addr}(I:Inv X pins σ H s) (u:Un (frs X.stack) ch H H' s.heap h') (hok:HOk X.prog X.w H' h') (hg:AllBare g')
    (hch:∀ b∈ch,(b∈X.ex∨X.s₀.heap.objs.size≤b)∧b≠X.env.locals∧(∀ x c,X.env.cells.lookup x=some c→c≠b)∧∀ p∈X.pn ++ pins,p.1≠b) :
    Inv X pins σ H' { s with heap:=h',gens:=g',drawn:=d',toks:=t' }:=by
  obtain ⟨m,⟨o,es,ep,ho,r⟩,_⟩:=id I.loc
  obtain ⟨sl,hL⟩:=u.any ho I.free fun z=>(hch _ z).2.1 rfl
  exact I.step (ch:=ch) hch (fun b o hL hb hc e n=>u.keep b o e n (fun z=>(List.mem_cons.mp (I.stkSub b z)).elim hL hb) hc) (fun b o _ _ hc e n=>u.any e n hc) (fun b o hc e n=>u.free b o e n hc) (fun b o hc e=>u.there b o e hc) u.tups u.frzs u.tbls (fun m' hm=>by
    obtain ⟨o',es',ep',ho',r'⟩:=hm
    rw [ho] at ho';cases ho'
    exact ⟨_,es',ep',hL,r'⟩) hok hg
theorem Inv.turned {t':Nat}{it:Addr}(I:Inv X pins σ H s) (k:∀ b o,b≠it→s.heap.get? b=some o→h'.get? b=some o) (hn:H it=none) (hL:it≠X.env.locals)
    (h1:it∈X.ex∨X.s₀.heap.objs.size≤it) (h2:∀ x c,X.env.cells.lookup x=some c→c≠it) (h3:∀ p∈X.pn ++ pins,p.1≠it):Inv X pins σ H { s with heap:=h',toks:=t' }:=by
  have nit:∀ b u,H b=some u→b≠it:=fun b u e z=>by rw [z,hn] at e;cases e
  refine I.step (g':=s.gens) (d':=s.drawn) (ch:=[it]) (fun b hb=>?_) (fun b o _ _ hc e _=>k b o (fun z=>hc (by simp [z])) e) (fun b o _ _ hc e _=>⟨o.slots,k b o (fun z=>hc (by simp [z])) e⟩) (fun _ _ _ _ n=>n)
    (fun b o hc e=>⟨o,k b o (fun z=>hc (by simp [z])) e⟩) (fun _ _ e=>e) (fun _ _ _ e=>e) (fun b ps e=>⟨#[],by rw [e];simp⟩) (fun m hm=>?_) (fun b u e=>?_) I.bare
  · have e:b=it:=by simpa using hb
    subst e
    exact ⟨h1,hL,h2,h3⟩
  · obtain ⟨o,es,ep,ho,r⟩:=hm
    exact ⟨o,es,ep,k _ o (Ne.symm hL) ho,r⟩
  · refine (I.hok b u e).stay (fun c v hc q=>k c v ?_ q) (fun _ q=>q) fun _ _ q=>q
    rcases hc with z | z
    · rw [z];exact nit b u e
    · exact nit c _ z
theorem Inv.tok (I:Inv X pins σ H s) (t:Nat):Inv X pins σ H { s with toks:=t }:=I.un (h':=s.heap) (t':=t) Un.refl I.hok
theorem Inv.kept {t':Nat} (I:Inv X pins σ H s) (k:∀ b u,s.heap.get? b=some u→h'.get? b=some u):Inv X pins σ H { s with heap:=h',toks:=t' }:=I.un (Un.kept k) (I.hok.kept k)
theorem Inv.laid {a:Addr}{o:HO}{t':Nat}(I:Inv X pins σ H s) (k:∀ b u,s.heap.get? b=some u→h'.get? b=some u) (hp:s.heap.objs.size≤a) (new:ObjOk X.prog X.w (upd H a o) h' a o) :
    Inv X pins σ (upd H a o) { s with heap:=h',toks:=t' }:=I.un (Un.laid k hp (I.hok.fresh hp)) (I.hok.laid k hp new)
theorem Inv.write {x e:Addr}{o:HO}{t':Nat}(I:Inv X pins σ H s) (mu:Mut (H x)) (he:e=x∨H e=some (.own x)) (k:∀ b u,b≠e→s.heap.get? b=some u→h'.get? b=some u) (heo:∃ u,h'.get? e=some u)
    (new:ObjOk X.prog X.w (upd H x o) h' x o):Inv X pins σ (upd H x o) { s with heap:=h',toks:=t' }:=I.un (Un.write mu he k heo) (I.hok.write mu he k heo new)
theorem Inv.pins_of {pins':List (Addr×Obj)}(I:Inv X pins σ H s) (h:∀ p∈pins',s.heap.get? p.1=some p.2∧H p.1=none∧p.1≠X.env.locals∧p.1∉X.fs∧∀ v,p.2.data≠.cell v):Inv X pins' σ H s :=
  ⟨I.ok,I.os,I.bare,I.base,I.loc,I.cell,I.free,I.freeC,fun p hp=>(List.mem_append.mp hp).elim (fun z=>I.pin p (List.mem_append_left _ z)) (h p),I.hok,I.len⟩
theorem nodup_ix {N:List Str}(hN:N.Nodup) {i j:Nat}{x:Str}(a:N[i]?=some x) (b:N[j]?=some x):i=j:=by
  obtain ⟨h1,e1⟩:=List.getElem?_eq_some_iff.mp a
  obtain ⟨h2,e2⟩:=List.getElem?_eq_some_iff.mp b
  exact (List.getElem_inj hN).mp (e1.trans e2.symm)
theorem store_ok2 {M:Model}{A:Around}{E:Value→Shared→Prop}{i:Nat}{x:Str}{v:V}{u:Value}{Q:Unit→Shared→Prop}(I:Inv X pins σ H s) (hN:X.N.Nodup) (hi:X.N[i]?=some x) (hx:Loc X.env.scope x) (r:RelV v u)
    (h:∀ s',Inv X pins (σ.set i (some v)) H s'→(∃ a,Heap.SameBut a s.heap s'.heap∧(a=X.env.locals∨X.env.cells.lookup x=some a))→Q () s') (hf:X.fn x=true∨X.env.scope.names.lookup x=some .local:=by first | exact .inl rfl | exact .inr rfl | assumption):wpAny M A (storeName X.env x u) Q E s:=by
  obtain ⟨m,hn,hl⟩:=id I.loc
  have hcls:(X.env.scope.kind == .class || (X.env.scope.kind == .module && X.env.locals != X.env.globals))=false:=by rw [I.ok.kind];rfl
  have hiσ:i < σ.length:=by rw [I.len];exact (List.getElem?_eq_some_iff.mp hi).1
  have cne:=I.cne
  have tracked:∀ {a:Addr} {h':Heap},(∃ o,s.heap.get? a=some o∧H a=none)→Heap.SameBut a s.heap h'→HOk X.prog X.w H h':=fun {a h'} ha hs b ob e=>by
    obtain ⟨_,_,hfree⟩:=ha
    refine (I.hok b ob e).stay (fun c w' hc q=>(hs.2 c ?_).trans q) (fun _ q=>q) fun _ _ q=>q
    rintro rfl
    rcases hc with rfl | hc
    · rw [hfree] at e;cases e
    · rw [hfree] at hc;cases hc
  rcases hx with hk | hk
  · refine wpAny_storeName_local hk hn (fun h' hn' hs=>?_) hcls
    obtain ⟨oL,_,_,hoL,_⟩:=id hn
    refine h _ ⟨I.ok,I.os,I.bare,⟨fun b o e n hb hx=>?_,fun b o e n hb hx=>?_,I.base.free,fun b o e hx=>?_,I.base.tups,I.base.frzs,I.base.tbls⟩,⟨_,hn',fun j y v' e1 e2 e3=>?_⟩,fun y c e=>?_,I.free,I.freeC,fun p hp=>?_,tracked ⟨oL,hoL,I.free⟩ hs,by simpa using I.len⟩ ⟨_,hs,.inl rfl⟩
    · exact (hs.2 b (Nat.ne_of_lt (Nat.lt_of_lt_of_le (Heap.lt_size e) I.ok.above))).trans (I.base.keep b o e n hb hx)
    · obtain ⟨sl,e1⟩:=I.base.slot b o e n hb hx
      exact ⟨sl,(hs.2 b (Nat.ne_of_lt (Nat.lt_of_lt_of_le (Heap.lt_size e) I.ok.above))).trans e1⟩
    · obtain ⟨o',e1⟩:=I.base.there b o e hx
      exact ⟨o',(hs.2 b (Nat.ne_of_lt (Nat.lt_of_lt_of_le (Heap.lt_size e) I.ok.above))).trans e1⟩
    · by_cases hj:j=i
      · subst hj
        rw [hi] at e1;cases e1
        rw [List.getElem?_set_self hiσ] at e2
        cases e2
        exact ⟨u,r,.inl ⟨hk,by simp⟩⟩
      · rw [List.getElem?_set_ne (Ne.symm hj)] at e2
        obtain ⟨u',r',q⟩:=hl j y v' e1 e2 e3
        refine ⟨u',r',?_⟩
        rcases q with ⟨k,e⟩ | ⟨k,c,e,z⟩
        · refine .inl ⟨k,?_⟩
          have:y≠x:=fun e=>hj (nodup_ix hN e1 (e▸hi))
          simp [this,e]
        · exact .inr ⟨k,c,e,z.sameBut hs (cne y c e)⟩
    · obtain ⟨w',z⟩:=I.cell y c e
      exact ⟨w',z.sameBut hs (cne y c e)⟩
    · obtain ⟨e,n,ne,nf,d⟩:=I.pin p hp
      exact ⟨(hs.2 p.1 ne).trans e,n,ne,nf,d⟩
  · have hfn:X.fn x=true:=by
      rcases hf with z | z
      · exact z
      · rw [z] at hk;cases hk
    obtain ⟨c,hc⟩:=I.ok.has x (.inl hk)
    obtain ⟨w',z⟩:=I.cell x c hc
    refine wpAny_storeName_cell I.ok.kind hk hc z (fun h' hc' hs=>?_)
    obtain ⟨oc,hoc,hocd⟩:=id z
    refine h { s with heap:=h' } ⟨I.ok,I.os,I.bare,⟨fun b o e n hb hx=>?_,fun b o e n hb hx=>?_,I.base.free,fun b o e hx=>?_,I.base.tups,I.base.frzs,I.base.tbls⟩,⟨m,hn.sameBut hs (Ne.symm (cne x c hc)),fun j y v' e1 e2 e3=>?_⟩,fun y c' e=>?_,I.free,I.freeC,fun p hp=>?_,tracked ⟨oc,hoc,I.freeC x c hc⟩ hs,by simpa using I.len⟩ ⟨c,hs,.inr hc⟩
    · exact (hs.2 b (Nat.ne_of_lt (Nat.lt_of_lt_of_le (Heap.lt_size e) (I.ok.cab x c hfn hc)))).trans (I.base.keep b o e n hb hx)
    · obtain ⟨sl,e1⟩:=I.base.slot b o e n hb hx
      exact ⟨sl,(hs.2 b (Nat.ne_of_lt (Nat.lt_of_lt_of_le (Heap.lt_size e) (I.ok.cab x c hfn hc)))).trans e1⟩
    · obtain ⟨o',e1⟩:=I.base.there b o e hx
      exact ⟨o',(hs.2 b (Nat.ne_of_lt (Nat.lt_of_lt_of_le (Heap.lt_size e) (I.ok.cab x c hfn hc)))).trans e1⟩
    · by_cases hj:j=i
      · subst hj
        rw [hi] at e1;cases e1
        rw [List.getElem?_set_self hiσ] at e2
        cases e2
        exact ⟨u,r,.inr ⟨.inl hk,c,hc,hc'⟩⟩
      · rw [List.getElem?_set_ne (Ne.symm hj)] at e2
        obtain ⟨u',r',q⟩:=hl j y v' e1 e2 e3
        refine ⟨u',r',?_⟩
        rcases q with q | ⟨k,c',e,z'⟩
        · exact .inl q
        · refine .inr ⟨k,c',e,z'.sameBut hs ?_⟩
          rintro rfl
          exact hj (nodup_ix hN e1 (I.ok.inj _ _ _ e hc▸hi))
    · by_cases hcc:c'=c
      · subst hcc;exact ⟨_,hc'⟩
      · obtain ⟨w2,z2⟩:=I.cell y c' e
        exact ⟨w2,z2.sameBut hs hcc⟩
    · obtain ⟨e,n,ne,nf,d⟩:=I.pin p hp
      refine ⟨(hs.2 p.1 ?_).trans e,n,ne,nf,d⟩
      intro q
      rw [q,hoc] at e
      have q':oc=p.2:=Option.some.inj e
      exact d w' (by rw [← q'];exact hocd)
theorem store_ok {M:Model}{A:Around}{E:Value→Shared→Prop}{i:Nat}{x:Str}{v:V}{u:Value}{Q:Unit→Shared→Prop}(I:Inv X pins σ H s) (hN:X.N.Nodup) (hi:X.N[i]?=some x) (hx:Loc X.env.scope x) (r:RelV v u)
    (h:∀ s',Inv X pins (σ.set i (some v)) H s'→Q () s') (hf:X.fn x=true∨X.env.scope.names.lookup x=some .local:=by first | exact .inl rfl | exact .inr rfl | assumption):wpAny M A (storeName X.env x u) Q E s :=
  store_ok2 I hN hi hx r (fun s' I' _=>h s' I') hf
theorem Inv.call' {s':Shared}{ch:List Addr}(I:Inv X pins σ H s) (ho:s'.os=s.os) (u:Un (frs X.stack) ch H H' s.heap s'.heap) (hok:HOk X.prog X.w H' s'.heap) (hg:AllBare s'.gens)
    (hch:∀ b∈ch,(b∈X.ex∨X.s₀.heap.objs.size≤b)∧b≠X.env.locals∧(∀ x c,X.env.cells.lookup x=some c→c≠b)∧∀ p∈X.pn ++ pins,p.1≠b):Inv X pins σ H' s':=by
  obtain ⟨h',g',d',t',o'⟩:=s'
  have e:o'=s.os:=ho
  subst e
  exact I.call (g':=g') (t':=t') (d':=d') u hok hg hch
end
abbrev XK:=Value→Option Addr→Hp→Prop
abbrev St:=List (Option V)
abbrev VK:=V→Hp→Prop
abbrev TE:=St→Hp→VK→Prop
abbrev TT:=St→Hp→(Bool→Hp→Prop)→Prop
abbrev TA:=St→Hp→(List V→Hp→Prop)→Prop
structure Ends where
  nx:St→Hp→Prop
  rt:VK
  bk:St→Hp→Prop:=fun _ _=>False
  ct:St→Hp→Prop:=fun _ _=>False
abbrev TS:=Ends→St→Hp→Prop
def EP (X:Cx) (pins:List (Addr×Obj)) (σ:St) (Q:VK) (u:Value) (s':Shared):Prop:=∃ v H',Inv X pins σ H' s'∧RelV v u∧Q v H'
def TP (X:Cx) (pins:List (Addr×Obj)) (σ:St) (Q:Bool→Hp→Prop) (b:Bool) (s':Shared):Prop:=∃ H',Inv X pins σ H' s'∧Q b H'
def AP (X:Cx) (pins:List (Addr×Obj)) (σ:St) (Q:List V→Hp→Prop) (us:List Value) (s':Shared):Prop:=∃ vs H',Inv X pins σ H' s'∧Vals vs us∧Q vs H'
def SP (X:Cx) (pins:List (Addr×Obj)) (D:Ends) (f:Flow) (s':Shared):Prop :=
  match f with
  | .next=>∃ σ' H',Inv X pins σ' H' s'∧D.nx σ' H'
  | .brk=>∃ σ' H',Inv X pins σ' H' s'∧D.bk σ' H'
  | .cont=>∃ σ' H',Inv X pins σ' H' s'∧D.ct σ' H'
  | .ret u=>∃ v σ' H',Inv X pins σ' H' s'∧RelV v u∧D.rt v H'
def PE (X:Cx) (e:Expr) (t:TE):Prop :=
  ∀ (pins:List (Addr×Obj)) (s:Shared) (σ:St) (H:Hp) (Q:VK),Inv X pins σ H s→t σ H Q→wpAny (model X.prog X.w) X.A (eval e X.env) (EP X pins σ Q) X.xe s
def PT (X:Cx) (e:Expr) (t:TT):Prop :=
  ∀ (pins:List (Addr×Obj)) (s:Shared) (σ:St) (H:Hp) (Q:Bool→Hp→Prop),Inv X pins σ H s→t σ H Q→wpAny (model X.prog X.w) X.A (isTrue e X.env (eval e X.env)) (TP X pins σ Q) X.xe s
def PW (X:Cx) (e:Expr) (t:TT):Prop :=
  ∀ (whole:Sem Value) (pins:List (Addr×Obj)) (s:Shared) (σ:St) (H:Hp) (Q:Bool→Hp→Prop),Inv X pins σ H s→t σ H Q→wpAny (model X.prog X.w) X.A (isTrue e X.env whole) (TP X pins σ Q) X.xe s
theorem PW.pt {X:Cx}{e:Expr}{t:TT}(h:PW X e t):PT X e t:=h _
def PA (X:Cx) (es:List Expr) (t:TA):Prop :=
  ∀ (pos:Pos) (pins:List (Addr×Obj)) (s:Shared) (σ:St) (H:Hp) (Q:List V→Hp→Prop),Inv X pins σ H s→t σ H Q→wpAny (model X.prog X.w) X.A (spliced (backTo pos (starEach es X.env))) (AP X pins σ Q) X.xe s
def PS (X:Cx) (st:Stmt) (t:TS):Prop :=
  ∀ (pins:List (Addr×Obj)) (s:Shared) (σ:St) (H:Hp) (D:Ends),Inv X pins σ H s→t D σ H→wpAny (model X.prog X.w) X.A (exec st X.env) (SP X pins D) X.xe s
def PSs (X:Cx) (st:List Stmt) (t:TS):Prop :=
  ∀ (pins:List (Addr×Obj)) (s:Shared) (σ:St) (H:Hp) (D:Ends),Inv X pins σ H s→t D σ H→wpAny (model X.prog X.w) X.A (execs st X.env) (SP X pins D) X.xe s
theorem thn {α:Type}{t:Sem α}{Q Q':α→Shared→Prop}{M:Model}{A:Around}{E:Value→Shared→Prop}{s:Shared}(h:wpAny M A t Q E s) (hQ:∀ a s,Q a s→Q' a s):wpAny M A t Q' E s:=wpAny_mono h hQ fun _ _ x=>x
end L2
namespace L2
open PySem PySem.Spec PyProof.Rows
section
variable {X:Cx}
def tVar (i:Nat):TE:=fun σ H Q=>∃ v,σ[i]?=some (some v)∧Q v H
def tC (v:V):TE:=fun _ H Q=>Q v H
theorem pe_var {i:Nat}{x:Str}{pos:Pos}(hN:X.N[i]?=some x) (hv:Vis X.env.scope x) (hd:(x == ("__debug__":Str))=false:=by decide) (hcd:(x == ("__classdict__":Str))=false:=by decide):PE X (.Name x pos) (tVar i):=by
  intro pins s σ H Q I h
  obtain ⟨v,e,h⟩:=h
  obtain ⟨m,hn,hl⟩:=I.loc
  obtain ⟨u,r,l⟩:=hl i x v hN e hv
  have fin:EP X pins σ Q u s:=⟨v,H,I,r,h⟩
  rcases l with ⟨hk,hm⟩ | ⟨hk,c,hc,hcell⟩
  · exact wpAny_Name (wpAny_loadName_local I.ok.kind hk hn hm fin) hd
  · rcases hk with hk | hk
    · exact wpAny_Name (wpAny_loadName_cell I.ok.kind hk hc hcell fin) hd
    · exact wpAny_Name (wpAny_loadName_free I.ok.kind hk hc hcell fin hcd) hd
theorem pe_int {i j pos}:PE X (.Constant (.int i) j pos) (tC (.int i)):=fun _ _ _ H _ I h=>wpAny_Constant_int ⟨.int i,H,I.tok _,⟨_,rfl⟩,h⟩
theorem pe_bl {b j pos}:PE X (.Constant (.bool b) j pos) (tC (.bl b)):=fun _ _ _ H _ I h=>Constant_bool ⟨.bl b,H,I,rfl,h⟩
theorem pe_non {j pos}:PE X (.Constant .none j pos) (tC .non):=fun _ _ _ H _ I h=>Constant_none ⟨.non,H,I,rfl,h⟩
theorem pe_str {x j pos}:PE X (.Constant (.str x) j pos) (tC (.str x)):=fun _ _ _ H _ I h=>Calls.Constant_str ⟨.str x,H,I.tok _,⟨_,rfl⟩,h⟩
def Gl (X:Cx) (x:Str):Prop:=X.env.kindOf x=some .globalImplicit
theorem ld_glob {E:Value→Shared→Prop}{pins:List (Addr×Obj)}{s:Shared}{σ:St}{H:Hp}{x:Str}{u:Value}{pos:Pos}{Q:Value→Shared→Prop}(I:Inv X pins σ H s) (hg:Gl X x) (hm:X.mg x=some u) (h:Q u s)
    (hd:(x == ("__debug__":Str))=false:=by decide):wpAny (model X.prog X.w) X.A (eval (.Name x pos) X.env) Q E s :=
  Calls.Name_function_global I.ok.kind hg (Calls.loadGlobal_global (by rw [I.ok.glob];exact I.mod.glob.keeps I.bk) hm h) hd
theorem ld_blt {E:Value→Shared→Prop}{pins:List (Addr×Obj)}{s:Shared}{σ:St}{H:Hp}{x:Str}{u:Value}{pos:Pos}{Q:Value→Shared→Prop}(I:Inv X pins σ H s) (hg:Gl X x) (hm:X.mg x=none) (hv:bootBuiltins x=some u) (h:Q u s)
    (hn:x≠"__name__":=by decide) (hd:(x == ("__debug__":Str))=false:=by decide):wpAny (model X.prog X.w) X.A (eval (.Name x pos) X.env) Q E s:=by
  obtain ⟨mb,h1,h2⟩:=I.mod.blt
  exact Calls.Name_function_global I.ok.kind hg (Calls.loadGlobal_builtin (by rw [I.ok.glob];exact I.mod.glob.keeps I.bk) hm (by rw [I.ok.blt];exact h1.keeps I.bk) ((h2 x hn).trans hv) h) hd
theorem pe_glob {x:Str}{v:V}{u:Value}{pos:Pos}(hg:Gl X x) (hm:X.mg x=some u) (r:RelV v u) (hd:(x == ("__debug__":Str))=false:=by decide):PE X (.Name x pos) (tC v) :=
  fun _ _ _ H _ I h=>ld_glob I hg hm ⟨v,H,I,r,h⟩ hd
theorem pe_bltn {x:Str}{v:V}{u:Value}{pos:Pos}(hg:Gl X x) (hm:X.mg x=none) (hv:bootBuiltins x=some u) (r:RelV v u) (hn:x≠"__name__":=by decide) (hd:(x == ("__debug__":Str))=false:=by decide):PE X (.Name x pos) (tC v) :=
  fun _ _ _ H _ I h=>ld_blt I hg hm hv ⟨v,H,I,r,h⟩ hn hd
variable {a b:Expr}{ta tb:TE}{pos:Pos}
def tB (t:TE):TT:=fun σ H Q=>t σ H fun x H1=>∃ c,x=.bl c∧Q c H1
theorem pt_val {e:Expr}{t:TE}(h:PE X e t) (he:∀ whole,isTrue e X.env whole=(do let v ← whole;standAt e.pos;holding [v] (truthy v)):=by intro _;rfl):PT X e (tB t):=by
  intro pins s σ H Q I hw
  refine isTrue_plain (thn (h pins s σ H _ I hw) fun v s1 ⟨x,H1,I1,r1,q1⟩=>?_) (he _)
  obtain ⟨d,rfl,q⟩:=q1
  cases r1
  exact wpAny_truthy_bool ⟨H1,I1,q⟩
variable {tA tB':TT}{rest:List Expr}
def tAnd (t u:TT):TT:=fun σ H Q=>t σ H fun c H1=>if c=true then u σ H1 Q else Q false H1
def tOr (t u:TT):TT:=fun σ H Q=>t σ H fun c H1=>if c=true then Q true H1 else u σ H1 Q
def tNot (t:TT):TT:=fun σ H Q=>t σ H fun c H1=>Q (!c) H1
theorem pw_and1 (ha:PT X a tA):PW X (.BoolOp .And [a] pos) tA:=by
  intro wh pins s σ H Q I h
  refine isTrue_and (thn (ha pins s σ H Q I h) fun c s1 e=>?_)
  cases c with
  | true=>exact isTrue_and_nil e
  | false=>exact e
theorem pw_or1 (ha:PT X a tA):PW X (.BoolOp .Or [a] pos) tA:=by
  intro wh pins s σ H Q I h
  refine isTrue_or (thn (ha pins s σ H Q I h) fun c s1 e=>?_)
  cases c with
  | false=>exact isTrue_or_nil e
  | true=>exact e
theorem pw_and (ha:PT X a tA) (hb:PW X (.BoolOp .And (b :: rest) pos) tB'):PW X (.BoolOp .And (a :: b :: rest) pos) (tAnd tA tB'):=by
  intro wh pins s σ H Q I h
  refine isTrue_and (thn (ha pins s σ H _ I h) fun c s1 ⟨H1,I1,q1⟩=>?_)
  cases c with
  | true=>exact hb wh pins s1 σ H1 Q I1 q1
  | false=>exact ⟨H1,I1,q1⟩
theorem pw_or (ha:PT X a tA) (hb:PW X (.BoolOp .Or (b :: rest) pos) tB'):PW X (.BoolOp .Or (a :: b :: rest) pos) (tOr tA tB'):=by
  intro wh pins s σ H Q I h
  refine isTrue_or (thn (ha pins s σ H _ I h) fun c s1 ⟨H1,I1,q1⟩=>?_)
  cases c with
  | true=>exact ⟨H1,I1,q1⟩
  | false=>exact hb wh pins s1 σ H1 Q I1 q1
theorem pt_not (ha:PT X a tA):PT X (.UnaryOp .Not a pos) (tNot tA):=by
  intro pins s σ H Q I h
  exact isTrue_not (ha pins s σ H (fun c H1=>Q (!c) H1) I h)
def tNotV (ta:TE):TE:=fun σ H Q=>ta σ H fun x H1=>∃ c,x=.bl c∧Q (.bl (!c)) H1
theorem pe_one {op}{t:TE}(h:PE X a t):PE X (.BoolOp op [a] pos) t:=fun pins s σ H Q I hw=>BoolOp_one (h pins s σ H Q I hw)
theorem pe_not (ha:PE X a ta):PE X (.UnaryOp .Not a pos) (tNotV ta):=by
  intro pins s σ H Q I h
  refine UnaryOp_ (thn (ha pins s σ H _ I h) fun v s1 ⟨x,H1,I1,r1,q1⟩=>?_)
  obtain ⟨c,rfl,q1⟩:=q1
  cases r1
  exact not_of (wpAny_truthy_bool ⟨.bl (!c),H1,I1,rfl,q1⟩)
def tIf (t:TT) (ta tb:TE):TE:=fun σ H Q=>t σ H fun c H1=>if c=true then ta σ H1 Q else tb σ H1 Q
theorem pe_ifExp {c:Expr}(hc:PT X c tA) (ha:PE X a ta) (hb:PE X b tb):PE X (.IfExp c a b pos) (tIf tA ta tb):=by
  intro pins s σ H Q I h
  refine wpAny_IfExp (thn (hc pins s σ H _ I h) fun d s1 ⟨H1,I1,q1⟩=>?_)
  cases d with
  | true=>exact ha pins s1 σ H1 Q I1 q1
  | false=>exact hb pins s1 σ H1 Q I1 q1
end
end L2
namespace L2
open PySem PySem.Spec PyProof.Rows
def SqL (K:PySem.W.Frag) (H:Hp) (a:Addr) (xs:List V):Prop :=
  Rd H a (.lst xs) ∨
    ∃ (o:Obj) (its:Array Value) (n:Nat),K.lookup a=some o∧o.cls=.type "list"∧o.dict=none∧o.data=.seq its n∧its.size≤sizeLine∧Vals xs its.toList
def SqT (K:PySem.W.Frag) (H:Hp) (a:Addr) (xs:List V):Prop :=
  Rd H a (.tup xs) ∨
    ∃ (o:Obj) (its:Array Value) (n:Nat),K.lookup a=some o∧o.cls=.type "tuple"∧o.data=.seq its n∧its.size≤sizeLine∧Vals xs its.toList
def absV:Value→Option V
  | .none=>some .non
  | .bool b=>some (.bl b)
  | .int i _=>some (.int i)
  | .str x _=>some (.str x)
  | .bytes b _=>some (.byt b)
  | .float b _=>some (.flt b)
  | .ref a=>some (.ref a)
  | .type n=>some (.ty n)
  | _=>none
theorem RelV.abs {x:V}{u:Value}(r:RelV x u):absV u=some x:=by
  cases x with
  | non=>cases r;rfl
  | bl _=>cases r;rfl
  | int _=>obtain ⟨t,rfl⟩:=r;rfl
  | str _=>obtain ⟨t,rfl⟩:=r;rfl
  | byt _=>obtain ⟨t,rfl⟩:=r;rfl
  | flt _=>obtain ⟨t,rfl⟩:=r;rfl
  | ref _=>cases r;rfl
  | ty _=>cases r;rfl
theorem RelV.inj {x y:V}{u:Value}(r:RelV x u) (q:RelV y u):x=y:=Option.some.inj (r.abs.symm.trans q.abs)
theorem Vals.inj:∀ {xs ys:List V}{us:List Value},Vals xs us→Vals ys us→xs=ys
  | _,_,_,.nil,.nil=>rfl
  | _,_,_,.cons r t,.cons r' t'=>by rw [r.inj r',Vals.inj t t']
section
variable {X:Cx}{pins:List (Addr×Obj)}{σ:St}{H:Hp}{s:Shared}{a:Addr}{xs ys:List V}
theorem SqL.of {K:PySem.W.Frag}(h:H a=some (.lst xs)):SqL K H a xs:=.inl (.inl h)
theorem SqT.of {K:PySem.W.Frag}(h:H a=some (.tup xs)):SqT K H a xs:=.inl (.inl h)
theorem Inv.list (I:Inv X pins σ H s) (h:SqL X.K H a xs):∃ its:List Value,Vals xs its∧PlainL s.heap a its.toArray∧xs.length≤sizeLine:=by
  rcases h with h | ⟨o,its,n,hk,hc,hd,hs,hz,r⟩
  · obtain ⟨z,its,n,r,e⟩:=h.ok I.hok
    exact ⟨its,r,⟨_,n,e,rfl,rfl,rfl⟩,z⟩
  · refine ⟨its.toList,r,⟨o,n,I.kIn a o hk,hc,hd,by simpa using hs⟩,?_⟩
    have e:=r.length
    simp only [Array.length_toList] at e
    omega
theorem Inv.tuple (I:Inv X pins σ H s) (h:SqT X.K H a xs):∃ its:List Value,Vals xs its∧IsTup s.heap a its.toArray∧xs.length≤sizeLine:=by
  rcases h with h | ⟨o,its,n,hk,hc,hs,hz,r⟩
  · obtain ⟨z,its,r,p⟩:=h.ok I.hok
    exact ⟨its,r,p,z⟩
  · refine ⟨its.toList,r,⟨o,I.kIn a o hk,hc,n,by simpa using hs⟩,?_⟩
    have e:=r.length
    simp only [Array.length_toList] at e
    omega
theorem Inv.list_inj (I:Inv X pins σ H s) (h:SqL X.K H a xs) (h':SqL X.K H a ys):xs=ys:=by
  obtain ⟨its,r,⟨o,n,e,_,_,d⟩,_⟩:=I.list h
  obtain ⟨its',r',⟨o',n',e',_,_,d'⟩,_⟩:=I.list h'
  rw [e] at e';cases e'
  rw [d] at d'
  injection d' with d1 _
  have:its=its':=by simpa using congrArg Array.toList d1
  subst this
  exact r.inj r'
theorem Inv.tuple_inj (I:Inv X pins σ H s) (h:SqT X.K H a xs) (h':SqT X.K H a ys):xs=ys:=by
  obtain ⟨its,r,⟨o,e,_,n,d⟩,_⟩:=I.tuple h
  obtain ⟨its',r',⟨o',e',_,n',d'⟩,_⟩:=I.tuple h'
  rw [e] at e';cases e'
  rw [d] at d'
  injection d' with d1 _
  have:its=its':=by simpa using congrArg Array.toList d1
  subst this
  exact r.inj r'
end
abbrev Cx.wish (X:Cx) (E:Value→Shared→Prop):Cx:={ X with xe:=E }
abbrev Cx.nox (X:Cx):Cx:=X.wish fun _ _=>False
theorem Cx.Ok.wish {X:Cx}(ok:X.Ok) (E:Value→Shared→Prop):(X.wish E).Ok :=
  ⟨ok.mod,ok.kind,ok.glob,ok.blt,ok.above,ok.inj,ok.has,ok.cab,ok.hd,ok.frames,ok.stk,ok.exf,ok.bs,ok.bsz,ok.noex,ok.exfs,ok.funs,ok.frf⟩
theorem Cx.Ok.unwish {X:Cx}{E:Value→Shared→Prop}(ok:(X.wish E).Ok):X.Ok :=
  ⟨ok.mod,ok.kind,ok.glob,ok.blt,ok.above,ok.inj,ok.has,ok.cab,ok.hd,ok.frames,ok.stk,ok.exf,ok.bs,ok.bsz,ok.noex,ok.exfs,ok.funs,ok.frf⟩
section
variable {X:Cx}{pins:List (Addr×Obj)}{σ:St}{H:Hp}{s:Shared}{E:Value→Shared→Prop}
theorem Inv.wish (I:Inv X pins σ H s) (E:Value→Shared→Prop):Inv (X.wish E) pins σ H s:=⟨I.ok.wish E,I.os,I.bare,I.base,I.loc,I.cell,I.free,I.freeC,I.pin,I.hok,I.len⟩
theorem Inv.unwish (I:Inv (X.wish E) pins σ H s):Inv X pins σ H s:=⟨I.ok.unwish,I.os,I.bare,I.base,I.loc,I.cell,I.free,I.freeC,I.pin,I.hok,I.len⟩
theorem SP.unwish {D:Ends}{f:Flow}{s':Shared}(h:SP (X.wish E) pins D f s'):SP X pins D f s':=by
  cases f with
  | next=>obtain ⟨σ',H',I,q⟩:=h;exact ⟨σ',H',I.unwish,q⟩
  | brk=>obtain ⟨σ',H',I,q⟩:=h;exact ⟨σ',H',I.unwish,q⟩
  | cont=>obtain ⟨σ',H',I,q⟩:=h;exact ⟨σ',H',I.unwish,q⟩
  | ret u=>obtain ⟨v,σ',H',I,r,q⟩:=h;exact ⟨v,σ',H',I.unwish,r,q⟩
theorem PSs.nox {st:List Stmt}{t:TS}(h:PSs X.nox st t):PSs X st t:=fun pins s σ H D I hw =>
  wpAny_mono (h pins s σ H D (I.wish _) hw) (fun _ _ q=>q.unwish) fun _ _ z=>False.elim z
end
section
variable {X:Cx}{st:Stmt}{rest:List Stmt}{t u:TS}{e:Expr}{te:TE}{pos:Pos}
def tNext:TS:=fun D σ H=>D.nx σ H
def tSeq (t u:TS):TS:=fun D σ H=>t { D with nx:=u D } σ H
theorem pss_nil:PSs X [] tNext:=fun _ _ σ H _ I h=>wpAny_execs_nil ⟨σ,H,I,h⟩
theorem pss_cons (h1:PS X st t) (h2:PSs X rest u):PSs X (st :: rest) (tSeq t u):=by
  intro pins s σ H D I h
  refine wpAny_execs_cons (thn (h1 pins s σ H { D with nx:=u D } I h) fun f s1 q=>?_)
  cases f with
  | next =>
    obtain ⟨σ',H',I',q⟩:=q
    exact h2 pins s1 σ' H' D I' q
  | ret v=>exact q
  | brk=>exact q
  | cont=>exact q
theorem pss_one (h1:PS X st t):PSs X [st] t:=by
  intro pins s σ H D I h
  refine wpAny_execs_cons (thn (h1 pins s σ H D I h) fun f s1 q=>?_)
  cases f with
  | next=>exact wpAny_execs_nil q
  | ret v=>exact q
  | brk=>exact q
  | cont=>exact q
theorem Inv.quiet {pins:List (Addr×Obj)}{σ:St}{H:Hp}{s:Shared}(I:Inv X pins σ H s):interactive X.env=false:=by simp [interactive,I.ok.kind]
def tDrop (te:TE):TS:=fun D σ H=>te σ H fun _ H1=>D.nx σ H1
theorem ps_expr (he:PE X e te) (hs:swapsWith e none pos.line X.env=pure false:=by rfl):PS X (.Expr e pos) (tDrop te):=by
  intro pins s σ H D I h
  exact wpAny_Expr_any (thn (he pins s σ H _ I h) fun v s1 ⟨x,H1,I1,r1,q1⟩=>⟨σ,H1,I1,q1⟩) I.quiet hs
def tRet (te:TE):TS:=fun D σ H=>te σ H D.rt
theorem ps_ret (he:PE X e te):PS X (.Return (some e) pos) (tRet te):=by
  intro pins s σ H D I h
  exact wpAny_Return_some (thn (he pins s σ H _ I h) fun v s1 ⟨x,H1,I1,r1,q1⟩=>⟨x,σ,H1,I1,r1,q1⟩)
def tIfS (c:TT) (t u:TS):TS:=fun D σ H=>c σ H fun b H1=>if b=true then t D σ H1 else u D σ H1
theorem ps_if {c:Expr}{a b:List Stmt}{tc:TT}(hc:PT X c tc) (ha:PSs X a t) (hb:PSs X b u):PS X (.If c a b pos) (tIfS tc t u):=by
  intro pins s σ H D I h
  refine wpAny_If (thn (hc pins s σ H _ I h) fun d s1 ⟨H1,I1,q1⟩=>?_)
  cases d with
  | true=>exact ha pins s1 σ H1 D I1 q1
  | false=>exact hb pins s1 σ H1 D I1 q1
end
abbrev TG:=V→St→Hp→(St→Hp→Prop)→Prop
abbrev TGs:=List V→St→Hp→(St→Hp→Prop)→Prop
def PG (X:Cx) (target:Expr) (t:TG):Prop :=
  ∀ (pins:List (Addr×Obj)) (s:Shared) (σ:St) (H:Hp) (v:V) (u:Value) (Q:St→Hp→Prop),Inv X pins σ H s→RelV v u→t v σ H Q →
    wpAny (model X.prog X.w) X.A (assign target X.env u) (fun _ s'=>∃ σ' H',Inv X pins σ' H' s'∧Q σ' H') X.xe s
def PGs (X:Cx) (ts:List Expr) (t:TGs):Prop :=
  ∀ (pins:List (Addr×Obj)) (s:Shared) (σ:St) (H:Hp) (vs:List V) (us:List Value) (Q:St→Hp→Prop),Inv X pins σ H s→Vals vs us→t vs σ H Q →
    wpAny (model X.prog X.w) X.A (assignInOrder ((assignEach ts X.env).map (·.2)) us) (fun _ s'=>∃ σ' H',Inv X pins σ' H' s'∧Q σ' H') X.xe s
abbrev TSet:=V→V→V→Hp→(Hp→Prop)→Prop
def PSet (X:Cx) (t:TSet):Prop :=
  ∀ (pins:List (Addr×Obj)) (s:Shared) (σ:St) (H:Hp) (o i v:V) (ov iv u:Value) (Q:Hp→Prop),Inv X pins σ H s→RelV o ov→RelV i iv→RelV v u→t o i v H Q →
    wpAny (model X.prog X.w) X.A (setItem ov iv u) (fun _ s'=>∃ H',Inv X pins σ H' s'∧Q H') X.xe s
section
variable {X:Cx}{pos:Pos}
def gName (i:Nat):TG:=fun v σ H Q=>Q (σ.set i (some v)) H
theorem pg_name {i:Nat}{x:Str}(hN:X.N.Nodup) (hi:X.N[i]?=some x) (hx:Loc X.env.scope x) (hf:X.fn x=true∨X.env.scope.names.lookup x=some .local:=by first | exact .inl rfl | exact .inr rfl | assumption):PG X (.Name x pos) (gName i):=by
  intro pins s σ H v u Q I r h
  exact wpAny_assign_Name (store_ok I hN hi hx r (fun s' I'=>⟨_,H,I',h⟩) hf)
def gNil:TGs:=fun vs σ H Q=>vs=[]∧Q σ H
def gCons (t:TG) (u:TGs):TGs:=fun vs σ H Q=>∃ v r,vs=v :: r∧t v σ H fun σ' H'=>u r σ' H' Q
theorem pgs_nil:PGs X [] gNil:=by
  intro pins s σ H vs us Q I r h
  obtain ⟨e,h⟩:=h
  subst e
  cases r
  exact assignInOrder_nil ⟨σ,H,I,h⟩
theorem pgs_cons {e:Expr}{es:List Expr}{t:TG}{u:TGs}(h1:PG X e t) (h2:PGs X es u)
    (hs:(assignEach (e :: es) X.env).map (·.2)=assign e X.env :: (assignEach es X.env).map (·.2):=by rfl):PGs X (e :: es) (gCons t u):=by
  intro pins s σ H vs us Q I r h
  obtain ⟨v,vr,e1,h⟩:=h
  subst e1
  cases r with
  | cons r rr =>
    rw [hs]
    refine assignInOrder_cons (thn (h1 pins s σ H _ _ _ I r h) fun _ s1 ⟨σ1,H1,I1,q1⟩=>?_)
    exact h2 pins s1 σ1 H1 _ _ Q I1 rr q1
def gTup (K:PySem.W.Frag) (n:Nat) (t:TGs):TG:=fun v σ H Q=>∃ a xs,v=.ref a∧SqT K H a xs∧xs.length=n∧t xs σ H Q
theorem pg_tup {es:List Expr}{k:Nat}{t:TGs}{n:Nat}(hc:X.calm=true) (h:PGs X es t)
    (hn:(assignEach es X.env).length=n:=by rfl) (hst:(assignEach es X.env).findIdx? (·.1)=none:=by rfl):PG X (.Tuple es k pos) (gTup X.K n t):=by
  intro pins s σ H v u Q I r hw
  obtain ⟨a,xs,e1,hq,hl,hw⟩:=hw
  subst e1
  cases r
  obtain ⟨its,rv,ht,hz⟩:=I.tuple hq
  refine assign_Tuple_tuple (I.ok.hd hc) ht (by simp [hn,← hl,rv.length]) hst fun h' hx=>?_
  have I1:Inv X pins σ H { s with heap:=h' }:=I.kept (t':=s.toks) fun b o e=>hx b o (Nat.ne_of_lt (Heap.lt_size e)) e
  exact h pins _ σ H xs _ Q I1 (by simpa using rv) hw
def gSub (to ti:TE) (t:TSet):TG:=fun v σ H Q=>to σ H fun o H1=>ti σ H1 fun i H2=>t o i v H2 fun H3=>Q σ H3
theorem pg_sub {o i:Expr}{to ti:TE}{t:TSet}(ho:PE X o to) (hi:PE X i ti) (hs:PSet X t)
    (ha:∀ v,assign (.Subscript o i pos) X.env v=(do
      let ov ← holding [v] (eval o X.env)
      let iv ← holding [v,ov] (eval i X.env)
      standAt pos
      holding [v,ov,iv] (setItem ov iv v)
      release [v,ov,iv] []):=by intro _;rfl):PG X (.Subscript o i pos) (gSub to ti t):=by
  intro pins s σ H v u Q I r h
  rw [ha]
  refine wpAny_bind (wpAny_holding (thn (ho pins s σ H _ I h) fun ov s1 ⟨x,H1,I1,r1,q1⟩=>?_))
  refine wpAny_bind (wpAny_holding (thn (hi pins s1 σ H1 _ I1 q1) fun iv s2 ⟨y,H2,I2,r2,q2⟩=>?_))
  refine wpAny_bind (wpAny_standAt (wpAny_bind (wpAny_holding (thn (hs pins s2 σ H2 x y v ov iv u _ I2 r1 r2 r q2) fun _ s3 ⟨H3,I3,q3⟩=>?_))))
  exact wpAny_release ⟨σ,H3,I3,q3⟩
def tAsg (te:TE) (g:TG):TS:=fun D σ H=>te σ H fun x H1=>g x σ H1 D.nx
theorem ps_asg {tg e:Expr}{te:TE}{g:TG}(he:PE X e te) (hg:PG X tg g) (hs:swapsWithSole [tg] e pos.line X.env=pure false:=by rfl) (hw:swappedStores [tg] e X.env=pure none:=by rfl)
    (h1:(assignEach [tg] X.env).map (·.2)=[assign tg X.env]:=by rfl):PS X (.Assign [tg] e pos) (tAsg te g):=by
  intro pins s σ H D I h
  refine wpAny_Assign_stores (thn (he pins s σ H _ I h) fun v s1 ⟨x,H1,I1,r1,q1⟩=>?_) hs hw
  rw [h1]
  exact thn (hg pins s1 σ H1 x v _ I1 r1 q1) fun _ s2 q=>q
theorem ps_set {i:Nat}{x:Str}{e:Expr}{te:TE}{pos':Pos}(hN:X.N.Nodup) (hi:X.N[i]?=some x) (hx:Loc X.env.scope x) (he:PE X e te) (hs:swapsWith e (some (.Name x pos')) pos.line X.env=pure false:=by rfl) (hf:X.fn x=true∨X.env.scope.names.lookup x=some .local:=by first | exact .inl rfl | exact .inr rfl | assumption) :
    PS X (.Assign [.Name x pos'] e pos) (tAsg te (gName i)):=by
  intro pins s σ H D I h
  refine wpAny_Assign_Name (thn (he pins s σ H _ I h) fun v s1 ⟨y,H1,I1,r1,q1⟩=>?_) hs
  exact store_ok I1 hN hi hx r1 (fun s2 I2=>⟨_,H1,I2,q1⟩) hf
end
section
variable {X:Cx}{pos:Pos}
def tWhile (c:TT) (tb:TS):TS:=fun D σ H=>∃ W:Nat→St→Hp→Prop,(∃ m,W m σ H)∧∀ m σ H,W m σ H →
  c σ H fun b H1=>if b=true then ∃ N:St→Hp→Prop,(∀ σ' H',N σ' H'→∃ m',m' < m∧W m' σ' H')∧tb { D with nx:=N,ct:=N,bk:=D.nx } σ H1 else D.nx σ H1
theorem ps_while {c:Expr}{body:List Stmt}{tc:TT}{tb:TS}(hp:PassesOwn (model X.prog X.w) X.A X.env X.xe) (hc:PT X c tc) (hb:PSs X body tb):PS X (.While c body [] pos) (tWhile tc tb):=by
  intro pins s σ H D I h
  obtain ⟨W,⟨m0,w0⟩,turn⟩:=h
  refine wpAny_While (codeAny_whileLoop (fun n s'=>∃ σ' H',Inv X pins σ' H' s'∧W n σ' H') ?_ m0 ⟨σ,H,I,w0⟩)
  rintro n s1 ⟨σ1,H1,I1,w1⟩
  refine wpAny_passesOwn hp (thn (hc pins s1 σ1 H1 _ I1 (turn n σ1 H1 w1)) fun b s2 ⟨H2,I2,q2⟩=>?_)
  cases b with
  | true =>
    obtain ⟨N,hN,q2⟩:=q2
    rw [if_pos rfl]
    refine wpAny_passesOwn hp (thn (hb pins s2 σ1 H2 _ I2 q2) fun f s3 q3=>?_)
    cases f with
    | next =>
      obtain ⟨σ3,H3,I3,n3⟩:=q3
      obtain ⟨m',hm,w3⟩:=hN σ3 H3 n3
      exact ⟨m',hm,σ3,H3,I3,w3⟩
    | cont =>
      obtain ⟨σ3,H3,I3,n3⟩:=q3
      obtain ⟨m',hm,w3⟩:=hN σ3 H3 n3
      exact ⟨m',hm,σ3,H3,I3,w3⟩
    | brk=>exact q3
    | ret v=>exact q3
  | false =>
    rw [if_neg Bool.false_ne_true]
    exact wpAny_execs_nil ⟨σ1,H2,I2,q2⟩
end
structure It where
  go:Nat→Hp→Prop
  yld:Nat→Hp→V→Hp→Prop
  stop:Nat→Hp→Prop
def FpOk (X:Cx) (pins:List (Addr×Obj)) (H:Hp) (b:Addr):Prop :=
  H b=none∧b≠X.env.locals∧b∉X.fs∧(b∈X.ex∨X.s₀.heap.objs.size≤b)∧(∀ x c,X.env.cells.lookup x=some c→c≠b)∧∀ p∈X.pn ++ pins,p.1≠b
theorem Inv.fpOk {X:Cx}{pins:List (Addr×Obj)}{σ:St}{H H':Hp}{s:Shared}{b:Addr}(I:Inv X pins σ H s) (hb:s.heap.objs.size≤b) (hn:H' b=none):FpOk X pins H' b:=by
  refine ⟨hn,Nat.ne_of_gt (Nat.lt_of_lt_of_le I.lt hb),I.nofs hb,.inr (Nat.le_trans I.sz hb),fun x c e z=>?_,fun p hp z=>?_⟩
  · obtain ⟨v,q⟩:=I.cell x c e
    exact absurd (Nat.lt_of_lt_of_le q.lt (by rw [z];exact hb)) (Nat.lt_irrefl _)
  · exact absurd (Nat.lt_of_lt_of_le (Heap.lt_size (I.pin p hp).1) (by rw [z];exact hb)) (Nat.lt_irrefl _)
structure Turn (P:Program) (w:World) (K:PySem.W.Frag) (tg:Expr) (J:It) (fp:List Addr) (it:Addr) (tn:Nat→Heap→Prop):Prop where
  mem:it∈fp
  obj:∀ i h,tn i h→∀ b∈fp,∃ o,h.get? b=some o∧∀ v,o.data≠.cell v
  keep:∀ i h h',tn i h→(∀ b∈fp,∀ o,h.get? b=some o→h'.get? b=some o)→tn i h'
  item:∀ (X:Cx),X.prog=P→X.w=w→X.K=K→X.calm=true→∀ (i:Nat) (pins:List (Addr×Obj)) (s:Shared) (σ:St) (H:Hp) (E:Value→Shared→Prop),Inv X pins σ H s→(∀ b∈fp,FpOk X pins H b)→tn i s.heap→J.go i H →
    wpAny (model P w) X.A (pyNext (.ref it)) (fun r s1=>∃ u,r=some u ∧
      wpAny (model P w) X.A (letOwnedTupleGo tg (.ref it) u) (fun _ s2=>∃ x H',Inv X pins σ H' s2∧RelV x u∧J.yld i H x H'∧tn (i + 1) s2.heap∧∀ b∈fp,H' b=none) E s1) E s
  done:∀ (X:Cx),X.prog=P→X.w=w→X.K=K→X.calm=true→∀ (i:Nat) (pins:List (Addr×Obj)) (s:Shared) (σ:St) (H:Hp) (E:Value→Shared→Prop),Inv X pins σ H s→(∀ b∈fp,FpOk X pins H b)→tn i s.heap→J.stop i H →
    wpAny (model P w) X.A (pyNext (.ref it)) (fun r s1=>r=none∧Inv X pins σ H s1) E s
  self:∀ (A:Around) (i:Nat) (s:Shared) (Q:Value→Shared→Prop) (E:Value→Shared→Prop),tn i s.heap→Q (.ref it) s→wpAny (model P w) A (pyIter (.ref it)) Q E s
abbrev TI:=St→Hp→(It→Hp→Prop)→Prop
def PIE (X:Cx) (pins:List (Addr×Obj)) (σ:St) (tg:Expr) (R:It→Hp→Prop) (itv:Value) (s2:Shared):Prop :=
  ∃ (it:Addr) (fp:List Addr) (tn:Nat→Heap→Prop) (J:It) (H':Hp),itv=.ref it∧Inv X pins σ H' s2∧Turn X.prog X.w X.K tg J fp it tn∧tn 0 s2.heap∧(∀ b∈fp,FpOk X pins H' b)∧R J H'
def PI (X:Cx) (tg iter:Expr) (wi:TI):Prop :=
  ∀ (pins:List (Addr×Obj)) (s:Shared) (σ:St) (H:Hp) (R:It→Hp→Prop),Inv X pins σ H s→wi σ H R →
    wpAny (model X.prog X.w) X.A (eval iter X.env) (fun v s1=>wpAny (model X.prog X.w) X.A (pyIter v) (PIE X pins σ tg R) X.xe s1) X.xe s
theorem go_of {M:Model}{A:Around}{E:Value→Shared→Prop}{s:Shared}{tg:Expr}{it:Addr}{u:Value}{o:Obj}{n:String}{vs:Array Value}{Q:Unit→Shared→Prop}(ho:s.heap.get? it=some o) (hc:o.cls=.type n) (hd:o.data=.fields vs)
    (hn:["enumerate","zip","dict_itemiterator","dict_reverseitemiterator","odict_iterator","itertools.zip_longest","itertools.pairwise"].contains n=false) (hQ:Q () s):wpAny M A (letOwnedTupleGo tg (.ref it) u) Q E s:=by
  unfold letOwnedTupleGo
  cases tg<;>first
    | exact wpAny_pure hQ
    | (cases u<;>first
        | exact wpAny_pure hQ
        | (refine wpAny_bind (wpAny_load ho ?_)
           rw [hc,hd]
           show wpAny M A (if (["enumerate","zip","dict_itemiterator","dict_reverseitemiterator","odict_iterator","itertools.zip_longest","itertools.pairwise"].contains n && vs[0]? == some (rawInt _))=true then _ else _) Q E s
           rw [if_neg (by intro h;rw [hn,Bool.false_and] at h;cases h)]
           exact wpAny_pure hQ))
def Itl (K:PySem.W.Frag) (a:Addr):It :=
  ⟨fun i H=>∃ xs x,SqL K H a xs∧xs[i]?=some x,fun i H x H'=>H'=H∧∀ xs,SqL K H a xs→xs[i]?=some x,fun i H=>∃ xs,SqL K H a xs∧xs.length≤i⟩
def Itt (K:PySem.W.Frag) (a:Addr):It :=
  ⟨fun i H=>∃ xs x,SqT K H a xs∧xs[i]?=some x,fun i H x H'=>H'=H∧∀ xs,SqT K H a xs→xs[i]?=some x,fun i H=>∃ xs,SqT K H a xs∧xs.length≤i⟩
def Itr (lo:Int) (n:Nat):It:=⟨fun i _=>i < n,fun i H x H'=>H'=H∧x=.int (lo + i),fun i _=>n≤i⟩
theorem turn_list {P:Program}{w:World}{K:PySem.W.Frag}{tg:Expr}(a it:Addr):Turn P w K tg (Itl K a) [it] it (fun i h=>h.IsListIter it a i) where
  mem:=by simp
  obj:=fun i h st b hb=>by
    have e:b=it:=by simpa using hb
    subst e
    obtain ⟨o,e,c,d⟩:=st
    exact ⟨o,e,fun v z=>by rw [d] at z;cases z⟩
  keep:=fun i h h' st k=>st.at fun o e=>k it (by simp) o e
  item:=by
    intro X hP hw hK hc i pins s σ H E I hf st hg
    subst hP hw hK
    obtain ⟨xs,x,hq,hx⟩:=hg
    obtain ⟨its,rv,p,hz⟩:=I.list hq
    obtain ⟨u,hu,ru⟩:=rv.get hx
    obtain ⟨f0,f1,f2,f3,f4,f5⟩:=hf it (by simp)
    refine wpAny_pyNext_list_item st p.isList (x:=u) (by simpa using hu) fun h' st' sb=>?_
    have I1:Inv X pins σ H { s with heap:=h' }:=I.turned (t':=s.toks) (fun b o hb e=>(sb.2 b hb).trans e) f0 f1 f3 f4 f5
    obtain ⟨o,e,c,d⟩:=id st'
    exact ⟨u,rfl,go_of (s:={ s with heap:=h' }) e c d (by decide) ⟨x,H,I1,ru,⟨rfl,fun ys hy=>by rw [I.list_inj hy hq];exact hx⟩,st',fun b hb=>(hf b hb).1⟩⟩
  done:=by
    intro X hP hw hK hc i pins s σ H E I hf st hg
    subst hP hw hK
    obtain ⟨xs,hq,hx⟩:=hg
    obtain ⟨its,rv,p,hz⟩:=I.list hq
    obtain ⟨f0,f1,f2,f3,f4,f5⟩:=hf it (by simp)
    have hl:=rv.length
    exact wpAny_pyNext_list_end (I.ok.hd hc) st p.isList (by simp;omega) fun h' eb=>⟨rfl,I.turned (t':=s.toks) (fun b o hb e=>eb b o hb e) f0 f1 f3 f4 f5⟩
  self:=fun _ _ _ _ _ st h=>wpAny_pyIter_listiter st h
theorem turn_tuple {P:Program}{w:World}{K:PySem.W.Frag}{tg:Expr}(a it:Addr):Turn P w K tg (Itt K a) [it] it (fun i h=>h.IsTupleIter it a i) where
  mem:=by simp
  obj:=fun i h st b hb=>by
    have e:b=it:=by simpa using hb
    subst e
    obtain ⟨o,e,c,d⟩:=st
    exact ⟨o,e,fun v z=>by rw [d] at z;cases z⟩
  keep:=fun i h h' st k=>st.at fun o e=>k it (by simp) o e
  item:=by
    intro X hP hw hK hc i pins s σ H E I hf st hg
    subst hP hw hK
    obtain ⟨xs,x,hq,hx⟩:=hg
    obtain ⟨its,rv,p,hz⟩:=I.tuple hq
    obtain ⟨u,hu,ru⟩:=rv.get hx
    obtain ⟨f0,f1,f2,f3,f4,f5⟩:=hf it (by simp)
    refine wpAny_pyNext_tuple_item st (show s.heap.IsTuple a its.toArray from p) (x:=u) (by simpa using hu) fun h' st' sb=>?_
    have I1:Inv X pins σ H { s with heap:=h' }:=I.turned (t':=s.toks) (fun b o hb e=>(sb.2 b hb).trans e) f0 f1 f3 f4 f5
    obtain ⟨o,e,c,d⟩:=id st'
    exact ⟨u,rfl,go_of (s:={ s with heap:=h' }) e c d (by decide) ⟨x,H,I1,ru,⟨rfl,fun ys hy=>by rw [I.tuple_inj hy hq];exact hx⟩,st',fun b hb=>(hf b hb).1⟩⟩
  done:=by
    intro X hP hw hK hc i pins s σ H E I hf st hg
    subst hP hw hK
    obtain ⟨xs,hq,hx⟩:=hg
    obtain ⟨its,rv,p,hz⟩:=I.tuple hq
    obtain ⟨f0,f1,f2,f3,f4,f5⟩:=hf it (by simp)
    have hl:=rv.length
    exact wpAny_pyNext_tuple_end (I.ok.hd hc) st (show s.heap.IsTuple a its.toArray from p) (by simp;omega) fun h' eb=>⟨rfl,I.turned (t':=s.toks) (fun b o hb e=>eb b o hb e) f0 f1 f3 f4 f5⟩
  self:=fun _ _ _ _ _ st h=>wpAny_pyIter_tupleiter st h
theorem turn_range {P:Program}{w:World}{K:PySem.W.Frag}{tg:Expr}(it:Addr) (lo:Int) (n:Nat):Turn P w K tg (Itr lo n) [it] it (fun i h=>IsRangeIter h it (lo + (i:Nat) * 1) ((n:Int) - (i:Nat)) 1) where
  mem:=by simp
  obj:=fun i h st b hb=>by
    have e:b=it:=by simpa using hb
    subst e
    exact ⟨_,st,fun v z=>by
      have z':Data.fields _=Data.cell v:=z
      cases z'⟩
  keep:=fun i h h' st k=>k it (by simp) _ st
  item:=by
    intro X hP hw hK hc i pins s σ H E I hf st hg
    subst hP hw hK
    obtain ⟨f0,f1,f2,f3,f4,f5⟩:=hf it (by simp)
    have W:=Walks.range (prog:=X.prog) (w:=X.w) (I.ok.hd hc) it lo 1 n
    refine W.item i s _ _ hg st fun v h' tk hv st' kk=>?_
    obtain ⟨t,rfl⟩:=hv
    have I1:Inv X pins σ H { s with heap:=h',toks:=tk }:=I.turned (fun b o hb e=>kk b o (by simpa using hb) e) f0 f1 f3 f4 f5
    refine ⟨_,rfl,go_of (s:={ s with heap:=h',toks:=tk }) (n:="range_iterator") st' rfl rfl (by decide) ⟨.int (lo + i),H,I1,⟨t,?_⟩,⟨rfl,rfl⟩,st',fun b hb=>(hf b hb).1⟩⟩
    rw [Int.mul_one]
  done:=by
    intro X hP hw hK hc i pins s σ H E I hf st hg
    subst hP hw hK
    obtain ⟨f0,f1,f2,f3,f4,f5⟩:=hf it (by simp)
    exact wpAny_pyNext_range_end (I.ok.hd hc) st (by have:n≤i:=hg;omega) fun h' eb=>⟨rfl,I.turned (t':=s.toks) (fun b o hb e=>eb b o hb e) f0 f1 f3 f4 f5⟩
  self:=fun _ _ _ _ _ st h=>wpAny_pyIter_rangeiter st h
end L2
namespace L2
open PySem PySem.Spec PyProof.Rows
section
variable {X:Cx}{tg:Expr}
def iList (K:PySem.W.Frag) (tl:TE):TI:=fun σ H R=>tl σ H fun x H1=>∃ a,x=.ref a∧(∃ xs,SqL K H1 a xs)∧R (Itl K a) H1
def iTup (K:PySem.W.Frag) (tl:TE):TI:=fun σ H R=>tl σ H fun x H1=>∃ a,x=.ref a∧(∃ xs,SqT K H1 a xs)∧R (Itt K a) H1
theorem pi_list {l:Expr}{tl:TE}(hl:PE X l tl):PI X tg l (iList X.K tl):=by
  intro pins s σ H R I h
  refine thn (hl pins s σ H _ I h) fun v s1 ⟨x,H1,I1,r1,q1⟩=>?_
  obtain ⟨a,e,⟨xs,hq⟩,q⟩:=q1
  subst e
  cases r1
  obtain ⟨its,rv,p,hz⟩:=I1.list hq
  refine wpAny_pyIter_list p.isList ?_
  refine ⟨s1.heap.objs.size,[s1.heap.objs.size],_,_,H1,rfl,I1.kept (t':=s1.toks) fun b o e=>Heap.get?_push_of_some _ e,turn_list a _,⟨_,Heap.get?_push_size _ rfl,rfl,rfl⟩,fun b hb=>?_,q⟩
  have e:b=s1.heap.objs.size:=by simpa using hb
  subst e
  exact I1.fpOk (Nat.le_refl _) (I1.hok.fresh (Nat.le_refl _))
theorem pi_tup {l:Expr}{tl:TE}(hl:PE X l tl):PI X tg l (iTup X.K tl):=by
  intro pins s σ H R I h
  refine thn (hl pins s σ H _ I h) fun v s1 ⟨x,H1,I1,r1,q1⟩=>?_
  obtain ⟨a,e,⟨xs,hq⟩,q⟩:=q1
  subst e
  cases r1
  obtain ⟨its,rv,p,hz⟩:=I1.tuple hq
  refine wpAny_pyIter_tuple (show s1.heap.IsTuple a its.toArray from p) ?_
  refine ⟨s1.heap.objs.size,[s1.heap.objs.size],_,_,H1,rfl,I1.kept (t':=s1.toks) fun b o e=>Heap.get?_push_of_some _ e,turn_tuple a _,⟨_,Heap.get?_push_size _ rfl,rfl,rfl⟩,fun b hb=>?_,q⟩
  have e:b=s1.heap.objs.size:=by simpa using hb
  subst e
  exact I1.fpOk (Nat.le_refl _) (I1.hok.fresh (Nat.le_refl _))
theorem range_it {pins:List (Addr×Obj)}{σ:St}{H:Hp}{s:Shared}{R:It→Hp→Prop}{E:Value→Shared→Prop}{lo hi:Int}{t u v:Tok}{tk:Nat}(I:Inv X pins σ H s) (h1:-(2 ^ 62)≤lo) (h2:lo < 2 ^ 62) (h3:-(2 ^ 62)≤hi) (h4:hi < 2 ^ 62)
    (q:R (Itr lo (hi - lo).toNat) H):wpAny (model X.prog X.w) X.A (pyIter (.ref s.heap.objs.size)) (PIE X pins σ tg R) E { s with heap:=s.heap.push { cls:=.type "range",data:=.fields #[.int lo t,.int hi u,.int 1 v] },toks:=tk }:=by
  refine wpAny_pyIter_range (IsRange.new ..) (small_one h1 h2 h3 h4) ?_
  have I1:Inv X pins σ H { s with heap:=s.heap.push { cls:=.type "range",data:=.fields #[.int lo t,.int hi u,.int 1 v] },toks:=tk }:=I.kept fun b o e=>Heap.get?_push_of_some _ e
  refine ⟨(s.heap.push { cls:=.type "range",data:=.fields #[.int lo t,.int hi u,.int 1 v] }).objs.size,[(s.heap.push { cls:=.type "range",data:=.fields #[.int lo t,.int hi u,.int 1 v] }).objs.size],_,_,H,rfl,
    I1.kept (t':=tk) fun b o e=>Heap.get?_push_of_some _ e,turn_range _ lo (hi - lo).toNat,?_,fun b hb=>?_,q⟩
  · have e1:lo + ((0:Nat):Int) * 1=lo:=by simp
    have e2:(((hi - lo).toNat:Nat):Int) - ((0:Nat):Int)=Builtin.Range.rangeSize lo hi 1:=by rw [rangeSize_one];split<;>omega
    show IsRangeIter _ _ (lo + ((0:Nat):Int) * 1) ((((hi - lo).toNat:Nat):Int) - ((0:Nat):Int)) 1
    rw [e1,e2]
    exact Heap.get?_push_size _ rfl
  · have e:b=(s.heap.push { cls:=.type "range",data:=.fields #[.int lo t,.int hi u,.int 1 v] }).objs.size:=by simpa using hb
    subst e
    exact I1.fpOk (Nat.le_refl _) (I1.hok.fresh (Nat.le_refl _))
def iRng1 (ta:TA):TI:=fun σ H R=>ta σ H fun vs H1=>∃ j:Int,vs=[.int j]∧-(2 ^ 62)≤j∧j < 2 ^ 62∧R (Itr 0 j.toNat) H1
def iRng2 (ta:TA):TI:=fun σ H R=>ta σ H fun vs H1=>∃ i j:Int,vs=[.int i,.int j]∧(-(2 ^ 62)≤i∧i < 2 ^ 62∧-(2 ^ 62)≤j∧j < 2 ^ 62)∧R (Itr i (j - i).toNat) H1
theorem pi_range1 {a:Expr}{ta:TA}{p pos:Pos}(hg:Gl X "range") (hm:X.mg "range"=none) (ha:PA X [a] ta) (hs:starEach [a] X.env=[(false,eval a X.env)]:=by rfl):PI X tg (.Call (.Name "range" p) [a] [] pos) (iRng1 ta):=by
  intro pins s σ H R I h
  refine Call_ (ld_blt I hg hm boot_range (PyProof.Rows.callWith_type1 (thn (ha pos pins s σ H _ I h) fun us s1 ⟨vs,H1,I1,r1,q1⟩=>?_) hs rfl))
  obtain ⟨j,e,q1,q2,q⟩:=q1
  subst e
  cases r1 with
  | cons r rr =>
    cases rr
    obtain ⟨t,rfl⟩:=r
    exact call_range_1 (range_it I1 (by omega) (by omega) q1 q2 (by simpa using q))
theorem pi_range2 {a b:Expr}{ta:TA}{p pos:Pos}(hg:Gl X "range") (hm:X.mg "range"=none) (ha:PA X [a,b] ta) (hs:starEach [a,b] X.env=[(false,eval a X.env),(false,eval b X.env)]:=by rfl) (hs2:starEach [b] X.env=[(false,eval b X.env)]:=by rfl) :
    PI X tg (.Call (.Name "range" p) [a,b] [] pos) (iRng2 ta):=by
  intro pins s σ H R I h
  refine Call_ (ld_blt I hg hm boot_range (PyProof.Rows.callWith_type1 (thn (ha pos pins s σ H _ I h) fun us s1 ⟨vs,H1,I1,r1,q1⟩=>?_) (by rw [hs,hs2]) (by rw [hs2];rfl)))
  obtain ⟨i,j,e,⟨q1,q2,q3,q4⟩,q⟩:=q1
  subst e
  cases r1 with
  | cons r rr =>
    cases rr with
    | cons r' rr =>
      cases rr
      obtain ⟨t,rfl⟩:=r
      obtain ⟨t',rfl⟩:=r'
      exact call_range_2 (range_it I1 q1 q2 q3 q4 q)
def tFor (wi:TI) (g:TG) (tb:TS):TS:=fun D σ H=>wi σ H fun J H1=>∃ W:Nat→Nat→St→Hp→Prop,(∃ m,W 0 m σ H1)∧∀ i m σ H,W i m σ H →
  (J.stop i H∧D.nx σ H)∨(J.go i H∧∃ N:St→Hp→Prop,(∀ σ' H',N σ' H'→∃ m',m' < m∧W (i + 1) m' σ' H')∧∀ x H',J.yld i H x H'→g x σ H' fun σ2 H2=>tb { D with nx:=N,ct:=N,bk:=D.nx } σ2 H2)
def pinsAt (fp:List Addr) (h:Heap):List (Addr×Obj):=fp.filterMap fun b=>(h.get? b).map fun o=>(b,o)
theorem mem_pinsAt {fp:List Addr}{h:Heap}{b:Addr}{o:Obj}(hb:b∈fp) (e:h.get? b=some o):(b,o)∈pinsAt fp h:=List.mem_filterMap.mpr ⟨b,hb,by rw [e];rfl⟩
theorem of_pinsAt {fp:List Addr}{h:Heap}{p:Addr×Obj}(hp:p∈pinsAt fp h):p.1∈fp∧h.get? p.1=some p.2:=by
  obtain ⟨b,hb,e⟩:=List.mem_filterMap.mp hp
  cases q:h.get? b with
  | none=>rw [q] at e;cases e
  | some o =>
    rw [q] at e
    have e':(b,o)=p:=Option.some.inj e
    subst e'
    exact ⟨hb,q⟩
theorem Inv.pinned {pins:List (Addr×Obj)}{σ:St}{H:Hp}{s:Shared}{fp:List Addr}(I:Inv X pins σ H s) (hf:∀ b∈fp,FpOk X pins H b) (ho:∀ b∈fp,∃ o,s.heap.get? b=some o∧∀ v,o.data≠.cell v):Inv X (pins ++ pinsAt fp s.heap) σ H s :=
  I.pins_of fun p hp=>(List.mem_append.mp hp).elim (fun z=>I.pin p (List.mem_append_right _ z)) fun z=>by
    obtain ⟨hb,e⟩:=of_pinsAt z
    obtain ⟨f0,f1,f2,_⟩:=hf p.1 hb
    obtain ⟨o,e',d⟩:=ho p.1 hb
    rw [e] at e';cases e'
    exact ⟨e,f0,f1,f2,d⟩
theorem Inv.unpinned {pins pl:List (Addr×Obj)}{σ:St}{H:Hp}{s:Shared}(I:Inv X (pins ++ pl) σ H s):Inv X pins σ H s:=I.pins_of fun p hp=>I.pin p (List.mem_append_right _ (List.mem_append_left _ hp))
theorem ps_for {iter:Expr}{body:List Stmt}{wi:TI}{g:TG}{tb:TS}{pos:Pos}(hp:PassesOwn (model X.prog X.w) X.A X.env X.xe) (hc:X.calm=true) (hi:PI X tg iter wi) (hg:PG X tg g) (hb:PSs X body tb)
    (hs:∀ x,foldedSetIterable iter X.env x=pure x:=by intro _;rfl):PS X (.For tg iter body [] pos) (tFor wi g tb):=by
  intro pins s σ H D I h
  refine wpAny_For (thn (hi pins s σ H _ I h) fun v s1 h1=>thn h1 fun itv s2 h2=>?_) hs
  obtain ⟨it,fp,tn,J,H2,e,I2,T,st2,f2,W,⟨m0,w0⟩,turn⟩:=h2
  subst e
  have stat:∀ {H':Hp},(∀ b∈fp,H' b=none)→∀ b∈fp,FpOk X pins H' b:=fun hn b hb=>⟨hn b hb,(f2 b hb).2⟩
  refine codeAny_forLoop_any (fun n s'=>∃ i σ' H',Inv X pins σ' H' s'∧tn i s'.heap∧(∀ b∈fp,H' b=none)∧W i n σ' H') ?_ m0 ⟨0,σ,H2,I2,st2,fun b hb=>(f2 b hb).1,w0⟩
  rintro n s3 ⟨i,σ3,H3,I3,st3,fr3,w3⟩
  rcases turn i n σ3 H3 w3 with ⟨stop,qn⟩ | ⟨go,N,hN,step⟩
  · refine wpAny_passesOwn hp (thn (T.done X rfl rfl rfl hc i pins s3 σ3 H3 X.xe I3 (stat fr3) st3 stop) fun r s4 ⟨hr,I4⟩=>?_)
    subst hr
    exact wpAny_execs_nil ⟨σ3,H3,I4,qn⟩
  · refine wpAny_passesOwn hp (thn (T.item X rfl rfl rfl hc i pins s3 σ3 H3 X.xe I3 (stat fr3) st3 go) fun r s4 ⟨u,hr,h4⟩=>?_)
    subst hr
    refine wpAny_passesOwn hp (thn h4 fun _ s5 ⟨x,H5,I5,r5,y5,st5,fr5⟩=>?_)
    have I5':=I5.pinned (stat fr5) (T.obj _ _ st5)
    refine wpAny_passesOwn hp (thn (hg _ s5 σ3 H5 x u _ I5' r5 (step x H5 y5)) fun _ s6 ⟨σ6,H6,I6,q6⟩=>?_)
    refine wpAny_passesOwn hp (thn (hb _ s6 σ6 H6 _ I6 q6) fun f s7 q7=>?_)
    have again:∀ {σ7:St} {H7:Hp},Inv X (pins ++ pinsAt fp s5.heap) σ7 H7 s7→N σ7 H7→∃ m,m < n∧∃ i σ' H',Inv X pins σ' H' s7∧tn i s7.heap∧(∀ b∈fp,H' b=none)∧W i m σ' H':=fun {σ7 H7} I7 n7=>by
      obtain ⟨m',hm,w7⟩:=hN σ7 H7 n7
      refine ⟨m',hm,i + 1,σ7,H7,I7.unpinned,T.keep _ _ _ st5 fun b hb o e=>(I7.pin (b,o) (List.mem_append_right _ (List.mem_append_right _ (mem_pinsAt hb e)))).1,fun b hb=>?_,w7⟩
      obtain ⟨o,e,d⟩:=T.obj _ _ st5 b hb
      exact (I7.pin (b,o) (List.mem_append_right _ (List.mem_append_right _ (mem_pinsAt hb e)))).2.1
    cases f with
    | next=>obtain ⟨σ7,H7,I7,n7⟩:=q7;exact again I7 n7
    | cont=>obtain ⟨σ7,H7,I7,n7⟩:=q7;exact again I7 n7
    | brk=>obtain ⟨σ7,H7,I7,q7⟩:=q7;exact ⟨σ7,H7,I7.unpinned,q7⟩
    | ret v=>obtain ⟨x7,σ7,H7,I7,r7,q7⟩:=q7;exact ⟨x7,σ7,H7,I7.unpinned,r7,q7⟩
end
theorem for_list {K:PySem.W.Frag}{a:Addr}{xs:List V}{g:TG}{tb:TS}{D:Ends}{σ:St}{H:Hp}(Pv:Nat→St→Hp→Prop) (h0:Pv 0 σ H) (hl:∀ i σ H,i≤xs.length→Pv i σ H→SqL K H a xs)
    (hs:∀ i x σ H,xs[i]?=some x→Pv i σ H→g x σ H fun σ2 H2=>tb { D with nx:=Pv (i + 1),ct:=Pv (i + 1),bk:=D.nx } σ2 H2) (hd:∀ σ H,Pv xs.length σ H→D.nx σ H) :
    ∃ W:Nat→Nat→St→Hp→Prop,(∃ m,W 0 m σ H)∧∀ i m σ H,W i m σ H →
      ((Itl K a).stop i H∧D.nx σ H)∨((Itl K a).go i H∧∃ N:St→Hp→Prop,(∀ σ' H',N σ' H'→∃ m',m' < m∧W (i + 1) m' σ' H')∧∀ x H',(Itl K a).yld i H x H'→g x σ H' fun σ2 H2=>tb { D with nx:=N,ct:=N,bk:=D.nx } σ2 H2):=by
  refine ⟨fun i m σ H=>m=xs.length - i∧i≤xs.length∧Pv i σ H,⟨xs.length,by simp,Nat.zero_le _,h0⟩,?_⟩
  rintro i m σ H ⟨rfl,hi,p⟩
  have q:=hl i σ H hi p
  by_cases hlt:i < xs.length
  · refine .inr ⟨⟨xs,xs[i],q,by simp [hlt]⟩,Pv (i + 1),fun σ' H' p'=>⟨xs.length - (i + 1),by omega,rfl,hlt,p'⟩,fun x H' y=>?_⟩
    obtain ⟨e,y⟩:=y
    subst e
    exact hs i x σ _ (y xs q) p
  · have e:i=xs.length:=by omega
    subst e
    exact .inl ⟨⟨xs,q,Nat.le_refl _⟩,hd σ H p⟩
theorem for_tup {K:PySem.W.Frag}{a:Addr}{xs:List V}{g:TG}{tb:TS}{D:Ends}{σ:St}{H:Hp}(Pv:Nat→St→Hp→Prop) (h0:Pv 0 σ H) (hl:∀ i σ H,i≤xs.length→Pv i σ H→SqT K H a xs)
    (hs:∀ i x σ H,xs[i]?=some x→Pv i σ H→g x σ H fun σ2 H2=>tb { D with nx:=Pv (i + 1),ct:=Pv (i + 1),bk:=D.nx } σ2 H2) (hd:∀ σ H,Pv xs.length σ H→D.nx σ H) :
    ∃ W:Nat→Nat→St→Hp→Prop,(∃ m,W 0 m σ H)∧∀ i m σ H,W i m σ H →
      ((Itt K a).stop i H∧D.nx σ H)∨((Itt K a).go i H∧∃ N:St→Hp→Prop,(∀ σ' H',N σ' H'→∃ m',m' < m∧W (i + 1) m' σ' H')∧∀ x H',(Itt K a).yld i H x H'→g x σ H' fun σ2 H2=>tb { D with nx:=N,ct:=N,bk:=D.nx } σ2 H2):=by
  refine ⟨fun i m σ H=>m=xs.length - i∧i≤xs.length∧Pv i σ H,⟨xs.length,by simp,Nat.zero_le _,h0⟩,?_⟩
  rintro i m σ H ⟨rfl,hi,p⟩
  have q:=hl i σ H hi p
  by_cases hlt:i < xs.length
  · refine .inr ⟨⟨xs,xs[i],q,by simp [hlt]⟩,Pv (i + 1),fun σ' H' p'=>⟨xs.length - (i + 1),by omega,rfl,hlt,p'⟩,fun x H' y=>?_⟩
    obtain ⟨e,y⟩:=y
    subst e
    exact hs i x σ _ (y xs q) p
  · have e:i=xs.length:=by omega
    subst e
    exact .inl ⟨⟨xs,q,Nat.le_refl _⟩,hd σ H p⟩
theorem for_range {lo:Int}{n:Nat}{g:TG}{tb:TS}{D:Ends}{σ:St}{H:Hp}(Pv:Nat→St→Hp→Prop) (h0:Pv 0 σ H)
    (hs:∀ i σ H,i < n→Pv i σ H→g (.int (lo + i)) σ H fun σ2 H2=>tb { D with nx:=Pv (i + 1),ct:=Pv (i + 1),bk:=D.nx } σ2 H2) (hd:∀ σ H,Pv n σ H→D.nx σ H) :
    ∃ W:Nat→Nat→St→Hp→Prop,(∃ m,W 0 m σ H)∧∀ i m σ H,W i m σ H →
      ((Itr lo n).stop i H∧D.nx σ H)∨((Itr lo n).go i H∧∃ N:St→Hp→Prop,(∀ σ' H',N σ' H'→∃ m',m' < m∧W (i + 1) m' σ' H')∧∀ x H',(Itr lo n).yld i H x H'→g x σ H' fun σ2 H2=>tb { D with nx:=N,ct:=N,bk:=D.nx } σ2 H2):=by
  refine ⟨fun i m σ H=>m=n - i∧i≤n∧Pv i σ H,⟨n,by simp,Nat.zero_le _,h0⟩,?_⟩
  rintro i m σ H ⟨rfl,hi,p⟩
  by_cases hlt:i < n
  · refine .inr ⟨hlt,Pv (i + 1),fun σ' H' p'=>⟨n - (i + 1),by omega,rfl,hlt,p'⟩,fun x H' y=>?_⟩
    obtain ⟨e,y⟩:=y
    subst e y
    exact hs i σ _ hlt p
  · have e:i=n:=by omega
    subst e
    exact .inl ⟨Nat.le_refl _,hd σ H p⟩
end L2
namespace L2
open PySem PySem.Spec PyProof.Rows
abbrev R2:=V→V→Hp→VK→Prop
def OpR (X:Cx) (f:Value→Value→Sem Value) (r:R2):Prop :=
  ∀ (pins:List (Addr×Obj)) (s:Shared) (σ:St) (H:Hp) (x y:V) (v u:Value) (Q:VK),Inv X pins σ H s→RelV x v→RelV y u→r x y H Q →
    wpAny (model X.prog X.w) X.A (f v u) (EP X pins σ Q) X.xe s
def UnR (X:Cx) (f:Value→Sem Value) (r:V→Hp→VK→Prop):Prop :=
  ∀ (pins:List (Addr×Obj)) (s:Shared) (σ:St) (H:Hp) (x:V) (v:Value) (Q:VK),Inv X pins σ H s→RelV x v→r x H Q →
    wpAny (model X.prog X.w) X.A (f v) (EP X pins σ Q) X.xe s
def CallR (X:Cx) (f:Value) (r:List V→Hp→VK→Prop):Prop :=
  ∀ (pins:List (Addr×Obj)) (s:Shared) (σ:St) (H:Hp) (xs:List V) (us:List Value) (Q:VK),Inv X pins σ H s→Vals xs us→r xs H Q →
    wpAny (model X.prog X.w) X.A (call f us) (EP X pins σ Q) X.xe s
def tOp (r:R2) (ta tb:TE):TE:=fun σ H Q=>ta σ H fun x H1=>tb σ H1 fun y H2=>r x y H2 Q
def tUn (r:V→Hp→VK→Prop) (ta:TE):TE:=fun σ H Q=>ta σ H fun x H1=>r x H1 Q
def rI (C:Int→Int→Prop) (g:Int→Int→V):R2:=fun x y H Q=>∃ i j,x=.int i∧y=.int j∧C i j∧Q (g i j) H
def rI0 (g:Int→Int→V):R2:=fun x y H Q=>∃ i j,x=.int i∧y=.int j∧Q (g i j) H
def rU (g:Int→V):V→Hp→VK→Prop:=fun x H Q=>∃ i,x=.int i∧Q (g i) H
section
variable {X:Cx}{a b c:Expr}{ta tb tc:TE}{pos:Pos}
theorem binT (ha:PE X a ta) (hb:PE X b tb) {pins:List (Addr×Obj)}{s:Shared}{σ:St}{H:Hp}{R:V→V→Hp→Prop}(I:Inv X pins σ H s)
    (h:ta σ H fun x H1=>tb σ H1 fun y H2=>R x y H2) {Q:Value→Shared→Prop} {f:Value→Value→Sem Value}
    (hf:∀ v u s2 x y H2,Inv X pins σ H2 s2→RelV x v→RelV y u→R x y H2→wpAny (model X.prog X.w) X.A (f v u) Q X.xe s2) :
    wpAny (model X.prog X.w) X.A (eval a X.env) (fun v s₁=>wpAny (model X.prog X.w) X.A (eval b X.env) (fun u s₂=>wpAny (model X.prog X.w) X.A (f v u) Q X.xe s₂) X.xe s₁) X.xe s:=by
  refine thn (ha pins s σ H _ I h) fun v s1 ⟨x,H1,I1,r1,q1⟩=>?_
  refine thn (hb pins s1 σ H1 _ I1 q1) fun u s2 ⟨y,H2,I2,r2,q2⟩=>?_
  exact hf v u s2 x y H2 I2 r1 r2 q2
theorem pe_op {op:Operator}{r:R2}(ho:OpR X (binaryOp op) r) (ha:PE X a ta) (hb:PE X b tb):PE X (.BinOp a op b pos) (tOp r ta tb):=by
  intro pins s σ H Q I h
  exact wpAny_BinOp (binT ha hb I h fun v u s2 x y H2 I2 rx ry q=>ho pins s2 σ H2 x y v u Q I2 rx ry q)
theorem pe_un {op:UnaryOp}{r:V→Hp→VK→Prop}(ho:UnR X (unaryOp op) r) (ha:PE X a ta):PE X (.UnaryOp op a pos) (tUn r ta):=by
  intro pins s σ H Q I h
  exact UnaryOp_ (thn (ha pins s σ H _ I h) fun v s1 ⟨x,H1,I1,r1,q1⟩=>ho pins s1 σ H1 x v Q I1 r1 q1)
theorem opI {f:Value→Value→Sem Value}{C:Int→Int→Prop}{g:Int→Int→Int}
    (rule:∀ (i j:Int) (t u:Tok) (s:Shared) (Q:Value→Shared→Prop) (E:Value→Shared→Prop),C i j→Q (.int (g i j) s.toks) { s with toks:=s.toks + 1 }→wpAny (model X.prog X.w) X.A (f (.int i t) (.int j u)) Q E s) :
    OpR X f (rI C fun i j=>.int (g i j)):=by
  intro pins s σ H x y v u Q I rx ry h
  obtain ⟨i,j,rfl,rfl,hc,q⟩:=h
  obtain ⟨t,rfl⟩:=rx
  obtain ⟨t',rfl⟩:=ry
  exact rule i j t t' s _ _ hc ⟨.int (g i j),H,I.tok _,⟨_,rfl⟩,q⟩
theorem opI0 {f:Value→Value→Sem Value}{g:Int→Int→Int}
    (rule:∀ (i j:Int) (t u:Tok) (s:Shared) (Q:Value→Shared→Prop) (E:Value→Shared→Prop),Q (.int (g i j) s.toks) { s with toks:=s.toks + 1 }→wpAny (model X.prog X.w) X.A (f (.int i t) (.int j u)) Q E s) :
    OpR X f (rI0 fun i j=>.int (g i j)):=by
  intro pins s σ H x y v u Q I rx ry h
  obtain ⟨i,j,rfl,rfl,q⟩:=h
  obtain ⟨t,rfl⟩:=rx
  obtain ⟨t',rfl⟩:=ry
  exact rule i j t t' s _ _ ⟨.int (g i j),H,I.tok _,⟨_,rfl⟩,q⟩
theorem opB0 {f:Value→Value→Sem Value}{g:Int→Int→Bool}
    (rule:∀ (i j:Int) (t u:Tok) (s:Shared) (Q:Value→Shared→Prop) (E:Value→Shared→Prop),Q (.bool (g i j)) s→wpAny (model X.prog X.w) X.A (f (.int i t) (.int j u)) Q E s) :
    OpR X f (rI0 fun i j=>.bl (g i j)):=by
  intro pins s σ H x y v u Q I rx ry h
  obtain ⟨i,j,rfl,rfl,q⟩:=h
  obtain ⟨t,rfl⟩:=rx
  obtain ⟨t',rfl⟩:=ry
  exact rule i j t t' s _ _ ⟨.bl (g i j),H,I,rfl,q⟩
def CDiv (i j:Int):Prop:=0 < j∧j < 1073741824
def CPow (i j:Int):Prop:=0≤j∧j≤1000000∧i.natAbs < 2 ^ 64
def CMul (i j:Int):Prop:=(-(2 ^ 64) < i∧i < 2 ^ 64)∨(-(2 ^ 64) < j∧j < 2 ^ 64)
theorem CMul.ok {i j:Int}(h:CMul i j):IntMulOk i j:=by
  rcases h with ⟨h1,h2⟩ | ⟨h1,h2⟩
  · exact .of_left (intBits_le_64 h1 h2)
  · exact .of_right (intBits_le_64 h1 h2)
theorem op_add:OpR X (binaryOp .Add) (rI0 fun i j=>.int (i + j)):=opI0 fun _ _ _ _ _ _ _ q=>add_int q
theorem op_sub:OpR X (binaryOp .Sub) (rI0 fun i j=>.int (i - j)):=opI0 fun _ _ _ _ _ _ _ q=>sub_int q
theorem op_mul:OpR X (binaryOp .Mult) (rI CMul fun i j=>.int (i * j)):=opI fun _ _ _ _ _ _ _ hc q=>mul_int q hc.ok
theorem op_fdiv:OpR X (binaryOp .FloorDiv) (rI CDiv fun i j=>.int (i / j)):=opI fun i j _ _ _ _ _ hc q=>by
  have h1:(0:Int) < j:=hc.1
  have h2:j < 1073741824:=hc.2
  exact floordiv_int (by omega) (by rw [Int.fdiv_eq_ediv_of_nonneg i (by omega)];exact q) (.inl (PyProof.noPylong_small (by omega)))
theorem op_mod:OpR X (binaryOp .Mod) (rI (fun _ j=>0 < j) fun i j=>.int (i % j)):=opI fun i j _ _ _ _ _ hc q=>by
  have h1:(0:Int) < j:=hc
  exact mod_int' (by omega) (by rw [Int.fmod_eq_emod_of_nonneg i (by omega)];exact q)
theorem op_pow:OpR X (binaryOp .Pow) (rI CPow fun i j=>.int (i ^ j.toNat)):=opI fun _ _ _ _ _ _ _ hc q=>pow_int_small hc.1 hc.2.1 hc.2.2 q
theorem op_shl:OpR X (binaryOp .LShift) (rI CPow fun i j=>.int (i * 2 ^ j.toNat)):=opI fun _ _ _ _ _ _ _ hc q=>lshift_int_small hc.1 hc.2.1 hc.2.2 q
theorem op_or:OpR X (binaryOp .BitOr) (rI0 fun i j=>.int (Builtin.bitOr i j)):=opI0 fun _ _ _ _ _ _ _ q=>or_int q
theorem unI {f:Value→Sem Value}{g:Int→Int}
    (rule:∀ (i:Int) (t:Tok) (s:Shared) (Q:Value→Shared→Prop) (E:Value→Shared→Prop),Q (.int (g i) s.toks) { s with toks:=s.toks + 1 }→wpAny (model X.prog X.w) X.A (f (.int i t)) Q E s) :
    UnR X f (rU fun i=>.int (g i)):=by
  intro pins s σ H x v Q I rx h
  obtain ⟨i,rfl,q⟩:=h
  obtain ⟨t,rfl⟩:=rx
  exact rule i t s _ _ ⟨.int (g i),H,I.tok _,⟨_,rfl⟩,q⟩
theorem un_neg:UnR X (unaryOp .USub) (rU fun i=>.int (-i)):=unI fun _ _ _ _ _ q=>neg_int q
end
def scal:V→V→Bool
  | .non,.non=>true | .non,.int _=>true | .int _,.non=>true | .non,.bl _=>true | .bl _,.non=>true | .non,.str _=>true | .str _,.non=>true
  | .int _,.int _=>true | .bl _,.bl _=>true | .str _,.str _=>true | .byt _,.byt _=>true
  | .int _,.str _=>true | .str _,.int _=>true | .bl _,.str _=>true | .str _,.bl _=>true
  | _,_=>false
def rEq:R2:=fun x y H Q=>scal x y=true∧Q (.bl (decide (x=y))) H
def rNe:R2:=fun x y H Q=>scal x y=true∧Q (.bl (!decide (x=y))) H
theorem dec_int {i j:Int}:decide (V.int i=V.int j)=(i == j):=by
  rw [Bool.eq_iff_iff]
  simp
theorem dec_bl {i j:Bool}:decide (V.bl i=V.bl j)=(i == j):=by
  rw [Bool.eq_iff_iff]
  simp
theorem dec_str {i j:Str}:decide (V.str i=V.str j)=(i == j):=by
  rw [Bool.eq_iff_iff]
  simp
theorem dec_byt {i j:Array UInt8}:decide (V.byt i=V.byt j)=(i.toList == j.toList):=by
  rw [Bool.eq_iff_iff]
  cases i
  cases j
  simp
section
variable {X:Cx}{a b c:Expr}{ta tb tc:TE}{pos:Pos}
theorem fin_bl {pins:List (Addr×Obj)}{σ:St}{H:Hp}{s:Shared}{Q:VK}{k k':Bool}(I:Inv X pins σ H s) (q:Q (.bl k) H) (e:k=k'):EP X pins σ Q (.bool k') s:=by
  subst e
  exact ⟨.bl k,H,I,rfl,q⟩
theorem op_eq:OpR X (compareOp .Eq) rEq:=by
  intro pins s σ H x y v u Q I rx ry h
  obtain ⟨hs,q⟩:=h
  cases x with
  | non =>
    cases rx
    cases y with
    | non=>cases ry;exact PySem.EqNone.eq_none_none (fin_bl I q (by simp))
    | bl j=>cases ry;exact PySem.EqNone.eq_none_bool (fin_bl I q (by simp))
    | int j=>obtain ⟨t',rfl⟩:=ry;exact PySem.EqNone.eq_none_int (fin_bl I q (by simp))
    | str j=>obtain ⟨t',rfl⟩:=ry;exact PySem.EqNone.eq_none_str (fin_bl I q (by simp))
    | _=>exact absurd (show false=true from hs) Bool.false_ne_true
  | bl i =>
    cases rx
    cases y with
    | non=>cases ry;exact PySem.EqNone.eq_bool_none (fin_bl I q (by simp))
    | bl j=>cases ry;exact eq_bool (fin_bl I q dec_bl)
    | str j=>obtain ⟨t',rfl⟩:=ry;exact PySem.EqMixed.eq_bool_str (fin_bl I q (by simp))
    | _=>exact absurd (show false=true from hs) Bool.false_ne_true
  | int i =>
    obtain ⟨t,rfl⟩:=rx
    cases y with
    | non=>cases ry;exact PySem.EqNone.eq_int_none (fin_bl I q (by simp))
    | int j=>obtain ⟨t',rfl⟩:=ry;exact eq_int (fin_bl I q dec_int)
    | str j=>obtain ⟨t',rfl⟩:=ry;exact PySem.EqMixed.eq_int_str (fin_bl I q (by simp))
    | _=>exact absurd (show false=true from hs) Bool.false_ne_true
  | str i =>
    obtain ⟨t,rfl⟩:=rx
    cases y with
    | non=>cases ry;exact PySem.EqNone.eq_str_none (fin_bl I q (by simp))
    | bl j=>cases ry;exact PySem.EqMixed.eq_str_bool (fin_bl I q (by simp))
    | int j=>obtain ⟨t',rfl⟩:=ry;exact PySem.EqMixed.eq_str_int (fin_bl I q (by simp))
    | str j=>obtain ⟨t',rfl⟩:=ry;exact eq_str (fin_bl I q dec_str)
    | _=>exact absurd (show false=true from hs) Bool.false_ne_true
  | byt i =>
    obtain ⟨t,rfl⟩:=rx
    cases y with
    | byt j=>obtain ⟨t',rfl⟩:=ry;exact PySem.W.eq_bytes (fin_bl I q dec_byt)
    | _=>exact absurd (show false=true from hs) Bool.false_ne_true
  | _=>cases y<;>exact absurd (show false=true from hs) Bool.false_ne_true
theorem op_ne:OpR X (compareOp .NotEq) rNe:=by
  intro pins s σ H x y v u Q I rx ry h
  obtain ⟨hs,q⟩:=h
  cases x with
  | non =>
    cases rx
    cases y with
    | non=>cases ry;exact PySem.EqNone.ne_none_none (fin_bl I q (by simp))
    | bl j=>cases ry;exact PySem.EqNone.ne_none_bool (fin_bl I q (by simp))
    | int j=>obtain ⟨t',rfl⟩:=ry;exact PySem.EqNone.ne_none_int (fin_bl I q (by simp))
    | str j=>obtain ⟨t',rfl⟩:=ry;exact PySem.EqNone.ne_none_str (fin_bl I q (by simp))
    | _=>exact absurd (show false=true from hs) Bool.false_ne_true
  | bl i =>
    cases rx
    cases y with
    | non=>cases ry;exact PySem.EqNone.ne_bool_none (fin_bl I q (by simp))
    | bl j=>cases ry;exact ne_bool (fin_bl I q (congrArg not dec_bl))
    | str j=>obtain ⟨t',rfl⟩:=ry;exact PySem.EqMixed.ne_bool_str (fin_bl I q (by simp))
    | _=>exact absurd (show false=true from hs) Bool.false_ne_true
  | int i =>
    obtain ⟨t,rfl⟩:=rx
    cases y with
    | non=>cases ry;exact PySem.EqNone.ne_int_none (fin_bl I q (by simp))
    | int j=>obtain ⟨t',rfl⟩:=ry;exact ne_int (fin_bl I q (congrArg not dec_int))
    | str j=>obtain ⟨t',rfl⟩:=ry;exact PySem.EqMixed.ne_int_str (fin_bl I q (by simp))
    | _=>exact absurd (show false=true from hs) Bool.false_ne_true
  | str i =>
    obtain ⟨t,rfl⟩:=rx
    cases y with
    | non=>cases ry;exact PySem.EqNone.ne_str_none (fin_bl I q (by simp))
    | bl j=>cases ry;exact PySem.EqMixed.ne_str_bool (fin_bl I q (by simp))
    | int j=>obtain ⟨t',rfl⟩:=ry;exact PySem.EqMixed.ne_str_int (fin_bl I q (by simp))
    | str j=>obtain ⟨t',rfl⟩:=ry;exact ne_str (fin_bl I q (congrArg not dec_str))
    | _=>exact absurd (show false=true from hs) Bool.false_ne_true
  | byt i =>
    obtain ⟨t,rfl⟩:=rx
    cases y with
    | byt j=>obtain ⟨t',rfl⟩:=ry;exact PySem.W.ne_bytes (fin_bl I q (congrArg not dec_byt))
    | _=>exact absurd (show false=true from hs) Bool.false_ne_true
  | _=>cases y<;>exact absurd (show false=true from hs) Bool.false_ne_true
theorem op_lt:OpR X (compareOp .Lt) (rI0 fun i j=>.bl (decide (i < j))):=opB0 fun _ _ _ _ _ _ _ q=>lt_int q
theorem op_le:OpR X (compareOp .LtE) (rI0 fun i j=>.bl (decide (i≤j))):=opB0 fun _ _ _ _ _ _ _ q=>le_int q
theorem op_gt:OpR X (compareOp .Gt) (rI0 fun i j=>.bl (decide (j < i))):=opB0 fun _ _ _ _ _ _ _ q=>gt_int q
theorem op_isN:OpR X (compareOp .Is) (fun x y H Q=>y=.non∧Q (.bl (decide (x=.non))) H):=by
  intro pins s σ H x y v u Q I rx ry h
  obtain ⟨rfl,q⟩:=h
  cases ry
  refine is_none_gen (fin_bl I q ?_)
  cases x<;>first
    | (cases rx;rfl)
    | (obtain ⟨t,rfl⟩:=rx;rfl)
theorem op_notN:OpR X (compareOp .IsNot) (fun x y H Q=>y=.non∧Q (.bl (!decide (x=.non))) H):=by
  intro pins s σ H x y v u Q I rx ry h
  obtain ⟨rfl,q⟩:=h
  cases ry
  refine isnot_none_gen (fin_bl I q ?_)
  cases x<;>first
    | (cases rx;rfl)
    | (obtain ⟨t,rfl⟩:=rx;rfl)
theorem nomark (b:Expr) {op:CmpOp}(h:op≠.In:=by decide) (h2:op≠.NotIn:=by decide):behindInMarks op b=false:=by
  have e1:(op == CmpOp.In)=false:=by cases op<;>first | rfl | exact absurd rfl h
  have e2:(op == CmpOp.NotIn)=false:=by cases op<;>first | rfl | exact absurd rfl h2
  cases b<;>simp [behindInMarks,e1,e2]
theorem pe_cmpR {op:CmpOp}{r:R2}(ho:OpR X (compareOp op) r) (ha:PE X a ta) (hb:PE X b tb) (hm:behindInMarks op b=false):PE X (.Compare a [op] [b] pos) (tOp r ta tb):=by
  intro pins s σ H Q I h
  exact wpAny_Compare1 (binT ha hb I h fun v u s2 x y H2 I2 rx ry q=>ho pins s2 σ H2 x y v u Q I2 rx ry q) hm
def tTest (t:TE):TT:=fun σ H Q=>t σ H fun x H'=>∃ k,x=.bl k∧Q k H'
theorem pt_cmpR {op:CmpOp}{r:R2}(ho:OpR X (compareOp op) r) (ha:PE X a ta) (hb:PE X b tb) (hm:behindInMarks op b=false):PT X (.Compare a [op] [b] pos) (tTest (tOp r ta tb)):=by
  intro pins s σ H Q I h
  refine wpAny_isTrue_Compare1 (thn (ha pins s σ H _ I h) fun v s1 ⟨x,H1,I1,r1,q1⟩=>thn (hb pins s1 σ H1 _ I1 q1) fun u s2 ⟨y,H2,I2,r2,q2⟩ =>
    thn (ho pins s2 σ H2 x y v u _ I2 r1 r2 q2) fun c s3 ⟨z,H3,I3,r3,k,e,q3⟩=>?_) hm
  subst e
  cases r3
  exact wpAny_truthy_bool ⟨H3,I3,q3⟩
def tChain (r r':R2) (ta tb tc:TE):TE:=fun σ H Q=>ta σ H fun x H1=>tb σ H1 fun y H2=>r x y H2 fun z H3=>∃ k,z=.bl k ∧
  (if k=true then tc σ H3 fun w' H4=>r' y w' H4 Q else Q (.bl false) H3)
theorem pt_chain {op op':CmpOp}{r r':R2}(ho:OpR X (compareOp op) r) (ho':OpR X (compareOp op') r') (ha:PE X a ta) (hb:PE X b tb) (hc:PE X c tc)
    (hm:lastMarks [op,op'] [b,c]=false:=by with_unfolding_all rfl):PT X (.Compare a [op,op'] [b,c] pos) (tTest (tChain r r' ta tb tc)):=by
  intro pins s σ H Q I h
  refine isTrue_chain (thn (ha pins s σ H _ I h) fun v s1 ⟨x,H1,I1,r1,q1⟩=>test_link (thn (hb pins s1 σ H1 _ I1 q1) fun u s2 ⟨y,H2,I2,r2,q2⟩ =>
    thn (ho pins s2 σ H2 x y v u _ I2 r1 r2 q2) fun d s3 ⟨z,H3,I3,r3,k,e,q3⟩=>?_)) hm
  subst e
  cases r3
  refine wpAny_truthy_bool ?_
  cases k with
  | false =>
    obtain ⟨k',e',q'⟩:=q3
    cases e'
    exact ite_ff ⟨H3,I3,q'⟩
  | true =>
    refine ite_tt (test_last (thn (hc pins s3 σ H3 _ I3 q3) fun w' s4 ⟨z',H4,I4,r4,q4⟩=>thn (ho' pins s4 σ H4 y z' u w' _ I4 r2 r4 q4) fun d' s5 ⟨z2,H5,I5,r5,k2,e2,q5⟩=>?_))
    subst e2
    cases r5
    exact wpAny_truthy_bool ⟨H5,I5,q5⟩
theorem line63:(sizeLine:Nat) < 2 ^ 63:=by rw [sizeLine_eq];decide
theorem vals1 {x:V}{us:List Value}(r:Vals [x] us):∃ u,us=[u]∧RelV x u:=by
  cases r with
  | cons r1 r2=>cases r2;exact ⟨_,rfl,r1⟩
theorem vals2 {x y:V}{us:List Value}(r:Vals [x,y] us):∃ u w',us=[u,w']∧RelV x u∧RelV y w':=by
  cases r with
  | cons r1 r2 =>
    cases r2 with
    | cons r3 r4=>cases r4;exact ⟨_,_,rfl,r1,r3⟩
theorem call_max2 (hc:X.calm=true):CallR X (.builtin "max") (fun xs H Q=>∃ i j,xs=[.int i,.int j]∧Q (.int (if j > i then j else i)) H):=by
  intro pins s σ H xs us Q I r h
  obtain ⟨i,j,rfl,q⟩:=h
  obtain ⟨u,w',rfl,⟨t,rfl⟩,⟨t',rfl⟩⟩:=vals2 r
  refine max_two_ints (I.ok.hd hc) fun h' tk k=>⟨_,H,I.kept k,?_,q⟩
  by_cases hj:j > i
  · rw [if_pos hj,if_pos hj];exact ⟨_,rfl⟩
  · rw [if_neg hj,if_neg hj];exact ⟨_,rfl⟩
theorem call_int1:CallR X (.type "int") (fun xs H Q=>(∃ i,xs=[.int i]∧Q (.int i) H)∨∃ k,xs=[.bl k]∧Q (.int (if k then 1 else 0)) H):=by
  intro pins s σ H xs us Q I r h
  rcases h with ⟨i,rfl,q⟩ | ⟨k,rfl,q⟩
  · obtain ⟨u,rfl,t,rfl⟩:=vals1 r
    exact call_int_int ⟨.int i,H,I,⟨_,rfl⟩,q⟩
  · obtain ⟨u,rfl,r1⟩:=vals1 r
    cases r1
    exact call_int_bool ⟨.int (if k then 1 else 0),H,I.tok _,⟨_,rfl⟩,q⟩
theorem call_divmod:CallR X (.builtin "divmod") (fun xs H Q=>∃ i j,xs=[.int i,.int j]∧CDiv i j∧∀ p,H p=none→Q (.ref p) (upd H p (.tup [.int (i / j),.int (i % j)]))):=by
  intro pins s σ H xs us Q I r h
  obtain ⟨i,j,rfl,⟨h1,h2⟩,q⟩:=h
  obtain ⟨u,w',rfl,⟨t,rfl⟩,⟨t',rfl⟩⟩:=vals2 r
  refine divmod_int (by omega) ?_ (.inl (PyProof.noPylong_small (by omega)))
  rw [Int.fdiv_eq_ediv_of_nonneg i (by omega),Int.fmod_eq_emod_of_nonneg i (by omega)]
  have hn:H s.heap.objs.size=none:=I.hok.fresh (Nat.le_refl _)
  refine ⟨.ref s.heap.objs.size,_,?_,rfl,q _ hn⟩
  refine I.laid (fun b o e=>Heap.get?_push_of_some _ e) (Nat.le_refl _) ⟨by simp only [List.length_cons,List.length_nil];rw [sizeLine_eq];decide,[.int (i / j) s.toks,.int (i % j) (s.toks + 1)],.cons ⟨_,rfl⟩ (.cons ⟨_,rfl⟩ .nil),?_⟩
  exact ⟨_,Heap.get?_push_size s.heap rfl,rfl,0,rfl⟩
end
end L2
namespace L2
open PySem PySem.Spec PyProof.Rows
structure ObjM (h:Heap) (x dx C:Addr) (mA:Str→Option Value):Prop where
  obj:h.get? x=some (PySem.W.instObj C dx)
  ns:h.Ns1 dx mA
  ne:dx≠x
theorem lookIn_ns {h:Heap}{dx:Addr}{mA:Str→Option Value}(n:h.Ns1 dx mA):∃ od,h.get? dx=some od∧∀ name,PySem.W.lookIn name od=some (mA name):=by
  obtain ⟨o,es,ep,ho,hd,hk,_,hm⟩:=n
  refine ⟨o,ho,fun name=>?_⟩
  have e:=hm name
  unfold nsFind findBy at e
  rw [← Array.find?_toList] at e
  unfold PySem.W.lookIn
  rw [hd]
  dsimp only
  split
  · rename_i y q
    rw [q] at e
    exact congrArg some e
  · rename_i q
    rw [q] at e
    have a:es.toList.any (·.refKey)=false:=by
      rw [List.any_eq_false]
      intro y hy
      obtain ⟨z,t,hkey⟩:=hk y (Array.mem_toList_iff.mp hy)
      simp [DictEntry.refKey,hkey]
    have a':¬ es.toList.any (·.refKey)=true:=by rw [a];exact Bool.false_ne_true
    rw [if_neg a']
    exact congrArg some e
theorem ObjM.look {h:Heap}{x dx C:Addr}{mA:Str→Option Value}(I:ObjM h x dx C mA):∃ od,PySem.W.InstAt h x (PySem.W.instObj C dx) C (some od)∧∀ name,PySem.W.lookIn name od=some (mA name) :=
  let ⟨od,ho,hl⟩:=lookIn_ns I.ns
  ⟨od,⟨I.obj,rfl,rfl,ho⟩,hl⟩
section
variable {prog:Program}{w:World}{A:Around}{E:Value→Shared→Prop}{s:Shared}{K:PySem.W.Frag}{x dx C f:Addr}{mA:Str→Option Value}{name:Str}{v:Value}
theorem get_map {expr:Bool}{Q:Value→Shared→Prop}(X:K.In s.heap) (I:ObjM s.heap x dx C mA) (hg:PySem.W.plainGet K C name=true) (hh:PySem.W.hasDictIn K C=true)
    (ha:PySem.W.findIn K (.ref C) name=some none) (hv:mA name=some v) (hv':PySem.W.handedIn v=true) (h:Q v { s with toks:=s.toks + 1 }) :
    wpAny (model prog w) A (getAttr (.ref x) name expr) Q E s:=by
  obtain ⟨od,J,hl⟩:=I.look
  exact PySem.W.get_value X J (PySem.W.plainGet_of hg).1 (PySem.W.findObj_own hh ha rfl (by rw [hl,hv])) hv' h
theorem get_meth {pl:Sem Bool}{Q:Value×List Value→Shared→Prop}(X:K.In s.heap) (I:ObjM s.heap x dx C mA) (hg:PySem.W.plainGet K C name=true)
    (hf:PySem.W.findIn K (.ref C) name=some (some (.ref f))) (ht:PySem.W.isFn K (.ref f)=true) (hv:mA name=none) (h:Q (.ref f,[.ref x]) s) :
    wpAny (model prog w) A (getMethod (.ref x) name pl) Q E s:=by
  obtain ⟨od,J,hl⟩:=I.look
  exact PySem.W.method_fn X J (PySem.W.plainGet_of hg).1 (PySem.W.plainGet_of hg).2 hf (beq_iff_eq.mp ht) (by show (PySem.W.lookIn name od).map (·.isSome)=some false;rw [hl,hv];rfl) h
theorem set_map {ns:List Str}{Q:Unit→Shared→Prop}(X:K.In s.heap) (I:ObjM s.heap x dx C mA)
    (hs:PySem.W.findIn K (.ref C) "__setattr__"=some (some (.builtin "object.__setattr__"))) (hp:PySem.W.plainOver K C=true) (ht:PySem.W.takerIn K C name=some none) (hh:PySem.W.hasDictIn K C=true)
    (hw:PySem.Within mA ns) (hsz:ns.length≤sizeLine)
    (h:∀ h',ObjM h' x dx C (fun y=>if y=name then some v else mA y)→Heap.SameBut dx s.heap h'→Q () { s with heap:=h',toks:=s.toks + 2 }) :
    wpAny (model prog w) A (setAttr (.ref x) name v) Q E s:=by
  obtain ⟨od,J,hl⟩:=I.look
  refine PySem.W.set_plain X J hs (PySem.W.osa_open (s:={ s with toks:=s.toks + 1 }) (r:=none) X J hp ht fun b=>?_)
  obtain ⟨cd,hc,hd'⟩:=PySem.W.any_some hh
  have hx:s.heap.get? x=some ⟨.ref C,some dx,.plain,#[]⟩:=I.obj
  refine wpAny_bind (wpAny_pure (wpAny_bind (wpAny_bind (wpAny_loadPart hx (wpAny_bind (PySem.W.Looks.here (s:={ s with toks:=s.toks + 1 }) (PySem.W.looks_clsIn X hc) ?_))))))
  rw [hd']
  refine wpAny_pure (a:=some dx) (wpAny_bind (wpAny_pure (wpAny_bind ?_)))
  refine wpAny_nsSet1 (s:={ s with toks:=s.toks + 1 }) I.ns fun h' hn2 hs2=>?_
  obtain ⟨oD,esD,epD,hoD,hdD,hcD⟩:=hn2.count (PySem.Within.cons name v hw)
  refine wpAny_bind (wpAny_lookBehind hoD (by rw [hdD];exact pastItsLine_dict (Nat.le_trans hcD (by rw [List.length_cons];omega))) ?_)
  exact wpAny_pure (h _ ⟨(hs2.2 _ (Ne.symm I.ne)).trans I.obj,hn2,I.ne⟩ hs2)
theorem make_map {R:Result→Shared→Prop}{vs:List Value}{kw:List (Str×Value)}(X:K.In s.heap) (hm:PySem.W.makesIn K C=true)
    (hi:PySem.W.findIn K (.ref C) "__init__"=some (some (.ref f))) (hf:PySem.W.typeIn K (.ref f)=some (.type "function"))
    (h:codeAny (model prog w) (A.under (.builtin "type.__call__" ⟨.ref C :: vs,kw⟩)) (.call (.ref f) ⟨.ref (s.heap.objs.size + 1) :: vs,kw⟩) (PySem.W.InitBack (s.heap.objs.size + 1) R)
      { s with heap:=(s.heap.push PySem.W.emptyDict).push (PySem.W.instObj C s.heap.objs.size) }) :
    codeAny (model prog w) A (.call (.ref C) ⟨vs,kw⟩) R s:=by
  obtain ⟨hh,g,d,t,os⟩:=s
  exact PySem.W.make_core (PySem.W.makes_of X hm) (PySem.W.looks_findIn X hi) (fun self=>PySem.W.bind_fn X self hf) (.inl rfl) h
end
def putF (f:Str) (v:V):List (Str×V)→List (Str×V)
  | []=>[(f,v)]
  | (g,x) :: r=>if g=f then (g,v) :: r else (g,x) :: putF f v r
theorem lookup_putF (f g:Str) (v:V):∀ fs:List (Str×V),(putF f v fs).lookup g=if g=f then some v else fs.lookup g
  | []=>by
    show List.lookup g [(f,v)]=_
    by_cases h:g=f
    · have hb:(g == f)=true:=beq_iff_eq.mpr h
      simp only [List.lookup,hb,if_pos h]
    · have hb:(g == f)=false:=beq_eq_false_iff_ne.mpr h
      simp only [List.lookup,hb,if_neg h]
  | (k,x) :: r=>by
    have ih:=lookup_putF f g v r
    rw [show putF f v ((k,x) :: r)=(if k=f then (k,v) :: r else (k,x) :: putF f v r) from rfl]
    by_cases hk:k=f
    · rw [if_pos hk]
      by_cases h:g=k
      · have hb:(g == k)=true:=beq_iff_eq.mpr h
        simp only [List.lookup,hb,if_pos (h.trans hk)]
      · have hb:(g == k)=false:=beq_eq_false_iff_ne.mpr h
        simp only [List.lookup,hb,if_neg (fun e:g=f=>h (e.trans hk.symm))]
    · rw [if_neg hk]
      by_cases h:g=k
      · have hb:(g == k)=true:=beq_iff_eq.mpr h
        simp only [List.lookup,hb,if_neg (fun e:g=f=>hk (h.symm.trans e))]
      · have hb:(g == k)=false:=beq_eq_false_iff_ne.mpr h
        simp only [List.lookup,hb]
        exact ih
theorem keys_putF (f:Str) (v:V):∀ fs:List (Str×V),f∈(putF f v fs).map (·.1)∧∀ g,g∈fs.map (·.1)→g∈(putF f v fs).map (·.1)
  | []=>⟨by simp [putF],fun g h=>by simp at h⟩
  | (k,x) :: r=>by
    obtain ⟨i1,i2⟩:=keys_putF f v r
    rw [show putF f v ((k,x) :: r)=(if k=f then (k,v) :: r else (k,x) :: putF f v r) from rfl]
    by_cases hk:k=f
    · rw [if_pos hk]
      subst hk
      exact ⟨by simp,fun g h=>by simpa using h⟩
    · rw [if_neg hk]
      refine ⟨?_,fun g h=>?_⟩
      · rw [List.map_cons]
        exact List.mem_cons_of_mem _ i1
      · rw [List.map_cons] at h ⊢
        rcases List.mem_cons.mp h with e | e
        · exact List.mem_cons.mpr (.inl e)
        · exact List.mem_cons_of_mem _ (i2 g e)
theorem length_putF (f:Str) (v:V):∀ fs:List (Str×V),(putF f v fs).length≤fs.length + 1
  | []=>by simp [putF]
  | (k,x) :: r=>by
    have ih:=length_putF f v r
    rw [show putF f v ((k,x) :: r)=(if k=f then (k,v) :: r else (k,x) :: putF f v r) from rfl]
    by_cases hk:k=f
    · rw [if_pos hk,List.length_cons,List.length_cons];omega
    · rw [if_neg hk,List.length_cons,List.length_cons];omega
theorem RelO.some_of {v:V}{o:Option Value}(r:RelO (some v) o):∃ u,o=some u∧RelV v u:=by
  cases o with
  | none=>exact (show False from r).elim
  | some u=>exact ⟨u,rfl,r⟩
theorem RelO.none_of {o:Option Value}(r:RelO none o):o=none:=by
  cases o with
  | none=>rfl
  | some u=>exact (show False from r).elim
theorem handed_of {v:V}{u:Value}(r:RelV v u):PySem.W.handedIn u=true:=by
  cases v with
  | non=>cases (show u=Value.none from r);rfl
  | bl b=>cases (show u=Value.bool b from r);rfl
  | int i=>obtain ⟨t,e⟩:=(show ∃ t,u=Value.int i t from r);cases e;rfl
  | str x=>obtain ⟨t,e⟩:=(show ∃ t,u=Value.str x t from r);cases e;rfl
  | byt b=>obtain ⟨t,e⟩:=(show ∃ t,u=Value.bytes b t from r);cases e;rfl
  | flt b=>obtain ⟨t,e⟩:=(show ∃ t,u=Value.float b t from r);cases e;rfl
  | ref a=>cases (show u=Value.ref a from r);rfl
  | ty n=>cases (show u=Value.type n from r);rfl
section
variable {P:Program}{w:World}{H H':Hp}{h h':Heap}{a C dx:Addr}{fs fs':List (Str×V)}
theorem ins_get (hok:HOk P w H h) (e:H a=some (.ins C dx fs)):∃ mA,ObjM h a dx C mA∧(∀ f,RelO (fs.lookup f) (mA f))∧PySem.Within mA (fs.map (·.1))∧fs.length≤1000∧H dx=some (.own a):=by
  obtain ⟨d,z,ne,ob,mA,n,r,q⟩:=(show ObjOk P w H h a (.ins C dx fs) from hok a _ e)
  exact ⟨mA,⟨ob,n,ne⟩,r,q,z,d⟩
end
structure Cls (K:PySem.W.Frag) (C:Addr):Prop where
  pg:PySem.W.plainGet K C Str.empty=true
  hd:PySem.W.hasDictIn K C=true
  po:PySem.W.plainOver K C=true
  sa:PySem.W.findIn K (.ref C) "__setattr__"=some (some (.builtin "object.__setattr__"))
theorem Cls.get {K:PySem.W.Frag}{C:Addr}(c:Cls K C) (f:Str):PySem.W.plainGet K C f=true:=c.pg
def NoAttr (K:PySem.W.Frag) (C:Addr) (f:Str):Prop:=PySem.W.findIn K (.ref C) f=some none
theorem NoAttr.taker {K:PySem.W.Frag}{C:Addr}{f:Str}(n:NoAttr K C f):PySem.W.takerIn K C f=some none:=by
  unfold PySem.W.takerIn
  rw [show PySem.W.findIn K (.ref C) f=some none from n]
  rfl
structure Meth (K:PySem.W.Frag) (C:Addr) (m:Str) (f:Addr):Prop where
  at_:PySem.W.findIn K (.ref C) m=some (some (.ref f))
  fn:PySem.W.isFn K (.ref f)=true
  kp:PySem.W.keepIn K (.ref f)=true
section
variable {X:Cx}{pins:List (Addr×Obj)}{σ:St}{H:Hp}{s:Shared}{a C dx:Addr}{fs:List (Str×V)}{f:Str}{v:V}{A:Around}{E:Value→Shared→Prop}
theorem getattr_ok {b:Bool}{Q:Value→Shared→Prop}(I:Inv X pins σ H s) (e:H a=some (.ins C dx fs)) (c:Cls X.K C) (n:NoAttr X.K C f) (l:fs.lookup f=some v)
    (h:∀ u s',Inv X pins σ H s'→RelV v u→Q u s'):wpAny (model X.prog X.w) A (getAttr (.ref a) f b) Q E s:=by
  obtain ⟨mA,O,r,_,_,_⟩:=ins_get I.hok e
  obtain ⟨u,hu,ru⟩:=RelO.some_of (v:=v) (o:=mA f) (by rw [← l];exact r f)
  exact get_map I.kIn O (c.get f) c.hd n hu (handed_of ru) (h u _ (I.tok _) ru)
theorem getmeth_ok {m:Str}{g:Addr}{pl:Sem Bool}{Q:Value×List Value→Shared→Prop}(I:Inv X pins σ H s) (e:H a=some (.ins C dx fs)) (c:Cls X.K C) (k:Meth X.K C m g) (l:fs.lookup m=none)
    (h:Q (.ref g,[.ref a]) s):wpAny (model X.prog X.w) A (getMethod (.ref a) m pl) Q E s:=by
  obtain ⟨mA,O,r,_,_,_⟩:=ins_get I.hok e
  have hn:mA m=none:=RelO.none_of (by rw [← l];exact r m)
  exact get_meth I.kIn O (c.get m) k.at_ k.fn hn h
theorem setattr_ok {y:V}{u:Value}{Q:Unit→Shared→Prop}(I:Inv X pins σ H s) (e:H a=some (.ins C dx fs)) (c:Cls X.K C) (n:NoAttr X.K C f) (hl:fs.length < 1000) (ry:RelV y u)
    (h:∀ s',Inv X pins σ (upd H a (.ins C dx (putF f y fs))) s'→Q () s'):wpAny (model X.prog X.w) A (setAttr (.ref a) f u) Q E s:=by
  obtain ⟨mA,O,r,wi,_,ho⟩:=ins_get I.hok e
  have hz:(fs.map (·.1)).length≤sizeLine:=by rw [List.length_map,sizeLine_eq];omega
  refine set_map I.kIn O c.sa c.po n.taker c.hd wi hz fun h' O' sb=>h _ ?_
  have hd:∃ o,h'.get? dx=some o:=let ⟨o,_,_,e',_⟩:=O'.ns;⟨o,e'⟩
  refine I.write (x:=a) (e:=dx) (by rw [e];exact True.intro) (.inr ho) (fun b q hb z=>(sb.2 b hb).trans z) hd ?_
  refine ⟨by rw [upd_ne O.ne];exact ho,?_,O.ne,O'.obj,_,O'.ns,fun g=>?_,fun g hg=>?_⟩
  · have:=length_putF f y fs;omega
  · show RelO ((putF f y fs).lookup g) (if g=f then some u else mA g)
    rw [lookup_putF]
    by_cases q:g=f
    · rw [if_pos q,if_pos q];exact ry
    · rw [if_neg q,if_neg q];exact r g
  · by_cases q:g=f
    · rw [q];exact (keys_putF f y fs).1
    · refine (keys_putF f y fs).2 g (wi g fun z=>hg ?_)
      show (if g=f then some u else mA g)=none
      rw [if_neg q];exact z
theorem Inv.made (I:Inv X pins σ H s):Inv X pins σ (upd (upd H s.heap.objs.size (.own (s.heap.objs.size + 1))) (s.heap.objs.size + 1) (.ins C s.heap.objs.size []))
    { s with heap:=(s.heap.push PySem.W.emptyDict).push (PySem.W.instObj C s.heap.objs.size) }:=by
  have e1:(s.heap.push PySem.W.emptyDict).get? s.heap.objs.size=some PySem.W.emptyDict:=Heap.get?_push_size s.heap rfl
  have e2:((s.heap.push PySem.W.emptyDict).push (PySem.W.instObj C s.heap.objs.size)).get? (s.heap.objs.size + 1)=some (PySem.W.instObj C s.heap.objs.size):=by
    have:=Heap.get?_push_size (s.heap.push PySem.W.emptyDict) (o:=PySem.W.instObj C s.heap.objs.size) rfl
    rwa [Heap.size_push] at this
  have e3:(s.heap.push PySem.W.emptyDict).Ns s.heap.objs.size (fun _=>none):=⟨PySem.W.emptyDict,#[],_,e1,rfl,(fun e he=>absurd he (by simp)),fun _=>rfl⟩
  have I1:=I.laid (a:=s.heap.objs.size) (o:=.own (s.heap.objs.size + 1)) (h':=s.heap.push PySem.W.emptyDict) (t':=s.toks) (fun b u q=>Heap.get?_push_of_some _ q) (Nat.le_refl _) ⟨_,e1⟩
  refine I1.laid (a:=s.heap.objs.size + 1) (o:=.ins C s.heap.objs.size []) (t':=s.toks) (fun b u q=>Heap.get?_push_of_some _ q) (Nat.le_of_eq (Heap.size_push _ _)) ?_
  have ne:s.heap.objs.size≠s.heap.objs.size + 1:=Nat.ne_of_lt (Nat.lt_succ_self _)
  refine ⟨by rw [upd_ne ne,upd_same],Nat.zero_le _,ne,e2,fun _=>none,(Heap.Ns1.of_empty e3).at fun o q=>Heap.get?_push_of_some _ q,fun _=>True.intro,fun y hy=>absurd rfl hy⟩
theorem attr_of {prog:Program}{w:World}{env:Env}{e:Expr}{f:Str}{pos:Pos}{s:Shared}{Q:Value→Shared→Prop}(hb:attributeBase e f env (eval e env)=eval e env)
    (h:wpAny (model prog w) A (eval e env) (fun o s₁=>wpAny (model prog w) A (getAttr o f true) Q E s₁) E s):wpAny (model prog w) A (eval (.Attribute e f pos) env) Q E s :=
  Attribute_any_ h (by rw [arm_eval_Attribute,hb])
end
def tFld (K:PySem.W.Frag) (ta:TE) (f:Str):TE:=fun σ H Q=>ta σ H fun x H1=>∃ a C dx fs v,x=.ref a∧H1 a=some (.ins C dx fs)∧Cls K C∧NoAttr K C f∧fs.lookup f=some v∧Q v H1
def sFld (K:PySem.W.Frag) (ta tv:TE) (f:Str):TS:=fun D σ H=>tv σ H fun y H1=>ta σ H1 fun x H2=>∃ a C dx fs,x=.ref a∧H2 a=some (.ins C dx fs)∧Cls K C∧NoAttr K C f∧fs.length < 1000 ∧
  D.nx σ (upd H2 a (.ins C dx (putF f y fs)))
section
variable {X:Cx}{o e value:Expr}{f:Str}{pos pos' tpos:Pos}{ta tv:TE}
theorem pe_fld (he:PE X e ta) (hb:attributeBase e f X.env (eval e X.env)=eval e X.env):PE X (.Attribute e f pos) (tFld X.K ta f):=by
  intro pins s σ H Q I h
  refine attr_of hb (thn (he pins s σ H _ I h) fun u s1 ⟨x,H1,I1,rx,a,C,dx,fs,v,ex,ea,c,n,l,q⟩=>?_)
  subst ex
  obtain rfl:u=Value.ref a:=rx
  exact getattr_ok I1 ea c n l fun u' s2 I2 ru=>⟨v,H1,I2,ru,q⟩
theorem ps_fld (ha:PE X o ta) (hv:PE X value tv) (hs:swapsWith value (some (.Attribute o f pos')) pos.line X.env=pure false):PS X (.Assign [.Attribute o f pos'] value pos) (sFld X.K ta tv f):=by
  intro pins s σ H D I h
  refine plainObj_wpAny_Assign_Attribute (thn (hv pins s σ H _ I h) fun u s1 ⟨y,H1,I1,ry,q⟩=>thn (ha pins s1 σ H1 _ I1 q) fun ov s2 ⟨x,H2,I2,rx,a,C,dx,fs,ex,ea,c,n,l,q2⟩=>?_) hs
  subst ex
  obtain rfl:ov=Value.ref a:=rx
  exact setattr_ok I2 ea c n l ry fun s3 I3=>⟨σ,_,I3,q2⟩
end
section
variable {X:Cx}{pins:List (Addr×Obj)}{σ:St}{H:Hp}{s:Shared}{A:Around}{E:Value→Shared→Prop}{Q:Value→Shared→Prop}{c:Value}{b:Bool}
inductive TyOf (K:PySem.W.Frag) (H:Hp):V→Value→Prop where
  | non:TyOf K H .non (.type "NoneType")
  | bl (x:Bool):TyOf K H (.bl x) (.type "bool")
  | int (i:Int):TyOf K H (.int i) (.type "int")
  | str (x:Str):TyOf K H (.str x) (.type "str")
  | flt (x:UInt64):TyOf K H (.flt x) (.type "float")
  | lst {a:Addr} {xs:List V} (e:H a=some (.lst xs)):TyOf K H (.ref a) (.type "list")
  | frz {a:Addr} {o:Obj} {xs:List V} (e:H a=some (.frz o (.lst xs))):TyOf K H (.ref a) (.type "list")
  | tup {a:Addr} {xs:List V} (e:H a=some (.tup xs)):TyOf K H (.ref a) (.type "tuple")
  | dK {a:Addr} {kvs:List (Key×V)} (e:H a=some (.dK kvs)):TyOf K H (.ref a) (.type "dict")
  | dT {a:Addr} {kvs:List (List Key×V)} (e:H a=some (.dT kvs)):TyOf K H (.ref a) (.type "dict")
  | ins {a C dx:Addr} {fs:List (Str×V)} (e:H a=some (.ins C dx fs)) (cl:Cls K C) (ha:PySem.W.findIn K (.ref C) "__class__"=some (some (.builtin "object.__class__")))
      (hn:PySem.W.specialIn K (.builtin "object.__class__") "__get__"=some (some (.builtin "getset_descriptor.__get__"))) (htk:PySem.W.takesIn K (.builtin "object.__class__")=some true)
      (hm:PySem.W.mroIn K C (.type "object")=some true):TyOf K H (.ref a) (.ref C)
theorem isinst_ok {x:V} {u t:Value} (I:Inv X pins σ H s) (rx:RelV x u) (ty:TyOf X.K H x t) (e:PySem.W.kitOne X.K t c=some b) (h:∀ tk,Q (.bool b) { s with toks:=tk }) :
    wpAny (model X.prog X.w) A (call (.builtin "isinstance") [u,c]) Q E s:=by
  cases ty with
  | non=>cases (show u=Value.none from rx);exact PySem.W.kia_one PySem.W.kitx_none I.kIn True.intro e (fun z=>nomatch z) h
  | bl y=>cases (show u=Value.bool y from rx);exact PySem.W.kia_one PySem.W.kitx_bool I.kIn True.intro e (fun z=>nomatch z) h
  | int i=>obtain ⟨t,q⟩:=(show ∃ t,u=Value.int i t from rx);cases q;exact PySem.W.kia_one PySem.W.kitx_int I.kIn True.intro e (fun z=>nomatch z) h
  | str y=>obtain ⟨t,q⟩:=(show ∃ t,u=Value.str y t from rx);cases q;exact PySem.W.kia_one PySem.W.kitx_str I.kIn True.intro e (fun z=>nomatch z) h
  | flt y=>obtain ⟨t,q⟩:=(show ∃ t,u=Value.float y t from rx);cases q;exact PySem.W.kia_one PySem.W.kitx_float I.kIn True.intro e (fun z=>nomatch z) h
  | @lst a xs ea =>
    cases (show u=Value.ref a from rx)
    obtain ⟨_,_,n,_,h1⟩:=(show ObjOk X.prog X.w H s.heap a (.lst xs) from I.hok a _ ea)
    exact PySem.W.kia_one PySem.W.kitx_list I.kIn ⟨_,h1,rfl⟩ e (fun z=>nomatch z) h
  | @frz a ob xs ea =>
    cases (show u=Value.ref a from rx)
    obtain ⟨_,_,_,n,_,h1⟩:=(show ObjOk X.prog X.w H s.heap a (.frz ob (.lst xs)) from I.hok a _ ea)
    exact PySem.W.kia_one PySem.W.kitx_list I.kIn ⟨_,h1,rfl⟩ e (fun z=>nomatch z) h
  | @tup a xs ea =>
    cases (show u=Value.ref a from rx)
    obtain ⟨_,_,_,p⟩:=(show ObjOk X.prog X.w H s.heap a (.tup xs) from I.hok a _ ea)
    obtain ⟨o,h1,h2,_⟩:=p
    exact PySem.W.kia_one PySem.W.kitx_tuple I.kIn ⟨o,h1,h2⟩ e (fun z=>nomatch z) h
  | @dK a kvs ea =>
    cases (show u=Value.ref a from rx)
    obtain ⟨_,_,vs,_,p⟩:=(show ObjOk X.prog X.w H s.heap a (.dK kvs) from I.hok a _ ea)
    obtain ⟨o,es,ep,h1,h2,_⟩:=p
    exact PySem.W.kia_one PySem.W.kitx_dict I.kIn ⟨o,h1,h2.1⟩ e (fun z=>nomatch z) h
  | @dT a kvs ea =>
    cases (show u=Value.ref a from rx)
    obtain ⟨_,_,xs,_,o,es,ep,h1,h2,_⟩:=(show ObjOk X.prog X.w H s.heap a (.dT kvs) from I.hok a _ ea)
    exact PySem.W.kia_one PySem.W.kitx_dict I.kIn ⟨o,h1,h2.1⟩ e (fun z=>nomatch z) h
  | @ins a C dx fs ea cl ha hn htk hm =>
    cases (show u=Value.ref a from rx)
    obtain ⟨mA,O,_⟩:=ins_get I.hok ea
    obtain ⟨od,J,_⟩:=O.look
    exact PySem.W.kia_one (PySem.W.kitx_own (cl.get _) cl.hd ha hn htk hm) I.kIn J e (fun z=>nomatch z) h
end
end L2
namespace L2
open PySem PySem.Spec PyProof.Rows
structure Room (k:Nat) (A:Around):Prop where
  hd:A.handled=none
  dp:A.depth + 3 * k + 5 < recursionLimit
  un:A.units + 16 * k + 200 < cLine
theorem Room.mono {j k:Nat}{A:Around}(r:Room k A) (h:j≤k):Room j A:=⟨r.hd,by have:=r.dp;omega,by have:=r.un;omega⟩
theorem Room.deeper {k:Nat}{A:Around}(r:Room (k + 1) A) (env:Env):Room k (A.deeper env) :=
  ⟨r.hd,by have:=r.dp;show A.depth + 1 + 3 * k + 5 < _;omega,by have:=r.un;show A.units + 3 + 16 * k + 200 < _;omega⟩
theorem Room.in1 {k:Nat}{A:Around}(r:Room (k + 1) A):Room k A.in1 :=
  ⟨r.hd,by have:=r.dp;show A.depth + 3 * k + 5 < _;omega,by have:=r.un;show A.units + 1 + 16 * k + 200 < _;omega⟩
theorem make_depth {A:Around}{C:Addr}{us:List Value}{kw:List (Str×Value)}:(A.under (.builtin "type.__call__" ⟨.ref C :: us,kw⟩)).depth=A.depth + 1:=by
  first | rfl | simp [Around.under,Code.weight,Code.isCreation,Code.isGuard,Code.isCaller,Code.frames,Code.isFrame,guardIds]
theorem make_units {A:Around}{C:Addr}{us:List Value}{kw:List (Str×Value)}:(A.under (.builtin "type.__call__" ⟨.ref C :: us,kw⟩)).units=A.units + 1:=by
  first | rfl | simp [Around.under,Code.cUnits,Code.frames,Code.isFrame]
theorem Room.make {k:Nat}{A:Around}(r:Room (k + 1) A) (C:Addr) (us:List Value) (kw:List (Str×Value)):Room k (A.under (.builtin "type.__call__" ⟨.ref C :: us,kw⟩)) :=
  ⟨r.hd,by have:=r.dp;rw [make_depth];omega,by have:=r.un;rw [make_units];omega⟩
theorem Room.depth {k:Nat}{A:Around}(r:Room k A):A.depth < recursionLimit:=by have:=r.dp;omega
theorem Room.units {k:Nat}{A:Around}(r:Room k A):A.units + 64 < cLine:=by have:=r.un;omega
def tNil:TA:=fun _ H Q=>Q [] H
def tCons (ta:TE) (tr:TA):TA:=fun σ H Q=>ta σ H fun x H1=>tr σ H1 fun xs H2=>Q (x :: xs) H2
section
variable {X:Cx}{e:Expr}{es:List Expr}{te:TE}{t:TA}{pos:Pos}
theorem pa_nil:PA X [] tNil:=fun _ _ _ _ H Q I h=>Calls.spliced_nil ⟨[],H,I,.nil,h⟩
theorem pa_cons (ha:PE X e te) (hr:PA X es t) (hs:starEach (e :: es) X.env=(false,eval e X.env) :: starEach es X.env:=by rfl):PA X (e :: es) (tCons te t):=by
  intro pos pins s σ H Q I h
  rw [hs]
  show wpAny _ _ (spliced ((false,eval e X.env) :: backTo pos (starEach es X.env))) _ _ s
  refine Calls.spliced_cons (thn (ha pins s σ H _ I h) fun u s1 ⟨x,H1,I1,r1,q1⟩=>?_)
  exact thn (hr pos pins s1 σ H1 _ I1 q1) fun us s2 ⟨xs,H2,I2,r2,q2⟩=>⟨x :: xs,H2,I2,.cons r1 r2,q2⟩
def tTup (t:TA):TE:=fun σ H Q=>t σ H fun xs H1=>xs.length≤sizeLine∧∀ p,H1 p=none→Q (.ref p) (upd H1 p (.tup xs))
def tLst (t:TA):TE:=fun σ H Q=>t σ H fun xs H1=>xs.length≤sizeLine∧∀ p,H1 p=none→Q (.ref p) (upd H1 p (.lst xs))
theorem pe_tup {x1}(h:PA X es t):PE X (.Tuple es x1 pos) (tTup t):=by
  intro pins s σ H Q I hq
  refine wpAny_Tuple_spliced (thn (h pos pins s σ H _ I hq) fun us s1 ⟨xs,H1,I1,r,z,q⟩=>⟨by rw [← r.length];exact z,?_⟩)
  have hf:H1 s1.heap.objs.size=none:=I1.hok.fresh (Nat.le_refl _)
  refine ⟨.ref s1.heap.objs.size,upd H1 s1.heap.objs.size (.tup xs),I1.laid (t':=s1.toks) (fun b u e=>Heap.get?_push_of_some _ e) (Nat.le_refl _) ?_,rfl,q _ hf⟩
  exact ⟨z,us,r,⟨_,Heap.get?_push_size _ rfl,rfl,_,rfl⟩⟩
theorem pe_lst (h:PA X es t):PE X (.List es pos) (tLst t):=by
  intro pins s σ H Q I hq
  refine wpAny_List_spliced (thn (h pos pins s σ H _ I hq) fun us s1 ⟨xs,H1,I1,r,z,q⟩=>⟨by rw [← r.length];exact z,?_⟩)
  have hf:H1 s1.heap.objs.size=none:=I1.hok.fresh (Nat.le_refl _)
  refine ⟨.ref s1.heap.objs.size,upd H1 s1.heap.objs.size (.lst xs),I1.laid (t':=s1.toks) (fun b u e=>Heap.get?_push_of_some _ e) (Nat.le_refl _) ?_,rfl,q _ hf⟩
  exact ⟨z,us,0,r,Heap.get?_push_size _ rfl⟩
end
abbrev Sp:=List V→Hp→VK→XK→Prop
abbrev CXT:=List Env→Hp→Shared→XK→Value→Shared→Prop
structure Env0 (P:Program) (w:World) (K:PySem.W.Frag) (mg:Str→Option Value) (base:Heap) (A:Around) (outer:List Env) (s:Shared) (H:Hp):Prop where
  frames:A.frames=some outer
  mod:Mod K mg base
  bs:∀ b o,base.get? b=some o→s.heap.get? b=some o∧H b=none
  bsz:base.objs.size≤s.heap.objs.size
  funs:s.heap.FunFrames base outer
  frf:∀ b∈frs outer,H b=none
  hok:HOk P w H s.heap
  bare:AllBare s.gens
def CE (outer:List Env) (P:Program) (w:World) (H:Hp) (s:Shared) (Q:VK) (u:Value) (s':Shared):Prop :=
  ∃ v H',s'.os=s.os∧AllBare s'.gens∧Un (frs outer) [] H H' s.heap s'.heap∧HOk P w H' s'.heap∧RelV v u∧Q v H'
def CR (CX:CXT) (outer:List Env) (P:Program) (w:World) (H:Hp) (s:Shared) (Q:VK) (E:XK) (r:Result) (s':Shared):Prop :=
  match r with
  | .ok (.ret u)=>CE outer P w H s Q u s'
  | .ok _=>False
  | .error e=>CX outer H s E e s'
structure FnOk (P:Program) (w:World) (K:PySem.W.Frag) (mg:Str→Option Value) (base:Heap) (CX:CXT) (k:Nat) (f:Addr) (fd:FuncData) (ps:List Str) (sp:Sp):Prop where
  len:∀ vs H Q E,sp vs H Q E→vs.length=ps.length
  run:∀ (A:Around) (outer:List Env) (s:Shared) (H:Hp) (args:Args) (us:List Value) (vs:List V) (Q:VK) (E:XK),Room k A→Env0 P w K mg base A outer s H→BindsTo s fd args (ps.zip us)→Vals vs us→sp vs H Q E →
    codeAny (model P w) A (.call (.ref f) args) (CR CX outer P w H s Q E) s
theorem FnOk.imp {P:Program}{w:World}{K:PySem.W.Frag}{mg:Str→Option Value}{base:Heap}{CX:CXT}{k:Nat}{f:Addr}{fd:FuncData}{ps:List Str}{sp sp':Sp}(F:FnOk P w K mg base CX k f fd ps sp)
    (h:∀ vs H Q E,sp' vs H Q E→sp vs H Q E):FnOk P w K mg base CX k f fd ps sp' :=
  ⟨fun vs H Q E q=>F.len vs H Q E (h _ _ _ _ q),fun A outer s H args us vs Q E hr he hb hv hs=>F.run A outer s H args us vs Q E hr he hb hv (h _ _ _ _ hs)⟩
theorem Env0.make {P:Program}{w:World}{K:PySem.W.Frag}{mg:Str→Option Value}{base:Heap}{A:Around}{outer:List Env}{s:Shared}{H:Hp}(e:Env0 P w K mg base A outer s H) (C:Addr) (us:List Value) (kw:List (Str×Value)) :
    Env0 P w K mg base (A.under (.builtin "type.__call__" ⟨.ref C :: us,kw⟩)) outer s H:=⟨by first | exact e.frames | (simpa [Around.under,Code.envs,Code.isFrame,pushEnvs] using e.frames),e.mod,e.bs,e.bsz,e.funs,e.frf,e.hok,e.bare⟩
theorem Env0.in1 {P:Program}{w:World}{K:PySem.W.Frag}{mg:Str→Option Value}{base:Heap}{A:Around}{outer:List Env}{s:Shared}{H:Hp}(e:Env0 P w K mg base A outer s H) :
    Env0 P w K mg base A.in1 outer s H:=⟨e.frames,e.mod,e.bs,e.bsz,e.funs,e.frf,e.hok,e.bare⟩
section
variable {X:Cx}{pins:List (Addr×Obj)}{σ:St}{H:Hp}{s s':Shared}
theorem Inv.env0 (I:Inv X pins σ H s):Env0 X.prog X.w X.K X.mg X.base X.A X.stack s H :=
  ⟨I.ok.frames,I.ok.mod,I.bs,Nat.le_trans I.ok.bsz I.sz,I.stack,I.stkFree,I.hok,I.bare⟩
theorem Inv.after {Q:VK}{u:Value}(I:Inv X pins σ H s) (h:CE X.stack X.prog X.w H s Q u s'):EP X pins σ Q u s':=by
  obtain ⟨v,H',os,bare,un,hok,r,q⟩:=h
  obtain ⟨hh,g,d,t,os'⟩:=s'
  obtain rfl:os'=s.os:=os
  exact ⟨v,H',I.call (h':=hh) (g':=g) (d':=d) (t':=t) (ch:=[]) un hok bare (fun b z=>absurd z (by simp)),r,q⟩
end
def tCall (sp:Sp) (dvs:List V) (E:XK) (t:TA):TE:=fun σ H Q=>t σ H fun vs H1=>sp (vs ++ dvs) H1 Q E
def tMeth (C:Addr) (m:Str) (sp:Sp) (dvs:List V) (E:XK) (ta:TE) (t:TA):TE:=fun σ H Q=>ta σ H fun x H1=>∃ a dx fs,x=.ref a∧H1 a=some (.ins C dx fs)∧fs.lookup m=none ∧
  t σ H1 fun vs H2=>sp (x :: (vs ++ dvs)) H2 Q E
def tMake (C:Addr) (sp:Sp) (dvs:List V) (E:XK) (t:TA):TE:=fun σ H Q=>t σ H fun vs H1=>∀ x dx,H1 x=none→H1 dx=none→dx≠x →
  sp (.ref x :: (vs ++ dvs)) (upd (upd H1 dx (.own x)) x (.ins C dx [])) (fun v H2=>v=.non∧Q (.ref x) H2) E
def Binds (K:PySem.W.Frag) (fd:FuncData) (ps:List Str) (ds:List Value):Prop :=
  ∀ (s:Shared) (us:List Value),K.In s.heap→(us ++ ds).length=ps.length→BindsTo s fd ⟨us,[]⟩ (ps.zip (us ++ ds))
theorem Binds.all {K:PySem.W.Frag}{fd:FuncData}{ps:List Str}(h:∀ us:List Value,us.length=ps.length→bindArgs fd ⟨us,[]⟩=pure (ps.zip us)):Binds K fd ps []:=fun s us _ hl=>by
  rw [List.append_nil] at hl ⊢
  exact .of_eq (h us hl)
def Passes (CX:CXT) (X:Cx) (E:XK):Prop:=∀ (pins:List (Addr×Obj)) (σ:St) (H:Hp) (s:Shared) (e:Value) (s':Shared),Inv X pins σ H s→CX X.stack H s E e s'→X.xe e s'
section
variable {X:Cx}{CX:CXT}{k:Nat}{f C:Addr}{fd:FuncData}{ps:List Str}{sp:Sp}{dvs:List V}{ds:List Value}{E:XK}{x m:Str}{p pos apos:Pos}{e o:Expr}{es:List Expr}{ta:TE}{t:TA}
theorem run_fn {pins:List (Addr×Obj)}{σ:St}{H:Hp}{s:Shared}{Q:VK}{us:List Value}{vs:List V}(F:FnOk X.prog X.w X.K X.mg X.base CX k f fd ps sp) (hr:Room k X.A) (hb:Binds X.K fd ps ds) (hd:Vals dvs ds) (hx:Passes CX X E)
    (I:Inv X pins σ H s) (r:Vals vs us) (h:sp (vs ++ dvs) H Q E):wpAny (model X.prog X.w) X.A (call (.ref f) us) (EP X pins σ Q) X.xe s:=by
  have r2:Vals (vs ++ dvs) (us ++ ds):=r.append hd
  have hl:(us ++ ds).length=ps.length:=by rw [← r2.length];exact F.len _ _ _ _ h
  refine wpAny_call (codeAny_mono (F.run X.A X.stack s H ⟨us,[]⟩ (us ++ ds) (vs ++ dvs) Q E hr I.env0 (hb s us I.kIn hl) r2 h) fun r s' hq=>?_)
  cases r with
  | error e=>exact hx pins σ H s e s' I hq
  | ok fl =>
    cases fl with
    | ret u=>exact I.after hq
    | next=>exact False.elim hq
    | brk=>exact False.elim hq
    | cont=>exact False.elim hq
theorem pe_call (F:FnOk X.prog X.w X.K X.mg X.base CX k f fd ps sp) (hr:Room k X.A) (hg:Gl X x) (hm:X.mg x=some (.ref f)) (hk:PySem.W.keepIn X.K (.ref f)=true) (hb:Binds X.K fd ps ds) (hd:Vals dvs ds) (hx:Passes CX X E)
    (ha:PA X (e :: es) t) (hdb:(x == ("__debug__":Str))=false:=by decide) (he:starEach (e :: es) X.env=(false,eval e X.env) :: starEach es X.env:=by rfl) (hpl:(backTo pos (starEach es X.env)).any (·.1)=false:=by rfl) :
    PE X (.Call (.Name x p) (e :: es) [] pos) (tCall sp dvs E t):=by
  intro pins s σ H Q I h
  refine wpAny_Call_Name_kw (ld_glob I hg hm ?_ hdb)
  refine PySem.W.callWith_K (h₀:=X.base) I.ok.mod.kin hk (thn (ha pos pins s σ H _ I h) fun us s1 ⟨vs,H1,I1,r,q⟩=>⟨I1.kIn,?_⟩) he hpl
  exact run_fn F hr hb hd hx I1 r q
theorem pe_meth {pl:Sem Bool}(he:PE X o ta) (c:Cls X.K C) (hm:Meth X.K C m f) (F:FnOk X.prog X.w X.K X.mg X.base CX k f fd ps sp) (hr:Room k X.A) (hb:Binds X.K fd ps ds) (hd:Vals dvs ds) (hx:Passes CX X E) (ha:PA X (e :: es) t)
    (hst:starEach (e :: es) X.env=(false,eval e X.env) :: starEach es X.env:=by rfl) (hpl:(backTo pos (starEach es X.env)).any (·.1)=false:=by rfl)
    (ht:eval (.Call (.Attribute o m apos) (e :: es) [] pos) X.env=(do
      let ov ← eval o X.env
      standAt apos.atName
      let (f,first) ← holding [ov] (getMethod ov m pl)
      callWith pos f first (backTo pos (starEach (e :: es) X.env)) (backToKw pos (keywordEach [] X.env))):=by rfl) :
    PE X (.Call (.Attribute o m apos) (e :: es) [] pos) (tMeth C m sp dvs E ta t):=by
  intro pins s σ H Q I h
  refine PySem.W.methodCall_KW (pl:=pl) (thn (he pins s σ H _ I h) fun u s1 ⟨x,H1,I1,rx,a,dx,fs,ex,ea,l,q⟩=>?_) ht
  subst ex
  obtain rfl:u=Value.ref a:=rx
  refine getmeth_ok I1 ea c hm l ?_
  refine PySem.W.callWith_K (first:=[.ref a]) (h₀:=X.base) I.ok.mod.kin hm.kp (thn (ha pos pins s1 σ H1 _ I1 q) fun us s2 ⟨vs,H2,I2,r,q2⟩=>⟨I2.kIn,?_⟩) hst hpl
  exact run_fn (us:=.ref a :: us) (vs:=.ref a :: vs) F hr hb hd hx I2 (.cons rfl r) q2
theorem pe_meth0 {pl:Sem Bool}(he:PE X o ta) (c:Cls X.K C) (hm:Meth X.K C m f) (F:FnOk X.prog X.w X.K X.mg X.base CX k f fd ps sp) (hr:Room k X.A) (hb:Binds X.K fd ps ds) (hd:Vals dvs ds) (hx:Passes CX X E)
    (ht:eval (.Call (.Attribute o m apos) [] [] pos) X.env=(do
      let ov ← eval o X.env
      standAt apos.atName
      let (f,first) ← holding [ov] (getMethod ov m pl)
      callWith pos f first (backTo pos (starEach [] X.env)) (backToKw pos (keywordEach [] X.env))):=by rfl) :
    PE X (.Call (.Attribute o m apos) [] [] pos) (tMeth C m sp dvs E ta tNil):=by
  intro pins s σ H Q I h
  refine PySem.W.methodCall_KW (pl:=pl) (thn (he pins s σ H _ I h) fun u s1 ⟨x,H1,I1,rx,a,dx,fs,ex,ea,l,q⟩=>?_) ht
  subst ex
  obtain rfl:u=Value.ref a:=rx
  refine getmeth_ok I1 ea c hm l ?_
  exact PySem.W.callWith_K0 (first:=[.ref a]) I1.kIn hm.kp (run_fn (us:=[.ref a]) (vs:=[.ref a]) F hr hb hd hx I1 (.cons rfl .nil) q)
structure Mk (K:PySem.W.Frag) (C f:Addr):Prop where
  makes:PySem.W.makesIn K C=true
  init:PySem.W.findIn K (.ref C) "__init__"=some (some (.ref f))
  fn:PySem.W.isFn K (.ref f)=true
  kp:PySem.W.keepIn K (.ref C)=true
theorem run_make {pins:List (Addr×Obj)}{σ:St}{H:Hp}{s:Shared}{Q:VK}{us:List Value}{vs:List V}(M:Mk X.K C f) (F:FnOk X.prog X.w X.K X.mg X.base CX k f fd ps sp) (hr:Room (k + 1) X.A) (hb:Binds X.K fd ps ds) (hd:Vals dvs ds)
    (hx:Passes CX X E) (I:Inv X pins σ H s) (r:Vals vs us)
    (h:∀ x dx,H x=none→H dx=none→dx≠x→sp (.ref x :: (vs ++ dvs)) (upd (upd H dx (.own x)) x (.ins C dx [])) (fun v H2=>v=.non∧Q (.ref x) H2) E) :
    wpAny (model X.prog X.w) X.A (call (.ref C) us) (EP X pins σ Q) X.xe s:=by
  have hq:=h (s.heap.objs.size + 1) s.heap.objs.size (I.hok.fresh (Nat.le_succ _)) (I.hok.fresh (Nat.le_refl _)) (Nat.ne_of_lt (Nat.lt_succ_self _))
  have I2:=Inv.made (C:=C) I
  have r2:Vals (V.ref (s.heap.objs.size + 1) :: (vs ++ dvs)) (Value.ref (s.heap.objs.size + 1) :: (us ++ ds)):=.cons rfl (r.append hd)
  have hl:(Value.ref (s.heap.objs.size + 1) :: us ++ ds).length=ps.length:=by
    have e:=r2.length
    rw [F.len _ _ _ _ hq] at e
    exact e.symm
  refine wpAny_call (make_map (f:=f) I.kIn M.makes M.init (beq_iff_eq.mp M.fn) (codeAny_mono (F.run _ X.stack _ _ ⟨Value.ref (s.heap.objs.size + 1) :: us,[]⟩ (Value.ref (s.heap.objs.size + 1) :: (us ++ ds)) _ _ E (hr.make C us [])
    (I2.env0.make C us []) (hb _ (Value.ref (s.heap.objs.size + 1) :: us) I2.kIn hl) r2 hq) fun r s' hq'=>?_))
  cases r with
  | error e=>exact hx pins σ _ _ e s' I2 hq'
  | ok fl =>
    cases fl with
    | ret u =>
      obtain ⟨v,H',I3,rv,ev,q3⟩:=I2.after hq'
      subst ev
      exact ⟨rv,⟨V.ref (s.heap.objs.size + 1),H',I3,rfl,q3⟩⟩
    | next=>exact False.elim hq'
    | brk=>exact False.elim hq'
    | cont=>exact False.elim hq'
theorem pe_make (M:Mk X.K C f) (F:FnOk X.prog X.w X.K X.mg X.base CX k f fd ps sp) (hr:Room (k + 1) X.A) (hg:Gl X x) (hm:X.mg x=some (.ref C)) (hb:Binds X.K fd ps ds) (hd:Vals dvs ds) (hx:Passes CX X E)
    (ha:PA X (e :: es) t) (hdb:(x == ("__debug__":Str))=false:=by decide) (he:starEach (e :: es) X.env=(false,eval e X.env) :: starEach es X.env:=by rfl) (hpl:(backTo pos (starEach es X.env)).any (·.1)=false:=by rfl) :
    PE X (.Call (.Name x p) (e :: es) [] pos) (tMake C sp dvs E t):=by
  intro pins s σ H Q I h
  refine wpAny_Call_Name_kw (ld_glob I hg hm ?_ hdb)
  refine PySem.W.callWith_K (h₀:=X.base) I.ok.mod.kin M.kp (thn (ha pos pins s σ H _ I h) fun us s1 ⟨vs,H1,I1,r,q⟩=>⟨I1.kIn,?_⟩) he hpl
  exact run_make M F hr hb hd hx I1 r q
end
section
variable {X:Cx}{CX:CXT}{k:Nat}{f C:Addr}{fd:FuncData}{ps ks:List Str}{sp:Sp}{E:XK}{x m:Str}{p pos apos kpos:Pos}{e o:Expr}{es:List Expr}{kws:List Keyword}{te ta:TE}{t tk:TA}{nm:Option Str}
variable {g:List Value→List Value→List Value}{gV:List V→List V→List V}
end
structure FnScope (N P:List Str) (sc:Scope):Prop where
  kind:sc.kind=.function
  co:sc.isCoroutine=false
  gen:sc.isGenerator=false
  nd:N.Nodup
  pre:N.take P.length=P
  par:∀ x∈P,sc.names.lookup x=some .local∨sc.names.lookup x=some .cell
  nofree:∀ y∈sc.names,y.2≠.free
theorem bindL_out {kindOf:Str→Option NameKind}{x:Str}:∀ {binds:List (Str×Value)}{m:Str→Option Value},(∀ v,(x,v)∉binds)→bindL kindOf binds m x=m x
  | [],_,_=>rfl
  | (n,v) :: r,m,h=>by
    unfold bindL
    rw [bindL_out fun w hw=>h w (List.mem_cons_of_mem _ hw)]
    split
    · have:x≠n:=by rintro rfl;exact h v List.mem_cons_self
      simp [this]
    · rfl
theorem bindC_out {kindOf:Str→Option NameKind}{x:Str}:∀ {binds:List (Str×Value)}{m:Str→Option Value},(∀ v,(x,v)∉binds)→bindC kindOf binds m x=m x
  | [],_,_=>rfl
  | (n,v) :: r,m,h=>by
    unfold bindC
    rw [bindC_out fun w hw=>h w (List.mem_cons_of_mem _ hw)]
    split
    · rfl
    · have:x≠n:=by rintro rfl;exact h v List.mem_cons_self
      simp [this]
theorem bindL_get {kindOf:Str→Option NameKind}{x:Str}{v:Value}:∀ {P:List Str}{vs:List Value}{i:Nat}{m:Str→Option Value},P.Nodup→P[i]?=some x→vs[i]?=some v→kindOf x=some .local →
    bindL kindOf (P.zip vs) m x=some v
  | [],_,_,_,_,h,_,_=>by simp at h
  | _ :: _,[],_,_,_,_,h,_=>by simp at h
  | p :: P,w :: vs,0,m,nd,h1,h2,hk=>by
    simp at h1 h2;subst h1;subst h2
    show bindL kindOf ((p,w) :: P.zip vs) m p=_
    unfold bindL
    rw [bindL_out fun v hv=>(List.nodup_cons.mp nd).1 (List.of_mem_zip hv).1,if_pos hk]
    simp
  | p :: P,w :: vs,i + 1,m,nd,h1,h2,hk=>by
    show bindL kindOf ((p,w) :: P.zip vs) m x=_
    unfold bindL
    exact bindL_get (i:=i) (List.nodup_cons.mp nd).2 (by simpa using h1) (by simpa using h2) hk
theorem bindC_get {kindOf:Str→Option NameKind}{x:Str}{v:Value}:∀ {P:List Str}{vs:List Value}{i:Nat}{m:Str→Option Value},P.Nodup→P[i]?=some x→vs[i]?=some v→kindOf x≠some .local →
    bindC kindOf (P.zip vs) m x=some v
  | [],_,_,_,_,h,_,_=>by simp at h
  | _ :: _,[],_,_,_,_,h,_=>by simp at h
  | p :: P,w :: vs,0,m,nd,h1,h2,hk=>by
    simp at h1 h2;subst h1;subst h2
    show bindC kindOf ((p,w) :: P.zip vs) m p=_
    unfold bindC
    rw [bindC_out fun v hv=>(List.nodup_cons.mp nd).1 (List.of_mem_zip hv).1,if_neg hk]
    simp
  | p :: P,w :: vs,i + 1,m,nd,h1,h2,hk=>by
    show bindC kindOf ((p,w) :: P.zip vs) m x=_
    unfold bindC
    exact bindC_get (i:=i) (List.nodup_cons.mp nd).2 (by simpa using h1) (by simpa using h2) hk
def start (N:List Str) (vs:List V):St:=vs.map some ++ List.replicate (N.length - vs.length) none
def cxOf (CX:CXT) (P:Program) (w:World) (K:PySem.W.Frag) (mg:Str→Option Value) (base:Heap) (N:List Str) (qual:Str) (scope:Scope) (f:Addr) (cd:Value) (A:Around) (outer:List Env) (s:Shared) (H:Hp) (E:XK):Cx where
  prog:=P
  w:=w
  K:=K
  mg:=mg
  base:=base
  A:=A.deeper (envOfC qual scope s.heap.objs.size f cd)
  N:=N
  s₀:=s
  H₀:=H
  env:=envOfC qual scope s.heap.objs.size f cd
  outer:=outer
  stack:=envOfC qual scope s.heap.objs.size f cd :: outer
  ex:=[]
  calm:=true
  fn:=fun _=>true
  pn:=[]
  xe:=fun e s'=>wpAny (model P w) (A.deeper (envOfC qual scope s.heap.objs.size f cd)) (leaving (envOfC qual scope s.heap.objs.size f cd) e) (fun _ s''=>CX outer H s E e s'') (fun e' s''=>CX outer H s E e' s'') s'
theorem cell_has {sc:Scope}{n:Nat}{x:Str}(h:sc.names.lookup x=some .cell):∃ c,(cellsFrom n sc.names []).lookup x=some c:=by
  have q:=PySem.W.cellsFrom_some sc.names n [] (.inl h)
  exact Option.isSome_iff_exists.mp q
theorem inv_start {CX:CXT}{P:Program}{w:World}{K:PySem.W.Frag}{mg:Str→Option Value}{base:Heap}{N ps:List Str}{qual:Str}{scope:Scope}{f:Addr}{cd:Value}{A:Around}{outer:List Env}{s s1:Shared}{H:Hp}{E:XK}{us:List Value}{vs:List V}
    (S:FnScope N ps scope) (hd:A.handled=none) (e0:Env0 P w K mg base A outer s H) (hl:vs.length=ps.length) (r:Vals vs us)
    (x:InCallC s s.heap.objs.size (bindL (envOfC qual scope s.heap.objs.size f cd).kindOf (ps.zip us) fun _=>none) (cellsFrom (s.heap.objs.size + 1) scope.names []) (bindC (envOfC qual scope s.heap.objs.size f cd).kindOf (ps.zip us) fun _=>none) s1) :
    Inv (cxOf CX P w K mg base N qual scope f cd A outer s H E) [] (start N vs) H s1:=by
  have hpl:ps.length≤N.length:=by have:=congrArg List.length S.pre;rw [List.length_take] at this;omega
  obtain ⟨h1,tk,rfl,hk⟩:=x.done
  have noA:∀ b:Addr,b∉(cxOf CX P w K mg base N qual scope f cd A outer s H E).ex:=fun b z=>absurd (show b∈([]:List Addr) from z) (by simp)
  refine ⟨⟨e0.mod,S.kind,rfl,rfl,Nat.le_refl _,fun y z c h1 h2=>?_,fun y hy=>?_,fun y c _ h=>?_,fun _=>hd,Around.frames_deeper e0.frames,.inr ⟨rfl,rfl⟩,fun b z=>absurd z (noA b),e0.bs,e0.bsz,fun b _ _=>noA b,fun b z=>absurd z (noA b),e0.funs,e0.frf⟩,
    rfl,e0.bare,Un.kept hk,⟨_,x.toInCall.ns,fun i y v h1 h2 h3=>?_⟩,fun y c h=>⟨_,x.cell y c h⟩,e0.hok.fresh (Nat.le_refl _),fun y c h=>?_,fun p hp=>absurd (show p∈([]:List (Addr×Obj)) from hp) (by simp),e0.hok.kept hk,?_⟩
  · exact name_of_addr x.apart (PySem.mem_of_lookup h1) (PySem.mem_of_lookup h2)
  · have hy:scope.names.lookup y=some .cell∨scope.names.lookup y=some .free:=hy
    rcases hy with hy | hy
    · exact cell_has hy
    · exact absurd rfl (S.nofree _ (PySem.mem_of_lookup hy))
  · exact Nat.le_of_lt (x.above y c (PySem.mem_of_lookup h))
  · have hi:i < vs.length:=by
      unfold start at h2
      by_cases hi:i < vs.length
      · exact hi
      · rw [List.getElem?_append_right (by simpa using hi)] at h2
        rw [List.getElem?_replicate] at h2
        split at h2<;>cases h2
    have ha:vs[i]?=some v:=by
      unfold start at h2
      rw [List.getElem?_append_left (by simpa using hi),List.getElem?_map] at h2
      cases e:vs[i]? with
      | none=>rw [e] at h2;cases h2
      | some a=>rw [e] at h2;cases h2;rfl
    obtain ⟨u,hu,rv⟩:=r.get ha
    have hp:ps[i]?=some y:=by
      rw [← S.pre,List.getElem?_take_of_lt (by omega)];exact h1
    have ndP:ps.Nodup:=by rw [← S.pre];exact S.nd.sublist (List.take_sublist _ _)
    refine ⟨u,rv,?_⟩
    rcases S.par y (List.mem_of_getElem? hp) with k | k
    · exact .inl ⟨k,bindL_get ndP hp hu k⟩
    · obtain ⟨c,e⟩:=cell_has (n:=s.heap.objs.size + 1) k
      refine .inr ⟨.inl k,c,e,?_⟩
      have q:=x.cell y c e
      rw [bindC_get ndP hp hu (by show scope.names.lookup y≠_;rw [k];decide)] at q
      exact q
  · exact e0.hok.fresh (Nat.le_of_lt (x.above y c (PySem.mem_of_lookup h)))
  · unfold start
    show _=N.length
    rw [List.length_append,List.length_map,List.length_replicate]
    omega
theorem fn_of {CX:CXT}{P:Program}{w:World}{K:PySem.W.Frag}{mg:Str→Option Value}{base:Heap}{k:Nat}{f:Addr}{name qual:Str}{params:Arguments}{body:List Stmt}{scope:Scope}{dV kV doc pm cdv ct oc:Value}{an od:Option Addr}
    {osl:Array (Option Value)} {N ps:List Str} {sp:Sp} (lk:K.lookup f=some ⟨oc,od,.func (PySem.W.fnOf name qual params body scope dV kV doc pm an cdv ct),osl⟩) (hcd:PySem.W.codeIn K cdv qual=true) (S:FnScope N ps scope)
    (len:∀ vs H Q E,sp vs H Q E→vs.length=ps.length)
    (hbody:∀ (A:Around) (outer:List Env) (s:Shared) (H:Hp) (vs:List V) (Q:VK) (E:XK),Room k (A.deeper (envOfC qual scope s.heap.objs.size f cdv))→sp vs H Q E →
      ∃ t,PSs (cxOf CX P w K mg base N qual scope f cdv A outer s H E) body t∧t { nx:=fun _ H'=>Q .non H',rt:=Q } (start N vs) H) :
    FnOk P w K mg base CX (k + 1) f (PySem.W.fnOf name qual params body scope dV kV doc pm an cdv ct) ps sp:=by
  refine ⟨len,fun A outer s H args us vs Q E hr e0 hb r hsp=>?_⟩
  have hl:=len _ _ _ _ hsp
  have KX:K.In s.heap:=e0.mod.kin.keeps fun b o e=>(e0.bs b o e).1
  have lim:s.heap.NoLimit:=e0.mod.nolimit.keeps fun b o e=>(e0.bs b o e).1
  have hkind:∀ y∈ps.zip us,scope.names.lookup y.1=some .local∨(scope.names.lookup y.1=some .cell∧((cellsFrom (s.heap.objs.size + 1) scope.names []).lookup y.1).isSome=true):=fun ⟨n,v⟩ hy=>by
    rcases S.par n (List.of_mem_zip hy).1 with q | q
    · exact .inl q
    · exact .inr ⟨q,PySem.W.cellsFrom_some _ _ _ (.inl q)⟩
  refine codeAny_call_function hr.depth (KX _ _ lk) rfl S.co S.gen rfl (PySem.W.codeRec_of KX hcd) (hb _ _ _ _ ?_)
  refine wpAny_newFunctionEnv_cells S.kind hkind fun env he s1 x=>?_
  subst he
  refine ⟨lim.keeps x.toInCall.keep,codeAny_func ?_⟩
  obtain ⟨t,ht,hq⟩:=hbody A outer s H vs Q E (hr.deeper _) hsp
  have I:Inv (cxOf CX P w K mg base N qual scope f cdv A outer s H E) [] (start N vs) H s1:=inv_start S hr.hd e0 hl r x
  refine wpAny_mono (ht [] s1 (start N vs) H _ I hq) (fun fl s' hs=>?_) fun e s' hs=>hs
  have fin:∀ {σ':St} {H':Hp} {v:V} {u:Value},Inv (cxOf CX P w K mg base N qual scope f cdv A outer s H E) [] σ' H' s'→RelV v u→Q v H'→CE outer P w H s Q u s' :=
    fun {σ' H' v u} J rv q=>⟨v,H',J.os,J.bare,J.base,J.hok,rv,q⟩
  cases fl with
  | ret u =>
    obtain ⟨v,σ',H',J,rv,q⟩:=hs
    exact fin J rv q
  | next =>
    obtain ⟨σ',H',J,q⟩:=hs
    exact fin (v:=V.non) (u:=Value.none) J rfl q
  | brk =>
    obtain ⟨_,_,_,q⟩:=hs
    exact False.elim q
  | cont =>
    obtain ⟨_,_,_,q⟩:=hs
    exact False.elim q
end L2
namespace L2
open PySem PySem.Spec PyProof.Rows
section
variable {X:Cx}{x:Str}{p pos:Pos}{e:Expr}{es:List Expr}{t:TA}{id T:String}{r:List V→Hp→VK→Prop}
def tCB (r:List V→Hp→VK→Prop) (t:TA):TE:=fun σ H Q=>t σ H fun vs H1=>r vs H1 Q
theorem pe_callB (hc:CallR X (.builtin id) r) (hg:Gl X x) (hm:X.mg x=none) (hv:bootBuiltins x=some (.builtin id)) (ha:PA X (e :: es) t) (hn:x≠"__name__":=by decide) (hdb:(x == ("__debug__":Str))=false:=by decide)
    (he:starEach (e :: es) X.env=(false,eval e X.env) :: starEach es X.env:=by rfl) (hpl:(backTo pos (starEach es X.env)).any (·.1)=false:=by rfl):PE X (.Call (.Name x p) (e :: es) [] pos) (tCB r t):=by
  intro pins s σ H Q I h
  refine wpAny_Call_Name_kw (ld_blt I hg hm hv ?_ hn hdb)
  exact PyProof.Rows.callWith_builtin1 (thn (ha pos pins s σ H _ I h) fun us s1 ⟨vs,H1,I1,r1,q1⟩=>hc pins s1 σ H1 vs us Q I1 r1 q1) he hpl
theorem pe_callTy (hc:CallR X (.type T) r) (hg:Gl X x) (hm:X.mg x=none) (hv:bootBuiltins x=some (.type T)) (ha:PA X (e :: es) t) (hn:x≠"__name__":=by decide) (hdb:(x == ("__debug__":Str))=false:=by decide)
    (he:starEach (e :: es) X.env=(false,eval e X.env) :: starEach es X.env:=by rfl) (hpl:(backTo pos (starEach es X.env)).any (·.1)=false:=by rfl):PE X (.Call (.Name x p) (e :: es) [] pos) (tCB r t):=by
  intro pins s σ H Q I h
  refine wpAny_Call_Name_kw (ld_blt I hg hm hv ?_ hn hdb)
  exact PyProof.Rows.callWith_type1 (thn (ha pos pins s σ H _ I h) fun us s1 ⟨vs,H1,I1,r1,q1⟩=>hc pins s1 σ H1 vs us Q I1 r1 q1) he hpl
end
end L2
namespace HT
open PySem PyProof.Rows
section
open PySem.SeqAt
open PySem.AutoSeq1 (wpAny_loadPart')
open PySem.MeetsSeq PySem.MeetsSeq2 PySem.MeetsSeq3
end
section
variable {prog:Program}{w:World}{A:Around}{E:Value→Shared→Prop}{s:Shared}
theorem cat_tup {t b:Addr}{vs ws:List Value}{Q:Value→Shared→Prop}(ht:IsTup s.heap t vs.toArray) (hb:IsTup s.heap b ws.toArray) (hv:vs≠[])
    (h1:ws=[]→Q (.ref t) s) (h2:ws≠[]→Q (.ref s.heap.objs.size) { s with heap:=s.heap.push { cls:=.type "tuple",data:=.seq (vs ++ ws).toArray } })
    (hsz:vs.length + ws.length≤sizeLine):wpAny (model prog w) A (binaryOp .Add (.ref t) (.ref b)) Q E s:=by
  obtain ⟨⟨cls,dd,data,sl⟩,ho,hc,n,hd⟩:=id ht
  obtain ⟨⟨cls2,dd2,data2,sl2⟩,ho2,hc2,n2,hd2⟩:=id hb
  simp only at hc hd hc2 hd2
  subst hc hd hc2 hd2
  have e:vs.toArray ++ ws.toArray=(vs ++ ws).toArray:=by simp
  by_cases hw:ws=[]
  · exact concat_meets ⟨_,ho,rfl⟩ ⟨_,ho2,rfl⟩ noFill_tuple_add seq_tuple_add PySem.F.slot_tuple_add PySem.F.entry_tuple_add (PySem.F.args_tuple_add_2 _ _)
      (tuple_addW1 t b vs.toArray ws.toArray n n2 dd dd2 sl sl2 (by simpa using hv) (by simp [hw])) ⟨ho,ho2,h1 hw⟩
  · refine concat_meets ⟨_,ho,rfl⟩ ⟨_,ho2,rfl⟩ noFill_tuple_add seq_tuple_add PySem.F.slot_tuple_add PySem.F.entry_tuple_add (PySem.F.args_tuple_add_2 _ _)
      (tuple_addW2 t b vs.toArray ws.toArray n n2 dd dd2 sl sl2 (by simpa using hv) (by simpa using hw) (by rw [List.size_toArray,List.size_toArray];exact hsz)) ⟨ho,ho2,?_⟩
    rw [e]
    exact h2 hw
def sIx (n d:Nat):Option Int→Nat
  | none=>d
  | some v=>if v < 0 then (v + (n:Int)).toNat else min v.toNat n
theorem sIx_none (n d:Nat):sIx n d none=d:=rfl
theorem sIx_nat (n d k:Nat):sIx n d (some (k:Int))=min k n:=by
  show (if (k:Int) < 0 then ((k:Int) + (n:Int)).toNat else min (k:Int).toNat n)=min k n
  rw [if_neg (by omega),Int.toNat_natCast]
theorem sIx_le (n d:Nat) (hd:d≤n) (o:Option Int):sIx n d o≤n:=by
  cases o with
  | none=>exact hd
  | some v =>
    show (if v < 0 then (v + (n:Int)).toNat else min v.toNat n)≤n
    by_cases hv:v < 0
    · rw [if_pos hv];omega
    · rw [if_neg hv];exact Nat.min_le_right _ _
theorem clip_eq (v:Int) (n d:Nat):(if v < 0 then max (v + (n:Int)) 0 else min v (n:Int))=((sIx n d (some v):Nat):Int):=by
  show (if v < 0 then max (v + (n:Int)) 0 else min v (n:Int))=(((if v < 0 then (v + (n:Int)).toNat else min v.toNat n):Nat):Int)
  by_cases hv:v < 0
  · simp only [if_pos hv];omega
  · simp only [if_neg hv];omega
theorem adjust_gen (lo hi:Option Int) (n:Nat):Builtin.Slice.sliceAdjust lo hi 1 (n:Int)=(((sIx n 0 lo:Nat):Int),((sIx n n hi:Nat):Int)):=by
  have h1:¬ ((1:Int) < 0):=by omega
  unfold Builtin.Slice.sliceAdjust
  simp only [h1,if_false]
  refine Prod.ext ?_ ?_
  · cases lo with
    | none=>rfl
    | some v=>exact clip_eq v n 0
  · cases hi with
    | none=>rfl
    | some v=>exact clip_eq v n n
theorem places_gen (i j:Nat):Builtin.Slice.slicePlaces (i:Int) (j:Int) 1=j - i:=by
  unfold Builtin.Slice.slicePlaces
  have h1:(1:Int) > 0:=by omega
  simp only [h1,if_true,Int.ediv_one]
  split<;>omega
theorem slicePart_ {v:Value}{o:Option Int}{Q:Option Int→Shared→Prop}(p:IsPart v o) (h:Q o s):wpAny (model prog w) A (Builtin.Slice.slicePartIndex v) Q E s:=by
  cases p with
  | none=>exact slicePart_none h
  | int i t=>exact slicePart_int h
theorem sliceApplied_gen {sl:Addr}{vl vu:Value}{lo hi:Option Int}{n:Nat}{Q:Int×Int×Nat→Shared→Prop}(hs:s.heap.IsSliceOf sl vl vu .none) (pl:IsPart vl lo) (pu:IsPart vu hi)
    (h:Q (((sIx n 0 lo:Nat):Int),1,sIx n n hi - sIx n 0 lo) s):wpAny (model prog w) A (Builtin.Slice.sliceApplied (.ref sl) (pure (n:Int))) Q E s:=by
  obtain ⟨os,hos,hcs,hds⟩:=id hs
  unfold Builtin.Slice.sliceApplied Builtin.Slice.sliceFields
  refine wpAny_bind (wpAny_bind (wpAny_field hos hds (x:=vl) rfl (wpAny_bind (wpAny_field hos hds (x:=vu) rfl (wpAny_bind (wpAny_field hos hds (x:=.none) rfl (wpAny_pure ?_)))))))
  refine wpAny_bind (slicePart_none ?_)
  show wpAny _ _ (if ((1:Int) == 0)=true then _ else _) _ _ s
  rw [if_neg (by decide)]
  refine wpAny_bind (slicePart_ pl (wpAny_bind (slicePart_ pu (wpAny_bind (wpAny_pure ?_)))))
  show wpAny _ _ (match Builtin.Slice.sliceAdjust lo hi 1 (n:Int) with | (lo,hi)=>pure (lo,(1:Int),Builtin.Slice.slicePlaces lo hi 1)) _ _ s
  rw [adjust_gen lo hi n]
  show wpAny _ _ (pure (((sIx n 0 lo:Nat):Int),(1:Int),Builtin.Slice.slicePlaces ((sIx n 0 lo:Nat):Int) ((sIx n n hi:Nat):Int) 1)) _ _ s
  rw [places_gen]
  exact wpAny_pure h
theorem pick_gen (xs:Array Value) (i k:Nat):((List.range k).filterMap fun (m:Nat)=>xs[((i:Int) + (m:Int) * 1).toNat]?).toArray=((xs.toList.drop i).take k).toArray:=by
  have e:(fun (m:Nat)=>xs[((i:Int) + (m:Int) * 1).toNat]?)=fun m=>xs[i + m]?:=by
    funext m
    have:((i:Int) + (m:Int) * 1).toNat=i + m:=by omega
    rw [this]
  rw [e]
  have:=pick_run xs i k
  rw [List.filterMap_map] at this
  have e2:((fun x=>xs[x]?) ∘ fun x=>i + x)=fun m=>xs[i + m]?:=rfl
  rw [e2] at this
  rw [this]
theorem getItem_tuple_cut {t sl:Addr}{items:Array Value}{vl vu:Value}{lo hi:Option Int}{Q:Value→Shared→Prop}(ht:IsTup s.heap t items) (hs:s.heap.IsSliceOf sl vl vu .none) (pl:IsPart vl lo) (pu:IsPart vu hi)
    (hw:¬ (sIx items.size 0 lo=0∧sIx items.size items.size hi=items.size))
    (h:Q (.ref s.heap.objs.size) { s with heap:=s.heap.push { cls:=.type "tuple",data:=.seq ((items.toList.drop (sIx items.size 0 lo)).take (sIx items.size items.size hi - sIx items.size 0 lo)).toArray } })
    (hsz:items.size≤sizeLine):wpAny (model prog w) A (getItem (.ref t) (.ref sl)) Q E s:=by
  have htake:sizeOk (.seq ((items.toList.drop (sIx items.size 0 lo)).take (sIx items.size items.size hi - sIx items.size 0 lo)).toArray):=by
    show ((items.toList.drop (sIx items.size 0 lo)).take (sIx items.size items.size hi - sIx items.size 0 lo)).toArray.size≤sizeLine
    rw [List.size_toArray,List.length_take,List.length_drop,Array.length_toList]
    omega
  have hj:sIx items.size items.size hi≤items.size:=sIx_le _ _ (Nat.le_refl _) hi
  obtain ⟨os,hos,hcs,hds⟩:=id hs
  have hTs:s.TypeIs (.ref sl) "slice":=⟨os,hos,hcs⟩
  unfold getItem
  try with_reducible refine wpAny_holding ?_
  first | refine wpAny_bind (wpAny_pure ?_) | skip
  refine wpAny_bind (wpAny_sequenceKey ht.typeIs (by decide) ?_)
  refine wpAny_bind (wpAny_callSpecial?_slot (name:=Str.ofString "__getitem__") ht.typeIs PyProof.Rows.slot_tuple_getitem
    (wpAny_call_entry PyProof.Rows.slot_tuple_getitem ht.typeIs entry_tuple_getitem ?_ (args_tuple_getitem _ _)))
  show wpAny _ _ (Builtin.Tuple.tupleItemsOf (.ref t) >>= _) _ _ s
  refine wpAny_bind (tupleItemsOf_ ht ?_)
  refine wpAny_bind (wpAny_typeOf hTs ?_)
  rw [if_pos (by decide)]
  refine wpAny_bind (sliceApplied_gen hs pl pu ?_)
  have hno:¬ ((((sIx items.size 0 lo:Nat):Int) == 0 && (1:Int) == 1 && (sIx items.size items.size hi - sIx items.size 0 lo) == items.size)=true):=by
    intro q
    rw [Bool.and_eq_true,Bool.and_eq_true] at q
    have q1:((sIx items.size 0 lo:Nat):Int)=0:=eq_of_beq q.1.1
    have q2:sIx items.size items.size hi - sIx items.size 0 lo=items.size:=eq_of_beq q.2
    exact hw ⟨by omega,by omega⟩
  show wpAny _ _ (if (((sIx items.size 0 lo:Nat):Int) == 0 && (1:Int) == 1 && (sIx items.size items.size hi - sIx items.size 0 lo) == items.size)=true then _ else _) _ _ s
  rw [if_neg hno,pick_gen]
  first
    | exact wpAny_bind (m:=Builtin.Tuple.tupleExact _) (wpAny_newObj_type (wpAny_pure ⟨_,rfl,wpAny_pure h⟩) htake)
    | exact wpAny_bind (m:=Builtin.Tuple.tupleExact _) (wpAny_newObj_type (wpAny_bind (wpAny_pure (wpAny_pure ⟨_,rfl,wpAny_pure h⟩))) htake)
    | exact wpAny_bind (wpAny_bind (m:=Builtin.Tuple.tupleExact _) (wpAny_newObj_type (wpAny_pure (wpAny_pure ⟨_,rfl,wpAny_pure h⟩)) htake))
    | exact wpAny_bind (wpAny_bind (m:=Builtin.Tuple.tupleExact _) (wpAny_newObj_type (wpAny_pure ⟨_,rfl,wpAny_pure h⟩) htake))
end
end HT
namespace L2
open PySem PySem.Spec PyProof.Rows
abbrev TO:=St→Hp→(Option Int→Hp→Prop)→Prop
def PO (X:Cx) (e:Option Expr) (t:TO):Prop :=
  ∀ (pins:List (Addr×Obj)) (s:Shared) (σ:St) (H:Hp) (Q:Option Int→Hp→Prop),Inv X pins σ H s→t σ H Q →
    wpAny (model X.prog X.w) X.A (evalPart e X.env) (fun u s'=>∃ o H',Inv X pins σ H' s'∧IsPart u o∧Q o H') X.xe s
def tNoPart:TO:=fun _ H Q=>Q none H
def tPart (t:TE):TO:=fun σ H Q=>t σ H fun x H1=>∃ i,x=.int i∧Q (some i) H1
theorem intsAre_of {ns:List Int}:∀ {us:List Value},Vals (ns.map V.int) us→IntsAre us ns:=by
  induction ns with
  | nil=>intro us r;rw [List.map_nil] at r;cases r;exact .nil
  | cons n ns ih =>
    intro us r
    rw [List.map_cons] at r
    cases r with
    | cons r1 r2 =>
      obtain ⟨t,e⟩:=r1
      subst e
      exact .cons n t (ih r2)
section
variable {X:Cx}{e:Expr}{te:TE}{lo hi:Option Expr}{tl th:TO}{pos p2:Pos}
theorem po_none:PO X none tNoPart:=by
  intro pins s σ H Q I h
  rw [evalPart_none]
  exact wpAny_pure ⟨none,H,I,.none,h⟩
theorem po_some (h:PE X e te):PO X (some e) (tPart te):=by
  intro pins s σ H Q I hw
  rw [evalPart_some]
  refine thn (h pins s σ H _ I hw) fun u s1 ⟨x,H1,I1,r1,q1⟩=>?_
  obtain ⟨i,rfl,q⟩:=q1
  obtain ⟨t,rfl⟩:=r1
  exact ⟨some i,H1,I1,.int i t,q⟩
def SlR (X:Cx) (r:V→Option Int→Option Int→Hp→VK→Prop):Prop :=
  ∀ (pins:List (Addr×Obj)) (s:Shared) (σ:St) (H:Hp) (x:V) (v vl vu:Value) (lo hi:Option Int) (sl:Addr) (Q:VK),Inv X pins σ H s→RelV x v→s.heap.IsSliceOf sl vl vu .none→IsPart vl lo→IsPart vu hi→r x lo hi H Q →
    ∃ T id,typeLookup (.type T) "__getitem__"=pure (some (.builtin id))∧s.TypeIs v T∧wpAny (model X.prog X.w) X.A (getItem v (.ref sl)) (EP X pins σ Q) X.xe s
def tSl (r:V→Option Int→Option Int→Hp→VK→Prop) (te:TE) (tl th:TO):TE:=fun σ H Q=>te σ H fun x H1=>tl σ H1 fun l H2=>th σ H2 fun u H3=>r x l u H3 Q
theorem pe_slice {r:V→Option Int→Option Int→Hp→VK→Prop}(hr:SlR X r) (he:PE X e te) (hl:PO X lo tl) (hu:PO X hi th):PE X (.Subscript e (.Slice lo hi none p2) pos) (tSl r te tl th):=by
  intro pins s σ H Q I h
  refine Subscript_ (thn (he pins s σ H _ I h) fun v s1 ⟨x,H1,I1,r1,q1⟩=>?_)
  refine wpAny_Slice (thn (hl pins s1 σ H1 _ I1 q1) fun vl s2 ⟨l,H2,I2,pl,q2⟩=>thn (hu pins s2 σ H2 _ I2 q2) fun vu s3 ⟨u,H3,I3,pu,q3⟩=>?_)
  rw [evalPart_none]
  refine wpAny_pure ?_
  have I4:Inv X pins σ H3 { s3 with heap:=s3.heap.push { cls:=.type "slice",data:=.fields #[vl,vu,.none] } }:=I3.kept (t':=s3.toks) fun b ob q=>Heap.get?_push_of_some _ q
  obtain ⟨T,id,hT,ht,hg⟩:=hr pins { s3 with heap:=s3.heap.push { cls:=.type "slice",data:=.fields #[vl,vu,.none] } } σ H3 x v vl vu l u s3.heap.objs.size Q I4 r1 (Heap.IsSliceOf.new ..) pl pu q3
  show wpAny (model X.prog X.w) X.A (subscriptTail e (.Slice lo hi none p2) v (.ref s3.heap.objs.size)) (EP X pins σ Q) X.xe { s3 with heap:=s3.heap.push { cls:=.type "slice",data:=.fields #[vl,vu,.none] } }
  exact tail_any (ops:=[.ref s3.heap.objs.size,v]) ht hT hg (by with_unfolding_all rfl)
def cutV (xs:List V) (lo hi:Option Int):List V:=(xs.drop (HT.sIx xs.length 0 lo)).take (HT.sIx xs.length xs.length hi - HT.sIx xs.length 0 lo)
theorem cutV_length (xs:List V) (lo hi:Option Int):(cutV xs lo hi).length≤xs.length:=by
  unfold cutV
  rw [List.length_take,List.length_drop]
  omega
def rSlT (K:PySem.W.Frag):V→Option Int→Option Int→Hp→VK→Prop:=fun x lo hi H Q=>∃ a xs,x=.ref a∧SqT K H a xs ∧
  ¬ (HT.sIx xs.length 0 lo=0∧HT.sIx xs.length xs.length hi=xs.length)∧∀ p,H p=none→Q (.ref p) (upd H p (.tup (cutV xs lo hi)))
theorem sl_tup:SlR X (rSlT X.K):=by
  intro pins s σ H x v vl vu lo hi sl Q I rx hs pl pu h
  obtain ⟨a,xs,rfl,hx,hw,q⟩:=h
  cases rx
  obtain ⟨its,r,ht,hz⟩:=I.tuple hx
  have hlen:its.toArray.size=xs.length:=by rw [List.size_toArray];exact r.length.symm
  refine ⟨"tuple",_,PyProof.Rows.slot_tuple_getitem.lookup,ht.typeIs,?_⟩
  refine HT.getItem_tuple_cut ht hs pl pu (by rw [hlen];exact hw) ?_ (by rw [hlen];exact hz)
  rw [hlen]
  refine ⟨.ref s.heap.objs.size,_,I.laid (t':=s.toks) (o:=.tup (cutV xs lo hi)) (fun b ob q=>Heap.get?_push_of_some _ q) (Nat.le_refl _) ?_,rfl,q _ (I.hok.fresh (Nat.le_refl _))⟩
  exact ⟨Nat.le_trans (cutV_length xs lo hi) hz,_,(r.drop (HT.sIx xs.length 0 lo)).take (HT.sIx xs.length xs.length hi - HT.sIx xs.length 0 lo),IsTup.new _ _⟩
def rCatT (K:PySem.W.Frag):R2:=fun x y H Q=>∃ a b xs ys,x=.ref a∧y=.ref b∧SqT K H a xs∧SqT K H b ys∧xs≠[]∧xs.length + ys.length≤sizeLine ∧
  (ys=[]→Q (.ref a) H)∧(ys≠[]→∀ p,H p=none→Q (.ref p) (upd H p (.tup (xs ++ ys))))
theorem Vals.nil_iff {xs:List V}{us:List Value}(r:Vals xs us):us=[]↔xs=[]:=by
  cases r with
  | nil=>simp
  | cons _ _=>simp
theorem op_catT:OpR X (binaryOp .Add) (rCatT X.K):=by
  intro pins s σ H x y v u Q I rx ry h
  obtain ⟨a,b,xs,ys,rfl,rfl,ha,hb,hx,hz,q1,q2⟩:=h
  cases rx
  cases ry
  obtain ⟨its,r1,p1,_⟩:=I.tuple ha
  obtain ⟨its2,r2,p2,_⟩:=I.tuple hb
  refine HT.cat_tup p1 p2 (fun z=>hx (r1.nil_iff.mp z)) (fun z=>⟨.ref a,H,I,rfl,q1 (r2.nil_iff.mp z)⟩) (fun z=>?_) (by rw [← r1.length,← r2.length];exact hz)
  refine ⟨.ref s.heap.objs.size,_,I.laid (t':=s.toks) (o:=.tup (xs ++ ys)) (fun b ob q=>Heap.get?_push_of_some _ q) (Nat.le_refl _) ?_,rfl,q2 (fun w=>z (r2.nil_iff.mpr w)) _ (I.hok.fresh (Nat.le_refl _))⟩
  exact ⟨by rw [List.length_append];exact hz,_,r1.append r2,IsTup.new _ _⟩
end
end L2
namespace L2
open PySem PySem.Spec PyProof.Rows
def ixN (n:Nat) (i:Int):Option Nat:=if 0≤i then (if i < n then some i.toNat else none) else if -(n:Int)≤i then some (i + n).toNat else none
def atI {α:Type}(xs:List α) (i:Int):Option α:=(ixN xs.length i).bind fun j=>xs[j]?
theorem ixN_seq {n:Nat}{i:Int}{j:Nat}(h:ixN n i=some j):seqIndex? i n=some j∧j < n∧-(n:Int)≤i∧i < n:=by
  unfold ixN at h
  by_cases h0:0≤i
  · rw [if_pos h0] at h
    by_cases h1:i < n
    · rw [if_pos h1] at h
      have e:i.toNat=j:=Option.some.inj h
      exact ⟨by rw [seqIndex_of h0 h1,e],by omega,by omega,h1⟩
    · rw [if_neg h1] at h;cases h
  · rw [if_neg h0] at h
    by_cases h1:-(n:Int)≤i
    · rw [if_pos h1] at h
      have e:(i + n).toNat=j:=Option.some.inj h
      exact ⟨by rw [seqIndex_neg (by omega) h1,e],by omega,h1,by omega⟩
    · rw [if_neg h1] at h;cases h
theorem atI_get {α:Type}{xs:List α}{i:Int}{v:α}(h:atI xs i=some v):∃ j,seqIndex? i xs.length=some j∧xs[j]?=some v∧j < xs.length∧-(xs.length:Int)≤i∧i < xs.length:=by
  unfold atI at h
  cases e:ixN xs.length i with
  | none=>rw [e] at h;cases h
  | some j =>
    rw [e] at h
    obtain ⟨h1,h2,h3,h4⟩:=ixN_seq e
    exact ⟨j,h1,h,h2,h3,h4⟩
theorem atI_nat {α:Type}{xs:List α}{j:Nat}{v:α}(h:xs[j]?=some v):atI xs (j:Int)=some v:=by
  have hj:j < xs.length:=(List.getElem?_eq_some_iff.mp h).1
  have e:ixN xs.length (j:Int)=some j:=by
    unfold ixN
    rw [if_pos (by omega),if_pos (by omega)];simp
  unfold atI;rw [e];exact h
def PlainIx (b:Expr):Prop:=∀ o i,subscripted b false o i=operate [o,i] (getItem o i)
def IxR (X:Cx) (r:R2):Prop :=
  ∀ (value slice:Expr) (pins:List (Addr×Obj)) (s:Shared) (σ:St) (H:Hp) (x y:V) (v u:Value) (Q:VK),Inv X pins σ H s→RelV x v→RelV y u→r x y H Q →
    subscripted slice false v u=operate [v,u] (getItem v u)→wpAny (model X.prog X.w) X.A (subscriptTail value slice v u) (EP X pins σ Q) X.xe s
def MtR (X:Cx) (id:String) (r:V→List V→Hp→VK→Prop):Prop :=
  ∀ (pins:List (Addr×Obj)) (s:Shared) (σ:St) (H:Hp) (x:V) (xs:List V) (v:Value) (us:List Value) (Q:VK),Inv X pins σ H s→RelV x v→Vals xs us→r x xs H Q →
    wpAny (model X.prog X.w) X.A (call (.builtin id) (v :: us)) (EP X pins σ Q) X.xe s
section
variable {X:Cx}{a b:Expr}{ta tb:TE}{pos:Pos}
theorem pe_ix {r:R2}(hr:IxR X r) (ha:PE X a ta) (hb:PE X b tb) (hs:PlainIx b):PE X (.Subscript a b pos) (tOp r ta tb):=by
  intro pins s σ H Q I h
  exact Subscript_ (binT ha hb I h fun v u s2 x y H2 I2 rx ry q=>hr a b pins s2 σ H2 x y v u Q I2 rx ry q (hs _ _))
def rIxL (K:PySem.W.Frag):R2:=fun x y H Q=>∃ p xs i v,x=.ref p∧y=.int i∧SqL K H p xs∧atI xs i=some v∧Q v H
def rIxT (K:PySem.W.Frag):R2:=fun x y H Q=>∃ p xs i v,x=.ref p∧y=.int i∧SqT K H p xs∧atI xs i=some v∧Q v H
theorem ix_list:IxR X (rIxL X.K):=by
  intro value slice pins s σ H x y v u Q I rx ry h hs
  obtain ⟨p,xs,i,z,rfl,rfl,hq,he,q⟩:=h
  cases rx
  obtain ⟨t,rfl⟩:=ry
  obtain ⟨its,r,pl,hz⟩:=I.list hq
  obtain ⟨j,h1,h2,h3,h4,h5⟩:=atI_get he
  obtain ⟨w,ew,rw'⟩:=r.get h2
  have hl:=r.length
  have hn:=line63
  have fin:EP X pins σ Q w s:=⟨z,H,I,rw',q⟩
  by_cases h0:0≤i
  · have hj:i.toNat=j:=by
      rw [seqIndex_of h0 h5] at h1
      exact Option.some.inj h1
    exact item_listR pl.isList h0 (by omega) (by rw [hj];simpa using ew) fin hs
  · have hj:(i + (its.toArray.size:Int)).toNat=j:=by
      rw [seqIndex_neg (by omega) h4] at h1
      rw [List.size_toArray,← hl]
      exact Option.some.inj h1
    exact subscriptTail_builtinR (x:=w) pl.isList.typeIs slot_list_getitem.lookup
      (wpAny_getItem_list_neg (Q:=fun r s'=>r=w∧EP X pins σ Q r s') pl.isList (by omega) (by rw [List.size_toArray]<;>omega) (by omega) (by rw [hj];simpa using ew) ⟨rfl,fin⟩) hs
theorem ix_tup:IxR X (rIxT X.K):=by
  intro value slice pins s σ H x y v u Q I rx ry h hs
  obtain ⟨p,xs,i,z,rfl,rfl,hq,he,q⟩:=h
  cases rx
  obtain ⟨t,rfl⟩:=ry
  obtain ⟨its,r,pl,hz⟩:=I.tuple hq
  obtain ⟨j,h1,h2,h3,h4,h5⟩:=atI_get he
  obtain ⟨w,ew,rw'⟩:=r.get h2
  have hl:=r.length
  have hn:=line63
  have fin:EP X pins σ Q w s:=⟨z,H,I,rw',q⟩
  exact subscriptTail_builtinR (x:=w) pl.typeIs slot_tuple_getitem.lookup
    (getItem_tuple (j:=j) (Q:=fun r s'=>r=w∧EP X pins σ Q r s') pl (by omega) (by omega) (by rw [List.size_toArray,← hl];exact h1) (by simpa using ew) ⟨rfl,fin⟩) hs
theorem mapSeq_set (its:List Value) (n j:Nat) (u:Value):Obj.mapSeq (·.setIfInBounds j u) { cls:=.type "list",data:=.seq its.toArray n }={ cls:=.type "list",data:=.seq (its.set j u).toArray n }:=by
  simp [Obj.mapSeq]
theorem Inv.lst {pins:List (Addr×Obj)}{σ:St}{H:Hp}{s:Shared}{p:Addr}{xs:List V}(I:Inv X pins σ H s) (h:H p=some (.lst xs)) :
    ∃ (its:List Value) (n:Nat),Vals xs its∧s.heap.get? p=some { cls:=.type "list",data:=.seq its.toArray n }∧xs.length≤sizeLine:=by
  obtain ⟨z,its,n,r,e⟩:=I.hok p _ h
  exact ⟨its,n,r,e,z⟩
theorem Inv.lstUpd {pins:List (Addr×Obj)}{σ:St}{H:Hp}{s:Shared}{p:Addr}{xs ys:List V}{its its':List Value}{n n':Nat}{f:Obj→Obj}(I:Inv X pins σ H s) (h:H p=some (.lst xs))
    (ho:s.heap.get? p=some { cls:=.type "list",data:=.seq its.toArray n }) (hf:f { cls:=.type "list",data:=.seq its.toArray n }={ cls:=.type "list",data:=.seq its'.toArray n' }) (r:Vals ys its') (hz:ys.length≤sizeLine) (t:Nat) :
    Inv X pins σ (upd H p (.lst ys)) { s with heap:=s.heap.update p f,toks:=t }:=by
  have e:(s.heap.update p f).get? p=some { cls:=.type "list",data:=.seq its'.toArray n' }:=by
    rw [Heap.get?_update_self f ho (by rw [hf]<;>rfl),hf]
  refine I.write (x:=p) (e:=p) (by rw [h];trivial) (.inl rfl) (fun b u hb q=>(Heap.get?_update_other _ _ (Ne.symm hb)).trans q) ⟨_,e⟩ ?_
  exact ⟨hz,its',n',r,e⟩
def rSetL:V→V→V→Hp→(Hp→Prop)→Prop:=fun o i v H Q=>∃ p xs k j,o=.ref p∧i=.int k∧H p=some (.lst xs)∧ixN xs.length k=some j∧Q (upd H p (.lst (xs.set j v)))
theorem set_list:PSet X rSetL:=by
  intro pins s σ H o i v ov iv u Q I ro ri rv h
  obtain ⟨p,xs,k,j,rfl,rfl,hp,hj,q⟩:=h
  cases ro
  obtain ⟨t,rfl⟩:=ri
  obtain ⟨its,n,r,ho,hz⟩:=I.lst hp
  obtain ⟨h1,h2,h3,h4⟩:=ixN_seq hj
  have hl:=r.length
  have hn:=line63
  have I':Inv X pins σ (upd H p (.lst (xs.set j v))) { s with heap:=s.heap.update p (Obj.mapSeq (·.setIfInBounds j u)) } :=
    I.lstUpd hp ho (mapSeq_set its n j u) (r.set rv j) (by rw [List.length_set];exact hz) s.toks
  by_cases h0:0≤k
  · have hk:k.toNat=j:=by
      rw [seqIndex_of h0 h4] at h1
      exact Option.some.inj h1
    exact PySem.W.ki_setAt ho h0 (by omega) (by rw [List.size_toArray,← hl];exact h4) (by rw [hk];exact ⟨_,I',q⟩)
  · have hk:(k + (its.toArray.size:Int)).toNat=j:=by
      rw [seqIndex_neg (by omega) h3] at h1
      rw [List.size_toArray,← hl]
      exact Option.some.inj h1
    exact PySem.W.ki_setBack ho (by omega) (by rw [List.size_toArray,← hl];exact h3) (by omega) (by rw [hk];exact ⟨_,I',q⟩)
theorem slice_bounds (lo hi:Option Int) (n:Nat):(sliceBounds lo hi none n).1=((HT.sIx n 0 lo:Nat):Int)∧(sliceBounds lo hi none n).2.1=((HT.sIx n n hi:Nat):Int)∧(sliceBounds lo hi none n).2.2=1:=by
  refine ⟨?_,?_,rfl⟩
  · cases lo with
    | none=>simp [sliceBounds,HT.sIx]
    | some i =>
      simp only [sliceBounds,HT.sIx,Option.getD_none,show (1:Int) > 0 by decide,if_true]
      by_cases h:i < 0
      · simp only [h,if_true]<;>omega
      · simp only [h,if_false]<;>omega
  · cases hi with
    | none=>simp [sliceBounds,HT.sIx]
    | some i =>
      simp only [sliceBounds,HT.sIx,Option.getD_none,show (1:Int) > 0 by decide,if_true]
      by_cases h:i < 0
      · simp only [h,if_true]<;>omega
      · simp only [h,if_false]<;>omega
theorem slicePick_cut (its:List Value) (lo hi:Option Int):slicePick its.toArray lo hi none=((its.drop (HT.sIx its.length 0 lo)).take (HT.sIx its.length its.length hi - HT.sIx its.length 0 lo)).toArray:=by
  obtain ⟨h1,h2,h3⟩:=slice_bounds lo hi its.toArray.size
  unfold slicePick
  rw [h1,h2,h3]
  simp only [sliceRange_one,pick_run,List.size_toArray]<;>rfl
def rSlL (K:PySem.W.Frag):V→Option Int→Option Int→Hp→VK→Prop:=fun x lo hi H Q=>∃ a xs,x=.ref a∧SqL K H a xs∧∀ p,H p=none→Q (.ref p) (upd H p (.lst (cutV xs lo hi)))
theorem sl_list:SlR X (rSlL X.K):=by
  intro pins s σ H x v vl vu lo hi sl Q I rx hs pl pu h
  obtain ⟨a,xs,rfl,hx,q⟩:=h
  cases rx
  obtain ⟨its,r,ht,hz⟩:=I.list hx
  have hlen:=r.length
  refine ⟨"list",_,slot_list_getitem.lookup,ht.isList.typeIs,?_⟩
  refine wpAny_getItem_list_slice ht.isList hs pl pu .none (by simp) ?_ (by rw [List.size_toArray]<;>omega)
  rw [slicePick_cut,← hlen]
  refine ⟨.ref s.heap.objs.size,_,I.laid (t':=s.toks) (o:=.lst (cutV xs lo hi)) (fun b ob q=>Heap.get?_push_of_some _ q) (Nat.le_refl _) ?_,rfl,q _ (I.hok.fresh (Nat.le_refl _))⟩
  exact ⟨Nat.le_trans (cutV_length xs lo hi) hz,_,0,(r.drop (HT.sIx xs.length 0 lo)).take (HT.sIx xs.length xs.length hi - HT.sIx xs.length 0 lo),Heap.get?_push_size _ rfl⟩
def flatV:V→Bool
  | .non=>true
  | .bl _=>true
  | .int _=>true
  | .str _=>true
  | _=>false
def eqV:V→V→Bool
  | .non,.non=>true
  | .bl a,.bl b=>a == b
  | .bl a,.int b=>(if a then 1 else 0) == b
  | .int a,.bl b=>a == (if b then 1 else 0)
  | .int a,.int b=>a == b
  | .str a,.str b=>a == b
  | _,_=>false
theorem eqAt_V {A:Around}{s:Shared}{y x:V}{u v:Value}(ry:RelV y u) (rx:RelV x v) (fy:flatV y=true) (fx:flatV x=true):SeqAt.EqAt A s u v (eqV y x):=by
  cases y with
  | non =>
    cases ry
    cases x with
    | non=>cases rx;exact SeqAt.EqAt.same _
    | bl b=>cases rx;exact SeqAt.EqAt.none_bool b
    | int b=>obtain ⟨t,rfl⟩:=rx;exact SeqAt.EqAt.none_int b t
    | str b=>obtain ⟨t,rfl⟩:=rx;exact SeqAt.EqAt.none_str b t
    | _=>exact absurd (show false=true from fx) Bool.false_ne_true
  | bl a =>
    cases ry
    cases x with
    | non=>cases rx;exact SeqAt.EqAt.bool_none a
    | bl b=>cases rx;exact SeqAt.EqAt.bool_bool a b
    | int b=>obtain ⟨t,rfl⟩:=rx;exact SeqAt.EqAt.bool_int a b t
    | str b=>obtain ⟨t,rfl⟩:=rx;exact SeqAt.EqAt.bool_str a b t
    | _=>exact absurd (show false=true from fx) Bool.false_ne_true
  | int a =>
    obtain ⟨t',rfl⟩:=ry
    cases x with
    | non=>cases rx;exact SeqAt.EqAt.int_none a t'
    | bl b=>cases rx;exact SeqAt.EqAt.int_bool a t' b
    | int b=>obtain ⟨t,rfl⟩:=rx;exact SeqAt.EqAt.int_int a t' b t
    | str b=>obtain ⟨t,rfl⟩:=rx;exact SeqAt.EqAt.int_str a t' b t
    | _=>exact absurd (show false=true from fx) Bool.false_ne_true
  | str a =>
    obtain ⟨t',rfl⟩:=ry
    cases x with
    | non=>cases rx;exact SeqAt.EqAt.str_none a t'
    | bl b=>cases rx;exact SeqAt.EqAt.str_bool a t' b
    | int b=>obtain ⟨t,rfl⟩:=rx;exact SeqAt.EqAt.str_int a t' b t
    | str b=>obtain ⟨t,rfl⟩:=rx;exact SeqAt.EqAt.str_str a t' b t
    | _=>exact absurd (show false=true from fx) Bool.false_ne_true
  | _=>exact absurd (show false=true from fy) Bool.false_ne_true
def eqU (x:V) (u:Value):Bool:=match u with
  | .none=>eqV .non x
  | .bool b=>eqV (.bl b) x
  | .int i _=>eqV (.int i) x
  | .str z _=>eqV (.str z) x
  | _=>false
theorem eqU_of {x y:V}{u:Value}(r:RelV y u) (f:flatV y=true):eqU x u=eqV y x:=by
  cases y with
  | non=>cases r;rfl
  | bl b=>cases r;rfl
  | int i=>obtain ⟨t,rfl⟩:=r;rfl
  | str z=>obtain ⟨t,rfl⟩:=r;rfl
  | _=>exact absurd (show false=true from f) Bool.false_ne_true
theorem any_eqU {x:V}:∀ {xs:List V}{us:List Value},Vals xs us→xs.all flatV=true→us.any (eqU x)=xs.any fun y=>eqV y x
  | _,_,.nil,_=>rfl
  | y :: xs,u :: us,.cons r t,f=>by
    rw [List.all_cons,Bool.and_eq_true] at f
    rw [List.any_cons,List.any_cons,eqU_of r f.1,any_eqU t f.2]
theorem mem_eqAt {A:Around}{s:Shared}{x:V}{v:Value}(rx:RelV x v) (fx:flatV x=true):∀ {xs:List V}{us:List Value},Vals xs us→xs.all flatV=true→∀ u∈us,SeqAt.EqAt A s u v (eqU x u)
  | _,_,.nil,_=>fun u hu=>by cases hu
  | y :: xs,u :: us,.cons r t,f=>fun u' hu=>by
    rw [List.all_cons,Bool.and_eq_true] at f
    rcases List.mem_cons.mp hu with rfl | hu
    · rw [eqU_of r f.1];exact eqAt_V r rx f.1 fx
    · exact mem_eqAt rx fx t f.2 u' hu
def inV (x:V) (xs:List V):Bool:=xs.any fun y=>eqV y x
def rIn (K:PySem.W.Frag) (neg:Bool):R2:=fun x y H Q=>∃ p xs,y=.ref p∧(SqL K H p xs∨SqT K H p xs)∧flatV x=true∧xs.all flatV=true∧Q (.bl (if neg then !inV x xs else inV x xs)) H
theorem op_notIn_seq:OpR X (compareOp .NotIn) (rIn X.K true):=by
  intro pins s σ H x y v u Q I rx ry h
  obtain ⟨p,xs,rfl,hq,fx,fs,q⟩:=h
  cases ry
  rcases hq with hq | hq
  · obtain ⟨its,r,pl,hz⟩:=I.list hq
    refine SeqAt.notIn_listAt (eqU x) pl.isList (fun w hw=>mem_eqAt rx fx r fs w (by simpa using hw)) ⟨.bl _,H,I,rfl,?_⟩
    rw [show its.toArray.any (eqU x)=its.any (eqU x) by simp,any_eqU r fs]
    exact q
  · obtain ⟨its,r,pl,hz⟩:=I.tuple hq
    refine SeqAt.notIn_tupleAt (eqU x) pl (fun w hw=>mem_eqAt rx fx r fs w (by simpa using hw)) ⟨.bl _,H,I,rfl,?_⟩
    rw [show its.toArray.any (eqU x)=its.any (eqU x) by simp,any_eqU r fs]
    exact q
theorem call_len_seq:CallR X (.builtin "len") (fun xs H Q=>∃ p ys,xs=[.ref p]∧(SqL X.K H p ys∨SqT X.K H p ys)∧Q (.int ys.length) H):=by
  intro pins s σ H xs us Q I r h
  obtain ⟨p,ys,rfl,hq,q⟩:=h
  obtain ⟨u,rfl,rx⟩:=vals1 r
  cases rx
  have hn:=line63
  rcases hq with hq | hq
  · obtain ⟨its,r',pl,hz⟩:=I.list hq
    have hlen:=r'.length
    exact Calls.call_len_list pl.isList (by simp only [List.size_toArray]<;>omega) ⟨.int ys.length,H,I.tok _,⟨s.toks + 1,by rw [List.size_toArray,hlen]⟩,q⟩
  · obtain ⟨its,r',pl,hz⟩:=I.tuple hq
    have hlen:=r'.length
    exact len_tuple pl (by simp only [List.size_toArray]<;>omega) ⟨.int ys.length,H,I.tok _,⟨s.toks + 1,by rw [List.size_toArray,hlen]⟩,q⟩
theorem call_list_of:CallR X (.type "list") (fun xs H Q=>∃ p ys,xs=[.ref p]∧(SqL X.K H p ys∨SqT X.K H p ys)∧∀ l,H l=none→Q (.ref l) (upd H l (.lst ys))):=by
  intro pins s σ H xs us Q I r h
  obtain ⟨p,ys,rfl,hq,q⟩:=h
  obtain ⟨u,rfl,rx⟩:=vals1 r
  cases rx
  have fin:∀ (its:List Value),Vals ys its→ys.length≤sizeLine→∀ (h':Heap) (c':Nat),(∀ b o',s.heap.get? b=some o'→h'.get? b=some o') →
      h'.get? s.heap.objs.size=some { cls:=.type "list",dict:=none,data:=.seq its.toArray c',slots:=#[] }→EP X pins σ Q (.ref s.heap.objs.size) { s with heap:=h' }:=fun its r' hz h' c' kp e =>
    ⟨.ref s.heap.objs.size,_,I.laid (t':=s.toks) kp (Nat.le_refl _) (show ObjOk X.prog X.w _ h' _ (.lst ys) from ⟨hz,its,c',r',e⟩),rfl,q _ (I.hok.fresh (Nat.le_refl _))⟩
  rcases hq with hq | hq
  · obtain ⟨its,r',pl,hz⟩:=I.list hq
    have hlen:=r'.length
    obtain ⟨o,ho,hc,n,hd⟩:=pl.isList
    exact call_list_seq p (.inl rfl) ho hc hd (fun h' c' kp e=>fin its r' hz h' c' kp e) (by simp only [List.size_toArray]<;>omega)
  · obtain ⟨its,r',pl,hz⟩:=I.tuple hq
    have hlen:=r'.length
    obtain ⟨o,ho,hc,n,hd⟩:=pl
    exact call_list_seq p (.inr rfl) ho hc hd (fun h' c' kp e=>fin its r' hz h' c' kp e) (by simp only [List.size_toArray]<;>omega)
theorem call_tuple_of:CallR X (.type "tuple") (fun xs H Q=>∃ p ys,xs=[.ref p]∧((SqL X.K H p ys∧∀ l,H l=none→Q (.ref l) (upd H l (.tup ys)))∨(SqT X.K H p ys∧Q (.ref p) H))):=by
  intro pins s σ H xs us Q I r h
  obtain ⟨p,ys,rfl,h⟩:=h
  obtain ⟨u,rfl,rx⟩:=vals1 r
  cases rx
  rcases h with ⟨hq,q⟩ | ⟨hq,q⟩
  · obtain ⟨its,r',pl,hz⟩:=I.list hq
    have hlen:=r'.length
    refine call_tuple_list pl.isList (fun h' kp=>?_) (by simp only [List.size_toArray]<;>omega)
    have I1:Inv X pins σ H { s with heap:=h' }:=I.kept (t':=s.toks) kp
    have I2:Inv X pins σ (upd H h'.objs.size (.tup ys)) { s with heap:=h'.push { cls:=.type "tuple",data:=.seq its.toArray } } :=
      I1.laid (t':=s.toks) (fun b o e=>Heap.get?_push_of_some _ e) (Nat.le_refl _) (show ObjOk X.prog X.w _ _ _ (.tup ys) from ⟨hz,its,r',IsTup.new _ _⟩)
    exact ⟨.ref h'.objs.size,_,I2,rfl,q _ (I1.hok.fresh (Nat.le_refl _))⟩
  · obtain ⟨its,r',pl,hz⟩:=I.tuple hq
    exact call_tuple_same pl ⟨.ref p,H,I,rfl,q⟩
def tyV (K:PySem.W.Frag) (T:String) (x:V) (H:Hp):Prop:=match x with
  | .str _=>T="str"
  | .int _=>T="int"
  | .ref p=>(T="list"∧∃ xs,SqL K H p xs)∨(T="tuple"∧∃ o,K.lookup p=some o∧o.cls=.type "tuple"∧o.dict=none) ∨
      (T="dict"∧((∃ kvs,H p=some (.dK kvs))∨∃ kvs,H p=some (.dT kvs)))∨(T="set"∧∃ S n,H p=some (.set S n))
  | _=>False
theorem tyV_is {pins:List (Addr×Obj)}{σ:St}{H:Hp}{s:Shared}{T:String}{x:V}{v:Value}(I:Inv X pins σ H s) (r:RelV x v) (ty:tyV X.K T x H) :
    s.TypeIs v T∧∀ a,v=.ref a→∃ ob,s.heap.get? a=some ob∧ob.dict=none:=by
  cases x with
  | str z =>
    obtain ⟨t,rfl⟩:=r
    cases (show T="str" from ty)
    exact ⟨typeIs_str s z t,fun _ e=>nomatch e⟩
  | int i =>
    obtain ⟨t,rfl⟩:=r
    cases (show T="int" from ty)
    exact ⟨typeIs_int s i t,fun _ e=>nomatch e⟩
  | ref p =>
    cases r
    rcases ty with ⟨rfl,xs,hq⟩ | ⟨rfl,o,hk,hc,hd⟩ | ⟨rfl,hk⟩ | ⟨rfl,S,n,hk⟩
    · obtain ⟨its,_,pl,_⟩:=I.list hq
      refine ⟨pl.isList.typeIs,fun a e=>?_⟩
      cases e
      obtain ⟨o,n,e,c,hd,_⟩:=pl
      exact ⟨o,e,hd⟩
    · refine ⟨⟨o,I.kIn p o hk,hc⟩,fun a e=>?_⟩
      cases e
      exact ⟨o,I.kIn _ o hk,hd⟩
    · have z:∃ o,s.heap.get? p=some o∧o.ExactDict:=by
        rcases hk with ⟨kvs,hk⟩ | ⟨kvs,hk⟩
        · obtain ⟨_,_,_,_,o,_,_,e,ex,_⟩:=I.hok p _ hk
          exact ⟨o,e,ex⟩
        · obtain ⟨_,_,_,_,o,_,_,e,ex,_⟩:=I.hok p _ hk
          exact ⟨o,e,ex⟩
      obtain ⟨o,e,ex⟩:=z
      refine ⟨⟨o,e,ex.1⟩,fun a e2=>?_⟩
      cases e2
      exact ⟨o,e,ex.2.1⟩
    · obtain ⟨o,_,_,_,e,ex,_⟩:=I.hok p _ hk
      refine ⟨⟨o,e,ex.1⟩,fun a e2=>?_⟩
      cases e2
      exact ⟨o,e,ex.2.1⟩
  | _=>exact False.elim ty
def tBM0 (K:PySem.W.Frag) (T:String) (r:V→List V→Hp→VK→Prop) (to:TE):TE:=fun σ H Q=>to σ H fun x H1=>tyV K T x H1∧r x [] H1 Q
def tBM (K:PySem.W.Frag) (T:String) (r:V→List V→Hp→VK→Prop) (to:TE) (t:TA):TE:=fun σ H Q=>to σ H fun x H1=>tyV K T x H1∧t σ H1 fun xs H2=>r x xs H2 Q
variable {o e:Expr}{es:List Expr}{to:TE}{t:TA}{name:Str}{apos cpos:Pos}{T id:String}{r:V→List V→Hp→VK→Prop}
theorem pe_bm0 (pa:PlainAttrs T) (slot:Slot T name id) (hty:typeOf (.builtin id)=pure (.type "method_descriptor")) (hm:MtR X id r) (ho:PE X o to)
    (hbase:attributeBase o name X.env (eval o X.env)=eval o X.env:=by rfl) (hline:(apos.endLine == cpos.line)=true:=by rfl):PE X (.Call (.Attribute o name apos) [] [] cpos) (tBM0 X.K T r to):=by
  intro pins s σ H Q I h
  refine wpAny_Call_method0_late hbase hline (thn (ho pins s σ H _ I h) fun v s1 ⟨x,H1,I1,r1,ty,q1⟩=>?_)
  obtain ⟨h1,h2⟩:=tyV_is I1 r1 ty
  exact ⟨T,id,pa,slot,hty,h1,h2,Calls.callWith_builtin rfl (PySem.evalArgs_none (hm pins s1 σ H1 x [] v [] Q I1 r1 .nil q1))⟩
theorem pe_bm (pa:PlainAttrs T) (slot:Slot T name id) (hty:typeOf (.builtin id)=pure (.type "method_descriptor")) (hm:MtR X id r) (ho:PE X o to) (ha:PA X (e :: es) t)
    (hbase:attributeBase o name X.env (eval o X.env)=eval o X.env:=by rfl)
    (hfew:((backTo cpos (starEach (e :: es) X.env)).all (fun x=>!x.1) && (backToKw cpos (keywordEach [] X.env)).all (fun x=>x.1.isSome)
      && decide ((e :: es).length + ([]:List Keyword).length + (if ([]:List Keyword).isEmpty then 0 else 1) < 30))=true:=by rfl)
    (hline:(apos.endLine == cpos.line)=true:=by rfl) (hs:starEach (e :: es) X.env=(false,eval e X.env) :: starEach es X.env:=by rfl) (hplain:(backTo cpos (starEach es X.env)).any (·.1)=false:=by rfl) :
    PE X (.Call (.Attribute o name apos) (e :: es) [] cpos) (tBM X.K T r to t):=by
  intro pins s σ H Q I h
  refine wpAny_Call_method_late hbase hfew hline rfl (thn (ho pins s σ H _ I h) fun v s1 ⟨x,H1,I1,r1,ty,q1⟩=>?_)
  obtain ⟨h1,h2⟩:=tyV_is I1 r1 ty
  refine ⟨T,id,pa,slot,hty,h1,h2,?_⟩
  have hA:=ha cpos pins s1 σ H1 _ I1 q1
  rw [hs] at hA ⊢
  refine Calls.callWith_builtin (by show (false || (backTo cpos (starEach es X.env)).any (·.1))=false;rw [hplain]<;>rfl) (Calls.evalArgs_plain ?_)
  exact thn hA fun us s2 ⟨vs,H2,I2,r2,q2⟩=>hm pins s2 σ H2 x vs v us Q I2 r1 r2 q2
end
end L2
namespace L2
open PySem PySem.Spec PyProof.Rows
def MtM (X:Cx) (id:String) (r:V→List V→Hp→VK→Prop):Prop :=
  ∀ (pins:List (Addr×Obj)) (s:Shared) (σ:St) (H:Hp) (x:V) (xs:List V) (v:Value) (us:List Value) (Q:VK),Inv X pins σ H s→RelV x v→Vals xs us→r x xs H Q →
    wpAny (model X.prog X.w) X.A (call (.builtin id) (v :: us)) (EP X pins σ Q) X.xe s
theorem Vals.one:∀ {x:V}{us:List Value},Vals [x] us→∃ u,us=[u]∧RelV x u
  | _,_,.cons r .nil=>⟨_,rfl,r⟩
theorem Vals.zero:∀ {us:List Value},Vals [] us→us=[]
  | _,.nil=>rfl
theorem Vals.dropLast {xs:List V}{us:List Value}(h:Vals xs us):Vals xs.dropLast us.dropLast:=by
  induction h with
  | nil=>exact .nil
  | cons r t ih =>
    cases t with
    | nil=>exact .nil
    | cons q t'=>exact .cons r ih
theorem Vals.rep {xs:List V}{us:List Value}(h:Vals xs us):∀ k:Nat,Vals (List.replicate k xs).flatten (List.replicate k us).flatten
  | 0=>.nil
  | k + 1=>by
    rw [List.replicate_succ,List.replicate_succ,List.flatten_cons,List.flatten_cons]
    exact Vals.append h (Vals.rep h k)
theorem erase_last {α:Type}(l:List α):l.eraseIdx (l.length - 1)=l.dropLast:=by
  induction l with
  | nil=>rfl
  | cons a r ih =>
    cases r with
    | nil=>rfl
    | cons b r =>
      have e:(a :: b :: r).length - 1=((b :: r).length - 1) + 1:=by
        have h1:(a :: b :: r).length=r.length + 2:=rfl
        have h2:(b :: r).length=r.length + 1:=rfl
        omega
      rw [e,List.eraseIdx_cons_succ,ih]
      all_goals rfl
theorem foldl_rep (its:List Value):∀ (k:Nat) (acc:List Value),
    List.foldl (fun x1 x2=>x1 ++ x2) acc.toArray (List.replicate k its.toArray)=(acc ++ (List.replicate k its).flatten).toArray
  | 0,acc=>by simp
  | k + 1,acc=>by
    have e:acc.toArray ++ its.toArray=(acc ++ its).toArray:=by simp
    have e2:(acc ++ its) ++ (List.replicate k its).flatten=acc ++ (List.replicate (k + 1) its).flatten:=by
      rw [List.replicate_succ,List.flatten_cons,List.append_assoc]
    rw [← e2,← foldl_rep its k (acc ++ its),← e,List.replicate_succ,List.foldl_cons]
section
variable {X:Cx}{pins:List (Addr×Obj)}{σ:St}{H:Hp}{s:Shared}{l b:Addr}{xs ys zs:List V}
theorem Inv.lset {its its':List Value}{n:Nat}{f:Array Value→Array Value}{t':Nat}(I:Inv X pins σ H s) (hH:H l=some (.lst xs))
    (e:s.heap.get? l=some { cls:=.type "list",data:=.seq its.toArray n }) (hf:f its.toArray=its'.toArray) (hv:Vals ys its') (hz:ys.length≤sizeLine) :
    Inv X pins σ (upd H l (.lst ys)) { s with heap:=s.heap.update l (Obj.mapSeq f),toks:=t' }:=by
  have q:=PySem.IsL.update e f
  rw [hf] at q
  refine I.write (x:=l) (e:=l) (by rw [hH];exact trivial) (.inl rfl) (fun b' u hb hu=>(Heap.get?_update_other s.heap (Obj.mapSeq f) (Ne.symm hb)).trans hu) ⟨_,q⟩ ?_
  exact ⟨hz,its',_,hv,q⟩
theorem Inv.lnew {its:List Value}{t':Nat}(I:Inv X pins σ H s) (hv:Vals ys its) (hz:ys.length≤sizeLine) :
    Inv X pins σ (upd H s.heap.objs.size (.lst ys)) { s with heap:=s.heap.push { cls:=.type "list",data:=.seq its.toArray },toks:=t' } :=
  I.laid (fun _ _ q=>Heap.get?_push_of_some _ q) (Nat.le_refl _) ⟨hz,its,0,hv,Heap.get?_push_size _ rfl⟩
theorem Inv.fresh (I:Inv X pins σ H s):H s.heap.objs.size=none:=I.hok.fresh (Nat.le_refl _)
theorem Inv.lstM (I:Inv X pins σ H s) (hH:H l=some (.lst xs)):xs.length≤sizeLine∧∃ (its:List Value) (n:Nat),Vals xs its∧xs.length=its.length∧s.heap.get? l=some { cls:=.type "list",data:=.seq its.toArray n }:=by
  obtain ⟨z,its,n,r,e⟩:=I.hok l _ hH
  exact ⟨z,its,n,r,r.length,e⟩
theorem notLongL {n:Nat}(h:n≤sizeLine):Builtin.List.listTooLong n=false:=by
  unfold Builtin.List.listTooLong
  exact decide_eq_false (by omega)
end
section
variable {X:Cx}
def rAppend:V→List V→Hp→VK→Prop:=fun x vs H Q=>∃ l xs y,x=.ref l∧vs=[y]∧H l=some (.lst xs)∧xs.length < sizeLine∧Q .non (upd H l (.lst (xs ++ [y])))
theorem mt_append:MtM X "list.append" rAppend:=by
  intro pins s σ H x vs v us Q I rx rv h
  obtain ⟨l,xs,y,rfl,rfl,hH,hz,q⟩:=h
  cases rx
  obtain ⟨u,rfl,ru⟩:=rv.one
  obtain ⟨z,its,n,r,hl,e⟩:=I.lstM hH
  refine call_meets F.slot_list_append ⟨_,e,rfl⟩ F.entry_list_append (F.args_list_append_2 _ _) (PySem.list_append l its.toArray n u (by rw [List.size_toArray];omega)) ⟨e,?_⟩
  refine ⟨.non,_,I.lset (its':=its ++ [u]) hH e (by simp) (r.append (.cons ru .nil)) ?_,rfl,q⟩
  rw [List.length_append,List.length_singleton]
  omega
def rExtend:V→List V→Hp→VK→Prop:=fun x vs H Q=>∃ l b xs zs,x=.ref l∧vs=[.ref b]∧H l=some (.lst xs)∧H b=some (.lst zs)∧xs.length + zs.length≤sizeLine∧Q .non (upd H l (.lst (xs ++ zs)))
theorem mt_extend:MtM X "list.extend" rExtend:=by
  intro pins s σ H x vs v us Q I rx rv h
  obtain ⟨l,b,xs,zs,rfl,rfl,hH,hB,hz,q⟩:=h
  cases rx
  obtain ⟨u,rfl,ru⟩:=rv.one
  cases ru
  obtain ⟨z,its,n,r,hl,e⟩:=I.lstM hH
  obtain ⟨z2,its2,n2,r2,hl2,e2⟩:=I.lstM hB
  have hsz:its.toArray.size + its2.toArray.size≤sizeLine:=by rw [List.size_toArray,List.size_toArray];omega
  have hlong:¬ (!its.toArray.isEmpty && Builtin.List.listTooLong (its.toArray.size + its2.toArray.size))=true:=by
    rw [notLongL hsz,Bool.and_false]
    exact Bool.false_ne_true
  refine call_meets F.slot_list_extend ⟨_,e,rfl⟩ F.entry_list_extend (F.args_list_extend_2 _ _)
    (AutoSeq1.list_extend_list_list_0 l its.toArray n b its2.toArray n2 hlong (by rw [List.size_toArray];omega) (by omega)) ⟨e,e2,?_⟩
  refine ⟨.non,_,I.lset (its':=its ++ its2) hH e (by simp) (r.append r2) ?_,rfl,q⟩
  rw [List.length_append]
  omega
def rPop:V→List V→Hp→VK→Prop:=fun x vs H Q=>∃ l xs y,x=.ref l∧vs=[]∧H l=some (.lst xs)∧xs[xs.length - 1]?=some y∧Q y (upd H l (.lst xs.dropLast))
theorem mt_pop:MtM X "list.pop" rPop:=by
  intro pins s σ H x vs v us Q I rx rv h
  obtain ⟨l,xs,y,rfl,rfl,hH,hy,q⟩:=h
  cases rx
  have hus:=rv.zero
  subst hus
  obtain ⟨z,its,n,r,hl,e⟩:=I.lstM hH
  obtain ⟨u,hu,ru⟩:=r.get hy
  have hy':its.toArray[its.toArray.size - 1]?=some u:=by
    show its.toArray[its.length - 1]?=some u
    rw [← Array.getElem?_toList,← hl]
    exact hu
  refine call_meets F.slot_list_pop ⟨_,e,rfl⟩ F.entry_list_pop (F.args_list_pop_1 _) (MeetsSeq.list_pop_last l its.toArray n u hy' (by rw [List.size_toArray];omega)) ⟨e,?_⟩
  refine ⟨y,_,I.lset (its':=its.dropLast) hH e ?_ r.dropLast ?_,ru,q⟩
  · show its.toArray.eraseIdxIfInBounds (its.toArray.size - 1)=its.dropLast.toArray
    rw [List.size_toArray,List.eraseIdxIfInBounds_toArray,erase_last]
  · rw [List.length_dropLast]
    omega
def rCat:R2:=fun x y H Q=>∃ l b xs zs,x=.ref l∧y=.ref b∧H l=some (.lst xs)∧H b=some (.lst zs)∧xs.length + zs.length≤sizeLine∧∀ p,H p=none→Q (.ref p) (upd H p (.lst (xs ++ zs)))
theorem op_cat:OpR X (binaryOp .Add) rCat:=by
  intro pins s σ H x y v u Q I rx ry h
  obtain ⟨l,b,xs,zs,rfl,rfl,hH,hB,hz,q⟩:=h
  cases rx
  cases ry
  obtain ⟨z,its,n,r,hl,e⟩:=I.lstM hH
  obtain ⟨z2,its2,n2,r2,hl2,e2⟩:=I.lstM hB
  refine PySem.P.add_list e e2 ?_ (by rw [List.size_toArray,List.size_toArray];omega)
  have ea:its.toArray ++ its2.toArray=(its ++ its2).toArray:=by simp
  rw [ea]
  exact ⟨.ref _,_,I.lnew (t':=s.toks) (r.append r2) (by rw [List.length_append];omega),rfl,q _ I.fresh⟩
def rRep:R2:=fun x y H Q=>∃ l k xs,x=.ref l∧y=.int k∧H l=some (.lst xs)∧-(2 ^ 63)≤k∧k < 2 ^ 63∧xs.length * k.toNat≤sizeLine ∧
  ∀ p,H p=none→Q (.ref p) (upd H p (.lst (List.replicate k.toNat xs).flatten))
theorem len_rep {α:Type}(xs:List α) (k:Nat):(List.replicate k xs).flatten.length=k * xs.length:=by
  induction k with
  | zero=>simp
  | succ k ih=>rw [List.replicate_succ,List.flatten_cons,List.length_append,ih,Nat.succ_mul,Nat.add_comm]
theorem op_rep:OpR X (binaryOp .Mult) rRep:=by
  intro pins s σ H x y v u Q I rx ry h
  obtain ⟨l,k,xs,rfl,rfl,hH,h1,h2,hz,q⟩:=h
  cases rx
  obtain ⟨t,rfl⟩:=ry
  obtain ⟨z,its,n,r,hl,e⟩:=I.lstM hH
  have hlen:its.toArray.size * k.toNat≤sizeLine:=by rw [List.size_toArray,← hl];exact hz
  have hcap:¬ its.toArray.size * k.toNat > (2 ^ 63 - 1) / 8:=by
    have:(sizeLine:Nat)≤(2 ^ 63 - 1) / 8:=by decide
    omega
  have hfit:¬ (!Builtin.List.listFitsIndex k)=true:=by
    rw [fitsIndex_both h1 h2]
    exact Bool.false_ne_true
  have hlong:¬ Builtin.List.listTooLong (its.toArray.size * k.toNat)=true:=by
    rw [notLongL hlen]
    exact Bool.false_ne_true
  have hnew:List.foldl (fun x1 x2=>x1 ++ x2) #[] (List.replicate (if its.toArray.isEmpty=true then 0 else k.toNat) its.toArray)=(List.replicate k.toNat its).flatten.toArray:=by
    have f0:∀ m:Nat,List.foldl (fun x1 x2=>x1 ++ x2) #[] (List.replicate m its.toArray)=(List.replicate m its).flatten.toArray:=fun m=>by
      have:=foldl_rep its m []
      rw [List.nil_append] at this
      exact this
    rw [f0]
    cases its with
    | nil=>simp
    | cons a r'=>rw [if_neg (by simp)]
  refine wpAny_binaryOp_repeat_ref (T:="list") (U:="int") (by decide) ⟨_,e,rfl⟩ (fun s'=>typeIs_int s' k t) noFill_list_mul F.fills_int_mul F.slot_int_rmul repeat_list F.slot_int_index.lookup
    (call_meets F.slot_int_rmul (typeIs_int s k t) F.entry_int_rmul (F.args_int_rmul_2 _ _) (int___rmul___int_list k t l its.toArray n)
      ⟨e,rfl,⟨_,e,rfl⟩,call_meets F.slot_list_mul ⟨_,e,rfl⟩ F.entry_list_mul (F.args_list_mul_2 _ _) (AutoListH.list___mul___list_int_3 l its.toArray n k t hfit hcap hlong) ⟨e,?_⟩⟩)
  rw [hnew]
  exact ⟨.ref _,_,I.lnew (t':=s.toks) (r.rep k.toNat) (by rw [len_rep,Nat.mul_comm];exact hz),rfl,q _ I.fresh⟩
end
section
variable {prog:Program}{w:World}{A:Around}{E:Value→Shared→Prop}{s:Shared}
theorem splice_eq (its its2:List Value) (a c:Nat):its.toArray.extract 0 a ++ its2.toArray ++ its.toArray.extract c its.toArray.size=(its.take a ++ its2 ++ its.drop c).toArray:=by
  apply Array.toList_inj.mp
  first
    | (simp
       exact List.take_of_length_le (by simp))
    | simp [List.take_of_length_le]
    | simp
set_option maxRecDepth 100000 in
end
section
variable {X:Cx}
end
end L2
namespace Att
open PySem PySem.W PySem.Calls PyProof.Rows
theorem ints_of_wellAll {P:Params}{h:Heap}:∀ (ns:List Int) (vs:List Value),WellAll P h vs (ns.map WData.int)→IntsAre vs ns:=by
  intro ns
  induction ns with
  | nil =>
    intro vs w
    rw [List.map_nil] at w
    cases w
    exact .nil
  | cons n ns ih =>
    intro vs w
    rw [List.map_cons] at w
    cases w with
    | cons a b =>
      cases a
      exact .cons _ _ (ih _ b)
theorem script_of {l:OpenLaw}{n:Nat}(hn:l.most=some n) {P:Params}{h:Heap}{args:List WData}{vals:List Value}
    (hpre:l.row.toRowW.claim.pre args=true) (hwl:WellAll P h vals args) :
    ∃ a vs ns,vals=[Value.ref a]∧args=[WData.list (ns.map WData.int)]∧h.get? a=some { cls:=.type "list",data:=.seq vs.toArray }∧IntsAre vs ns∧ns.length≤n:=by
  have hsh:WShape.hasAll [] args [.list .int]=true:=(pre_splitW hpre).1
  have hc:l.pre.holds [] { args:=args }=true:=(pre_splitW hpre).2
  obtain ⟨d,r,rfl,h1,h2⟩:=hasAllW_cons hsh
  obtain rfl:=hasAllW_nil h2
  obtain ⟨xs,rfl,h3⟩:=hasW_list h1
  obtain ⟨ns,rfl⟩:=items_int h3
  have hlen:ns.length≤n:=by
    unfold OpenLaw.pre at hc
    have h4:(WTm.not (.lt (.lit (.int (n:Int))) (.len (.arg 0)))).holds [] { args:=[.list (ns.map .int)] }=true:=by
      have h4:=(holds_andW hc).1
      rw [hn] at h4
      exact h4
    have h5:=condW_of h4 (w_not (w_lt w_lit (w_len_list (w_arg rfl))))
    rw [List.length_map] at h5
    refine Nat.le_of_not_lt fun q=>?_
    have q':(n:Int) < ((ns.length:Nat):Int):=by omega
    first
      | (rw [decide_eq_true q'] at h5;exact absurd h5 (by decide))
      | (simp at h5;omega)
  cases hwl with
  | cons w1 w2 =>
    cases w2
    cases w1 with
    | list ho hall=>exact ⟨_,_,ns,rfl,rfl,ho,ints_of_wellAll ns _ hall,hlen⟩
theorem post_true (l:OpenLaw) (args:List WData):l.row.toRowW.claim.post args (.bool true) args=true :=
  postW_of (r:=l.row.toRowW) (X:=(true == true))
    (show WShape.has [] (.bool true) .bool=true by first | rfl | decide | simp [WShape.has,WShape.arms,WShape.armsAll])
    (show (WTm.eq .res (.lit (.bool true))).value [] { args:=args,res:=some (.bool true),after:=args }=some (.bool (true == true)) from w_eq_bool (w_res rfl) w_lit) rfl
theorem attach_call {l:OpenLaw}{n:Nat}{q:Program}{loose:List Str}{XP:(Str→Option Value)→Heap→Prop}{YP:World→Heap→Prop}{d:DefRec}
    (hn:l.most=some n) (hdf:d.params.defaults=[])
    (call:∀ (w:World) (s₀ s₁:Shared) (mg mb:Str→Option Value) (fa:Addr) (o:Obj) (pm cd doc:Value) (a:Addr) (vs:List Value) (ns:List Int),
      Ground q loose [] XP w s₀ mg mb s₁.heap→YP w s₁.heap →
      s₁.heap.get? fa=some o→o.data=.func (docDef d.name d.params d.body d.scope pm cd doc)→s₁.heap.CodeRec cd d.name→mg d.name=some (.ref fa) →
      s₁.heap.get? a=some { cls:=.type "list",data:=.seq vs.toArray }→IntsAre vs ns→ns.length≤n→s₁.gens=#[] →
      codeAny (model l.prog w) callerA (.call (.ref fa) ⟨[.ref a],[]⟩) (fun r s'=>r=.ok (.ret (.bool true))∧OldK s₁.heap s'.heap∧s'.os=s₁.os∧AllBare s'.gens) s₁) :
    WalkO q loose XP YP l.row.toRowW d [] (fun f vs=>PySem.call f vs):=by
  intro w s₀ s₁ mg mb G Y fa o pm cd doc dV kV ho hd hcd hD hmg hg args vals as hpre hlay hrd hwl hlo
  obtain rfl:dV=.none:=Dflts.none hD hdf
  obtain rfl:kV=.none:=Dflts.noKw hD
  obtain ⟨a,vs,ns,rfl,rfl,hobj,hints,hlen⟩:=script_of hn hpre hwl
  refine enter_call (codeAny_mono (call w s₀ s₁ mg mb fa o pm cd doc a vs ns G Y ho (fd_plain hd) hcd hmg hobj hints hlen hg) fun r s' hq=>?_)
  obtain ⟨rfl,h2,h3,h4⟩:=hq
  exact ⟨.inl ⟨.bool true,.bool true,[],rfl,fun _=>rfl,.bool true,post_true l _,fun _=>⟨List.Pairwise.nil,fun _ hm=>(nomatch hm)⟩⟩,h2,h3,h4⟩
section
variable {prog:Program}{w:World}{A:Around}{E:Value→Shared→Prop}{s:Shared}{K:Frag}
end
end Att
namespace L2
open PySem PySem.Spec PyProof.Rows
theorem vals_ints:∀ {vs:List Value}{ns:List Int},IntsAre vs ns→Vals (ns.map V.int) vs
  | _,_,.nil=>.nil
  | _,_,.cons n t h=>.cons ⟨t,rfl⟩ (vals_ints h)
end L2
namespace L2
open PySem PySem.Spec PyProof.Rows
end L2
namespace L2
open PySem PySem.Spec PyProof.Rows
def inClass (s:Stmt) (j:Nat):Stmt:=match s with
  | .ClassDef _ _ _ body _ _ _ _ _ _ _=>body.getD j (.Pass ⟨0,0,0,0⟩)
  | _=>.Pass ⟨0,0,0,0⟩
def defArgs (s:Stmt):Arguments:=match s with
  | .FunctionDef _ a _ _ _ _ _ _ _ _=>a
  | _=>{ posonlyargs:=[],args:=[],vararg:=none,kwonlyargs:=[],kw_defaults:=[],kwarg:=none,defaults:=[] }
def defBody (s:Stmt):List Stmt:=match s with
  | .FunctionDef _ _ b _ _ _ _ _ _ _=>b
  | _=>[]
def defScope (s:Stmt):Scope:=match s with
  | .FunctionDef _ _ _ _ _ _ sc _ _ _=>sc
  | _=>{ kind:=.function,names:=[],isGenerator:=false,isCoroutine:=false }
abbrev CX0:CXT:=fun _ _ _ _ _ _=>False
abbrev E0:XK:=fun _ _ _=>False
theorem pass0 {X:Cx}:Passes CX0 X E0:=fun _ _ _ _ _ _ _ h=>h.elim
structure Fun (K:PySem.W.Frag) (x qual:Str) (st:Stmt) (f:Addr) (fd:FuncData):Prop where
  ex:∃ (oc:Value) (od:Option Addr) (kV doc pm:Value) (an:Option Addr) (cdv ct:Value) (osl:Array (Option Value)),
    fd=PySem.W.fnOf x qual (defArgs st) (defBody st) (defScope st) .none kV doc pm an cdv ct∧K.lookup f=some ⟨oc,od,.func fd,osl⟩∧PySem.W.codeIn K cdv qual=true
  kp:PySem.W.keepIn K (.ref f)=true
section
variable {P:Program}{w:World}{K:PySem.W.Frag}{mg:Str→Option Value}{base:Heap}
theorem Fun.ok {x qual:Str}{st:Stmt}{f:Addr}{fd:FuncData}{N ps:List Str}{k:Nat}{sp:Sp}(F:Fun K x qual st f fd) (S:FnScope N ps (defScope st)) (len:∀ vs H Q E,sp vs H Q E→vs.length=ps.length)
    (hbody:∀ (cdv:Value) (A:Around) (outer:List Env) (s:Shared) (H:Hp) (vs:List V) (Q:VK) (E:XK),Room k (A.deeper (envOfC qual (defScope st) s.heap.objs.size f cdv))→sp vs H Q E →
      ∃ t,PSs (cxOf CX0 P w K mg base N qual (defScope st) f cdv A outer s H E).nox (defBody st) t∧t { nx:=fun _ H'=>Q .non H',rt:=Q } (start N vs) H):FnOk P w K mg base CX0 (k + 1) f fd ps sp:=by
  obtain ⟨oc,od,kV,doc,pm,an,cdv,ct,osl,rfl,lk,hcd⟩:=F.ex
  refine fn_of lk hcd S len fun A outer s H vs Q E hr hsp=>?_
  obtain ⟨t,h,q⟩:=hbody cdv A outer s H vs Q E hr hsp
  exact ⟨t,h.nox,q⟩
theorem Fun.binds {x qual:Str}{st:Stmt}{f:Addr}{fd:FuncData}{ps:List Str}(F:Fun K x qual st f fd)
    (h:∀ (kV doc pm:Value) (an:Option Addr) (cdv ct:Value) (us:List Value),us.length=ps.length→bindArgs (PySem.W.fnOf x qual (defArgs st) (defBody st) (defScope st) .none kV doc pm an cdv ct) ⟨us,[]⟩=pure (ps.zip us)):Binds K fd ps []:=by
  obtain ⟨oc,od,kV,doc,pm,an,cdv,ct,osl,rfl,lk,hcd⟩:=F.ex
  exact .all (h kV doc pm an cdv ct)
theorem fun_mk {x qual:Str}{st:Stmt}{f:Addr}{oc:Value}{od an:Option Addr}{osl:Array (Option Value)}{kV doc pm cdv ct:Value}(l:K.lookup f=some ⟨oc,od,.func (PySem.W.fnOf x qual (defArgs st) (defBody st) (defScope st) .none kV doc pm an cdv ct),osl⟩)
    (c:PySem.W.codeIn K cdv qual=true) (k:PySem.W.keepIn K (.ref f)=true):Fun K x qual st f (PySem.W.fnOf x qual (defArgs st) (defBody st) (defScope st) .none kV doc pm an cdv ct):=⟨⟨oc,od,kV,doc,pm,an,cdv,ct,osl,rfl,l,c⟩,k⟩
end
theorem small1000 {n:Nat}(h:n≤1000):n < sizeLine:=Nat.lt_of_le_of_lt h (by decide)
section
variable {X:Cx}
theorem pv (i:Nat) {x:Str}{pos:Pos}(hN:X.N[i]?=some x:=by rfl) (hv:Vis X.env.scope x:=by first | exact Or.inl rfl | exact Or.inr (Or.inl rfl) | exact Or.inr (Or.inr rfl)) (hd:(x == ("__debug__":Str))=false:=by decide)
    (hcd:(x == ("__classdict__":Str))=false:=by decide):PE X (.Name x pos) (tVar i):=pe_var hN hv hd hcd
end
theorem iteF {A B:Prop}(h:B):if false=true then A else B:=by
  rw [if_neg Bool.false_ne_true]
  exact h
theorem iteT {A B:Prop}(h:A):if true=true then A else B:=by
  rw [if_pos rfl]
  exact h
theorem ite2 {c A B:Prop} [Decidable c] (h1:c→A) (h2:¬ c→B):if c then A else B:=by
  by_cases h:c
  · rw [if_pos h]
    exact h1 h
  · rw [if_neg h]
    exact h2 h
theorem iteNS {c A B:Prop} [Decidable c] (hc:c) (h:B):if (!decide c)=true then A else B:=by
  rw [decide_eq_true hc]
  exact iteF h
def Same (H H':Hp):Prop:=∀ b o,H b=some o→H' b=some o
theorem Same.refl (H:Hp):Same H H:=fun _ _ h=>h
theorem Same.trans {H H1 H2:Hp}(a:Same H H1) (b:Same H1 H2):Same H H2:=fun c o h=>b c o (a c o h)
theorem Same.free {H H':Hp}(e:Same H H') {l:Addr}(h:H' l=Option.none):H l=Option.none:=by
  cases q:H l with
  | none=>rfl
  | some o =>
    rw [e l o q] at h
    cases h
theorem Same.seq {K:PySem.W.Frag}{H H':Hp}{a:Addr}{xs:List V}(e:Same H H') (h:SqL K H a xs):SqL K H' a xs:=by
  rcases h with (h | ⟨o,h⟩) | h
  · exact .inl (.inl (e _ _ h))
  · exact .inl (.inr ⟨o,e _ _ h⟩)
  · exact .inr h
end L2
set_option maxHeartbeats 2000000
namespace L2
open PySem PySem.Spec PyProof.Rows
section
variable {κ:Type} [DecidableEq κ]
def valV (kvs:List (κ×V)) (k:κ):Option V:=(kvs.find? fun kv=>decide (kv.1=k)).map (·.2)
def putK (kvs:List (κ×V)) (k:κ) (v:V):List (κ×V) :=
  if (kvs.any fun kv=>decide (kv.1=k))=true then kvs.map (fun kv=>if kv.1=k then (kv.1,v) else kv) else kvs ++ [(k,v)]
theorem valV_pos {p:κ×V}{r:List (κ×V)}{k:κ}(e:p.1=k):valV (p :: r) k=some p.2:=by simp [valV,List.find?_cons,e]
theorem valV_neg {p:κ×V}{r:List (κ×V)}{k:κ}(e:¬ p.1=k):valV (p :: r) k=valV r k:=by simp [valV,List.find?_cons,e]
theorem valV_any (k:κ):∀ kvs:List (κ×V),(kvs.any fun kv=>decide (kv.1=k))=(valV kvs k).isSome
  | []=>rfl
  | p :: r=>by
    rw [List.any_cons]
    by_cases e:p.1=k
    · simp only [valV_pos e,decide_eq_true e,Bool.true_or,Option.isSome_some]
    · rw [valV_neg e,decide_eq_false e,Bool.false_or];exact valV_any k r
theorem length_putK (kvs:List (κ×V)) (k:κ) (v:V):(putK kvs k v).length≤kvs.length + 1:=by
  unfold putK
  split
  · rw [List.length_map];omega
  · rw [List.length_append,List.length_cons,List.length_nil];omega
theorem putK_new {kvs:List (κ×V)}{k:κ}(v:V) (h:valV kvs k=none):putK kvs k v=kvs ++ [(k,v)]:=by
  unfold putK
  rw [valV_any,h]
  exact if_neg (by decide)
theorem RelO.isSome_eq {o:Option V}{u:Option Value}(r:RelO o u):o.isSome=u.isSome:=by
  cases o with
  | none=>cases u with
    | none=>rfl
    | some _=>exact (show False from r).elim
  | some _=>cases u with
    | none=>exact (show False from r).elim
    | some _=>rfl
theorem KV.any {kvs:List (κ×V)}{vs:List (κ×Value)}(r:KV kvs vs) (k:κ):(kvs.any fun kv=>decide (kv.1=k))=vs.any fun kv=>decide (kv.1=k):=by
  unfold KV at r
  induction r with
  | nil=>rfl
  | cons h t ih=>rw [List.any_cons,List.any_cons,ih,h.1]
theorem KV.repl {kvs:List (κ×V)}{vs:List (κ×Value)}(r:KV kvs vs) (k:κ) {y:V}{u:Value}(ry:RelV y u) :
    KV (kvs.map fun kv=>if kv.1=k then (kv.1,y) else kv) (vs.map fun kv=>if kv.1=k then (kv.1,u) else kv):=by
  unfold KV at r ⊢
  induction r with
  | nil=>exact .nil
  | @cons p q ps qs h t ih =>
    rw [List.map_cons,List.map_cons]
    refine .cons ?_ ih
    obtain ⟨h1,h2⟩:=h
    by_cases e:p.1=k
    · rw [if_pos e,if_pos (h1.symm.trans e)];exact ⟨h1,ry⟩
    · rw [if_neg e,if_neg (fun z=>e (h1.trans z))];exact ⟨h1,h2⟩
theorem KV.put {kvs:List (κ×V)}{vs:List (κ×Value)}(r:KV kvs vs) (k:κ) {y:V}{u:Value}(ry:RelV y u):KV (putK kvs k y) (stored vs k u):=by
  unfold putK stored
  rw [r.any k]
  by_cases e:(vs.any fun kv=>decide (kv.1=k))=true
  · rw [if_pos e,if_pos e];exact r.repl k ry
  · rw [if_neg e,if_neg e];exact Paired.snoc r ⟨rfl,ry⟩
theorem KV.length {kvs:List (κ×V)}{vs:List (κ×Value)}(r:KV kvs vs):kvs.length=vs.length:=Paired.length r
end
theorem kV_is {P:Program}{w:World}{k:Key}{u:Value}(r:RelV (kV k) u):(mixKind P w).is k u=true:=by
  cases k with
  | inl i=>obtain ⟨t,e⟩:=(show ∃ t,u=Value.int i t from r);subst e;exact mixKind_int P w i t
  | inr x=>obtain ⟨t,e⟩:=(show ∃ t,u=Value.str x t from r);subst e;exact mixKind_str P w x t
theorem items_are {P:Program}{w:World}:∀ {ks:List Key}{us:List Value},Vals (ks.map kV) us→ItemsAre (mixKind P w) ks us
  | [],_,r=>by rw [List.map_nil] at r;cases r;exact .nil
  | k :: ks,_,r=>by
    rw [List.map_cons] at r
    cases r with
    | cons h t=>exact .cons (kV_is h) (items_are t)
abbrev KT (H:Hp):List (List Key×V)→List (List Key×Addr×Value)→Prop:=Paired fun p q=>p.1=q.1∧H q.2.1=some (.tup (p.1.map kV))∧RelV p.2 q.2.2
theorem KT.val {H:Hp}{kvs:List (List Key×V)}{xs:List (List Key×Addr×Value)}(r:KT H kvs xs) (k:List Key):RelO (valV kvs k) ((atKey xs k).map (·.2)):=by
  induction r with
  | nil=>exact True.intro
  | @cons p q ps qs h t ih =>
    obtain ⟨h1,_,h2⟩:=h
    by_cases e:p.1=k
    · have e':q.1=k:=h1.symm.trans e
      have b:atKey (q :: qs) k=some q.2:=by simp [atKey,List.find?_cons,e']
      rw [valV_pos e,b];exact h2
    · have e':¬ q.1=k:=fun z=>e (h1.trans z)
      have b:atKey (q :: qs) k=atKey qs k:=by simp [atKey,List.find?_cons,e']
      rw [valV_neg e,b];exact ih
theorem KT.repl {H:Hp}{kvs:List (List Key×V)}{xs:List (List Key×Addr×Value)}(r:KT H kvs xs) (k:List Key) {y:V}{u:Value}(ry:RelV y u) :
    KT H (kvs.map fun kv=>if kv.1=k then (kv.1,y) else kv) (xs.map (putAt k u)):=by
  induction r with
  | nil=>exact .nil
  | @cons p q ps qs h t ih =>
    rw [List.map_cons,List.map_cons]
    refine .cons ?_ ih
    obtain ⟨h1,h2,h3⟩:=h
    unfold putAt
    by_cases e:p.1=k
    · rw [if_pos e,if_pos (h1.symm.trans e)];exact ⟨h1,h2,ry⟩
    · rw [if_neg e,if_neg (fun z=>e (h1.trans z))];exact ⟨h1,h2,h3⟩
theorem KT.put {H:Hp}{kvs:List (List Key×V)}{xs:List (List Key×Addr×Value)}(r:KT H kvs xs) (k:List Key) {b:Addr}{y:V}{u:Value}(hb:H b=some (.tup (k.map kV))) (ry:RelV y u) :
    KT H (putK kvs k y) (storedH xs k b u):=by
  have e:(kvs.any fun kv=>decide (kv.1=k))=(atKey xs k).isSome:=by
    rw [valV_any,(r.val k).isSome_eq,Option.isSome_map]
  unfold putK storedH
  rw [e]
  by_cases q:(atKey xs k).isSome=true
  · rw [if_pos q,if_pos q];exact r.repl k ry
  · rw [if_neg q,if_neg q];exact Paired.snoc r ⟨rfl,hb,ry⟩
theorem KT.keeps {H H':Hp}{kvs:List (List Key×V)}{xs:List (List Key×Addr×Value)}(r:KT H kvs xs) (ht:∀ b ys,H b=some (.tup ys)→H' b=some (.tup ys)):KT H' kvs xs :=
  Paired.mapP r fun _ _ z=>⟨z.1,ht _ _ z.2.1,z.2.2⟩
section
variable {P:Program}{w:World}{H:Hp}{h:Heap}{a:Addr}
theorem rd_of {u:HO}(ok:HOk P w H h) (e:Rd H a u):ObjOk P w H h a u:=e.ok ok
theorem dk_rd {kvs:List (Key×V)}(ok:HOk P w H h) (e:Rd H a (.dK kvs)):kvs.length≤sizeLine∧(a == sysModules)=false∧∃ vs,KV kvs vs∧h.DictOf (mixKind P w) a vs :=
  show ObjOk P w H h a (.dK kvs) from rd_of ok e
theorem dk_of {kvs:List (Key×V)}(ok:HOk P w H h) (e:H a=some (.dK kvs)):kvs.length≤sizeLine∧(a == sysModules)=false∧∃ vs,KV kvs vs∧h.DictOf (mixKind P w) a vs:=dk_rd ok (.inl e)
theorem key_of {ks:List Key}(ok:HOk P w H h) (e:H a=some (.tup (ks.map kV))):(tupleKind (mixKind P w)).is h ks a:=by
  obtain ⟨_,its,r,o,h1,h2,n,h3⟩:=(show ObjOk P w H h a (.tup (ks.map kV)) from ok a _ e)
  exact ⟨o,its.toArray,n,h1,h2,h3,by simpa using items_are r⟩
theorem dt_rd {kvs:List (List Key×V)}(ok:HOk P w H h) (e:Rd H a (.dT kvs)):kvs.length≤sizeLine∧(a == sysModules)=false ∧
    ∃ xs,KT H kvs xs∧h.DictOfH (tupleKind (mixKind P w)) a xs:=by
  obtain ⟨z,y,xs,r,o,es,ep,h1,h2,h3,h4,h5⟩:=(show ObjOk P w H h a (.dT kvs) from rd_of ok e)
  refine ⟨z,y,xs,r,o,es,ep,h1,h2,h3,h4,fun x hx=>?_,h5⟩
  have all:∀ {l:List (List Key×V)} {m:List (List Key×Addr×Value)},KT H l m→∀ x∈m,(tupleKind (mixKind P w)).is h x.1 x.2.1:=by
    intro l m q
    induction q with
    | nil=>intro x hx;exact nomatch hx
    | @cons p q ps qs hq t ih =>
      intro x hx
      rcases List.mem_cons.mp hx with e | hx
      · subst e
        exact key_of ok (by rw [← hq.1];exact hq.2.1)
      · exact ih x hx
  exact all r x hx
theorem dt_of {kvs:List (List Key×V)}(ok:HOk P w H h) (e:H a=some (.dT kvs)):kvs.length≤sizeLine∧(a == sysModules)=false ∧
    ∃ xs,KT H kvs xs∧h.DictOfH (tupleKind (mixKind P w)) a xs:=dt_rd ok (.inl e)
end
def DPut (H:Hp) (a:Addr) (y v:V) (H':Hp):Prop :=
  (∃ kvs k,H a=some (.dK kvs)∧y=kV k∧kvs.length < sizeLine∧H'=upd H a (.dK (putK kvs k v))) ∨
  ∃ kvs k b,H a=some (.dT kvs)∧y=.ref b∧H b=some (.tup (k.map kV))∧kvs.length < sizeLine∧H'=upd H a (.dT (putK kvs k v))
theorem DPut.k {H:Hp}{a:Addr}{kvs:List (Key×V)}{k:Key}{v:V}(e:H a=some (.dK kvs)) (hl:kvs.length < sizeLine):DPut H a (kV k) v (upd H a (.dK (putK kvs k v))):=.inl ⟨kvs,k,e,rfl,hl,rfl⟩
section
variable {X:Cx}{pins:List (Addr×Obj)}{σ:St}{H:Hp}{s:Shared}{a:Addr}{y v:V}{u r:Value}{o:Option V}{A:Around}{E:Value→Shared→Prop}
theorem Inv.big (I:Inv X pins σ H s):sysModules < s.heap.objs.size:=by
  have h:mainGlobals < s.heap.objs.size:=(I.mod.glob.keeps I.bk).lt
  exact Nat.lt_trans (by decide) h
theorem d_write {h':Heap}{t':Nat}{ob:HO}(I:Inv X pins σ H s) (mu:Mut (H a)) (hs:Heap.SameBut a s.heap h') (he:∃ q,h'.get? a=some q) (new:ObjOk X.prog X.w (upd H a ob) h' a ob) :
    Inv X pins σ (upd H a ob) { s with heap:=h',toks:=t' } :=
  I.write (x:=a) (e:=a) mu (.inl rfl) (fun b q hb z=>(hs.2 b hb).trans z) he new
theorem dk_new {P:Program}{w:World}{H':Hp}{h':Heap}{kvs:List (Key×V)}{vs:List (Key×Value)}(z:kvs.length≤sizeLine) (hd:(a == sysModules)=false) (rel:KV kvs vs) (dd:h'.DictOf (mixKind P w) a vs) :
    ObjOk P w H' h' a (.dK kvs):=⟨z,hd,vs,rel,dd⟩
theorem d_setItem {H':Hp}{Q:Unit→Shared→Prop}(hu:A.units + 1 < cLine) (I:Inv X pins σ H s) (g:DPut H a y v H') (ry:RelV y u) (rv:RelV v r) (h:∀ s',Inv X pins σ H' s'→Q () s') :
    wpAny (model X.prog X.w) A (setItem (.ref a) u r) Q E s:=by
  rcases g with ⟨kvs,k,e,ey,l,eH⟩ | ⟨kvs,k,b,e,ey,eb,l,eH⟩
  · subst ey eH
    obtain ⟨z,hd,vs,rel,dd⟩:=dk_of I.hok e
    have hz:vs.length≤sizeLine:=by rw [← rel.length];exact z
    have hl:(putK kvs k v).length≤sizeLine:=by have:=length_putK kvs k v;omega
    refine wpAny_setItem_pairs (hsz:=hz) (kV_is ry) dd fun h' dd' hs=>h _ ?_
    have he:∃ q,h'.get? a=some q:=let ⟨q,_,_,hq,_⟩:=dd';⟨q,hq⟩
    exact d_write I (by rw [e];exact True.intro) hs he (dk_new hl hd (rel.put k rv) dd')
  · subst ey eH
    cases (show u=Value.ref b from ry)
    obtain ⟨z,hd,xs,rel,dd⟩:=dt_of I.hok e
    have hz:xs.length≤sizeLine:=by rw [← Paired.length rel];exact z
    have hl:(putK kvs k v).length≤sizeLine:=by have:=length_putK kvs k v;omega
    refine wpAny_setItem_heap (hsz:=hz) (tupleKind_room_in1 hu) (key_of I.hok eb) dd fun h' dd' hs=>h _ ?_
    obtain ⟨q,es,ep,hq,h2,h3,h4,_,h5⟩:=dd'
    refine d_write I (by rw [e];exact True.intro) hs ⟨q,hq⟩ ⟨hl,hd,_,(rel.put k eb rv).keeps fun c ys ec=>?_,q,es,ep,hq,h2,h3,h4,h5⟩
    rw [upd_ne (ne_of ec e (fun z=>nomatch z))]
    exact ec
end
section
variable {X:Cx}{pins:List (Addr×Obj)}{σ:St}{H:Hp}{s:Shared}{a:Addr}{kvs:List (Key×V)}{k:Key}{u:Value}{A:Around}{E:Value→Shared→Prop}
end
def sDPut (td ty tv:TE):TS:=fun D σ H=>tv σ H fun v H1=>td σ H1 fun x H2=>ty σ H2 fun y H3=>∃ a H4,x=.ref a∧DPut H3 a y v H4∧D.nx σ H4
section
variable {X:Cx}{o i e value:Expr}{pos pos' tpos:Pos}{td ty tv:TE}
theorem ps_dput (hu:X.A.units + 1 < cLine) (ho:PE X o td) (hi:PE X i ty) (hv:PE X value tv) (hs:swapsWith value (some (.Subscript o i pos')) pos.line X.env=pure false) :
    PS X (.Assign [.Subscript o i pos'] value pos) (sDPut td ty tv):=by
  intro pins s σ H D I h
  refine wpAny_Assign_Subscript (thn (hv pins s σ H _ I h) fun r s1 ⟨v,H1,I1,rv,q1⟩=>thn (ho pins s1 σ H1 _ I1 q1) fun u s2 ⟨x,H2,I2,rx,q2⟩=>thn (hi pins s2 σ H2 _ I2 q2) fun iv s3 ⟨y,H3,I3,ry,a,H4,ex,g,q3⟩=>?_) hs
  subst ex
  obtain rfl:u=Value.ref a:=rx
  exact d_setItem hu I3 g ry rv fun s4 I4=>⟨σ,H4,I4,q3⟩
end
theorem dk_empty {P:Program} {w:World} {H:Hp} (h:Heap) (hb:sysModules < h.objs.size):ObjOk P w H (h.push { cls:=.type "dict",data:=.dict #[] }) h.objs.size (.dK []) :=
  ⟨Nat.zero_le _,beq_eq_false_iff_ne.mpr (Ne.symm (Nat.ne_of_lt hb)),[],.nil,Heap.DictOf.new h⟩
def tDNewK:TE:=fun _ H Q=>∀ p,H p=none→Q (.ref p) (upd H p (.dK []))
section
variable {X:Cx}{pos:Pos}
theorem pe_dnewK:PE X (.Dict [] [] pos) tDNewK:=fun pins s σ H Q I h =>
  wpAny_Dict_empty ⟨.ref s.heap.objs.size,_,I.laid (a:=s.heap.objs.size) (o:=.dK []) (t':=s.toks) (fun _ _ q=>Heap.get?_push_of_some _ q) (Nat.le_refl _) (dk_empty s.heap I.big),rfl,h _ (I.hok.fresh (Nat.le_refl _))⟩
end
section
variable {X:Cx}{pins:List (Addr×Obj)}{σ:St}{H:Hp}{s:Shared}{a:Addr}{y d:V}{u r:Value}{o:Option V}{A:Around}{E:Value→Shared→Prop}
end
section
variable {X:Cx}{o e f:Expr}{apos cpos:Pos}{td ty tx:TE}
end
section
variable {X:Cx}{pins:List (Addr×Obj)}{σ:St}{H:Hp}{s:Shared}{a:Addr}{kvs:List (Key×V)}{A:Around}{E:Value→Shared→Prop}
end
section
variable {X:Cx}{pins:List (Addr×Obj)}{σ:St}{H:Hp}{s:Shared}{a:Addr}{y:V}{u:Value}{A:Around}{E:Value→Shared→Prop}
end
end L2
namespace L2
open PySem PySem.Spec PyProof.Rows
section
variable {X:Cx}
end
section
variable {κ:Type} [DecidableEq κ]
end
end L2
namespace PySem
open Sem (wp)
open AutoSeq1 (wpAny_loadPart')
section
variable {prog:Program}{w:World}{A:Around}{E:Value→Shared→Prop}{s:Shared}
end
section
variable {prog:Program}{w:World}{A:Around}{E:Value→Shared→Prop}{s:Shared}
end
end PySem
namespace L2
open PySem PySem.Spec PyProof.Rows
def closL (cells:List (Str×Addr)) (names:List (Str×NameKind)):List (Str×Addr) :=
  (names.filterMap fun y=>if y.2 == .free then (cells.lookup y.1).map (fun c=>(y.1,c)) else none).reverse
theorem closL_mem {cells:List (Str×Addr)}{names:List (Str×NameKind)}{x:Str}{c:Addr}(h:(x,c)∈closL cells names):(x,NameKind.free)∈names∧cells.lookup x=some c:=by
  unfold closL at h
  rw [List.mem_reverse,List.mem_filterMap] at h
  obtain ⟨⟨y,k⟩,hy,e⟩:=h
  by_cases hk:k=.free
  · subst hk
    simp only [beq_self_eq_true,if_true] at e
    cases q:cells.lookup y with
    | none=>rw [q] at e;cases e
    | some d =>
      rw [q] at e
      cases e
      exact ⟨hy,q⟩
  · have hb:(k == NameKind.free)=false:=by simpa using hk
    simp [hb] at e
theorem lookup_of_mem {α:Type}:∀ {l:List (Str×α)}{x:Str}{c:α},(x,c)∈l→∃ d,l.lookup x=some d
  | (k,v) :: r,x,c,h=>by
    rw [List.lookup_cons]
    cases hb:x == k with
    | true=>exact ⟨v,rfl⟩
    | false =>
      rcases List.mem_cons.mp h with e | h
      · cases e
        simp at hb
      · exact lookup_of_mem h
theorem closL_look {cells:List (Str×Addr)}{names:List (Str×NameKind)}{x:Str}{c:Addr}(h:(closL cells names).lookup x=some c):(x,NameKind.free)∈names∧cells.lookup x=some c :=
  closL_mem (PySem.mem_of_lookup h)
theorem closL_has {cells:List (Str×Addr)}{names:List (Str×NameKind)}{x:Str}{c:Addr}(h:(x,NameKind.free)∈names) (hc:cells.lookup x=some c):(closL cells names).lookup x=some c:=by
  have hm:(x,c)∈closL cells names:=by
    unfold closL
    rw [List.mem_reverse,List.mem_filterMap]
    exact ⟨(x,.free),h,by simp [hc]⟩
  obtain ⟨d,hd⟩:=lookup_of_mem hm
  have:=(closL_look hd).2
  rw [hc] at this
  cases this
  exact hd
theorem closureFor_go {env:Env}(f:Str×NameKind→List (Str×Addr)→Sem (ForInStep (List (Str×Addr))))
    (hf:∀ name kind cs,f (name,kind) cs=if kind == .free then (do let a ← cellOf env name;pure (.yield ((name,a) :: cs))) else pure (.yield cs)) :
    ∀ (names:List (Str×NameKind)) (acc:List (Str×Addr)),(∀ x∈names,x.2=.free→∃ c,env.cells.lookup x.1=some c) →
      forIn names acc f=(pure (closL env.cells names ++ acc):Sem (List (Str×Addr)))
  | [],acc,_=>by rw [List.forIn_nil];rfl
  | (n,k) :: r,acc,h=>by
    rw [List.forIn_cons,hf]
    have hr:∀ x∈r,x.2=.free→∃ c,env.cells.lookup x.1=some c:=fun x hx=>h x (List.mem_cons_of_mem _ hx)
    by_cases hk:k=.free
    · subst hk
      obtain ⟨c,hc⟩:=h (n,.free) List.mem_cons_self rfl
      have e1:cellOf env n=pure c:=by unfold cellOf;rw [show env.cells.lookup n=some c from hc]
      have e2:closL env.cells ((n,NameKind.free) :: r) ++ acc=closL env.cells r ++ ((n,c) :: acc):=by
        unfold closL
        rw [List.filterMap_cons]
        simp only [beq_self_eq_true,if_true]
        rw [show env.cells.lookup n=some c from hc]
        simp
      rw [e2,← closureFor_go f hf r ((n,c) :: acc) hr]
      simp only [beq_self_eq_true,if_true]
      rw [e1]
      rfl
    · have hb:(k == NameKind.free)=false:=by simpa using hk
      have e2:closL env.cells ((n,k) :: r) ++ acc=closL env.cells r ++ acc:=by
        unfold closL
        rw [List.filterMap_cons]
        simp [hb]
      rw [e2,← closureFor_go f hf r acc hr]
      simp only [hb,Bool.false_eq_true,if_false]
      rfl
theorem closureFor_eq {scope:Scope}{env:Env}(h:∀ x∈scope.names,x.2=.free→∃ c,env.cells.lookup x.1=some c):closureFor scope env=pure (closL env.cells scope.names):=by
  unfold closureFor
  dsimp only
  rw [closureFor_go (env:=env) _ ?hf scope.names [] h]
  case hf=>intro name kind cs;rfl
  rw [List.append_nil]
  rfl
theorem cellsFrom_app:∀ (names:List (Str×NameKind)) (n:Nat) (acc:List (Str×Addr)),cellsFrom n names acc=cellsFrom n names [] ++ acc
  | [],_,_=>rfl
  | (x,k) :: r,n,acc=>by
    unfold cellsFrom
    split
    · rw [cellsFrom_app r (n + 1) ((x,n) :: acc),cellsFrom_app r (n + 1) [(x,n)]];simp
    · exact cellsFrom_app r n acc
theorem cellsFrom_mem:∀ {names:List (Str×NameKind)}{n:Nat}{x:Str}{c:Addr},(x,c)∈cellsFrom n names []→(x,NameKind.cell)∈names∧n≤c
  | [],_,_,_,h=>by cases h
  | (y,k) :: r,n,x,c,h=>by
    unfold cellsFrom at h
    split at h
    · rename_i hk
      rw [cellsFrom_app] at h
      rcases List.mem_append.mp h with h | h
      · obtain ⟨h1,h2⟩:=cellsFrom_mem h
        exact ⟨List.mem_cons_of_mem _ h1,by omega⟩
      · have:(x,c)=(y,n):=by simpa using h
        cases this
        have:k=.cell:=by simpa using hk
        subst this
        exact ⟨List.mem_cons_self,Nat.le_refl _⟩
    · obtain ⟨h1,h2⟩:=cellsFrom_mem h
      exact ⟨List.mem_cons_of_mem _ h1,h2⟩
theorem cellsFrom_has:∀ {names:List (Str×NameKind)}{n:Nat}{x:Str},(x,NameKind.cell)∈names→∃ c,(x,c)∈cellsFrom n names []
  | (y,k) :: r,n,x,h=>by
    unfold cellsFrom
    split
    · rw [cellsFrom_app]
      rcases List.mem_cons.mp h with e | h
      · cases e;exact ⟨n,by simp⟩
      · obtain ⟨c,hc⟩:=cellsFrom_has (n:=n + 1) h
        exact ⟨c,List.mem_append_left _ hc⟩
    · rename_i hk
      rcases List.mem_cons.mp h with e | h
      · cases e;simp at hk
      · exact cellsFrom_has h
theorem cellsFrom_lt:∀ {names:List (Str×NameKind)}{h:Heap}{x:Str}{c:Addr},(x,c)∈cellsFrom h.objs.size names []→(pushCells h names).IsCell c none:=fun {names h x c} hm=>by
  have ok:=cellsFrom_ok names h 0 [] ⟨fun _ _ hm=>(nomatch hm),List.Pairwise.nil⟩ (Nat.zero_le _)
  exact (ok.empty x c hm).1
theorem cellsFrom_apart (names:List (Str×NameKind)) (h:Heap):(cellsFrom h.objs.size names []).Pairwise fun x y=>x.2≠y.2 :=
  (cellsFrom_ok names h 0 [] ⟨fun _ _ hm=>(nomatch hm),List.Pairwise.nil⟩ (Nat.zero_le _)).apart
theorem lookup_app {α:Type}(x:Str):∀ (a b:List (Str×α)) ,(a ++ b).lookup x=(a.lookup x).or (b.lookup x)
  | [],b=>by simp
  | (k,v) :: r,b=>by
    show List.lookup x ((k,v) :: (r ++ b))=_
    rw [List.lookup_cons,List.lookup_cons]
    cases hb:x == k with
    | true=>rfl
    | false=>exact lookup_app x r b
theorem wpAny_newCompEnv {M:Model}{A:Around}{E:Value→Shared→Prop}{s:Shared}{scope:Scope}{globals:Addr}{cl:List (Str×Addr)}{qual:Str}{env:Env}{Q:Env→Shared→Prop}
    (hQ:Q { scope,locals:=s.heap.objs.size,globals,cells:=cellsFrom (s.heap.objs.size + 1) scope.names [] ++ cl,qual,func:=none,code:=env.code,frame:=env.frame,builtins:=env.builtins }
      { s with heap:=pushCells (s.heap.push { cls:=.type "dict",data:=.dict #[] }) scope.names }) :
    wpAny M A (newFunctionEnv scope globals cl [] qual none .none (some env)) Q E s:=by
  simp only [newFunctionEnv,Option.isSome_some,if_true]
  refine wpAny_bind (wpAny_alloc ?_)
  refine wpAny_bind (wpAny_layCells _ (fun name kind cells=>by cases hkc:kind == NameKind.cell<;>simp [hkc]) _ _ _ _ ?_)
  rw [show ({ s with heap:=s.heap.push { cls:=.type "dict",data:=.dict #[] } }:Shared).heap.objs.size=s.heap.objs.size + 1 from Heap.size_push ..,cellsFrom_app]
  rw [List.forIn_nil]
  exact wpAny_bind (wpAny_pure (wpAny_pure hQ))
section
variable {prog:Program}{w:World}{A:Around}{R:Result→Shared→Prop}{s:Shared}
theorem compLoop_gen {elt target iter:Expr}{ifs:List Expr}{scope:Scope}{pos:Pos}{it acc:Value}{env:Env}(I:Nat→Shared→Prop)
    (turn:∀ n s,I n s→wpAny (model prog w) A (pyNext it) (fun r s₁=>match r with
      | none=>R (.ok .next) s₁
      | some v=>wpAny (model prog w) A (letOwnedTupleGo target it v) (fun _ s₁'=>wpAny (model prog w) A (assign target env v) (fun _ s₂ =>
          wpAny (model prog w) A (forIn ifs true fun c r=>if r=true then do let ok ← isTrue c env (eval c env);pure (ForInStep.yield ok) else pure (ForInStep.yield r)) (fun ok s₃ =>
            if ok=true then wpAny (model prog w) A (eval elt env) (fun x s₄ =>
              wpAny (model prog w) A (call (.builtin "list.append") [acc,x]) (fun _ s₅=>∃ m,m < n∧I m s₅) (fun _ _=>False) s₄) (fun _ _=>False) s₃
            else ∃ m,m < n∧I m s₃) (fun _ _=>False) s₂) (fun _ _=>False) s₁') (fun _ _=>False) s₁) (fun _ _=>False) s)
    (n:Nat) (h:I n s) :
    codeAny (model prog w) A (.compLoop (.ListComp elt [⟨target,iter,ifs,0⟩] scope pos) 0 it acc env) R s:=by
  refine codeAny_loop rfl I (fun n s hI=>?_) n h
  show wpAny _ A ((compTurn (.ListComp elt [⟨target,iter,ifs,0⟩] scope pos) 0 it acc env).onRaise (fun x=>do noteFrame x env;theTreesLotGoes x)) _ _ s
  refine wpAny_noted ?_
  rw [compTurn_list]
  refine wpAny_bind (wpAny_standAt (wpAny_bind (wpAny_mono (turn n s hI) (fun r s₁ h₁=>?_) fun _ _ h'=>h'.elim)))
  cases r with
  | none=>exact wpAny_pure h₁
  | some v =>
    refine wpAny_bind (wpAny_mono h₁ (fun _ s₁' h₁'=>?_) fun _ _ h'=>h'.elim)
    refine wpAny_bind (wpAny_mono h₁' (fun _ s₂ h₂=>wpAny_bind (wpAny_mono h₂ (fun ok s₃ h₃=>?_) fun _ _ h'=>h'.elim)) fun _ _ h'=>h'.elim)
    cases ok with
    | false=>exact wpAny_pure ⟨rfl,h₃⟩
    | true =>
      exact wpAny_bind (wpAny_bind (wpAny_mono h₃ (fun x s₄ h₄=>wpAny_bind (wpAny_mono h₄ (fun _ s₅ h₅=>wpAny_pure (wpAny_pure ⟨rfl,h₅⟩)) fun _ _ h'=>h'.elim)) fun _ _ h'=>h'.elim))
end
def ownCell (sc:Scope) (x:Str):Bool:=sc.names.lookup x == some .cell
def compCx (X:Cx) (scope:Scope) (N':List Str) (cells:List (Str×Addr)) (C:Addr) (s₀:Shared) (H₀:Hp) (fp:List Addr) (pins:List (Addr×Obj)):Cx :=
  { prog:=X.prog,w:=X.w,K:=X.K,mg:=X.mg,base:=X.base,A:=X.A,N:=N',s₀:=s₀,H₀:=H₀,env:=compEnvC scope cells C X.env,outer:=X.stack,stack:=X.stack,ex:=fp,fn:=ownCell scope,calm:=X.calm,pn:=X.pn ++ pins,xe:=fun _ _=>False }
def capS (cap:List (Option Nat)) (σ:St):St:=cap.map fun o=>o.bind fun i=>(σ[i]?).join
structure CompOk (X:Cx) (scope:Scope) (N':List Str) (cap:List (Option Nat)):Prop where
  kind:scope.kind=.function
  uniq:∀ y∈scope.names,scope.names.lookup y.1=some y.2
  fre:∀ y∈scope.names,y.2=.free→X.env.scope.names.lookup y.1=some .cell∨X.env.scope.names.lookup y.1=some .free
  len:cap.length=N'.length
  cap:∀ (j i:Nat),cap[j]?=some (some i)→∃ x,N'[j]?=some x∧X.N[i]?=some x∧scope.names.lookup x=some .free
theorem relabel_look {scope:Scope}{env:Env}(x:Str):(relabel scope env).names.lookup x=(scope.names.lookup x).map fun k=>if (k == .free && env.scope.kind == .function && env.kindOf x == some .cell)=true then .cell else k:=by
  unfold relabel
  show List.lookup x (scope.names.map fun (n,k)=>if (k == NameKind.free && env.scope.kind == .function && env.kindOf n == some .cell)=true then (n,NameKind.cell) else (n,k))=_
  induction scope.names with
  | nil=>rfl
  | cons y r ih =>
    obtain ⟨n,k⟩:=y
    rw [List.map_cons]
    dsimp only
    by_cases hc:(k == NameKind.free && env.scope.kind == .function && env.kindOf n == some .cell)=true
    · rw [if_pos hc,List.lookup_cons,List.lookup_cons]
      cases hb:x == n with
      | true =>
        have:x=n:=beq_iff_eq.mp hb
        subst this
        simp only [Option.map_some,hc,if_true]
      | false=>exact ih
    · rw [if_neg hc,List.lookup_cons,List.lookup_cons]
      cases hb:x == n with
      | true =>
        have:x=n:=beq_iff_eq.mp hb
        subst this
        simp only [Option.map_some,hc,Bool.false_eq_true,if_false]
      | false=>exact ih
def PIfs (X:Cx) (ifs:List Expr) (t:TT):Prop :=
  ∀ (pins:List (Addr×Obj)) (s:Shared) (σ:St) (H:Hp) (Q:Bool→Hp→Prop),Inv X pins σ H s→t σ H Q →
    wpAny (model X.prog X.w) X.A (forIn ifs true fun c r=>if r=true then do let ok ← isTrue c X.env (eval c X.env);pure (ForInStep.yield ok) else pure (ForInStep.yield r)) (TP X pins σ Q) X.xe s
def tTrue:TT:=fun _ H Q=>Q true H
theorem pifs_nil {X:Cx}:PIfs X [] tTrue:=fun _ _ _ H _ I h=>wpAny_tests_nil ⟨H,I,h⟩
theorem pifs_one {X:Cx}{c:Expr}{t:TT}(hc:PT X c t):PIfs X [c] t:=fun pins s σ H Q I h=>wpAny_tests_one (hc pins s σ H Q I h)
def CompR (cap:List (Option Nat)) (g:TG) (tt:TT) (te:TE) (σ:St) (Q:VK) (J:It) (H1:Hp):Prop:=∃ (n:Nat) (W:Nat→List V→St→Hp→Prop),n≤sizeLine∧W 0 [] (capS cap σ) H1 ∧
  ∀ i ys σ' H,W i ys σ' H→i≤n∧ys.length≤i ∧
    ((J.stop i H∧∀ D,H D=none→Q (.ref D) (upd H D (.lst ys))) ∨
     (J.go i H∧i < n∧∀ x H',J.yld i H x H'→g x σ' H' fun σ2 H2=>tt σ2 H2 fun b H3=>if b=true then te σ2 H3 fun v H4=>W (i + 1) (ys ++ [v]) σ2 H4 else W (i + 1) ys σ2 H3))
def tComp (wi:TI) (cap:List (Option Nat)) (g:TG) (tt:TT) (te:TE):TE:=fun σ H Q=>wi σ H (CompR cap g tt te σ Q)
end L2
namespace L2
open PySem PySem.Spec PyProof.Rows
local macro_rules | `(tactic| walk_at "om") => `(tactic| first | omega | (unfold Addr at *; omega))
section
variable {X:Cx}{pins:List (Addr×Obj)}{σ:St}{H:Hp}{s:Shared}
theorem Inv.frs_lt (I:Inv X pins σ H s) {b:Addr}(hb:b∈frs X.stack):b < s.heap.objs.size:=by
  rcases List.mem_cons.mp (I.stkSub b hb) with e | h
  · rw [e];exact I.lt
  · exact Nat.lt_of_not_le fun z=>I.nofs z h
theorem Inv.cell_lt (I:Inv X pins σ H s) {x:Str}{c:Addr}(h:X.env.cells.lookup x=some c):c < s.heap.objs.size:=let ⟨_,z⟩:=I.cell x c h;z.lt
theorem Inv.pin_lt (I:Inv X pins σ H s) {p:Addr×Obj}(h:p∈X.pn ++ pins):p.1 < s.heap.objs.size:=Heap.lt_size (I.pin p h).1
theorem comp_ok {scope:Scope}{N':List Str}{cap:List (Option Nat)}{fp:List Addr}{h5:Heap}{C:Addr}(I:Inv X pins σ H s) (ok:CompOk X scope N' cap) (f2:∀ b∈fp,FpOk X pins H b) (hlt:∀ b∈fp,b < s.heap.objs.size)
    (hC:s.heap.objs.size≤C) (h5C:h5.objs.size=C + 1) :
    (compCx X scope N' (cellsFrom (C + 1) scope.names [] ++ closL X.env.cells scope.names) C s H fp pins).Ok where
  mod:=I.ok.mod
  kind:=by show (relabel scope X.env).kind=_;exact ok.kind
  glob:=I.ok.glob
  blt:=I.ok.blt
  above:=hC
  inj:=fun x y c hx hy=>by
    have hx:(cellsFrom (C + 1) scope.names [] ++ closL X.env.cells scope.names).lookup x=some c:=hx
    have hy:(cellsFrom (C + 1) scope.names [] ++ closL X.env.cells scope.names).lookup y=some c:=hy
    rw [lookup_app] at hx hy
    have ap:=cellsFrom_apart scope.names h5
    rw [h5C] at ap
    cases ex:(cellsFrom (C + 1) scope.names []).lookup x with
    | some d =>
      rw [ex] at hx;cases hx
      have mx:=PySem.mem_of_lookup ex
      cases ey:(cellsFrom (C + 1) scope.names []).lookup y with
      | some e =>
        rw [ey] at hy;cases hy
        exact name_of_addr ap mx (PySem.mem_of_lookup ey)
      | none =>
        rw [ey] at hy
        have:=I.cell_lt (closL_look hy).2
        have:=(cellsFrom_mem mx).2
        walk_at "om"
    | none =>
      rw [ex] at hx
      have lx:=I.cell_lt (closL_look hx).2
      cases ey:(cellsFrom (C + 1) scope.names []).lookup y with
      | some e =>
        rw [ey] at hy;cases hy
        have:=(cellsFrom_mem (PySem.mem_of_lookup ey)).2
        walk_at "om"
      | none =>
        rw [ey] at hy
        exact I.ok.inj x y c (closL_look hx).2 (closL_look hy).2
  has:=fun x hx=>by
    have hx:(relabel scope X.env).names.lookup x=some .cell∨(relabel scope X.env).names.lookup x=some .free:=hx
    rw [relabel_look] at hx
    show ∃ c,(cellsFrom (C + 1) scope.names [] ++ closL X.env.cells scope.names).lookup x=some c
    rw [lookup_app]
    cases e:scope.names.lookup x with
    | none=>rw [e] at hx;rcases hx with hx | hx<;>cases hx
    | some k =>
      have hm:=PySem.mem_of_lookup e
      by_cases hk:k=.cell
      · subst hk
        obtain ⟨c,hc⟩:=cellsFrom_has (n:=C + 1) hm
        obtain ⟨d,hd⟩:=lookup_of_mem hc
        exact ⟨d,by rw [hd];rfl⟩
      · have hf:k=.free:=by
          rw [e] at hx
          simp only [Option.map_some] at hx
          cases k with
          | free=>rfl
          | cell=>exact absurd rfl hk
          | _=>rcases hx with hx | hx<;>simp at hx
        subst hf
        obtain ⟨c,hc⟩:=I.ok.has x (ok.fre (x,.free) hm rfl)
        cases q:(cellsFrom (C + 1) scope.names []).lookup x with
        | some d=>exact ⟨d,rfl⟩
        | none=>exact ⟨c,by rw [closL_has hm hc];rfl⟩
  cab:=fun x c hf hx=>by
    have hf:ownCell scope x=true:=hf
    have hx:(cellsFrom (C + 1) scope.names [] ++ closL X.env.cells scope.names).lookup x=some c:=hx
    rw [lookup_app] at hx
    unfold ownCell at hf
    have hm:(x,NameKind.cell)∈scope.names:=PySem.mem_of_lookup (by simpa using hf)
    obtain ⟨d,hd⟩:=cellsFrom_has (n:=C + 1) hm
    obtain ⟨d',hd'⟩:=lookup_of_mem hd
    rw [hd'] at hx;cases hx
    have:=(cellsFrom_mem (PySem.mem_of_lookup hd')).2
    show s.heap.objs.size≤c
    walk_at "om"
  hd:=I.ok.hd
  frames:=I.ok.frames
  stk:=.inl rfl
  exf:=fun b hb=>by
    have hb':=hlt b hb
    refine ⟨by show b≠C;walk_at "om",fun x c hx=>?_⟩
    have hx:(cellsFrom (C + 1) scope.names [] ++ closL X.env.cells scope.names).lookup x=some c:=hx
    rw [lookup_app] at hx
    cases ex:(cellsFrom (C + 1) scope.names []).lookup x with
    | some d =>
      rw [ex] at hx;cases hx
      have:=(cellsFrom_mem (PySem.mem_of_lookup ex)).2
      walk_at "om"
    | none =>
      rw [ex] at hx
      exact (f2 b hb).2.2.2.2.1 x c (closL_look hx).2
  bs:=I.bs
  bsz:=Nat.le_trans I.ok.bsz I.sz
  noex:=fun b o e hb=>by
    rcases (f2 b hb).2.2.2.1 with z | z
    · exact I.ok.noex b o e z
    · exact absurd (Nat.lt_of_lt_of_le (Heap.lt_size e) (Nat.le_trans I.ok.bsz z)) (Nat.lt_irrefl _)
  exfs:=fun b hb z=>by
    rcases List.mem_cons.mp (I.stkSub b z) with e | h
    · exact (f2 b hb).2.1 e
    · exact (f2 b hb).2.2.1 h
  funs:=I.stack
  frf:=I.stkFree
theorem comp_start {scope:Scope}{N':List Str}{cap:List (Option Nat)}{fp:List Addr}{h5 h4:Heap}{C D:Addr}{lo:Obj}{tk:Nat}(I:Inv X pins σ H s) (ok:CompOk X scope N' cap) (f2:∀ b∈fp,FpOk X pins H b) (hlt:∀ b∈fp,b < s.heap.objs.size)
    (hD:D=s.heap.objs.size) (hC:C=D + 1) (h5C:h5.objs.size=C + 1) (e4:h4=pushCells h5 scope.names) (hns:h5.Ns C fun _=>none) (hlo:h5.get? D=some lo) (nc:∀ v,lo.data≠.cell v)
    (old:∀ b o,s.heap.get? b=some o→h5.get? b=some o) :
    Inv (compCx X scope N' (cellsFrom (C + 1) scope.names [] ++ closL X.env.cells scope.names) C s H fp pins) [(D,lo)] (capS cap σ) H { s with heap:=h4,toks:=tk }:=by
  have k4:∀ b o,h5.get? b=some o→h4.get? b=some o:=fun b o e=>by rw [e4];exact pushCells_keeps _ _ b o e
  have old4:∀ b o,s.heap.get? b=some o→h4.get? b=some o:=fun b o e=>k4 b o (old b o e)
  have look:∀ x c,(cellsFrom (C + 1) scope.names [] ++ closL X.env.cells scope.names).lookup x=some c→((x,c)∈cellsFrom (C + 1) scope.names []∧C + 1≤c)∨((x,NameKind.free)∈scope.names∧X.env.cells.lookup x=some c):=fun x c hx=>by
    rw [lookup_app] at hx
    cases ex:(cellsFrom (C + 1) scope.names []).lookup x with
    | some d =>
      rw [ex] at hx;cases hx
      exact .inl ⟨PySem.mem_of_lookup ex,(cellsFrom_mem (PySem.mem_of_lookup ex)).2⟩
    | none =>
      rw [ex] at hx
      exact .inr (closL_look hx)
  refine ⟨comp_ok I ok f2 hlt (by walk_at "om") h5C,rfl,I.bare,Un.kept old4,⟨_,hns.keeps k4,fun j x v e1 e2 e3=>?_⟩,fun x c hx=>?_,I.hok.fresh (by show s.heap.objs.size≤C;walk_at "om"),fun x c hx=>?_,fun p hp=>?_,I.hok.kept old4,?_⟩
  · have e2:(capS cap σ)[j]?=some (some v):=e2
    unfold capS at e2
    rw [List.getElem?_map] at e2
    cases q:cap[j]? with
    | none=>rw [q] at e2;cases e2
    | some o =>
      rw [q] at e2
      cases o with
      | none=>cases e2
      | some i =>
        obtain ⟨y,hy1,hy2,hy3⟩:=ok.cap j i q
        have:N'[j]?=some x:=e1
        rw [hy1] at this
        have exy:y=x:=Option.some.inj this
        subst exy
        have hv:σ[i]?=some (some v):=by
          simp only [Option.map_some,Option.bind_some,Option.some.injEq] at e2
          cases r:σ[i]? with
          | none=>rw [r] at e2;cases e2
          | some o=>rw [r] at e2;simp at e2;rw [e2]
        have hm:=PySem.mem_of_lookup hy3
        have hk:=ok.fre _ hm rfl
        obtain ⟨m,_,hl⟩:=I.loc
        obtain ⟨u,ru,lu⟩:=hl i y v hy2 hv (by rcases hk with z | z;exact .inr (.inl z);exact .inr (.inr z))
        refine ⟨u,ru,.inr ⟨?_,?_⟩⟩
        · show (relabel scope X.env).names.lookup y=some .cell∨(relabel scope X.env).names.lookup y=some .free
          rw [relabel_look,hy3]
          simp only [Option.map_some]
          split<;>simp
        · rcases lu with ⟨z,_⟩ | ⟨_,c,hc,hcell⟩
          · have z:X.env.scope.names.lookup y=some .local:=z
            rcases hk with q | q<;>(rw [z] at q;cases q)
          · refine ⟨c,?_,hcell.keeps old4⟩
            show (cellsFrom (C + 1) scope.names [] ++ closL X.env.cells scope.names).lookup y=some c
            rw [lookup_app]
            cases ex:(cellsFrom (C + 1) scope.names []).lookup y with
            | none=>rw [closL_has hm hc];rfl
            | some d =>
              have:=(cellsFrom_mem (PySem.mem_of_lookup ex)).1
              have:=ok.uniq _ this
              rw [hy3] at this;cases this
  · rcases look x c hx with ⟨z,_⟩ | ⟨_,z⟩
    · rw [← h5C] at z
      have:=cellsFrom_lt z
      exact ⟨_,by rw [e4];exact this⟩
    · obtain ⟨v,q⟩:=I.cell x c z
      exact ⟨v,q.keeps old4⟩
  · rcases look x c hx with ⟨_,z⟩ | ⟨_,z⟩
    · exact I.hok.fresh (by walk_at "om")
    · exact I.freeC x c z
  · have hp:p∈(X.pn ++ pins) ++ [(D,lo)]:=hp
    rcases List.mem_append.mp hp with hp | hp
    · obtain ⟨e,n,ne,nf,d⟩:=I.pin p hp
      have:=I.pin_lt hp
      refine ⟨old4 _ _ e,n,by show p.1≠C;walk_at "om",fun z=>?_,d⟩
      rcases List.mem_cons.mp (I.stkSub p.1 z) with q | q
      · exact ne q
      · exact nf q
    · have:p=(D,lo):=by simpa using hp
      subst this
      refine ⟨k4 _ _ hlo,I.hok.fresh (by show s.heap.objs.size≤D;walk_at "om"),by show D≠C;walk_at "om",fun z=>?_,nc⟩
      have:D < s.heap.objs.size:=I.frs_lt z
      walk_at "om"
  · show (capS cap σ).length=N'.length
    unfold capS
    rw [List.length_map]
    exact ok.len
theorem comp_end {scope:Scope}{N':List Str}{fp:List Addr}{cells:List (Str×Addr)}{C D:Addr}{lo:Obj}{σ':St}{H':Hp}{s':Shared}{its:List Value}{k:Nat}{ys:List V}(I:Inv X pins σ H s)
    (I':Inv (compCx X scope N' cells C s H fp pins) [(D,lo)] σ' H' s') (f2:∀ b∈fp,FpOk X pins H b) (hD:s.heap.objs.size≤D) (elo:lo={ cls:=.type "list",data:=.seq its.toArray k }) (hv:Vals ys its) (hl:ys.length≤sizeLine) :
    Inv X pins σ (upd H' D (.lst ys)) s':=by
  obtain ⟨pd,pn,pc,pf,_⟩:=I'.pin (D,lo) (by show _∈(X.pn ++ pins) ++ [(D,lo)];simp)
  have pd:s'.heap.get? D=some lo:=pd
  have pn:H' D=none:=pn
  have neD:∀ b o,s.heap.get? b=some o→b≠D:=fun b o e=>Nat.ne_of_lt (Nat.lt_of_lt_of_le (Heap.lt_size e) hD)
  have B:=I'.base
  refine I.call' (ch:=fp) I'.os ⟨B.keep,B.slot,fun b o e n hx=>?_,B.there,fun b xs e=>?_,fun b o u e=>?_,fun b ps e=>?_⟩ (fun b u e=>?_) I'.bare fun b hb=>⟨(f2 b hb).2.2.2.1,(f2 b hb).2.1,(f2 b hb).2.2.2.2.1,(f2 b hb).2.2.2.2.2⟩
  · rw [upd_ne (neD b o e)];exact B.free b o e n hx
  · have:=B.tups b xs e
    rw [upd_ne (ne_of_none this pn)];exact this
  · have:=B.frzs b o u e
    rw [upd_ne (ne_of_none this pn)];exact this
  · obtain ⟨m,e'⟩:=B.tbls b ps e
    exact ⟨m,by rw [upd_ne (ne_of_none e' pn)];exact e'⟩
  · by_cases hb:b=D
    · subst hb
      rw [upd_same] at e;cases e
      exact ⟨hl,its,k,hv,by rw [pd,elo]⟩
    · rw [upd_ne hb] at e
      exact (I'.hok b u e).stay (fun _ _ _ q=>q) (fun c q=>by rw [upd_ne (ne_of_none q pn)];exact q) fun c xs q=>by rw [upd_ne (ne_of_none q pn)];exact q
end
section
variable {X:Cx}{pins:List (Addr×Obj)}{σ:St}{H2:Hp}{s2:Shared}
theorem comp_run {elt tg iter:Expr}{ifs:List Expr}{scope:Scope}{pos:Pos}{N':List Str}{cap:List (Option Nat)}{g:TG}{tt:TT}{te:TE}{it:Addr}{fp:List Addr}{tn:Nat→Heap→Prop}{J:It}{n:Nat}{W:Nat→List V→St→Hp→Prop}{Q:VK}
    {RR:Value→Addr→Result→Shared→Prop} {E:Value→Shared→Prop}
    (hc:X.calm=true) (ok:CompOk X scope N' cap)
    (hb:∀ cells C s₀ H₀ fp pins,PG (compCx X scope N' cells C s₀ H₀ fp pins) tg g∧PIfs (compCx X scope N' cells C s₀ H₀ fp pins) ifs tt∧PE (compCx X scope N' cells C s₀ H₀ fp pins) elt te)
    (I2:Inv X pins σ H2 s2) (T:Turn X.prog X.w X.K tg J fp it tn) (st2:tn 0 s2.heap) (f2:∀ b∈fp,FpOk X pins H2 b) (hn:n≤sizeLine) (w0:W 0 [] (capS cap σ) H2)
    (turn:∀ i ys σ' H,W i ys σ' H→i≤n∧ys.length≤i ∧
      ((J.stop i H∧∀ D,H D=none→Q (.ref D) (upd H D (.lst ys))) ∨
       (J.go i H∧i < n∧∀ x H',J.yld i H x H'→g x σ' H' fun σ2 H2=>tt σ2 H2 fun b H3=>if b=true then te σ2 H3 fun v H4=>W (i + 1) (ys ++ [v]) σ2 H4 else W (i + 1) ys σ2 H3)))
    (hRR:∀ (D C:Addr) (s':Shared) (H':Hp),Inv X pins σ H' s'→Q (.ref D) H'→(∃ m,s'.heap.Ns C m)→H' C=none→C≠X.env.locals→X.s₀.heap.objs.size≤C→(∀ x c,X.env.cells.lookup x=some c→c≠C)→(∀ p∈X.pn ++ pins,p.1≠C)→RR (.ref D) C (.ok .next) s') :
    wpAny (model X.prog X.w) X.A (newList []) (fun acc s₃=>wpAny (model X.prog X.w) X.A (newFunctionEnv scope X.env.globals (closL X.env.cells scope.names) [] X.env.qual none .none (some X.env)) (fun cenv s₄ =>
      codeAny (model X.prog X.w) X.A (.compStart (.ListComp elt [⟨tg,iter,ifs,0⟩] scope pos) 0 (.ref it) acc { cenv with scope:=relabel scope X.env }) (RR acc cenv.locals) s₄) E s₃) E s2:=by
  refine wpAny_newObj_type (wpAny_newCompEnv ?_)
  dsimp only
  generalize hH3:s2.heap.push { cls:=.type "list",dict:=none,data:=.seq ([]:List Value).toArray }=h3
  have sz3:h3.objs.size=s2.heap.objs.size + 1:=by rw [← hH3,Heap.size_push]
  generalize hH5:h3.push { cls:=.type "dict",data:=.dict #[] }=h5
  have sz5:h5.objs.size=h3.objs.size + 1:=by rw [← hH5,Heap.size_push]
  generalize hH4:pushCells h5 scope.names=h4
  have hns5:h5.Ns h3.objs.size fun _=>none:=by rw [← hH5];exact Heap.Ns.new ..
  have old5:∀ b o,s2.heap.get? b=some o→h5.get? b=some o:=fun b o e=>by rw [← hH5];exact Heap.get?_push_of_some _ (by rw [← hH3];exact Heap.get?_push_of_some _ e)
  have hlo5:h5.get? s2.heap.objs.size=some { cls:=.type "list",data:=.seq ([]:List Value).toArray }:=by rw [← hH5];exact Heap.get?_push_of_some _ (by rw [← hH3];exact Heap.get?_push_size _ rfl)
  have hlt:∀ b∈fp,b < s2.heap.objs.size:=fun b hb=>let ⟨o,e,_⟩:=T.obj _ _ st2 b hb;Heap.lt_size e
  have I0:∀ tk,Inv (compCx X scope N' (cellsFrom (h3.objs.size + 1) scope.names [] ++ closL X.env.cells scope.names) h3.objs.size s2 H2 fp pins) [(s2.heap.objs.size,{ cls:=.type "list",data:=.seq ([]:List Value).toArray })] (capS cap σ) H2 { s2 with heap:=h4,toks:=tk }:=fun tk =>
    comp_start I2 ok f2 hlt rfl sz3 sz5 hH4.symm hns5 hlo5 (fun v z=>by cases z) old5
  have k4:∀ b o,s2.heap.get? b=some o→h4.get? b=some o:=fun b o e=>by rw [← hH4];exact pushCells_keeps _ _ b o (old5 b o e)
  have st4:tn 0 h4:=T.keep _ _ _ st2 fun b _ o e=>k4 b o e
  obtain ⟨pg,pif,pel⟩:=hb (cellsFrom (h3.objs.size + 1) scope.names [] ++ closL X.env.cells scope.names) h3.objs.size s2 H2 fp pins
  generalize hcs:cellsFrom (h3.objs.size + 1) scope.names [] ++ closL X.env.cells scope.names=cs at I0 pg pif pel ⊢
  have stat:∀ {lo:Obj} {σ':St} {H':Hp} {s':Shared},Inv (compCx X scope N' cs h3.objs.size s2 H2 fp pins) [(s2.heap.objs.size,lo)] σ' H' s'→(∀ b∈fp,H' b=none)→∀ b∈fp,FpOk (compCx X scope N' cs h3.objs.size s2 H2 fp pins) [(s2.heap.objs.size,lo)] H' b:=fun {lo σ' H' s'} I' fr b hb=>by
    have q:=f2 b hb
    have lb:=hlt b hb
    refine ⟨fr b hb,by show b≠h3.objs.size;walk_at "om",I'.ok.exfs b hb,.inl hb,(I'.ok.exf b hb).2,fun p hp=>?_⟩
    have hp:p∈(X.pn ++ pins) ++ [(s2.heap.objs.size,lo)]:=hp
    rcases List.mem_append.mp hp with hp | hp
    · exact q.2.2.2.2.2 p hp
    · have:p=(s2.heap.objs.size,lo):=by simpa using hp
      subst this
      show s2.heap.objs.size≠b
      walk_at "om"
  have loop:∀ tk,codeAny (model X.prog X.w) X.A (.compLoop (.ListComp elt [⟨tg,iter,ifs,0⟩] scope pos) 0 (.ref it) (.ref s2.heap.objs.size) (compEnvC scope cs h3.objs.size X.env)) (RR (.ref s2.heap.objs.size) h3.objs.size) { s2 with heap:=h4,toks:=tk }:=fun tk=>by
    refine compLoop_gen (fun k s'=>∃ (i:Nat) (ys:List V) (σ':St) (H':Hp) (its:List Value) (c:Nat),Inv (compCx X scope N' cs h3.objs.size s2 H2 fp pins) [(s2.heap.objs.size,{ cls:=.type "list",data:=.seq its.toArray c })] σ' H' s'∧tn i s'.heap∧(∀ b∈fp,H' b=none) ∧
      Vals ys its∧W i ys σ' H'∧k=n + 1 - i) ?_ (n + 1) ⟨0,[],capS cap σ,H2,[],0,I0 tk,st4,fun b hb=>(f2 b hb).1,.nil,w0,rfl⟩
    rintro k s3 ⟨i,ys,σ3,H3,its,c,I3,st3,fr3,hv3,w3,rfl⟩
    obtain ⟨hi,hy,hcase⟩:=turn i ys σ3 H3 w3
    rcases hcase with ⟨stop,q⟩ | ⟨go,hlt',step⟩
    · refine thn (T.done (compCx X scope N' cs h3.objs.size s2 H2 fp pins) rfl rfl rfl hc i _ s3 σ3 H3 _ I3 (stat I3 fr3) st3 stop) fun r s4 ⟨hr,I4⟩=>?_
      subst hr
      have Ie:=comp_end I2 I4 f2 (Nat.le_refl _) rfl hv3 (by walk_at "om")
      obtain ⟨_,pn,_⟩:=I4.pin (s2.heap.objs.size,_) (by show _∈(X.pn ++ pins) ++ [_];exact List.mem_append_right _ (List.mem_singleton.mpr rfl))
      obtain ⟨m,hm,_⟩:=I4.loc
      refine hRR _ _ s4 _ Ie (q _ pn) ⟨m,hm⟩ ?_ ?_ ?_ ?_ ?_
      · rw [upd_ne (by walk_at "om")];exact I4.free
      · have:=I2.lt;walk_at "om"
      · have:=I2.sz;walk_at "om"
      · intro x c e;have:=I2.cell_lt e;walk_at "om"
      · intro p hp;have:=I2.pin_lt hp;walk_at "om"
    · refine thn (T.item (compCx X scope N' cs h3.objs.size s2 H2 fp pins) rfl rfl rfl hc i _ s3 σ3 H3 _ I3 (stat I3 fr3) st3 go) fun r s4 ⟨u,hr,h4'⟩=>?_
      subst hr
      refine thn h4' fun _ s5 ⟨x,H5,I5,r5,y5,st5,fr5⟩=>?_
      have I5':=I5.pinned (stat I5 fr5) (T.obj _ _ st5)
      refine thn (pg _ s5 σ3 H5 x u _ I5' r5 (step x H5 y5)) fun _ s6 ⟨σ6,H6,I6,q6⟩=>?_
      refine thn (pif _ s6 σ6 H6 _ I6 q6) fun b s7 ⟨H7,I7,q7⟩=>?_
      have back:∀ {σ8:St} {H8:Hp} {s8:Shared} {o:List (Addr×Obj)},Inv (compCx X scope N' cs h3.objs.size s2 H2 fp pins) (o ++ pinsAt fp s5.heap) σ8 H8 s8→tn (i + 1) s8.heap∧∀ b∈fp,H8 b=none:=fun {σ8 H8 s8 o} I8=>by
        have pp:∀ b ob,b∈fp→s5.heap.get? b=some ob→s8.heap.get? b=some ob∧H8 b=none:=fun b ob hb e=>by
          have:=I8.pin (b,ob) (List.mem_append_right _ (List.mem_append_right _ (mem_pinsAt hb e)))
          exact ⟨this.1,this.2.1⟩
        refine ⟨T.keep _ _ _ st5 fun b hb ob e=>(pp b ob hb e).1,fun b hb=>?_⟩
        obtain ⟨ob,e,_⟩:=T.obj _ _ st5 b hb
        exact (pp b ob hb e).2
      cases b with
      | false =>
        simp only [Bool.false_eq_true,if_false]
        simp only [Bool.false_eq_true,if_false] at q7
        obtain ⟨st7,fr7⟩:=back I7
        exact ⟨n + 1 - (i + 1),by walk_at "om",i + 1,ys,σ6,H7,its,c,I7.unpinned,st7,fr7,hv3,q7,rfl⟩
      | true =>
        simp only [if_true]
        simp only [if_true] at q7
        refine thn (pel _ s7 σ6 H7 _ I7 q7) fun y s8 ⟨v,H8,I8,r8,q8⟩=>?_
        obtain ⟨st8,fr8⟩:=back I8
        have I8u:=I8.unpinned
        obtain ⟨pd,pn,pc,pf,_⟩:=I8u.pin (s2.heap.objs.size,{ cls:=.type "list",data:=.seq its.toArray c }) (List.mem_append_right _ (List.mem_singleton.mpr rfl))
        have pd:s8.heap.get? s2.heap.objs.size=some { cls:=.type "list",data:=.seq its.toArray c }:=pd
        have hits:its.length≤sizeLine:=by have:=hv3.length;walk_at "om"
        refine wpAny_list_append_plain (s:=s8) (hsz:=by simpa using hits) ⟨c,pd⟩ fun h9 ⟨c9,pl9⟩ sb9=>?_
        have k9:∀ b o,b≠s2.heap.objs.size→s8.heap.get? b=some o→h9.get? b=some o:=fun b o hb e=>(sb9.2 b hb).trans e
        have I8n:Inv (compCx X scope N' cs h3.objs.size s2 H2 fp pins) [] σ6 H8 s8:=I8u.pins_of (pins':=[]) fun p hp=>(nomatch hp)
        have I9:Inv (compCx X scope N' cs h3.objs.size s2 H2 fp pins) [] σ6 H8 { s8 with heap:=h9,toks:=s8.toks }:=I8n.turned k9 pn (by show s2.heap.objs.size≠h3.objs.size;walk_at "om") (.inr (Nat.le_refl _))
          (fun x c e z=>by
            have e:cs.lookup x=some c:=e
            rw [← hcs,lookup_app] at e
            cases ex:(cellsFrom (h3.objs.size + 1) scope.names []).lookup x with
            | some d =>
              rw [ex] at e;cases e
              have:=(cellsFrom_mem (PySem.mem_of_lookup ex)).2
              walk_at "om"
            | none =>
              rw [ex] at e
              have:=I2.cell_lt (closL_look e).2
              walk_at "om")
          (fun p hp=>by
            have hp:p∈(X.pn ++ pins) ++ []:=hp
            rw [List.append_nil] at hp
            have:=I2.pin_lt hp
            walk_at "om")
        have I9':Inv (compCx X scope N' cs h3.objs.size s2 H2 fp pins) [(s2.heap.objs.size,{ cls:=.type "list",data:=.seq (its ++ [y]).toArray c9 })] σ6 H8 { s8 with heap:=h9,toks:=s8.toks }:=I9.pins_of fun p hp=>by
          have:p=(s2.heap.objs.size,({ cls:=.type "list",data:=.seq (its ++ [y]).toArray c9 }:Obj)):=by simpa using hp
          subst this
          refine ⟨?_,pn,pc,pf,fun v z=>by cases z⟩
          show h9.get? s2.heap.objs.size=_
          rw [pl9]
          simp
        have stf:tn (i + 1) h9:=T.keep _ _ _ st8 fun b hb o e=>k9 b o (by have:=hlt b hb;walk_at "om") e
        exact ⟨n + 1 - (i + 1),by walk_at "om",i + 1,ys ++ [v],σ6,H8,its ++ [y],c9,I9',stf,fr8,Vals.append hv3 (.cons r8 .nil),q8,rfl⟩
  exact codeAny_compStart_list (loop _) (T.self _ 0 _ _ _ st4 (loop _))
end
section
variable {X:Cx}
theorem comp_hnames {scope:Scope}{N':List Str}{cap:List (Option Nat)}(ok:CompOk X scope N' cap):∀ x∈scope.names,x.2=.local→scope.names.lookup x.1=some .local:=fun x hx e=>by rw [ok.uniq x hx,e]
theorem comp_clos {scope:Scope}{N':List Str}{cap:List (Option Nat)}(okX:X.Ok) (ok:CompOk X scope N' cap):closureFor scope X.env=pure (closL X.env.cells scope.names) :=
  closureFor_eq fun x hx e=>okX.has x.1 (ok.fre x hx e)
theorem pe_comp {elt tg iter:Expr}{ifs:List Expr}{scope:Scope}{pos:Pos}{N':List Str}{cap:List (Option Nat)}{wi:TI}{g:TG}{tt:TT}{te:TE}(hc:X.calm=true) (ok:CompOk X scope N' cap) (hi:PI X tg iter wi)
    (hb:∀ cells C s₀ H₀ fp pins,PG (compCx X scope N' cells C s₀ H₀ fp pins) tg g∧PIfs (compCx X scope N' cells C s₀ H₀ fp pins) ifs tt∧PE (compCx X scope N' cells C s₀ H₀ fp pins) elt te)
    (hs:∀ x,foldedSetIterable iter X.env x=pure x:=by intro _;rfl):PE X (.ListComp elt [⟨tg,iter,ifs,0⟩] scope pos) (tComp wi cap g tt te):=by
  intro pins s σ H Q I h
  rw [eval_ListComp]
  refine wpAny_comprehension_free (use:=none) rfl hs (comp_clos I.ok ok) ok.kind (comp_hnames ok) (thn (hi pins s σ H _ I h) fun v s1 h1=>thn h1 fun itv s2 h2=>?_)
  obtain ⟨it,fp,tn,J,H2,e,I2,T,st2,f2,n,W,hn,w0,turn⟩:=h2
  subst e
  refine comp_run (RR:=fun acc C=>compPost (model X.prog X.w) X.A X.xe none (EP X pins σ Q) acc C) hc ok hb I2 T st2 f2 hn w0 turn ?_
  intro D C s' H' I' q hm fr c1 c2 c3 c4
  obtain ⟨m,hm⟩:=hm
  exact ⟨m,hm,fun h' sb=>⟨.ref D,H',I'.turned (t':=s'.toks) (fun b o hb e=>(sb.2 b hb).trans e) fr c1 (.inr c2) c3 c4,rfl,q⟩⟩
theorem ps_setComp {i:Nat}{y:Str}{elt tg iter:Expr}{ifs:List Expr}{scope:Scope}{pos spos py:Pos}{N':List Str}{cap:List (Option Nat)}{wi:TI}{g:TG}{tt:TT}{te:TE}(hN:X.N.Nodup) (hiy:X.N[i]?=some y) (hy:X.env.scope.names.lookup y=some .local)
    (hc:X.calm=true) (ok:CompOk X scope N' cap) (hi:PI X tg iter wi)
    (hb:∀ cells C s₀ H₀ fp pins,PG (compCx X scope N' cells C s₀ H₀ fp pins) tg g∧PIfs (compCx X scope N' cells C s₀ H₀ fp pins) ifs tt∧PE (compCx X scope N' cells C s₀ H₀ fp pins) elt te)
    (hsw:swapsWith (.ListComp elt [⟨tg,iter,ifs,0⟩] scope pos) (some (.Name y py)) spos.line X.env=pure true:=by rfl)
    (hs:∀ x,foldedSetIterable iter X.env x=pure x:=by intro _;rfl):PS X (.Assign [.Name y py] (.ListComp elt [⟨tg,iter,ifs,0⟩] scope pos) spos) (tAsg (tComp wi cap g tt te) (gName i)):=by
  intro pins s σ H D I h
  rw [exec_Assign_Name_used _ _ _ _ hsw]
  refine wpAny_bind (wpAny_standAt (wpAny_bind ?_))
  show wpAny _ X.A (do let _ ← comprehension (.ListComp elt [⟨tg,iter,ifs,0⟩] scope pos) scope X.env _ (newList []) false (eval iter X.env) (some (assign (.Name y py) X.env))) _ _ s
  refine wpAny_bind (wpAny_mono (wpAny_comprehension_free (use:=some (assign (.Name y py) X.env)) (Q:=fun _ s'=>SP X pins D .next s') rfl hs (comp_clos I.ok ok) ok.kind (comp_hnames ok)
    (thn (hi pins s σ H _ I h) fun v s1 h1=>thn h1 fun itv s2 h2=>?_)) (fun _ s' hq=>wpAny_pure (wpAny_pure hq)) fun _ _ e=>e)
  obtain ⟨it,fp,tn,J,H2,e,I2,T,st2,f2,n,W,hn,w0,turn⟩:=h2
  subst e
  refine comp_run (RR:=fun acc C=>compPost (model X.prog X.w) X.A X.xe (some (assign (.Name y py) X.env)) (fun _ s'=>SP X pins D .next s') acc C) (Q:=fun v H1=>gName i v σ H1 D.nx) hc ok hb I2 T st2 f2 hn w0 turn ?_
  intro D' C s' H' I' q hm fr c1 c2 c3 c4
  obtain ⟨m,hm⟩:=hm
  show wpAny _ X.A (assign (.Name y py) X.env (.ref D')) _ _ s'
  refine wpAny_assign_Name (store_ok2 I' hN hiy (.inl hy) (v:=.ref D') rfl (fun s'' I'' ⟨a,sb,ha⟩=>?_) (.inr hy))
  have aC:C≠a:=by
    rcases ha with z | z
    · rw [z];exact c1
    · exact (c3 _ _ z).symm
  refine ⟨m,hm.sameBut sb aC,fun h' sb'=>?_⟩
  exact ⟨_,H',I''.turned (t':=s''.toks) (fun b o hb e=>(sb'.2 b hb).trans e) fr c1 (.inr c2) c3 c4,q⟩
end
theorem comp_range {lo:Int}{m:Nat}{cap:List (Option Nat)}{g:TG}{tt:TT}{te:TE}{σ:St}{H:Hp}{Q:VK}(hm:m≤sizeLine) (Pv:Nat→List V→St→Hp→Prop) (h0:Pv 0 [] (capS cap σ) H)
    (hl:∀ i ys σ H,Pv i ys σ H→i≤m∧ys.length≤i)
    (hs:∀ i ys σ H,i < m→Pv i ys σ H→g (.int (lo + i)) σ H fun σ2 H2=>tt σ2 H2 fun b H3=>if b=true then te σ2 H3 fun v H4=>Pv (i + 1) (ys ++ [v]) σ2 H4 else Pv (i + 1) ys σ2 H3)
    (hd:∀ ys σ H,Pv m ys σ H→∀ D,H D=none→Q (.ref D) (upd H D (.lst ys))) :
    CompR cap g tt te σ Q (Itr lo m) H:=by
  refine ⟨m,Pv,hm,h0,fun i ys σ' H p=>⟨(hl i ys σ' H p).1,(hl i ys σ' H p).2,?_⟩⟩
  by_cases hi:i < m
  · refine .inr ⟨hi,hi,fun x H' ⟨e1,e2⟩=>?_⟩
    subst e1 e2
    exact hs i ys σ' H' hi p
  · have:i=m:=by have:=(hl i ys σ' H p).1;walk_at "om"
    subst this
    exact .inl ⟨Nat.le_refl _,hd ys σ' H p⟩
theorem comp_list {K:PySem.W.Frag}{a:Addr}{xs:List V}{cap:List (Option Nat)}{g:TG}{tt:TT}{te:TE}{σ:St}{H:Hp}{Q:VK}(hm:xs.length≤sizeLine) (Pv:Nat→List V→St→Hp→Prop) (h0:Pv 0 [] (capS cap σ) H)
    (hl:∀ i ys σ H,Pv i ys σ H→i≤xs.length∧ys.length≤i∧SqL K H a xs)
    (hs:∀ i x ys σ H,xs[i]?=some x→Pv i ys σ H→g x σ H fun σ2 H2=>tt σ2 H2 fun b H3=>if b=true then te σ2 H3 fun v H4=>Pv (i + 1) (ys ++ [v]) σ2 H4 else Pv (i + 1) ys σ2 H3)
    (hd:∀ ys σ H,Pv xs.length ys σ H→∀ D,H D=none→Q (.ref D) (upd H D (.lst ys))) :
    CompR cap g tt te σ Q (Itl K a) H:=by
  refine ⟨xs.length,Pv,hm,h0,fun i ys σ' H p=>?_⟩
  obtain ⟨h1,h2,h3⟩:=hl i ys σ' H p
  refine ⟨h1,h2,?_⟩
  by_cases hi:i < xs.length
  · obtain ⟨x,hx⟩:∃ x,xs[i]?=some x:=⟨xs[i],List.getElem?_eq_getElem hi⟩
    refine .inr ⟨⟨xs,x,h3,hx⟩,hi,fun x' H' ⟨e1,e2⟩=>?_⟩
    subst e1
    exact hs i x' ys σ' H' (e2 xs h3) p
  · have:i=xs.length:=by walk_at "om"
    subst this
    exact .inl ⟨⟨xs,h3,Nat.le_refl _⟩,hd ys σ' H p⟩
end L2
namespace L2
open PySem PySem.Spec PyProof.Rows
local macro_rules | `(tactic| walk_at "om") => `(tactic| first | omega | (unfold Addr at *; omega))
section
variable {X:Cx}
theorem call_isT:CallR X (.builtin "isinstance") (fun xs H Q=>∃ x n t b,xs=[x,.ty n]∧TyOf X.K H x t∧PySem.W.kitOne X.K t (.type n)=some b∧Q (.bl b) H):=by
  intro pins s σ H xs us Q I r h
  obtain ⟨x,n,t,b,rfl,ty,e,q⟩:=h
  obtain ⟨u,w',rfl,rx,rc⟩:=vals2 r
  cases rc
  exact isinst_ok I rx ty e fun tk=>⟨.bl b,H,I.tok tk,rfl,q⟩
theorem call_isC:CallR X (.builtin "isinstance") (fun xs H Q=>∃ x C t b,xs=[x,.ref C]∧TyOf X.K H x t∧PySem.W.kitOne X.K t (.ref C)=some b∧Q (.bl b) H):=by
  intro pins s σ H xs us Q I r h
  obtain ⟨x,n,t,b,rfl,ty,e,q⟩:=h
  obtain ⟨u,w',rfl,rx,rc⟩:=vals2 r
  cases rc
  exact isinst_ok I rx ty e fun tk=>⟨.bl b,H,I.tok tk,rfl,q⟩
theorem call_sumL (hc:X.calm=true):CallR X (.builtin "sum") (fun xs H Q=>∃ (p:Addr) (ns:List Int),xs=[.ref p]∧SqL X.K H p (ns.map V.int)∧Q (.int ns.sum) H):=by
  intro pins s σ H xs us Q I r h
  obtain ⟨p,ns,rfl,hq,q⟩:=h
  obtain ⟨u,rfl,rx⟩:=vals1 r
  cases rx
  obtain ⟨its,rv,pl,hz⟩:=I.list hq
  have hi:IntsAre its ns:=intsAre_of rv
  have hn:numsOf its=ns:=hi.numsOf
  have hl:=pl.isList
  obtain ⟨zs,ez⟩:=hi.allInts.items
  rw [ez] at hl
  refine sum_intListG (I.ok.hd hc) hl fun h' tk t' hk=>?_
  have e:preSum (numAt zs) zs.size=ns.sum:=by
    rw [preSum_eq,List.take_of_length_le (by simp),← nums_intItems,← ez,← hn]
  rw [e]
  exact ⟨.int ns.sum,H,I.kept hk,⟨_,rfl⟩,q⟩
end
inductive Tr where
  | flat (v:V)
  | lst (xs:List Tr)
  | tup (xs:List Tr)
mutual
def eqT:Tr→Tr→Bool
  | .flat a,.flat b=>eqV a b
  | .lst xs,.lst ys=>eqTs xs ys
  | .tup xs,.tup ys=>eqTs xs ys
  | _,_=>false
def eqTs:List Tr→List Tr→Bool
  | [],[]=>true
  | x :: xs,y :: ys=>eqT x y && eqTs xs ys
  | _,_=>false
end
theorem eqV_refl:∀ {v:V},flatV v=true→eqV v v=true
  | .non,_=>rfl
  | .bl b,_=>by simp [eqV]
  | .int i,_=>by simp [eqV]
  | .str x,_=>by simp [eqV]
inductive Holds (K:PySem.W.Frag) (H:Hp):Nat→V→Tr→Prop where
  | flat {n:Nat} {v:V} (h:flatV v=true):Holds K H n v (.flat v)
  | lst {n:Nat} {a:Addr} {xs:List V} {ts:List Tr} (h:SqL K H a xs) (hl:xs.length=ts.length) (he:∀ (i:Nat) x t,xs[i]?=some x→ts[i]?=some t→Holds K H n x t):Holds K H (n + 1) (.ref a) (.lst ts)
  | tup {n:Nat} {a:Addr} {xs:List V} {ts:List Tr} (h:SqT K H a xs) (hl:xs.length=ts.length) (he:∀ (i:Nat) x t,xs[i]?=some x→ts[i]?=some t→Holds K H n x t):Holds K H (n + 1) (.ref a) (.tup ts)
theorem eqTs_len:∀ {xs ys:List Tr},xs.length≠ys.length→eqTs xs ys=false
  | [],[],h=>absurd rfl h
  | [],_ :: _,_=>by simp [eqTs]
  | _ :: _,[],_=>by simp [eqTs]
  | x :: xs,y :: ys,h=>by
    have:=eqTs_len (xs:=xs) (ys:=ys) (fun e=>h (by simp [e]))
    simp [eqTs,this]
theorem eqTs_all:∀ {xs ys:List Tr},xs.length=ys.length→eqTs xs ys=(List.range xs.length).all fun i=>match xs[i]?,ys[i]? with | some x,some y=>eqT x y | _,_=>true
  | [],[],_=>by simp [eqTs]
  | x :: xs,y :: ys,h=>by
    have ih:=eqTs_all (xs:=xs) (ys:=ys) (by simpa using h)
    rw [List.length_cons,List.range_succ_eq_map,List.all_cons,List.all_map]
    simp only [eqTs]
    rw [ih]
    rfl
section
variable {X:Cx}{pins:List (Addr×Obj)}{σ:St}{H:Hp}{s:Shared}
theorem Holds.same (I:Inv X pins σ H s):∀ {n:Nat}{x:V}{t u:Tr},Holds X.K H n x t→∀ {m:Nat},Holds X.K H m x u→eqT t u=true:=by
  intro n x t u h
  induction h generalizing u with
  | flat hv =>
    intro m h'
    cases h' with
    | flat _=>simp only [eqT];exact eqV_refl hv
    | lst=>simp [flatV] at hv
    | tup=>simp [flatV] at hv
  | @lst n a xs ts h hl he ih =>
    intro m h'
    cases h' with
    | flat hv=>simp [flatV] at hv
    | @lst _ _ ys us h2 hl2 he2 =>
      have e:=I.list_inj h h2
      subst e
      simp only [eqT]
      rw [eqTs_all (hl.symm.trans hl2),List.all_eq_true]
      intro i hi
      have hi:i < ts.length:=by simpa using hi
      have hx:xs[i]?=some xs[i]:=List.getElem?_eq_getElem (by walk_at "om")
      have ht:ts[i]?=some ts[i]:=List.getElem?_eq_getElem hi
      have hu:us[i]?=some us[i]:=List.getElem?_eq_getElem (by walk_at "om")
      rw [ht,hu]
      exact ih i _ _ hx ht (he2 i _ _ hx hu)
    | tup h2 =>
      exfalso
      obtain ⟨its,_,p,_⟩:=I.list h
      obtain ⟨its2,_,p2,_⟩:=I.tuple h2
      obtain ⟨o,ho,hc,_⟩:=p.isList
      obtain ⟨o2,ho2,hc2,_⟩:=p2
      rw [ho] at ho2;cases ho2
      rw [hc] at hc2
      injection hc2 with z
      exact absurd z (by decide)
  | @tup n a xs ts h hl he ih =>
    intro m h'
    cases h' with
    | flat hv=>simp [flatV] at hv
    | lst h2 =>
      exfalso
      obtain ⟨its,_,p,_⟩:=I.list h2
      obtain ⟨its2,_,p2,_⟩:=I.tuple h
      obtain ⟨o,ho,hc,_⟩:=p.isList
      obtain ⟨o2,ho2,hc2,_⟩:=p2
      rw [ho] at ho2;cases ho2
      rw [hc] at hc2
      injection hc2 with z
      exact absurd z (by decide)
    | @tup _ _ ys us h2 hl2 he2 =>
      have e:=I.tuple_inj h h2
      subst e
      simp only [eqT]
      rw [eqTs_all (hl.symm.trans hl2),List.all_eq_true]
      intro i hi
      have hi:i < ts.length:=by simpa using hi
      have hx:xs[i]?=some xs[i]:=List.getElem?_eq_getElem (by walk_at "om")
      have ht:ts[i]?=some ts[i]:=List.getElem?_eq_getElem hi
      have hu:us[i]?=some us[i]:=List.getElem?_eq_getElem (by walk_at "om")
      rw [ht,hu]
      exact ih i _ _ hx ht (he2 i _ _ hx hu)
theorem items_eq {A:Around}{n m:Nat}{xs ys:List V}{ts us:List Tr}{its its2:List Value}(rv:Vals xs its) (rv2:Vals ys its2) (hl:xs.length=ts.length) (hl2:ys.length=us.length)
    (he:∀ (i:Nat) x t y u v w',xs[i]?=some x→ts[i]?=some t→ys[i]?=some y→us[i]?=some u→RelV x v→RelV y w'→SeqAt.EqAt A s v w' (eqT t u)) :
    ∀ j (h1:j < its.toArray.size) (h2:j < its2.toArray.size),SeqAt.EqAt A s its.toArray[j] its2.toArray[j] (match ts[j]?,us[j]? with | some x,some y=>eqT x y | _,_=>true):=by
  intro j h1 h2
  have a1:=rv.length
  have a2:=rv2.length
  have h1':j < its.length:=by simpa using h1
  have h2':j < its2.length:=by simpa using h2
  have hx:xs[j]?=some xs[j]:=List.getElem?_eq_getElem (by walk_at "om")
  have hy:ys[j]?=some ys[j]:=List.getElem?_eq_getElem (by walk_at "om")
  have ht:ts[j]?=some ts[j]:=List.getElem?_eq_getElem (by walk_at "om")
  have hu:us[j]?=some us[j]:=List.getElem?_eq_getElem (by walk_at "om")
  obtain ⟨v,ev,r1⟩:=rv.get hx
  obtain ⟨w',ew,r2⟩:=rv2.get hy
  rw [ht,hu]
  have e1:its.toArray[j]=v:=by
    have:its[j]?=some its[j]:=List.getElem?_eq_getElem h1'
    rw [this] at ev
    simpa using ev
  have e2:its2.toArray[j]=w':=by
    have:its2[j]?=some its2[j]:=List.getElem?_eq_getElem h2'
    rw [this] at ew
    simpa using ew
  rw [e1,e2]
  exact he j _ _ _ _ _ _ hx ht hy hu r1 r2
theorem eqAt_T (I:Inv X pins σ H s):∀ {n:Nat}{x:V}{t:Tr},Holds X.K H n x t→∀ {m:Nat}{y:V}{u:Tr}{v w':Value}{A:Around},Holds X.K H m y u→RelV x v→RelV y w'→A.units + n + 1 < cLine→SeqAt.EqAt A s v w' (eqT t u):=by
  intro n x t h
  induction h with
  | @flat n x hv =>
    intro m y u v w' A h' rx ry hu
    cases h' with
    | flat hv2=>simp only [eqT];exact eqAt_V rx ry hv hv2
    | @lst _ a xs ts h =>
      cases ry
      obtain ⟨its,_,p,_⟩:=I.list h
      simp only [eqT]
      cases x with
      | non=>cases rx;exact SeqAt.EqAt.none_list p.isList (by walk_at "om")
      | bl b=>cases rx;exact SeqAt.EqAt.bool_list b p.isList (by walk_at "om")
      | int i=>obtain ⟨t,rfl⟩:=rx;exact SeqAt.EqAt.int_list i t p.isList (by walk_at "om")
      | str x=>obtain ⟨t,rfl⟩:=rx;exact SeqAt.EqAt.str_list x t p.isList (by walk_at "om")
      | _=>simp [flatV] at hv
    | @tup _ a xs ts h =>
      cases ry
      obtain ⟨its,_,p,_⟩:=I.tuple h
      simp only [eqT]
      cases x with
      | non=>cases rx;exact SeqAt.EqAt.none_tuple p (by walk_at "om")
      | bl b=>cases rx;exact SeqAt.EqAt.bool_tuple b p (by walk_at "om")
      | int i=>obtain ⟨t,rfl⟩:=rx;exact SeqAt.EqAt.int_tuple i t p (by walk_at "om")
      | str x=>obtain ⟨t,rfl⟩:=rx;exact SeqAt.EqAt.str_tuple x t p (by walk_at "om")
      | _=>simp [flatV] at hv
  | @lst n a xs ts h hl he ih =>
    intro m y u v w' A h' rx ry hu
    cases rx
    obtain ⟨its,rv,p,_⟩:=I.list h
    cases h' with
    | @flat _ y hv =>
      simp only [eqT]
      cases y with
      | non=>cases ry;exact SeqAt.EqAt.list_none p.isList (by walk_at "om")
      | bl b=>cases ry;exact SeqAt.EqAt.list_bool b p.isList (by walk_at "om")
      | int i=>obtain ⟨t,rfl⟩:=ry;exact SeqAt.EqAt.list_int i t p.isList (by walk_at "om")
      | str x=>obtain ⟨t,rfl⟩:=ry;exact SeqAt.EqAt.list_str x t p.isList (by walk_at "om")
      | _=>simp [flatV] at hv
    | @lst m b ys us h2 hl2 he2 =>
      cases ry
      by_cases hab:a=b
      · subst hab
        rw [Holds.same I (.lst h hl he) (Holds.lst h2 hl2 he2)]
        exact SeqAt.EqAt.same _
      · obtain ⟨its2,rv2,p2,_⟩:=I.list h2
        have a1:=rv.length
        have a2:=rv2.length
        simp only [eqT]
        by_cases hlen:ts.length=us.length
        · rw [eqTs_all hlen]
          have q:=SeqAt.RcAt.lists (A:=A) p.isList p2.isList (by simp;walk_at "om") (by walk_at "om") (items_eq (A:=A.in1) (n:=n) (m:=m) rv rv2 hl hl2 fun i x t y u v w' h1 h2 h3 h4 r1 r2=>ih i x t h1 h2 (he2 i y u h3 h4) r1 r2 (by show A.units + 1 + n + 1 < cLine;walk_at "om"))
          have e:its.toArray.size=ts.length:=by simp;walk_at "om"
          rw [e] at q
          exact .of_refs hab q
        · rw [eqTs_len hlen]
          exact .of_refs hab (SeqAt.RcAt.lists_lengths p.isList p2.isList (by simp;walk_at "om") (by walk_at "om"))
    | @tup m b ys us h2 hl2 he2 =>
      cases ry
      obtain ⟨its2,rv2,p2,_⟩:=I.tuple h2
      simp only [eqT]
      exact SeqAt.EqAt.list_tuple p.isList p2 (by walk_at "om")
  | @tup n a xs ts h hl he ih =>
    intro m y u v w' A h' rx ry hu
    cases rx
    obtain ⟨its,rv,p,_⟩:=I.tuple h
    cases h' with
    | @flat _ y hv =>
      simp only [eqT]
      cases y with
      | non=>cases ry;exact SeqAt.EqAt.tuple_none p (by walk_at "om")
      | bl b=>cases ry;exact SeqAt.EqAt.tuple_bool b p (by walk_at "om")
      | int i=>obtain ⟨t,rfl⟩:=ry;exact SeqAt.EqAt.tuple_int i t p (by walk_at "om")
      | str x=>obtain ⟨t,rfl⟩:=ry;exact SeqAt.EqAt.tuple_str x t p (by walk_at "om")
      | _=>simp [flatV] at hv
    | @lst m b ys us h2 hl2 he2 =>
      cases ry
      obtain ⟨its2,rv2,p2,_⟩:=I.list h2
      simp only [eqT]
      exact SeqAt.EqAt.tuple_list p p2.isList (by walk_at "om")
    | @tup m b ys us h2 hl2 he2 =>
      cases ry
      by_cases hab:a=b
      · subst hab
        rw [Holds.same I (.tup h hl he) (Holds.tup h2 hl2 he2)]
        exact SeqAt.EqAt.same _
      · obtain ⟨its2,rv2,p2,_⟩:=I.tuple h2
        have a1:=rv.length
        have a2:=rv2.length
        simp only [eqT]
        have q:=SeqAt.RcAt.tuples (A:=A) p p2 (by walk_at "om") (items_eq (A:=A.in1) (n:=n) (m:=m) rv rv2 hl hl2 fun i x t y u v w' h1 h2 h3 h4 r1 r2=>ih i x t h1 h2 (he2 i y u h3 h4) r1 r2 (by show A.units + 1 + n + 1 < cLine;walk_at "om"))
        have e:((List.range (min its.toArray.size its2.toArray.size)).all (fun j=>match ts[j]?,us[j]? with | some x,some y=>eqT x y | _,_=>true) && its.toArray.size == its2.toArray.size)=eqTs ts us:=by
          have s1:its.toArray.size=ts.length:=by simp;walk_at "om"
          have s2:its2.toArray.size=us.length:=by simp;walk_at "om"
          rw [s1,s2]
          by_cases hlen:ts.length=us.length
          · rw [eqTs_all hlen,← hlen,Nat.min_self]
            simp
          · rw [eqTs_len hlen]
            simp [hlen]
        rw [e] at q
        exact .of_refs hab q
end
section
variable {X:Cx}
def rEqT (K:PySem.W.Frag) (neg:Bool):R2:=fun x y H Q=>∃ a b n m t u,x=.ref a∧y=.ref b∧n≤50∧m≤50∧Holds K H n x t∧Holds K H m y u∧(∀ z,u≠.tup z)∧(∀ z,t≠.tup z)∧Q (.bl (if neg then !(eqT t u) else eqT t u)) H
theorem op_eqT (hu:X.A.units + 60 < cLine):OpR X (compareOp .Eq) (rEqT X.K false):=by
  intro pins s σ H x y v u Q I rx ry h
  obtain ⟨a,b,n,m,t,u',rfl,rfl,hn,hm,ht,hu',nt,nt',q⟩:=h
  simp only [Bool.false_eq_true,if_false] at q
  cases rx;cases ry
  cases ht with
  | flat hv=>simp [flatV] at hv
  | tup=>exact absurd rfl (nt' _)
  | @lst n _ xs ts h1 hl he =>
    cases hu' with
    | flat hv=>simp [flatV] at hv
    | tup=>exact absurd rfl (nt _)
    | @lst m _ ys us h2 hl2 he2 =>
      obtain ⟨its,rv,p,_⟩:=I.list h1
      obtain ⟨its2,rv2,p2,_⟩:=I.list h2
      have a1:=rv.length
      have a2:=rv2.length
      simp only [eqT] at q
      by_cases hlen:ts.length=us.length
      · rw [eqTs_all hlen] at q
        have e:its.toArray.size=ts.length:=by simp;walk_at "om"
        rw [← e] at q
        exact SeqAt.eq_listAt p.isList p2.isList (by simp;walk_at "om") (by walk_at "om") (items_eq (A:=X.A.in1) (n:=n) (m:=m) rv rv2 hl hl2 fun i x t y u v w' h1 h2 h3 h4 r1 r2=>eqAt_T I (he i x t h1 h2) (he2 i y u h3 h4) r1 r2 (by show X.A.units + 1 + n + 1 < cLine;walk_at "om")) ⟨.bl _,H,I,rfl,q⟩
      · rw [eqTs_len hlen] at q
        exact SeqAt.eq_list_lengthsAt p.isList p2.isList (by simp;walk_at "om") (by walk_at "om") ⟨.bl _,H,I,rfl,q⟩
theorem op_neT (hu:X.A.units + 60 < cLine):OpR X (compareOp .NotEq) (rEqT X.K true):=by
  intro pins s σ H x y v u Q I rx ry h
  obtain ⟨a,b,n,m,t,u',rfl,rfl,hn,hm,ht,hu',nt,nt',q⟩:=h
  simp only [if_true] at q
  cases rx;cases ry
  cases ht with
  | flat hv=>simp [flatV] at hv
  | tup=>exact absurd rfl (nt' _)
  | @lst n _ xs ts h1 hl he =>
    cases hu' with
    | flat hv=>simp [flatV] at hv
    | tup=>exact absurd rfl (nt _)
    | @lst m _ ys us h2 hl2 he2 =>
      obtain ⟨its,rv,p,_⟩:=I.list h1
      obtain ⟨its2,rv2,p2,_⟩:=I.list h2
      have a1:=rv.length
      have a2:=rv2.length
      simp only [eqT] at q
      by_cases hlen:ts.length=us.length
      · rw [eqTs_all hlen] at q
        have e:its.toArray.size=ts.length:=by simp;walk_at "om"
        rw [← e] at q
        exact SeqAt.RcNeAt.lists p.isList p2.isList (by simp;walk_at "om") (by walk_at "om") (items_eq (A:=X.A.in1) (n:=n) (m:=m) rv rv2 hl hl2 fun i x t y u v w' h1 h2 h3 h4 r1 r2=>eqAt_T I (he i x t h1 h2) (he2 i y u h3 h4) r1 r2 (by show X.A.units + 1 + n + 1 < cLine;walk_at "om")) X.prog X.w X.xe _ ⟨.bl _,H,I,rfl,q⟩
      · rw [eqTs_len hlen] at q
        exact SeqAt.RcNeAt.lists_lengths p.isList p2.isList (by simp;walk_at "om") (by walk_at "om") X.prog X.w X.xe _ ⟨.bl _,H,I,rfl,q⟩
end
section
variable {X:Cx}{elts:List Expr}{k0}{tp:Pos}
end
end L2
namespace L2
open PySem PySem.Spec PyProof.Rows
structure FunD (K:PySem.W.Frag) (x qual:Str) (st:Stmt) (f:Addr) (fd:FuncData) (dV:Value):Prop where
  ex:∃ (oc:Value) (od:Option Addr) (kV doc pm:Value) (an:Option Addr) (cdv ct:Value) (osl:Array (Option Value)),
    fd=PySem.W.fnOf x qual (defArgs st) (defBody st) (defScope st) dV kV doc pm an cdv ct∧K.lookup f=some ⟨oc,od,.func fd,osl⟩∧PySem.W.codeIn K cdv qual=true
  kp:PySem.W.keepIn K (.ref f)=true
section
variable {P:Program}{w:World}{K:PySem.W.Frag}{mg:Str→Option Value}{base:Heap}
theorem funD_mk {x qual:Str}{st:Stmt}{f:Addr}{oc dV:Value}{od an:Option Addr}{osl:Array (Option Value)}{kV doc pm cdv ct:Value}(l:K.lookup f=some ⟨oc,od,.func (PySem.W.fnOf x qual (defArgs st) (defBody st) (defScope st) dV kV doc pm an cdv ct),osl⟩)
    (c:PySem.W.codeIn K cdv qual=true) (k:PySem.W.keepIn K (.ref f)=true):FunD K x qual st f (PySem.W.fnOf x qual (defArgs st) (defBody st) (defScope st) dV kV doc pm an cdv ct) dV:=⟨⟨oc,od,kV,doc,pm,an,cdv,ct,osl,rfl,l,c⟩,k⟩
end
theorem Same.upd {H H':Hp}(s:Same H H') {p:Addr}{o:HO}(h:H' p=Option.none):Same H (upd H' p o):=fun b u e=>by
  rw [upd_ne (ne_of_none (s b u e) h)]
  exact s b u e
theorem Same.upd0 {H:Hp}{p:Addr}{o:HO}(h:H p=Option.none):Same H (L2.upd H p o):=(Same.refl H).upd h
theorem Same.updF {H H':Hp}(s:Same H H') {p:Addr}{o:HO}(h:H p=Option.none):Same H (L2.upd H' p o):=fun b u e=>by
  rw [upd_ne (ne_of_none e h)]
  exact s b u e
theorem small_len {n:Nat}(h:n≤1000):n≤sizeLine:=Nat.le_of_lt (small1000 h)
structure Vol (H:Hp) (v:Addr) (as:List Addr) (rows:List (List Int)):Prop where
  top:H v=some (.lst (as.map V.ref))
  len:as.length=rows.length
  nd:as.Nodup
  row:∀ (i:Nat) a r,as[i]?=some a→rows[i]?=some r→H a=some (.lst (r.map V.int))
theorem nodup_set {α:Type} [DecidableEq α]:∀ {l:List α}{i:Nat}{q:α},l.Nodup→q∉l→(l.set i q).Nodup
  | [],_,_,h,_=>h
  | x :: r,0,q,h,hq=>by
    rw [List.set_cons_zero]
    exact List.nodup_cons.mpr ⟨fun z=>hq (List.mem_cons_of_mem _ z),(List.nodup_cons.mp h).2⟩
  | x :: r,i + 1,q,h,hq=>by
    rw [List.set_cons_succ]
    refine List.nodup_cons.mpr ⟨fun z=>?_,nodup_set (List.nodup_cons.mp h).2 fun z=>hq (List.mem_cons_of_mem _ z)⟩
    rcases List.mem_or_eq_of_mem_set z with z | z
    · exact (List.nodup_cons.mp h).1 z
    · exact hq (by rw [← z];exact List.mem_cons_self)
theorem Vol.same {H H':Hp}{v:Addr}{as:List Addr}{rows:List (List Int)}(x:Vol H v as rows) (s:Same H H'):Vol H' v as rows :=
  ⟨s _ _ x.top,x.len,x.nd,fun i a r h1 h2=>s _ _ (x.row i a r h1 h2)⟩
def trI (ns:List Int):Tr:=.lst (ns.map fun i=>.flat (.int i))
def trV (rows:List (List Int)):Tr:=.lst (rows.map trI)
theorem holds_ints {K:PySem.W.Frag}{H:Hp}{n:Nat}{a:Addr}{ns:List Int}(h:SqL K H a (ns.map V.int)):Holds K H (n + 1) (.ref a) (trI ns):=by
  refine .lst h (by simp) fun i x t hx ht=>?_
  rw [List.getElem?_map] at hx ht
  cases e:ns[i]? with
  | none=>rw [e] at hx;cases hx
  | some z=>rw [e] at hx ht;cases hx;cases ht;exact .flat rfl
theorem holds_vol {K:PySem.W.Frag}{H:Hp}{n:Nat}{v:Addr}{as:List Addr}{rows:List (List Int)}(h:Vol H v as rows):Holds K H (n + 2) (.ref v) (trV rows):=by
  refine .lst (SqL.of h.top) (by simp [h.len]) fun i x t hx ht=>?_
  rw [List.getElem?_map] at hx ht
  cases e:as[i]? with
  | none=>rw [e] at hx;cases hx
  | some a =>
    cases e2:rows[i]? with
    | none=>rw [e2] at ht;cases ht
    | some r=>rw [e] at hx;rw [e2] at ht;cases hx;cases ht;exact holds_ints (SqL.of (h.row i a r e e2))
theorem eqT_ints:∀ {ns ms:List Int},eqTs (ns.map fun i=>.flat (.int i)) (ms.map fun i=>.flat (.int i))=decide (ns=ms)
  | [],[]=>by simp [eqTs]
  | [],_ :: _=>by simp [eqTs]
  | _ :: _,[]=>by simp [eqTs]
  | n :: ns,m :: ms=>by
    rw [List.map_cons,List.map_cons]
    simp only [eqTs,eqT,eqV]
    rw [eqT_ints]
    by_cases h:n=m<;>by_cases h2:ns=ms<;>simp [h,h2]
theorem eqT_I (ns ms:List Int):eqT (trI ns) (trI ms)=decide (ns=ms):=by
  unfold trI
  simp only [eqT]
  exact eqT_ints
theorem eqTs_V:∀ {rs qs:List (List Int)},eqTs (rs.map trI) (qs.map trI)=decide (rs=qs)
  | [],[]=>by simp [eqTs]
  | [],_ :: _=>by simp [eqTs]
  | _ :: _,[]=>by simp [eqTs]
  | r :: rs,q :: qs=>by
    rw [List.map_cons,List.map_cons]
    simp only [eqTs]
    rw [eqTs_V,eqT_I]
    by_cases h:r=q<;>by_cases h2:rs=qs<;>simp [h,h2]
theorem eqT_V (rs qs:List (List Int)):eqT (trV rs) (trV qs)=decide (rs=qs):=by
  unfold trV
  simp only [eqT]
  exact eqTs_V
theorem iteD {c A B:Prop} [Decidable c] (hc:c) (h:A):if decide c=true then A else B:=by rw [if_pos (decide_eq_true hc)];exact h
theorem iteDF {c A B:Prop} [Decidable c] (hc:¬ c) (h:B):if decide c=true then A else B:=by rw [if_neg (by simp [hc])];exact h
theorem iteNF {c A B:Prop} [Decidable c] (hc:¬ c) (h:A):if (!decide c)=true then A else B:=by rw [if_pos (by simp [hc])];exact h
theorem iteB {b:Bool}{A B:Prop}(hb:b=true) (h:A):if b=true then A else B:=by rw [if_pos hb];exact h
theorem iteBF {b:Bool}{A B:Prop}(hb:b=false) (h:B):if b=true then A else B:=by rw [if_neg (by simp [hb])];exact h
def compB (N:List Str) (outer:List (Str×NameKind)) (sc:Scope) (N':List Str) (cap:List (Option Nat)):Bool :=
  (sc.kind == .function) && sc.names.all (fun y=>sc.names.lookup y.1 == some y.2) && sc.names.all (fun y=>y.2 != .free || (outer.lookup y.1 == some .cell || outer.lookup y.1 == some .free)) && cap.length == N'.length &&
    (List.range cap.length).all fun j=>match cap[j]? with
      | some (some i)=>(match N'[j]?,N[i]? with | some x,some y=>x == y && sc.names.lookup x == some .free | _,_=>false)
      | _=>true
theorem compOk_of {X:Cx}{scope:Scope}{N':List Str}{cap:List (Option Nat)}(h:compB X.N X.env.scope.names scope N' cap=true):CompOk X scope N' cap:=by
  unfold compB at h
  simp only [Bool.and_eq_true] at h
  obtain ⟨⟨⟨⟨h1,h2⟩,h3⟩,h4⟩,h5⟩:=h
  refine ⟨by simpa using h1,fun y hy=>?_,fun y hy e=>?_,by simpa using h4,fun j i e=>?_⟩
  · have:=List.all_eq_true.mp h2 y hy
    simpa using this
  · have:=List.all_eq_true.mp h3 y hy
    rw [e] at this
    simpa using this
  · have hj:j < cap.length:=(List.getElem?_eq_some_iff.mp e).1
    have:=List.all_eq_true.mp h5 j (by simpa using hj)
    rw [e] at this
    simp only at this
    split at this
    · rename_i x y ex ey
      simp only [Bool.and_eq_true,beq_iff_eq] at this
      obtain ⟨q1,q2⟩:=this
      subst q1
      exact ⟨x,ex,ey,q2⟩
    · cases this
theorem Vol.ne {H:Hp}{v:Addr}{as:List Addr}{rows:List (List Int)}(x:Vol H v as rows) {a:Addr}(h:a∈as):a≠v:=by
  obtain ⟨i,hi,e⟩:=List.getElem_of_mem h
  have h1:as[i]?=some a:=by rw [List.getElem?_eq_getElem hi,e]
  have hr:i < rows.length:=by rw [← x.len];exact hi
  have q:=x.row i a rows[i] h1 (List.getElem?_eq_getElem hr)
  intro z
  rw [z,x.top] at q
  have q':as.map V.ref=rows[i].map V.int:=by injection (Option.some.inj q)
  cases as with
  | nil=>cases h
  | cons b r =>
    cases e2:rows[i] with
    | nil=>rw [e2] at q';cases q'
    | cons n m=>rw [e2] at q';simp at q'
theorem Vol.set {H:Hp}{v q:Addr}{as:List Addr}{rows:List (List Int)}{i:Nat}{r:List Int}(x:Vol H v as rows) (hq:H q=some (.lst (r.map V.int))) (nq:q∉as) (nv:q≠v) :
    Vol (upd H v (.lst ((as.map V.ref).set i (.ref q)))) v (as.set i q) (rows.set i r):=by
  refine ⟨by rw [upd_same,List.map_set],by simp [x.len],?_,fun j a r' h1 h2=>?_⟩
  · exact nodup_set x.nd nq
  · by_cases hj:j=i
    · subst hj
      have hl:j < as.length:=by have:=(List.getElem?_eq_some_iff.mp h1).1;simpa using this
      rw [List.getElem?_set_self hl] at h1
      rw [List.getElem?_set_self (by rw [← x.len];exact hl)] at h2
      cases h1;cases h2
      rw [upd_ne nv];exact hq
    · rw [List.getElem?_set_ne (Ne.symm hj)] at h1 h2
      rw [upd_ne (x.ne (List.mem_of_getElem? h1))]
      exact x.row j a r' h1 h2
theorem Vol.fresh {H:Hp}{v q:Addr}{as:List Addr}{rows:List (List Int)}(x:Vol H v as rows) (h:H q=none):q∉as∧q≠v:=by
  refine ⟨fun z=>?_,fun z=>by rw [z,x.top] at h;cases h⟩
  obtain ⟨i,hi,e⟩:=List.getElem_of_mem z
  have h1:as[i]?=some q:=by rw [List.getElem?_eq_getElem hi,e]
  have hr:i < rows.length:=by rw [← x.len];exact hi
  have q':=x.row i q rows[i] h1 (List.getElem?_eq_getElem hr)
  rw [h] at q';cases q'
theorem ixN_nat {n i:Nat}(h:i < n):ixN n (i:Int)=some i:=by
  unfold ixN
  rw [if_pos (by omega),if_pos (by omega)]
  simp
end L2
namespace L2
open PySem PySem.Spec PyProof.Rows
section
variable {X:Cx}{K:PySem.W.Frag}
theorem ix_listK (h:X.K=K):IxR X (rIxL K):=h▸ix_list
theorem ix_tupK (h:X.K=K):IxR X (rIxT K):=h▸ix_tup
theorem call_isTK (h:X.K=K):CallR X (.builtin "isinstance") (fun xs H Q=>∃ x n t b,xs=[x,.ty n]∧TyOf K H x t∧PySem.W.kitOne K t (.type n)=some b∧Q (.bl b) H):=by subst h;exact call_isT
theorem call_list_ofK (h:X.K=K):CallR X (.type "list") (fun xs H Q=>∃ p ys,xs=[.ref p]∧(SqL K H p ys∨SqT K H p ys)∧∀ l,H l=none→Q (.ref l) (upd H l (.lst ys))):=by subst h;exact call_list_of
theorem pg_pair {i j:Nat}{x y:Str}{px py tp:Pos}{k0}(h:X.K=K) (hc:X.calm=true) (hN:X.N.Nodup) (hi:X.N[i]?=some x) (hj:X.N[j]?=some y) (lx:X.env.scope.names.lookup x=some .local) (ly:X.env.scope.names.lookup y=some .local) :
    PG X (.Tuple [.Name x px,.Name y py] k0 tp) (gTup K 2 (gCons (gName i) (gCons (gName j) gNil))):=by
  subst h
  exact pg_tup hc (pgs_cons (pg_name hN hi (Or.inl lx) (.inr lx)) (pgs_cons (pg_name hN hj (Or.inl ly) (.inr ly)) pgs_nil))
end
end L2
namespace L2
open PySem
theorem dict_mapF (o:Obj) (f:Array Value→Array Value):(Obj.mapFields f o).dict=o.dict:=by
  obtain ⟨c,d,dt,sl⟩:=o
  cases dt<;>rfl
structure Fly (base:Heap) (l:List Env) (e:Addr) (cls:Value) (d:Option Addr) (fl:Value) (h:Heap):Prop where
  st:base.StaysIn h
  en:base.get? e=none
  fr:h.FunFrames base l
  tr:∃ oe vs T oT ts,h.get? e=some oe∧oe.cls=cls∧oe.dict=d∧oe.data=.fields vs∧vs[1]?=some (.ref T)∧base.get? T=none∧T≠e∧h.get? T=some oT∧oT.data=.fields ts∧ts[3]?=some fl
section
variable {M:Model}{A:Around}{E:Value→Shared→Prop}{s:Shared}{base:Heap}{env:Env}{outer l:List Env}{L e:Addr}{cls fl:Value}{d:Option Addr}{Q:Unit→Shared→Prop}
theorem Fly.there {h:Heap}(x:Fly base l e cls d fl h):∃ ob vs,h.get? e=some ob∧ob.cls=cls∧ob.dict=d∧ob.data=.fields vs:=by
  obtain ⟨oe,vs,_,_,_,a,b,c,z,_⟩:=x.tr
  exact ⟨oe,vs,a,b,c,z⟩
theorem entry_ok {oe:Obj}{vs:Array Value}{head:Value}{hn:Bool}(hfr:A.frames=some (env :: outer)) (hl:s.heap.FunFrames base (env :: outer)) (hf:env.frame=some L) (he:s.heap.get? e=some oe) (hb:base.StaysIn s.heap)
    (ne:base.get? e=none) (hd:oe.data=.fields vs) (hz:1 < vs.size) (h:∀ h',Fly base (env :: outer) e oe.cls oe.dict (rawInt L) h'→s.heap.UpToSlots h'→Q () { s with heap:=h' }) :
    wpAny M A (do let a ← frameOf env;let pl ← entryPlaceOf L hn;let b ← EntryCells.newEntry head a .none (rawInt L) .none pl;setField (.ref e) 1 b) Q E s:=by
  have nF:e∉(env :: outer).filterMap (·.frame):=by
    intro z;obtain ⟨_,o,ho,nf⟩:=hl.mem z
    rw [he] at ho;cases ho;exact nf vs hd
  refine wpAny_bind (wpAny_frameOf_fun hfr hl hf fun h1 q1=>wpAny_bind (wpAny_entryPlaceOf fun pl hpl=>?_))
  unfold EntryCells.newEntry newFields
  refine wpAny_bind (wpAny_newObj_type ?_ (hpl.sizeOk5 _ _ _ _ _))
  generalize eo:({ cls:=.type "traceback",dict:=none,data:=.fields ([head,.ref L,.none,rawInt L,.none] ++ (if pl.isEmpty then List.replicate 6 Value.none else pl)).toArray }:Obj)=ob
  have e1:h1.get? e=some oe:=(q1.2.1 e nF).trans he
  have b1:base.StaysIn h1:=fun b o z=>(q1.2.1 b fun y=>by rw [(hl.mem y).1] at z;cases z).trans (hb b o z)
  have e2:(h1.push ob).get? e=some oe:=Heap.get?_push_of_some ob e1
  have nT:h1.objs.size≠e:=Nat.ne_of_gt (Heap.lt_size e1)
  have d3:=Obj.data_mapFields hd (·.setIfInBounds 1 (Value.ref h1.objs.size))
  have e3:=Heap.get?_update_self (Obj.mapFields (·.setIfInBounds 1 (Value.ref h1.objs.size))) e2 (Obj.isFreed_of_fields d3)
  have kp:∀ b o,b≠e→h1.get? b=some o→((h1.push ob).update e (Obj.mapFields (·.setIfInBounds 1 (Value.ref h1.objs.size)))).get? b=some o:=by
    intro b o n z
    rw [Heap.get?_update_other _ _ (Ne.symm n)];exact Heap.get?_push_of_some _ z
  have nR:∀ b o,s.heap.get? b=some o→(∀ ws,o.data≠.fields ws)→b≠e:=by
    intro b o z nf y
    rw [y,he] at z;cases z;exact nf vs hd
  refine wpAny_setField e2 hd hz (h _ ?_ ?_)
  · have t3:((h1.push ob).update e (Obj.mapFields (·.setIfInBounds 1 (Value.ref h1.objs.size)))).get? h1.objs.size=some ob:=by
      rw [Heap.get?_update_other _ _ (Ne.symm nT)];refine Heap.get?_push_size h1 ?_;rw [← eo];rfl
    refine ⟨fun b o z=>kp b o (fun y=>by rw [y,ne] at z;cases z) (b1 b o z),ne,hl.of_keeps fun b o z nf=>?_,?_⟩
    · obtain ⟨sl,y⟩:=q1.2.2 b o z;exact ⟨_,kp b _ (nR b o z nf) y,rfl⟩
    · refine ⟨_,_,h1.objs.size,ob,_,e3,Obj.cls_mapFields _ _,dict_mapF _ _,d3,by simp [hz],b1.fresh,nT,t3,by rw [← eo],?_⟩
      first | (simp;done) | (rcases hpl with rfl | ⟨_,_,_,_,_,_,_,rfl⟩<;>simp)
  · intro b o z nf
    obtain ⟨sl,y⟩:=q1.2.2 b o z;exact ⟨sl,kp b _ (nR b o z nf) y⟩
theorem note_on (hfr:A.frames=some (env :: outer)) (hf:env.frame=some L) (x:Fly base (env :: outer) e cls d .none s.heap)
    (h:∀ h',Fly base (env :: outer) e cls d (rawInt L) h'→s.heap.UpToSlots h'→Q () { s with heap:=h' }):wpAny M A (noteFrame (.ref e) env) Q E s:=by
  obtain ⟨hb,ne,hl,oe,vs,T,oT,ts,he,rfl,rfl,hd,h1,nT,Te,hT,dT,h3⟩:=x
  unfold noteFrame;simp only [hf]
  refine wpAny_bind (wpAny_field he hd h1 ?_)
  rw [if_pos (by simp:(Value.ref T != Value.none)=true)]
  refine wpAny_bind (wpAny_field hT dT h3 ?_)
  rw [if_neg (by simp [rawInt]:¬ ((Value.none == rawInt L)=true))]
  refine wpAny_bind (wpAny_setField hT dT (Array.getElem?_eq_some_iff.mp h3).1 ?_)
  have ot:∀ b,b≠T→(s.heap.update T (Obj.mapFields (·.setIfInBounds 3 Value.none))).get? b=s.heap.get? b:=fun b n=>Heap.get?_update_other _ _ (Ne.symm n)
  have nR:∀ b o,s.heap.get? b=some o→(∀ ws,o.data≠.fields ws)→b≠T:=fun b o z nf y=>by rw [y,hT] at z;cases z;exact nf ts dT
  refine entry_ok (s:={ s with heap:=s.heap.update T (Obj.mapFields (·.setIfInBounds 3 Value.none)) }) hfr (hl.of_keeps fun b o z nf=>⟨o,(ot b (nR b o z nf)).trans z,rfl⟩) hf ((ot e (Ne.symm Te)).trans he) (fun b o z=>(ot b fun y=>by rw [y,nT] at z;cases z).trans (hb b o z)) ne hd
    (Array.getElem?_eq_some_iff.mp h1).1 fun h' f u=>h h' f fun b o z nf=>u b o ((ot b (nR b o z nf)).trans z) nf
theorem land (x:Fly base l e cls d fl s.heap) (h:∀ h',Fly base l e cls d .none h'→s.heap.UpToSlots h'→Q () { s with heap:=h' }):wpAny M A (setFlight (.ref e) none) Q E s:=by
  obtain ⟨hb,ne,hl,oe,vs,T,oT,ts,he,rfl,rfl,hd,h1,nT,Te,hT,dT,h3⟩:=x
  have z3:3 < ts.size:=(Array.getElem?_eq_some_iff.mp h3).1
  have ot:∀ b,b≠T→(s.heap.update T (Obj.mapFields (·.setIfInBounds 3 ((none:Option Addr).elim Value.none fun f=>rawInt f)))).get? b=s.heap.get? b:=fun b n=>Heap.get?_update_other _ _ (Ne.symm n)
  have nR:∀ b o,s.heap.get? b=some o→(∀ ws,o.data≠.fields ws)→b≠T:=fun b o z nf y=>by rw [y,hT] at z;cases z;exact nf ts dT
  unfold setFlight
  refine wpAny_bind (wpAny_field he hd h1 ?_)
  rw [if_pos (by simp:(Value.ref T != Value.none)=true)]
  refine wpAny_setField hT dT z3 (h _ ⟨fun b o z=>(ot b fun y=>by rw [y,nT] at z;cases z).trans (hb b o z),ne,hl.of_keeps fun b o z nf=>⟨o,(ot b (nR b o z nf)).trans z,rfl⟩,?_⟩ fun b o z nf=>⟨o.slots,(ot b (nR b o z nf)).trans z⟩)
  exact ⟨oe,vs,T,_,_,(ot e (Ne.symm Te)).trans he,rfl,rfl,hd,h1,nT,Te,Heap.get?_update_self _ hT (Obj.isFreed_of_fields (Obj.data_mapFields dT _)),Obj.data_mapFields dT _,by simp [z3]⟩
theorem leave_on (hfr:A.frames=some (env :: outer)) (hf:env.frame=some L) (x:Fly base (env :: outer) e cls d .none s.heap) (h:∀ h',Fly base outer e cls d .none h'→s.heap.UpToSlots h'→Q () { s with heap:=h' }) :
    wpAny M A (leaving env (.ref e)) Q E s:=by
  unfold leaving
  refine wpAny_bind (note_on hfr hf x fun h1 f1 u1=>land (s:={ s with heap:=h1 }) f1 fun h2 f2 u2=>h h2 ⟨f2.st,f2.en,f2.fr.2.2,f2.tr⟩ (u1.trans u2))
theorem leave_new {oe:Obj}{vs:Array Value}(hfr:A.frames=some (env :: outer)) (hf:env.frame=some L) (hl:s.heap.FunFrames base (env :: outer)) (he:s.heap.get? e=some oe) (hb:base.StaysIn s.heap) (ne:base.get? e=none)
    (hd:oe.data=.fields vs) (h1:vs[1]?=some .none) (h:∀ h',Fly base outer e oe.cls oe.dict .none h'→s.heap.UpToSlots h'→Q () { s with heap:=h' }):wpAny M A (leaving env (.ref e)) Q E s:=by
  unfold leaving noteFrame
  simp only [hf]
  refine wpAny_bind (wpAny_bind (wpAny_field he hd h1 ?_))
  rw [if_neg (by decide)]
  exact entry_ok hfr hl hf he hb ne hd (Array.getElem?_eq_some_iff.mp h1).1 fun h1 f1 u1=>land (s:={ s with heap:=h1 }) f1 fun h2 f2 u2=>h h2 ⟨f2.st,f2.en,f2.fr.2.2,f2.tr⟩ (u1.trans u2)
end
end L2
namespace L2
open PySem PySem.Spec PyProof.Rows
local macro_rules | `(tactic| walk_at "om") => `(tactic| first | omega | (unfold Addr at *; omega))
structure Fl (X:Cx) (pins:List (Addr×Obj)) (B:Heap):Prop where
  k0:∀ b o,X.s₀.heap.get? b=some o→X.H₀ b=none→b∉X.fs→b∉X.ex→B.get? b=some o
  kt:∀ b o,X.s₀.heap.get? b=some o→b∉X.fs→b∉X.ex→∃ o',B.get? b=some o'
  kp:∀ p∈X.pn ++ pins,B.get? p.1=some p.2
theorem up_cell {h h':Heap}{c:Addr}{v:Option Value}(up:h.UpToSlots h') (z:h.IsCell c v):h'.IsCell c v:=by
  obtain ⟨o,ho,hd⟩:=z
  obtain ⟨sl,q⟩:=up c o ho (fun vs e=>by rw [hd] at e;cases e)
  exact ⟨_,q,hd⟩
theorem ObjOk.there {P:Program}{w:World}{H:Hp}{h:Heap}{a:Addr}{o:HO}(x:ObjOk P w H h a o):∃ ob,h.get? a=some ob:=by
  cases o with
  | lst xs=>obtain ⟨_,_,_,_,e⟩:=x;exact ⟨_,e⟩
  | tup xs=>obtain ⟨_,_,_,ob,e,_⟩:=x;exact ⟨_,e⟩
  | dK kvs=>obtain ⟨_,_,_,_,o,_,_,e,_⟩:=x;exact ⟨_,e⟩
  | dT kvs=>obtain ⟨_,_,_,_,o,_,_,e,_⟩:=x;exact ⟨_,e⟩
  | set S n=>obtain ⟨o,_,_,_,e,_⟩:=x;exact ⟨_,e⟩
  | ins C dx fs=>obtain ⟨_,_,_,e,_⟩:=x;exact ⟨_,e⟩
  | own y=>obtain ⟨_,e⟩:=x;exact ⟨_,e⟩
  | xd fs=>obtain ⟨_,⟨_,_,_,e,_⟩,_⟩:=x;exact ⟨_,e⟩
  | rng lo hi=>obtain ⟨_,_,_,e⟩:=x;exact ⟨_,e⟩
  | frz ob u=>obtain ⟨e,_⟩:=x;exact ⟨_,e⟩
  | tbl ps=>exact ⟨_,(show h.get? a=some _ from x)⟩
  | met f y=>exact ⟨_,(show h.get? a=some _ from x)⟩
  | ext φ=>obtain ⟨_,⟨_,e⟩,_⟩:=x;exact ⟨_,e⟩
section
variable {X:Cx}{pins:List (Addr×Obj)}{σ:St}{H:Hp}{s:Shared}
theorem Inv.flown {h' B:Heap} (I:Inv X pins σ H s) (hB:B.StaysIn h') (up:s.heap.UpToSlots h') (hok:HOk X.prog X.w H B) (F:Fl X pins B):Inv X pins σ H { s with heap:=h' }:=by
  have sl:∀ b o,X.s₀.heap.get? b=some o→X.H₀ b=none→b∈X.fs→b∉X.ex→∃ sl,h'.get? b=some { o with slots:=sl }:=by
    intro b o e n hb hx
    obtain ⟨sl,e1⟩:=I.base.slot b o e n hb hx
    obtain ⟨_,o',ho',nf⟩:=I.ok.funs.mem hb
    rw [e] at ho';cases ho'
    obtain ⟨sl',e2⟩:=up b _ e1 nf
    exact ⟨sl',e2⟩
  refine ⟨I.ok,I.os,I.bare,⟨fun b o e n hb hx=>hB b o (F.k0 b o e n hb hx),sl,I.base.free,fun b o e hx=>?_,I.base.tups,I.base.frzs,I.base.tbls⟩,?_,fun x c e=>?_,I.free,I.freeC,fun p hp=>?_,hok.kept hB,I.len⟩
  · by_cases hb:b∈X.fs
    · obtain ⟨sl',q⟩:=sl b o e (I.ok.frf b hb) hb hx
      exact ⟨_,q⟩
    · obtain ⟨o',q⟩:=F.kt b o e hb hx
      exact ⟨o',hB b o' q⟩
  · obtain ⟨m,hn,hl⟩:=I.loc
    refine ⟨m,up.ns hn,fun i x v e1 e2 e3=>?_⟩
    obtain ⟨u,r,l⟩:=hl i x v e1 e2 e3
    refine ⟨u,r,?_⟩
    rcases l with l | ⟨k,c,e,z⟩
    · exact .inl l
    · exact .inr ⟨k,c,e,up_cell up z⟩
  · obtain ⟨v,z⟩:=I.cell x c e
    exact ⟨v,up_cell up z⟩
  · obtain ⟨_,n,ne,nf,d⟩:=I.pin p hp
    exact ⟨hB _ _ (F.kp p hp),n,ne,nf,d⟩
theorem Inv.oldStk (I:Inv X pins σ H s) {b:Addr}{o:Obj}(e:X.s₀.heap.get? b=some o) (hb:b∉X.fs):b∉frs X.stack:=fun z=>by
  rcases List.mem_cons.mp (I.stkSub b z) with q | q
  · have h1:=Heap.lt_size e
    have h2:=I.ok.above
    rw [q] at h1
    exact absurd (Nat.lt_of_lt_of_le h1 h2) (Nat.lt_irrefl _)
  · exact hb q
def noFr (h:Heap) (l:List Env):Heap:=PySem.W.hideAll h (frs l)
theorem noFr_get {h:Heap}{l:List Env}{b:Addr}{o:Obj}(e:h.get? b=some o) (n:b∉frs l):(noFr h l).get? b=some o:=PySem.W.hideAll_get _ e n
theorem of_noFr {h:Heap}{l:List Env}:(noFr h l).StaysIn h:=fun _ _ e=>PySem.W.of_hideAll (frs l) e
theorem noFr_none {h:Heap}{l:List Env}:∀ b∈frs l,(noFr h l).get? b=none:=fun _ hb=>PySem.W.hideAll_none (frs l) hb
theorem funs_base {h base B:Heap}:∀ {l:List Env},(∀ b∈frs l,B.get? b=none)→h.FunFrames base l→h.FunFrames B l
  | [],_,_=>trivial
  | env :: r,hB,⟨hk,⟨L,o,hf,_,ho,hd⟩,hr⟩=>by
    have e:frs (env :: r)=L :: frs r:=by unfold frs;rw [List.filterMap_cons,hf]
    rw [e] at hB
    exact ⟨hk,⟨L,o,hf,hB L List.mem_cons_self,ho,hd⟩,funs_base (fun b hb=>hB b (List.mem_cons_of_mem _ hb)) hr⟩
theorem Inv.hokB (I:Inv X pins σ H s):HOk X.prog X.w H (noFr s.heap X.stack):=fun a o e=>by
  have nt:∀ b u,H b=some u→b∉frs X.stack:=fun b u q z=>by rw [I.stkFree b z] at q;cases q
  refine (I.hok a o e).stay (fun b u hb q=>noFr_get q ?_) (fun _ q=>q) fun _ _ q=>q
  rcases hb with rfl | hb
  · exact nt _ _ e
  · exact nt _ _ hb
theorem Inv.flB (I:Inv X pins σ H s):Fl X pins (noFr s.heap X.stack) where
  k0:=fun b o e n hb hx=>noFr_get (I.base.keep b o e n hb hx) (I.oldStk e hb)
  kt:=fun b o e hb hx=>let ⟨o',q⟩:=I.base.there b o e hx;⟨o',noFr_get q (I.oldStk e hb)⟩
  kp:=fun p hp=>by
    obtain ⟨e,n,ne,nf,d⟩:=I.pin p hp
    refine noFr_get e fun z=>?_
    rcases List.mem_cons.mp (I.stkSub _ z) with q | q
    · exact ne q
    · exact nf q
def XS (X:Cx) (pins:List (Addr×Obj)) (σ:St) (E:XK) (e:Value) (s':Shared):Prop :=
  ∃ (ea:Addr) (cls:Value) (d:Option Addr) (H':Hp) (B:Heap),e=.ref ea∧Inv X pins σ H' s'∧Fly B X.stack ea cls d .none s'.heap∧HOk X.prog X.w H' B∧Fl X pins B∧E cls d H'
def CX1 (P:Program) (w:World):CXT:=fun outer H s E e s' =>
  ∃ (ea:Addr) (cls:Value) (d:Option Addr) (H':Hp) (B:Heap),e=.ref ea∧s'.os=s.os∧AllBare s'.gens∧Fly B outer ea cls d .none s'.heap∧HOk P w H' B∧Un (frs outer) [] H H' s.heap s'.heap ∧
    (∀ b o,s.heap.get? b=some o→H b=none→b∉frs outer→B.get? b=some o)∧(∀ b o,s.heap.get? b=some o→b∉frs outer→∃ o',B.get? b=some o')∧E cls d H'
theorem xs_of {E:XK}{e:Value}{s':Shared}(I:Inv X pins σ H s) (h:CX1 X.prog X.w X.stack H s E e s'):XS X pins σ E e s':=by
  obtain ⟨ea,cls,d,H',B,rfl,os,bare,fl,hok,un,k0,kt,q⟩:=h
  refine ⟨ea,cls,d,H',B,rfl,I.call' (ch:=[]) os un (hok.kept fl.st) bare (fun b z=>absurd z (by simp)),fl,hok,⟨fun b o e n hb hx=>?_,fun b o e hb hx=>?_,fun p hp=>?_⟩,q⟩
  · exact k0 b o (I.base.keep b o e n hb hx) (I.base.free b o e n hx) (I.oldStk e hb)
  · obtain ⟨o',e'⟩:=I.base.there b o e hx
    exact kt b o' e' (I.oldStk e hb)
  · obtain ⟨e,n,ne,nf,_⟩:=I.pin p hp
    refine k0 _ _ e n fun z=>?_
    rcases List.mem_cons.mp (I.stkSub _ z) with q | q
    · exact ne q
    · exact nf q
def Takes (X:Cx) (E:St→XK):Prop:=∀ (pins:List (Addr×Obj)) (σ:St) (e:Value) (s':Shared),XS X pins σ (E σ) e s'→X.xe e s'
def TakesN (X:Cx) (E:St→XK):Prop:=∀ (pins:List (Addr×Obj)) (σ:St) (H:Hp) (s:Shared) (ea:Addr) (oe:Obj) (vs:Array Value),Inv X pins σ H s→H ea=none →
  (∀ b o,X.s₀.heap.get? b=some o→b∉X.ex→b≠ea)→(∀ p∈X.pn ++ pins,p.1≠ea)→s.heap.get? ea=some oe→oe.data=.fields vs→vs[1]?=some .none→E σ oe.cls oe.dict H→X.xe (.ref ea) s
end
theorem takes_cx {P:Program}{w:World}{K:PySem.W.Frag}{mg:Str→Option Value}{base:Heap}{N:List Str}{qual:Str}{scope:Scope}{f:Addr}{cd:Value}{A:Around}{outer:List Env}{s:Shared}{H:Hp}{E:XK} :
    Takes (cxOf (CX1 P w) P w K mg base N qual scope f cd A outer s H E) (fun _=>E):=by
  intro pins σ e s' h
  obtain ⟨ea,cls,d,H',B,rfl,I,fl,hok,F,q⟩:=h
  refine leave_on I.ok.frames rfl fl fun h' fl' up=>?_
  have J:=I.flown fl'.st up hok F
  exact ⟨ea,cls,d,H',B,rfl,I.os,I.bare,fl',hok,J.base,fun b o e n hb=>F.k0 b o e n hb (by intro z;cases z),fun b o e hb=>F.kt b o e hb (by intro z;cases z),q⟩
theorem takesN_cx {P:Program}{w:World}{K:PySem.W.Frag}{mg:Str→Option Value}{base:Heap}{N:List Str}{qual:Str}{scope:Scope}{f:Addr}{cd:Value}{A:Around}{outer:List Env}{s:Shared}{H:Hp}{E:XK} :
    TakesN (cxOf (CX1 P w) P w K mg base N qual scope f cd A outer s H E) (fun _=>E):=by
  intro pins σ H1 s1 ea oe vs I hn hold hpin he hd h1 q
  let l:=envOfC qual scope s.heap.objs.size f cd :: outer
  let B:Heap:=PySem.W.hideAll (noFr s1.heap l) [ea]
  have bst:B.StaysIn s1.heap:=fun b o e=>of_noFr b o (PySem.W.of_hideAll [ea] e)
  have bget:∀ b o,(noFr s1.heap l).get? b=some o→b≠ea→B.get? b=some o:=fun b o e n=>PySem.W.hideAll_get _ e (by simpa using n)
  have bne:B.get? ea=none:=PySem.W.hideAll_none [ea] (by simp)
  have hokB:HOk P w H1 B:=fun a o e=>by
    have nt:∀ b u,H1 b=some u→b≠ea:=fun b u q z=>by rw [z,hn] at q;cases q
    refine (I.hokB a o e).stay (fun b u hb q=>bget b u q ?_) (fun _ q=>q) fun _ _ q=>q
    rcases hb with rfl | hb
    · exact nt _ _ e
    · exact nt _ _ hb
  have F:Fl (cxOf (CX1 P w) P w K mg base N qual scope f cd A outer s H E) pins B:=by
    refine ⟨fun b o e n hb hx=>bget b o (I.flB.k0 b o e n hb hx) (hold b o e hx),fun b o e hb hx=>?_,fun p hp=>bget _ _ (I.flB.kp p hp) (hpin p hp)⟩
    obtain ⟨o',q'⟩:=I.flB.kt b o e hb hx
    exact ⟨o',bget b o' q' (hold b o e hx)⟩
  have hl:s1.heap.FunFrames B l:=funs_base (fun b hb=>by
    cases z:B.get? b with
    | none=>rfl
    | some o =>
      have:=noFr_none (h:=s1.heap) b hb
      rw [PySem.W.of_hideAll [ea] z] at this
      cases this) I.stack
  refine leave_new (base:=B) I.ok.frames rfl hl he bst bne hd h1 fun h' fl up=>?_
  have J:=I.flown fl.st up hokB F
  exact ⟨ea,oe.cls,oe.dict,H1,B,rfl,I.os,I.bare,fl,hokB,J.base,fun b o e n hb=>F.k0 b o e n hb (by intro z;cases z),fun b o e hb=>F.kt b o e hb (by intro z;cases z),q⟩
def tCallX (sp:Sp) (dvs:List V) (E:St→XK) (t:TA):TE:=fun σ H Q=>t σ H fun vs H1=>sp (vs ++ dvs) H1 Q (E σ)
def tMakeX (C:Addr) (sp:Sp) (dvs:List V) (E:St→XK) (t:TA):TE:=fun σ H Q=>t σ H fun vs H1=>∀ x dx,H1 x=none→H1 dx=none→dx≠x →
  sp (.ref x :: (vs ++ dvs)) (upd (upd H1 dx (.own x)) x (.ins C dx [])) (fun v H2=>v=.non∧Q (.ref x) H2) (E σ)
section
variable {X:Cx}{k:Nat}{f C:Addr}{fd:FuncData}{ps:List Str}{sp:Sp}{dvs:List V}{ds:List Value}{E:St→XK}{x m:Str}{p pos apos:Pos}{e o:Expr}{es:List Expr}{ta:TE}{t:TA}
theorem run_fnX {pins:List (Addr×Obj)}{σ:St}{H:Hp}{s:Shared}{Q:VK}{us:List Value}{vs:List V}(F:FnOk X.prog X.w X.K X.mg X.base (CX1 X.prog X.w) k f fd ps sp) (hr:Room k X.A) (hb:Binds X.K fd ps ds) (hd:Vals dvs ds) (hx:Takes X E)
    (I:Inv X pins σ H s) (r:Vals vs us) (h:sp (vs ++ dvs) H Q (E σ)):wpAny (model X.prog X.w) X.A (call (.ref f) us) (EP X pins σ Q) X.xe s:=by
  have r2:Vals (vs ++ dvs) (us ++ ds):=r.append hd
  have hl:(us ++ ds).length=ps.length:=by rw [← r2.length];exact F.len _ _ _ _ h
  refine wpAny_call (codeAny_mono (F.run X.A X.stack s H ⟨us,[]⟩ (us ++ ds) (vs ++ dvs) Q (E σ) hr I.env0 (hb s us I.kIn hl) r2 h) fun r s' hq=>?_)
  cases r with
  | error e=>exact hx pins σ e s' (xs_of I hq)
  | ok fl =>
    cases fl with
    | ret u=>exact I.after hq
    | next=>exact False.elim hq
    | brk=>exact False.elim hq
    | cont=>exact False.elim hq
theorem pe_callX (F:FnOk X.prog X.w X.K X.mg X.base (CX1 X.prog X.w) k f fd ps sp) (hr:Room k X.A) (hg:Gl X x) (hm:X.mg x=some (.ref f)) (hk:PySem.W.keepIn X.K (.ref f)=true) (hb:Binds X.K fd ps ds) (hd:Vals dvs ds) (hx:Takes X E)
    (ha:PA X (e :: es) t) (hdb:(x == ("__debug__":Str))=false:=by decide) (he:starEach (e :: es) X.env=(false,eval e X.env) :: starEach es X.env:=by rfl) (hpl:(backTo pos (starEach es X.env)).any (·.1)=false:=by rfl) :
    PE X (.Call (.Name x p) (e :: es) [] pos) (tCallX sp dvs E t):=by
  intro pins s σ H Q I h
  refine wpAny_Call_Name_kw (ld_glob I hg hm ?_ hdb)
  refine PySem.W.callWith_K (h₀:=X.base) I.ok.mod.kin hk (thn (ha pos pins s σ H _ I h) fun us s1 ⟨vs,H1,I1,r,q⟩=>⟨I1.kIn,?_⟩) he hpl
  exact run_fnX F hr hb hd hx I1 r q
theorem run_makeX {pins:List (Addr×Obj)}{σ:St}{H:Hp}{s:Shared}{Q:VK}{us:List Value}{vs:List V}(M:Mk X.K C f) (F:FnOk X.prog X.w X.K X.mg X.base (CX1 X.prog X.w) k f fd ps sp) (hr:Room (k + 1) X.A) (hb:Binds X.K fd ps ds) (hd:Vals dvs ds)
    (hx:Takes X E) (I:Inv X pins σ H s) (r:Vals vs us)
    (h:∀ x dx,H x=none→H dx=none→dx≠x→sp (.ref x :: (vs ++ dvs)) (upd (upd H dx (.own x)) x (.ins C dx [])) (fun v H2=>v=.non∧Q (.ref x) H2) (E σ)) :
    wpAny (model X.prog X.w) X.A (call (.ref C) us) (EP X pins σ Q) X.xe s:=by
  have hq:=h (s.heap.objs.size + 1) s.heap.objs.size (I.hok.fresh (Nat.le_succ _)) (I.hok.fresh (Nat.le_refl _)) (Nat.ne_of_lt (Nat.lt_succ_self _))
  have I2:=Inv.made (C:=C) I
  have r2:Vals (V.ref (s.heap.objs.size + 1) :: (vs ++ dvs)) (Value.ref (s.heap.objs.size + 1) :: (us ++ ds)):=.cons rfl (r.append hd)
  have hl:(Value.ref (s.heap.objs.size + 1) :: us ++ ds).length=ps.length:=by
    have e:=r2.length
    rw [F.len _ _ _ _ hq] at e
    exact e.symm
  refine wpAny_call (make_map (f:=f) I.kIn M.makes M.init (beq_iff_eq.mp M.fn) (codeAny_mono (F.run _ X.stack _ _ ⟨Value.ref (s.heap.objs.size + 1) :: us,[]⟩ (Value.ref (s.heap.objs.size + 1) :: (us ++ ds)) _ _ (E σ) (hr.make C us [])
    (I2.env0.make C us []) (hb _ (Value.ref (s.heap.objs.size + 1) :: us) I2.kIn hl) r2 hq) fun r s' hq'=>?_))
  cases r with
  | error e=>exact hx pins σ e s' (xs_of I2 hq')
  | ok fl =>
    cases fl with
    | ret u =>
      obtain ⟨v,H',I3,rv,ev,q3⟩:=I2.after hq'
      subst ev
      exact ⟨rv,⟨V.ref (s.heap.objs.size + 1),H',I3,rfl,q3⟩⟩
    | next=>exact False.elim hq'
    | brk=>exact False.elim hq'
    | cont=>exact False.elim hq'
theorem pe_makeX (M:Mk X.K C f) (F:FnOk X.prog X.w X.K X.mg X.base (CX1 X.prog X.w) k f fd ps sp) (hr:Room (k + 1) X.A) (hg:Gl X x) (hm:X.mg x=some (.ref C)) (hb:Binds X.K fd ps ds) (hd:Vals dvs ds) (hx:Takes X E)
    (ha:PA X (e :: es) t) (hdb:(x == ("__debug__":Str))=false:=by decide) (he:starEach (e :: es) X.env=(false,eval e X.env) :: starEach es X.env:=by rfl) (hpl:(backTo pos (starEach es X.env)).any (·.1)=false:=by rfl) :
    PE X (.Call (.Name x p) (e :: es) [] pos) (tMakeX C sp dvs E t):=by
  intro pins s σ H Q I h
  refine wpAny_Call_Name_kw (ld_glob I hg hm ?_ hdb)
  refine PySem.W.callWith_K (h₀:=X.base) I.ok.mod.kin M.kp (thn (ha pos pins s σ H _ I h) fun us s1 ⟨vs,H1,I1,r,q⟩=>⟨I1.kIn,?_⟩) he hpl
  exact run_makeX M F hr hb hd hx I1 r q
end
theorem Fun.okX {P:Program}{w:World}{K:PySem.W.Frag}{mg:Str→Option Value}{base:Heap}{x qual:Str}{st:Stmt}{f:Addr}{fd:FuncData}{N ps:List Str}{k:Nat}{sp:Sp}(F:Fun K x qual st f fd) (S:FnScope N ps (defScope st)) (len:∀ vs H Q E,sp vs H Q E→vs.length=ps.length)
    (hbody:∀ (cdv:Value) (A:Around) (outer:List Env) (s:Shared) (H:Hp) (vs:List V) (Q:VK) (E:XK),Room k (A.deeper (envOfC qual (defScope st) s.heap.objs.size f cdv))→sp vs H Q E →
      ∃ t,PSs (cxOf (CX1 P w) P w K mg base N qual (defScope st) f cdv A outer s H E) (defBody st) t∧t { nx:=fun _ H'=>Q .non H',rt:=Q } (start N vs) H):FnOk P w K mg base (CX1 P w) (k + 1) f fd ps sp:=by
  obtain ⟨oc,od,kV,doc,pm,an,cdv,ct,osl,rfl,lk,hcd⟩:=F.ex
  exact fn_of lk hcd S len fun A outer s H vs Q E hr hsp=>hbody cdv A outer s H vs Q E hr hsp
end L2
namespace L2
open PySem PySem.Spec PyProof.Rows
abbrev bmV:List Value:=[.type "ValueError",.type "Exception",.type "BaseException",.type "object"]
theorem exc_obj {K:PySem.W.Frag}{h:Heap}{C:Addr}{bmB:List Value}{newId:String}(X:K.In h) (q:PySem.W.excIn K C bmB newId=true) :
    ∃ bm N nm q bs hdct sn sub ab col dd k0 k1 k2 k3 k5 mN,h.get? C=some (excClassObj nm q C N bs bm hdct sn sub ab col dd k0 k1 k2 k3 k5 newId)∧h.Ns N mN∧mN "__init__"=none∧OwnTail h bmB bm:=by
  unfold PySem.W.excIn at q;split at q
  · rename_i dd cd sl ho;split at q
    · rename_i C' bm k0 k1 k2 k3 n k5 hm hs
      simp only [Bool.and_eq_true,Bool.not_eq_true',beq_iff_eq] at q
      obtain ⟨⟨⟨⟨⟨e1,e2⟩,e3⟩,ht⟩,hk⟩,hi⟩:=q
      subst e1 e2
      obtain ⟨nm,bs,mro,ns,qn,hd,sn,sub,ab,col,del⟩:=cd
      dsimp only at hm e3 hk hi;subst hm e3
      have es:sl=#[k0,k1,k2,k3,some (.builtin n),k5]:=by obtain ⟨l⟩:=sl;simp only at hs;rw [hs]
      subst es
      exact ⟨bm,ns,nm,qn,bs,hd,sn,sub,ab,col,dd,k0,k1,k2,k3,k5,_,X _ _ ho,.of_isNs (PySem.W.isNs_of_in X hk),PySem.W.nsMap_none_of_in X hk hi,PySem.W.tail_of_in X ht⟩
    · cases q
  · cases q
def tRaise (C:Addr) (E:St→XK) (t:TA):TS:=fun _ σ H=>t σ H fun vs H1=>vs.length≤sizeLine∧E σ (.ref C) none H1
section
variable {X:Cx}{C:Addr}{x:Str}{np cpos pos:Pos}{e:Expr}{es:List Expr}{t:TA}{E:St→XK}
theorem made_takes {pins:List (Addr×Obj)}{σ:St}{H:Hp}{s:Shared}{h':Heap}{ea:Addr}{cls:Value}{args:List Value}(hT:TakesN X E) (I:Inv X pins σ H s) (hm:Heap.MadeExcOf s.heap h' ea cls args) (q:E σ cls none H) :
    X.xe (.ref ea) { s with heap:=h' }:=by
  obtain ⟨t,he,_,_⟩:=hm.there
  have new:∀ b o,s.heap.get? b=some o→b≠ea:=fun b o z y=>by rw [y,hm.new] at z;cases z
  refine hT pins σ H { s with heap:=h' } ea _ _ (I.kept hm.keeps) ?_ (fun b o z=>?_) (fun p hp=>new _ _ (I.pin p hp).1) he rfl rfl q
  · cases z:H ea with
    | none=>rfl
    | some o =>
      obtain ⟨ob,y⟩:=(I.hok ea o z).there
      exact absurd rfl (new ea ob y)
  · intro hx y
    subst y
    obtain ⟨o',y⟩:=I.base.there b o z hx
    exact new b o' y rfl
theorem ps_raise (hc:X.calm=true) (ex:PySem.W.excIn X.K C bmV "ValueError.__new__"=true) (hg:Gl X x) (hm:X.mg x=some (.ref C)) (hT:TakesN X E) (ha:PA X (e :: es) t)
    (hdb:(x == ("__debug__":Str))=false:=by decide) (he:starEach (e :: es) X.env=(false,eval e X.env) :: starEach es X.env:=by rfl) (hpl:(backTo cpos (starEach es X.env)).any (·.1)=false:=by rfl) :
    PS X (.Raise (some (.Call (.Name x np) (e :: es) [] cpos)) none pos) (tRaise C E t):=by
  intro pins s σ H D I h
  obtain ⟨tl,N,nm,q,bs,hdct,sn,sub,ab,col,dd,k0,k1,k2,k3,k5,mN,hC,hN,hni,T⟩:=exc_obj I.ok.mod.kin ex
  refine wpAny_Raise_call_subT (nm:=nm) (q:=q) (k5:=k5) (k0:=k0) (k1:=k1) (k2:=k2) (k3:=k3) (dd:=dd) (col:=col) (ab:=ab) (sub:=sub) (sn:=sn) (hdct:=hdct) (bs:=bs) (C:=C) (N:=N) (bm:=tl) F.excBase_ValueError (mN:=mN) (T.hasType F.excBase_ValueError.hasBase) (I.ok.hd hc) ?_ hni (ld_glob I hg hm ⟨rfl,?_⟩ hdb)
  · rw [he];show (false || _)=false;rw [Bool.false_or];exact hpl
  · have z:=ha cpos pins s σ H _ I h
    rw [he] at z ⊢
    exact Calls.evalArgs_plain (thn z fun us s2 ⟨vs,H2,I2,r,zl,q2⟩=>⟨rfl,by rw [← r.length];exact zl,I2.bk _ _ hC,hN.keeps I2.bk,T.keeps I2.bk,fun h' ea hme=>made_takes hT I2 hme q2⟩)
end
def excO (ea C:Addr) (d:Option Addr):HO:=.ext fun h=>∃ o vs,h.get? ea=some o∧o.cls=.ref C∧o.dict=d∧o.data=.fields vs
abbrev Cx.tryB (X:Cx) (W:Value→Shared→Prop) (pn:List (Addr×Obj)):Cx:={ X with xe:=W,pn:=pn }
abbrev Cx.suite (X:Cx) (ea:Addr):Cx:={ X with A:=X.A.mark (some (.ref ea)),calm:=false,xe:=fun _ _=>False }
section
variable {X:Cx}{pins:List (Addr×Obj)}{σ:St}{H:Hp}{s:Shared}
theorem Inv.tryB (I:Inv X pins σ H s) (W:Value→Shared→Prop):Inv (X.tryB W (X.pn ++ pins)) [] σ H s :=
  ⟨⟨I.ok.mod,I.ok.kind,I.ok.glob,I.ok.blt,I.ok.above,I.ok.inj,I.ok.has,I.ok.cab,I.ok.hd,I.ok.frames,I.ok.stk,I.ok.exf,I.ok.bs,I.ok.bsz,I.ok.noex,I.ok.exfs,I.ok.funs,I.ok.frf⟩,I.os,I.bare,I.base,I.loc,I.cell,I.free,I.freeC,
    fun p hp=>I.pin p (by simpa using hp),I.hok,I.len⟩
theorem Inv.untryB {W:Value→Shared→Prop}{pins':List (Addr×Obj)}(I:Inv (X.tryB W (X.pn ++ pins)) pins' σ H s):Inv X pins σ H s :=
  ⟨⟨I.ok.mod,I.ok.kind,I.ok.glob,I.ok.blt,I.ok.above,I.ok.inj,I.ok.has,I.ok.cab,I.ok.hd,I.ok.frames,I.ok.stk,I.ok.exf,I.ok.bs,I.ok.bsz,I.ok.noex,I.ok.exfs,I.ok.funs,I.ok.frf⟩,I.os,I.bare,I.base,I.loc,I.cell,I.free,I.freeC,
    fun p hp=>I.pin p (List.mem_append_left _ hp),I.hok,I.len⟩
theorem Inv.suite (I:Inv X pins σ H s) (ea:Addr):Inv (X.suite ea) pins σ H s :=
  ⟨⟨I.ok.mod,I.ok.kind,I.ok.glob,I.ok.blt,I.ok.above,I.ok.inj,I.ok.has,I.ok.cab,(fun z=>(by cases z)),I.ok.frames,I.ok.stk,I.ok.exf,I.ok.bs,I.ok.bsz,I.ok.noex,I.ok.exfs,I.ok.funs,I.ok.frf⟩,I.os,I.bare,I.base,I.loc,I.cell,I.free,I.freeC,I.pin,I.hok,I.len⟩
theorem Inv.unsuite {ea:Addr}(I:Inv (X.suite ea) pins σ H s) (hc:X.calm=true→X.A.handled=none):Inv X pins σ H s :=
  ⟨⟨I.ok.mod,I.ok.kind,I.ok.glob,I.ok.blt,I.ok.above,I.ok.inj,I.ok.has,I.ok.cab,hc,I.ok.frames,I.ok.stk,I.ok.exf,I.ok.bs,I.ok.bsz,I.ok.noex,I.ok.exfs,I.ok.funs,I.ok.frf⟩,I.os,I.bare,I.base,I.loc,I.cell,I.free,I.freeC,I.pin,I.hok,I.len⟩
theorem Inv.caught {B:Heap}{l:List Env}{ea C:Addr}{d:Option Addr}{fl:Value}(I:Inv X pins σ H s) (f:Fly B l ea (.ref C) d fl s.heap) (hok:HOk X.prog X.w H B) (F:Fl X pins B) (hn:H ea=none):Inv X pins σ (upd H ea (excO ea C d)) s:=by
  obtain ⟨ob,vs,ho,hc,hdd,hd⟩:=f.there
  have keep:∀ b u,H b=some u→upd H ea (excO ea C d) b=some u:=fun b u e=>by rw [upd_ne (ne_of_none e hn)];exact e
  have data:∀ b o,s.heap.get? b=some o→(∀ ws,o.data≠.fields ws)→b≠ea:=fun b o e nf z=>by rw [z,ho] at e;cases e;exact nf vs hd
  have new:∀ b o,X.s₀.heap.get? b=some o→b∉X.ex→b≠ea:=fun b o e hx z=>by
    by_cases hb:b∈X.fs
    · obtain ⟨sl,q⟩:=I.base.slot b o e (I.ok.frf b hb) hb hx
      obtain ⟨_,o',e',nf⟩:=I.ok.funs.mem hb
      rw [e] at e';cases e'
      exact data b _ q nf z
    · obtain ⟨o',q⟩:=F.kt b o e hb hx
      rw [z,f.en] at q;cases q
  refine ⟨I.ok,I.os,I.bare,⟨I.base.keep,I.base.slot,fun b o e n hx=>?_,I.base.there,fun b xs e=>keep _ _ (I.base.tups b xs e),fun b o u e=>keep _ _ (I.base.frzs b o u e),fun b ps e=>?_⟩,I.loc,I.cell,?_,fun x c e=>?_,fun p hp=>?_,fun b u e=>?_,I.len⟩
  · rw [upd_ne (new b o e hx)];exact I.base.free b o e n hx
  · obtain ⟨m,q⟩:=I.base.tbls b ps e
    exact ⟨m,keep _ _ q⟩
  · obtain ⟨m,⟨o,es,ep,e,dd,_⟩,_⟩:=I.loc
    rw [upd_ne (data _ o e fun ws z=>by rw [dd] at z;cases z)];exact I.free
  · obtain ⟨v,o,e',dd⟩:=I.cell x c e
    rw [upd_ne (data _ o e' fun ws z=>by rw [dd] at z;cases z)];exact I.freeC x c e
  · obtain ⟨e,n,ne,nf,z⟩:=I.pin p hp
    refine ⟨e,?_,ne,nf,z⟩
    rw [upd_ne (fun y=>by have:=F.kp p hp;rw [y,f.en] at this;cases this)];exact n
  · by_cases hb:b=ea
    · subst hb
      rw [upd_same] at e;cases e
      exact ⟨⟨ob,vs,ho,hc,hdd,hd⟩,⟨ob,ho⟩,fun h1 h2 ⟨o,ws,a1,a2⟩ k=>⟨o,ws,k _ a1,a2⟩⟩
    · rw [upd_ne hb] at e
      exact (I.hok b u e).stay (fun _ _ _ q=>q) (fun c q=>keep _ _ q) fun c xs q=>keep _ _ q
theorem goes_ok {M:Model}{A:Around}{E:Value→Shared→Prop}{i:Nat}{n:Str}{pos:Pos}{Q:Unit→Shared→Prop}(I:Inv X pins σ H s) (hN:X.N.Nodup) (hi:X.N[i]?=some n) (hl:X.env.scope.names.lookup n=some .local)
    (h:∀ s',Inv X pins (σ.set i none) H s'→Q () s'):wpAny M A (do bindName X.env n .none;unbindBehindTheSuite X.env n pos) Q E s:=by
  obtain ⟨m,hn,hm⟩:=id I.loc
  have hp:(X.env.scope.kind == .class || (X.env.scope.kind == .module && X.env.locals != X.env.globals))=false:=by rw [I.ok.kind];rfl
  refine wpAny_nameGoes_keeps hl hn hp fun h' v hn' hs=>?_
  obtain ⟨oL,_,_,hoL,_⟩:=id hn
  have old:∀ b o,X.s₀.heap.get? b=some o→b≠X.env.locals:=fun b o e=>Nat.ne_of_lt (Nat.lt_of_lt_of_le (Heap.lt_size e) I.ok.above)
  refine h _ ⟨I.ok,I.os,I.bare,⟨fun b o e n hb hx=>?_,fun b o e n hb hx=>?_,I.base.free,fun b o e hx=>?_,I.base.tups,I.base.frzs,I.base.tbls⟩,⟨_,hn',fun j y v' e1 e2 e3=>?_⟩,fun y c e=>?_,I.free,I.freeC,fun p hp=>?_,fun b u e=>?_,by simpa using I.len⟩
  · exact (hs.2 b (old b o e)).trans (I.base.keep b o e n hb hx)
  · obtain ⟨sl,e1⟩:=I.base.slot b o e n hb hx
    exact ⟨sl,(hs.2 b (old b o e)).trans e1⟩
  · obtain ⟨o',e1⟩:=I.base.there b o e hx
    exact ⟨o',(hs.2 b (old b o e)).trans e1⟩
  · have hj:j≠i:=fun z=>by
      subst z
      have hjl:j < σ.length:=by rw [I.len];exact (List.getElem?_eq_some_iff.mp hi).1
      rw [List.getElem?_set_self hjl] at e2;cases e2
    rw [List.getElem?_set_ne (Ne.symm hj)] at e2
    obtain ⟨u',r',q⟩:=hm j y v' e1 e2 e3
    refine ⟨u',r',?_⟩
    rcases q with ⟨k,e⟩ | ⟨k,c,e,z⟩
    · refine .inl ⟨k,?_⟩
      have ny:y≠n:=fun e=>hj (nodup_ix hN e1 (e▸hi))
      show (if y=n then v else m y)=some u'
      rw [if_neg ny];exact e
    · exact .inr ⟨k,c,e,z.sameBut hs (I.cne y c e)⟩
  · obtain ⟨w',z⟩:=I.cell y c e
    exact ⟨w',z.sameBut hs (I.cne y c e)⟩
  · obtain ⟨e,n,ne,nf,d⟩:=I.pin p hp
    exact ⟨(hs.2 p.1 ne).trans e,n,ne,nf,d⟩
  · refine (I.hok b u e).stay (fun c w' hc q=>(hs.2 c ?_).trans q) (fun _ q=>q) fun _ _ q=>q
    rintro rfl
    rcases hc with z | z
    · rw [← z,I.free] at e;cases e
    · rw [I.free] at z;cases z
end
def Ends.goes (D:Ends) (i:Nat):Ends:={ nx:=fun σ H=>D.nx (σ.set i none) H,rt:=D.rt,bk:=fun σ H=>D.bk (σ.set i none) H,ct:=fun σ H=>D.ct (σ.set i none) H }
def tCatch (K:PySem.W.Frag) (C:Addr) (i:Nat) (th:TS) (D:Ends):St→XK:=fun σ cls d H=>∃ C',cls=.ref C'∧PySem.W.exmOne K (.ref C') (.ref C)=some true∧∀ ea,H ea=none→th (D.goes i) (σ.set i (some (.ref ea))) (upd H ea (excO ea C' d))
def tTry (K:PySem.W.Frag) (C:Addr) (i:Nat) (tb:(St→XK)→TS) (th to:TS):TS:=fun D σ H=>tb (tCatch K C i th D) { D with nx:=to D } σ H
section
variable {X:Cx}{C:Addr}{x n:Str}{i:Nat}{np hp pos:Pos}{body suite orelse:List Stmt}{b₀:Stmt}{tb:(St→XK)→TS}{th to:TS}
theorem ps_try (hg:Gl X x) (hm:X.mg x=some (.ref C)) (hst:X.stack=X.env :: X.outer) (hfr:X.env.frame=some X.env.locals) (hN:X.N.Nodup) (hi:X.N[i]?=some n) (hl:X.env.scope.names.lookup n=some .local)
    (hb:∀ (W:Value→Shared→Prop) (pn:List (Addr×Obj)) (E:St→XK),Takes (X.tryB W pn) E→PSs (X.tryB W pn) body (tb E)) (hh:∀ ea,PSs (X.suite ea) (b₀ :: suite) th) (ho:PSs X orelse to)
    (hdb:(x == ("__debug__":Str))=false:=by decide) :
    PS X (.Try body [.ExceptHandler (some (.Name x np)) (some n) (b₀ :: suite) hp] orelse [] pos) (tTry X.K C i tb th to):=by
  intro pins s σ H D I h
  have hT:Takes (X.tryB (fun e s₁=>wpAny (model X.prog X.w) X.A (noteFrame e X.env) (fun _ s₂=>wpAny (model X.prog X.w) X.A (setFlight e none) (fun _ s₃=>wpAny (model X.prog X.w) X.A (handleBy e X.env [.ExceptHandler (some (.Name x np)) (some n) (b₀ :: suite) hp]) (SP X pins D) X.xe s₃) X.xe s₂) X.xe s₁) (X.pn ++ pins)) (tCatch X.K C i th D):=by
    intro pins' σ' e s' hx
    obtain ⟨ea,cls,d,H',B,rfl,I1,fl,hok,F1,C',rfl,hmt,q⟩:=hx
    have I2:Inv X pins σ' H' s':=I1.untryB
    have F:Fl X pins B:=⟨F1.k0,F1.kt,fun p hp=>F1.kp p (List.mem_append_left _ hp)⟩
    have fl:Fly B (X.env :: X.outer) ea (.ref C') d .none s'.heap:=hst▸fl
    have fA:X.A.frames=some (X.env :: X.outer):=hst▸I.ok.frames
    refine note_on fA hfr fl fun h1 f1 u1=>?_
    have J1:=I2.flown f1.st u1 hok F
    refine land (s:={ s' with heap:=h1 }) f1 fun h2 f2 u2=>?_
    have J2:=J1.flown f2.st u2 hok F
    have LT:PySem.W.Looks (model X.prog X.w) h2 (typeOf (.ref ea)) (.ref C'):=by
      obtain ⟨ob,_,z,y,_⟩:=f2.there
      rw [← y];exact (PySem.W.Looks.ld z).andThen .now
    have hn:H' ea=none:=by
      cases z:H' ea with
      | none=>rfl
      | some o =>
        obtain ⟨ob,y⟩:=(hok ea o z).there
        rw [f2.en] at y;cases y
    refine wpAny_handleBy_cons (codeAny_handlers_test ?_) (by intro q;cases q)
    refine ld_glob (X:=X.suite ea) (J2.suite ea) hg hm ?_ hdb
    refine (PySem.W.exm_one (K:=X.K) J2.kIn LT hmt).here ?_
    refine codeAny_handlers_suite_as ?_
    refine land (s:={ s' with heap:=h2 }) f2 fun h3 f3 u3=>?_
    have J3:=J2.flown f3.st u3 hok F
    have J4:=(J3.caught f3 hok F hn).suite ea
    refine store_ok (X:=X.suite ea) J4 hN hi (.inl hl) (v:=.ref ea) rfl (fun s4 J5=>?_) (.inr hl)
    refine wpAny_mono (hh ea pins s4 _ _ (D.goes i) J5 (q ea hn)) (fun f s5 z=>?_) fun _ _ z=>False.elim z
    have back:∀ {σ5 H5},Inv (X.suite ea) pins σ5 H5 s5→Inv X pins σ5 H5 s5:=fun J=>J.unsuite I.ok.hd
    cases f with
    | next=>obtain ⟨σ5,H5,J6,z⟩:=z;exact goes_ok (back J6) hN hi hl fun s6 J7=>⟨_,H5,J7,z⟩
    | brk=>obtain ⟨σ5,H5,J6,z⟩:=z;exact goes_ok (back J6) hN hi hl fun s6 J7=>⟨_,H5,J7,z⟩
    | cont=>obtain ⟨σ5,H5,J6,z⟩:=z;exact goes_ok (back J6) hN hi hl fun s6 J7=>⟨_,H5,J7,z⟩
    | ret u=>obtain ⟨v,σ5,H5,J6,r,z⟩:=z;exact goes_ok (back J6) hN hi hl fun s6 J7=>⟨v,_,H5,J7,r,z⟩
  refine wpAny_Try_except (wpAny_mono (hb _ (X.pn ++ pins) _ hT [] s σ H { D with nx:=to D } (I.tryB _) h) (fun f s1 z=>?_) fun _ _ z=>z)
  cases f with
  | next=>obtain ⟨σ1,H1,J,z⟩:=z;exact ho pins s1 σ1 H1 D J.untryB z
  | brk=>obtain ⟨σ1,H1,J,z⟩:=z;exact ⟨σ1,H1,J.untryB,z⟩
  | cont=>obtain ⟨σ1,H1,J,z⟩:=z;exact ⟨σ1,H1,J.untryB,z⟩
  | ret u=>obtain ⟨v,σ1,H1,J,r,z⟩:=z;exact ⟨v,σ1,H1,J.untryB,r,z⟩
end
end L2
namespace L2
open PySem PySem.Spec PyProof.Rows PySem.W
structure ExT (K:Frag) (C:Addr):Prop where
  ga:findIn K (.ref C) "__getattribute__"=some (some (.builtin "BaseException.__getattribute__"))
  gt:findIn K (.ref C) "__getattr__"=some none
  cl:(clsIn K C).isSome=true
  ha:findIn K (.ref C) "__class__"=some (some (.builtin "object.__class__"))
  hn:specialIn K (.builtin "object.__class__") "__get__"=some (some (.builtin "getset_descriptor.__get__"))
  tk:takesIn K (.builtin "object.__class__")=some true
  mO:mroIn K C (.type "object")=some true
  mB:mroIn K C (.type "BaseException")=some true
theorem cls_some {K:Frag}{C:Addr}{b:Value}{r:Bool}(h:mroIn K C b=some r):(clsIn K C).isSome=true:=by
  obtain ⟨cd,a,_⟩:=Option.bind_eq_some_iff.mp h
  rw [a];rfl
theorem findObj_dataO {K:Frag}{C:Addr}{od:Option Obj}{name:Str}{a g:Value}(hc:(clsIn K C).isSome=true) (ha:findIn K (.ref C) name=some (some a)) (hg:specialIn K a "__get__"=some (some g)) (ht:takesIn K a=some true):findObj K C od name=some (.bind g a):=by
  obtain ⟨cd,hc⟩:=Option.isSome_iff_exists.mp hc
  simp [findObj,hc,ha,hg,ht]
section
variable {prog:Program}{w:World}{A:Around}{E:Value→Shared→Prop}{s:Shared}{K:Frag}{x C:Addr}{ox:Obj}{od:Option Obj}{name:Str}
theorem check_ga {M:Model}{v:Value}{Q:Unit→Shared→Prop}(T:ExT K C) (X:K.In s.heap) (I:PySem.W.InstAt s.heap x ox C od) (h:Q () s):wpAny M A (checkBuiltinCall "BaseException.__getattribute__" ⟨[.ref x,v],[]⟩) Q E s:=by
  obtain ⟨hh,gg,d,t,os⟩:=s
  have L0:=I.type (M:=M)
  have LB:=looks_mroIn (M:=M) X T.mB
  have hk:builtinKind "BaseException.__getattribute__"=some .slot:=by decide +kernel
  have hs:splitId "BaseException.__getattribute__"=some ("BaseException","__getattribute__"):=by decide +kernel
  have ha:=F.args_bexc_ga (.ref x) v
  simp only [checkBuiltinCall,hk,hs]
  refine wpAny_bind ?_
  unfold isInstance
  repeat (first | lk | wp_step)
  exact h
theorem exc_ga {tk:Tok}{R:Result→Shared→Prop}{a:Value}{g:String}(T:ExT K C) (X:K.In s.heap) (I:PySem.W.InstAt s.heap x ox C od) (hf:findObj K C od name=some (.bind (.builtin g) a))
    (h:wpAny (model prog w) A.in1 (call (.builtin g) [a,.ref x,.ref C]) (fun v s'=>R (.ok (.ret v)) s') (fun e s'=>R (.error e) s') s) :
    codeAny (model prog w) A (.call (.builtin "BaseException.__getattribute__") ⟨[.ref x,.str name tk],[]⟩) R s:=by
  obtain ⟨hh,gg,d,t,os⟩:=s
  have L0:=I.type (M:=model prog w)
  have L1:=looks_find (M:=model prog w) X I hf
  refine codeAny_call_builtin F.excAttr_ValueError.ga.plain F.entry_bexc_ga (check_ga T X I ?_)
  refine wpAny_bind (wpAny_pure (wpAny_bind (wpAny_pure (wpAny_bind (L0.at (wpAny_bind (L1.at ?_)))))))
  show wpAny _ _ (holding [a] (call (.builtin g) [a,.ref x,.ref C]) >>= ret) _ _ _
  exact wpAny_bind (wpAny_holding (wpAny_mono h (fun v s' z=>wpAny_pure z) fun _ _ z=>z))
theorem exc_class {Q:Option Value→Shared→Prop} (T:ExT K C) (X:K.In s.heap) (I:PySem.W.InstAt s.heap x ox C od) (h:Q (some (.ref C)) { s with toks:=s.toks + 1 }):wpAny (model prog w) A (getAttr? (.ref x) "__class__") Q E s:=by
  have hf:findObj K C od "__class__"=some (.bind (.builtin "getset_descriptor.__get__") (.builtin "object.__class__")):=findObj_dataO T.cl T.ha T.hn T.tk
  obtain ⟨hh,g,d,t,os⟩:=s
  have L0:=I.type (M:=model prog w)
  have L1:=looks_findIn (M:=model prog w) X T.ga
  have L2:=looks_findIn (M:=model prog w) X T.gt
  have f3:=F.excAttr_ValueError.ga.bind (.ref x)
  unfold getAttr? getAttrBy? getAttrBy
  refine wpAny_bind (wpAny_mkText (wpAny_bind (wpAny_attempt (wpAny_holding (wpAny_bind (L0.at (wpAny_bind (L1.at ?_))))))))
  show wpAny _ _ (if (onTheHeap (Value.ref C) && Value.builtin "BaseException.__getattribute__" == Value.builtin "object.__getattribute__")=true then _ else _) _ _ _
  rw [if_neg (by simp [onTheHeap])]
  unfold getAttrByItsOwn
  refine wpAny_bind (show wpAny _ _ (typeLookup (.ref C) "__getattr__") _ _ _ from L2.at ?_)
  refine wpAny_bind (wpAny_attempt (wpAny_holding ?_))
  show wpAny _ _ (boundAndCalled _ _ _) _ _ _
  unfold boundAndCalled
  rw [f3]
  refine wpAny_bind (wpAny_pure ?_)
  refine wpAny_call (exc_ga T X I hf (wpAny_call (class_get X I T.mO ?_)))
  exact wpAny_pure (wpAny_pure h)
theorem kitx_exc (T:ExT K C):KitX K (.ref x) (.ref C) (fun h=>PySem.W.InstAt h x ox C od) where
  ty:=fun _ _ _ I=>I.type
  it:=fun _ _ X _=>by
    obtain ⟨cd,hc⟩:=Option.isSome_iff_exists.mp T.cl
    unfold clsIn at hc
    split at hc
    · rename_i ho
      intro A' Q' E' s' k q
      unfold isType loadHead
      exact wpAny_bind (wpAny_loadPart (k _ _ (X _ _ ho)) (wpAny_pure q))
    · cases hc
  ne:=fun h tp dd its n sl X htp=>by
    obtain ⟨cd,hc⟩:=Option.isSome_iff_exists.mp T.cl
    refine Bool.eq_false_iff.mpr fun q=>?_
    have e:C=tp:=Value.ref.inj (beq_iff_eq.mp q)
    subst e
    unfold clsIn at hc
    split at hc
    · rename_i ho
      have z:=(X _ _ ho).symm.trans htp
      cases z
    · cases hc
  ca:=fun X I k=>exc_class T X I k
end
def DictOf (H:Hp) (d:Option Addr):Prop:=d=none∨∃ dx fs,d=some dx∧H dx=some (.xd fs)
section
variable {X:Cx}{K:Frag}
theorem inst_exc {pins:List (Addr×Obj)}{σ:St}{H:Hp}{s:Shared}{ea C:Addr}{d:Option Addr}(I:Inv X pins σ H s) (he:H ea=some (excO ea C d)) (hd:DictOf H d):∃ ox od,PySem.W.InstAt s.heap ea ox C od:=by
  obtain ⟨⟨o,vs,h1,h2,h3,h4⟩,_⟩:=I.hok ea _ he
  have nc:notCls o=true:=by unfold notCls;rw [h4]
  rcases hd with e | ⟨dx,fs,e,hx⟩
  · exact ⟨o,none,h1,h2,nc,by rw [h3,e];trivial⟩
  · obtain ⟨ob,q⟩:=(I.hok dx _ hx).there
    exact ⟨o,some ob,h1,h2,nc,by rw [h3,e];exact q⟩
def clsV:V→Option Value
  | .ref a=>some (.ref a)
  | .ty n=>some (.type n)
  | _=>none
theorem clsV_rel:∀ {c:V}{cv u:Value},clsV c=some cv→RelV c u→u=cv
  | .ref _,_,_,e,r=>by cases r;cases e;rfl
  | .ty _,_,_,e,r=>by cases r;cases e;rfl
theorem call_isE (h:X.K=K):CallR X (.builtin "isinstance") (fun xs H Q=>∃ (ea C:Addr) (d:Option Addr) (c:V) (cv:Value) (b:Bool),xs=[.ref ea,c]∧H ea=some (excO ea C d)∧DictOf H d∧ExT K C∧clsV c=some cv∧kitOne K (.ref C) cv=some b∧Q (.bl b) H):=by
  subst h
  intro pins s σ H xs us Q I r h
  obtain ⟨ea,C,d,c,cv,b,rfl,he,hd,T,rc,e,q⟩:=h
  obtain ⟨u,w',rfl,rx,rc'⟩:=vals2 r
  cases rx
  obtain ⟨ox,od,J⟩:=inst_exc I he hd
  have ew:=clsV_rel rc rc'
  subst ew
  exact kia_one (kitx_exc T) I.kIn J e (fun z=>nomatch z) fun tk=>⟨.bl b,H,I.tok tk,rfl,q⟩
end
theorem takes0 {X:Cx}:Takes X (fun _=>E0):=fun _ _ _ _ ⟨_,_,_,_,_,_,_,_,_,_,q⟩=>q.elim
end L2
namespace L2
open PySem PySem.Spec PyProof.Rows
local macro_rules | `(tactic| walk_at "om") => `(tactic| first | omega | (unfold Addr at *; omega))
def rEqU (K:PySem.W.Frag) (neg:Bool):R2:=fun x y H Q=>∃ a b n m ts us,x=.ref a∧y=.ref b∧n≤50∧m≤50∧Holds K H n x (.tup ts)∧Holds K H m y (.tup us)∧Q (.bl (if neg then !(eqTs ts us) else eqTs ts us)) H
theorem tup_all {ts us:List Tr}{p q:Nat}(h1:p=ts.length) (h2:q=us.length):((List.range (min p q)).all (fun j=>match ts[j]?,us[j]? with | some x,some y=>eqT x y | _,_=>true) && p == q)=eqTs ts us:=by
  subst h1 h2
  by_cases hlen:ts.length=us.length
  · rw [eqTs_all hlen,← hlen,Nat.min_self]
    simp<;>rfl
  · rw [eqTs_len hlen]
    simp [hlen]
section
variable {X:Cx}
theorem op_eqU (hu:X.A.units + 60 < cLine):OpR X (compareOp .Eq) (rEqU X.K false):=by
  intro pins s σ H x y v u Q I rx ry h
  obtain ⟨a,b,n,m,ts,us,rfl,rfl,hn,hm,ht,hu',q⟩:=h
  simp only [Bool.false_eq_true,if_false] at q
  cases rx;cases ry
  cases ht with
  | @tup n _ xs _ h1 hl he =>
    cases hu' with
    | @tup m _ ys _ h2 hl2 he2 =>
      obtain ⟨its,rv,p,_⟩:=I.tuple h1
      obtain ⟨its2,rv2,p2,_⟩:=I.tuple h2
      have a1:=rv.length
      have a2:=rv2.length
      rw [← tup_all (p:=its.toArray.size) (q:=its2.toArray.size) (by simp;walk_at "om") (by simp;walk_at "om")] at q
      exact SeqAt.eq_tupleAt p p2 (by walk_at "om") (items_eq (A:=X.A.in1) (n:=n) (m:=m) rv rv2 hl hl2 fun i x t y u v w' h1 h2 h3 h4 r1 r2=>eqAt_T I (he i x t h1 h2) (he2 i y u h3 h4) r1 r2 (by show X.A.units + 1 + n + 1 < cLine;walk_at "om")) ⟨.bl _,H,I,rfl,q⟩
theorem op_neU (hu:X.A.units + 60 < cLine):OpR X (compareOp .NotEq) (rEqU X.K true):=by
  intro pins s σ H x y v u Q I rx ry h
  obtain ⟨a,b,n,m,ts,us,rfl,rfl,hn,hm,ht,hu',q⟩:=h
  simp only [if_true] at q
  cases rx;cases ry
  cases ht with
  | @tup n _ xs _ h1 hl he =>
    cases hu' with
    | @tup m _ ys _ h2 hl2 he2 =>
      obtain ⟨its,rv,p,_⟩:=I.tuple h1
      obtain ⟨its2,rv2,p2,_⟩:=I.tuple h2
      have a1:=rv.length
      have a2:=rv2.length
      rw [← tup_all (p:=its.toArray.size) (q:=its2.toArray.size) (by simp;walk_at "om") (by simp;walk_at "om")] at q
      exact SeqAt.RcNeAt.tuples p p2 (by walk_at "om") (items_eq (A:=X.A.in1) (n:=n) (m:=m) rv rv2 hl hl2 fun i x t y u v w' h1 h2 h3 h4 r1 r2=>eqAt_T I (he i x t h1 h2) (he2 i y u h3 h4) r1 r2 (by show X.A.units + 1 + n + 1 < cLine;walk_at "om")) X.prog X.w X.xe _ ⟨.bl _,H,I,rfl,q⟩
end
theorem holds_flats {K:PySem.W.Frag}{H:Hp}{n:Nat}{a:Addr}{xs:List V}(h:SqT K H a xs) (hf:xs.all flatV=true):Holds K H (n + 1) (.ref a) (.tup (xs.map .flat)):=by
  refine .tup h (by simp) fun i x t hx ht=>?_
  rw [List.getElem?_map,hx] at ht
  cases ht
  exact .flat (List.all_eq_true.mp hf x (List.mem_of_getElem? hx))
theorem holds_flatsL {K:PySem.W.Frag}{H:Hp}{n:Nat}{a:Addr}{xs:List V}(h:SqL K H a xs) (hf:xs.all flatV=true):Holds K H (n + 1) (.ref a) (.lst (xs.map .flat)):=by
  refine .lst h (by simp) fun i x t hx ht=>?_
  rw [List.getElem?_map,hx] at ht
  cases ht
  exact .flat (List.all_eq_true.mp hf x (List.mem_of_getElem? hx))
def tAndI (ta tb:TE):TE:=fun σ H Q=>ta σ H fun x H1=>∃ c d:Bool,x=.bl c∧(c=true→tb σ H1 fun y H2=>y=.bl d∧H2=H1)∧Q (.bl (c && d)) H1
section
variable {X:Cx}{a b c:Expr}{ta tb tc:TE}{pos:Pos}{rest:List Expr}
theorem pe_andI (ha:PE X a ta) (hb:PE X (.BoolOp .And (b :: rest) pos) tb):PE X (.BoolOp .And (a :: b :: rest) pos) (tAndI ta tb):=by
  intro pins s σ H Q I h
  refine BoolOp_and (thn (ha pins s σ H _ I h) fun v s1 ⟨x,H1,I1,r1,q1⟩=>?_)
  obtain ⟨c,d,rfl,h2,q⟩:=q1
  cases r1
  refine wpAny_truthy_bool ?_
  cases c with
  | false=>exact ⟨.bl false,H1,I1,rfl,by simpa using q⟩
  | true=>exact thn (hb pins s1 σ H1 _ I1 (h2 rfl)) fun u s2 ⟨y,H2,I2,r2,ey,eH⟩=>⟨y,H2,I2,r2,by subst ey eH;simpa using q⟩
end
end L2
namespace L2
open PySem PySem.Spec PyProof.Rows PySem.W PySem.Builtin PySem.Builtin.ObjectAttr
section
variable {prog:Program}{w:World}{A:Around}{E:Value→Shared→Prop}{s:Shared}{K:Frag}{x C:Addr}{ox:Obj}{od:Option Obj}{name:Str}{v:Value}
end
section
variable {prog:Program}{w:World}{A:Around}{E:Value→Shared→Prop}{h:Heap}{g:Array GenState}{d:Drawn}{t:Nat}{os:OsState}{nm q:Str}{C N:Addr}{bs bm bmB:List Value}{hdct:Bool}{sn:List Str}{sub:List Value}{ab:Bool}{col:Option Bool}{dd:Option Addr}{k0 k1 k2 k3 k5:Option Value}{B newId initId:String}
end
end L2
namespace L2
open PySem PySem.Spec PyProof.Rows PySem.W
local macro_rules | `(tactic| walk_at "om") => `(tactic| first | omega | (unfold Addr at *; omega))
section
variable {X:Cx}{pins:List (Addr×Obj)}{σ:St}{H:Hp}{s:Shared}
structure NewAt (X:Cx) (pins:List (Addr×Obj)) (H:Hp) (e:Addr):Prop where
  free:H e=none
  old:∀ b o,X.s₀.heap.get? b=some o→b∉X.ex→b≠e
  loc:X.env.locals≠e
  cell:∀ x c,X.env.cells.lookup x=some c→c≠e
  pin:∀ p∈X.pn ++ pins,p.1≠e
theorem Inv.newAt (I:Inv X pins σ H s) {e:Addr}(h:s.heap.get? e=none):NewAt X pins H e:=by
  have ne:∀ b o,s.heap.get? b=some o→b≠e:=fun b o q z=>by rw [z,h] at q;cases q
  refine ⟨?_,fun b o q hx=>?_,?_,fun x c q=>?_,fun p hp=>ne _ _ (I.pin p hp).1⟩
  · cases z:H e with
    | none=>rfl
    | some o=>obtain ⟨ob,y⟩:=(I.hok e o z).there;exact absurd rfl (ne e ob y)
  · obtain ⟨o',y⟩:=I.base.there b o q hx;exact ne b o' y
  · obtain ⟨m,⟨o,_,_,y,_⟩,_⟩:=I.loc;exact ne _ o y
  · obtain ⟨v,o,y,_⟩:=I.cell x c q;exact ne _ o y
theorem Inv.track {e:Addr}{o:HO}(I:Inv X pins σ H s) (n:NewAt X pins H e) (ok:ObjOk X.prog X.w (upd H e o) s.heap e o):Inv X pins σ (upd H e o) s:=by
  have keep:∀ b u,H b=some u→upd H e o b=some u:=fun b u q=>by rw [upd_ne (ne_of_none q n.free)];exact q
  refine ⟨I.ok,I.os,I.bare,⟨I.base.keep,I.base.slot,fun b ob q z hx=>?_,I.base.there,fun b xs q=>keep _ _ (I.base.tups b xs q),fun b ob u q=>keep _ _ (I.base.frzs b ob u q),fun b ps q=>?_⟩,I.loc,I.cell,?_,fun x c q=>?_,fun p hp=>?_,fun b u q=>?_,I.len⟩
  · rw [upd_ne (n.old b ob q hx)];exact I.base.free b ob q z hx
  · obtain ⟨m,y⟩:=I.base.tbls b ps q;exact ⟨m,keep _ _ y⟩
  · rw [upd_ne n.loc];exact I.free
  · rw [upd_ne (n.cell x c q)];exact I.freeC x c q
  · obtain ⟨q,z,a,b,d⟩:=I.pin p hp
    refine ⟨q,?_,a,b,d⟩;rw [upd_ne (n.pin p hp)];exact z
  · by_cases hb:b=e
    · subst hb;rw [upd_same] at q;cases q;exact ok
    · rw [upd_ne hb] at q
      exact (I.hok b u q).stay (fun _ _ _ z=>z) (fun c z=>keep _ _ z) fun c xs z=>keep _ _ z
end
section
variable {X:Cx}{V₀:Addr}{x:Str}{p apos pos:Pos}{e:Expr}{es:List Expr}{t:TA}{te:TE}
end
end L2
namespace L2
open PySem PySem.Spec PyProof.Rows PySem.W
section
variable {M:Model}{A:Around}{E:Value→Shared→Prop}{env:Env}{nm q:Str}{C N:Addr}{bs bm:List Value}{hdct:Bool}{sn:List Str}{sub:List Value}{ab:Bool}{col:Option Bool}{dd:Option Addr}{k0 k1 k2 k3 k5:Option Value}{newId:String}
end
section
variable {X:Cx}{C f:Addr}{fd:FuncData}{ps:List Str}{sp:Sp}{k:Nat}{x:Str}{np cpos pos:Pos}{e:Expr}{es:List Expr}{t:TA}{E:St→XK}
end
section
variable {prog:Program}{w:World}{A:Around}{E:Value→Shared→Prop}{s:Shared}{K:Frag}{x C:Addr}{ox:Obj}{od:Option Obj}{name:Str}{v:Value}
end
end L2
namespace L2
open PySem PySem.Spec PyProof.Rows PySem.W
end L2
namespace L2
open PySem PySem.Spec PyProof.Rows PySem.W
def tCut (t u:TS):TS:=fun D σ H=>∃ R:St→Hp→Prop,t { D with nx:=R } σ H∧∀ σ' H',R σ' H'→u D σ' H'
theorem pss_cut {X:Cx}{st:Stmt}{rest:List Stmt}{t u:TS}(h1:PS X st t) (h2:PSs X rest u):PSs X (st :: rest) (tCut t u):=by
  intro pins s σ H D I ⟨R,h,hR⟩
  refine wpAny_execs_cons (thn (h1 pins s σ H { D with nx:=R } I h) fun f s1 q=>?_)
  cases f with
  | next =>
    obtain ⟨σ',H',I',q⟩:=q
    exact h2 pins s1 σ' H' D I' (hR σ' H' q)
  | ret v=>exact q
  | brk=>exact q
  | cont=>exact q
end L2
namespace L2
open PySem PySem.Spec PyProof.Rows PySem.W
theorem ints_vals:∀ {us:List Value}{ns:List Int},IntsAre us ns→Vals (ns.map V.int) us
  | _,_,.nil=>.nil
  | _,_,.cons _ _ h=>.cons ⟨_,rfl⟩ (ints_vals h)
section
variable {X:Cx}
end
section
variable {X:Cx}{pins:List (Addr×Obj)}{σ:St}{H:Hp}{s:Shared}
theorem Inv.poked {ch:List Addr} {h':Heap} (I:Inv X pins σ H s) (k:∀ b o,b∉ch→s.heap.get? b=some o→h'.get? b=some o) (f:∀ b∈ch,FpOk X pins H b):Inv X pins σ H { s with heap:=h' }:=by
  refine I.call' (ch:=ch) rfl ⟨fun b o q _ _ hx=>k b o hx q,fun b o q _ _ hx=>⟨o.slots,k b o hx q⟩,fun b o q n _=>n,fun b o q hx=>⟨o,k b o hx q⟩,fun _ _ q=>q,fun _ _ _ q=>q,fun b ps q=>⟨#[],by rw [q];simp⟩⟩ (fun b ob q=>?_) I.bare fun b hb=>?_
  · refine (I.hok b ob q).stay (fun c v hc r=>k c v (fun z=>?_) r) (fun _ r=>r) fun _ _ r=>r
    have n:=(f c z).1
    rcases hc with w | w
    · rw [← w,n] at q;cases q
    · rw [n] at w;cases w
  · have fb:=f b hb
    exact ⟨fb.2.2.2.1,fb.2.1,fb.2.2.2.2.1,fb.2.2.2.2.2⟩
end
def Itz (K:PySem.W.Frag) (a b:Addr):It :=
  ⟨fun i H=>∃ xs ys x y,SqL K H a xs∧SqL K H b ys∧xs[i]?=some x∧ys[i]?=some y,
   fun i H v H'=>∃ p x y,H p=none∧v=.ref p∧H'=upd H p (.tup [x,y])∧(∀ xs,SqL K H a xs→xs[i]?=some x)∧∀ ys,SqL K H b ys→ys[i]?=some y,
   fun i H=>∃ xs ys,SqL K H a xs∧SqL K H b ys∧(xs.length≤i∨ys.length≤i)⟩
theorem turn_zip {P:Program}{w:World}{K:PySem.W.Frag}{elts:List Expr}{k0}{tp:Pos}(z TI TO i1 i2 a b:Addr) (D:ZipApart z TI TO i1 i2 a b) :
    Turn P w K (.Tuple elts k0 tp) (Itz K a b) [z,TO,i1,i2,TI] z (fun i h=>IsZip h z TI TO .none∧IsPair h TI (.ref i1) (.ref i2)∧(∃ x y,IsPair h TO x y)∧h.IsListIter i1 a i∧h.IsListIter i2 b i) where
  mem:=by simp
  obj:=fun i h st c hc=>by
    obtain ⟨hz,hTI,⟨x,y,hTO⟩,⟨o1,ho1,_,hd1⟩,⟨o2,ho2,_,hd2⟩⟩:=st
    have hc:c=z∨c=TO∨c=i1∨c=i2∨c=TI:=by simpa using hc
    rcases hc with rfl | rfl | rfl | rfl | rfl
    · exact ⟨_,hz,fun v q=>by cases q⟩
    · exact ⟨_,hTO,fun v q=>by cases q⟩
    · exact ⟨o1,ho1,fun v q=>by rw [hd1] at q;cases q⟩
    · exact ⟨o2,ho2,fun v q=>by rw [hd2] at q;cases q⟩
    · exact ⟨_,hTI,fun v q=>by cases q⟩
  keep:=fun i h h' st k=>by
    obtain ⟨hz,hTI,⟨x,y,hTO⟩,h1,h2⟩:=st
    exact ⟨k z (by simp) _ hz,k TI (by simp) _ hTI,⟨x,y,k TO (by simp) _ hTO⟩,h1.at fun o q=>k i1 (by simp) o q,h2.at fun o q=>k i2 (by simp) o q⟩
  item:=by
    intro X hP hw hK hc i pins s σ H E I hf st hg
    subst hP hw hK
    obtain ⟨hz,hTI,⟨x0,y0,hTO⟩,h1,h2⟩:=st
    obtain ⟨xs,ys,x,y,hq1,hq2,hx,hy⟩:=hg
    obtain ⟨its1,rv1,p1,_⟩:=I.list hq1
    obtain ⟨its2,rv2,p2,_⟩:=I.list hq2
    obtain ⟨u1,hu1,ru1⟩:=rv1.get hx
    obtain ⟨u2,hu2,ru2⟩:=rv2.get hy
    have lz:z < s.heap.objs.size:=Heap.lt_size hz
    have lTO:TO < s.heap.objs.size:=Heap.lt_size hTO
    have lTI:TI < s.heap.objs.size:=Heap.lt_size hTI
    have l1:i1 < s.heap.objs.size:=by obtain ⟨o,ho,_⟩:=h1;exact Heap.lt_size ho
    have l2:i2 < s.heap.objs.size:=by obtain ⟨o,ho,_⟩:=h2;exact Heap.lt_size ho
    refine wpAny_pyNext_zip_item D hz hTI hTO h1 h2 p1.isList p2.isList (x:=u1) (y:=u2) (by simpa using hu1) (by simpa using hu2) fun g a1 a2 a3 a4 a5 a6 hk=>⟨.ref s.heap.objs.size,rfl,?_⟩
    refine wpAny_letOwnedTupleGo_zip a1 fun g2 hz2 sb2=>?_
    have sb2:Heap.SameBut z g g2:=sb2
    have k2:∀ c o,c∉[z,TO,i1,i2]→s.heap.get? c=some o→g2.get? c=some o:=fun c o hc q=>by
      have hc:¬ (c=z∨c=TO∨c=i1∨c=i2):=by simpa using hc
      exact (sb2.2 c (fun e=>hc (.inl e))).trans (hk c o (fun e=>hc (.inl e)) (fun e=>hc (.inr (.inl e))) (fun e=>hc (.inr (.inr (.inl e)))) (fun e=>hc (.inr (.inr (.inr e)))) q)
    have nH:H s.heap.objs.size=none:=I.hok.fresh (Nat.le_refl _)
    have nA:NewAt X pins H s.heap.objs.size:=I.newAt (by cases e:s.heap.get? s.heap.objs.size with | none=>rfl | some o=>exact absurd (Heap.lt_size e) (Nat.lt_irrefl _))
    have I1:Inv X pins σ H { s with heap:=g2 }:=I.poked k2 fun c hc=>hf c (by
      have hc:c=z∨c=TO∨c=i1∨c=i2:=by simpa using hc
      rcases hc with rfl | rfl | rfl | rfl<;>simp)
    have I2:Inv X pins σ (upd H s.heap.objs.size (.tup [x,y])) { s with heap:=g2 }:=I1.track nA ⟨by show 2≤sizeLine;decide,[u1,u2],.cons ru1 (.cons ru2 .nil),_,(sb2.2 _ (Nat.ne_of_gt lz)).trans a5,rfl,_,rfl⟩
    refine ⟨.ref s.heap.objs.size,_,I2,rfl,⟨_,x,y,nH,rfl,rfl,fun zs hz'=>by rw [I.list_inj hz' hq1];exact hx,fun zs hz'=>by rw [I.list_inj hz' hq2];exact hy⟩,⟨hz2,(sb2.2 _ D.TIz).trans (hk _ _ D.TIz D.TITO D.TIi1 D.TIi2 hTI),⟨_,_,(sb2.2 _ D.TOz).trans a2⟩,a3.extBut sb2.extBut D.i1z,a4.extBut sb2.extBut D.i2z⟩,fun c hc=>?_⟩
    have lc:c < s.heap.objs.size:=by
      have hc:c=z∨c=TO∨c=i1∨c=i2∨c=TI:=by simpa using hc
      rcases hc with rfl | rfl | rfl | rfl | rfl<;>assumption
    rw [upd_ne (Nat.ne_of_lt lc)]
    exact (hf c hc).1
  done:=by
    intro X hP hw hK hc i pins s σ H E I hf st hg
    subst hP hw hK
    obtain ⟨hz,hTI,⟨x0,y0,hTO⟩,h1,h2⟩:=st
    obtain ⟨xs,ys,hq1,hq2,he⟩:=hg
    obtain ⟨its1,rv1,p1,_⟩:=I.list hq1
    obtain ⟨its2,rv2,p2,_⟩:=I.list hq2
    have e1:=rv1.length
    have e2:=rv2.length
    refine wpAny_pyNext_zip_end (I.ok.hd hc) D hz hTI hTO h1 h2 p1.isList p2.isList ?_ fun g hk=>⟨rfl,I.poked (ch:=[z,TO,i1,i2]) (fun c o hc q=>?_) fun c hc=>hf c ?_⟩
    · rcases he with he | he
      · exact .inl (by simp;omega)
      · exact .inr (by simp;omega)
    · have hc:¬ (c=z∨c=TO∨c=i1∨c=i2):=by simpa using hc
      exact hk c o (fun e=>hc (.inl e)) (fun e=>hc (.inr (.inl e))) (fun e=>hc (.inr (.inr (.inl e)))) (fun e=>hc (.inr (.inr (.inr e)))) q
    · have hc:c=z∨c=TO∨c=i1∨c=i2:=by simpa using hc
      rcases hc with rfl | rfl | rfl | rfl<;>simp
  self:=fun _ _ _ _ _ st h=>wpAny_pyIter_zip st.1 h
def iZip (K:PySem.W.Frag) (ta:TA):TI:=fun σ H R=>ta σ H fun vs H1=>∃ a b,vs=[.ref a,.ref b]∧(∃ xs,SqL K H1 a xs)∧(∃ ys,SqL K H1 b ys)∧R (Itz K a b) H1
section
variable {X:Cx}{elts:List Expr}{k0}{tp:Pos}
theorem zip_apart {n a b:Addr}(ha:a < n) (hb:b < n):ZipApart (n + 4) (n + 2) (n + 3) n (n + 1) a b:=by
  have ha:@LT.lt Nat _ a n:=ha
  have hb:@LT.lt Nat _ b n:=hb
  constructor<;>(intro h;have h:@Eq Nat _ _:=h;omega)
theorem pi_zip {l1 l2:Expr}{ta:TA}{p pos:Pos}(hg:Gl X "zip") (hm:X.mg "zip"=none) (ha:PA X [l1,l2] ta) (hs:starEach [l1,l2] X.env=[(false,eval l1 X.env),(false,eval l2 X.env)]:=by rfl) (hs2:starEach [l2] X.env=[(false,eval l2 X.env)]:=by rfl) :
    PI X (.Tuple elts k0 tp) (.Call (.Name "zip" p) [l1,l2] [] pos) (iZip X.K ta):=by
  intro pins s σ H R I h
  refine Call_ (ld_blt I hg hm boot_zip (PyProof.Rows.callWith_type1 (thn (ha pos pins s σ H _ I h) fun us s1 ⟨vs,H1,I1,r1,q1⟩=>?_) (by rw [hs,hs2]) (by rw [hs2];rfl)))
  obtain ⟨a,b,e,⟨xs,hq1⟩,⟨ys,hq2⟩,q⟩:=q1
  subst e
  cases r1 with
  | cons r rr =>
    cases rr with
    | cons r' rr =>
      cases rr
      cases r
      cases r'
      obtain ⟨its1,rv1,p1,_⟩:=I1.list hq1
      obtain ⟨its2,rv2,p2,_⟩:=I1.list hq2
      refine call_zip_2 p1.isList p2.isList fun g hz hTI hTO h1 h2 _ hk=>?_
      have I2:Inv X pins σ H1 { s1 with heap:=g }:=I1.kept (t':=s1.toks) hk
      refine wpAny_pyIter_zip (s:={ s1 with heap:=g }) hz ?_
      have la:a < s1.heap.objs.size:=by obtain ⟨o,ho,_⟩:=p1.isList;exact Heap.lt_size ho
      have lb:b < s1.heap.objs.size:=by obtain ⟨o,ho,_⟩:=p2.isList;exact Heap.lt_size ho
      refine ⟨s1.heap.objs.size + 4,[s1.heap.objs.size + 4,s1.heap.objs.size + 3,s1.heap.objs.size,s1.heap.objs.size + 1,s1.heap.objs.size + 2],_,_,H1,rfl,I2,turn_zip _ _ _ _ _ a b (zip_apart la lb),⟨hz,hTI,⟨_,_,hTO⟩,h1,h2⟩,fun c hc=>?_,q⟩
      have hc':s1.heap.objs.size≤c:=by
        have hc:c=s1.heap.objs.size + 4∨c=s1.heap.objs.size + 3∨c=s1.heap.objs.size∨c=s1.heap.objs.size + 1∨c=s1.heap.objs.size + 2:=by simpa using hc
        rcases hc with rfl | rfl | rfl | rfl | rfl
        · exact Nat.le_add_right _ _
        · exact Nat.le_add_right _ _
        · exact Nat.le_refl _
        · exact Nat.le_add_right _ _
        · exact Nat.le_add_right _ _
      exact I1.fpOk hc' (I1.hok.fresh hc')
end
theorem for_zip {K:PySem.W.Frag}{a b:Addr}{xs ys:List V}{g:TG}{tb:TS}{D:Ends}{σ:St}{H:Hp}(Pv:Nat→St→Hp→Prop) (h0:Pv 0 σ H) (hl:∀ i σ H,i≤min xs.length ys.length→Pv i σ H→SqL K H a xs∧SqL K H b ys)
    (hs:∀ i x y σ H p,xs[i]?=some x→ys[i]?=some y→Pv i σ H→H p=none→g (.ref p) σ (upd H p (.tup [x,y])) fun σ2 H2=>tb { D with nx:=Pv (i + 1),ct:=Pv (i + 1),bk:=D.nx } σ2 H2) (hd:∀ σ H,Pv (min xs.length ys.length) σ H→D.nx σ H) :
    ∃ W:Nat→Nat→St→Hp→Prop,(∃ m,W 0 m σ H)∧∀ i m σ H,W i m σ H →
      ((Itz K a b).stop i H∧D.nx σ H)∨((Itz K a b).go i H∧∃ N:St→Hp→Prop,(∀ σ' H',N σ' H'→∃ m',m' < m∧W (i + 1) m' σ' H')∧∀ x H',(Itz K a b).yld i H x H'→g x σ H' fun σ2 H2=>tb { D with nx:=N,ct:=N,bk:=D.nx } σ2 H2):=by
  refine ⟨fun i m σ H=>i≤min xs.length ys.length∧m=min xs.length ys.length - i∧Pv i σ H,⟨_,Nat.zero_le _,rfl,h0⟩,fun i m σ H ⟨h1,h2,h3⟩=>?_⟩
  obtain ⟨q1,q2⟩:=hl i σ H h1 h3
  by_cases hi:i < min xs.length ys.length
  · have i1:i < xs.length:=by omega
    have i2:i < ys.length:=by omega
    refine .inr ⟨⟨xs,ys,xs[i],ys[i],q1,q2,List.getElem?_eq_getElem i1,List.getElem?_eq_getElem i2⟩,Pv (i + 1),fun σ' H' p=>⟨min xs.length ys.length - (i + 1),by omega,by omega,rfl,p⟩,fun x H' ⟨p,v,u,hp,ex,eH,hv,hu⟩=>?_⟩
    subst ex eH
    exact hs i v u σ H p (hv xs q1) (hu ys q2) h3 hp
  · have:i=min xs.length ys.length:=by omega
    subst this
    exact .inl ⟨⟨xs,ys,q1,q2,by omega⟩,hd σ H h3⟩
end L2
namespace L2
open PySem PySem.Spec PyProof.Rows PySem.W
theorem ndp1 {a:Str}:[a].Nodup:=by simp
theorem ndp2 {a b:Str}(h:a≠b):[a,b].Nodup:=by simp [h]
theorem ndp3 {a b c:Str}(h1:a≠b) (h2:a≠c) (h3:b≠c):[a,b,c].Nodup:=by simp [h1,h2,h3]
theorem take_snoc {α:Type}{xs:List α}{i:Nat}{x:α}(h:xs[i]?=some x):xs.take (i + 1)=xs.take i ++ [x]:=by
  rw [List.take_add_one,h];rfl
theorem nodup_at {α:Type}{l:List α}(hN:l.Nodup) {i j:Nat}{x:α}(a:l[i]?=some x) (b:l[j]?=some x):i=j:=by
  obtain ⟨hi,ei⟩:=List.getElem?_eq_some_iff.mp a
  obtain ⟨hj,ej⟩:=List.getElem?_eq_some_iff.mp b
  have p:=List.pairwise_iff_getElem.mp hN
  rcases Nat.lt_trichotomy i j with h | h | h
  · exact absurd (ei.trans ej.symm) (p i j hi hj h)
  · exact h
  · exact absurd (ej.trans ei.symm) (p j i hj hi h)
structure Rows (H0 H:Hp) (as:List Addr) (rows:List (List Int)):Prop where
  len:as.length=rows.length
  nd:as.Nodup
  new:∀ a∈as,H0 a=none
  row:∀ (i:Nat) a r,as[i]?=some a→rows[i]?=some r→H a=some (.lst (r.map V.int))
  same:Same H0 H
theorem Rows.nil {H:Hp}:Rows H H [] []:=⟨rfl,List.nodup_nil,fun _ h=>(nomatch h),fun i a r h=>by simp at h,Same.refl H⟩
theorem Rows.at {H0 H:Hp}{as:List Addr}{rows:List (List Int)}(x:Rows H0 H as rows) {a:Addr}(h:a∈as):∃ o,H a=some o:=by
  obtain ⟨i,hi,e⟩:=List.getElem_of_mem h
  have h1:as[i]?=some a:=by rw [List.getElem?_eq_getElem hi,e]
  have hr:i < rows.length:=by rw [← x.len];exact hi
  exact ⟨_,x.row i a rows[i] h1 (List.getElem?_eq_getElem hr)⟩
theorem Rows.add {H0 H H1:Hp}{as:List Addr}{rows:List (List Int)}{q:Addr}{r:List Int}(x:Rows H0 H as rows) (s:Same H H1) (hq:H q=none) (h1:H1 q=some (.lst (r.map V.int))):Rows H0 H1 (as ++ [q]) (rows ++ [r]):=by
  refine ⟨by simp [x.len],List.nodup_append.mpr ⟨x.nd,by simp,fun a hm b hb=>?_⟩,fun a hm=>?_,fun i a r' e1 e2=>?_,x.same.trans s⟩
  · have:b=q:=by simpa using hb
    subst this
    obtain ⟨o,e⟩:=x.at hm
    exact ne_of_none e hq
  · rcases List.mem_append.mp hm with hm | hm
    · exact x.new a hm
    · have:a=q:=by simpa using hm
      subst this
      exact x.same.free hq
  · by_cases hi:i < as.length
    · rw [List.getElem?_append_left hi] at e1
      rw [List.getElem?_append_left (by rw [← x.len];exact hi)] at e2
      exact s _ _ (x.row i a r' e1 e2)
    · have hl:i < (as ++ [q]).length:=(List.getElem?_eq_some_iff.mp e1).1
      have:i=as.length:=by simp at hl;omega
      subst this
      rw [x.len] at e2
      simp at e1 e2
      subst e1 e2
      exact h1
theorem Rows.vol {H0 H:Hp}{as:List Addr}{rows:List (List Int)}{v:Addr}(x:Rows H0 H as rows) (hv:H v=none):Vol (upd H v (.lst (as.map V.ref))) v as rows :=
  ⟨upd_same,x.len,x.nd,fun i a r e1 e2=>(Same.upd0 hv) _ _ (x.row i a r e1 e2)⟩
theorem Vol.off {H:Hp}{v b:Addr}{as:List Addr}{rows:List (List Int)}{o:HO}(x:Vol H v as rows) (n1:b∉as) (n2:b≠v):Vol (upd H b o) v as rows :=
  ⟨by rw [upd_ne (Ne.symm n2)];exact x.top,x.len,x.nd,fun i a r e1 e2=>by rw [upd_ne (fun z=>n1 (by rw [← z];exact List.mem_of_getElem? e1))];exact x.row i a r e1 e2⟩
theorem comp_rows {K:PySem.W.Frag}{v:Addr}{as:List Addr}{rows:List (List Int)}{σ:St}{H:Hp}{Q:VK}(hV:Vol H v as rows) (hn:rows.length≤1000)
    (k:∀ (D:Addr) (bs:List Addr) (H':Hp),H D=none→(∀ b∈bs,H b=none)→Vol H' D bs rows→Same H H'→Q (.ref D) H') :
    CompR [none] (gName 0) tTrue (tCB (fun xs H Q=>∃ p ys,xs=[.ref p]∧(SqL K H p ys∨SqT K H p ys)∧∀ l,H l=none→Q (.ref l) (upd H l (.lst ys))) (tCons (tVar 0) tNil)) σ Q (Itl K v) H:=by
  refine comp_list (cap:=[none]) (K:=K) (a:=v) (xs:=as.map V.ref) (small_len (by rw [List.length_map,hV.len];exact hn)) (fun i ys σ H'=>∃ bs,ys=bs.map V.ref∧i≤rows.length∧bs.length=i∧σ.length=1∧Rows H H' bs (rows.take i))
    ⟨[],rfl,Nat.zero_le _,rfl,rfl,by rw [List.take_zero];exact Rows.nil⟩ (fun i ys σ H' ⟨bs,h1,h2,h3,h4,h5⟩=>⟨by rw [List.length_map,hV.len];exact h2,by rw [h1,List.length_map,h3];exact Nat.le_refl _,SqL.of (h5.same _ _ hV.top)⟩) ?_ ?_
  · rintro i x ys σ H' hx ⟨bs,rfl,h2,h3,h4,h5⟩
    rw [List.getElem?_map] at hx
    cases e:as[i]? with
    | none=>rw [e] at hx;cases hx
    | some a =>
      rw [e] at hx
      cases hx
      have hi:i < rows.length:=by rw [← hV.len];exact (List.getElem?_eq_some_iff.mp e).1
      have er:rows[i]?=some rows[i]:=List.getElem?_eq_getElem hi
      match σ,h4 with
      | [s1],_ =>
        refine ⟨_,rfl,a,_,rfl,.inl (SqL.of (h5.same _ _ (hV.row i a rows[i] e er))),fun l hl=>⟨bs ++ [l],by simp,hi,by simp [h3],rfl,?_⟩⟩
        rw [take_snoc er]
        exact h5.add (Same.upd0 hl) hl upd_same
  · rintro ys σ H' ⟨bs,rfl,h2,h3,h4,h5⟩ D hD
    have e:rows.take (as.map V.ref).length=rows:=by rw [List.length_map,hV.len,List.take_length]
    rw [e] at h5
    exact k D bs _ (h5.same.free hD) h5.new (h5.vol hD) (h5.same.upd hD)
end L2
namespace L2
open PySem PySem.Spec PyProof.Rows PySem.W
section
variable {X:Cx}
end
end L2
namespace L2
open PySem PySem.Spec PyProof.Rows PySem.W
section
variable {X:Cx}{CX:CXT}{k:Nat}{D:Addr→Prop}{sp:Addr→Sp}{dvs:List V}{ds:List Value}{E:XK}{m:Str}{pos apos:Pos}{e o:Expr}{es:List Expr}{ta:TE}{t:TA}
end
end L2
namespace PySem
open Sem (wp)
open AutoSeq1 (wpAny_loadPart')
section
variable {prog:Program}{w:World}{A:Around}{E:Value→Shared→Prop}{s:Shared}
end
end PySem
namespace L2
open PySem PySem.Spec PyProof.Rows PySem.W
section
variable {X:Cx}{elts:List Expr}{k0}{tp:Pos}
end
theorem getApp {α:Type}{xs ys:List α}{i n:Nat}{x:α}(hn:xs.length=n) (h:(xs ++ ys)[i]?=some x):(i < n∧xs[i]?=some x)∨(n≤i∧ys[i - n]?=some x):=by
  by_cases hi:i < n
  · exact .inl ⟨hi,by rw [List.getElem?_append_left (by omega)] at h;exact h⟩
  · exact .inr ⟨by omega,by rw [List.getElem?_append_right (by omega),hn] at h;exact h⟩
end L2
namespace L2
open PySem PySem.Spec PyProof.Rows PySem.W
def intOf:Expr→Option Int
  | .Constant (.int n) _ _=>some n
  | .UnaryOp .USub (.Constant (.int n) _ _) _=>some (-n)
  | _=>none
def intsOf:List Expr→Option (List Int)
  | []=>some []
  | e :: es=>(intOf e).bind fun n=>(intsOf es).map (n :: ·)
def tIntsA (ns:List Int):TA:=fun _ H Q=>Q (ns.map V.int) H
def tInts (ns:List Int):TE:=fun _ H Q=>ns.length≤sizeLine∧∀ p,H p=none→Q (.ref p) (upd H p (.lst (ns.map V.int)))
section
variable {X:Cx}
theorem pe_intOf {e:Expr}{n:Int}(h:intOf e=some n):PE X e (tC (.int n)):=by
  unfold intOf at h
  split at h
  · cases h
    exact pe_int
  · cases h
    exact fun pins s σ H Q I hq=>pe_un un_neg pe_int pins s σ H Q I ⟨_,rfl,hq⟩
  · cases h
theorem star_intOf {e:Expr}{n:Int}{es:List Expr}(h:intOf e=some n):starEach (e :: es) X.env=(false,eval e X.env) :: starEach es X.env:=by
  unfold intOf at h
  split at h
  · rfl
  · rfl
  · cases h
theorem pa_ints:∀ {es:List Expr}{ns:List Int},intsOf es=some ns→PA X es (tIntsA ns)
  | [],ns,h=>by
    cases h
    exact pa_nil
  | e :: es,ns,h=>by
    unfold intsOf at h
    cases hn:intOf e with
    | none=>rw [hn] at h;cases h
    | some n =>
      cases hs:intsOf es with
      | none=>rw [hn,hs] at h;cases h
      | some ms =>
        rw [hn,hs] at h
        cases h
        intro pos pins s σ H Q I hq
        exact pa_cons (pe_intOf hn) (pa_ints hs) (star_intOf hn) pos pins s σ H Q I hq
theorem pe_ints {es:List Expr}{ns:List Int}{pos:Pos}(h:intsOf es=some ns):PE X (.List es pos) (tInts ns):=by
  intro pins s σ H Q I hq
  refine pe_lst (pa_ints h) pins s σ H Q I ?_
  obtain ⟨h1,h2⟩:=hq
  exact ⟨by rw [List.length_map];exact h1,h2⟩
end
end L2
namespace L2
open PySem PySem.Spec PyProof.Rows PySem.W
def Itd (d:Addr) (ob:Obj) (kvs:List (Key×V)):It :=
  ⟨fun i H=>i < kvs.length∧H d=some (.frz ob (.dK kvs)),
   fun i H v H'=>∃ p k x,H p=none∧kvs[i]?=some (k,x)∧v=.ref p∧H'=upd H p (.tup [kV k,x]),
   fun i H=>kvs.length≤i∧H d=some (.frz ob (.dK kvs))⟩
theorem kV_of {P:Program}{w:World}{k:Key}{u:Value}(h:(mixKind P w).is k u=true):RelV (kV k) u:=by
  rcases keyIs_shape h with ⟨i,t,rfl,rfl⟩ | ⟨x,t,rfl,rfl⟩
  · exact ⟨t,rfl⟩
  · exact ⟨t,rfl⟩
theorem KV.at {kvs:List (Key×V)}{vs:List (Key×Value)}(r:KV kvs vs):∀ {i:Nat}{k:Key}{x:V},kvs[i]?=some (k,x)→∃ u,vs[i]?=some (k,u)∧RelV x u:=by
  induction r with
  | nil=>intro i k x e;simp at e
  | @cons a b l1 l2 h t ih =>
    intro i k x e
    match i with
    | 0 =>
      rw [List.getElem?_cons_zero] at e
      cases e
      obtain ⟨h1,h2⟩:=h
      exact ⟨b.2,by rw [List.getElem?_cons_zero];exact congrArg some (Prod.ext h1.symm rfl),h2⟩
    | i + 1 =>
      rw [List.getElem?_cons_succ] at e
      obtain ⟨u,h1,h2⟩:=ih e
      exact ⟨u,by rw [List.getElem?_cons_succ];exact h1,h2⟩
theorem frz_at {X:Cx}{pins:List (Addr×Obj)}{σ:St}{H:Hp}{s:Shared}{d:Addr}{ob:Obj}{kvs:List (Key×V)}{es:Array DictEntry}{ep:Nat}(I:Inv X pins σ H s) (hd:H d=some (.frz ob (.dK kvs))) (he:ob.data=.dict es ep) :
    ∃ vs,KV kvs vs∧s.heap.DictAt (mixKind X.prog X.w) d vs ep:=by
  obtain ⟨h1,_,_,vs,rel,o,es',ep',g1,g2,g3,g4⟩:=(show ObjOk X.prog X.w H s.heap d (.frz ob (.dK kvs)) from I.hok d _ hd)
  rw [h1] at g1
  cases g1
  rw [he] at g3
  cases g3
  exact ⟨vs,rel,ob,es,h1,g2,he,g4⟩
theorem turn_items {P:Program}{w:World}{K:PySem.W.Frag}{elts:List Expr}{k0}{tp:Pos}(it d:Addr) (ob:Obj) (kvs:List (Key×V)) (es:Array DictEntry) (ep:Nat) (he:ob.data=.dict es ep) :
    Turn P w K (.Tuple elts k0 tp) (Itd d ob kvs) [it] it (fun i h=>∃ ok ov,IsItemIter h it d i kvs.length ep ok ov) where
  mem:=by simp
  obj:=fun i h st c hc=>by
    obtain ⟨ok,ov,hz⟩:=st
    have hc:c=it:=by simpa using hc
    subst hc
    exact ⟨_,hz,fun v q=>by cases q⟩
  keep:=fun i h h' st k=>by
    obtain ⟨ok,ov,hz⟩:=st
    exact ⟨ok,ov,k it (by simp) _ hz⟩
  item:=by
    intro X hP hw hK hc i pins s σ H E I hf st hg
    subst hP hw hK
    obtain ⟨ok,ov,hit⟩:=st
    obtain ⟨hi,hd⟩:=hg
    obtain ⟨vs,rel,hm⟩:=frz_at I hd he
    have hx:kvs[i]?=some (kvs[i].1,kvs[i].2):=List.getElem?_eq_getElem hi
    obtain ⟨u,hu,ru⟩:=rel.at hx
    have lit:it < s.heap.objs.size:=Heap.lt_size hit
    rw [rel.length] at hit ⊢
    refine wpAny_pyNext_items_item hit hm hu fun key h' hkey hout htup hsz hk=>⟨.ref s.heap.objs.size,rfl,?_⟩
    refine wpAny_letOwnedTupleGo_items hout fun g hit2 sb=>?_
    have sb:Heap.SameBut it h' g:=sb
    have k2:∀ c o,c∉[it]→s.heap.get? c=some o→g.get? c=some o:=fun c o hc q=>by
      have hc:¬ c=it:=by simpa using hc
      exact (sb.2 c hc).trans (hk c o hc q)
    have nH:H s.heap.objs.size=none:=I.hok.fresh (Nat.le_refl _)
    have nA:NewAt X pins H s.heap.objs.size:=I.newAt (by cases e:s.heap.get? s.heap.objs.size with | none=>rfl | some o=>exact absurd (Heap.lt_size e) (Nat.lt_irrefl _))
    have I1:Inv X pins σ H { s with heap:=g }:=I.poked k2 fun c hc=>hf c (by simpa using hc)
    have I2:Inv X pins σ (upd H s.heap.objs.size (.tup [kV kvs[i].1,kvs[i].2])) { s with heap:=g }:=I1.track nA ⟨by show 2≤sizeLine;decide,[key,u],.cons (kV_of hkey) (.cons ru .nil),_,(sb.2 _ (Nat.ne_of_gt lit)).trans htup,rfl,_,rfl⟩
    refine ⟨.ref s.heap.objs.size,_,I2,rfl,⟨_,_,_,nH,hx,rfl,rfl⟩,⟨_,_,hit2⟩,fun c hc=>?_⟩
    have hc':c=it:=by simpa using hc
    rw [upd_ne (by rw [hc'];exact Nat.ne_of_lt lit)]
    exact (hf c hc).1
  done:=by
    intro X hP hw hK hc i pins s σ H E I hf st hg
    subst hP hw hK
    obtain ⟨ok,ov,hit⟩:=st
    obtain ⟨hi,hd⟩:=hg
    obtain ⟨vs,rel,hm⟩:=frz_at I hd he
    rw [rel.length] at hit
    refine wpAny_pyNext_items_end (I.ok.hd hc) hit hm (List.getElem?_eq_none (by rw [← rel.length];exact hi)) fun g hk=>⟨rfl,I.poked (ch:=[it]) (fun c o hc q=>hk c o (by simpa using hc) q) fun c hc=>hf c (by simpa using hc)⟩
  self:=fun _ _ _ _ _ st h=>by
    obtain ⟨ok,ov,hit⟩:=st
    exact kcp_self hit h
def iItems (to:TE):TI:=fun σ H R=>to σ H fun x H1=>∃ d kvs,x=.ref d∧H1 d=some (.dK kvs)∧∀ ob,R (Itd d ob kvs) (upd H1 d (.frz ob (.dK kvs)))
section
variable {X:Cx}{elts:List Expr}{k0}{tp:Pos}
theorem pi_items {o:Expr}{to:TE}{apos cpos:Pos}(ho:PE X o to) (hbase:attributeBase o "items" X.env (eval o X.env)=eval o X.env:=by rfl) (hline:(apos.endLine == cpos.line)=true:=by rfl) :
    PI X (.Tuple elts k0 tp) (.Call (.Attribute o "items" apos) [] [] cpos) (iItems to):=by
  intro pins s σ H R I h
  refine wpAny_Call_method0_late hbase hline (thn (ho pins s σ H _ I h) fun v s1 ⟨x,H1,I1,r1,d,kvs,ex,hd,q⟩=>?_)
  subst ex
  cases r1
  obtain ⟨z,hsys,vs,rel,ob,es,ep,g1,g2,g3,g4⟩:=dk_of I1.hok hd
  have dd:s1.heap.DictOf (mixKind X.prog X.w) d vs:=⟨ob,es,ep,g1,g2,g3,g4⟩
  have da:s1.heap.DictAt (mixKind X.prog X.w) d vs ep:=⟨ob,es,g1,g2,g3,g4⟩
  refine ⟨"dict",_,PySem.F.plainAttrs_dict,PySem.F.slot_dict_items,PySem.F.type_dict_items,dd.typeIs,fun b e=>?_,Calls.callWith_builtin rfl (PySem.evalArgs_none ?_)⟩
  · cases e
    exact ⟨ob,g1,g2.2.1⟩
  refine call_meetsIn PySem.F.slot_dict_items dd.typeIs PySem.F.entry_dict_items (PySem.F.args_dict_items_1 _) (meets_dict_items (mixKind X.prog X.w) d hsys) ⟨⟨vs,dd⟩,?_⟩
  refine wpAny_pyIter_items (ep:=ep) (s:={ s1 with heap:=s1.heap.push { cls:=.type "dict_items",data:=.fields #[.ref d] } }) ⟨_,Heap.get?_push_size _ rfl,rfl,rfl⟩ (da.push _) ?_
  generalize eh:(s1.heap.push { cls:=.type "dict_items",data:=.fields #[.ref d] })=h1
  have z1:h1.objs.size=s1.heap.objs.size + 1:=by rw [← eh];exact Heap.size_push ..
  have k1:∀ b u,s1.heap.get? b=some u→(h1.push { cls:=.type "dict_itemiterator",data:=.fields #[.none,.bool false,.ref d,.int 0 0,.int vs.length 0,.int ep 0,.none,.none] }).get? b=some u:=fun b u e=>Heap.get?_push_of_some _ (by rw [← eh];exact Heap.get?_push_of_some _ e)
  have I2:Inv X pins σ H1 { s1 with heap:=h1.push { cls:=.type "dict_itemiterator",data:=.fields #[.none,.bool false,.ref d,.int 0 0,.int vs.length 0,.int ep 0,.none,.none] } }:=I1.kept (t':=s1.toks) k1
  have g1':=k1 _ _ g1
  have I3:Inv X pins σ (upd H1 d (.frz ob (.dK kvs))) { s1 with heap:=h1.push { cls:=.type "dict_itemiterator",data:=.fields #[.none,.bool false,.ref d,.int 0 0,.int vs.length 0,.int ep 0,.none,.none] } } :=
    d_write (s:={ s1 with heap:=h1.push { cls:=.type "dict_itemiterator",data:=.fields #[.none,.bool false,.ref d,.int 0 0,.int vs.length 0,.int ep 0,.none,.none] } }) (h':=h1.push { cls:=.type "dict_itemiterator",data:=.fields #[.none,.bool false,.ref d,.int 0 0,.int vs.length 0,.int ep 0,.none,.none] }) (t':=s1.toks) I2 (by rw [hd];exact True.intro) ⟨rfl,fun b _=>rfl⟩ ⟨_,g1'⟩ ⟨g1',z,hsys,vs,rel,ob,es,ep,g1',g2,g3,g4⟩
  refine ⟨h1.objs.size,[h1.objs.size],_,Itd d ob kvs,_,rfl,I3,turn_items _ d ob kvs es ep g3,⟨.none,.none,?_⟩,fun b hb=>?_,q ob⟩
  · rw [rel.length]
    exact Heap.get?_push_size _ rfl
  · have hb:b=h1.objs.size:=by simpa using hb
    have hge:s1.heap.objs.size≤b:=by rw [hb,z1];exact Nat.le_succ _
    refine I1.fpOk hge ?_
    rw [upd_ne (fun e=>by rw [e] at hge;exact absurd (Nat.lt_of_lt_of_le (Heap.lt_size g1) hge) (Nat.lt_irrefl _))]
    exact I1.hok.fresh hge
end
theorem for_items {d:Addr}{ob:Obj}{kvs:List (Key×V)}{g:TG}{tb:TS}{D:Ends}{σ:St}{H:Hp}(Pv:Nat→St→Hp→Prop) (h0:Pv 0 σ H) (hl:∀ i σ H,i≤kvs.length→Pv i σ H→H d=some (.frz ob (.dK kvs)))
    (hs:∀ i k x σ H p,kvs[i]?=some (k,x)→Pv i σ H→H p=none→g (.ref p) σ (upd H p (.tup [kV k,x])) fun σ2 H2=>tb { D with nx:=Pv (i + 1),ct:=Pv (i + 1),bk:=D.nx } σ2 H2) (hd:∀ σ H,Pv kvs.length σ H→D.nx σ H) :
    ∃ W:Nat→Nat→St→Hp→Prop,(∃ m,W 0 m σ H)∧∀ i m σ H,W i m σ H →
      ((Itd d ob kvs).stop i H∧D.nx σ H)∨((Itd d ob kvs).go i H∧∃ N:St→Hp→Prop,(∀ σ' H',N σ' H'→∃ m',m' < m∧W (i + 1) m' σ' H')∧∀ x H',(Itd d ob kvs).yld i H x H'→g x σ H' fun σ2 H2=>tb { D with nx:=N,ct:=N,bk:=D.nx } σ2 H2):=by
  refine ⟨fun i m σ H=>i≤kvs.length∧m=kvs.length - i∧Pv i σ H,⟨_,Nat.zero_le _,rfl,h0⟩,fun i m σ H ⟨h1,h2,h3⟩=>?_⟩
  have q1:=hl i σ H h1 h3
  by_cases hi:i < kvs.length
  · refine .inr ⟨⟨hi,q1⟩,Pv (i + 1),fun σ' H' p=>⟨kvs.length - (i + 1),by omega,by omega,rfl,p⟩,fun x H' ⟨p,k,u,hp,hk,ex,eH⟩=>?_⟩
    subst ex eH
    exact hs i k u σ H p hk h3 hp
  · have:i=kvs.length:=by omega
    subst this
    exact .inl ⟨⟨Nat.le_refl _,q1⟩,hd σ H h3⟩
end L2
namespace PySem
open Sem (wp)
open PySem.Spec PyProof.Rows
section
variable {prog:Program}{w:World}{K:Type} [DecidableEq K] {knd:KeyKind prog w K}{A:Around}{E:Value→Shared→Prop}{s:Shared}
end
end PySem
namespace L2
open PySem PySem.Spec PyProof.Rows PySem.W
section
variable {X:Cx}
end
end L2
namespace L2
open PySem PyProof.Rows
abbrev calmed (A:Around):Around:={ A with handled:=none }
abbrev Cx.wild (X:Cx):Cx:={ X with calm:=false }
structure FnOkU (P:Program) (w:World) (K:PySem.W.Frag) (mg:Str→Option Value) (base:Heap) (k:Nat) (f:Addr) (fd:FuncData) (ps:List Str) (sp:Sp):Prop where
  len:∀ vs H Q E,sp vs H Q E→vs.length=ps.length
  run:∀ (A:Around) (outer:List Env) (s:Shared) (H:Hp) (args:Args) (us:List Value) (vs:List V) (Q:VK) (E:XK),Room k (calmed A)→Env0 P w K mg base A outer s H→BindsTo s fd args (ps.zip us)→Vals vs us→sp vs H Q E →
    codeAny (model P w) A (.call (.ref f) args) (CR CX0 outer P w H s Q E) s
theorem Env0.mark {P:Program}{w:World}{K:PySem.W.Frag}{mg:Str→Option Value}{base:Heap}{A:Around}{outer:List Env}{s:Shared}{H:Hp}(e:Env0 P w K mg base A outer s H):Env0 P w K mg base (calmed A) outer s H :=
  ⟨e.frames,e.mod,e.bs,e.bsz,e.funs,e.frf,e.hok,e.bare⟩
theorem fn_ofU {P:Program}{w:World}{K:PySem.W.Frag}{mg:Str→Option Value}{base:Heap}{k:Nat}{f:Addr}{name qual:Str}{params:Arguments}{body:List Stmt}{scope:Scope}{dV kV doc pm cdv ct oc:Value}{an od:Option Addr}
    {osl:Array (Option Value)} {N ps:List Str} {sp:Sp} (lk:K.lookup f=some ⟨oc,od,.func (PySem.W.fnOf name qual params body scope dV kV doc pm an cdv ct),osl⟩) (hcd:PySem.W.codeIn K cdv qual=true) (S:FnScope N ps scope)
    (len:∀ vs H Q E,sp vs H Q E→vs.length=ps.length)
    (hbody:∀ (A:Around) (outer:List Env) (s:Shared) (H:Hp) (vs:List V) (Q:VK) (E:XK),Room k ((calmed A).deeper (envOfC qual scope s.heap.objs.size f cdv))→sp vs H Q E →
      ∃ t,PSs (cxOf CX0 P w K mg base N qual scope f cdv A outer s H E).wild.nox body t∧t { nx:=fun _ H'=>Q .non H',rt:=Q } (start N vs) H) :
    FnOkU P w K mg base (k + 1) f (PySem.W.fnOf name qual params body scope dV kV doc pm an cdv ct) ps sp:=by
  refine ⟨len,fun A outer s H args us vs Q E hr e0 hb r hsp=>?_⟩
  have hl:=len _ _ _ _ hsp
  have KX:K.In s.heap:=e0.mod.kin.keeps fun b o e=>(e0.bs b o e).1
  have lim:s.heap.NoLimit:=e0.mod.nolimit.keeps fun b o e=>(e0.bs b o e).1
  have hkind:∀ y∈ps.zip us,scope.names.lookup y.1=some .local∨(scope.names.lookup y.1=some .cell∧((cellsFrom (s.heap.objs.size + 1) scope.names []).lookup y.1).isSome=true):=fun ⟨n,v⟩ hy=>by
    rcases S.par n (List.of_mem_zip hy).1 with q | q
    · exact .inl q
    · exact .inr ⟨q,PySem.W.cellsFrom_some _ _ _ (.inl q)⟩
  have hdp:A.depth < recursionLimit:=hr.depth
  refine codeAny_call_function hdp (KX _ _ lk) rfl S.co S.gen rfl (PySem.W.codeRec_of KX hcd) (hb _ _ _ _ ?_)
  refine wpAny_newFunctionEnv_cells S.kind hkind fun env he s1 x=>?_
  subst he
  refine ⟨lim.keeps x.toInCall.keep,codeAny_func ?_⟩
  obtain ⟨t,ht,hq⟩:=hbody A outer s H vs Q E (hr.deeper _) hsp
  have ht:=ht.nox
  have I0:Inv (cxOf CX0 P w K mg base N qual scope f cdv (calmed A) outer s H E) [] (start N vs) H s1:=inv_start S rfl e0.mark hl r x
  have I:Inv (cxOf CX0 P w K mg base N qual scope f cdv A outer s H E).wild [] (start N vs) H s1 :=
    ⟨⟨I0.ok.mod,I0.ok.kind,I0.ok.glob,I0.ok.blt,I0.ok.above,I0.ok.inj,I0.ok.has,I0.ok.cab,(fun z=>(by cases z)),I0.ok.frames,I0.ok.stk,I0.ok.exf,I0.ok.bs,I0.ok.bsz,I0.ok.noex,I0.ok.exfs,I0.ok.funs,I0.ok.frf⟩,I0.os,I0.bare,I0.base,I0.loc,I0.cell,I0.free,I0.freeC,I0.pin,I0.hok,I0.len⟩
  refine wpAny_mono (ht [] s1 (start N vs) H _ I hq) (fun fl s' hs=>?_) fun e s' hs=>hs
  have fin:∀ {σ':St} {H':Hp} {v:V} {u:Value},Inv (cxOf CX0 P w K mg base N qual scope f cdv A outer s H E).wild [] σ' H' s'→RelV v u→Q v H'→CE outer P w H s Q u s' :=
    fun {σ' H' v u} J rv q=>⟨v,H',J.os,J.bare,J.base,J.hok,rv,q⟩
  cases fl with
  | ret u =>
    obtain ⟨v,σ',H',J,rv,q⟩:=hs
    exact fin J rv q
  | next =>
    obtain ⟨σ',H',J,q⟩:=hs
    exact fin (v:=V.non) (u:=Value.none) J rfl q
  | brk =>
    obtain ⟨_,_,_,q⟩:=hs
    exact False.elim q
  | cont =>
    obtain ⟨_,_,_,q⟩:=hs
    exact False.elim q
theorem Fun.okU {P:Program}{w:World}{K:PySem.W.Frag}{mg:Str→Option Value}{base:Heap}{x qual:Str}{st:Stmt}{f:Addr}{fd:FuncData}{N ps:List Str}{k:Nat}{sp:Sp}(F:Fun K x qual st f fd) (S:FnScope N ps (defScope st)) (len:∀ vs H Q E,sp vs H Q E→vs.length=ps.length)
    (hbody:∀ (cdv:Value) (A:Around) (outer:List Env) (s:Shared) (H:Hp) (vs:List V) (Q:VK) (E:XK),Room k ((calmed A).deeper (envOfC qual (defScope st) s.heap.objs.size f cdv))→sp vs H Q E →
      ∃ t,PSs (cxOf CX0 P w K mg base N qual (defScope st) f cdv A outer s H E).wild.nox (defBody st) t∧t { nx:=fun _ H'=>Q .non H',rt:=Q } (start N vs) H):FnOkU P w K mg base (k + 1) f fd ps sp:=by
  obtain ⟨oc,od,kV,doc,pm,an,cdv,ct,osl,rfl,lk,hcd⟩:=F.ex
  exact fn_ofU lk hcd S len fun A outer s H vs Q E hr hsp=>hbody cdv A outer s H vs Q E hr hsp
section
variable {X:Cx}{k:Nat}{f:Addr}{fd:FuncData}{ps:List Str}{sp:Sp}{ds:List Value}{dvs:List V}{E:XK}
theorem run_fnU {pins:List (Addr×Obj)}{σ:St}{H:Hp}{s:Shared}{Q:VK}{us:List Value}{vs:List V}(F:FnOkU X.prog X.w X.K X.mg X.base k f fd ps sp) (hr:Room k (calmed X.A)) (hb:Binds X.K fd ps ds) (hd:Vals dvs ds) (hx:Passes CX0 X E)
    (I:Inv X pins σ H s) (r:Vals vs us) (h:sp (vs ++ dvs) H Q E):wpAny (model X.prog X.w) X.A (call (.ref f) us) (EP X pins σ Q) X.xe s:=by
  have r2:Vals (vs ++ dvs) (us ++ ds):=r.append hd
  have hl:(us ++ ds).length=ps.length:=by rw [← r2.length];exact F.len _ _ _ _ h
  refine wpAny_call (codeAny_mono (F.run X.A X.stack s H ⟨us,[]⟩ (us ++ ds) (vs ++ dvs) Q E hr I.env0 (hb s us I.kIn hl) r2 h) fun r s' hq=>?_)
  cases r with
  | error e=>exact hx pins σ H s e s' I hq
  | ok fl =>
    cases fl with
    | ret u=>exact I.after hq
    | next=>exact False.elim hq
    | brk=>exact False.elim hq
    | cont=>exact False.elim hq
theorem pe_callU {x:Str}{p pos:Pos}{e:Expr}{es:List Expr}{t:TA}(F:FnOkU X.prog X.w X.K X.mg X.base k f fd ps sp) (hr:Room k (calmed X.A)) (hg:Gl X x) (hm:X.mg x=some (.ref f)) (hk:PySem.W.keepIn X.K (.ref f)=true) (hb:Binds X.K fd ps ds) (hd:Vals dvs ds) (hx:Passes CX0 X E)
    (ha:PA X (e :: es) t) (hdb:(x == ("__debug__":Str))=false:=by decide) (he:starEach (e :: es) X.env=(false,eval e X.env) :: starEach es X.env:=by rfl) (hpl:(backTo pos (starEach es X.env)).any (·.1)=false:=by rfl) :
    PE X (.Call (.Name x p) (e :: es) [] pos) (tCall sp dvs E t):=by
  intro pins s σ H Q I h
  refine wpAny_Call_Name_kw (ld_glob I hg hm ?_ hdb)
  refine PySem.W.callWith_K (h₀:=X.base) I.ok.mod.kin hk (thn (ha pos pins s σ H _ I h) fun us s1 ⟨vs,H1,I1,r,q⟩=>⟨I1.kIn,?_⟩) he hpl
  exact run_fnU F hr hb hd hx I1 r q
end
theorem Room.mark {k:Nat}{A:Around}{v:Option Value}(r:Room k A):Room k (calmed (A.mark v)):=⟨rfl,r.dp,r.un⟩
end L2
namespace L2
open PySem PySem.Spec PyProof.Rows
theorem HT.cat_tup0 {prog:Program}{w:World}{A:Around}{E:Value→Shared→Prop}{s:Shared}{t b:Addr}{ws:List Value}{Q:Value→Shared→Prop}(ht:IsTup s.heap t ([]:List Value).toArray) (hb:IsTup s.heap b ws.toArray)
    (h1:Q (.ref b) s):wpAny (model prog w) A (binaryOp .Add (.ref t) (.ref b)) Q E s:=by
  obtain ⟨⟨cls,dd,data,sl⟩,ho,hc,n,hd⟩:=id ht
  obtain ⟨⟨cls2,dd2,data2,sl2⟩,ho2,hc2,n2,hd2⟩:=id hb
  simp only at hc hd hc2 hd2
  subst hc hd hc2 hd2
  exact concat_meets ⟨_,ho,rfl⟩ ⟨_,ho2,rfl⟩ noFill_tuple_add seq_tuple_add PySem.F.slot_tuple_add PySem.F.entry_tuple_add (PySem.F.args_tuple_add_2 _ _)
    (tuple_addW0 t b ([]:List Value).toArray ws.toArray n n2 dd dd2 sl sl2 rfl) ⟨ho,ho2,h1⟩
section
variable {X:Cx}
theorem op_catU:OpR X (binaryOp .Add) (fun x y H Q=>∃ a b xs ys,x=.ref a∧y=.ref b∧SqT X.K H a xs∧SqT X.K H b ys∧xs.length + ys.length≤sizeLine∧∀ p H',Same H H'→SqT X.K H' p (xs ++ ys)→Q (.ref p) H'):=by
  intro pins s σ H x y v u Q I rx ry h
  obtain ⟨a,b,xs,ys,rfl,rfl,ha,hb,hz,q⟩:=h
  by_cases hx:xs=[]
  · cases rx
    cases ry
    obtain ⟨its,r1,p1,_⟩:=I.tuple ha
    obtain ⟨its2,r2,p2,_⟩:=I.tuple hb
    have e:its=[]:=r1.nil_iff.mpr hx
    subst e
    refine HT.cat_tup0 p1 p2 ⟨.ref b,H,I,rfl,q b H (Same.refl _) ?_⟩
    rw [hx]
    exact hb
  · refine op_catT pins s σ H (.ref a) (.ref b) v u Q I rx ry ⟨a,b,xs,ys,rfl,rfl,ha,hb,hx,hz,fun e=>q a H (Same.refl _) (by rw [e,List.append_nil];exact ha),fun _ p fp=>q p _ (Same.upd0 fp) (SqT.of upd_same)⟩
end
end L2
namespace L2
open PySem PySem.Spec PyProof.Rows
theorem int_ne {a b:Int}(h:¬ a=b):¬ (V.int a=V.int b):=fun z=>h (by injection z)
end L2
namespace L2
open PySem PySem.Spec PyProof.Rows PySem.W
section
variable {X:Cx}
end
section
variable {prog:Program}{w:World}{A:Around}{E:Value→Shared→Prop}
end
section
variable {X:Cx}{pos:Pos}
end
end L2
namespace L2
open PySem PySem.Spec PyProof.Rows PySem.W
section
variable {X:Cx}{tg:Expr}
end
end L2
namespace L2
open PySem PySem.Spec PyProof.Rows PySem.W
variable {X:Cx}
end L2
namespace L2
open PySem PySem.Spec PyProof.Rows PySem.W
section
variable {X:Cx}
theorem eqT_U (r ms:List Int):eqT (.tup ((r.map V.int).map .flat)) (.tup ((ms.map V.int).map .flat))=decide (r=ms):=by
  have h:=eqT_I r ms
  unfold trI at h
  have e:∀ l:List Int,(l.map V.int).map Tr.flat=l.map fun i=>Tr.flat (.int i):=fun l=>by rw [List.map_map];rfl
  rw [e,e,← h]
  simp only [L2.eqT]
end
end L2
namespace L2
open PySem PySem.Spec PyProof.Rows PySem.W
structure Stays (n₀:Nat) (J:Shared→Prop):Prop where
  size:∀ s,J s→n₀≤s.heap.objs.size
  push:∀ (s:Shared) o,J s→J { s with heap:=s.heap.push o }
  upd:∀ (s:Shared) (a:Addr) (f:Obj→Obj),n₀≤a→J s→J { s with heap:=s.heap.update a f }
section
variable {prog:Program}{w:World}{A:Around}{E:Value→Shared→Prop}{s:Shared}{a kS:Addr}{vs:List Value}{kz:List Int}{keys:Array Value}{e e1:Nat}{P:PySem.Fin→Shared→Prop}{n₀:Nat}{J:Shared→Prop}
theorem sk_tail {st:SortSt}(S:Stays n₀ J) (j:J s) (ok:s.heap.get? kS=some (seqObj "list" keys e)) (oa:s.heap.get? a=some (seqObj "list" #[] e1)) (hka:kS≠a) (lk:n₀≤kS) (la:n₀≤a)
    (hk:IntsAre keys.toList kz) (hlen:kz.length=vs.length) (h64:vs.length < 64) (hp:(arrOf st).Perm (keys.zip vs.toArray)) (hs:SortedTo (arrOf st) (arrOf st).size) (hfl:failedOf st=none)
    (h:∀ s' out c,J s'→s'.heap.get? a=some (seqObj "list" out c)→KskOut false kz vs out.toList→P (.done (.ret .none)) s') :
    wpAny (model prog w) A (ksk_tail a false e1 (.ref kS) st) P E s:=by
  have hsz:keys.size=vs.length:=by
    have h1:=hk.length
    rw [Array.length_toList] at h1
    omega
  have hsz2:(arrOf st).size=vs.length:=by rw [hp.size_eq,Array.size_zip,hsz,List.size_toArray,Nat.min_self]
  have hout:((arrOf st).map (·.2)).size=vs.length:=by rw [Array.size_map];exact hsz2
  have s1:=Heap.SameBut.update s.heap kS (Obj.mapSeq fun _=>(#[]:Array Value))
  have na1:(s.heap.update kS (Obj.mapSeq fun _=>(#[]:Array Value))).get? a=some (seqObj "list" #[] e1):=(s1.2 a hka.symm).trans oa
  obtain ⟨c2,hc2⟩:∃ c2,((s.heap.update kS (Obj.mapSeq fun _=>(#[]:Array Value))).update a (Obj.mapSeq fun _=>(arrOf st).map (·.2))).get? a=some (seqObj "list" ((arrOf st).map (·.2)) c2) :=
    ⟨_,get?_update_seq na1 fun _=>(arrOf st).map (·.2)⟩
  have j2:=S.upd _ a (Obj.mapSeq fun _=>(arrOf st).map (·.2)) la (S.upd s kS (Obj.mapSeq fun _=>(#[]:Array Value)) lk j)
  have ko:=ksk_out (b:=false) hk hp hs
  unfold ksk_tail
  simp only [Bool.false_eq_true,if_false]
  refine wpAny_bind (listUpdate_at ok rfl ?_ (by rw [hsz,sizeLine_eq];omega) (Nat.zero_le _))
  refine wpAny_bind (wpAny_letGo ?_)
  refine wpAny_bind (seqEpoch_at na1 rfl ?_)
  refine wpAny_bind (listUpdate_at na1 rfl ?_ (Nat.zero_le _) (Nat.le_trans (Nat.le_of_eq hout) (by rw [sizeLine_eq];omega)))
  rw [hfl]
  simp only [bne_self_eq_false,Bool.false_eq_true,if_false]
  exact wpAny_pure (h _ _ c2 j2 hc2 ko)
theorem sk_end (S:Stays n₀ J) (j:J s) (ok:s.heap.get? kS=some (seqObj "list" keys e)) (oa:s.heap.get? a=some (seqObj "list" #[] e1)) (hka:kS≠a) (lk:n₀≤kS) (la:n₀≤a)
    (hk:IntsAre keys.toList kz) (hlen:kz.length=vs.length) (h64:vs.length < 64)
    (h:∀ s' out c,J s'→s'.heap.get? a=some (seqObj "list" out c)→KskOut false kz vs out.toList→P (.done (.ret .none)) s') :
    wpAny (model prog w) A (ksk_end a false vs.toArray e1 (.ref kS) keys) P E s:=by
  have hsz:keys.size=vs.length:=by
    have h1:=hk.length
    rw [Array.length_toList] at h1
    omega
  have hzs:(keys.zip vs.toArray).size=vs.length:=by rw [Array.size_zip,hsz,List.size_toArray,Nat.min_self]
  unfold ksk_end
  simp only [Bool.false_eq_true,if_false]
  by_cases h2:vs.toArray.size < 2
  · rw [if_pos h2,if_pos h2]
    refine wpAny_bind (wpAny_pure ?_)
    rw [StateT.run_pure]
    refine wpAny_bind (wpAny_pure ?_)
    try dsimp only
    refine sk_tail (st:=SortSt.mk' general' (keys.zip vs.toArray) #[] 7 none) S j ok oa hka lk la hk hlen h64 (Array.Perm.refl _) ?_ rfl h
    intro i j hij hj
    have hj2:j < (keys.zip vs.toArray).size:=hj
    rw [hzs] at hj2
    rw [List.size_toArray] at h2
    have:i=j:=by omega
    subst this
    exact Int.le_refl _
  · rw [if_neg h2,if_neg h2]
    rw [List.size_toArray] at h2
    rw [ksk_kind hk (by rw [hsz];omega)]
    refine wpAny_bind (wpAny_pure ?_)
    refine wpAny_bind (wpAny_mono (wpS_sortRuns (a₀:=keys.zip vs.toArray) (st:=SortSt.mk' oneType' (keys.zip vs.toArray) #[] 7 none)
      (Q:=fun _ st'=>(arrOf st').Perm (keys.zip vs.toArray)∧failedOf st'=none∧SortedTo (arrOf st') (keys.zip vs.toArray).size)
      (ksk_intKeys hk) ⟨Array.Perm.refl _,rfl,rfl,rfl⟩ (by rw [hzs];omega) (by rw [hzs];exact h64) fun st' a1 a2 a3=>⟨a1,a2,a3⟩) ?_ fun _ _ e=>e)
    rintro ⟨⟨⟩,st'⟩ s' ⟨rfl,hp,hf,hs⟩
    try dsimp only
    exact sk_tail S j ok oa hka lk la hk hlen h64 hp (by rw [hp.size_eq];exact hs) hf h
def KeyTurn (prog:Program) (w:World) (A:Around) (n₀:Nat) (J:Shared→Prop) (f v:Value) (k:Int):Prop :=
  ∀ (s':Shared) (own:List (Addr×Obj)),J s'→(∀ p∈own,n₀≤p.1∧s'.heap.get? p.1=some p.2) →
    wpAny (model prog w) A (call f [v]) (fun u s''=>(∃ t,u=.int k t)∧J s''∧∀ p∈own,s''.heap.get? p.1=some p.2) (fun _ _=>False) s'
theorem sk_rest {f:Value}(S:Stays n₀ J) (j:J s) (ok:s.heap.get? kS=some (seqObj "list" #[] 0)) (oa:s.heap.get? a=some (seqObj "list" #[] e1)) (hka:kS≠a) (lk:n₀≤kS) (la:n₀≤a)
    (hlen:kz.length=vs.length) (h64:vs.length < 64)
    (turn:∀ (i:Nat) (v:Value) (k:Int),vs[i]?=some v→kz[i]?=some k→KeyTurn prog w A n₀ J f v k)
    (h:∀ s' out c,J s'→s'.heap.get? a=some (seqObj "list" out c)→KskOut false kz vs out.toList→P (.done (.ret .none)) s') :
    wpAny (model prog w) A (ksk_rest a f false vs.toArray e1 (.ref kS)) P E s:=by
  unfold ksk_rest
  refine wpAny_bind (wpAny_rule ?_)
  first
    | rw [List.forIn_toArray]
    | (rw [← Array.forIn_toList];simp only [List.toList_toArray])
    | rw [← Array.forIn_toList]
  refine wpAny_bind (ksk_fold (fun i s'=>J s'∧∃ kA e,s'.heap.get? kS=some (seqObj "list" kA e)∧s'.heap.get? a=some (seqObj "list" #[] e1)∧IntsAre kA.toList (kz.take i)) vs 0 s
    ⟨j,#[],0,ok,oa,by simpa using IntsAre.nil⟩ ?step ?done)
  case step =>
    rintro i x s' hx ⟨j',kA,e,ok',oa',hk⟩
    simp only [Nat.zero_add] at hk ⊢
    have hj:i < vs.length:=(List.getElem?_eq_some_iff.mp hx).1
    obtain ⟨k,hkj⟩:∃ k,kz[i]?=some k:=⟨_,List.getElem?_eq_getElem (by omega)⟩
    have hz:kA.size≤vs.length:=by
      have h1:=hk.length
      rw [Array.length_toList,List.length_take] at h1
      omega
    refine wpAny_bind (wpAny_attempt (wpAny_mono (turn i x k hx hkj s' [(kS,seqObj "list" kA e),(a,seqObj "list" #[] e1)] j' (fun p hp=>?_)) (fun v s'' he=>?_) fun _ _ hF=>hF.elim))
    · rcases List.mem_cons.mp hp with rfl | hp
      · exact ⟨lk,ok'⟩
      · rw [List.mem_singleton.mp hp]
        exact ⟨la,oa'⟩
    obtain ⟨⟨t2,rfl⟩,j2,ow⟩:=he
    try dsimp only
    have ok2:=ow (kS,seqObj "list" kA e) (.head _)
    have oa2:=ow (a,seqObj "list" #[] e1) (.tail _ (.head _))
    have s1:=Heap.SameBut.update s''.heap kS (Obj.mapSeq (·.push (.int k t2)))
    obtain ⟨c2,hc2⟩:∃ c2,(s''.heap.update kS (Obj.mapSeq (·.push (.int k t2)))).get? kS=some (seqObj "list" (kA.push (.int k t2)) c2):=⟨_,get?_update_seq ok2 (·.push (.int k t2))⟩
    have ek:kz.take (i + 1)=kz.take i ++ [k]:=by rw [List.take_add_one,hkj];simp
    have ea:(kA.push (Value.int k t2)).toList=kA.toList ++ [Value.int k t2]:=by simp
    refine wpAny_bind (listUpdate_at ok2 rfl ?_ (by rw [sizeLine_eq];omega) (Nat.le_trans (Nat.le_of_eq (Array.size_push ..)) (by rw [sizeLine_eq];omega)))
    exact wpAny_pure ⟨rfl,S.upd _ _ _ lk j2,kA.push (.int k t2),c2,hc2,(s1.2 a hka.symm).trans oa2,by rw [ea,ek];exact ksk_snoc hk⟩
  case done =>
    rintro s' ⟨j',kA,e,ok',oa',hk⟩
    have hk':IntsAre kA.toList kz:=by
      have e3:kz.take (0 + vs.length)=kz:=List.take_of_length_le (by omega)
      rw [e3] at hk
      exact hk
    try dsimp only
    refine wpAny_bind (listItems_at ok' rfl ?_)
    exact sk_end S j' ok' oa' hka lk la hk' hlen h64 h
theorem sk_sort {f:Value}{n:Nat}(S:Stays n₀ J) (j:J s) (ho:s.heap.get? a=some (seqObj "list" vs.toArray n)) (la:n₀≤a) (hlen:kz.length=vs.length) (h64:vs.length < 64)
    (turn:∀ (i:Nat) (v:Value) (k:Int),vs[i]?=some v→kz[i]?=some k→KeyTurn prog w A n₀ J f v k)
    (h:∀ s' out c,J s'→s'.heap.get? a=some (seqObj "list" out c)→KskOut false kz vs out.toList→P (.done (.ret .none)) s') :
    wpAny (model prog w) A (ksk_tree a f false) P E s:=by
  have ha:a < s.heap.objs.size:=Heap.lt_size ho
  obtain ⟨e1,ho1⟩:∃ e1,(s.heap.update a (Obj.mapSeq fun _=>(#[]:Array Value))).get? a=some (seqObj "list" #[] e1):=⟨_,get?_update_seq ho fun _=>#[]⟩
  have hkS:((s.heap.update a (Obj.mapSeq fun _=>(#[]:Array Value))).push (seqObj "tuple" vs.toArray 0)).objs.size=s.heap.objs.size + 1:=by rw [size_push',Heap.size_update]
  have j1:=S.push _ (seqObj "list" #[] 0) (S.push _ (seqObj "tuple" vs.toArray 0) (S.upd s a (Obj.mapSeq fun _=>(#[]:Array Value)) la j))
  have hn:=S.size s j
  unfold ksk_tree
  refine wpAny_bind (listItems_at ho rfl ?_)
  refine wpAny_bind (listUpdate_at ho rfl ?_ (by rw [List.size_toArray,sizeLine_eq];omega) (Nat.zero_le _))
  refine wpAny_bind (seqEpoch_at ho1 rfl ?_)
  refine wpAny_bind (wpAny_newTuple ?_ (by show vs.length≤_;rw [sizeLine_eq];omega))
  refine wpAny_bind (wpAny_newList ?_ (Nat.zero_le _))
  refine wpAny_holding ?_
  refine sk_rest (s:={ s with heap:=((s.heap.update a (Obj.mapSeq fun _=>(#[]:Array Value))).push (seqObj "tuple" vs.toArray 0)).push (seqObj "list" #[] 0) }) (kS:=((s.heap.update a (Obj.mapSeq fun _=>(#[]:Array Value))).push (seqObj "tuple" vs.toArray 0)).objs.size)
    S j1 (Heap.get?_push_size _ rfl) (Heap.get?_push_of_some _ (Heap.get?_push_of_some _ ho1)) (by rw [hkS];exact Nat.ne_of_gt (Nat.lt_succ_of_lt ha)) (by rw [hkS];exact Nat.le_succ_of_le hn) la hlen h64 turn h
end
section
variable {prog:Program}{w:World}{A:Around}{E:Value→Shared→Prop}{s:Shared}{l:Addr}{vs:List Value}{kz:List Int}{Q:Value→Shared→Prop}{J:Shared→Prop}
theorem sk_sorted {fa:Addr}(S:Stays s.heap.objs.size J) (j:J s) (hl:s.heap.IsList l vs.toArray) (hlen:kz.length=vs.length) (h64:vs.length < 64)
    (turn:∀ (i:Nat) (v:Value) (k:Int),vs[i]?=some v→kz[i]?=some k→KeyTurn prog w A.in1.in1 s.heap.objs.size J (.ref fa) v k)
    (h:∀ s' D out c,J s'→s.heap.objs.size≤D→s'.heap.get? D=some (seqObj "list" out c)→KskOut false kz vs out.toList→Q (.ref D) s') :
    wpAny (model prog w) A (call (.builtin "sorted") [.ref l] [(Str.ofString "key",.ref fa)]) Q E s:=by
  refine call_function_entry_kw kind_sorted plain_sorted entry_sorted (ksk_s1 _ _) ?_
  unfold Builtin.«sorted»
  refine wpAny_bind (m:=checkCount "sorted" 1 1 _) (wpAny_pure ?_)
  refine wpAny_bind (collect_list hl ?_ (by rw [sizeLine_eq];omega))
  refine wpAny_bind (wpAny_newList ?_ (by rw [sizeLine_eq];omega))
  have hsz:((s.heap.push (seqObj "list" #[] 0)).update s.heap.objs.size (Obj.mapSeq (· ++ vs.toArray))).objs.size=s.heap.objs.size + 1:=by
    rw [Heap.size_update,size_push']
  have hoL:(((s.heap.push (seqObj "list" #[] 0)).update s.heap.objs.size (Obj.mapSeq (· ++ vs.toArray))).push (seqObj "list" vs.toArray 0)).get? (s.heap.objs.size + 1)=some (seqObj "list" vs.toArray 0):=by
    rw [← hsz];exact Heap.get?_push_size _ rfl
  have j1:=S.push _ (seqObj "list" vs.toArray 0) (S.upd _ s.heap.objs.size (Obj.mapSeq (· ++ vs.toArray)) (Nat.le_refl _) (S.push s (seqObj "list" #[] 0) j))
  show wpAny _ _ _ _ _ { s with heap:=((s.heap.push (seqObj "list" #[] 0)).update s.heap.objs.size (Obj.mapSeq (· ++ vs.toArray))).push (seqObj "list" vs.toArray 0) }
  rw [hsz]
  refine wpAny_bind (wpAny_holding (wpAny_call_entry_kw slot_list_sort ⟨_,hoL,rfl⟩ entry_list_sort ?body (ksk_l1 _ _)))
  case body =>
    show wpAny (model prog w) A.in1.in1 (Builtin.«list.sort» ⟨[.ref (s.heap.objs.size + 1)],[(Str.ofString "key",.ref fa)]⟩) _ _ _
    rw [ksk_t1]
    refine sk_sort (s:={ s with heap:=((s.heap.push (seqObj "list" #[] 0)).update s.heap.objs.size (Obj.mapSeq (· ++ vs.toArray))).push (seqObj "list" vs.toArray 0) })
      S j1 hoL (Nat.le_succ _) hlen h64 turn fun s' out c j' o' k'=>⟨_,rfl,?_⟩
    exact wpAny_pure ⟨_,rfl,h _ _ out c j' (Nat.le_succ _) o' k'⟩
theorem sk_perm {ns:List Int}{g:Int→Int}{out:List Value}(hi:IntsAre vs ns) (ko:KskOut false (ns.map g) vs out):∃ ms,IntsAre out ms∧ms.Perm ns:=by
  have hlen:=hi.length
  obtain ⟨ps,hp,ho,hs⟩:=ko
  have hm:(ps.map Prod.snd).Perm vs:=by
    have h1:=hp.map Prod.snd
    rw [List.map_snd_zip (by rw [List.length_map];omega)] at h1
    exact h1
  refine ⟨out.map numOf,?_,?_⟩
  · rw [ho]
    exact intsAre_map _ fun v hv=>hi.all _ (hm.mem_iff.mp hv)
  · rw [ho]
    have h2:=hm.map numOf
    rw [hi.nums] at h2
    exact h2
end
end L2
namespace L2
open PySem PySem.Spec PyProof.Rows PySem.W
def BM (mg:Str→Option Value) (h:Heap):Prop:=∃ bm ob,mg "__builtins__"=some (.ref bm)∧bm≠builtinsNs∧h.get? bm=some ob∧ob.cls=.type "module"∧ob.dict=some builtinsNs∧ob.data=.plain
section
variable {X:Cx}{pins:List (Addr×Obj)}{σ:St}{H:Hp}{s:Shared}{c P:Addr}{ps:Array Value}{params:Arguments}{body:Expr}{scope:Scope}{pos:Pos}{clos:List (Str×Addr)}{Q:Value→Shared→Prop}
theorem Inv.tblUp {ps more:Array Value} {h':Heap} {tk:Nat} (I:Inv X pins σ H s) (hP:H P=some (.tbl ps)) (k:∀ b o,b≠P→s.heap.get? b=some o→h'.get? b=some o) (hp:h'.get? P=some { cls:=.none,data:=.fields (ps ++ more) }) :
    Inv X pins σ (upd H P (.tbl (ps ++ more))) { s with heap:=h',toks:=tk }:=by
  have ne:∀ b o,H b=some o→(∀ qs,o≠.tbl qs)→b≠P:=fun b o q n z=>by subst z;rw [hP] at q;cases q;exact n _ rfl
  have ne0:∀ b,H b=none→b≠P:=fun b q z=>by subst z;rw [hP] at q;cases q
  refine I.call' (ch:=[]) rfl ⟨fun b o q n _ _=>k b o (ne0 b n) q,fun b o q n _ _=>⟨o.slots,k b o (ne0 b n) q⟩,fun b o q n _=>by rw [upd_ne (ne0 b n)];exact n,fun b o q _=>?_,fun b xs q=>?_,fun b o u q=>?_,fun b qs q=>?_⟩ (fun b u q=>?_) I.bare fun b hb=>absurd hb (by simp)
  · by_cases e:b=P
    · subst e;exact ⟨_,hp⟩
    · exact ⟨o,k b o e q⟩
  · rw [upd_ne (ne b _ q fun _ z=>by cases z)];exact q
  · rw [upd_ne (ne b _ q fun _ z=>by cases z)];exact q
  · by_cases e:b=P
    · subst e
      rw [hP] at q;cases q
      exact ⟨more,by rw [upd_same]⟩
    · exact ⟨#[],by rw [upd_ne e,q];simp⟩
  · by_cases e:b=P
    · subst e
      rw [upd_same] at q;cases q
      exact hp
    · rw [upd_ne e] at q
      refine (I.hok b u q).stay (fun c v hc r=>k c v (fun z=>?_) r) (fun c r=>by rw [upd_ne (ne c _ r fun _ z=>by cases z)];exact r) fun c xs r=>by rw [upd_ne (ne c _ r fun _ z=>by cases z)];exact r
      rcases hc with w | w
      · exact e (w.symm.trans z)
      · subst z;rw [hP] at w;cases w
theorem lam_make (I:Inv X pins σ H s) (B:BM X.mg X.base) (C:CodeHd X.base c P) (hcd:X.env.code=.ref c) (hP:H P=some (.tbl ps)) (ht:TriplesOk ps.toList) (hn:codeAmong pos ps.toList=none) (hcl:closureFor scope X.env=pure clos) (hdef:defaultsOf params X.env=([],[]))
    (h:∀ (f c':Addr) (oc:Obj) (vs:Array Value) (t:Tok) (ctv:Value) (s':Shared),s'.heap.objs.size=f + 1→Inv X (pins ++ [(f,kla_obj "<lambda>" (X.env.qual ++ "<lambda>") params body scope clos ((X.mg "__name__").getD .none) c' ctv),(c',oc)]) σ (upd H P (.tbl (ps ++ #[rawInt pos.line,rawInt pos.col,.ref c']))) s' →
      oc.data=.fields vs→vs[1]?=some (.str (X.env.qual ++ "<lambda>") t)→Q (.ref f) s') :
    wpAny (model X.prog X.w) X.A (eval (.Lambda params body scope pos) X.env) Q X.xe s:=by
  have hgP:mainGlobals≠P:=fun q=>by
    obtain ⟨o,es,ep,e,_⟩:=I.ok.mod.glob
    have:=(I.bs _ _ e).2
    rw [q,hP] at this;cases this
  obtain ⟨bm,ob,b1,b2,b3,b4,b5,b6⟩:=B
  have hbP:bm≠P:=fun q=>by
    have:=(I.bs _ _ b3).2
    rw [q,hP] at this;cases this
  have hbG:bm≠mainGlobals:=fun q=>by
    obtain ⟨o,es,ep,e,hd,_⟩:=I.ok.mod.glob
    rw [q,e] at b3;cases b3;rw [hd] at b6;cases b6
  have oP:s.heap.get? P=some (tabObj ps):=I.hok P _ hP
  refine kla_eval hdef (kla_makeFunction (mg:=X.mg) hcl I.ok.glob (I.ok.mod.glob.keeps I.bk) hcd (C.keeps I.bk) oP ht hn hgP ⟨bm,ob,b1,b2,hbG,hbP,I.bk _ _ b3,b4,b5,b6⟩ fun c' ctv h' tk hx hge hlt hrec htb=>?_)
  obtain ⟨c₂,oc,vs,t,e2,hoc,hd,hv⟩:=hrec
  cases e2
  have lP:P < s.heap.objs.size:=Heap.lt_size oP
  have hgf:s.heap.objs.size≤h'.objs.size:=Nat.le_of_lt (Nat.lt_of_le_of_lt hge hlt)
  have I1:=I.tblUp (tk:=tk) (h':=h'.push (kla_obj "<lambda>" (X.env.qual ++ "<lambda>") params body scope clos ((X.mg "__name__").getD .none) c' ctv)) hP (fun b o hb e=>Heap.get?_push_of_some _ (hx b o hb e)) (Heap.get?_push_of_some _ htb)
  refine h h'.objs.size c' oc vs t ctv _ (Heap.size_push ..) (I1.pins_of fun p hp=>?_) hd hv
  rcases List.mem_append.mp hp with hp | hp
  · exact I1.pin p (List.mem_append_right _ hp)
  · rcases List.mem_cons.mp hp with rfl | hp
    · exact ⟨Heap.get?_push_size _ rfl,by rw [upd_ne (Nat.ne_of_gt (Nat.lt_of_lt_of_le lP hgf))];exact I.hok.fresh hgf,Nat.ne_of_gt (Nat.lt_of_lt_of_le I.lt hgf),I.nofs hgf,fun v z=>by cases z⟩
    · rw [List.mem_singleton.mp hp]
      exact ⟨Heap.get?_push_of_some _ hoc,by rw [upd_ne (Nat.ne_of_gt (Nat.lt_of_lt_of_le lP hge))];exact I.hok.fresh hge,Nat.ne_of_gt (Nat.lt_of_lt_of_le I.lt hge),I.nofs hge,fun v z=>by rw [hd] at z;cases z⟩
end
def lamCx (P:Program) (w:World) (K:PySem.W.Frag) (mg:Str→Option Value) (base:Heap) (N:List Str) (qual:Str) (scope:Scope) (f:Addr) (cd:Value) (cl:List (Str×Addr)) (A:Around) (outer:List Env) (s:Shared) (H:Hp):Cx where
  prog:=P
  w:=w
  K:=K
  mg:=mg
  base:=base
  A:=A.deeper (envX qual scope s.heap.objs.size f cd cl)
  N:=N
  s₀:=s
  H₀:=H
  env:=envX qual scope s.heap.objs.size f cd cl
  outer:=outer
  stack:=envX qual scope s.heap.objs.size f cd cl :: outer
  ex:=[]
  calm:=true
  fn:=fun _=>false
  pn:=[]
  xe:=fun _ _=>False
structure LamScope (p c:Str) (sc:Scope):Prop where
  kind:sc.kind=.function
  co:sc.isCoroutine=false
  gen:sc.isGenerator=false
  par:sc.names.lookup p=some .local
  cap:sc.names.lookup c=some .free
  nocell:∀ x∈sc.names,x.2≠.cell
  one:∀ x∈sc.names,x.2=.free→x.1=c
section
variable {P:Program}{w:World}{K:PySem.W.Frag}{mg:Str→Option Value}{base:Heap}{A:Around}{outer:List Env}{s:Shared}{H:Hp}{name qual p c:Str}{params:Arguments}{body:Expr}{scope:Scope}{ca f c':Addr}{pm ctv:Value}{t:TE}{Q:VK}{E:XK}{u uc:Value}{v vc:V}
theorem lam_run (S:LamScope p c scope) (ho:s.heap.get? f=some (kla_obj name qual params body scope [(c,ca)] pm c' ctv)) (hcr:s.heap.CodeRec (.ref c') qual) (hbind:bindArgs (kla_fn name qual params body scope [(c,ca)] pm (.ref c') ctv) ⟨[u],[]⟩=pure [(p,u)])
    (hdp:A.depth < recursionLimit) (hd:A.handled=none) (e0:Env0 P w K mg base A outer s H) (hcell:s.heap.IsCell ca (some uc)) (rc:RelV vc uc) (fc:H ca=none) (rv:RelV v u)
    (hb:PE (lamCx P w K mg base [p,c] qual scope f (.ref c') [(c,ca)] A outer s H) body t) (q:t [some v,some vc] H Q) :
    codeAny (model P w) A (.call (.ref f) ⟨[u],[]⟩) (CR CX0 outer P w H s Q E) s:=by
  have lim:s.heap.NoLimit:=e0.mod.nolimit.keeps fun b o e=>(e0.bs b o e).1
  refine kla_callFunE hdp ho rfl S.co S.gen rfl hcr ?_
  rw [hbind]
  refine wpAny_pure (wpAny_newFunctionEnv S.nocell (fun x hx=>?_) (fun h₁ hns hsb=>⟨lim.fresh _ hsb,?_⟩) S.kind)
  · rw [List.mem_singleton.mp hx];exact S.par
  have hk₁:∀ b o,s.heap.get? b=some o→h₁.get? b=some o:=fun b o e=>hsb.extBut b o (Nat.ne_of_lt (Heap.lt_size e)) (Heap.get?_push_of_some _ e)
  have lk1:∀ y cc,([(c,ca)]:List (Str×Addr)).lookup y=some cc→y=c∧cc=ca:=fun y cc e=>by
    have:=PySem.mem_of_lookup e
    rw [List.mem_singleton] at this
    cases this
    exact ⟨rfl,rfl⟩
  have lk2:([(c,ca)]:List (Str×Addr)).lookup c=some ca:=by rw [List.lookup_cons,beq_self_eq_true]
  have noA:∀ b:Addr,b∉(lamCx P w K mg base [p,c] qual scope f (.ref c') [(c,ca)] A outer s H).ex:=fun b z=>absurd (show b∈([]:List Addr) from z) (by simp)
  have cell₁:h₁.IsCell ca (some uc):=by
    obtain ⟨o,e1,e2⟩:=hcell
    exact ⟨o,hk₁ _ _ e1,e2⟩
  have I:Inv (lamCx P w K mg base [p,c] qual scope f (.ref c') [(c,ca)] A outer s H) [] [some v,some vc] H { s with heap:=h₁,toks:=s.toks + [(p,u)].length }:=by
    refine ⟨⟨e0.mod,S.kind,rfl,rfl,Nat.le_refl _,fun y z cc h1 h2=>(lk1 y cc h1).1.trans (lk1 z cc h2).1.symm,fun y hy=>?_,fun y cc z=>absurd z Bool.false_ne_true,fun _=>hd,Around.frames_deeper e0.frames,.inr ⟨rfl,rfl⟩,fun b z=>absurd z (noA b),e0.bs,e0.bsz,fun b _ _=>noA b,fun b z=>absurd z (noA b),e0.funs,e0.frf⟩,
      rfl,e0.bare,Un.kept hk₁,⟨_,hns,fun i y vv h1 h2 h3=>?_⟩,fun y cc h=>?_,e0.hok.fresh (Nat.le_refl _),fun y cc h=>?_,fun p hp=>absurd (show p∈([]:List (Addr×Obj)) from hp) (by simp),e0.hok.kept hk₁,rfl⟩
    · have hy:scope.names.lookup y=some .cell∨scope.names.lookup y=some .free:=hy
      rcases hy with hy | hy
      · exact absurd rfl (S.nocell _ (PySem.mem_of_lookup hy))
      · have e:y=c:=S.one _ (PySem.mem_of_lookup hy) rfl
        exact ⟨ca,by rw [e];exact lk2⟩
    · match i,h1,h2 with
      | 0,h1,h2 =>
        cases h1;cases h2
        exact ⟨u,rv,.inl ⟨S.par,by show ([(p,u)]:List (Str×Value)).reverse.lookup p=_;rw [List.reverse_singleton,List.lookup_cons,beq_self_eq_true]⟩⟩
      | 1,h1,h2 =>
        cases h1;cases h2
        exact ⟨uc,rc,.inr ⟨.inr S.cap,ca,lk2,cell₁⟩⟩
      | i + 2,h1,h2=>cases h1
    · rw [(lk1 y cc h).2];exact ⟨_,cell₁⟩
    · rw [(lk1 y cc h).2];exact fc
  show codeAny _ _ (.expr body (envX qual scope s.heap.objs.size f (.ref c') [(c,ca)])) _ _
  refine kla_codeExpr (wpAny_mono (hb [] _ _ H Q I q) (fun u' s' hs=>?_) fun e s' hs=>hs.elim)
  obtain ⟨v',H',J,r',q'⟩:=hs
  exact ⟨v',H',J.os,J.bare,J.base,J.hok,r',q'⟩
end
section
variable {X:Cx}{pins:List (Addr×Obj)}{σ:St}{H:Hp}
theorem Inv.stays {s:Shared}(I:Inv X pins σ H s):Stays s.heap.objs.size (fun s'=>Inv X pins σ H s'∧s.heap.objs.size≤s'.heap.objs.size) where
  size:=fun s' j=>j.2
  push:=fun s' o j=>⟨j.1.kept (t':=s'.toks) fun b u e=>Heap.get?_push_of_some _ e,by rw [Heap.size_push];exact Nat.le_succ_of_le j.2⟩
  upd:=fun s' a f la j=>⟨j.1.poked (ch:=[a]) (fun b o hb e=>((Heap.SameBut.update s'.heap a f).2 b fun z=>hb (by rw [z];exact List.mem_singleton.mpr rfl)).trans e) fun b hb=>by
      rw [List.mem_singleton.mp hb]
      exact I.fpOk la (I.hok.fresh la),by rw [Heap.size_update];exact j.2⟩
end
abbrev skR (K:PySem.W.Frag) (P:Addr) (lpos:Pos) (i:Nat) (tb:TE) (σ:St) (Q:VK) (xs:List V) (H1:Hp):Prop:=∃ (a:Addr) (ns:List Int) (vc:V) (g:Int→Int) (ps:Array Value),
  xs=[.ref a]∧SqL K H1 a (ns.map V.int)∧ns.length < 64∧σ[i]?=some (some vc)∧H1 P=some (.tbl ps)∧TriplesOk ps.toList∧codeAmong lpos ps.toList=none ∧
  (∀ n∈ns,∀ more,tb [some (.int n),some vc] (upd H1 P (.tbl (ps ++ more))) (fun v H'=>v=.int (g n)∧H'=upd H1 P (.tbl (ps ++ more)))) ∧
  ∀ (cr:Value) (l:Addr) (ms:List Int),ms.Perm ns→H1 l=none→l≠P→Q (.ref l) (upd (upd H1 P (.tbl (ps ++ #[rawInt lpos.line,rawInt lpos.col,cr]))) l (.lst (ms.map V.int)))
def tSK (K:PySem.W.Frag) (P:Addr) (lpos:Pos) (i:Nat) (te tb:TE):TE:=fun σ H Q=>te σ H fun x H1=>skR K P lpos i tb σ Q [x] H1
section
variable {X:Cx}{e body:Expr}{te tb:TE}{params:Arguments}{scope:Scope}{lpos p kp pos:Pos}{c P:Addr}{pn cn:Str}{k:Nat}
theorem pe_sortKey (i:Nat) (he:PE X e te) (hg:Gl X "sorted") (hm:X.mg "sorted"=none) (B:BM X.mg X.base) (C:codeHdIn X.K c P=true) (hcd:X.env.code=.ref c) (S:LamScope pn cn scope) (hr:Room (k + 3) X.A)
    (hN:X.N[i]?=some cn) (hk:X.env.kindOf cn=some .cell) (ca:Addr) (hca:X.env.cells.lookup cn=some ca) (hcl:closureFor scope X.env=pure [(cn,ca)])
    (hbind:∀ (pm ctv u:Value) (c':Addr),bindArgs (kla_fn "<lambda>" (X.env.qual ++ "<lambda>") params body scope [(cn,ca)] pm (.ref c') ctv) ⟨[u],[]⟩=pure [(pn,u)])
    (hbody:∀ (f c':Addr) (A:Around) (outer:List Env) (s:Shared) (H:Hp),Room k (A.deeper (envX (X.env.qual ++ "<lambda>") scope s.heap.objs.size f (.ref c') [(cn,ca)])) →
      PE (lamCx X.prog X.w X.K X.mg X.base [pn,cn] (X.env.qual ++ "<lambda>") scope f (.ref c') [(cn,ca)] A outer s H) body tb)
    (hdef:defaultsOf params X.env=([],[]):=by rfl) (hst:starEach [e] X.env=[(false,eval e X.env)]:=by rfl) :
    PE X (.Call (.Name "sorted" p) [e] [⟨some "key",.Lambda params body scope lpos,kp⟩] pos) (tSK X.K P lpos i te tb):=by
  intro pins s σ H Q I h
  refine wpAny_Call_Name_kw (ld_blt I hg hm (rfl:bootBuiltins "sorted"=some (.builtin "sorted")) ?_)
  have ha:PA X [e] (tCons te tNil):=pa_cons he pa_nil hst
  refine callWith_kw (thn (ha pos pins s σ H (skR X.K P lpos i tb σ Q) I h) fun us s1 ⟨vs,H1,I1,r1,q1⟩=>?_) (by rw [hst];rfl) (by rw [hst];rfl)
  obtain ⟨a,ns,vc,g,ps,ex,hq,hn,hv,hP,ht,hnf,hb,q⟩:=q1
  subst ex
  obtain ⟨u,rfl,rx⟩:=vals1 r1
  cases rx
  refine kws_cons (lam_make I1 B (codeHd_of_K I1.ok.mod.kin C) hcd hP ht hnf hcl hdef fun f c' oc fvs t ctv s2 hsz I2 hd hfv=>kws_nil ?_)
  show wpAny _ _ (call (.builtin "sorted") [.ref a] [(Str.ofString "key",.ref f)]) _ _ s2
  have ne:∀ b o,H1 b=some o→(∀ qs,o≠.tbl qs)→b≠P:=fun b o e n z=>by subst z;rw [hP] at e;cases e;exact n _ rfl
  have hq2:SqL X.K (upd H1 P (.tbl (ps ++ #[rawInt lpos.line,rawInt lpos.col,.ref c']))) a (ns.map V.int):=by
    rcases hq with (h | ⟨o,h⟩) | h
    · exact .inl (.inl (by rw [upd_ne (ne _ _ h fun _ z=>by cases z)];exact h))
    · exact .inl (.inr ⟨o,by rw [upd_ne (ne _ _ h fun _ z=>by cases z)];exact h⟩)
    · exact .inr h
  obtain ⟨its,rv,pl,hz⟩:=I2.list hq2
  have hi:IntsAre its ns:=intsAre_of rv
  have hl:its.length=ns.length:=by have:=rv.length;rw [List.length_map] at this;exact this.symm
  have lP:P < s2.heap.objs.size:=I2.hok.lt (show upd H1 P (.tbl (ps ++ #[rawInt lpos.line,rawInt lpos.col,.ref c'])) P=_ from upd_same ..)
  refine sk_sorted (kz:=ns.map g) I2.stays ⟨I2,Nat.le_refl _⟩ pl.isList (by rw [List.length_map];exact hl.symm) (by omega) (fun j v kk hjv hjk s3 own j3 hown=>?_) fun s3 D out cc j hD o ko=>?_
  · obtain ⟨I3,hn3⟩:=j3
    rw [List.getElem?_map] at hjk
    cases en:ns[j]? with
    | none=>rw [en] at hjk;cases hjk
    | some n =>
      rw [en] at hjk
      cases (show some (g n)=some kk from hjk)
      obtain ⟨u,hu,ru⟩:=rv.get (x:=.int n) (i:=j) (by rw [List.getElem?_map,en];rfl)
      rw [hjv] at hu
      cases hu
      obtain ⟨m,hns,hlk⟩:=I3.loc
      obtain ⟨uc,ruc,lk⟩:=hlk i cn vc hN hv (.inr (.inl hk))
      have hcell:s3.heap.IsCell ca (some uc):=by
        rcases lk with ⟨z,_⟩ | ⟨_,cb,e1,e2⟩
        · rw [hk] at z;cases z
        · rw [hca] at e1;cases e1;exact e2
      have p1:=I3.pin (f,kla_obj "<lambda>" (X.env.qual ++ "<lambda>") params body scope [(cn,ca)] ((X.mg "__name__").getD .none) c' ctv) (List.mem_append_right _ (List.mem_append_right _ (.head _)))
      have p2:=I3.pin (c',oc) (List.mem_append_right _ (List.mem_append_right _ (.tail _ (.head _))))
      have hr2:Room (k + 1) X.A.in1.in1:=hr.in1.in1
      refine wpAny_call (codeAny_mono (lam_run (Q:=fun v H'=>v=.int (g n)∧H'=upd H1 P (.tbl (ps ++ #[rawInt lpos.line,rawInt lpos.col,.ref c']))) (E:=E0) S p1.1 ⟨c',oc,fvs,t,rfl,p2.1,hd,hfv⟩ (hbind _ _ _ _) hr2.depth hr2.hd I3.env0.in1.in1 hcell ruc (I3.freeC cn ca hca) ru
        (hbody _ _ _ _ _ _ (hr2.deeper _)) (hb n (List.mem_of_getElem? en) _)) fun r s4 hq4=>?_)
      cases r with
      | error e=>exact hq4.elim
      | ok fl =>
        cases fl with
        | next=>exact False.elim hq4
        | brk=>exact False.elim hq4
        | cont=>exact False.elim hq4
        | ret u4 =>
          have un:=hq4
          obtain ⟨_,_,_,_,un,_⟩:=un
          obtain ⟨v4,H4,I4,r4,e1,e2⟩:=I3.after hq4
          subst e1 e2
          refine ⟨r4,⟨I4,?_⟩,fun p hp=>?_⟩
          · have p4:=I4.pin (f,kla_obj "<lambda>" (X.env.qual ++ "<lambda>") params body scope [(cn,ca)] ((X.mg "__name__").getD .none) c' ctv) (List.mem_append_right _ (List.mem_append_right _ (.head _)))
            have:=Heap.lt_size p4.1
            rw [hsz]
            exact this
          · obtain ⟨hp1,hp2⟩:=hown p hp
            refine un.keep p.1 p.2 hp2 (I2.hok.fresh hp1) (fun z=>?_) (by simp)
            rcases List.mem_cons.mp (I2.stkSub _ z) with z | z
            · exact absurd (Nat.lt_of_lt_of_le I2.lt hp1) (by rw [z];exact Nat.lt_irrefl _)
            · exact I2.nofs hp1 z
  · obtain ⟨ms,hms,hpm⟩:=sk_perm hi ko
    have I3:=j.1.unpinned
    have hf:=I2.hok.fresh hD
    have dP:D≠P:=Nat.ne_of_gt (Nat.lt_of_lt_of_le lP hD)
    have nA:NewAt X pins (upd H1 P (.tbl (ps ++ #[rawInt lpos.line,rawInt lpos.col,.ref c']))) D:=I2.unpinned.newAt (Heap.get?_none_of_le hD)
    refine ⟨.ref D,_,I3.track (o:=.lst (ms.map V.int)) nA ⟨?_,out.toList,cc,ints_vals hms,by rw [Array.toArray_toList];exact o⟩,rfl,q _ D ms hpm (by rw [upd_ne dP] at hf;exact hf) dP⟩
    rw [List.length_map,hpm.length_eq]
    exact small_len (by omega)
end
end L2
namespace L2
open PySem PySem.Spec PyProof.Rows PySem.W
theorem isTable_of {h:Heap}{c P:Addr}(C:CodeHd h c P):isCodeTable h P:=by
  obtain ⟨o,vs,file,tf,flags,tg,inF,text,tt,e1,e2,e3,e4,_⟩:=C
  exact ⟨c,o,vs,e1,e2,e3,e4⟩
theorem law_callT {P:Program}{w:World}{K:PySem.W.Frag}{mg mb:Str→Option Value}{CX:CXT}{k:Nat}{fa a:Addr}{fd:FuncData}{x:Str}{sp:Sp}{s₁:Shared}{vs:List Value}{ns:List Int}{ts:List Addr}
    (KX:K.In s₁.heap) (hns:s₁.heap.Ns mainGlobals mg) (hb:s₁.heap.Ns builtinsNs mb) (hbb:∀ x:Str,x≠"__name__"→mb x=bootBuiltins x) (hlim:s₁.heap.NoLimit) (hg:s₁.gens=#[]) (hbm:BM mg s₁.heap)
    (hT:∀ p∈ts,s₁.heap.get? p=some (tabObj #[])) (hTK:∀ p∈ts,K.lookup p=none∧∃ c,codeHdIn K c p=true)
    (ha:s₁.heap.get? a=some { cls:=.type "list",data:=.seq vs.toArray }) (hi:IntsAre vs ns) (hl:ns.length≤sizeLine) (hr:Room k callerA)
    (F:∀ base:Heap,K.In base→base.Ns mainGlobals mg→BM mg base→FnOk P w K mg base CX k fa fd [x] sp) (hbind:∀ (s:Shared) (u:Value),BindsTo s fd ⟨[u],[]⟩ [(x,u)])
    (hsp:∀ H:Hp,(∀ p∈ts,H p=some (.tbl #[]))→SqL K H a (ns.map V.int)→sp [.ref a] H (fun v _=>v=.bl true) fun _ _ _=>False)
    (hCX:∀ H e s',CX [] H s₁ (fun _ _ _=>False) e s'→False) :
    codeAny (model P w) callerA (.call (.ref fa) ⟨[.ref a],[]⟩) (fun r s'=>r=.ok (.ret (.bool true))∧OldK s₁.heap s'.heap∧s'.os=s₁.os∧AllBare s'.gens) s₁:=by
  have rv:=vals_ints hi
  have lenV:=hi.length
  have na:a∉ts:=fun z=>by rw [hT a z] at ha;cases ha
  have core:∀ H:Hp,(∀ b,H b=none∨(b=a∧∃ o xs,H b=some (.frz o (.lst xs)))∨(b∈ts∧H b=some (.tbl #[])))→(∀ p∈ts,H p=some (.tbl #[]))→SqL K H a (ns.map V.int)→HOk P w H s₁.heap→(H a≠none→K.lookup a=none) →
      codeAny (model P w) callerA (.call (.ref fa) ⟨[.ref a],[]⟩) (fun r s'=>r=.ok (.ret (.bool true))∧OldK s₁.heap s'.heap∧s'.os=s₁.os∧AllBare s'.gens) s₁:=by
    intro H hO hTb hS hok hK
    have base_of:∀ {b:Addr} {o:Obj},s₁.heap.get? b=some o→H b=none→(hidT s₁.heap H).get? b=some o:=fun e n=>hidT_get e n
    have noA:∀ {b:Addr} {o:Obj},s₁.heap.get? b=some o→(∀ es n,o.data≠.seq es n)→(∀ vs,o.data≠.fields vs)→H b=none:=fun {b o} e d1 d2=>by
      rcases hO b with q | ⟨q,_⟩ | ⟨q,_⟩
      · exact q
      · subst q
        rw [ha] at e;cases e
        exact absurd rfl (d1 _ _)
      · rw [hT b q] at e;cases e
        exact absurd rfl (d2 _)
    have nsK:∀ {b:Addr} {m:Str→Option Value},s₁.heap.Ns b m→(hidT s₁.heap H).Ns b m:=fun {b m} ⟨o,es,ep,e,d,r⟩=>⟨o,es,ep,base_of e (noA e (fun _ _ z=>by rw [d] at z;cases z) fun _ z=>by rw [d] at z;cases z),d,r⟩
    have hKb:K.In (hidT s₁.heap H):=fun b o e=>base_of (KX b o e) (by
      rcases hO b with q | ⟨q,oo,xs,q2⟩ | ⟨q,_⟩
      · exact q
      · subst q
        rw [hK (by rw [q2];simp)] at e;cases e
      · rw [(hTK b q).1] at e;cases e)
    have hM:Mod K mg (hidT s₁.heap H):=⟨hKb,nsK hns,⟨mb,nsK hb,hbb⟩,let ⟨mc,h1,h2⟩:=hlim;⟨mc,nsK h1,h2⟩⟩
    have hB:BM mg (hidT s₁.heap H):=by
      obtain ⟨bm,ob,b1,b2,b3,b4,b5,b6⟩:=hbm
      exact ⟨bm,ob,b1,b2,base_of b3 (noA b3 (fun _ _ z=>by rw [b6] at z;cases z) fun _ z=>by rw [b6] at z;cases z),b4,b5,b6⟩
    have e0:Env0 P w K mg (hidT s₁.heap H) callerA [] s₁ H:=⟨rfl,hM,fun b o e=>of_hidT e,Nat.le_of_eq (hidT_size _ _),trivial,fun b hb=>absurd (show b∈([]:List Addr) from hb) (by simp),hok,.of_eq hg⟩
    refine codeAny_mono ((F _ hKb (nsK hns) hB).run callerA [] s₁ H ⟨[.ref a],[]⟩ [.ref a] [.ref a] _ _ hr e0 (hbind s₁ (.ref a)) (.cons rfl .nil) (hsp H hTb hS)) fun r s' h=>?_
    cases r with
    | error e=>exact (hCX H e s' h).elim
    | ok fl =>
      cases fl with
      | next=>exact False.elim h
      | brk=>exact False.elim h
      | cont=>exact False.elim h
      | ret u =>
        obtain ⟨v,H',os,bare,un,hok',r',q⟩:=h
        have q':v=.bl true:=q
        subst q'
        obtain rfl:u=Value.bool true:=r'
        have main:∀ b o,s₁.heap.get? b=some o→asItWas s₁.heap s'.heap b o∧∃ o',s'.heap.get? b=some o':=fun b o e=>by
          rcases hO b with q | ⟨_,ob,xs,z⟩ | ⟨q,z⟩
          · have:=un.keep b o e q (by intro z;exact absurd (show b∈([]:List Addr) from z) (by simp)) (by simp)
            exact ⟨.inl this,o,this⟩
          · have z2:=un.frzs b ob _ z
            obtain ⟨e1,_⟩:=hok b _ z
            obtain ⟨e2,_⟩:=hok' b _ z2
            rw [e] at e1;cases e1
            exact ⟨.inl e2,_,e2⟩
          · obtain ⟨more,z2⟩:=un.tbls b _ z
            have e2:s'.heap.get? b=some { cls:=.none,data:=.fields (#[] ++ more) }:=hok' b _ z2
            have e1:=hT b q
            rw [e] at e1;cases e1
            obtain ⟨_,c,hc⟩:=hTK b q
            exact ⟨.inr (.inl ⟨isTable_of (codeHd_of_K KX hc),rfl,#[],more,rfl,e2⟩),_,e2⟩
        exact ⟨rfl,⟨fun b o e=>(main b o e).1,fun b o e=>(main b o e).2⟩,os,bare⟩
  cases hk:K.lookup a with
  | some o =>
    have e:=KX a o hk
    rw [ha] at e
    cases e
    refine core (fun b=>if b∈ts then some (.tbl #[]) else none) (fun b=>?_) (fun p hp=>if_pos hp) (.inr ⟨_,vs.toArray,_,hk,rfl,rfl,rfl,by rw [List.size_toArray,lenV];exact hl,by simpa using rv⟩) (fun b u z=>?_) fun z=>absurd (if_neg na) z
    · by_cases hb:b∈ts
      · exact .inr (.inr ⟨hb,if_pos hb⟩)
      · exact .inl (if_neg hb)
    · by_cases hb:b∈ts
      · have z':=(if_pos hb).symm.trans z
        cases z'
        exact hT b hb
      · have z':=(if_neg hb).symm.trans z
        cases z'
  | none =>
    refine core (fun b=>if b=a then some (.frz { cls:=.type "list",data:=.seq vs.toArray } (.lst (ns.map V.int))) else if b∈ts then some (.tbl #[]) else none) (fun b=>?_) (fun p hp=>?_) (.inl (.inr ⟨{ cls:=.type "list",data:=.seq vs.toArray },if_pos rfl⟩)) (fun b u z=>?_) fun _=>hk
    · by_cases hb:b=a
      · exact .inr (.inl ⟨hb,_,_,if_pos hb⟩)
      · by_cases hb2:b∈ts
        · exact .inr (.inr ⟨hb2,by rw [if_neg hb,if_pos hb2]⟩)
        · exact .inl (by rw [if_neg hb,if_neg hb2])
    · have hb:p≠a:=fun z=>na (z▸hp)
      show (if p=a then _ else if p∈ts then _ else _)=_
      rw [if_neg hb,if_pos hp]
    · by_cases hb:b=a
      · have z':=(if_pos hb).symm.trans z
        cases z'
        subst hb
        exact ⟨ha,by rw [List.length_map];exact hl,vs,_,rv,ha⟩
      · have z':=(if_neg hb).symm.trans z
        by_cases hb2:b∈ts
        · have z'':=(if_pos hb2).symm.trans z'
          cases z''
          exact hT b hb2
        · have z'':=(if_neg hb2).symm.trans z'
          cases z''
theorem walk_ofT {l:PySem.W.OpenLaw}{n k:Nat}{q:Program}{loose:List Str}{XP:(Str→Option Value)→Heap→Prop}{YP:World→Heap→Prop}{d:DefRec}{K:Params→PySem.W.Frag}{CX:World→CXT}{sp:World→Sp}{x:Str}{ts:List Addr}
    (hn:l.most=some n) (hn2:n≤sizeLine) (hdf:d.params.defaults=[]) (hr:Room k callerA)
    (hY:∀ (w:World) (h:Heap),YP w h→(K w.params).In h) (hYT:∀ (w:World) (h:Heap),YP w h→∀ p∈ts,h.get? p=some (tabObj #[]))
    (F:∀ (w:World) (mg:Str→Option Value) (fa:Addr) (h:Heap),(K w.params).In h→h.Ns mainGlobals mg→mg d.name=some (.ref fa) →
      ∃ fd:FuncData,(∀ (s:Shared) (u:Value),BindsTo s fd ⟨[u],[]⟩ [(x,u)])∧(∀ p∈ts,(K w.params).lookup p=none∧∃ c,codeHdIn (K w.params) c p=true) ∧
        ∀ base:Heap,(K w.params).In base→base.Ns mainGlobals mg→BM mg base→FnOk l.prog w (K w.params) mg base (CX w) k fa fd [x] (sp w))
    (hsp:∀ (w:World) (H:Hp) (a:Addr) (ns:List Int),ns.length≤n→(∀ p∈ts,H p=some (.tbl #[]))→SqL (K w.params) H a (ns.map V.int)→sp w [.ref a] H (fun v _=>v=.bl true) fun _ _ _=>False)
    (hCX:∀ (w:World) (H:Hp) (s:Shared) (e:Value) (s':Shared),CX w [] H s (fun _ _ _=>False) e s'→False) :
    PySem.W.WalkO q loose XP YP l.row.toRowW d [] (fun f vs=>PySem.call f vs):=by
  refine Att.attach_call hn hdf fun w s₀ s₁ mg mb fa o pm cd doc a vs ns G Y ho hd hcd hmg hobj hints hlen hg=>?_
  have KX:=hY w _ Y
  obtain ⟨fd,hb,hTK,hF⟩:=F w mg fa _ KX G.T.g hmg
  exact law_callT KX G.T.g G.T.b G.T.builtins G.T.nolimit hg G.T.bmain (hYT w _ Y) hTK hobj hints (Nat.le_trans hlen hn2) hr hF hb (fun H hO hS=>hsp w H a ns hlen hO hS) fun H e s'=>hCX w H s₁ e s'
structure FunC (K:PySem.W.Frag) (x qual:Str) (st:Stmt) (f:Addr) (fd:FuncData) (c P:Addr):Prop where
  ex:∃ (oc:Value) (od:Option Addr) (kV doc pm:Value) (an:Option Addr) (ct:Value) (osl:Array (Option Value)),
    fd=PySem.W.fnOf x qual (defArgs st) (defBody st) (defScope st) .none kV doc pm an (.ref c) ct∧K.lookup f=some ⟨oc,od,.func fd,osl⟩∧PySem.W.codeIn K (.ref c) qual=true
  hd:codeHdIn K c P=true
theorem funC_mk {K:PySem.W.Frag}{x qual:Str}{st:Stmt}{f:Addr}{oc:Value}{od an:Option Addr}{osl:Array (Option Value)}{kV doc pm cdv ct:Value}{c P:Addr}(l:K.lookup f=some ⟨oc,od,.func (PySem.W.fnOf x qual (defArgs st) (defBody st) (defScope st) .none kV doc pm an cdv ct),osl⟩)
    (hc:PySem.W.codeIn K cdv qual=true) (e:cdv=.ref c) (h:codeHdIn K c P=true):FunC K x qual st f (PySem.W.fnOf x qual (defArgs st) (defBody st) (defScope st) .none kV doc pm an cdv ct) c P:=by
  subst e
  exact ⟨⟨oc,od,kV,doc,pm,an,ct,osl,rfl,l,hc⟩,h⟩
section
variable {P:Program}{w:World}{K:PySem.W.Frag}{mg:Str→Option Value}{base:Heap}
theorem FunC.ok {x qual:Str}{st:Stmt}{f:Addr}{fd:FuncData}{c Pt:Addr}{N ps:List Str}{k:Nat}{sp:Sp}(F:FunC K x qual st f fd c Pt) (S:FnScope N ps (defScope st)) (len:∀ vs H Q E,sp vs H Q E→vs.length=ps.length)
    (hbody:∀ (A:Around) (outer:List Env) (s:Shared) (H:Hp) (vs:List V) (Q:VK) (E:XK),Room k (A.deeper (envOfC qual (defScope st) s.heap.objs.size f (.ref c)))→sp vs H Q E →
      ∃ t,PSs (cxOf CX0 P w K mg base N qual (defScope st) f (.ref c) A outer s H E).nox (defBody st) t∧t { nx:=fun _ H'=>Q .non H',rt:=Q } (start N vs) H):FnOk P w K mg base CX0 (k + 1) f fd ps sp:=by
  obtain ⟨oc,od,kV,doc,pm,an,ct,osl,rfl,lk,hcd⟩:=F.ex
  refine fn_of lk hcd S len fun A outer s H vs Q E hr hsp=>?_
  obtain ⟨t,h,q⟩:=hbody A outer s H vs Q E hr hsp
  exact ⟨t,h.nox,q⟩
end
end L2
namespace L2
open PySem PySem.Spec PyProof.Rows PySem.W
section
variable {α β:Type}{lt:Nat→Nat→Bool}{n:Nat}
end
section
variable (z:Nat→Int)
variable {z}
end
end L2
namespace L2
open PySem PySem.Spec PyProof.Rows PySem.W
section
variable {prog:Program}{w:World}{A:Around}{E:Value→Shared→Prop}{s:Shared}{a:Addr}{vs:List Value}{P:PySem.Fin→Shared→Prop}{n₀:Nat}{J:Shared→Prop}{z:Nat→Int}{κ0:SortKind}
end
section
variable {prog:Program}{w:World}{A:Around}{E:Value→Shared→Prop}{s:Shared}{l:Addr}{vs:List Value}{Q:Value→Shared→Prop}{J:Shared→Prop}{z:Nat→Int}{κ0:SortKind}
end
section
variable {X:Cx}
end
end L2
namespace HT
open PySem PySem.Spec PyProof.Rows
section
variable {prog:Program}{w:World}{A:Around}{E:Value→Shared→Prop}{s:Shared}
theorem getItem_tuple_whole {t sl:Addr}{items:Array Value}{vl vu:Value}{lo hi:Option Int}{Q:Value→Shared→Prop}(ht:IsTup s.heap t items) (hs:s.heap.IsSliceOf sl vl vu .none) (pl:IsPart vl lo) (pu:IsPart vu hi)
    (hw:sIx items.size 0 lo=0∧sIx items.size items.size hi=items.size) (h:Q (.ref t) s):wpAny (model prog w) A (getItem (.ref t) (.ref sl)) Q E s:=by
  obtain ⟨os,hos,hcs,hds⟩:=id hs
  have hTs:s.TypeIs (.ref sl) "slice":=⟨os,hos,hcs⟩
  unfold getItem
  try with_reducible refine wpAny_holding ?_
  first | refine wpAny_bind (wpAny_pure ?_) | skip
  refine wpAny_bind (wpAny_sequenceKey ht.typeIs (by decide) ?_)
  refine wpAny_bind (wpAny_callSpecial?_slot (name:=Str.ofString "__getitem__") ht.typeIs PyProof.Rows.slot_tuple_getitem
    (wpAny_call_entry PyProof.Rows.slot_tuple_getitem ht.typeIs entry_tuple_getitem ?_ (args_tuple_getitem _ _)))
  show wpAny _ _ (Builtin.Tuple.tupleItemsOf (.ref t) >>= _) _ _ s
  refine wpAny_bind (tupleItemsOf_ ht ?_)
  refine wpAny_bind (wpAny_typeOf hTs ?_)
  rw [if_pos (by decide)]
  refine wpAny_bind (sliceApplied_gen hs pl pu ?_)
  have yes:((((sIx items.size 0 lo:Nat):Int) == 0 && (1:Int) == 1 && (sIx items.size items.size hi - sIx items.size 0 lo) == items.size)=true):=by
    rw [hw.1,hw.2]
    simp
  show wpAny _ _ (if (((sIx items.size 0 lo:Nat):Int) == 0 && (1:Int) == 1 && (sIx items.size items.size hi - sIx items.size 0 lo) == items.size)=true then _ else _) _ _ s
  rw [if_pos yes]
  refine wpAny_bind ?_
  unfold Builtin.Tuple.tupleIsExact
  refine wpAny_bind (wpAny_typeOf ht.typeIs (wpAny_pure ?_))
  rw [if_pos (by decide)]
  exact wpAny_bind (wpAny_rule (wpAny_pure ⟨_,rfl,wpAny_pure h⟩))
end
end HT
namespace L2
open PySem PySem.Spec PyProof.Rows PySem.W
def rSlG (K:PySem.W.Frag):V→Option Int→Option Int→Hp→VK→Prop:=fun x lo hi H Q=>∃ a xs,x=.ref a∧SqT K H a xs ∧
  (cutV xs lo hi=xs→Q (.ref a) H)∧∀ p,H p=none→Q (.ref p) (upd H p (.tup (cutV xs lo hi)))
section
variable {X:Cx}{K:PySem.W.Frag}
theorem sl_tupG:SlR X (rSlG X.K):=by
  intro pins s σ H x v vl vu lo hi sl Q I rx hs pl pu h
  obtain ⟨a,xs,rfl,hx,q1,q2⟩:=h
  by_cases hw:HT.sIx xs.length 0 lo=0∧HT.sIx xs.length xs.length hi=xs.length
  · cases rx
    obtain ⟨its,r,ht,hz⟩:=I.tuple hx
    have hlen:its.toArray.size=xs.length:=by rw [List.size_toArray];exact r.length.symm
    refine ⟨"tuple",_,PyProof.Rows.slot_tuple_getitem.lookup,ht.typeIs,?_⟩
    refine HT.getItem_tuple_whole ht hs pl pu (by rw [hlen];exact hw) ⟨.ref a,H,I,rfl,q1 ?_⟩
    unfold cutV
    rw [hw.1,hw.2]
    exact List.take_of_length_le (by simp)
  · exact sl_tup pins s σ H (.ref a) v vl vu lo hi sl Q I rx hs pl pu ⟨a,xs,rfl,hx,hw,q2⟩
end
def rSlW (K:PySem.W.Frag):V→Option Int→Option Int→Hp→VK→Prop:=fun x lo hi H Q=>∃ a xs,x=.ref a∧SqT K H a xs∧∀ (t:Addr) (H':Hp),Same H H'→SqT K H' t (cutV xs lo hi)→Q (.ref t) H'
theorem sl_tupW {X:Cx}{K:PySem.W.Frag}(h:X.K=K):SlR X (rSlW K):=by
  subst h
  intro pins s σ H x v vl vu lo hi sl Q I rx hs pl pu ⟨a,xs,ex,hx,q⟩
  exact sl_tupG pins s σ H x v vl vu lo hi sl Q I rx hs pl pu ⟨a,xs,ex,hx,fun e=>q a H (Same.refl _) (by rw [e];exact hx),fun p fp=>q p _ (Same.upd0 fp) (SqT.of upd_same)⟩
theorem Same.seqT {K:PySem.W.Frag}{H H':Hp}{a:Addr}{xs:List V}(e:Same H H') (h:SqT K H a xs):SqT K H' a xs:=by
  rcases h with h | h
  · first | exact .inl (e _ _ h) | (rcases h with h | ⟨o,h⟩;exact .inl (.inl (e _ _ h));exact .inl (.inr ⟨o,e _ _ h⟩))
  · exact .inr h
end L2
namespace L2
open PySem PySem.Spec PyProof.Rows PySem.W
section
variable {prog:Program}{w:World}{A:Around}{E:Value→Shared→Prop}{s:Shared}
theorem ss_set {l sl m:Addr}{xs ys:Array Value}{n:Nat}{vl vu:Value}{lo hi:Option Int}{Q:Unit→Shared→Prop}(ho:s.heap.get? l=some (listOf xs n)) (hm:s.heap.IsList m ys) (ne:l≠m) (hs:s.heap.IsSliceOf sl vl vu .none) (pl:IsPart vl lo) (pu:IsPart vu hi) (hz:xs.size + ys.size≤sizeLine)
    (h:Q () { s with heap:=s.heap.update l (Obj.mapSeq fun z=>z.extract 0 (sliceBounds lo hi none xs.size).1.toNat ++ ys ++ z.extract (max (sliceBounds lo hi none xs.size).1 (sliceBounds lo hi none xs.size).2.1).toNat z.size) }):wpAny (model prog w) A (setItem (.ref l) (.ref sl) (.ref m)) Q E s:=by
  have hl:s.heap.IsList l xs:=PySem.IsL.isList (n:=n) ho
  obtain ⟨os,hos,hcs,hds⟩:=id hs
  obtain ⟨om,hom,hcm,nem,hdm⟩:=id hm
  have hTs:s.TypeIs (.ref sl) "slice":=⟨os,hos,hcs⟩
  unfold setItem
  try with_reducible refine wpAny_holding ?_
  refine wpAny_bind (wpAny_sequenceKey hl.typeIs (by decide) ?_)
  refine wpAny_bind (wpAny_callSpecial?_slot (name:=Str.ofString "__setitem__") hl.typeIs slot_list_setitem (wpAny_call_entry slot_list_setitem hl.typeIs entry_list_setitem ?_ (args_list_setitem _ _ _)))
  show wpAny _ _ (Builtin.List.listSubscript? (.ref sl) >>= _) _ _ s
  refine wpAny_bind ?_;unfold Builtin.List.listSubscript?
  refine wpAny_bind (wpAny_specialOf hTs slice_no_index ?_);simp only [Option.isNone_none,if_true]
  refine wpAny_pure ?_;show wpAny _ _ (typeOf (.ref sl) >>= _) _ _ s
  refine wpAny_bind (wpAny_typeOf hTs ?_);rw [if_neg (by decide),listSliceParts_eq]
  refine wpAny_bind (wpAny_bind (wpAny_field hos hds (x:=.none) rfl (wpAny_bind (wpAny_listPart .none ?_))));rw [if_neg (by decide)]
  refine wpAny_bind (wpAny_field hos hds (x:=vl) rfl (wpAny_bind (wpAny_listPart pl (wpAny_bind (wpAny_field hos hds (x:=vu) rfl (wpAny_bind (wpAny_listPart pu (wpAny_pure ?_))))))))
  have same:Builtin.List.listSameRef (.ref l) (.ref m)=false:=by simp [Builtin.List.listSameRef,ne]
  simp only [same,Bool.false_eq_true,if_false]
  refine wpAny_bind ?_;unfold Builtin.List.listAllItems
  refine wpAny_bind (wpAny_typeOf hm.typeIs ?_);rw [if_pos (by decide)]
  refine listItems_at hom hdm ?_
  refine wpAny_bind (listItems_at ho rfl ?_)
  refine wpAny_bind (wpAny_of_eq (sliceIndices_raw lo hi none xs.size (by simp)) ?_)
  have s1:(sliceBounds lo hi none xs.size).2.2=1:=rfl
  rw [s1,if_pos (by decide)]
  refine wpAny_bind (wpAny_rule ?_);rw [if_neg (by unfold Builtin.List.listTooLong;simpa using hz)]
  refine wpAny_bind (listUpdate_at ho rfl ?_ (by omega) ?_)
  · exact wpAny_bind (wpAny_letGo (wpAny_pure ⟨_,rfl,wpAny_pure h⟩))
  · obtain ⟨b1,b2,_⟩:=slice_bounds lo hi xs.size
    show (xs.extract 0 (sliceBounds lo hi none xs.size).1.toNat ++ ys ++ xs.extract (max (sliceBounds lo hi none xs.size).1 (sliceBounds lo hi none xs.size).2.1).toNat xs.size).size≤_
    rw [b1,b2]
    simp only [Array.size_append,Array.size_extract]
    omega
end
section
variable {X:Cx}
def rSetS (K:PySem.W.Frag):V→Option Int→Option Int→V→Hp→(Hp→Prop)→Prop:=fun o lo hi v H Q=>∃ (p q:Addr) (xs ys:List V),o=.ref p∧v=.ref q∧H p=some (.lst xs)∧SqL K H q ys∧p≠q∧xs.length + ys.length≤sizeLine ∧
  Q (upd H p (.lst (xs.take (HT.sIx xs.length 0 lo) ++ ys ++ xs.drop (max (HT.sIx xs.length 0 lo) (HT.sIx xs.length xs.length hi)))))
def gSubS (K:PySem.W.Frag) (to:TE) (tl th:TO):TG:=fun v σ H Q=>to σ H fun o H1=>tl σ H1 fun l H2=>th σ H2 fun u H3=>rSetS K o l u v H3 fun H4=>Q σ H4
theorem pg_subS {o:Expr}{lo hi:Option Expr}{to:TE}{tl th:TO}{p2 pos:Pos}(ho:PE X o to) (hl:PO X lo tl) (hu:PO X hi th):PG X (.Subscript o (.Slice lo hi none p2) pos) (gSubS X.K to tl th):=by
  intro pins s σ H v u Q I r h
  have ha:assign (.Subscript o (.Slice lo hi none p2) pos) X.env u=(do
      let ov ← holding [u] (eval o X.env)
      let iv ← holding [u,ov] (eval (.Slice lo hi none p2) X.env)
      standAt pos
      holding [u,ov,iv] (setItem ov iv u)
      release [iv,u,ov] []):=rfl
  rw [ha]
  refine wpAny_bind (wpAny_holding (thn (ho pins s σ H _ I h) fun ov s1 ⟨x,H1,I1,r1,q1⟩=>?_))
  refine wpAny_bind (wpAny_holding (wpAny_Slice (thn (hl pins s1 σ H1 _ I1 q1) fun vl s2 ⟨l,H2,I2,pl,q2⟩=>thn (hu pins s2 σ H2 _ I2 q2) fun vu s3 ⟨uu,H3,I3,pu,q3⟩=>?_)))
  rw [evalPart_none]
  refine wpAny_pure ?_
  have I4:Inv X pins σ H3 { s3 with heap:=s3.heap.push { cls:=.type "slice",data:=.fields #[vl,vu,.none] } }:=I3.kept (t':=s3.toks) fun b ob q=>Heap.get?_push_of_some _ q
  obtain ⟨p,q,xs,ys,rfl,rfl,hp,hq,ne,hz,k⟩:=q3
  cases r1
  cases r
  obtain ⟨its,n,rv,hp',hz1⟩:=I4.lst hp
  obtain ⟨its2,rv2,pl2,hz2⟩:=I4.list hq
  have l1:=rv.length
  have l2:=rv2.length
  refine wpAny_bind (wpAny_standAt (wpAny_bind (wpAny_holding ?_)))
  refine ss_set hp' pl2.isList ne (Heap.IsSliceOf.new ..) pl pu (by rw [List.size_toArray,List.size_toArray];omega) (wpAny_release ⟨σ,_,?_,k⟩)
  obtain ⟨b1,b2,_⟩:=slice_bounds l uu its.toArray.size
  rw [b1,b2,List.size_toArray,← l1]
  have mx:(max ((HT.sIx xs.length 0 l:Nat):Int) ((HT.sIx xs.length xs.length uu:Nat):Int)).toNat=max (HT.sIx xs.length 0 l) (HT.sIx xs.length xs.length uu):=by omega
  rw [mx,Int.toNat_natCast]
  have sp:=splice_eq its its2 (HT.sIx xs.length 0 l) (max (HT.sIx xs.length 0 l) (HT.sIx xs.length xs.length uu))
  refine I4.lstUpd (its':=its.take (HT.sIx xs.length 0 l) ++ its2 ++ its.drop (max (HT.sIx xs.length 0 l) (HT.sIx xs.length xs.length uu))) (n':=if ((its.take (HT.sIx xs.length 0 l) ++ its2 ++ its.drop (max (HT.sIx xs.length 0 l) (HT.sIx xs.length xs.length uu))).toArray.size == its.toArray.size) then n else n + 1) hp hp' ?_ (Vals.append (Vals.append (rv.take _) rv2) (rv.drop _)) ?_ _
  · rw [← sp]
    rfl
  · rw [List.length_append,List.length_append,List.length_take,List.length_drop]
    omega
end
end L2
namespace L2
open PySem PySem.Spec PyProof.Rows
def rangeO (a:Addr) (n:Int):HO:=.ext fun h=>∃ t u v,IsRange h a 0 n 1 t u v
section
variable {X:Cx}
theorem call_rangeO:CallR X (.type "range") (fun xs H Q=>∃ j:Int,xs=[.int j]∧∀ a,H a=none→Q (.ref a) (upd H a (rangeO a j))):=by
  intro pins s σ H xs us Q I r h
  obtain ⟨j,rfl,q⟩:=h
  obtain ⟨u,rfl,t,rfl⟩:=vals1 r
  refine call_range_1 ?_
  have hf:H s.heap.objs.size=none:=I.hok.fresh (Nat.le_refl _)
  refine ⟨.ref s.heap.objs.size,_,I.laid (fun b u e=>Heap.get?_push_of_some _ e) (Nat.le_refl _) ?_,rfl,q _ hf⟩
  exact ⟨⟨_,_,_,IsRange.new ..⟩,⟨_,Heap.get?_push_size _ rfl⟩,fun h1 h2 ⟨t,u,v,e⟩ kk=>⟨t,u,v,kk _ e⟩⟩
theorem vals_get:∀ {xs:List V}{us:List Value},xs.length=us.length→(∀ (i:Nat) x u,xs[i]?=some x→us[i]?=some u→RelV x u)→Vals xs us
  | [],[],_,_=>.nil
  | x :: xs,u :: us,hl,h=>.cons (h 0 x u rfl rfl) (vals_get (by simpa using hl) fun i y v e1 e2=>h (i + 1) y v (by simpa using e1) (by simpa using e2))
theorem call_listRange (hc:X.calm=true):CallR X (.type "list") (fun xs H Q=>∃ (p:Addr) (n:Nat),xs=[.ref p]∧H p=some (rangeO p n)∧n≤1000∧∀ l,H l=none→Q (.ref l) (upd H l (.lst ((List.range n).map fun (i:Nat)=>V.int i)))):=by
  intro pins s σ H xs us Q I r h
  obtain ⟨p,n,rfl,hp,hn,q⟩:=h
  obtain ⟨u,rfl,rx⟩:=vals1 r
  cases rx
  obtain ⟨⟨t,u,v,hr⟩,_⟩:=I.hok p _ hp
  have hf:H s.heap.objs.size=none:=I.hok.fresh (Nat.le_refl _)
  refine call_list_range (n:=n) (I.ok.hd hc) hr (small_one (by decide) (by decide) (by omega) (by omega)) (by rw [rangeSize_one];split<;>omega) (by omega) fun h' tk acc' c' hk hS' hacc=>?_
  refine ⟨.ref s.heap.objs.size,_,I.laid (t':=tk) hk (Nat.le_refl _) (show ObjOk X.prog X.w _ h' _ (.lst ((List.range n).map fun (i:Nat)=>V.int i)) from ⟨by rw [List.length_map,List.length_range];exact small_len hn,acc'.toList,c',?_,by simpa using hS'⟩),rfl,q _ hf⟩
  refine vals_get (by rw [List.length_map,List.length_range,Array.length_toList];exact hacc.1.symm) fun i x u e1 e2=>?_
  have hi:i < n:=by have:=(List.getElem?_eq_some_iff.mp e1).1;rw [List.length_map,List.length_range] at this;exact this
  rw [List.getElem?_map,List.getElem?_range hi] at e1
  cases e1
  obtain ⟨tk',rfl⟩:=hacc.2 i u (by simpa using e2)
  exact ⟨tk',by simp⟩
end
end L2
namespace K62
open PySem L2 PyProof.Rows PySem.W
def top (i:Nat):Stmt:=PySem.Challenge.pw_volumemend_k62_files_read.main.body.getD i (.Pass ⟨0,0,0,0⟩)
abbrev s_many_slots:Stmt:=top 14
abbrev s_slot_at:Stmt:=top 15
abbrev s_slot:Stmt:=top 16
abbrev s_used_slots:Stmt:=top 17
abbrev s_slot_of:Stmt:=top 18
abbrev s_Layout_init:Stmt:=inClass (top 22) 0
abbrev s_Layout_record_at:Stmt:=inClass (top 22) 2
abbrev s_Layout_names_at:Stmt:=inClass (top 22) 3
abbrev s_Record_init:Stmt:=inClass (top 33) 0
abbrev s_Record_wants:Stmt:=inClass (top 33) 1
abbrev s_Record_keeps:Stmt:=inClass (top 33) 2
abbrev s_FileRecord_wants:Stmt:=inClass (top 34) 0
abbrev s_FileRecord_keeps:Stmt:=inClass (top 34) 1
abbrev s_record_of:Stmt:=top 37
abbrev s_record_in:Stmt:=top 38
abbrev s_blocks_of:Stmt:=top 40
abbrev s_contents:Stmt:=top 41
abbrev s_is_found:Stmt:=top 45
abbrev s_is_file:Stmt:=top 46
abbrev s_record_behind:Stmt:=top 47
abbrev s_find_path:Stmt:=top 48
abbrev s_find_file:Stmt:=top 49
abbrev s_read:Stmt:=top 50
abbrev s_l_cell:Stmt:=top 52
abbrev s_l_mixed:Stmt:=top 53
abbrev s_l_layout:Stmt:=top 54
abbrev s_l_kinds:Stmt:=top 55
abbrev s_l_stands:Stmt:=top 56
abbrev s_l_new_name:Stmt:=top 57
abbrev s_l_slots:Stmt:=top 58
abbrev s_l_check:Stmt:=top 59
abbrev s_l_take:Stmt:=top 60
abbrev s_l_pieces:Stmt:=top 61
abbrev s_l_size:Stmt:=top 62
abbrev s_l_records:Stmt:=top 63
abbrev s_l_sound:Stmt:=top 64
abbrev s_l_contents:Stmt:=top 65
abbrev s_l_path:Stmt:=top 66
abbrev s_l_refusal:Stmt:=top 67
abbrev s_l_refused:Stmt:=top 68
abbrev s_l_part:Stmt:=top 69
abbrev s_l_file:Stmt:=top 70
abbrev s_law:Stmt:=top 71
theorem sc_many_slots:FnScope ["layout"] ["layout"] (defScope s_many_slots):=⟨rfl,rfl,rfl,by decide +kernel,rfl,by decide +kernel,by decide +kernel⟩
theorem sc_slot_at:FnScope ["layout","s"] ["layout","s"] (defScope s_slot_at):=⟨rfl,rfl,rfl,by decide +kernel,rfl,by decide +kernel,by decide +kernel⟩
theorem sc_slot:FnScope ["layout","volume","s","at"] ["layout","volume","s"] (defScope s_slot):=⟨rfl,rfl,rfl,by decide +kernel,rfl,by decide +kernel,by decide +kernel⟩
theorem sc_used_slots:FnScope ["layout","volume","told","s","numbers"] ["layout","volume"] (defScope s_used_slots):=⟨rfl,rfl,rfl,by decide +kernel,rfl,by decide +kernel,by decide +kernel⟩
theorem sc_slot_of:FnScope ["layout","volume","folder","name","s","numbers"] ["layout","volume","folder","name"] (defScope s_slot_of):=⟨rfl,rfl,rfl,by decide +kernel,rfl,by decide +kernel,by decide +kernel⟩
theorem sc_Layout_init:FnScope ["self","files","slots","data"] ["self","files","slots","data"] (defScope s_Layout_init):=⟨rfl,rfl,rfl,by decide +kernel,rfl,by decide +kernel,by decide +kernel⟩
theorem sc_Layout_record_at:FnScope ["self","f"] ["self","f"] (defScope s_Layout_record_at):=⟨rfl,rfl,rfl,by decide +kernel,rfl,by decide +kernel,by decide +kernel⟩
theorem sc_Layout_names_at:FnScope ["self","e"] ["self","e"] (defScope s_Layout_names_at):=⟨rfl,rfl,rfl,by decide +kernel,rfl,by decide +kernel,by decide +kernel⟩
theorem sc_Record_init:FnScope ["self","row"] ["self","row"] (defScope s_Record_init):=⟨rfl,rfl,rfl,by decide +kernel,rfl,by decide +kernel,by decide +kernel⟩
theorem sc_FileRecord_wants:FnScope ["self"] ["self"] (defScope s_FileRecord_wants):=⟨rfl,rfl,rfl,by decide +kernel,rfl,by decide +kernel,by decide +kernel⟩
theorem sc_FileRecord_keeps:FnScope ["self","k"] ["self","k"] (defScope s_FileRecord_keeps):=⟨rfl,rfl,rfl,by decide +kernel,rfl,by decide +kernel,by decide +kernel⟩
theorem sc_record_of:FnScope ["row"] ["row"] (defScope s_record_of):=⟨rfl,rfl,rfl,by decide +kernel,rfl,by decide +kernel,by decide +kernel⟩
theorem sc_record_in:FnScope ["layout","volume","f","row"] ["layout","volume","f"] (defScope s_record_in):=⟨rfl,rfl,rfl,by decide +kernel,rfl,by decide +kernel,by decide +kernel⟩
theorem sc_blocks_of:FnScope ["volume","record","behind"] ["volume","record"] (defScope s_blocks_of):=⟨rfl,rfl,rfl,by decide +kernel,rfl,by decide +kernel,by decide +kernel⟩
theorem sc_contents:FnScope ["layout","volume","f","record","told","block"] ["layout","volume","f"] (defScope s_contents):=⟨rfl,rfl,rfl,by decide +kernel,rfl,by decide +kernel,by decide +kernel⟩
theorem sc_is_found:FnScope ["layout","volume","f","record"] ["layout","volume","f"] (defScope s_is_found):=⟨rfl,rfl,rfl,by decide +kernel,rfl,by decide +kernel,by decide +kernel⟩
theorem sc_is_file:FnScope ["layout","volume","f"] ["layout","volume","f"] (defScope s_is_file):=⟨rfl,rfl,rfl,by decide +kernel,rfl,by decide +kernel,by decide +kernel⟩
theorem sc_record_behind:FnScope ["layout","volume","start","names","f","name","s"] ["layout","volume","start","names"] (defScope s_record_behind):=⟨rfl,rfl,rfl,by decide +kernel,rfl,by decide +kernel,by decide +kernel⟩
theorem sc_find_path:FnScope ["layout","volume","path"] ["layout","volume","path"] (defScope s_find_path):=⟨rfl,rfl,rfl,by decide +kernel,rfl,by decide +kernel,by decide +kernel⟩
theorem sc_find_file:FnScope ["layout","volume","path","f"] ["layout","volume","path"] (defScope s_find_file):=⟨rfl,rfl,rfl,by decide +kernel,rfl,by decide +kernel,by decide +kernel⟩
theorem sc_read:FnScope ["layout","volume","path","at","many","f","left"] ["layout","volume","path","at","many"] (defScope s_read):=⟨rfl,rfl,rfl,by decide +kernel,rfl,by decide +kernel,by decide +kernel⟩
theorem sc_l_cell:FnScope ["_law_script","_law_k"] ["_law_script","_law_k"] (defScope s_l_cell):=⟨rfl,rfl,rfl,by decide +kernel,rfl,by decide +kernel,by decide +kernel⟩
theorem sc_l_mixed:FnScope ["_law_cell_here","_law_k","_law_number"] ["_law_cell_here","_law_k"] (defScope s_l_mixed):=⟨rfl,rfl,rfl,by decide +kernel,rfl,by decide +kernel,by decide +kernel⟩
theorem sc_l_layout:FnScope ["_law_script","_law_files","_law_slots_here","_law_data"] ["_law_script"] (defScope s_l_layout):=⟨rfl,rfl,rfl,by decide +kernel,rfl,by decide +kernel,by decide +kernel⟩
theorem sc_l_kinds:FnScope ["_law_cell_here","_law_files"] ["_law_cell_here","_law_files"] (defScope s_l_kinds):=⟨rfl,rfl,rfl,by decide +kernel,rfl,by decide +kernel,by decide +kernel⟩
theorem sc_l_stands:FnScope ["_law_slots_here","_law_folder","_law_name"] ["_law_slots_here","_law_folder","_law_name"] (defScope s_l_stands):=⟨rfl,rfl,rfl,by decide +kernel,rfl,by decide +kernel,by decide +kernel⟩
theorem sc_l_new_name:FnScope ["_law_cell_here","_law_k","_law_slots_here","_law_folder","_law_name"] ["_law_cell_here","_law_k","_law_slots_here","_law_folder"] (defScope s_l_new_name):=⟨rfl,rfl,rfl,by decide +kernel,rfl,by decide +kernel,by decide +kernel⟩
theorem sc_l_slots:FnScope ["_law_cell_here","_law_kinds_here","_law_most","_law_slots_here","_law_folders","_law_order","_law_f","_law_folder"] ["_law_cell_here","_law_kinds_here","_law_most"] (defScope s_l_slots):=⟨rfl,rfl,rfl,by decide +kernel,rfl,by decide +kernel,by decide +kernel⟩
theorem sc_l_check:FnScope ["_law_numbers"] ["_law_numbers"] (defScope s_l_check):=⟨rfl,rfl,rfl,by decide +kernel,rfl,by decide +kernel,by decide +kernel⟩
theorem sc_l_take:FnScope ["_law_cell_here","_law_k","_law_wanted","_law_free"] ["_law_cell_here","_law_k","_law_wanted","_law_free"] (defScope s_l_take):=⟨rfl,rfl,rfl,by decide +kernel,rfl,by decide +kernel,by decide +kernel⟩
theorem sc_l_pieces:FnScope ["_law_cell_here","_law_f","_law_size_here","_law_volume","_law_free","_law_found","_law_more"] ["_law_cell_here","_law_f","_law_size_here","_law_volume","_law_free"] (defScope s_l_pieces):=⟨rfl,rfl,rfl,by decide +kernel,rfl,by decide +kernel,by decide +kernel⟩
theorem sc_l_size:FnScope ["_law_cell_here","_law_f","_law_some"] ["_law_cell_here","_law_f"] (defScope s_l_size):=⟨rfl,rfl,rfl,by decide +kernel,rfl,by decide +kernel,by decide +kernel⟩
theorem sc_l_records:FnScope ["_law_cell_here","_law_kinds_here","_law_slots_here","_law_volume","_law_free","_law_f","_law_row","_law_names"] ["_law_cell_here","_law_kinds_here","_law_slots_here","_law_volume","_law_free"] (defScope s_l_records):=⟨rfl,rfl,rfl,by decide +kernel,rfl,by decide +kernel,by decide +kernel⟩
theorem sc_l_sound:FnScope ["_law_layout_here","_law_cell_here","_law_many","_law_first","_law_volume","_law_block","_law_kinds_here","_law_slots_here","_law_free","_law_head","_law_bits","_law_k","_law_i","_law_spots","_law_s","_law_one"] ["_law_layout_here","_law_cell_here"] (defScope s_l_sound):=⟨rfl,rfl,rfl,by decide +kernel,rfl,by decide +kernel,by decide +kernel⟩
theorem sc_l_contents:FnScope ["_law_layout_here","_law_volume","_law_f","_law_row","_law_blocks","_law_found","_law_block"] ["_law_layout_here","_law_volume","_law_f"] (defScope s_l_contents):=⟨rfl,rfl,rfl,by decide +kernel,rfl,by decide +kernel,by decide +kernel⟩
theorem sc_l_path:FnScope ["_law_slots_here","_law_f","_law_cell_here","_law_names","_law_turn","_law_own","_law_one"] ["_law_slots_here","_law_f","_law_cell_here"] (defScope s_l_path):=⟨rfl,rfl,rfl,by decide +kernel,rfl,by decide +kernel,by decide +kernel⟩
theorem sc_l_refusal:FnScope ["_law_e","_law_words"] ["_law_e"] (defScope s_l_refusal):=⟨rfl,rfl,rfl,by decide +kernel,rfl,by decide +kernel,by decide +kernel⟩
theorem sc_l_refused:FnScope ["_law_layout_here","_law_volume","_law_path_here","_law_at","_law_many","_law_e"] ["_law_layout_here","_law_volume","_law_path_here","_law_at","_law_many"] (defScope s_l_refused):=⟨rfl,rfl,rfl,by decide +kernel,rfl,by decide +kernel,by decide +kernel⟩
theorem sc_l_part:FnScope ["_law_layout_here","_law_volume","_law_path_here","_law_due","_law_cell_here","_law_at","_law_many","_law_end","_law_found"] ["_law_layout_here","_law_volume","_law_path_here","_law_due","_law_cell_here"] (defScope s_l_part):=⟨rfl,rfl,rfl,by decide +kernel,rfl,by decide +kernel,by decide +kernel⟩
theorem sc_l_file:FnScope ["_law_layout_here","_law_volume","_law_path_here","_law_due","_law_cell_here","_law_found","_law_k"] ["_law_layout_here","_law_volume","_law_path_here","_law_due","_law_cell_here"] (defScope s_l_file):=⟨rfl,rfl,rfl,by decide +kernel,rfl,by decide +kernel,by decide +kernel⟩
theorem sc_law:FnScope ["_law_script","_law_layout_here","_law_volume","_law_kinds_here","_law_slots_here","_law_handed","_law_f","_law_cell_here","_law_path_here","_law_at"] ["_law_script"] (defScope s_law):=⟨rfl,rfl,rfl,by decide +kernel,rfl,by decide +kernel,by decide +kernel⟩
set_option genInjectivity false in
set_option genSizeOfSpec false in
structure Tx (K:PySem.W.Frag) (mg:Str→Option Value) where
  C_Layout:Addr
  cl_Layout:Cls K C_Layout
  g_Layout:mg "Layout"=some (.ref C_Layout)
  n_Layout_files:NoAttr K C_Layout "files"
  n_Layout_slots:NoAttr K C_Layout "slots"
  n_Layout_data:NoAttr K C_Layout "data"
  C_Record:Addr
  cl_Record:Cls K C_Record
  g_Record:mg "Record"=some (.ref C_Record)
  C_FileRecord:Addr
  cl_FileRecord:Cls K C_FileRecord
  g_FileRecord:mg "FileRecord"=some (.ref C_FileRecord)
  n_FileRecord_kind:NoAttr K C_FileRecord "kind"
  n_FileRecord_size:NoAttr K C_FileRecord "size"
  n_FileRecord_names:NoAttr K C_FileRecord "names"
  n_FileRecord_found:NoAttr K C_FileRecord "found"
  n_FileRecord_first:NoAttr K C_FileRecord "first"
  n_FileRecord_more:NoAttr K C_FileRecord "more"
  C_FolderRecord:Addr
  cl_FolderRecord:Cls K C_FolderRecord
  g_FolderRecord:mg "FolderRecord"=some (.ref C_FolderRecord)
  n_FolderRecord_kind:NoAttr K C_FolderRecord "kind"
  n_FolderRecord_size:NoAttr K C_FolderRecord "size"
  n_FolderRecord_names:NoAttr K C_FolderRecord "names"
  n_FolderRecord_found:NoAttr K C_FolderRecord "found"
  n_FolderRecord_first:NoAttr K C_FolderRecord "first"
  n_FolderRecord_more:NoAttr K C_FolderRecord "more"
  C_FreeRecord:Addr
  cl_FreeRecord:Cls K C_FreeRecord
  g_FreeRecord:mg "FreeRecord"=some (.ref C_FreeRecord)
  n_FreeRecord_kind:NoAttr K C_FreeRecord "kind"
  n_FreeRecord_size:NoAttr K C_FreeRecord "size"
  n_FreeRecord_names:NoAttr K C_FreeRecord "names"
  n_FreeRecord_found:NoAttr K C_FreeRecord "found"
  n_FreeRecord_first:NoAttr K C_FreeRecord "first"
  n_FreeRecord_more:NoAttr K C_FreeRecord "more"
  C_NoLayout:Addr
  g_NoLayout:mg "NoLayout"=some (.ref C_NoLayout)
  C_VolumeError:Addr
  g_VolumeError:mg "VolumeError"=some (.ref C_VolumeError)
  C_BadNumber:Addr
  g_BadNumber:mg "BadNumber"=some (.ref C_BadNumber)
  C_NoPath:Addr
  g_NoPath:mg "NoPath"=some (.ref C_NoPath)
  C_NotFile:Addr
  g_NotFile:mg "NotFile"=some (.ref C_NotFile)
  C_NotFolder:Addr
  g_NotFolder:mg "NotFolder"=some (.ref C_NotFolder)
  C_TooFar:Addr
  g_TooFar:mg "TooFar"=some (.ref C_TooFar)
  C_Full:Addr
  g_Full:mg "Full"=some (.ref C_Full)
  f_many_slots:Addr
  fd_many_slots:FuncData
  F_many_slots:Fun K "many_slots" "many_slots" s_many_slots f_many_slots fd_many_slots
  b_many_slots:Binds K fd_many_slots ["layout"] []
  g_many_slots:mg "many_slots"=some (.ref f_many_slots)
  f_slot_at:Addr
  fd_slot_at:FuncData
  F_slot_at:Fun K "slot_at" "slot_at" s_slot_at f_slot_at fd_slot_at
  b_slot_at:Binds K fd_slot_at ["layout","s"] []
  g_slot_at:mg "slot_at"=some (.ref f_slot_at)
  f_slot:Addr
  fd_slot:FuncData
  F_slot:Fun K "slot" "slot" s_slot f_slot fd_slot
  b_slot:Binds K fd_slot ["layout","volume","s"] []
  g_slot:mg "slot"=some (.ref f_slot)
  f_used_slots:Addr
  fd_used_slots:FuncData
  F_used_slots:Fun K "used_slots" "used_slots" s_used_slots f_used_slots fd_used_slots
  b_used_slots:Binds K fd_used_slots ["layout","volume"] []
  g_used_slots:mg "used_slots"=some (.ref f_used_slots)
  f_slot_of:Addr
  fd_slot_of:FuncData
  F_slot_of:Fun K "slot_of" "slot_of" s_slot_of f_slot_of fd_slot_of
  b_slot_of:Binds K fd_slot_of ["layout","volume","folder","name"] []
  g_slot_of:mg "slot_of"=some (.ref f_slot_of)
  f_Layout_init:Addr
  fd_Layout_init:FuncData
  F_Layout_init:Fun K "__init__" "Layout.__init__" s_Layout_init f_Layout_init fd_Layout_init
  b_Layout_init:Binds K fd_Layout_init ["self","files","slots","data"] []
  mk_Layout:Mk K C_Layout f_Layout_init
  f_Layout_record_at:Addr
  fd_Layout_record_at:FuncData
  F_Layout_record_at:Fun K "record_at" "Layout.record_at" s_Layout_record_at f_Layout_record_at fd_Layout_record_at
  b_Layout_record_at:Binds K fd_Layout_record_at ["self","f"] []
  m_Layout_record_at:Meth K C_Layout "record_at" f_Layout_record_at
  f_Layout_names_at:Addr
  fd_Layout_names_at:FuncData
  F_Layout_names_at:Fun K "names_at" "Layout.names_at" s_Layout_names_at f_Layout_names_at fd_Layout_names_at
  b_Layout_names_at:Binds K fd_Layout_names_at ["self","e"] []
  m_Layout_names_at:Meth K C_Layout "names_at" f_Layout_names_at
  f_Record_init:Addr
  fd_Record_init:FuncData
  F_Record_init:Fun K "__init__" "Record.__init__" s_Record_init f_Record_init fd_Record_init
  b_Record_init:Binds K fd_Record_init ["self","row"] []
  mk_Record:Mk K C_Record f_Record_init
  f_Record_wants:Addr
  fd_Record_wants:FuncData
  F_Record_wants:Fun K "wants" "Record.wants" s_Record_wants f_Record_wants fd_Record_wants
  b_Record_wants:Binds K fd_Record_wants ["self"] []
  m_Record_wants:Meth K C_Record "wants" f_Record_wants
  f_Record_keeps:Addr
  fd_Record_keeps:FuncData
  F_Record_keeps:Fun K "keeps" "Record.keeps" s_Record_keeps f_Record_keeps fd_Record_keeps
  b_Record_keeps:Binds K fd_Record_keeps ["self","k"] []
  m_Record_keeps:Meth K C_Record "keeps" f_Record_keeps
  f_FileRecord_wants:Addr
  fd_FileRecord_wants:FuncData
  F_FileRecord_wants:Fun K "wants" "FileRecord.wants" s_FileRecord_wants f_FileRecord_wants fd_FileRecord_wants
  b_FileRecord_wants:Binds K fd_FileRecord_wants ["self"] []
  m_FileRecord_wants:Meth K C_FileRecord "wants" f_FileRecord_wants
  f_FileRecord_keeps:Addr
  fd_FileRecord_keeps:FuncData
  F_FileRecord_keeps:Fun K "keeps" "FileRecord.keeps" s_FileRecord_keeps f_FileRecord_keeps fd_FileRecord_keeps
  b_FileRecord_keeps:Binds K fd_FileRecord_keeps ["self","k"] []
  m_FileRecord_keeps:Meth K C_FileRecord "keeps" f_FileRecord_keeps
  f_record_of:Addr
  fd_record_of:FuncData
  F_record_of:Fun K "record_of" "record_of" s_record_of f_record_of fd_record_of
  b_record_of:Binds K fd_record_of ["row"] []
  g_record_of:mg "record_of"=some (.ref f_record_of)
  f_record_in:Addr
  fd_record_in:FuncData
  F_record_in:Fun K "record_in" "record_in" s_record_in f_record_in fd_record_in
  b_record_in:Binds K fd_record_in ["layout","volume","f"] []
  g_record_in:mg "record_in"=some (.ref f_record_in)
  f_blocks_of:Addr
  fd_blocks_of:FuncData
  F_blocks_of:Fun K "blocks_of" "blocks_of" s_blocks_of f_blocks_of fd_blocks_of
  b_blocks_of:Binds K fd_blocks_of ["volume","record"] []
  g_blocks_of:mg "blocks_of"=some (.ref f_blocks_of)
  f_contents:Addr
  fd_contents:FuncData
  F_contents:Fun K "contents" "contents" s_contents f_contents fd_contents
  b_contents:Binds K fd_contents ["layout","volume","f"] []
  g_contents:mg "contents"=some (.ref f_contents)
  f_is_found:Addr
  fd_is_found:FuncData
  F_is_found:Fun K "is_found" "is_found" s_is_found f_is_found fd_is_found
  b_is_found:Binds K fd_is_found ["layout","volume","f"] []
  g_is_found:mg "is_found"=some (.ref f_is_found)
  f_is_file:Addr
  fd_is_file:FuncData
  F_is_file:Fun K "is_file" "is_file" s_is_file f_is_file fd_is_file
  b_is_file:Binds K fd_is_file ["layout","volume","f"] []
  g_is_file:mg "is_file"=some (.ref f_is_file)
  f_record_behind:Addr
  fd_record_behind:FuncData
  F_record_behind:Fun K "record_behind" "record_behind" s_record_behind f_record_behind fd_record_behind
  b_record_behind:Binds K fd_record_behind ["layout","volume","start","names"] []
  g_record_behind:mg "record_behind"=some (.ref f_record_behind)
  f_find_path:Addr
  fd_find_path:FuncData
  F_find_path:Fun K "find_path" "find_path" s_find_path f_find_path fd_find_path
  b_find_path:Binds K fd_find_path ["layout","volume","path"] []
  g_find_path:mg "find_path"=some (.ref f_find_path)
  f_find_file:Addr
  fd_find_file:FuncData
  F_find_file:Fun K "find_file" "find_file" s_find_file f_find_file fd_find_file
  b_find_file:Binds K fd_find_file ["layout","volume","path"] []
  g_find_file:mg "find_file"=some (.ref f_find_file)
  f_read:Addr
  fd_read:FuncData
  dV_read:Value
  F_read:FunD K "read" "read" s_read f_read fd_read dV_read
  a_read:Addr
  dv_read:dV_read=.ref a_read
  do_read:∃ (o:Obj) (its:Array Value) (n:Nat),K.lookup a_read=some o∧o.data=.seq its n∧Vals [.int 0,.non] its.toList
  g_read:mg "read"=some (.ref f_read)
  f_l_cell:Addr
  fd_l_cell:FuncData
  F_l_cell:Fun K "_law_cell" "_law_cell" s_l_cell f_l_cell fd_l_cell
  b_l_cell:Binds K fd_l_cell ["_law_script","_law_k"] []
  g_l_cell:mg "_law_cell"=some (.ref f_l_cell)
  f_l_mixed:Addr
  fd_l_mixed:FuncData
  F_l_mixed:Fun K "_law_mixed" "_law_mixed" s_l_mixed f_l_mixed fd_l_mixed
  b_l_mixed:Binds K fd_l_mixed ["_law_cell_here","_law_k"] []
  g_l_mixed:mg "_law_mixed"=some (.ref f_l_mixed)
  f_l_layout:Addr
  fd_l_layout:FuncData
  F_l_layout:Fun K "_law_layout" "_law_layout" s_l_layout f_l_layout fd_l_layout
  b_l_layout:Binds K fd_l_layout ["_law_script"] []
  g_l_layout:mg "_law_layout"=some (.ref f_l_layout)
  f_l_kinds:Addr
  fd_l_kinds:FuncData
  F_l_kinds:Fun K "_law_kinds" "_law_kinds" s_l_kinds f_l_kinds fd_l_kinds
  b_l_kinds:Binds K fd_l_kinds ["_law_cell_here","_law_files"] []
  g_l_kinds:mg "_law_kinds"=some (.ref f_l_kinds)
  f_l_stands:Addr
  fd_l_stands:FuncData
  F_l_stands:Fun K "_law_stands" "_law_stands" s_l_stands f_l_stands fd_l_stands
  b_l_stands:Binds K fd_l_stands ["_law_slots_here","_law_folder","_law_name"] []
  g_l_stands:mg "_law_stands"=some (.ref f_l_stands)
  f_l_new_name:Addr
  fd_l_new_name:FuncData
  F_l_new_name:Fun K "_law_new_name" "_law_new_name" s_l_new_name f_l_new_name fd_l_new_name
  b_l_new_name:Binds K fd_l_new_name ["_law_cell_here","_law_k","_law_slots_here","_law_folder"] []
  g_l_new_name:mg "_law_new_name"=some (.ref f_l_new_name)
  f_l_slots:Addr
  fd_l_slots:FuncData
  F_l_slots:Fun K "_law_slots" "_law_slots" s_l_slots f_l_slots fd_l_slots
  b_l_slots:Binds K fd_l_slots ["_law_cell_here","_law_kinds_here","_law_most"] []
  cc_l_slots:Addr
  P_l_slots:Addr
  FC_l_slots:FunC K "_law_slots" "_law_slots" s_l_slots f_l_slots fd_l_slots cc_l_slots P_l_slots
  g_l_slots:mg "_law_slots"=some (.ref f_l_slots)
  f_l_check:Addr
  fd_l_check:FuncData
  F_l_check:Fun K "_law_check" "_law_check" s_l_check f_l_check fd_l_check
  b_l_check:Binds K fd_l_check ["_law_numbers"] []
  g_l_check:mg "_law_check"=some (.ref f_l_check)
  f_l_take:Addr
  fd_l_take:FuncData
  F_l_take:Fun K "_law_take" "_law_take" s_l_take f_l_take fd_l_take
  b_l_take:Binds K fd_l_take ["_law_cell_here","_law_k","_law_wanted","_law_free"] []
  g_l_take:mg "_law_take"=some (.ref f_l_take)
  f_l_pieces:Addr
  fd_l_pieces:FuncData
  F_l_pieces:Fun K "_law_pieces" "_law_pieces" s_l_pieces f_l_pieces fd_l_pieces
  b_l_pieces:Binds K fd_l_pieces ["_law_cell_here","_law_f","_law_size_here","_law_volume","_law_free"] []
  g_l_pieces:mg "_law_pieces"=some (.ref f_l_pieces)
  f_l_size:Addr
  fd_l_size:FuncData
  F_l_size:Fun K "_law_size" "_law_size" s_l_size f_l_size fd_l_size
  b_l_size:Binds K fd_l_size ["_law_cell_here","_law_f"] []
  g_l_size:mg "_law_size"=some (.ref f_l_size)
  f_l_records:Addr
  fd_l_records:FuncData
  F_l_records:Fun K "_law_records" "_law_records" s_l_records f_l_records fd_l_records
  b_l_records:Binds K fd_l_records ["_law_cell_here","_law_kinds_here","_law_slots_here","_law_volume","_law_free"] []
  g_l_records:mg "_law_records"=some (.ref f_l_records)
  f_l_sound:Addr
  fd_l_sound:FuncData
  F_l_sound:Fun K "_law_sound" "_law_sound" s_l_sound f_l_sound fd_l_sound
  b_l_sound:Binds K fd_l_sound ["_law_layout_here","_law_cell_here"] []
  cc_l_sound:Addr
  P_l_sound:Addr
  FC_l_sound:FunC K "_law_sound" "_law_sound" s_l_sound f_l_sound fd_l_sound cc_l_sound P_l_sound
  g_l_sound:mg "_law_sound"=some (.ref f_l_sound)
  f_l_contents:Addr
  fd_l_contents:FuncData
  F_l_contents:Fun K "_law_contents" "_law_contents" s_l_contents f_l_contents fd_l_contents
  b_l_contents:Binds K fd_l_contents ["_law_layout_here","_law_volume","_law_f"] []
  g_l_contents:mg "_law_contents"=some (.ref f_l_contents)
  f_l_path:Addr
  fd_l_path:FuncData
  F_l_path:Fun K "_law_path" "_law_path" s_l_path f_l_path fd_l_path
  b_l_path:Binds K fd_l_path ["_law_slots_here","_law_f","_law_cell_here"] []
  g_l_path:mg "_law_path"=some (.ref f_l_path)
  f_l_refusal:Addr
  fd_l_refusal:FuncData
  F_l_refusal:Fun K "_law_refusal" "_law_refusal" s_l_refusal f_l_refusal fd_l_refusal
  b_l_refusal:Binds K fd_l_refusal ["_law_e"] []
  g_l_refusal:mg "_law_refusal"=some (.ref f_l_refusal)
  f_l_refused:Addr
  fd_l_refused:FuncData
  F_l_refused:Fun K "_law_refused" "_law_refused" s_l_refused f_l_refused fd_l_refused
  b_l_refused:Binds K fd_l_refused ["_law_layout_here","_law_volume","_law_path_here","_law_at","_law_many"] []
  g_l_refused:mg "_law_refused"=some (.ref f_l_refused)
  f_l_part:Addr
  fd_l_part:FuncData
  F_l_part:Fun K "_law_part" "_law_part" s_l_part f_l_part fd_l_part
  b_l_part:Binds K fd_l_part ["_law_layout_here","_law_volume","_law_path_here","_law_due","_law_cell_here"] []
  g_l_part:mg "_law_part"=some (.ref f_l_part)
  f_l_file:Addr
  fd_l_file:FuncData
  F_l_file:Fun K "_law_file" "_law_file" s_l_file f_l_file fd_l_file
  b_l_file:Binds K fd_l_file ["_law_layout_here","_law_volume","_law_path_here","_law_due","_law_cell_here"] []
  g_l_file:mg "_law_file"=some (.ref f_l_file)
  f_law:Addr
  fd_law:FuncData
  F_law:Fun K "law" "law" s_law f_law fd_law
  b_law:Binds K fd_law ["_law_script"] []
  g_law:mg "law"=some (.ref f_law)
  mk_FileRecord:Mk K C_FileRecord f_Record_init
  mk_FolderRecord:Mk K C_FolderRecord f_Record_init
  m_FolderRecord_wants:Meth K C_FolderRecord "wants" f_Record_wants
  m_FolderRecord_keeps:Meth K C_FolderRecord "keeps" f_Record_keeps
  mk_FreeRecord:Mk K C_FreeRecord f_Record_init
  m_FreeRecord_wants:Meth K C_FreeRecord "wants" f_Record_wants
  m_FreeRecord_keeps:Meth K C_FreeRecord "keeps" f_Record_keeps
  t_RECORDS_AT:Tok
  g_RECORDS_AT:mg "RECORDS_AT"=some (.int 10 t_RECORDS_AT)
  t_FILE:Tok
  g_FILE:mg "FILE"=some (.int 1 t_FILE)
  t_FOLDER:Tok
  g_FOLDER:mg "FOLDER"=some (.int 2 t_FOLDER)
  t_KIND_AT:Tok
  g_KIND_AT:mg "KIND_AT"=some (.int 0 t_KIND_AT)
  t_SIZE_AT:Tok
  g_SIZE_AT:mg "SIZE_AT"=some (.int 1 t_SIZE_AT)
  t_NAMES_AT:Tok
  g_NAMES_AT:mg "NAMES_AT"=some (.int 2 t_NAMES_AT)
  t_FOUND_AT:Tok
  g_FOUND_AT:mg "FOUND_AT"=some (.int 3 t_FOUND_AT)
  t_FIRST_AT:Tok
  g_FIRST_AT:mg "FIRST_AT"=some (.int 4 t_FIRST_AT)
  t_MORE_AT:Tok
  g_MORE_AT:mg "MORE_AT"=some (.int 7 t_MORE_AT)
  t_EACH:Tok
  g_EACH:mg "EACH"=some (.int 2 t_EACH)
  t_SLOT_WIDE:Tok
  g_SLOT_WIDE:mg "SLOT_WIDE"=some (.int 4 t_SLOT_WIDE)
  t_USED:Tok
  g_USED:mg "USED"=some (.int 1 t_USED)
  t_FOUND:Tok
  g_FOUND:mg "FOUND"=some (.int 1 t_FOUND)
  t_WIDE:Tok
  g_WIDE:mg "WIDE"=some (.int 8 t_WIDE)
  t_PIECES:Tok
  g_PIECES:mg "PIECES"=some (.int 11 t_PIECES)
  p_FOUND_PATH:Addr
  g_FOUND_PATH:mg "FOUND_PATH"=some (.ref p_FOUND_PATH)
  o_FOUND_PATH:∃ (o:Obj) (its:Array Value) (n:Nat),K.lookup p_FOUND_PATH=some o∧o.cls=.type "tuple"∧o.data=.seq its n∧its.size≤sizeLine∧Vals [.int 0] its.toList
  ex_NoLayout:PySem.W.excIn K C_NoLayout bmV "ValueError.__new__"=true
  ex_NoPath:PySem.W.excIn K C_NoPath bmV "ValueError.__new__"=true
  ex_NotFile:PySem.W.excIn K C_NotFile bmV "ValueError.__new__"=true
  ex_TooFar:PySem.W.excIn K C_TooFar bmV "ValueError.__new__"=true
  xt_NoPath:ExT K C_NoPath
  xt_NotFile:ExT K C_NotFile
  xt_TooFar:ExT K C_TooFar
  o_File:PySem.W.mroIn K C_FileRecord (.type "object")=some true
  o_Folder:PySem.W.mroIn K C_FolderRecord (.type "object")=some true
  o_Free:PySem.W.mroIn K C_FreeRecord (.type "object")=some true
  k11:PySem.W.kitOne K (.ref C_FileRecord) (.ref C_FileRecord)=some true
  k21:PySem.W.kitOne K (.ref C_FolderRecord) (.ref C_FileRecord)=some false
  k31:PySem.W.kitOne K (.ref C_FreeRecord) (.ref C_FileRecord)=some false
  ha_File:PySem.W.findIn K (.ref C_FileRecord) "__class__"=some (some (.builtin "object.__class__"))
  ha_Folder:PySem.W.findIn K (.ref C_FolderRecord) "__class__"=some (some (.builtin "object.__class__"))
  ha_Free:PySem.W.findIn K (.ref C_FreeRecord) "__class__"=some (some (.builtin "object.__class__"))
  hn_class:PySem.W.specialIn K (.builtin "object.__class__") "__get__"=some (some (.builtin "getset_descriptor.__get__"))
  tk_class:PySem.W.takesIn K (.builtin "object.__class__")=some true
  k22:PySem.W.kitOne K (.ref C_FolderRecord) (.ref C_FolderRecord)=some true
  k12:PySem.W.kitOne K (.ref C_FileRecord) (.ref C_FolderRecord)=some false
  k32:PySem.W.kitOne K (.ref C_FreeRecord) (.ref C_FolderRecord)=some false
  k33:PySem.W.kitOne K (.ref C_FreeRecord) (.ref C_FreeRecord)=some true
  k13:PySem.W.kitOne K (.ref C_FileRecord) (.ref C_FreeRecord)=some false
  k23:PySem.W.kitOne K (.ref C_FolderRecord) (.ref C_FreeRecord)=some false
  m_NoPath:PySem.W.exmOne K (.ref C_NoPath) (.ref C_VolumeError)=some true
  q_NoPath_BadNumber:PySem.W.kitOne K (.ref C_NoPath) (.ref C_BadNumber)=some false
  q_NoPath_NoPath:PySem.W.kitOne K (.ref C_NoPath) (.ref C_NoPath)=some true
  q_NoPath_NotFile:PySem.W.kitOne K (.ref C_NoPath) (.ref C_NotFile)=some false
  q_NoPath_TooFar:PySem.W.kitOne K (.ref C_NoPath) (.ref C_TooFar)=some false
  q_NoPath_Full:PySem.W.kitOne K (.ref C_NoPath) (.ref C_Full)=some false
  v_NoPath:PySem.W.kitOne K (.ref C_NoPath) (.type "ValueError")=some true
  q_NoPath_NotFolder:PySem.W.kitOne K (.ref C_NoPath) (.ref C_NotFolder)=some false
  m_NotFile:PySem.W.exmOne K (.ref C_NotFile) (.ref C_VolumeError)=some true
  q_NotFile_BadNumber:PySem.W.kitOne K (.ref C_NotFile) (.ref C_BadNumber)=some false
  q_NotFile_NoPath:PySem.W.kitOne K (.ref C_NotFile) (.ref C_NoPath)=some false
  q_NotFile_NotFile:PySem.W.kitOne K (.ref C_NotFile) (.ref C_NotFile)=some true
  q_NotFile_NotFolder:PySem.W.kitOne K (.ref C_NotFile) (.ref C_NotFolder)=some false
  q_NotFile_TooFar:PySem.W.kitOne K (.ref C_NotFile) (.ref C_TooFar)=some false
  q_NotFile_Full:PySem.W.kitOne K (.ref C_NotFile) (.ref C_Full)=some false
  v_NotFile:PySem.W.kitOne K (.ref C_NotFile) (.type "ValueError")=some true
  m_TooFar:PySem.W.exmOne K (.ref C_TooFar) (.ref C_VolumeError)=some true
  q_TooFar_BadNumber:PySem.W.kitOne K (.ref C_TooFar) (.ref C_BadNumber)=some false
  q_TooFar_NoPath:PySem.W.kitOne K (.ref C_TooFar) (.ref C_NoPath)=some false
  q_TooFar_NotFile:PySem.W.kitOne K (.ref C_TooFar) (.ref C_NotFile)=some false
  q_TooFar_NotFolder:PySem.W.kitOne K (.ref C_TooFar) (.ref C_NotFolder)=some false
  q_TooFar_TooFar:PySem.W.kitOne K (.ref C_TooFar) (.ref C_TooFar)=some true
  q_TooFar_Full:PySem.W.kitOne K (.ref C_TooFar) (.ref C_Full)=some false
  v_TooFar:PySem.W.kitOne K (.ref C_TooFar) (.type "ValueError")=some true
  np_l_slots_l_sound:(P_l_slots == P_l_sound)=false
  z_len:mg "len"=none
  z_range:mg "range"=none
  z_isinstance:mg "isinstance"=none
  z_list:mg "list"=none
  z_tuple:mg "tuple"=none
  z_int:mg "int"=none
  z_sorted:mg "sorted"=none
  z_sum:mg "sum"=none
  z_zip:mg "zip"=none
  z_divmod:mg "divmod"=none
  z_bool:mg "bool"=none
  z_ValueError:mg "ValueError"=none
  z_max:mg "max"=none
def lay (F E B:Int):List (Str×V):=putF "data" (.int B) (putF "slots" (.int E) (putF "files" (.int F) []))
theorem fs:¬ (("files":Str)="slots"):=by decide +kernel
theorem fd:¬ (("files":Str)="data"):=by decide +kernel
theorem sd:¬ (("slots":Str)="data"):=by decide +kernel
theorem lay_files (F E B:Int):(lay F E B).lookup ("files":Str)=some (.int F):=by
  unfold lay
  rw [lookup_putF,if_neg fd,lookup_putF,if_neg fs,lookup_putF,if_pos rfl]
theorem lay_slots (F E B:Int):(lay F E B).lookup ("slots":Str)=some (.int E):=by
  unfold lay
  rw [lookup_putF,if_neg sd,lookup_putF,if_pos rfl]
theorem lay_data (F E B:Int):(lay F E B).lookup ("data":Str)=some (.int B):=by
  unfold lay
  rw [lookup_putF,if_pos rfl]
theorem lay_no (F E B:Int) {m:Str}(h1:¬ m="files") (h2:¬ m="slots") (h3:¬ m="data"):(lay F E B).lookup m=none:=by
  unfold lay
  rw [lookup_putF,if_neg h3,lookup_putF,if_neg h2,lookup_putF,if_neg h1]
  rfl
def Lay (C:Addr) (H:Hp) (p:Addr) (F E B:Int):Prop:=∃ dx,H p=some (.ins C dx (lay F E B))
structure LayOk (F E B:Int):Prop where
  f1:2≤F
  f2:F≤12
  e1:1≤E
  e2:E≤8
  b1:2≤B
  b2:B≤40
theorem Lay.same {C:Addr}{H H':Hp}{p:Addr}{F E B:Int}(h:Lay C H p F E B) (s:Same H H'):Lay C H' p F E B:=let ⟨dx,e⟩:=h;⟨dx,s _ _ e⟩
def spInit (C N:Addr):Sp:=fun vs H Q X=>∃ (p dx:Addr) (F E B:Int),vs=[.ref p,.int F,.int E,.int B]∧H p=some (.ins C dx []) ∧
  (LayOk F E B→∀ H':Hp,H' p=some (.ins C dx (lay F E B))→(∀ b o,H b=some o→b≠p→H' b=some o)→Q .non H')∧(¬ LayOk F E B→X (.ref N) none H)
def spAt (C:Addr) (g:Int→Int→Int→Int→Int):Sp:=fun vs H Q _=>∃ (p:Addr) (F E B n:Int),vs=[.ref p,.int n]∧Lay C H p F E B∧Q (.int (g F E B n)) H
def spSlotAt (C:Addr):Sp:=fun vs H Q _=>∃ (p:Addr) (F E B s:Int),vs=[.ref p,.int s]∧Lay C H p F E B∧∀ q,H q=none→Q (.ref q) (upd H q (.tup [.int (10 + F + s / 2),.int (s % 2 * 4)]))
def spSlot (C:Addr):Sp:=fun vs H Q _=>∃ (p v:Addr) (F E B s:Int) (as:List Addr) (rows:List (List Int)) (j:Nat) (r:List Int),vs=[.ref p,.ref v,.int s]∧Lay C H p F E B∧Vol H v as rows∧(j:Int)=10 + F + s / 2∧rows[j]?=some r ∧
  ∀ (q:Addr) (H':Hp),Same H H'→H' q=some (.tup (cutV (r.map V.int) (some (s % 2 * 4)) (some (s % 2 * 4 + 4))))→Q (.ref q) H'
def mixN (c k:Int):Int:=(c + 7919 * k + 1) * 48271 % 2147483647
def mix (c k:Int):Int:=mixN c k * (mixN c k / 1009 + 69621) % 2147483647
theorem mix_lo (c k:Int):0≤mix c k:=Int.emod_nonneg _ (by decide)
def spCell (K:PySem.W.Frag):Sp:=fun vs H Q _=>∃ (a:Addr) (ns:List Int) (k:Nat),vs=[.ref a,.int k]∧SqL K H a (ns.map V.int)∧ns.length≤63∧Q (.int (ns.getD k 0)) H
def spMixed:Sp:=fun vs H Q _=>∃ c k:Int,vs=[.int c,.int k]∧Q (.int (mix c k)) H
def spLayout (K:PySem.W.Frag) (C:Addr):Sp:=fun vs H Q _=>∃ (a:Addr) (ns:List Int),vs=[.ref a]∧SqL K H a (ns.map V.int)∧ns.length≤63∧∀ (p:Addr) (F E B:Int) (H':Hp),LayOk F E B→Lay C H' p F E B→Same H H'→Q (.ref p) H'
section
variable {P:Program}{w:World}{K:PySem.W.Frag}{mg:Str→Option Value}{base:Heap}
theorem ok_init (T:Tx K mg):FnOk P w K mg base (CX1 P w) 1 T.f_Layout_init T.fd_Layout_init ["self","files","slots","data"] (spInit T.C_Layout T.C_NoLayout):=by
  refine T.F_Layout_init.okX sc_Layout_init (fun vs H Q E h=>?_) (fun cdv A outer s H vs Q X hr h=>?_)
  · obtain ⟨p,dx,F,E,B,rfl,_⟩:=h
    rfl
  · obtain ⟨p,dx,F,E,B,rfl,hp,k,kx⟩:=h
    refine ⟨_,pss_cons (ps_if (pt_not (pt_chain op_le op_le pe_int (pv 1) pe_int)) (pss_one (ps_raise rfl T.ex_NoLayout rfl T.g_NoLayout takesN_cx (pa_cons pe_str pa_nil))) pss_nil)
      (pss_cons (ps_if (pt_not (pt_chain op_le op_le pe_int (pv 2) pe_int)) (pss_one (ps_raise rfl T.ex_NoLayout rfl T.g_NoLayout takesN_cx (pa_cons pe_str pa_nil))) pss_nil)
      (pss_cons (ps_if (pt_not (pt_chain op_le op_le pe_int (pv 3) pe_int)) (pss_one (ps_raise rfl T.ex_NoLayout rfl T.g_NoLayout takesN_cx (pa_cons pe_str pa_nil))) pss_nil)
      (pss_cons (ps_fld (pv 0) (pv 1) rfl) (pss_cons (ps_fld (pv 0) (pv 2) rfl) (pss_one (ps_fld (pv 0) (pv 3) rfl)))))),?_⟩
    have no:¬ LayOk F E B→[V.str "x"].length≤sizeLine∧X (.ref T.C_NoLayout) none H:=fun h=>⟨by decide,kx h⟩
    refine ⟨_,rfl,_,_,rfl,rfl,_,rfl,ite2 (fun f1=>?_) (fun f1=>⟨_,rfl,iteT (no fun ok=>f1 (by simpa using ok.f1))⟩)⟩
    refine ⟨_,_,rfl,rfl,_,rfl,ite2 (fun f2=>no fun ok=>by simp [ok.f2] at f2) (fun f2=>?_)⟩
    refine ⟨_,rfl,_,_,rfl,rfl,_,rfl,ite2 (fun e1=>?_) (fun e1=>⟨_,rfl,iteT (no fun ok=>e1 (by simpa using ok.e1))⟩)⟩
    refine ⟨_,_,rfl,rfl,_,rfl,ite2 (fun e2=>no fun ok=>by simp [ok.e2] at e2) (fun e2=>?_)⟩
    refine ⟨_,rfl,_,_,rfl,rfl,_,rfl,ite2 (fun b1=>?_) (fun b1=>⟨_,rfl,iteT (no fun ok=>b1 (by simpa using ok.b1))⟩)⟩
    refine ⟨_,_,rfl,rfl,_,rfl,ite2 (fun b2=>no fun ok=>by simp [ok.b2] at b2) (fun b2=>?_)⟩
    have ok:LayOk F E B:=⟨by simpa using f1,by simpa using f2,by simpa using e1,by simpa using e2,by simpa using b1,by simpa using b2⟩
    refine ⟨_,rfl,_,rfl,p,T.C_Layout,dx,_,rfl,hp,T.cl_Layout,T.n_Layout_files,(by show 0 < 1000;decide),?_⟩
    refine ⟨_,rfl,_,rfl,p,T.C_Layout,dx,_,rfl,upd_same,T.cl_Layout,T.n_Layout_slots,Nat.lt_of_le_of_lt (length_putF _ _ _) (by decide),?_⟩
    refine ⟨_,rfl,_,rfl,p,T.C_Layout,dx,_,rfl,upd_same,T.cl_Layout,T.n_Layout_data,Nat.lt_of_le_of_lt (length_putF _ _ _) (Nat.lt_of_le_of_lt (Nat.add_le_add_right (length_putF _ _ _) 1) (by decide)),?_⟩
    refine k ok _ upd_same fun b o e hb=>?_
    rw [upd_ne hb,upd_ne hb,upd_ne hb]
    exact e
theorem ok_record_at (T:Tx K mg):FnOk P w K mg base CX0 1 T.f_Layout_record_at T.fd_Layout_record_at ["self","f"] (spAt T.C_Layout fun _ _ _ n=>10 + n):=by
  refine T.F_Layout_record_at.ok sc_Layout_record_at (fun vs H Q E h=>?_) (fun cdv A outer s H vs Q E hr h=>?_)
  · obtain ⟨p,F,E,B,n,rfl,_⟩:=h
    rfl
  · obtain ⟨p,F,E,B,n,rfl,hp,k⟩:=h
    refine ⟨_,pss_one (ps_ret (pe_op op_add (pe_glob (v:=.int 10) rfl T.g_RECORDS_AT ⟨_,rfl⟩) (pv 1))),?_⟩
    exact ⟨_,rfl,_,_,rfl,rfl,k⟩
theorem ok_names_at (T:Tx K mg):FnOk P w K mg base CX0 2 T.f_Layout_names_at T.fd_Layout_names_at ["self","e"] (spAt T.C_Layout fun F _ _ n=>10 + F + n):=by
  refine T.F_Layout_names_at.ok sc_Layout_names_at (fun vs H Q E h=>?_) (fun cdv A outer s H vs Q E hr h=>?_)
  · obtain ⟨p,F,E,B,n,rfl,_⟩:=h
    rfl
  · obtain ⟨p,F,E,B,n,rfl,⟨dx,hp⟩,k⟩:=h
    refine ⟨_,pss_one (ps_ret (pe_op op_add (pe_meth (pv 0) T.cl_Layout T.m_Layout_record_at (ok_record_at T) hr T.b_Layout_record_at .nil pass0 (pa_cons (pe_fld (pv 0) rfl) pa_nil)) (pv 1))),?_⟩
    exact ⟨_,rfl,p,dx,_,rfl,hp,lay_no _ _ _ (by decide +kernel) (by decide +kernel) (by decide +kernel),_,rfl,p,T.C_Layout,dx,_,_,rfl,hp,T.cl_Layout,T.n_Layout_files,lay_files _ _ _,p,F,E,B,F,rfl,⟨dx,hp⟩,_,rfl,_,_,rfl,rfl,k⟩
theorem ok_slot_at (T:Tx K mg):FnOk P w K mg base CX0 3 T.f_slot_at T.fd_slot_at ["layout","s"] (spSlotAt T.C_Layout):=by
  refine T.F_slot_at.ok sc_slot_at (fun vs H Q E h=>?_) (fun cdv A outer s H vs Q E hr h=>?_)
  · obtain ⟨p,F,E,B,s,rfl,_⟩:=h
    rfl
  · obtain ⟨p,F,E,B,s,rfl,⟨dx,hp⟩,k⟩:=h
    refine ⟨_,pss_one (ps_ret (pe_tup (pa_cons (pe_meth (pv 0) T.cl_Layout T.m_Layout_names_at (ok_names_at T) hr T.b_Layout_names_at .nil pass0 (pa_cons (pe_op op_fdiv (pv 1) (pe_glob (v:=.int 2) rfl T.g_EACH ⟨_,rfl⟩)) pa_nil)) (pa_cons (pe_op op_mul (pe_op op_mod (pv 1) (pe_glob (v:=.int 2) rfl T.g_EACH ⟨_,rfl⟩)) (pe_glob (v:=.int 4) rfl T.g_SLOT_WIDE ⟨_,rfl⟩)) pa_nil)))),?_⟩
    refine ⟨_,rfl,p,dx,_,rfl,hp,lay_no _ _ _ (by decide +kernel) (by decide +kernel) (by decide +kernel),_,rfl,_,_,rfl,rfl,⟨by decide,by decide⟩,p,F,E,B,_,rfl,⟨dx,hp⟩,_,rfl,_,_,rfl,rfl,(by show (0:Int) < 2;decide),_,_,rfl,rfl,.inr ⟨by decide,by decide⟩,(by show 2≤sizeLine;decide),fun q hq=>?_⟩
    exact k q hq
theorem ok_slot (T:Tx K mg):FnOk P w K mg base CX0 4 T.f_slot T.fd_slot ["layout","volume","s"] (spSlot T.C_Layout):=by
  refine T.F_slot.ok sc_slot (fun vs H Q E h=>?_) (fun cdv A outer s H vs Q E hr h=>?_)
  · obtain ⟨p,v,F,E,B,s,as,rows,j,r,rfl,_⟩:=h
    rfl
  · obtain ⟨p,v,F,E,B,s,as,rows,j,r,rfl,hL,hV,ej,er,k⟩:=h
    refine ⟨_,pss_cons (ps_set (i:=3) sc_slot.nd rfl (Or.inl rfl) (pe_call (ok_slot_at T) hr rfl T.g_slot_at T.F_slot_at.kp T.b_slot_at .nil pass0 (pa_cons (pv 0) (pa_cons (pv 2) pa_nil))))
      (pss_one (ps_ret (pe_callTy call_tuple_of rfl T.z_tuple (by kernel_rfl) (pa_cons (pe_slice sl_list (pe_ix ix_list (pv 1) (pe_ix ix_tup (pv 3) pe_int (fun _ _=>rfl)) (fun _ _=>rfl)) (po_some (pe_ix ix_tup (pv 3) pe_int (fun _ _=>rfl))) (po_some (pe_op op_add (pe_ix ix_tup (pv 3) pe_int (fun _ _=>rfl)) (pe_glob (v:=.int 4) rfl T.g_SLOT_WIDE ⟨_,rfl⟩)))) pa_nil)))),?_⟩
    refine ⟨_,rfl,_,rfl,p,F,E,B,s,rfl,hL,fun q hq=>?_⟩
    have hj:j < as.length:=by rw [hV.len];exact (List.getElem?_eq_some_iff.mp er).1
    have ea:as[j]?=some as[j]:=List.getElem?_eq_getElem hj
    have eat:atI (as.map V.ref) (10 + F + s / 2)=some (.ref as[j]):=by rw [← ej];exact atI_nat (by rw [List.getElem?_map,ea];rfl)
    have s1:Same H (upd H q (.tup [.int (10 + F + s / 2),.int (s % 2 * 4)])):=Same.upd0 hq
    have hq1:SqT K (upd H q (.tup [.int (10 + F + s / 2),.int (s % 2 * 4)])) q [.int (10 + F + s / 2),.int (s % 2 * 4)]:=SqT.of upd_same
    refine ⟨_,rfl,_,rfl,q,_,0,_,rfl,rfl,hq1,atI_nat (j:=0) rfl,v,_,_,.ref as[j],rfl,rfl,SqL.of (s1 _ _ hV.top),eat,?_⟩
    refine ⟨_,rfl,q,_,1,_,rfl,rfl,hq1,atI_nat (j:=1) rfl,_,rfl,_,rfl,q,_,1,_,rfl,rfl,hq1,atI_nat (j:=1) rfl,_,_,rfl,rfl,_,rfl,as[j],_,rfl,SqL.of (s1 _ _ (hV.row j _ r ea er)),fun z hz=>?_⟩
    refine ⟨z,_,rfl,.inl ⟨SqL.of upd_same,fun t ht=>?_⟩⟩
    exact k t _ ((s1.upd hz).upd ht) upd_same
def slq (rows:List (List Int)) (F s j:Nat):Int:=(rows.getD (10 + F + s / 2) []).getD (s % 2 * 4 + j) 0
def slv (rows:List (List Int)) (F s:Nat):List Int:=[slq rows F s 0,slq rows F s 1,slq rows F s 2,slq rows F s 3]
theorem row_of8 {r:List Int}(h:r.length=8):∃ a b c d e f g i,r=[a,b,c,d,e,f,g,i]:=by
  match r,h with
  | [a,b,c,d,e,f,g,i],_=>exact ⟨a,b,c,d,e,f,g,i,rfl⟩
theorem slv_cut {rows:List (List Int)}{F s:Nat}{r:List Int}(er:rows[10 + F + s / 2]?=some r) (h8:r.length=8):cutV (r.map V.int) (some ((s:Int) % 2 * 4)) (some ((s:Int) % 2 * 4 + 4))=(slv rows F s).map V.int:=by
  have eg:rows.getD (10 + F + s / 2) []=r:=by rw [List.getD_eq_getElem?_getD,er];rfl
  unfold slv slq
  rw [eg]
  obtain ⟨a,b,c,d,e,f,g,i,rfl⟩:=row_of8 h8
  rcases Nat.mod_two_eq_zero_or_one s with h | h
  · have h':(s:Int) % 2=0:=by omega
    rw [h,h']
    rfl
  · have h':(s:Int) % 2=1:=by omega
    rw [h,h']
    rfl
def spSlotN (C:Addr):Sp:=fun vs H Q _=>∃ (p v:Addr) (F E:Nat) (B:Int) (s:Nat) (as:List Addr) (rows:List (List Int)),vs=[.ref p,.ref v,.int s]∧Lay C H p F E B∧Vol H v as rows∧10 + F + s / 2 < rows.length∧(∀ r∈rows,r.length=8) ∧
  ∀ (q:Addr) (H':Hp),Same H H'→H' q=some (.tup ((slv rows F s).map V.int))→Q (.ref q) H'
theorem ok_slotN (T:Tx K mg):FnOk P w K mg base CX0 4 T.f_slot T.fd_slot ["layout","volume","s"] (spSlotN T.C_Layout):=(ok_slot T).imp fun vs H Q E h=>by
  obtain ⟨p,v,F,E,B,s,as,rows,rfl,hL,hV,hi,h8,k⟩:=h
  have er:rows[10 + F + s / 2]?=some rows[10 + F + s / 2]:=List.getElem?_eq_getElem hi
  refine ⟨p,v,F,E,B,s,as,rows,10 + F + s / 2,rows[10 + F + s / 2],rfl,hL,hV,by omega,er,fun q H' s1 hq=>k q H' s1 ?_⟩
  rw [← slv_cut er (h8 _ (List.getElem_mem hi))]
  exact hq
def usl (rows:List (List Int)) (F n:Nat):List Nat:=(List.range n).filter fun s=>decide (slq rows F s 0=1)
theorem usl_succ (rows:List (List Int)) (F n:Nat):usl rows F (n + 1)=usl rows F n ++ (if slq rows F n 0=1 then [n] else []):=by
  unfold usl
  rw [List.range_succ,List.filter_append]
  congr 1
  by_cases h:slq rows F n 0=1
  · simp [h]
  · simp [h]
theorem usl_lt {rows:List (List Int)}{F n s:Nat}(h:s∈usl rows F n):s < n:=List.mem_range.mp (List.mem_filter.mp h).1
theorem usl_len (rows:List (List Int)) (F n:Nat):(usl rows F n).length≤n:=by
  unfold usl
  have:=List.length_filter_le (fun s=>decide (slq rows F s 0=1)) (List.range n)
  rw [List.length_range] at this
  exact this
structure UD (H:Hp) (us:List Nat) (kvs:List (Key×V)) (rows:List (List Int)) (F:Nat):Prop where
  len:kvs.length=us.length
  item:∀ (i:Nat) k x,kvs[i]?=some (k,x)→∃ (s:Nat) (t:Addr),us[i]?=some s∧k=.inl (s:Int)∧x=.ref t∧H t=some (.tup ((slv rows F s).map V.int))
theorem UD.same {H H':Hp}{us:List Nat}{kvs:List (Key×V)}{rows:List (List Int)}{F:Nat}(h:UD H us kvs rows F) (ht:∀ b xs,H b=some (.tup xs)→H' b=some (.tup xs)):UD H' us kvs rows F :=
  ⟨h.len,fun i k x e=>let ⟨s,t,h1,h2,h3,h4⟩:=h.item i k x e;⟨s,t,h1,h2,h3,ht _ _ h4⟩⟩
def spMany (C:Addr):Sp:=fun vs H Q _=>∃ (p:Addr) (F E B:Int),vs=[.ref p]∧Lay C H p F E B∧Q (.int (E * 2)) H
theorem ok_many (T:Tx K mg):FnOk P w K mg base CX0 1 T.f_many_slots T.fd_many_slots ["layout"] (spMany T.C_Layout):=by
  refine T.F_many_slots.ok sc_many_slots (fun vs H Q E h=>?_) (fun cdv A outer s H vs Q E hr h=>?_)
  · obtain ⟨p,F,E,B,rfl,_⟩:=h
    rfl
  · obtain ⟨p,F,E,B,rfl,⟨dx,hp⟩,k⟩:=h
    refine ⟨_,pss_one (ps_ret (pe_op op_mul (pe_fld (pv 0) rfl) (pe_glob (v:=.int 2) rfl T.g_EACH ⟨_,rfl⟩))),?_⟩
    exact ⟨_,rfl,p,T.C_Layout,dx,_,_,rfl,hp,T.cl_Layout,T.n_Layout_slots,lay_slots _ _ _,_,_,rfl,rfl,.inr ⟨by decide,by decide⟩,k⟩
def spUsed (C:Addr):Sp:=fun vs H Q _=>∃ (p v:Addr) (F E:Nat) (B:Int) (as:List Addr) (rows:List (List Int)),vs=[.ref p,.ref v]∧Lay C H p F E B∧Vol H v as rows∧10 + F + E≤rows.length∧E≤8∧(∀ r∈rows,r.length=8) ∧
  ∀ (d:Addr) (kvs:List (Key×V)) (H':Hp),H d=none→Same H H'→H' d=some (.dK kvs)→UD H' (usl rows F (2 * E)) kvs rows F→Q (.ref d) H'
theorem valV_none {kvs:List (Key×V)}{k:Key}(h:∀ p∈kvs,p.1≠k):valV kvs k=none:=by
  unfold valV
  rw [List.find?_eq_none.mpr fun p hp=>by simpa using h p hp]
  rfl
theorem ok_used (T:Tx K mg):FnOk P w K mg base CX0 5 T.f_used_slots T.fd_used_slots ["layout","volume"] (spUsed T.C_Layout):=by
  refine T.F_used_slots.ok sc_used_slots (fun vs H Q E h=>?_) (fun cdv A outer s H vs Q E hr h=>?_)
  · obtain ⟨p,v,F,E,B,as,rows,rfl,_⟩:=h
    rfl
  · obtain ⟨p,v,F,E,B,as,rows,rfl,hL,hV,hlen,hE,h8,k⟩:=h
    have hu:_ + 1 < cLine:=Nat.lt_of_le_of_lt (Nat.add_le_add_left (by decide:1≤64) _) hr.units
    have r1:Room 1 _:=hr.mono (by decide)
    refine ⟨_,pss_cons (ps_set (i:=2) sc_used_slots.nd rfl (Or.inl rfl) pe_dnewK)
      (pss_cons (ps_for PassesOwn.never rfl (pi_range1 rfl T.z_range (pa_cons (pe_call (ok_many T) r1 rfl T.g_many_slots T.F_many_slots.kp T.b_many_slots .nil pass0 (pa_cons (pv 0) pa_nil)) pa_nil)) (pg_name (i:=3) sc_used_slots.nd rfl (Or.inl rfl))
        (pss_cons (ps_set (i:=4) sc_used_slots.nd rfl (Or.inl rfl) (pe_call (ok_slotN T) hr rfl T.g_slot T.F_slot.kp T.b_slot .nil pass0 (pa_cons (pv 0) (pa_cons (pv 1) (pa_cons (pv 3) pa_nil)))))
        (pss_one (ps_if (pt_cmpR op_eq (pe_ix ix_tup (pv 4) pe_int (fun _ _=>rfl)) (pe_glob (v:=.int 1) rfl T.g_USED ⟨_,rfl⟩) (nomark _)) (pss_one (ps_dput hu (pv 2) (pv 3) (pv 4) rfl)) pss_nil))))
      (pss_one (ps_ret (pv 2)))),?_⟩
    refine fun d fd=>?_
    have s0:Same H (upd H d (.dK [])):=Same.upd0 fd
    refine ⟨_,rfl,p,F,E,B,rfl,hL.same s0,(E:Int) * 2,rfl,by omega,by omega,?_⟩
    have en:((E:Int) * 2).toNat=2 * E:=by omega
    rw [en]
    refine for_range (lo:=0) (n:=2 * E) (fun i σ H'=>∃ x3 x4 kvs,σ=[some (.ref p),some (.ref v),some (.ref d),x3,x4]∧Same H H'∧H' d=some (.dK kvs)∧UD H' (usl rows F i) kvs rows F)
      ⟨none,none,[],rfl,s0,upd_same,rfl,fun i k x e=>by simp at e⟩ ?_ ?_
    · rintro i σ H' hi ⟨x3,x4,kvs,rfl,sH,hd,hU⟩
      have e0:(0:Int) + (i:Int)=(i:Int):=by omega
      rw [e0]
      refine ⟨_,rfl,_,rfl,_,rfl,p,v,F,E,B,i,as,rows,rfl,hL.same sH,hV.same sH,by omega,h8,fun t H1 s1 ht=>?_⟩
      have hd1:=s1 _ _ hd
      refine ⟨_,rfl,t,_,0,.int (slq rows F i 0),rfl,rfl,SqT.of ht,atI_nat (j:=0) rfl,rfl,_,rfl,ite2 (fun h=>?_) (fun h=>?_)⟩
      · have h1:slq rows F i 0=1:=by have:=of_decide_eq_true h;injection this
        have hnew:valV kvs (.inl (i:Int))=none:=valV_none fun q hq z=>by
          obtain ⟨j,hj,e⟩:=List.getElem_of_mem hq
          obtain ⟨s,t',g1,g2,_⟩:=hU.item j q.1 q.2 (by rw [List.getElem?_eq_getElem hj,e])
          rw [z] at g2
          have:(i:Int)=(s:Int):=by injection g2
          have hs:=usl_lt (List.mem_of_getElem? g1)
          omega
        refine ⟨_,rfl,_,rfl,_,rfl,d,_,rfl,DPut.k (k:=.inl (i:Int)) hd1 (small1000 (by have:=hU.len;have:=usl_len rows F i;omega)),?_⟩
        rw [putK_new _ hnew]
        refine ⟨_,_,kvs ++ [(.inl (i:Int),.ref t)],rfl,(sH.trans s1).updF fd,upd_same,?_⟩
        rw [usl_succ,if_pos h1]
        have tn:∀ b xs,H1 b=some (.tup xs)→upd H1 d (.dK (kvs ++ [(.inl (i:Int),.ref t)])) b=some (.tup xs):=fun b xs e=>by
          rw [upd_ne (fun z=>by rw [z,hd1] at e;cases e)];exact e
        refine ⟨by simp [hU.len],fun j k' x' e=>?_⟩
        rcases getApp (n:=(usl rows F i).length) hU.len e with ⟨hj,e⟩ | ⟨hj,e⟩
        · obtain ⟨s,t',g1,g2,g3,g4⟩:=hU.item j k' x' e
          exact ⟨s,t',by rw [List.getElem?_append_left hj];exact g1,g2,g3,tn _ _ (s1 _ _ g4)⟩
        · have hj0:j - (usl rows F i).length < 1:=by have:=(List.getElem?_eq_some_iff.mp e).1;simpa using this
          have ej:j - (usl rows F i).length=0:=by omega
          rw [ej] at e
          cases e
          exact ⟨i,t,by rw [List.getElem?_append_right hj,ej];rfl,rfl,rfl,tn _ _ ht⟩
      · have h1:¬ slq rows F i 0=1:=fun z=>h (by rw [z];rfl)
        refine ⟨_,_,kvs,rfl,sH.trans s1,hd1,?_⟩
        rw [usl_succ,if_neg h1,List.append_nil]
        exact hU.same fun b xs e=>s1 _ _ e
    rintro σ H1 ⟨x3,x4,kvs,rfl,sH,hd,hU⟩
    exact ⟨_,rfl,k d kvs H1 fd sH hd hU⟩
theorem ok_cell (T:Tx K mg):FnOk P w K mg base CX0 1 T.f_l_cell T.fd_l_cell ["_law_script","_law_k"] (spCell K):=by
  refine T.F_l_cell.ok sc_l_cell (fun vs H Q E h=>?_) (fun cdv A outer s H vs Q E hr h=>?_)
  · obtain ⟨a,ns,k,rfl,_⟩:=h
    rfl
  · obtain ⟨a,ns,k,rfl,hS,hl,q⟩:=h
    refine ⟨_,pss_cons (ps_if (pt_cmpR op_lt (pv 1) (pe_callB call_len_seq rfl T.z_len PySem.boot_len (pa_cons (pv 0) pa_nil)) (nomark _)) (pss_one (ps_ret (pe_ix ix_list (pv 0) (pv 1) (fun _ _=>rfl)))) pss_nil) (pss_one (ps_ret pe_int)),?_⟩
    refine ⟨_,rfl,_,rfl,a,_,rfl,.inl hS,_,_,rfl,rfl,_,rfl,ite2 (fun h=>?_) (fun h=>?_)⟩
    rotate_left
    · have hk:ns.length≤k:=by
        have:=of_decide_eq_false (Bool.eq_false_iff.mpr h)
        rw [List.length_map] at this
        omega
      rw [List.getD_eq_getElem?_getD,List.getElem?_eq_none hk] at q
      exact q
    have hk:k < ns.length:=by
      have:=of_decide_eq_true h
      rw [List.length_map] at this
      omega
    rw [List.getD_eq_getElem?_getD,List.getElem?_eq_getElem hk] at q
    exact ⟨_,rfl,_,rfl,a,_,k,.int ns[k],rfl,rfl,hS,atI_nat (by rw [List.getElem?_map,List.getElem?_eq_getElem hk];rfl),q⟩
theorem ok_mixed (T:Tx K mg):FnOk P w K mg base CX0 1 T.f_l_mixed T.fd_l_mixed ["_law_cell_here","_law_k"] spMixed:=by
  refine T.F_l_mixed.ok sc_l_mixed (fun vs H Q E h=>?_) (fun cdv A outer s H vs Q E hr h=>?_)
  · obtain ⟨c,k,rfl,_⟩:=h
    rfl
  · obtain ⟨c,k,rfl,q⟩:=h
    refine ⟨_,pss_cons (ps_set (i:=2) sc_l_mixed.nd rfl (Or.inl rfl) (pe_op op_mod (pe_op op_mul (pe_op op_add (pe_op op_add (pv 0) (pe_op op_mul pe_int (pv 1))) pe_int) pe_int) pe_int))
      (pss_one (ps_ret (pe_op op_mod (pe_op op_mul (pv 2) (pe_op op_add (pe_op op_fdiv (pv 2) pe_int) pe_int)) pe_int))),?_⟩
    refine ⟨_,rfl,_,rfl,_,_,rfl,rfl,.inl ⟨by decide,by decide⟩,_,_,rfl,rfl,_,_,rfl,rfl,_,_,rfl,rfl,.inr ⟨by decide,by decide⟩,_,_,rfl,rfl,(by show (0:Int) < 2147483647;decide),?_⟩
    have h0:0≤mixN c k:=Int.emod_nonneg _ (by decide)
    have h1:mixN c k < 2147483647:=Int.emod_lt_of_pos _ (by decide)
    exact ⟨_,rfl,_,rfl,_,_,rfl,rfl,⟨by decide,by decide⟩,_,_,rfl,rfl,_,_,rfl,rfl,.inl (show _ < mixN c k∧mixN c k < _ from ⟨by omega,by omega⟩),_,_,rfl,rfl,(by show (0:Int) < 2147483647;decide),q⟩
theorem ok_layout (T:Tx K mg):FnOk P w K mg base CX0 3 T.f_l_layout T.fd_l_layout ["_law_script"] (spLayout K T.C_Layout):=by
  refine T.F_l_layout.ok sc_l_layout (fun vs H Q E h=>?_) (fun cdv A outer s H vs Q E hr h=>?_)
  · obtain ⟨a,ns,rfl,_⟩:=h
    rfl
  · obtain ⟨a,ns,rfl,hS,hl,k⟩:=h
    have hr1:Room 1 _:=hr.mono (by decide)
    have hr2:Room 2 _:=hr.mono (by decide)
    refine ⟨_,pss_cons (ps_set (i:=1) sc_l_layout.nd rfl (Or.inl rfl) (pe_op op_add pe_int (pe_op op_mod (pe_call (ok_mixed T) hr1 rfl T.g_l_mixed T.F_l_mixed.kp T.b_l_mixed .nil pass0 (pa_cons (pe_call (ok_cell T) hr1 rfl T.g_l_cell T.F_l_cell.kp T.b_l_cell .nil pass0 (pa_cons (pv 0) (pa_cons pe_int pa_nil))) (pa_cons pe_int pa_nil))) pe_int)))
      (pss_cons (ps_set (i:=2) sc_l_layout.nd rfl (Or.inl rfl) (pe_op op_add pe_int (pe_op op_mod (pe_call (ok_mixed T) hr1 rfl T.g_l_mixed T.F_l_mixed.kp T.b_l_mixed .nil pass0 (pa_cons (pe_call (ok_cell T) hr1 rfl T.g_l_cell T.F_l_cell.kp T.b_l_cell .nil pass0 (pa_cons (pv 0) (pa_cons pe_int pa_nil))) (pa_cons pe_int pa_nil))) pe_int)))
      (pss_cons (ps_set (i:=3) sc_l_layout.nd rfl (Or.inl rfl) (pe_op op_add pe_int (pe_op op_mod (pe_call (ok_mixed T) hr1 rfl T.g_l_mixed T.F_l_mixed.kp T.b_l_mixed .nil pass0 (pa_cons (pe_call (ok_cell T) hr1 rfl T.g_l_cell T.F_l_cell.kp T.b_l_cell .nil pass0 (pa_cons (pv 0) (pa_cons pe_int pa_nil))) (pa_cons pe_int pa_nil))) pe_int)))
      (pss_one (ps_ret (pe_makeX T.mk_Layout (ok_init T) hr2 rfl T.g_Layout T.b_Layout_init .nil takes0 (pa_cons (pv 1) (pa_cons (pv 2) (pa_cons (pv 3) pa_nil)))))))),?_⟩
    refine ⟨_,rfl,a,ns,0,rfl,hS,hl,_,1,rfl,_,_,rfl,rfl,(by show (0:Int) < 11;decide),_,_,rfl,rfl,?_⟩
    refine ⟨_,rfl,a,ns,0,rfl,hS,hl,_,2,rfl,_,_,rfl,rfl,(by show (0:Int) < 8;decide),_,_,rfl,rfl,?_⟩
    refine ⟨_,rfl,a,ns,0,rfl,hS,hl,_,3,rfl,_,_,rfl,rfl,(by show (0:Int) < 39;decide),_,_,rfl,rfl,?_⟩
    have ok:LayOk (2 + mix (ns.getD 0 0) 1 % 11) (1 + mix (ns.getD 0 0) 2 % 8) (2 + mix (ns.getD 0 0) 3 % 39):=⟨by omega,by omega,by omega,by omega,by omega,by omega⟩
    refine ⟨_,rfl,_,rfl,_,rfl,fun x dx nx ndx ne=>⟨x,dx,_,_,_,rfl,upd_same,fun _ H' e1 kp=>⟨rfl,k x _ _ _ H' ok ⟨dx,e1⟩ fun b o e=>kp b o ?_ (ne_of_none e nx)⟩,fun no=>absurd ok no⟩⟩
    rw [upd_ne (ne_of_none e nx),upd_ne (ne_of_none e ndx)]
    exact e
end
end K62
namespace K62
open PySem L2 PyProof.Rows PySem.W
section
variable {P:Program}{w:World}{K:PySem.W.Frag}{mg:Str→Option Value}{base:Heap}
def sof (rows:List (List Int)) (F E:Nat) (fo nm:Int):Option Nat:=(usl rows F (2 * E)).find? fun s=>decide (slq rows F s 1=fo) && decide (slq rows F s 2=nm)
def optN:Option Nat→V
  | none=>.non
  | some s=>.int (s:Int)
structure VV (C:Addr) (H:Hp) (p v:Addr) (F E:Nat) (B:Int) (as:List Addr) (rows:List (List Int)):Prop where
  lay:Lay C H p F E B
  vol:Vol H v as rows
  len:10 + F + E≤rows.length
  e8:E≤8
  r8:∀ r∈rows,r.length=8
  f12:F≤12
theorem VV.same {C:Addr}{H H':Hp}{p v:Addr}{F E:Nat}{B:Int}{as:List Addr}{rows:List (List Int)}(h:VV C H p v F E B as rows) (s:Same H H'):VV C H' p v F E B as rows:=⟨h.lay.same s,h.vol.same s,h.len,h.e8,h.r8,h.f12⟩
def spSO (C:Addr):Sp:=fun vs H Q _=>∃ (p v:Addr) (F E:Nat) (B fo nm:Int) (as:List Addr) (rows:List (List Int)),vs=[.ref p,.ref v,.int fo,.int nm]∧VV C H p v F E B as rows∧∀ H',Same H H'→Q (optN (sof rows F E fo nm)) H'
theorem find_at {us:List Nat}{f:Nat→Bool}{i s:Nat}(h:us[i]?=some s) (hf:f s=true) (hn:∀ j t,j < i→us[j]?=some t→f t=false):us.find? f=some s:=by
  rw [List.find?_eq_some_iff_getElem]
  have hi:i < us.length:=(List.getElem?_eq_some_iff.mp h).1
  refine ⟨hf,i,hi,by rw [List.getElem?_eq_getElem hi] at h;exact Option.some.inj h,fun j hj=>?_⟩
  rw [hn j _ hj (List.getElem?_eq_getElem (by omega))]
  rfl
theorem ok_slotof (T:Tx K mg):FnOk P w K mg base CX0 6 T.f_slot_of T.fd_slot_of ["layout","volume","folder","name"] (spSO T.C_Layout):=by
  refine T.F_slot_of.ok sc_slot_of (fun vs H Q E h=>?_) (fun cdv A outer s H vs Q E hr h=>?_)
  · obtain ⟨p,v,F,E,B,fo,nm,as,rows,rfl,_⟩:=h
    rfl
  · obtain ⟨p,v,F,E,B,fo,nm,as,rows,rfl,hV,k⟩:=h
    refine ⟨_,pss_cons (ps_for PassesOwn.never rfl (pi_items (pe_call (ok_used T) hr rfl T.g_used_slots T.F_used_slots.kp T.b_used_slots .nil pass0 (pa_cons (pv 0) (pa_cons (pv 1) pa_nil)))) (pg_pair (i:=4) (j:=5) (K:=K) rfl rfl sc_slot_of.nd rfl rfl rfl rfl)
        (pss_one (ps_if (PW.pt (pw_and (pt_cmpR op_eq (pe_ix ix_tup (pv 5) pe_int (fun _ _=>rfl)) (pv 2) (nomark _)) (pw_and1 (pt_cmpR op_eq (pe_ix ix_tup (pv 5) pe_int (fun _ _=>rfl)) (pv 3) (nomark _))))) (pss_one (ps_ret (pv 4))) pss_nil)))
      (pss_one (ps_ret pe_non)),?_⟩
    refine ⟨_,rfl,_,rfl,p,v,F,E,B,as,rows,rfl,hV.lay,hV.vol,hV.len,hV.e8,hV.r8,fun d kvs H1 fd s1 hd hU=>⟨d,kvs,rfl,hd,fun ob=>?_⟩⟩
    have sF:Same H (upd H1 d (.frz ob (.dK kvs))):=s1.updF fd
    have hF:upd H1 d (.frz ob (.dK kvs)) d=some (.frz ob (.dK kvs)):=upd_same
    have hU1:UD (upd H1 d (.frz ob (.dK kvs))) (usl rows F (2 * E)) kvs rows F:=hU.same fun b xs e=>by
      rw [upd_ne (fun z=>by rw [z,hd] at e;cases e)];exact e
    have k:∀ H',Same H H'→Q (optN ((usl rows F (2 * E)).find? fun s=>decide (slq rows F s 1=fo) && decide (slq rows F s 2=nm))) H':=k
    generalize upd H1 d (.frz ob (.dK kvs))=H2 at sF hF hU1 ⊢
    generalize usl rows F (2 * E)=us at hU1 k
    refine for_items (fun i σ H'=>∃ x4 x5,σ=[some (.ref p),some (.ref v),some (.int fo),some (.int nm),x4,x5]∧Same H2 H'∧∀ j t,j < i→us[j]?=some t→(decide (slq rows F t 1=fo) && decide (slq rows F t 2=nm))=false)
      ⟨none,none,rfl,Same.refl _,fun j t h=>absurd h (Nat.not_lt_zero _)⟩ (fun i σ H' _ ⟨_,_,_,sH,_⟩=>sH _ _ hF) ?_ ?_
    · rintro i k' x σ H' q ex ⟨x4,x5,rfl,sH,hno⟩ fq
      obtain ⟨s,t,g1,rfl,rfl,g4⟩:=hU1.item i k' x ex
      have sq:Same H2 (upd H' q (.tup [kV (.inl (s:Int)),.ref t])):=sH.upd fq
      refine ⟨q,_,rfl,SqT.of upd_same,rfl,_,_,rfl,_,_,rfl,rfl,?_⟩
      have ht:=sq _ _ g4
      have nx:∀ c,(decide (slq rows F s 1=fo) && decide (slq rows F s 2=nm))=c→c=false→∀ j t,j < i + 1→us[j]?=some t→(decide (slq rows F t 1=fo) && decide (slq rows F t 2=nm))=false:=fun c e1 e2 j t hj ej=>by
        by_cases z:j=i
        · subst z
          rw [g1] at ej
          cases ej
          rw [e1,e2]
        · exact hno j t (by omega) ej
      refine ⟨_,rfl,t,_,1,.int (slq rows F s 1),rfl,rfl,SqT.of ht,atI_nat (j:=1) rfl,_,rfl,rfl,_,rfl,?_⟩
      by_cases c1:slq rows F s 1=fo
      rotate_left
      · exact iteDF (int_ne c1) (iteF ⟨_,_,rfl,sq,nx _ (by rw [decide_eq_false c1];rfl) rfl⟩)
      refine iteD (by rw [c1]) ⟨_,rfl,t,_,2,.int (slq rows F s 2),rfl,rfl,SqT.of ht,atI_nat (j:=2) rfl,_,rfl,rfl,_,rfl,?_⟩
      by_cases c2:slq rows F s 2=nm
      rotate_left
      · exact iteDF (int_ne c2) ⟨_,_,rfl,sq,nx _ (by rw [decide_eq_false c2];simp) rfl⟩
      refine iteD (by rw [c2]) ⟨_,rfl,?_⟩
      have:=k _ (sF.trans sq)
      rw [find_at g1 (by rw [decide_eq_true c1,decide_eq_true c2];rfl) hno] at this
      exact this
    rintro σ H' ⟨x4,x5,rfl,sH,hno⟩
    have:=k _ (sF.trans sH)
    rw [List.find?_eq_none.mpr (fun t ht=>by
      obtain ⟨j,hj,e⟩:=List.getElem_of_mem ht
      rw [hno j t (by rw [hU1.len];exact hj) (by rw [List.getElem?_eq_getElem hj,e])]
      decide)] at this
    exact this
end
end K62
namespace K62
open PySem L2 PyProof.Rows PySem.W
section
variable {P:Program}{w:World}{K:PySem.W.Frag}{mg:Str→Option Value}{base:Heap}
theorem Vol.rowAt {H:Hp}{v:Addr}{as:List Addr}{rows:List (List Int)}(x:Vol H v as rows) {i:Nat}{r:List Int}(e:rows[i]?=some r):∃ a,as[i]?=some a∧atI (as.map V.ref) (i:Int)=some (.ref a)∧H a=some (.lst (r.map V.int)):=by
  have hi:i < as.length:=by rw [x.len];exact (List.getElem?_eq_some_iff.mp e).1
  have ea:as[i]?=some as[i]:=List.getElem?_eq_getElem hi
  exact ⟨as[i],ea,atI_nat (by rw [List.getElem?_map,ea];rfl),x.row i _ r ea e⟩
structure R8 where
  k:Int
  s:Int
  n:Int
  f:Int
  p:Int
  q:Int
  u:Int
  m:Int
def R8.list (r:R8):List Int:=[r.k,r.s,r.n,r.f,r.p,r.q,r.u,r.m]
def recF (t:Addr) (r:R8):List (Str×V):=putF "more" (.int r.m) (putF "first" (.ref t) (putF "found" (.int r.f) (putF "names" (.int r.n) (putF "size" (.int r.s) (putF "kind" (.int r.k) ([]))))))
theorem rec_size (t:Addr) (r:R8):(recF t r).lookup ("size":Str)=some (.int r.s):=by
  unfold recF
  rw [lookup_putF,if_neg (by decide +kernel),lookup_putF,if_neg (by decide +kernel),lookup_putF,if_neg (by decide +kernel),lookup_putF,if_neg (by decide +kernel),lookup_putF,if_pos rfl]
theorem rec_found (t:Addr) (r:R8):(recF t r).lookup ("found":Str)=some (.int r.f):=by
  unfold recF
  rw [lookup_putF,if_neg (by decide +kernel),lookup_putF,if_neg (by decide +kernel),lookup_putF,if_pos rfl]
theorem rec_first (t:Addr) (r:R8):(recF t r).lookup ("first":Str)=some (.ref t):=by
  unfold recF
  rw [lookup_putF,if_neg (by decide +kernel),lookup_putF,if_pos rfl]
theorem rec_more (t:Addr) (r:R8):(recF t r).lookup ("more":Str)=some (.int r.m):=by
  unfold recF
  rw [lookup_putF,if_pos rfl]
theorem rec_no_wants (t:Addr) (r:R8):(recF t r).lookup ("wants":Str)=none:=by
  unfold recF
  rw [lookup_putF,if_neg (by decide +kernel),lookup_putF,if_neg (by decide +kernel),lookup_putF,if_neg (by decide +kernel),lookup_putF,if_neg (by decide +kernel),lookup_putF,if_neg (by decide +kernel),lookup_putF,if_neg (by decide +kernel)]
  rfl
theorem rec_no_keeps (t:Addr) (r:R8):(recF t r).lookup ("keeps":Str)=none:=by
  unfold recF
  rw [lookup_putF,if_neg (by decide +kernel),lookup_putF,if_neg (by decide +kernel),lookup_putF,if_neg (by decide +kernel),lookup_putF,if_neg (by decide +kernel),lookup_putF,if_neg (by decide +kernel),lookup_putF,if_neg (by decide +kernel)]
  rfl
def Rec (C:Addr) (H:Hp) (p:Addr) (r:R8):Prop:=∃ dx t,H p=some (.ins C dx (recF t r))∧H t=some (.tup [.int r.p,.int r.q,.int r.u])
theorem Rec.same {C:Addr}{H H':Hp}{p:Addr}{r:R8}(h:Rec C H p r) (s:Same H H'):Rec C H' p r:=let ⟨dx,t,h1,h2⟩:=h;⟨dx,t,s _ _ h1,s _ _ h2⟩
def D (T:Tx K mg) (C:Addr):Prop:=C=T.C_FileRecord∨C=T.C_FolderRecord∨C=T.C_FreeRecord
theorem D.cls {T:Tx K mg}{C:Addr}(h:D T C):Cls K C:=by
  rcases h with rfl | rfl | rfl
  · exact T.cl_FileRecord
  · exact T.cl_FolderRecord
  · exact T.cl_FreeRecord
theorem D.n_kind {T:Tx K mg}{C:Addr}(h:D T C):NoAttr K C "kind":=by
  rcases h with rfl | rfl | rfl
  · exact T.n_FileRecord_kind
  · exact T.n_FolderRecord_kind
  · exact T.n_FreeRecord_kind
theorem D.n_size {T:Tx K mg}{C:Addr}(h:D T C):NoAttr K C "size":=by
  rcases h with rfl | rfl | rfl
  · exact T.n_FileRecord_size
  · exact T.n_FolderRecord_size
  · exact T.n_FreeRecord_size
theorem D.n_names {T:Tx K mg}{C:Addr}(h:D T C):NoAttr K C "names":=by
  rcases h with rfl | rfl | rfl
  · exact T.n_FileRecord_names
  · exact T.n_FolderRecord_names
  · exact T.n_FreeRecord_names
theorem D.n_found {T:Tx K mg}{C:Addr}(h:D T C):NoAttr K C "found":=by
  rcases h with rfl | rfl | rfl
  · exact T.n_FileRecord_found
  · exact T.n_FolderRecord_found
  · exact T.n_FreeRecord_found
theorem D.n_first {T:Tx K mg}{C:Addr}(h:D T C):NoAttr K C "first":=by
  rcases h with rfl | rfl | rfl
  · exact T.n_FileRecord_first
  · exact T.n_FolderRecord_first
  · exact T.n_FreeRecord_first
theorem D.n_more {T:Tx K mg}{C:Addr}(h:D T C):NoAttr K C "more":=by
  rcases h with rfl | rfl | rfl
  · exact T.n_FileRecord_more
  · exact T.n_FolderRecord_more
  · exact T.n_FreeRecord_more
def spRInit (T:Tx K mg):Sp:=fun vs H Q _=>∃ (p dx C a:Addr) (r:R8),vs=[.ref p,.ref a]∧D T C∧H p=some (.ins C dx [])∧H a=some (.lst (r.list.map V.int)) ∧
  ∀ (H':Hp) (t:Addr),H' p=some (.ins C dx (recF t r))→H' t=some (.tup [.int r.p,.int r.q,.int r.u])→(∀ b o,H b=some o→b≠p→H' b=some o)→Q .non H'
def classOf (T:Tx K mg) (k:Int):Addr:=if k=1 then T.C_FileRecord else if k=2 then T.C_FolderRecord else T.C_FreeRecord
theorem classOf_D (T:Tx K mg) (k:Int):D T (classOf T k):=by
  unfold classOf
  by_cases h1:k=1
  · rw [if_pos h1];exact .inl rfl
  · rw [if_neg h1]
    by_cases h2:k=2
    · rw [if_pos h2];exact .inr (.inl rfl)
    · rw [if_neg h2];exact .inr (.inr rfl)
def spRecOf (T:Tx K mg):Sp:=fun vs H Q _=>∃ (a:Addr) (r:R8),vs=[.ref a]∧H a=some (.lst (r.list.map V.int))∧∀ (p:Addr) (H':Hp),Same H H'→Rec (classOf T r.k) H' p r→Q (.ref p) H'
theorem ok_rinit (T:Tx K mg):FnOk P w K mg base CX0 1 T.f_Record_init T.fd_Record_init ["self","row"] (spRInit T):=by
  refine T.F_Record_init.ok sc_Record_init (fun vs H Q E h=>?_) (fun cdv A outer s H vs Q E hr h=>?_)
  · obtain ⟨p,dx,C,a,r,rfl,_⟩:=h
    rfl
  · obtain ⟨p,dx,C,a,r,rfl,hD,hp,ha,k⟩:=h
    refine ⟨_,pss_cons (ps_fld (pv 0) (pe_ix ix_list (pv 1) (pe_glob (v:=.int 0) rfl T.g_KIND_AT ⟨_,rfl⟩) (fun _ _=>rfl)) rfl) (pss_cons (ps_fld (pv 0) (pe_ix ix_list (pv 1) (pe_glob (v:=.int 1) rfl T.g_SIZE_AT ⟨_,rfl⟩) (fun _ _=>rfl)) rfl) (pss_cons (ps_fld (pv 0) (pe_ix ix_list (pv 1) (pe_glob (v:=.int 2) rfl T.g_NAMES_AT ⟨_,rfl⟩) (fun _ _=>rfl)) rfl) (pss_cons (ps_fld (pv 0) (pe_ix ix_list (pv 1) (pe_glob (v:=.int 3) rfl T.g_FOUND_AT ⟨_,rfl⟩) (fun _ _=>rfl)) rfl)
      (pss_cons (ps_fld (pv 0) (pe_callTy call_tuple_of rfl T.z_tuple (by kernel_rfl) (pa_cons (pe_slice sl_list (pv 1) (po_some (pe_glob (v:=.int 4) rfl T.g_FIRST_AT ⟨_,rfl⟩)) (po_some (pe_glob (v:=.int 7) rfl T.g_MORE_AT ⟨_,rfl⟩))) pa_nil)) rfl) (pss_one (ps_fld (pv 0) (pe_ix ix_list (pv 1) (pe_glob (v:=.int 7) rfl T.g_MORE_AT ⟨_,rfl⟩) (fun _ _=>rfl)) rfl)))))),?_⟩
    have np:a≠p:=ne_of ha hp (by intro z;cases z)
    have L:∀ {fs:List (Str×V)},fs.length≤10→fs.length < 1000:=fun h=>by omega
    refine ⟨_,rfl,a,_,0,.int r.k,rfl,rfl,SqL.of ha,atI_nat (j:=0) rfl,_,rfl,p,C,dx,_,rfl,hp,hD.cls,hD.n_kind,(by show 0 < 1000;decide),?_⟩
    refine ⟨_,rfl,a,_,1,.int r.s,rfl,rfl,SqL.of (by rw [upd_ne np];exact ha),atI_nat (j:=1) rfl,_,rfl,p,C,dx,_,rfl,upd_same,hD.cls,hD.n_size,L (Nat.le_trans (length_putF _ _ _) (by decide)),?_⟩
    refine ⟨_,rfl,a,_,2,.int r.n,rfl,rfl,SqL.of (by rw [upd_ne np,upd_ne np];exact ha),atI_nat (j:=2) rfl,_,rfl,p,C,dx,_,rfl,upd_same,hD.cls,hD.n_names,?_,?_⟩
    · exact L (Nat.le_trans (length_putF _ _ _) (Nat.le_trans (Nat.add_le_add_right (length_putF _ _ _) 1) (by decide)))
    refine ⟨_,rfl,a,_,3,.int r.f,rfl,rfl,SqL.of (by rw [upd_ne np,upd_ne np,upd_ne np];exact ha),atI_nat (j:=3) rfl,_,rfl,p,C,dx,_,rfl,upd_same,hD.cls,hD.n_found,?_,?_⟩
    · exact L (Nat.le_trans (length_putF _ _ _) (Nat.le_trans (Nat.add_le_add_right (length_putF _ _ _) 1) (Nat.le_trans (Nat.add_le_add_right (length_putF _ _ _) 2) (by decide))))
    have ha4:∀ {o1 o2 o3 o4:HO},upd (upd (upd (upd H p o1) p o2) p o3) p o4 a=some (.lst (r.list.map V.int)):=fun {_ _ _ _}=>by rw [upd_ne np,upd_ne np,upd_ne np,upd_ne np];exact ha
    refine ⟨_,rfl,_,rfl,_,rfl,a,_,rfl,SqL.of ha4,fun z hz=>?_⟩
    have ha5:∀ {o1 o2 o3 o4 o5:HO},upd (upd (upd (upd (upd H p o1) p o2) p o3) p o4) z o5 a=some (.lst (r.list.map V.int)):=fun {_ _ _ _ _}=>by rw [upd_ne (ne_of_none ha4 hz)];exact ha4
    refine ⟨z,_,rfl,.inl ⟨SqL.of upd_same,fun t ht=>?_⟩⟩
    have nz:p≠z:=by intro y;rw [← y,upd_same] at hz;cases hz
    have nt:p≠t:=by intro y;rw [← y,upd_ne nz,upd_same] at ht;cases ht
    have na:a≠t:=ne_of_none ha5 ht
    have nzt:z≠t:=by intro y;rw [← y,upd_same] at ht;cases ht
    have cut:cutV (r.list.map V.int) (some 4) (some 7)=[.int r.p,.int r.q,.int r.u]:=rfl
    rw [cut] at ht ⊢
    refine ⟨_,rfl,p,C,dx,_,rfl,(by rw [upd_ne nt,upd_ne nz,upd_same]),hD.cls,hD.n_first,?_,?_⟩
    · exact L (Nat.le_trans (length_putF _ _ _) (Nat.le_trans (Nat.add_le_add_right (length_putF _ _ _) 1) (Nat.le_trans (Nat.add_le_add_right (length_putF _ _ _) 2) (Nat.le_trans (Nat.add_le_add_right (length_putF _ _ _) 3) (by decide)))))
    refine ⟨_,rfl,a,_,7,.int r.m,rfl,rfl,SqL.of (by rw [upd_ne np,upd_ne na];exact ha5),atI_nat (j:=7) rfl,_,rfl,p,C,dx,_,rfl,upd_same,hD.cls,hD.n_more,?_,?_⟩
    · exact L (Nat.le_trans (length_putF _ _ _) (Nat.le_trans (Nat.add_le_add_right (length_putF _ _ _) 1) (Nat.le_trans (Nat.add_le_add_right (length_putF _ _ _) 2) (Nat.le_trans (Nat.add_le_add_right (length_putF _ _ _) 3) (Nat.le_trans (Nat.add_le_add_right (length_putF _ _ _) 4) (by decide))))))
    refine k _ t upd_same (by rw [upd_ne (Ne.symm nt),upd_ne (Ne.symm nt),upd_same]) fun b o e hb=>?_
    have e4:∀ {o1 o2 o3 o4:HO},upd (upd (upd (upd H p o1) p o2) p o3) p o4 b=some o:=fun {_ _ _ _}=>by rw [upd_ne hb,upd_ne hb,upd_ne hb,upd_ne hb];exact e
    have e5:∀ {o1 o2 o3 o4 o5:HO},upd (upd (upd (upd (upd H p o1) p o2) p o3) p o4) z o5 b=some o:=fun {_ _ _ _ _}=>by rw [upd_ne (ne_of_none e4 hz)];exact e4
    rw [upd_ne hb,upd_ne hb,upd_ne (ne_of_none e5 ht)]
    exact e5
theorem ok_recof (T:Tx K mg):FnOk P w K mg base CX0 3 T.f_record_of T.fd_record_of ["row"] (spRecOf T):=by
  refine T.F_record_of.ok sc_record_of (fun vs H Q E h=>?_) (fun cdv A outer s H vs Q E hr h=>?_)
  · obtain ⟨a,r,rfl,_⟩:=h
    rfl
  · obtain ⟨a,r,rfl,ha,k⟩:=h
    refine ⟨_,pss_cons (ps_if (pt_cmpR op_eq (pe_ix ix_list (pv 0) (pe_glob (v:=.int 0) rfl T.g_KIND_AT ⟨_,rfl⟩) (fun _ _=>rfl)) (pe_glob (v:=.int 1) rfl T.g_FILE ⟨_,rfl⟩) (nomark _)) (pss_one (ps_ret (pe_make T.mk_FileRecord (ok_rinit T) hr rfl T.g_FileRecord T.b_Record_init .nil pass0 (pa_cons (pv 0) pa_nil)))) pss_nil)
      (pss_cons (ps_if (pt_cmpR op_eq (pe_ix ix_list (pv 0) (pe_glob (v:=.int 0) rfl T.g_KIND_AT ⟨_,rfl⟩) (fun _ _=>rfl)) (pe_glob (v:=.int 2) rfl T.g_FOLDER ⟨_,rfl⟩) (nomark _)) (pss_one (ps_ret (pe_make T.mk_FolderRecord (ok_rinit T) hr rfl T.g_FolderRecord T.b_Record_init .nil pass0 (pa_cons (pv 0) pa_nil)))) pss_nil)
      (pss_one (ps_ret (pe_make T.mk_FreeRecord (ok_rinit T) hr rfl T.g_FreeRecord T.b_Record_init .nil pass0 (pa_cons (pv 0) pa_nil))))),?_⟩
    have made:∀ C,classOf T r.k=C→D T C→∀ x dx,H x=none→H dx=none→dx≠x→spRInit T [.ref x,.ref a] (upd (upd H dx (.own x)) x (.ins C dx [])) (fun v H2=>v=.non∧Q (.ref x) H2) E0:=fun C eC hD x dx hx hdx ne=>by
      refine ⟨x,dx,C,a,r,rfl,hD,upd_same,by rw [upd_ne (ne_of_none ha hx),upd_ne (ne_of_none ha hdx)];exact ha,fun H' t h1 h2 kp=>⟨rfl,k x H' (fun b o e=>kp b o (by rw [upd_ne (ne_of_none e hx),upd_ne (ne_of_none e hdx)];exact e) (ne_of_none e hx)) ?_⟩⟩
      rw [eC]
      exact ⟨dx,t,h1,h2⟩
    refine ⟨_,rfl,a,_,0,.int r.k,rfl,rfl,SqL.of ha,atI_nat (j:=0) rfl,rfl,_,rfl,ite2 (fun h=>?_) (fun h=>?_)⟩
    · have e1:r.k=1:=by have:=of_decide_eq_true h;injection this
      exact ⟨_,rfl,made _ (by unfold classOf;rw [if_pos e1]) (.inl rfl)⟩
    have e1:¬ r.k=1:=fun z=>h (by simp [z])
    refine ⟨_,rfl,a,_,0,.int r.k,rfl,rfl,SqL.of ha,atI_nat (j:=0) rfl,rfl,_,rfl,ite2 (fun h=>?_) (fun h=>?_)⟩
    · have e2:r.k=2:=by have:=of_decide_eq_true h;injection this
      exact ⟨_,rfl,made _ (by unfold classOf;rw [if_neg e1,if_pos e2]) (.inr (.inl rfl))⟩
    have e2:¬ r.k=2:=fun z=>h (by simp [z])
    exact ⟨_,rfl,made _ (by unfold classOf;rw [if_neg e1,if_neg e2]) (.inr (.inr rfl))⟩
theorem ty_of {T:Tx K mg}{C:Addr}{H:Hp}{p:Addr}{r:R8}(hD:D T C) (hR:Rec C H p r):TyOf K H (.ref p) (.ref C):=by
  obtain ⟨dx,t,hp,_⟩:=hR
  have c:=hD.cls
  rcases hD with rfl | rfl | rfl
  · exact TyOf.ins hp c T.ha_File T.hn_class T.tk_class T.o_File
  · exact TyOf.ins hp c T.ha_Folder T.hn_class T.tk_class T.o_Folder
  · exact TyOf.ins hp c T.ha_Free T.hn_class T.tk_class T.o_Free
def clsIn (T:Tx K mg) (f:Nat) (k:Int):Addr:=if f=0 then T.C_FolderRecord else classOf T k
theorem clsIn_D (T:Tx K mg) (f:Nat) (k:Int):D T (clsIn T f k):=by
  unfold clsIn
  by_cases h:f=0
  · rw [if_pos h];exact .inr (.inl rfl)
  · rw [if_neg h];exact classOf_D T k
theorem clsIn_file (T:Tx K mg) {f:Nat}{k:Int}(hf:f≠0) (hk:k=1):clsIn T f k=T.C_FileRecord:=by
  unfold clsIn classOf
  rw [if_neg hf,if_pos hk]
theorem clsIn_no (T:Tx K mg) {f:Nat}{k:Int}(h:f=0∨k≠1):PySem.W.kitOne K (.ref (clsIn T f k)) (.ref T.C_FileRecord)=some false:=by
  unfold clsIn classOf
  by_cases hf:f=0
  · rw [if_pos hf];exact T.k21
  · have hk:k≠1:=h.resolve_left hf
    rw [if_neg hf,if_neg hk]
    by_cases h2:k=2
    · rw [if_pos h2];exact T.k21
    · rw [if_neg h2];exact T.k31
def spRecIn (T:Tx K mg):Sp:=fun vs H Q _=>∃ (p v:Addr) (F E B:Int) (f:Nat) (as:List Addr) (rows:List (List Int)) (r:R8),vs=[.ref p,.ref v,.int f]∧Lay T.C_Layout H p F E B∧Vol H v as rows∧rows[10 + f]?=some r.list ∧
  ∀ (q:Addr) (H':Hp),Same H H'→Rec (clsIn T f r.k) H' q r→Q (.ref q) H'
theorem ok_recin (T:Tx K mg):FnOk P w K mg base CX0 4 T.f_record_in T.fd_record_in ["layout","volume","f"] (spRecIn T):=by
  refine T.F_record_in.ok sc_record_in (fun vs H Q E h=>?_) (fun cdv A outer s H vs Q E hr h=>?_)
  · obtain ⟨p,v,F,E,B,f,as,rows,r,rfl,_⟩:=h
    rfl
  · obtain ⟨p,v,F,E,B,f,as,rows,r,rfl,⟨dx,hp⟩,hV,er,k⟩:=h
    have r1:Room 1 _:=hr.mono (by decide)
    have r2:Room 2 _:=hr.mono (by decide)
    have r3:Room 3 _:=hr.mono (by decide)
    refine ⟨_,pss_cons (ps_set (i:=3) sc_record_in.nd rfl (Or.inl rfl) (pe_ix ix_list (pv 1) (pe_meth (pv 0) T.cl_Layout T.m_Layout_record_at (ok_record_at T) r1 T.b_Layout_record_at .nil pass0 (pa_cons (pv 2) pa_nil)) (fun _ _=>rfl)))
      (pss_cons (ps_if (pt_cmpR op_eq (pv 2) pe_int (nomark _)) (pss_one (ps_ret (pe_make T.mk_FolderRecord (ok_rinit T) r2 rfl T.g_FolderRecord T.b_Record_init .nil pass0 (pa_cons (pv 3) pa_nil)))) pss_nil)
      (pss_one (ps_ret (pe_call (ok_recof T) r3 rfl T.g_record_of T.F_record_of.kp T.b_record_of .nil pass0 (pa_cons (pv 3) pa_nil))))),?_⟩
    have hi:10 + f < as.length:=by rw [hV.len];exact (List.getElem?_eq_some_iff.mp er).1
    have ea:as[10 + f]?=some as[10 + f]:=List.getElem?_eq_getElem hi
    have ha:=hV.row _ _ _ ea er
    generalize as[10 + f]=a at ea ha
    have ei:(10:Int) + (f:Int)=((10 + f:Nat):Int):=by omega
    refine ⟨_,rfl,_,rfl,p,dx,_,rfl,hp,lay_no _ _ _ (by decide +kernel) (by decide +kernel) (by decide +kernel),_,rfl,p,F,E,B,f,rfl,⟨dx,hp⟩,v,_,_,.ref a,rfl,rfl,SqL.of hV.top,(by show atI _ (10 + (f:Int))=_;rw [ei];exact atI_nat (by rw [List.getElem?_map,ea];rfl)),?_⟩
    refine ⟨_,rfl,rfl,_,rfl,ite2 (fun h=>?_) (fun h=>?_)⟩
    · have f0:f=0:=by
        have:=of_decide_eq_true h
        injection this with this
        omega
      refine ⟨_,rfl,fun x dx' hx hdx ne=>?_⟩
      refine ⟨x,dx',T.C_FolderRecord,a,r,rfl,.inr (.inl rfl),upd_same,by rw [upd_ne (ne_of_none ha hx),upd_ne (ne_of_none ha hdx)];exact ha,fun H' t h1 h2 kp=>⟨rfl,k x H' (fun b o e=>kp b o (by rw [upd_ne (ne_of_none e hx),upd_ne (ne_of_none e hdx)];exact e) (ne_of_none e hx)) ?_⟩⟩
      unfold clsIn
      rw [if_pos f0]
      exact ⟨dx',t,h1,h2⟩
    · have f0:¬ f=0:=fun z=>h (by rw [z];rfl)
      refine ⟨_,rfl,a,r,rfl,ha,fun q H' s1 hR=>k q H' s1 ?_⟩
      unfold clsIn
      rw [if_neg f0]
      exact hR
theorem r8_of {r:List Int}(h:r.length=8):∃ R:R8,R.list=r:=by
  match r,h with
  | [a,b,c,d,e,f,g,i],_=>exact ⟨⟨a,b,c,d,e,f,g,i⟩,rfl⟩
end
end K62
namespace K62
open PySem L2 PyProof.Rows PySem.W
section
variable {P:Program}{w:World}{K:PySem.W.Frag}{mg:Str→Option Value}{base:Heap}
def kd (rows:List (List Int)) (f:Nat):Int:=(rows.getD (10 + f) []).getD 0 0
def fnd (rows:List (List Int)) (f:Nat):Int:=(rows.getD (10 + f) []).getD 3 0
def isfd (rows:List (List Int)) (F:Nat) (f:Int):Bool:=decide (1≤f) && decide (f < (F:Int)) && (!(!decide (kd rows f.toNat=1) && !decide (kd rows f.toNat=2)) && decide (fnd rows f.toNat=1))
theorem kitFree (T:Tx K mg) {f:Nat}(hf:f≠0) (k:Int):PySem.W.kitOne K (.ref (clsIn T f k)) (.ref T.C_FreeRecord)=some (!decide (k=1) && !decide (k=2)):=by
  unfold clsIn classOf
  rw [if_neg hf]
  by_cases h1:k=1
  · rw [if_pos h1,decide_eq_true h1];exact T.k13
  · rw [if_neg h1,decide_eq_false h1]
    by_cases h2:k=2
    · rw [if_pos h2,decide_eq_true h2];exact T.k23
    · rw [if_neg h2,decide_eq_false h2];exact T.k33
theorem kitFile (T:Tx K mg) (f:Nat) (k:Int):PySem.W.kitOne K (.ref (clsIn T f k)) (.ref T.C_FileRecord)=some (!decide (f=0) && decide (k=1)):=by
  by_cases hf:f=0
  · rw [decide_eq_true hf];exact clsIn_no T (.inl hf)
  · rw [decide_eq_false hf]
    by_cases h1:k=1
    · rw [decide_eq_true h1,clsIn_file T hf h1];exact T.k11
    · rw [decide_eq_false h1];exact clsIn_no T (.inr h1)
theorem VV.recd {C:Addr}{H:Hp}{p v:Addr}{F E:Nat}{B:Int}{as:List Addr}{rows:List (List Int)}(h:VV C H p v F E B as rows) {f:Nat}(hf:f < F):∃ r:R8,rows[10 + f]?=some r.list∧r.k=kd rows f∧r.f=fnd rows f:=by
  have hl:10 + f < rows.length:=by have:=h.len;omega
  have e:rows[10 + f]?=some rows[10 + f]:=List.getElem?_eq_getElem hl
  obtain ⟨r,hr⟩:=r8_of (h.r8 _ (List.getElem_mem hl))
  have eg:rows.getD (10 + f) []=r.list:=by rw [List.getD_eq_getElem?_getD,e,hr];rfl
  exact ⟨r,by rw [e,hr],by unfold kd;rw [eg];rfl,by unfold fnd;rw [eg];rfl⟩
def spIsFound (C:Addr):Sp:=fun vs H Q _=>∃ (p v:Addr) (F E:Nat) (B f:Int) (as:List Addr) (rows:List (List Int)),vs=[.ref p,.ref v,.int f]∧VV C H p v F E B as rows∧∀ H',Same H H'→Q (.bl (isfd rows F f)) H'
theorem ok_isfound (T:Tx K mg):FnOk P w K mg base CX0 5 T.f_is_found T.fd_is_found ["layout","volume","f"] (spIsFound T.C_Layout):=by
  refine T.F_is_found.ok sc_is_found (fun vs H Q E h=>?_) (fun cdv A outer s H vs Q E hr h=>?_)
  · obtain ⟨p,v,F,E,B,f,as,rows,rfl,_⟩:=h
    rfl
  · obtain ⟨p,v,F,E,B,f,as,rows,rfl,hV,k⟩:=h
    refine ⟨_,pss_cons (ps_if (pt_not (pt_chain op_le op_lt pe_int (pv 2) (pe_fld (pv 0) rfl))) (pss_one (ps_ret pe_bl)) pss_nil)
      (pss_cons (ps_set (i:=3) sc_is_found.nd rfl (Or.inl rfl) (pe_call (ok_recin T) hr rfl T.g_record_in T.F_record_in.kp T.b_record_in .nil pass0 (pa_cons (pv 0) (pa_cons (pv 1) (pa_cons (pv 2) pa_nil)))))
      (pss_one (ps_ret (pe_andI (pe_not (pe_callB call_isC rfl T.z_isinstance (by kernel_rfl) (pa_cons (pv 3) (pa_cons (pe_glob (v:=.ref T.C_FreeRecord) rfl T.g_FreeRecord rfl) pa_nil)))) (pe_one (pe_cmpR op_eq (pe_fld (pv 3) rfl) (pe_glob (v:=.int 1) rfl T.g_FOUND ⟨_,rfl⟩) (nomark _))))))),?_⟩
    obtain ⟨dx,hp⟩:=id hV.lay
    have fin:∀ b,isfd rows F f=b→∀ H',Same H H'→Q (.bl b) H':=fun b e H' s'=>by rw [← e];exact k H' s'
    refine ⟨_,rfl,_,_,rfl,rfl,_,rfl,?_⟩
    by_cases h1:1≤f
    rotate_left
    · exact iteBF (decide_eq_false h1) ⟨_,rfl,iteT (fin false (by unfold isfd;rw [decide_eq_false h1];rfl) _ (Same.refl _))⟩
    refine iteB (decide_eq_true h1) ⟨_,rfl,p,T.C_Layout,dx,_,_,rfl,hp,T.cl_Layout,T.n_Layout_files,lay_files _ _ _,_,_,rfl,rfl,_,rfl,?_⟩
    by_cases h2:f < (F:Int)
    rotate_left
    · refine ite2 (fun _=>fin false (by unfold isfd;rw [decide_eq_false h2];simp) _ (Same.refl _)) (fun z=>absurd (by rw [decide_eq_false h2];rfl) z)
    refine ite2 (fun z=>absurd z (by rw [decide_eq_true h2];decide)) (fun _=>?_)
    obtain ⟨n,rfl⟩:∃ n:Nat,f=(n:Int):=⟨f.toNat,by omega⟩
    obtain ⟨r,er,ek,ef⟩:=hV.recd (f:=n) (by omega)
    refine ⟨_,rfl,_,rfl,_,rfl,p,v,F,E,B,n,as,rows,r,rfl,hV.lay,hV.vol,er,fun q H1 s1 hR=>?_⟩
    have hD:=clsIn_D T n r.k
    obtain ⟨dq,t,hq,_⟩:=id hR
    refine ⟨_,rfl,_,_,_,_,rfl,ty_of hD hR,kitFree T (by omega) r.k,_,rfl,_,decide (V.int r.f=V.int 1),rfl,(fun _=>⟨_,rfl,q,_,dq,_,_,rfl,hq,hD.cls,hD.n_found,rec_found _ _,rfl,rfl,rfl⟩),fin _ ?_ _ s1⟩
    unfold isfd
    rw [decide_eq_true h1,decide_eq_true h2,Int.toNat_natCast,← ek,← ef]
    have:decide (V.int r.f=V.int 1)=decide (r.f=1):=by
      by_cases z:r.f=1
      · rw [z];rfl
      · rw [decide_eq_false z,decide_eq_false (int_ne z)]
    rw [this]
    rfl
def isfl (rows:List (List Int)) (f:Nat):Bool:=!decide (f=0) && decide (kd rows f=1)
def spIsFile (C:Addr):Sp:=fun vs H Q _=>∃ (p v:Addr) (F E:Nat) (B:Int) (f:Nat) (as:List Addr) (rows:List (List Int)),vs=[.ref p,.ref v,.int f]∧VV C H p v F E B as rows∧f < F∧∀ H',Same H H'→Q (.bl (isfl rows f)) H'
theorem ok_isfile (T:Tx K mg):FnOk P w K mg base CX0 5 T.f_is_file T.fd_is_file ["layout","volume","f"] (spIsFile T.C_Layout):=by
  refine T.F_is_file.ok sc_is_file (fun vs H Q E h=>?_) (fun cdv A outer s H vs Q E hr h=>?_)
  · obtain ⟨p,v,F,E,B,f,as,rows,rfl,_⟩:=h
    rfl
  · obtain ⟨p,v,F,E,B,f,as,rows,rfl,hV,hf,k⟩:=h
    refine ⟨_,pss_one (ps_ret (pe_callB call_isC rfl T.z_isinstance (by kernel_rfl) (pa_cons (pe_call (ok_recin T) hr rfl T.g_record_in T.F_record_in.kp T.b_record_in .nil pass0 (pa_cons (pv 0) (pa_cons (pv 1) (pa_cons (pv 2) pa_nil)))) (pa_cons (pe_glob (v:=.ref T.C_FileRecord) rfl T.g_FileRecord rfl) pa_nil)))),?_⟩
    obtain ⟨r,er,ek,ef⟩:=hV.recd hf
    refine ⟨_,rfl,_,rfl,_,rfl,p,v,F,E,B,f,as,rows,r,rfl,hV.lay,hV.vol,er,fun q H1 s1 hR=>?_⟩
    refine ⟨_,_,_,_,rfl,ty_of (clsIn_D T f r.k) hR,kitFile T f r.k,?_⟩
    have:=k H1 s1
    unfold isfl at this
    rw [← ek] at this
    exact this
def rb (rows:List (List Int)) (F E:Nat):Int→List Int→Option Int
  | f,[]=>some f
  | f,nm :: r=>match sof rows F E f nm with
    | none=>none
    | some s=>rb rows F E (slq rows F s 3) r
def spRB (C N:Addr) (K:PySem.W.Frag):Sp:=fun vs H Q X=>∃ (p v t:Addr) (F E:Nat) (B st:Int) (as:List Addr) (rows:List (List Int)) (ns:List Int),vs=[.ref p,.ref v,.int st,.ref t]∧VV C H p v F E B as rows∧SqT K H t (ns.map V.int) ∧
  (∀ x,rb rows F E st ns=some x→∀ H',Same H H'→Q (.int x) H')∧(rb rows F E st ns=none→∀ H',Same H H'→X (.ref N) none H')
theorem sof_lt {rows:List (List Int)}{F E:Nat}{fo nm:Int}{s:Nat}(h:sof rows F E fo nm=some s):s < 2 * E:=usl_lt (List.mem_of_find?_eq_some h)
theorem ok_rb (T:Tx K mg):FnOk P w K mg base (CX1 P w) 7 T.f_record_behind T.fd_record_behind ["layout","volume","start","names"] (spRB T.C_Layout T.C_NoPath K):=by
  refine T.F_record_behind.okX sc_record_behind (fun vs H Q E h=>?_) (fun cdv A outer s H vs Q X hr h=>?_)
  · obtain ⟨p,v,t,F,E,B,st,as,rows,ns,rfl,_⟩:=h
    rfl
  · obtain ⟨p,v,t,F,E,B,st,as,rows,ns,rfl,hV,hS,k,kx⟩:=h
    have r4:Room 4 _:=hr.mono (by decide)
    refine ⟨_,pss_cons (ps_set (i:=4) sc_record_behind.nd rfl (Or.inl rfl) (pv 2))
      (pss_cons (ps_for PassesOwn.leaving rfl (pi_tup (pv 3)) (pg_name (i:=5) sc_record_behind.nd rfl (Or.inl rfl))
        (pss_cons (ps_set (i:=6) sc_record_behind.nd rfl (Or.inl rfl) (pe_call (ok_slotof T) hr rfl T.g_slot_of T.F_slot_of.kp T.b_slot_of .nil pass0 (pa_cons (pv 0) (pa_cons (pv 1) (pa_cons (pv 4) (pa_cons (pv 5) pa_nil))))))
        (pss_cons (ps_if (pt_cmpR op_isN (pv 6) pe_non (nomark _)) (pss_one (ps_raise rfl T.ex_NoPath rfl T.g_NoPath takesN_cx (pa_cons pe_str pa_nil))) pss_nil)
        (pss_one (ps_set (i:=4) sc_record_behind.nd rfl (Or.inl rfl) (pe_ix ix_tup (pe_call (ok_slotN T) r4 rfl T.g_slot T.F_slot.kp T.b_slot .nil pass0 (pa_cons (pv 0) (pa_cons (pv 1) (pa_cons (pv 6) pa_nil)))) pe_int (fun _ _=>rfl)))))))
      (pss_one (ps_ret (pv 4)))),?_⟩
    refine ⟨_,rfl,_,rfl,t,rfl,⟨_,hS⟩,for_tup (K:=K) (a:=t) (xs:=ns.map V.int) (fun i σ H'=>∃ (f:Int) (x5 x6:Option V),σ=[some (.ref p),some (.ref v),some (.int st),some (.ref t),some (.int f),x5,x6]∧Same H H'∧rb rows F E f (ns.drop i)=rb rows F E st ns)
      ⟨st,none,none,rfl,Same.refl _,rfl⟩ (fun i σ H' _ ⟨_,_,_,_,sH,_⟩=>sH.seqT hS) ?_ ?_⟩
    · rintro i x σ H' hx ⟨f,x5,x6,rfl,sH,hb⟩
      rw [List.getElem?_map] at hx
      cases en:ns[i]? with
      | none=>rw [en] at hx;cases hx
      | some nm =>
        rw [en] at hx
        cases hx
        have hi:i < ns.length:=(List.getElem?_eq_some_iff.mp en).1
        have ed:ns.drop i=nm :: ns.drop (i + 1):=by
          rw [List.drop_eq_getElem_cons hi]
          congr 1
          rw [List.getElem?_eq_getElem hi] at en
          exact Option.some.inj en
        rw [ed] at hb
        refine ⟨_,rfl,_,rfl,_,rfl,_,rfl,p,v,F,E,B,f,nm,as,rows,rfl,hV.same sH,fun H1 s1=>?_⟩
        cases es:sof rows F E f nm with
        | none =>
          refine ⟨_,rfl,rfl,_,rfl,iteB rfl ⟨(by show 1≤sizeLine;decide),kx ?_ _ (sH.trans s1)⟩⟩
          rw [← hb]
          show (match sof rows F E f nm with | none=>none | some s=>rb rows F E (slq rows F s 3) (ns.drop (i + 1)))=none
          rw [es]
        | some s =>
          refine ⟨_,rfl,rfl,_,rfl,iteBF rfl ?_⟩
          have hs:=sof_lt es
          have hV1:=(hV.same sH).same s1
          refine ⟨_,rfl,_,rfl,_,rfl,p,v,F,E,B,s,as,rows,rfl,hV1.lay,hV1.vol,by have:=hV.len;omega,hV.r8,fun q H2 s2 hq=>?_⟩
          refine ⟨q,_,3,.int (slq rows F s 3),rfl,rfl,SqT.of hq,atI_nat (j:=3) rfl,slq rows F s 3,_,_,rfl,(sH.trans s1).trans s2,?_⟩
          rw [← hb]
          show _=(match sof rows F E f nm with | none=>none | some s=>rb rows F E (slq rows F s 3) (ns.drop (i + 1)))
          rw [es]
    rintro σ H' ⟨f,x5,x6,rfl,sH,hb⟩
    rw [List.length_map,List.drop_length] at hb
    exact ⟨_,rfl,k f hb.symm H' sH⟩
def fp (rows:List (List Int)) (F E:Nat) (ns:List Int):Option Int :=
  if ns.take 1=[0] then (if ns=[0] then none else if isfd rows F (ns.getD 1 0)=true then rb rows F E (ns.getD 1 0) (ns.drop 2) else none) else rb rows F E 0 ns
def spFP (C N:Addr) (K:PySem.W.Frag):Sp:=fun vs H Q X=>∃ (p v t:Addr) (F E:Nat) (B:Int) (as:List Addr) (rows:List (List Int)) (ns:List Int),vs=[.ref p,.ref v,.ref t]∧VV C H p v F E B as rows∧SqT K H t (ns.map V.int) ∧
  (∀ x,fp rows F E ns=some x→∀ H',Same H H'→Q (.int x) H')∧(fp rows F E ns=none→∀ H',Same H H'→X (.ref N) none H')
theorem sqFP (T:Tx K mg) (H:Hp):SqT K H T.p_FOUND_PATH ([(0:Int)].map V.int):=.inr T.o_FOUND_PATH
theorem flatI (ns:List Int):(ns.map V.int).all flatV=true:=by
  rw [List.all_map,List.all_eq_true]
  intro x _
  rfl
theorem eqU_I (r ms:List Int):eqTs ((r.map V.int).map .flat) ((ms.map V.int).map .flat)=decide (r=ms):=by
  have:=eqT_U r ms
  simp only [L2.eqT] at this
  exact this
theorem cut_to (xs:List V) (k:Nat):cutV xs none (some (k:Int))=xs.take k:=by
  unfold cutV
  rw [HT.sIx_none,HT.sIx_nat,List.drop_zero,Nat.sub_zero]
  by_cases h:k≤xs.length
  · rw [Nat.min_eq_left h]
  · rw [Nat.min_eq_right (by omega),List.take_of_length_le (Nat.le_refl _),List.take_of_length_le (by omega)]
theorem cut_fr (xs:List V) (k:Nat):cutV xs (some (k:Int)) none=xs.drop k:=by
  unfold cutV
  rw [HT.sIx_nat,HT.sIx_none]
  by_cases h:k≤xs.length
  · rw [Nat.min_eq_left h]
    exact List.take_of_length_le (by rw [List.length_drop];omega)
  · rw [Nat.min_eq_right (by omega),List.drop_of_length_le (Nat.le_refl _),List.drop_of_length_le (by omega)]
    simp
theorem ok_fp (T:Tx K mg):FnOk P w K mg base (CX1 P w) 8 T.f_find_path T.fd_find_path ["layout","volume","path"] (spFP T.C_Layout T.C_NoPath K):=by
  refine T.F_find_path.okX sc_find_path (fun vs H Q E h=>?_) (fun cdv A outer s H vs Q X hr h=>?_)
  · obtain ⟨p,v,t,F,E,B,as,rows,ns,rfl,_⟩:=h
    rfl
  · obtain ⟨p,v,t,F,E,B,as,rows,ns,rfl,hV,hS,k,kx⟩:=h
    have r5:Room 5 _:=hr.mono (by decide)
    have hu:_ + 60 < cLine:=Nat.lt_of_le_of_lt (Nat.add_le_add_left (by decide:60≤64) _) hr.units
    refine ⟨_,pss_cons (ps_if (pt_cmpR (op_neU hu) (pe_slice (sl_tupW (K:=K) rfl) (pv 2) po_none (po_some pe_int)) (pe_glob (v:=.ref T.p_FOUND_PATH) rfl T.g_FOUND_PATH rfl) (nomark _))
          (pss_one (ps_ret (pe_callX (ok_rb T) hr rfl T.g_record_behind T.F_record_behind.kp T.b_record_behind .nil takes_cx (pa_cons (pv 0) (pa_cons (pv 1) (pa_cons pe_int (pa_cons (pv 2) pa_nil))))))) pss_nil)
      (pss_cons (ps_if (PW.pt (pw_or (pt_cmpR (op_eqU hu) (pv 2) (pe_glob (v:=.ref T.p_FOUND_PATH) rfl T.g_FOUND_PATH rfl) (nomark _)) (pw_or1 (pt_not (pt_val (pe_call (ok_isfound T) r5 rfl T.g_is_found T.F_is_found.kp T.b_is_found .nil pass0 (pa_cons (pv 0) (pa_cons (pv 1) (pa_cons (pe_ix ix_tup (pv 2) pe_int (fun _ _=>rfl)) pa_nil)))))))))
          (pss_one (ps_raise rfl T.ex_NoPath rfl T.g_NoPath takesN_cx (pa_cons pe_str pa_nil))) pss_nil)
      (pss_one (ps_ret (pe_callX (ok_rb T) hr rfl T.g_record_behind T.F_record_behind.kp T.b_record_behind .nil takes_cx (pa_cons (pv 0) (pa_cons (pv 1) (pa_cons (pe_ix ix_tup (pv 2) pe_int (fun _ _=>rfl)) (pa_cons (pe_slice (sl_tupW (K:=K) rfl) (pv 2) (po_some pe_int) po_none) pa_nil)))))))),?_⟩
    refine ⟨_,rfl,_,rfl,t,_,rfl,hS,fun t1 H1 s1 hS1=>?_⟩
    have ec:cutV (ns.map V.int) none (some 1)=(ns.take 1).map V.int:=by rw [List.map_take];exact cut_to _ 1
    rw [ec] at hS1
    refine ⟨t1,_,1,1,_,_,rfl,rfl,by decide,by decide,holds_flats hS1 (flatI _),holds_flats (sqFP T H1) (flatI _),_,rfl,?_⟩
    have hV1:=hV.same s1
    have hS2:=s1.seqT hS
    by_cases c1:ns.take 1=[0]
    rotate_left
    · have ef:fp rows F E ns=rb rows F E 0 ns:=if_neg c1
      refine iteB (by rw [eqU_I,decide_eq_false c1];rfl) ⟨_,rfl,_,rfl,_,rfl,p,v,t,F,E,B,0,as,rows,ns,rfl,hV1,hS2,fun x hx H' s'=>k x (by rw [ef];exact hx) H' (s1.trans s'),fun hx H' s'=>kx (by rw [ef];exact hx) H' (s1.trans s')⟩
    refine iteBF (by rw [eqU_I,decide_eq_true c1];rfl) ?_
    refine ⟨_,rfl,t,_,1,1,_,_,rfl,rfl,by decide,by decide,holds_flats hS2 (flatI _),holds_flats (sqFP T H1) (flatI _),_,rfl,?_⟩
    by_cases c2:ns=[0]
    · refine iteB (by rw [eqU_I,decide_eq_true c2];rfl) (iteT ⟨(by show 1≤sizeLine;decide),kx ?_ H1 s1⟩)
      unfold fp
      rw [if_pos c1,if_pos c2]
    refine iteBF (by rw [eqU_I,decide_eq_false c2];rfl) ?_
    obtain ⟨f,r,rfl⟩:∃ f r,ns=0 :: f :: r:=by
      match ns,c1,c2 with
      | [],c1,_=>cases c1
      | [a],c1,c2=>exact absurd c1 c2
      | a :: f :: r,c1,_=>cases c1;exact ⟨f,r,rfl⟩
    have ef:fp rows F E (0 :: f :: r)=if isfd rows F f=true then rb rows F E f r else none:=by
      unfold fp
      rw [if_pos c1,if_neg c2]
      rfl
    rw [ef] at k kx
    refine ⟨_,rfl,_,rfl,_,rfl,t,_,1,.int f,rfl,rfl,hS2,atI_nat (j:=1) rfl,p,v,F,E,B,f,as,rows,rfl,hV1,fun H2 s2=>?_⟩
    cases hi:isfd rows F f
    · exact ⟨_,rfl,iteT ⟨(by show 1≤sizeLine;decide),kx (by rw [hi];rfl) H2 (s1.trans s2)⟩⟩
    refine ⟨_,rfl,iteF ?_⟩
    rw [if_pos hi] at k kx
    refine ⟨_,rfl,_,rfl,_,rfl,t,_,1,.int f,rfl,rfl,s2.seqT hS2,atI_nat (j:=1) rfl,_,rfl,_,rfl,t,_,rfl,s2.seqT hS2,fun t3 H3 s3 hS3=>?_⟩
    have ec2:cutV ((0 :: f :: r:List Int).map V.int) (some 2) none=r.map V.int:=cut_fr _ 2
    rw [ec2] at hS3
    exact ⟨p,v,t3,F,E,B,f,as,rows,r,rfl,(hV1.same s2).same s3,hS3,fun x hx H' s'=>k x hx H' (((s1.trans s2).trans s3).trans s'),fun hx H' s'=>kx hx H' (((s1.trans s2).trans s3).trans s')⟩
end
end K62
namespace K62
open PySem L2 PyProof.Rows PySem.W
section
variable {P:Program}{w:World}{K:PySem.W.Frag}{mg:Str→Option Value}{base:Heap}
structure KS (ks:List Int) (F:Nat):Prop where
  len:ks.length=F
  top:ks[0]?=some 2
  rng:∀ k∈ks,k=0∨k=1∨k=2
def spKinds:Sp:=fun vs H Q _=>∃ (c:Int) (F:Nat),vs=[.int c,.int F]∧2≤F∧F≤12∧∀ (l:Addr) (ks:List Int) (H':Hp),Same H H'→H l=none→H' l=some (.lst (ks.map V.int))→KS ks F→Q (.ref l) H'
theorem four_at (j:Nat) (h:j < 4):∃ x:Int,(x=0∨x=1∨x=2)∧(([1,2,1,0]:List Int).map V.int)[j]?=some (.int x):=by
  match j,h with
  | 0,_=>exact ⟨1,.inr (.inl rfl),rfl⟩
  | 1,_=>exact ⟨2,.inr (.inr rfl),rfl⟩
  | 2,_=>exact ⟨1,.inr (.inl rfl),rfl⟩
  | 3,_=>exact ⟨0,.inl rfl,rfl⟩
theorem ok_kinds (T:Tx K mg):FnOk P w K mg base CX0 2 T.f_l_kinds T.fd_l_kinds ["_law_cell_here","_law_files"] spKinds:=by
  refine T.F_l_kinds.ok sc_l_kinds (fun vs H Q E h=>?_) (fun cdv A outer s H vs Q E hr h=>?_)
  · obtain ⟨c,F,rfl,_⟩:=h
    rfl
  · obtain ⟨c,F,rfl,f1,f2,k⟩:=h
    refine ⟨_,pss_one (ps_ret (pe_op op_cat (pe_lst (pa_cons pe_int pa_nil)) (pe_comp (N':=["_law_f","_law_cell_here"]) (cap:=[none,some 0]) rfl (compOk_of (by kernel_rfl)) (pi_range2 rfl T.z_range (pa_cons pe_int (pa_cons (pv 1) pa_nil)))
      (fun cells C s₀ H₀ fp pins=>⟨pg_name (i:=0) (ndp2 (by decide +kernel)) rfl (Or.inl rfl) (.inr rfl),pifs_nil,@pe_ix _ _ _ _ _ _ _ (ix_listK (K:=K) rfl) (@pe_ints _ _ [1,2,1,0] _ rfl) (pe_op op_mod (pe_call (ok_mixed T) hr rfl T.g_l_mixed T.F_l_mixed.kp T.b_l_mixed .nil pass0 (pa_cons (pv 1) (pa_cons (pv 0) pa_nil))) pe_int) (fun _ _=>rfl)⟩)))),?_⟩
    refine ⟨(by show 1≤sizeLine;decide),fun z1 fz1=>?_⟩
    have s1:=Same.upd0 (o:=.lst [.int 2]) fz1
    have hz1:upd H z1 (.lst [.int 2]) z1=some (.lst (([2]:List Int).map V.int)):=upd_same
    generalize upd H z1 (.lst [.int 2])=H1 at s1 hz1 ⊢
    refine ⟨_,rfl,1,(F:Int),rfl,⟨by decide,by decide,by omega,by omega⟩,?_⟩
    have en:((F:Int) - 1).toNat=F - 1:=by omega
    rw [en]
    refine comp_range (cap:=[none,some 0]) (σ:=[some (.int c),some (.int F)]) (small_len (n:=F - 1) (by omega)) (fun i ys σ H'=>i≤F - 1∧∃ gs:List Int,ys=gs.map V.int∧gs.length=i∧(∀ g∈gs,g=0∨g=1∨g=2)∧(∃ s0,σ=[s0,some (.int c)])∧Same H1 H')
      (by exact ⟨Nat.zero_le _,[],rfl,rfl,fun _ h=>(nomatch h),⟨none,rfl⟩,Same.refl _⟩) (fun i ys σ H' ⟨h1,gs,h2,h3,_⟩=>⟨h1,by rw [h2,List.length_map,h3];exact Nat.le_refl _⟩) ?_ ?_
    · rintro i ys σ H' hi ⟨h1,gs,rfl,h3,h4,⟨s0,rfl⟩,sH⟩
      refine ⟨(by show 4≤sizeLine;decide),fun q fq=>?_⟩
      have m0:=mix_lo c (1 + (i:Int))
      obtain ⟨j,ej⟩:∃ j:Nat,mix c (1 + (i:Int)) % 4=(j:Int):=⟨(mix c (1 + (i:Int)) % 4).toNat,by omega⟩
      obtain ⟨x,hx,ex⟩:=four_at j (by omega)
      exact ⟨_,rfl,_,rfl,c,1 + (i:Int),rfl,_,_,rfl,rfl,(by show (0:Int) < 4;decide),q,_,_,.int x,rfl,rfl,SqL.of upd_same,(by rw [ej];exact atI_nat ex),hi,gs ++ [x],by simp,by simp [h3],fun g hg=>(by
        rcases List.mem_append.mp hg with h | h
        · exact h4 g h
        · rw [List.mem_singleton.mp h];exact hx),⟨_,rfl⟩,sH.upd fq⟩
    rintro ys σ H2 ⟨h1,gs,rfl,h3,h4,⟨s0,rfl⟩,sH⟩ g fg
    refine ⟨z1,g,_,_,rfl,rfl,(Same.upd0 fg) _ _ (sH _ _ hz1),upd_same,Nat.le_of_lt (small1000 (by rw [List.length_map,List.length_map];simp;omega)),fun q fq=>?_⟩
    refine k q ([2] ++ gs) _ (((s1.trans sH).upd fg).upd fq) (((s1.trans sH).upd fg).free fq) (by rw [upd_same,List.map_append]) ⟨by simp;omega,rfl,fun x hx=>?_⟩
    rcases List.mem_append.mp hx with h | h
    · rw [List.mem_singleton.mp h];exact .inr (.inr rfl)
    · exact h4 x h
abbrev Lk:=Int×Int×Int
structure Lks (H:Hp) (w:Addr) (ts:List Addr) (ls:List Lk):Prop where
  top:H w=some (.lst (ts.map V.ref))
  len:ts.length=ls.length
  item:∀ (i:Nat) t l,ts[i]?=some t→ls[i]?=some l→H t=some (.tup [.int l.1,.int l.2.1,.int l.2.2])
theorem Lks.same {H H':Hp}{w:Addr}{ts:List Addr}{ls:List Lk}(h:Lks H w ts ls) (s:Same H H'):Lks H' w ts ls:=⟨s _ _ h.top,h.len,fun i t l e1 e2=>s _ _ (h.item i t l e1 e2)⟩
theorem Lks.off {H:Hp}{w b:Addr}{ts:List Addr}{ls:List Lk}{o:HO}{xs:List V}(h:Lks H w ts ls) (hb:H b=some (.lst xs)) (n:b≠w):Lks (upd H b o) w ts ls :=
  ⟨by rw [upd_ne (Ne.symm n)];exact h.top,h.len,fun i t l e1 e2=>by have:=h.item i t l e1 e2;rw [upd_ne (fun z=>by rw [z,hb] at this;cases this)];exact this⟩
theorem Lks.add {H H1:Hp}{w t:Addr}{ts:List Addr}{ls:List Lk}{l:Lk}(h:Lks H w ts ls) (s:Same H H1) (ht:H1 t=some (.tup [.int l.1,.int l.2.1,.int l.2.2])):Lks (upd H1 w (.lst (ts.map V.ref ++ [.ref t]))) w (ts ++ [t]) (ls ++ [l]):=by
  have hw:=s _ _ h.top
  have keep:∀ b xs,H1 b=some (.tup xs)→upd H1 w (.lst (ts.map V.ref ++ [.ref t])) b=some (.tup xs):=fun b xs e=>by
    rw [upd_ne (fun z=>by rw [z,hw] at e;cases e)];exact e
  refine ⟨by rw [upd_same];simp,by simp [h.len],fun i t' l' e1 e2=>?_⟩
  rcases getApp h.len e1 with ⟨hi,e1⟩ | ⟨hi,e1⟩
  · rcases getApp (rfl:ls.length=ls.length) e2 with ⟨_,e2⟩ | ⟨h2,_⟩
    · exact keep _ _ (s _ _ (h.item i t' l' e1 e2))
    · exact absurd h2 (by omega)
  · rcases getApp (rfl:ls.length=ls.length) e2 with ⟨h2,_⟩ | ⟨_,e2⟩
    · exact absurd h2 (by omega)
    · have hj0:i - ls.length < 1:=by have:=(List.getElem?_eq_some_iff.mp e1).1;simpa using this
      have:i - ls.length=0:=by omega
      rw [this] at e1 e2
      cases e1
      cases e2
      exact keep _ _ ht
def pr (l:Lk):Int×Int:=(l.1,l.2.1)
def tr3 (l:Lk):Tr:=.tup [.flat (.int l.1),.flat (.int l.2.1),.flat (.int l.2.2)]
theorem trip_ex {H:Hp}:∀ {us:List Addr},(∀ u∈us,∃ x y z:Int,H u=some (.tup [.int x,.int y,.int z]))→∃ qs:List Lk,qs.length=us.length∧∀ (i:Nat) u q,us[i]?=some u→qs[i]?=some q→H u=some (.tup [.int q.1,.int q.2.1,.int q.2.2])
  | [],_=>⟨[],rfl,fun i u q e=>by simp at e⟩
  | u :: us,h=>by
    obtain ⟨x,y,z,e⟩:=h u (List.mem_cons_self ..)
    obtain ⟨qs,l,hq⟩:=trip_ex fun v hv=>h v (List.mem_cons_of_mem _ hv)
    refine ⟨(x,y,z) :: qs,by simp [l],fun i v q e1 e2=>?_⟩
    cases i with
    | zero=>cases e1;cases e2;exact e
    | succ i=>exact hq i v q (by simpa using e1) (by simpa using e2)
theorem holds_trip {H:Hp}{D:Addr}{us:List Addr}{qs:List Lk}(hD:H D=some (.lst (us.map V.ref))) (l:us.length=qs.length) (hq:∀ (i:Nat) u q,us[i]?=some u→qs[i]?=some q→H u=some (.tup [.int q.1,.int q.2.1,.int q.2.2])):Holds K H 2 (.ref D) (.lst (qs.map tr3)):=by
  refine .lst (SqL.of hD) (by simp [l]) fun i x t e1 e2=>?_
  rw [List.getElem?_map] at e1 e2
  cases ea:us[i]? with
  | none=>rw [ea] at e1;cases e1
  | some u =>
    cases eq:qs[i]? with
    | none=>rw [eq] at e2;cases e2
    | some q =>
      rw [ea] at e1
      rw [eq] at e2
      cases e1
      cases e2
      refine .tup (SqT.of (hq i u q ea eq)) rfl fun j x t f1 f2=>?_
      match j with
      | 0=>cases f1;cases f2;exact .flat rfl
      | 1=>cases f1;cases f2;exact .flat rfl
      | 2=>cases f1;cases f2;exact .flat rfl
      | j + 3=>simp at f1
theorem holds_some {H:Hp}{D:Addr}{us:List Addr}(hD:H D=some (.lst (us.map V.ref))) (h:∀ u∈us,∃ x y z:Int,H u=some (.tup [.int x,.int y,.int z])):∃ trs:List Tr,trs.length=us.length∧Holds K H 2 (.ref D) (.lst trs):=by
  obtain ⟨qs,l,hq⟩:=trip_ex h
  exact ⟨qs.map tr3,by rw [List.length_map,l],holds_trip hD l.symm hq⟩
def spStands (K:PySem.W.Frag):Sp:=fun vs H Q _=>∃ (lk:Addr) (ts:List Addr) (ls:List Lk) (fo nm:Int),vs=[.ref lk,.int fo,.int nm]∧Lks H lk ts ls∧ls.length≤40∧∀ H',Same H H'→Q (.bl (decide ((fo,nm)∈ls.map pr))) H'
theorem ok_stands (T:Tx K mg):FnOk P w K mg base CX0 1 T.f_l_stands T.fd_l_stands ["_law_slots_here","_law_folder","_law_name"] (spStands K):=by
  refine T.F_l_stands.ok sc_l_stands (fun vs H Q E h=>?_) (fun cdv A outer s H vs Q E hr h=>?_)
  · obtain ⟨lk,ts,ls,fo,nm,rfl,_⟩:=h
    rfl
  · obtain ⟨lk,ts,ls,fo,nm,rfl,hK,l40,k⟩:=h
    have hu:_ + 60 < cLine:=Nat.lt_of_le_of_lt (Nat.add_le_add_left (by decide:60≤64) _) hr.units
    have lt:ts.length=ls.length:=hK.len
    refine ⟨_,pss_one (ps_ret (pe_cmpR (op_neT hu) (pe_comp (N':=["_law_one","_law_folder","_law_name"]) (cap:=[none,some 1,some 2]) rfl (compOk_of (by kernel_rfl)) (pi_list (pv 0))
      (fun cells C s₀ H₀ fp pins=>⟨pg_name (i:=0) (ndp3 (by decide +kernel) (by decide +kernel) (by decide +kernel)) rfl (Or.inl rfl) (.inr rfl),pifs_one (PW.pt (pw_and (pt_cmpR op_eq (pe_ix (ix_tupK (K:=K) rfl) (pv 0) pe_int (fun _ _=>rfl)) (pv 1) (nomark _)) (pw_and1 (pt_cmpR op_eq (pe_ix (ix_tupK (K:=K) rfl) (pv 0) pe_int (fun _ _=>rfl)) (pv 2) (nomark _))))),pv 0⟩)) (pe_lst pa_nil) (nomark _))),?_⟩
    refine ⟨_,rfl,lk,rfl,⟨_,SqL.of hK.top⟩,?_⟩
    refine comp_list (cap:=[none,some 1,some 2]) (σ:=[some (.ref lk),some (.int fo),some (.int nm)]) (K:=K) (a:=lk) (xs:=ts.map V.ref) (small_len (by rw [List.length_map];omega)) (fun j ys σ H'=>j≤ts.length∧(∃ us:List Addr,ys=us.map V.ref∧us.length≤j∧(us=[]↔(fo,nm)∉(ls.take j).map pr)∧∀ u∈us,∃ x y z:Int,H u=some (.tup [.int x,.int y,.int z]))∧(∃ s0,σ=[s0,some (.int fo),some (.int nm)])∧H'=H)
      (by exact ⟨Nat.zero_le _,⟨[],rfl,Nat.le_refl _,by simp,fun _ h=>(nomatch h)⟩,⟨none,rfl⟩,rfl⟩) (fun j ys σ H' ⟨h1,⟨us,h2,h3,_⟩,_,h4⟩=>⟨by rw [List.length_map];exact h1,by rw [h2,List.length_map];exact h3,by rw [h4];exact SqL.of hK.top⟩) ?_ ?_
    · rintro j x ys σ H' hx ⟨h1,⟨us,rfl,h3,h5,h6⟩,⟨s0,rfl⟩,rfl⟩
      rw [List.getElem?_map] at hx
      cases et:ts[j]? with
      | none=>rw [et] at hx;cases hx
      | some t =>
        rw [et] at hx
        cases hx
        have hj:j < ts.length:=(List.getElem?_eq_some_iff.mp et).1
        have hjl:j < ls.length:=by omega
        have el:ls[j]?=some ls[j]:=List.getElem?_eq_getElem hjl
        have hit:=hK.item j t _ et el
        generalize ls[j]=l at el hit
        have tk:=take_snoc el
        have nomore:pr l≠(fo,nm)→(us=[]↔(fo,nm)∉(ls.take (j + 1)).map pr):=fun hn=>by
          rw [tk,List.map_append,List.mem_append,h5]
          simp only [List.map_cons,List.map_nil,List.mem_singleton]
          exact ⟨fun h z=>z.elim h fun e=>hn e.symm,fun h z=>h (.inl z)⟩
        refine ⟨_,rfl,t,_,0,.int l.1,rfl,rfl,SqT.of hit,atI_nat (j:=0) rfl,_,rfl,rfl,_,rfl,?_⟩
        by_cases c1:l.1=fo
        · refine iteD (by rw [c1]) ⟨_,rfl,t,_,1,.int l.2.1,rfl,rfl,SqT.of hit,atI_nat (j:=1) rfl,_,rfl,rfl,_,rfl,?_⟩
          by_cases c2:l.2.1=nm
          · refine iteD (by rw [c2]) ⟨_,rfl,hj,⟨us ++ [t],by simp,by simp;omega,?_,fun u hu=>?_⟩,⟨_,rfl⟩,rfl⟩
            · rw [tk,List.map_append,List.mem_append]
              have:pr l=(fo,nm):=by unfold pr;rw [c1,c2]
              simp [this]
            · rcases List.mem_append.mp hu with h | h
              · exact h6 u h
              · rw [List.mem_singleton.mp h];exact ⟨_,_,_,hit⟩
          · exact iteDF (int_ne c2) ⟨hj,⟨us,rfl,by omega,nomore fun e=>c2 (congrArg Prod.snd e),h6⟩,⟨_,rfl⟩,rfl⟩
        · exact iteDF (int_ne c1) (iteF ⟨hj,⟨us,rfl,by omega,nomore fun e=>c1 (congrArg Prod.fst e),h6⟩,⟨_,rfl⟩,rfl⟩)
    rintro ys σ H' ⟨h1,⟨us,rfl,h3,h5,h6⟩,⟨s0,rfl⟩,eH⟩ D hD
    rw [eH] at hD ⊢
    have el:(ts.map V.ref).length=ls.length:=by rw [List.length_map,lt]
    rw [el,List.take_length] at h5
    refine ⟨(by show 0≤sizeLine;decide),fun q fq=>?_⟩
    have s1:=(Same.upd0 (o:=.lst (us.map V.ref)) hD).upd (o:=.lst []) fq
    have hDl:upd (upd H D (.lst (us.map V.ref))) q (.lst []) D=some (.lst (us.map V.ref)):=(Same.upd0 fq) _ _ upd_same
    have hq:upd (upd H D (.lst (us.map V.ref))) q (.lst []) q=some (.lst (([]:List Int).map V.int)):=upd_same
    generalize upd (upd H D (.lst (us.map V.ref))) q (.lst [])=H2 at s1 hDl hq ⊢
    obtain ⟨trs,lt2,hol⟩:=holds_some (K:=K) hDl fun u hu=>let ⟨x,y,z,e⟩:=h6 u hu;⟨x,y,z,s1 _ _ e⟩
    refine ⟨D,q,2,1,.lst trs,trI [],rfl,rfl,by decide,by decide,hol,holds_ints (SqL.of hq),(fun _ h=>nomatch h),(fun _ h=>nomatch h),?_⟩
    have:(!eqT (.lst trs) (trI []))=decide ((fo,nm)∈ls.map pr):=by
      cases us with
      | nil =>
        have:trs=[]:=List.eq_nil_of_length_eq_zero (by simpa using lt2)
        rw [this,decide_eq_false (h5.mp rfl)]
        simp [L2.eqT,trI,eqTs]
      | cons u r =>
        cases trs with
        | nil=>simp at lt2
        | cons a b =>
          rw [decide_eq_true (by
            by_cases z:(fo,nm)∈ls.map pr
            · exact z
            · exact absurd (h5.mpr z) (by simp))]
          simp [L2.eqT,trI,eqTs]
    simp only [this]
    exact k _ s1
end
end K62
namespace K62
open PySem L2 PyProof.Rows PySem.W
section
variable {P:Program}{w:World}{K:PySem.W.Frag}{mg:Str→Option Value}{base:Heap}
theorem nd_sub {α:Type} [DecidableEq α]:∀ {l m:List α},l.Nodup→(∀ x∈l,x∈m)→l.length≤m.length
  | [],m,_,_=>Nat.zero_le _
  | x :: r,m,nd,h=>by
    have hx:=h x (List.mem_cons_self ..)
    have:=nd_sub (l:=r) (m:=m.erase x) (List.nodup_cons.mp nd).2 fun y hy=>(List.mem_erase_of_ne (fun z=>(List.nodup_cons.mp nd).1 (by rw [← z];exact hy))).mpr (h y (List.mem_cons_of_mem _ hy))
    rw [List.length_erase_of_mem hx] at this
    have:0 < m.length:=List.length_pos_of_mem hx
    rw [List.length_cons]
    omega
def nmI (n:Int) (k:Nat):Int:=1 + (n - 1 + (k:Int)) % 999999999999
theorem nmI_0 {n:Int}(h:1≤n∧n≤999999999999):nmI n 0=n:=by
  unfold nmI
  have e:n - 1 + ((0:Nat):Int)=n - 1:=by omega
  rw [e,Int.emod_eq_of_lt (by omega) (by omega)]
  omega
theorem nmI_rng (n:Int) (k:Nat):1≤nmI n k∧nmI n k≤999999999999:=by
  unfold nmI
  have h1:=Int.emod_nonneg (n - 1 + (k:Int)) (show (999999999999:Int)≠0 by decide)
  have h2:=Int.emod_lt_of_pos (n - 1 + (k:Int)) (show (0:Int) < 999999999999 by decide)
  generalize (n - 1 + (k:Int)) % 999999999999=z at h1 h2
  omega
theorem nmI_s (n:Int) (k:Nat):1 + nmI n k % 999999999999=nmI n (k + 1):=by
  unfold nmI
  have e:n - 1 + ((k + 1:Nat):Int)=1 + (n - 1 + (k:Int)):=by omega
  rw [e,Int.add_emod_emod]
theorem nmI_inj {n:Int}{i j:Nat}(hi:i < 1000) (hj:j < 1000) (e:nmI n i=nmI n j):i=j:=by
  unfold nmI at e
  have e':(n - 1 + (i:Int)) % 999999999999=(n - 1 + (j:Int)) % 999999999999:=by
    generalize (n - 1 + (i:Int)) % 999999999999=x at e
    generalize (n - 1 + (j:Int)) % 999999999999=y at e
    omega
  have:=Int.emod_eq_emod_iff_emod_sub_eq_zero.mp e'
  have e2:n - 1 + (i:Int) - (n - 1 + (j:Int))=(i:Int) - j:=by omega
  rw [e2] at this
  clear e e' e2
  rcases Nat.le_total j i with hle | hle
  · rw [Int.emod_eq_of_lt (by omega) (by omega)] at this
    omega
  · have h1:((i:Int) - j + 999999999999) % 999999999999=((i:Int) - j) % 999999999999:=Int.add_emod_right _ _
    rw [this] at h1
    by_cases hz:i=j
    · exact hz
    · rw [Int.emod_eq_of_lt (by omega) (by omega)] at h1
      omega
theorem taken_le {rs:List (Int×Int)}{fo n:Int}{k:Nat}(hk:k < 1000) (h:∀ j < k,(fo,nmI n j)∈rs):k≤rs.length:=by
  have nd:((List.range k).map fun j=>(fo,nmI n j)).Nodup:=by
    rw [List.Nodup,List.pairwise_map]
    refine (List.pairwise_lt_range (n:=k)).imp_of_mem fun {a b} ha hb hab e=>?_
    have ha:=List.mem_range.mp ha
    have hb:=List.mem_range.mp hb
    have:=nmI_inj (n:=n) (i:=a) (j:=b) (by omega) (by omega) (by injection e)
    omega
  have:=nd_sub nd fun x hx=>by
    obtain ⟨j,hj,rfl⟩:=List.mem_map.mp hx
    exact h j (List.mem_range.mp hj)
  rw [List.length_map,List.length_range] at this
  exact this
def spNew (K:PySem.W.Frag):Sp:=fun vs H Q _=>∃ (c k:Int) (lk:Addr) (ts:List Addr) (ls:List Lk) (fo:Int),vs=[.int c,.int k,.ref lk,.int fo]∧Lks H lk ts ls∧ls.length≤40∧∀ (nm:Int) (H':Hp),Same H H'→1≤nm∧nm≤999999999999→(fo,nm)∉ls.map pr→Q (.int nm) H'
theorem ok_new (T:Tx K mg):FnOk P w K mg base CX0 2 T.f_l_new_name T.fd_l_new_name ["_law_cell_here","_law_k","_law_slots_here","_law_folder"] (spNew K):=by
  refine T.F_l_new_name.ok sc_l_new_name (fun vs H Q E h=>?_) (fun cdv A outer s H vs Q E hr h=>?_)
  · obtain ⟨c,k,lk,ts,ls,fo,rfl,_⟩:=h
    rfl
  · obtain ⟨c,k,lk,ts,ls,fo,rfl,hK,l40,q⟩:=h
    refine ⟨_,pss_cut (ps_set (i:=4) sc_l_new_name.nd rfl (Or.inl rfl) (pe_op op_add pe_int (pe_op op_mod (pe_call (ok_mixed T) hr rfl T.g_l_mixed T.F_l_mixed.kp T.b_l_mixed .nil pass0 (pa_cons (pv 0) (pa_cons (pe_op op_add pe_int (pv 1)) pa_nil))) pe_int)))
      (pss_cut (ps_if (pt_cmpR op_eq (pe_op op_mod (pe_call (ok_mixed T) hr rfl T.g_l_mixed T.F_l_mixed.kp T.b_l_mixed .nil pass0 (pa_cons (pv 0) (pa_cons (pe_op op_add pe_int (pv 1)) pa_nil))) pe_int) pe_int (nomark _)) (pss_one (ps_set (i:=4) sc_l_new_name.nd rfl (Or.inl rfl) (pe_op op_sub (pe_op op_sub (pe_op op_pow pe_int pe_int) pe_int) (pv 4)))) pss_nil)
      (pss_cons (ps_while PassesOwn.never (pt_val (pe_call (ok_stands T) hr rfl T.g_l_stands T.F_l_stands.kp T.b_l_stands .nil pass0 (pa_cons (pv 2) (pa_cons (pv 3) (pa_cons (pv 4) pa_nil)))))
        (pss_one (ps_set (i:=4) sc_l_new_name.nd rfl (Or.inl rfl) (pe_op op_add (pe_op op_mod (pv 4) (pe_op op_sub (pe_op op_pow pe_int pe_int) pe_int)) pe_int))))
      (pss_one (ps_ret (pv 4))))),?_⟩
    have e12:(10:Int) ^ (Int.toNat 12) - 1=999999999999:=by decide +kernel
    refine ⟨fun σ H'=>H'=H∧∃ n:Int,(1≤n∧n≤4)∧σ=[some (.int c),some (.int k),some (.ref lk),some (.int fo),some (.int n)],⟨_,rfl,_,rfl,_,_,rfl,rfl,c,_,rfl,_,_,rfl,rfl,(by show (0:Int) < 4;decide),_,_,rfl,rfl,rfl,_,⟨by omega,by omega⟩,rfl⟩,?_⟩
    rintro σ H' ⟨eH,n,⟨n1,n2⟩,rfl⟩
    rw [eH]
    refine ⟨fun σ H'=>H'=H∧∃ n:Int,(1≤n∧n≤999999999999)∧σ=[some (.int c),some (.int k),some (.ref lk),some (.int fo),some (.int n)],?_,?_⟩
    · refine ⟨_,rfl,_,rfl,_,_,rfl,rfl,c,_,rfl,_,_,rfl,rfl,(by show (0:Int) < 4;decide),rfl,_,rfl,ite2 (fun _=>?_) (fun _=>⟨rfl,n,⟨n1,by omega⟩,rfl⟩)⟩
      refine ⟨_,_,rfl,rfl,⟨by decide,by decide,by decide⟩,_,_,rfl,rfl,_,rfl,_,_,rfl,rfl,rfl,999999999999 - n,⟨by omega,by omega⟩,?_⟩
      show [some (V.int c),some (V.int k),some (V.ref lk),some (V.int fo),some (V.int (10 ^ Int.toNat 12 - 1 - n))]=_
      rw [e12]
    clear n1 n2 n
    rintro σ H' ⟨eH,n,hn,rfl⟩
    rw [eH]
    refine ⟨fun m σ H'=>∃ i,m=60 - i∧i≤41∧(∀ j < i,(fo,nmI n j)∈ls.map pr)∧σ=[some (.int c),some (.int k),some (.ref lk),some (.int fo),some (.int (nmI n i))]∧Same H H',⟨_,0,rfl,Nat.zero_le _,fun j hj=>absurd hj (Nat.not_lt_zero _),by rw [nmI_0 hn],Same.refl _⟩,?_⟩
    rintro m σ H1 ⟨i,rfl,hi,htk,rfl,s1⟩
    refine ⟨_,rfl,_,rfl,_,rfl,lk,ts,ls,fo,nmI n i,rfl,hK.same s1,l40,fun H2 s2=>⟨_,rfl,ite2 (fun hin=>?_) (fun hin=>?_)⟩⟩
    · have hin:(fo,nmI n i)∈ls.map pr:=of_decide_eq_true hin
      have htk2:∀ j < i + 1,(fo,nmI n j)∈ls.map pr:=fun j hj=>by
        rcases Nat.lt_succ_iff_lt_or_eq.mp hj with h | h
        · exact htk j h
        · rw [h];exact hin
      have:=taken_le (by omega) htk2
      rw [List.length_map] at this
      refine ⟨fun σ H'=>∃ i',i'=i + 1∧(∀ j < i',(fo,nmI n j)∈ls.map pr)∧σ=[some (.int c),some (.int k),some (.ref lk),some (.int fo),some (.int (nmI n i'))]∧Same H H',fun σ2 H2 ⟨i',e1,e2,e3,e4⟩=>⟨60 - i',by omega,i',rfl,by omega,e2,e3,e4⟩,?_⟩
      refine ⟨_,rfl,_,_,rfl,rfl,⟨by decide,by decide,by decide⟩,_,_,rfl,rfl,_,_,rfl,rfl,(by show (0:Int) < 10 ^ 12 - 1;decide +kernel),_,_,rfl,rfl,i + 1,rfl,htk2,?_,s1.trans s2⟩
      show [some (V.int c),some (V.int k),some (V.ref lk),some (V.int fo),some (V.int (nmI n i % (10 ^ Int.toNat 12 - 1) + 1))]=_
      rw [e12,Int.add_comm,nmI_s]
    · exact ⟨_,rfl,q (nmI n i) H2 (s1.trans s2) (nmI_rng n i) (of_decide_eq_false (Bool.eq_false_iff.mpr hin))⟩
end
end K62
namespace K62
open PySem L2 PyProof.Rows PySem.W
section
variable {P:Program}{w:World}{K:PySem.W.Frag}{mg:Str→Option Value}{base:Heap}
def kindOf (ks:List Int) (x:Int):Int:=ks.getD x.toNat 0
structure LO (ks:List Int) (F:Nat) (ls:List Lk):Prop where
  nd:(ls.map pr).Nodup
  nm:∀ l∈ls,1≤l.2.1∧l.2.1≤999999999999
  fr:∀ l∈ls,1≤l.2.2∧l.2.2 < (F:Int)∧kindOf ks l.2.2≠0
  fo:∀ l∈ls,l.1=0∨(1≤l.1∧l.1 < (F:Int)∧kindOf ks l.1=2)
  rk:∃ rk:Int→Nat,(∀ l∈ls,rk l.1 < rk l.2.2)∧∀ x,rk x≤13
def posn:List Int→Int→Nat
  | [],_=>0
  | y :: r,x=>if y=x then 0 else posn r x + 1
theorem posn_le:∀ (l:List Int) (x:Int),posn l x≤l.length
  | [],_=>Nat.le_refl _
  | y :: r,x=>by
    unfold posn
    have:=posn_le r x
    split
    · exact Nat.zero_le _
    · rw [List.length_cons];omega
theorem posn_at:∀ {l:List Int}{j:Nat}{x:Int},l.Nodup→l[j]?=some x→posn l x=j
  | [],j,x,_,h=>by simp at h
  | y :: r,0,x,_,h=>by
    cases h
    unfold posn
    rw [if_pos rfl]
  | y :: r,j + 1,x,nd,h=>by
    have h':r[j]?=some x:=by simpa using h
    have ne:¬ y=x:=fun z=>(List.nodup_cons.mp nd).1 (by rw [z];exact List.mem_of_getElem? h')
    unfold posn
    rw [if_neg ne,posn_at (List.nodup_cons.mp nd).2 h']
def FP (ks os:List Int) (i:Nat) (x:Int):Prop:=x=0∨∃ j,j < i∧os[j]?=some x∧kindOf ks x=2
def LP (ks os:List Int) (l:Lk):Prop:=(1≤l.2.1∧l.2.1≤999999999999)∧l.2.2∈os∧(l.1=0∨(l.1∈os∧kindOf ks l.1=2))∧(kindOf ks l.2.2=1∨∃ j,os[j]?=some l.2.2∧FP ks os j l.1)
structure OS (ks os:List Int) (F:Nat):Prop where
  nd:os.Nodup
  el:∀ x∈os,1≤x∧x < (F:Int)∧kindOf ks x≠0
  len:os.length≤11
theorem LO.of {ks os:List Int}{F:Nat}{ls:List Lk}(hk:KS ks F) (ho:OS ks os F) (nd:(ls.map pr).Nodup) (h:∀ l∈ls,LP ks os l):LO ks F ls:=by
  have k0:kindOf ks 0=2:=by
    have:=hk.top
    unfold kindOf
    rw [List.getD_eq_getElem?_getD]
    show (ks[0]?).getD 0=2
    rw [this]
    rfl
  refine ⟨nd,fun l hl=>(h l hl).1,fun l hl=>ho.el _ (h l hl).2.1,fun l hl=>?_,fun x=>if kindOf ks x=1 then 13 else if x=0 then 0 else posn os x + 1,fun l hl=>?_,fun x=>?_⟩
  · rcases (h l hl).2.2.1 with z | ⟨z1,z2⟩
    · exact .inl z
    · have:=ho.el _ z1
      exact .inr ⟨this.1,this.2.1,z2⟩
  · have l1:(if kindOf ks l.1=1 then 13 else if l.1=0 then 0 else posn os l.1 + 1)≤12:=by
      have hn:¬ kindOf ks l.1=1:=by
        rcases (h l hl).2.2.1 with z | ⟨_,z2⟩
        · rw [z,k0];decide
        · rw [z2];decide
      rw [if_neg hn]
      split
      · exact Nat.zero_le _
      · have:=posn_le os l.1
        have:=ho.len
        omega
    have lf:=(ho.el _ (h l hl).2.1)
    dsimp only
    by_cases hf:kindOf ks l.2.2=1
    · rw [if_pos hf]
      omega
    · rcases (h l hl).2.2.2 with z | ⟨j,ej,hp⟩
      · exact absurd z hf
      · rw [if_neg hf,if_neg (show ¬ l.2.2=0 by omega),posn_at ho.nd ej]
        rcases hp with z | ⟨j',hj,ej',z2⟩
        · rw [if_neg (by rw [z,k0];decide),if_pos z]
          omega
        · have h1:=ho.el _ (List.mem_of_getElem? ej')
          rw [if_neg (by rw [z2];decide),if_neg (show ¬ l.1=0 by omega),posn_at ho.nd ej']
          omega
  · have:=posn_le os x
    have:=ho.len
    dsimp only
    split
    · exact Nat.le_refl _
    · split
      · exact Nat.zero_le _
      · omega
def KP (Pt:Addr) (H H':Hp):Prop:=∀ b o,H b=some o→b≠Pt→H' b=some o
theorem KP.trans {Pt:Addr}{H H1 H2:Hp}(h:KP Pt H H1) (s:Same H1 H2):KP Pt H H2:=fun b o e n=>s _ _ (h b o e n)
theorem KP.of {Pt:Addr}{H H1:Hp}(s:Same H H1):KP Pt H H1:=fun b o e _=>s _ _ e
theorem KP.updF {Pt b:Addr}{H H1:Hp}{o:HO}(h:KP Pt H H1) (hb:H b=none):KP Pt H (upd H1 b o):=fun c u e n=>by rw [upd_ne (ne_of_none e hb)];exact h c u e n
theorem KP.tab {Pt:Addr}{H H1:Hp}{o:HO}(h:KP Pt H H1):KP Pt H (upd H1 Pt o):=fun c u e n=>by rw [upd_ne n];exact h c u e n
theorem KP.lst {Pt a:Addr}{H H1:Hp}{xs:List V}{ps:Array Value}(h:KP Pt H H1) (hP:H Pt=some (.tbl ps)) (hq:H a=some (.lst xs)):H1 a=some (.lst xs):=h _ _ hq fun z=>by rw [z,hP] at hq;cases hq
structure SS (H:Hp) (lk fl:Addr) (ts:List Addr) (ls:List Lk) (fs:List Int) (n:Nat):Prop where
  hk:Lks H lk ts ls
  hf:H fl=some (.lst (fs.map V.int))
  ne:fs≠[]
  ap:fl≠lk
  nd:(ls.map pr).Nodup
  len:ls.length≤n
theorem SS.same {H H':Hp}{lk fl:Addr}{ts:List Addr}{ls:List Lk}{fs:List Int}{n:Nat}(h:SS H lk fl ts ls fs n) (s:Same H H'):SS H' lk fl ts ls fs n:=⟨h.hk.same s,s _ _ h.hf,h.ne,h.ap,h.nd,h.len⟩
theorem SS.more {H:Hp}{lk fl:Addr}{ts:List Addr}{ls:List Lk}{fs:List Int}{n m:Nat}(h:SS H lk fl ts ls fs n) (hm:n≤m):SS H lk fl ts ls fs m:=⟨h.hk,h.hf,h.ne,h.ap,h.nd,Nat.le_trans h.len hm⟩
theorem SS.add {H H1:Hp}{lk fl t:Addr}{ts:List Addr}{ls:List Lk}{fs:List Int}{n:Nat}{l:Lk}(h:SS H lk fl ts ls fs n) (s:Same H H1) (ht:H1 t=some (.tup [.int l.1,.int l.2.1,.int l.2.2])) (hn:pr l∉ls.map pr):SS (upd H1 lk (.lst (ts.map V.ref ++ [.ref t]))) lk fl (ts ++ [t]) (ls ++ [l]) fs (n + 1):=by
  refine ⟨h.hk.add s ht,by rw [upd_ne h.ap];exact s _ _ h.hf,h.ne,h.ap,?_,by have:=h.len;simp;omega⟩
  rw [List.map_append,List.nodup_append]
  refine ⟨h.nd,by simp,fun a ha b hb e=>?_⟩
  have:b=pr l:=by simpa using hb
  rw [e,this] at ha
  exact hn ha
theorem fold_at {ps:List Int}(hps:ps≠[]) (c:Int):∃ x∈ps,(0:Int) < ((ps.map V.int).length:Int)∧atI (ps.map V.int) (c % ((ps.map V.int).length:Int))=some (.int x):=by
  have lp:0 < ps.length:=List.length_pos_iff.mpr hps
  have a0:=Int.emod_nonneg c (b:=((ps.map V.int).length:Int)) (by rw [List.length_map];omega)
  have a1:=Int.emod_lt_of_pos c (b:=((ps.map V.int).length:Int)) (by rw [List.length_map];omega)
  obtain ⟨j,ej⟩:∃ j:Nat,c % ((ps.map V.int).length:Int)=(j:Int):=⟨(c % ((ps.map V.int).length:Int)).toNat,by omega⟩
  have hj:j < ps.length:=by rw [List.length_map] at a1 ej;omega
  exact ⟨ps[j],List.getElem_mem hj,by rw [List.length_map];omega,by rw [ej];exact atI_nat (by rw [List.getElem?_map,List.getElem?_eq_getElem hj];rfl)⟩
theorem kind_at {ks:List Int}{F:Nat}{x:Int}(hk:KS ks F) (h1:0≤x) (h2:x < (F:Int)):atI (ks.map V.int) x=some (.int (kindOf ks x)):=by
  have hx:x.toNat < ks.length:=by have:=hk.len;omega
  have ex:x=((x.toNat:Nat):Int):=by omega
  have:atI (ks.map V.int) ((x.toNat:Nat):Int)=some (.int (kindOf ks x)):=by
    refine atI_nat ?_
    unfold kindOf
    rw [List.getElem?_map,List.getElem?_eq_getElem hx,List.getD_eq_getElem?_getD,List.getElem?_eq_getElem hx]
    rfl
  rw [← ex] at this
  exact this
theorem kind_rng {ks:List Int}{F:Nat}{x:Int}(hk:KS ks F) (h1:0≤x) (h2:x < (F:Int)):kindOf ks x=0∨kindOf ks x=1∨kindOf ks x=2:=by
  have hx:x.toNat < ks.length:=by have:=hk.len;omega
  unfold kindOf
  rw [List.getD_eq_getElem?_getD,List.getElem?_eq_getElem hx]
  exact hk.rng _ (List.getElem_mem hx)
def spSlots (Pt:Addr):Sp:=fun vs H Q _=>∃ (c:Int) (kl:Addr) (ks:List Int) (F M:Nat),vs=[.int c,.ref kl,.int M]∧H kl=some (.lst (ks.map V.int))∧KS ks F∧2≤F∧F≤12∧M≤16∧H Pt=some (.tbl #[]) ∧
  ∀ (lk:Addr) (ts:List Addr) (ls:List Lk) (H':Hp),KP Pt H H'→H lk=none→Lks H' lk ts ls→LO ks F ls→ls.length≤M→Q (.ref lk) H'
theorem ok_slots (T:Tx K mg) (BB:BM mg base):FnOk P w K mg base CX0 6 T.f_l_slots T.fd_l_slots ["_law_cell_here","_law_kinds_here","_law_most"] (spSlots T.P_l_slots):=by
  refine T.FC_l_slots.ok sc_l_slots (fun vs H Q E h=>?_) (fun A outer s H vs Q E hr h=>?_)
  · obtain ⟨c,kl,ks,F,M,rfl,_⟩:=h
    rfl
  · obtain ⟨c,kl,ks,F,M,rfl,hkl,hKS,f1,f2,hM,hP,k⟩:=h
    have r1:Room 1 _:=hr.mono (by decide)
    have r2:Room 2 _:=hr.mono (by decide)
    have r4:Room 4 _:=hr.mono (by decide)
    refine ⟨_,@pss_cons _ _ _ _ _ (ps_set (i:=3) sc_l_slots.nd rfl (Or.inl rfl) (pe_lst pa_nil))
      (@pss_cons _ _ _ _ _ (ps_set (i:=4) sc_l_slots.nd rfl (Or.inl rfl) (pe_lst (pa_cons pe_int pa_nil)))
      (@pss_cons _ _ _ _ _ (ps_setComp (i:=5) (N':=["_law_f","_law_kinds_here"]) (cap:=[none,some 1]) sc_l_slots.nd rfl rfl rfl (compOk_of (by kernel_rfl)) (pi_range2 rfl T.z_range (pa_cons pe_int (pa_cons (pe_callB call_len_seq rfl T.z_len PySem.boot_len (pa_cons (pv 1) pa_nil)) pa_nil)))
        (fun cells C s₀ H₀ fp pins=>⟨pg_name (i:=0) (ndp2 (by decide +kernel)) rfl (Or.inl rfl) (.inr rfl),pifs_one (pt_cmpR op_gt (pe_ix (ix_listK (K:=K) rfl) (pv 1) (pv 0) (fun _ _=>rfl)) pe_int (nomark _)),pv 0⟩))
      (@pss_cut _ _ _ _ _ (ps_set (i:=5) sc_l_slots.nd rfl (Or.inl rfl) (pe_sortKey (k:=1) (pn:="_law_f") (cn:="_law_cell_here") 0 (pv 5) rfl T.z_sorted BB T.FC_l_slots.hd rfl (by exact ⟨rfl,rfl,rfl,rfl,rfl,by decide +kernel,by decide +kernel⟩) r4 rfl rfl (s.heap.objs.size + 1) rfl rfl
        (fun _ _ _ _=>rfl) (fun f c' A outer s H hr=>pe_call (ok_mixed T) hr rfl T.g_l_mixed T.F_l_mixed.kp T.b_l_mixed .nil pass0 (pa_cons (pv 1) (pa_cons (pe_op op_add pe_int (pv 0)) pa_nil)))))
      (@pss_cons _ _ _ _ _ (ps_for PassesOwn.never rfl (pi_list (pv 5)) (pg_name (i:=6) sc_l_slots.nd rfl (Or.inl rfl))
        (@pss_cut _ _ _ _ _ (ps_if (PW.pt (pw_and (pt_cmpR op_gt (pe_op op_mod (pe_call (ok_mixed T) r1 rfl T.g_l_mixed T.F_l_mixed.kp T.b_l_mixed .nil pass0 (pa_cons (pv 0) (pa_cons (pe_op op_add pe_int (pv 6)) pa_nil))) pe_int) pe_int (nomark _)) (pw_and1 (pt_cmpR op_lt (pe_callB call_len_seq rfl T.z_len PySem.boot_len (pa_cons (pv 3) pa_nil)) (pv 2) (nomark _)))))
          (pss_cons (ps_set (i:=7) sc_l_slots.nd rfl (Or.inl rfl) (pe_ix ix_list (pv 4) (pe_op op_mod (pe_call (ok_mixed T) r1 rfl T.g_l_mixed T.F_l_mixed.kp T.b_l_mixed .nil pass0 (pa_cons (pv 0) (pa_cons (pe_op op_add pe_int (pv 6)) pa_nil))) (pe_callB call_len_seq rfl T.z_len PySem.boot_len (pa_cons (pv 4) pa_nil))) (fun _ _=>rfl)))
          (pss_one (ps_expr (pe_bm PySem.F.plainAttrs_list PySem.F.slot_list_append PySem.F.type_list_append mt_append (pv 3) (pa_cons (pe_tup (pa_cons (pv 7) (pa_cons (pe_call (ok_new T) r2 rfl T.g_l_new_name T.F_l_new_name.kp T.b_l_new_name .nil pass0 (pa_cons (pv 0) (pa_cons (pv 6) (pa_cons (pv 3) (pa_cons (pv 7) pa_nil))))) (pa_cons (pv 6) pa_nil)))) pa_nil))))) pss_nil)
        (@pss_one _ _ _ (ps_if (pt_cmpR op_eq (pe_ix ix_list (pv 1) (pv 6) (fun _ _=>rfl)) pe_int (nomark _)) (pss_one (ps_expr (pe_bm PySem.F.plainAttrs_list PySem.F.slot_list_append PySem.F.type_list_append mt_append (pv 4) (pa_cons (pv 6) pa_nil)))) pss_nil))))
      (@pss_cons _ _ _ _ _ (ps_for PassesOwn.never rfl (pi_list (pv 5)) (pg_name (i:=6) sc_l_slots.nd rfl (Or.inl rfl))
        (@pss_one _ _ _ (ps_if (PW.pt (pw_and (pt_cmpR op_eq (pe_ix ix_list (pv 1) (pv 6) (fun _ _=>rfl)) pe_int (nomark _)) (pw_and (pt_cmpR op_eq (pe_op op_mod (pe_call (ok_mixed T) r1 rfl T.g_l_mixed T.F_l_mixed.kp T.b_l_mixed .nil pass0 (pa_cons (pv 0) (pa_cons (pe_op op_add pe_int (pv 6)) pa_nil))) pe_int) pe_int (nomark _)) (pw_and1 (pt_cmpR op_lt (pe_callB call_len_seq rfl T.z_len PySem.boot_len (pa_cons (pv 3) pa_nil)) (pv 2) (nomark _))))))
          (pss_cons (ps_set (i:=7) sc_l_slots.nd rfl (Or.inl rfl) (pe_ix ix_list (pv 4) (pe_op op_mod (pe_call (ok_mixed T) r1 rfl T.g_l_mixed T.F_l_mixed.kp T.b_l_mixed .nil pass0 (pa_cons (pv 0) (pa_cons (pe_op op_add pe_int (pv 6)) pa_nil))) (pe_callB call_len_seq rfl T.z_len PySem.boot_len (pa_cons (pv 4) pa_nil))) (fun _ _=>rfl)))
          (pss_one (ps_expr (pe_bm PySem.F.plainAttrs_list PySem.F.slot_list_append PySem.F.type_list_append mt_append (pv 3) (pa_cons (pe_tup (pa_cons (pv 7) (pa_cons (pe_call (ok_new T) r2 rfl T.g_l_new_name T.F_l_new_name.kp T.b_l_new_name .nil pass0 (pa_cons (pv 0) (pa_cons (pe_op op_add pe_int (pv 6)) (pa_cons (pv 3) (pa_cons (pv 7) pa_nil))))) (pa_cons (pv 6) pa_nil)))) pa_nil))))) pss_nil)))
      (@pss_one _ _ _ (ps_ret (pv 3)))))))),?_⟩
    refine ⟨(by show 0≤sizeLine;decide),fun lk flk=>⟨(by show 1≤sizeLine;decide),fun fl ffl=>?_⟩⟩
    have ffl0:H fl=none:=(Same.upd0 flk).free ffl
    have nap:fl≠lk:=fun z=>by rw [z,upd_same] at ffl;cases ffl
    have s2:=(Same.upd0 (o:=.lst []) flk).upd (o:=.lst [.int 0]) ffl
    have SS0:SS (upd (upd H lk (.lst [])) fl (.lst [.int 0])) lk fl [] [] [0] 0:=⟨⟨(Same.upd0 ffl) _ _ upd_same,rfl,fun i t l e=>by simp at e⟩,upd_same,by simp,nap,List.Pairwise.nil,Nat.le_refl _⟩
    generalize upd (upd H lk (.lst [])) fl (.lst [.int 0])=H2 at s2 SS0 ⊢
    have hkl2:=s2 _ _ hkl
    have hP2:=s2 _ _ hP
    have lks:=hKS.len
    refine ⟨_,rfl,kl,_,rfl,.inl (SqL.of hkl2),1,(F:Int),(by rw [List.length_map,lks]),⟨by decide,by decide,by omega,by omega⟩,?_⟩
    refine comp_range (cap:=[none,some 1]) (σ:=[some (.int c),some (.ref kl),some (.int M),some (.ref lk),some (.ref fl),none,none,none]) (small_len (n:=((F:Int) - 1).toNat) (by omega)) (fun i ys σ H'=>i≤((F:Int) - 1).toNat∧∃ gs:List Int,ys=gs.map V.int∧gs.length≤i∧gs.Nodup∧(∀ g∈gs,1≤g∧g < 1 + (i:Int)∧kindOf ks g≠0)∧(∃ s0,σ=[s0,some (.ref kl)])∧H'=H2)
      (by exact ⟨Nat.zero_le _,[],rfl,Nat.le_refl _,List.Pairwise.nil,fun _ h=>(nomatch h),⟨none,rfl⟩,rfl⟩) (fun i ys σ H' ⟨h1,gs,h2,h3,_⟩=>⟨h1,by rw [h2,List.length_map];exact h3⟩) ?_ ?_
    · rintro i ys σ H' hi ⟨h1,gs,rfl,h3,h4,h5,⟨s0,rfl⟩,rfl⟩
      have ka:=kind_at (x:=1 + (i:Int)) hKS (by omega) (by omega)
      have kr:=kind_rng (x:=1 + (i:Int)) hKS (by omega) (by omega)
      refine ⟨_,rfl,_,rfl,kl,_,_,_,rfl,rfl,SqL.of hkl2,ka,_,_,rfl,rfl,_,rfl,ite2 (fun hp=>?_) (fun _=>⟨hi,gs,rfl,by omega,h4,fun g hg=>⟨(h5 g hg).1,by have:=(h5 g hg).2.1;omega,(h5 g hg).2.2⟩,⟨_,rfl⟩,rfl⟩)⟩
      have hp:kindOf ks (1 + (i:Int)) > 0:=of_decide_eq_true hp
      refine ⟨_,rfl,hi,gs ++ [1 + (i:Int)],by simp,by simp;omega,?_,fun g hg=>?_,⟨_,rfl⟩,rfl⟩
      · rw [List.nodup_append]
        exact ⟨h4, by simp, fun a ha b hb e => by have := (h5 a ha).2.1; have : b = 1 + (i : Int) := by simpa using hb
                                                  omega⟩
      · rcases List.mem_append.mp hg with h | h
        · exact ⟨(h5 g h).1,by have:=(h5 g h).2.1;omega,(h5 g h).2.2⟩
        · rw [List.mem_singleton.mp h];exact ⟨by omega,by omega,by omega⟩
    rintro ys σ H' ⟨h1,gs,rfl,h3,h4,h5,⟨s0,rfl⟩,eH⟩ ol fol
    rw [eH] at fol ⊢
    have hol:upd H2 ol (.lst (gs.map V.int)) ol=some (.lst (gs.map V.int)):=upd_same
    have s3:=Same.upd0 (o:=.lst (gs.map V.int)) fol
    have hP3:=s3 _ _ hP2
    have SS3:=SS0.same s3
    have hkl3:=s3 _ _ hkl2
    have S3:=s2.trans s3
    generalize upd H2 ol (.lst (gs.map V.int))=H3 at hol hP3 SS3 hkl3 S3 ⊢
    refine ⟨fun σ H'=>∃ (o5:Addr) (os:List Int),σ=[some (.int c),some (.ref kl),some (.int M),some (.ref lk),some (.ref fl),some (.ref o5),none,none]∧KP T.P_l_slots H H'∧SS H' lk fl [] [] [0] 0∧H' o5=some (.lst (os.map V.int))∧o5≠lk∧o5≠fl∧H o5=none∧H' kl=some (.lst (ks.map V.int))∧OS ks os F,?_,?_⟩
    · refine ⟨_,rfl,ol,gs,.int c,fun n=>mix c (40 + n),#[],rfl,SqL.of hol,by omega,rfl,hP3,trivial,rfl,fun n hn more=>?_,fun cr o5 ms hpm f5 n5=>?_⟩
      · exact ⟨_,rfl,_,rfl,_,_,rfl,rfl,c,40 + n,rfl,rfl,rfl⟩
      · have keep:∀ (o:HO) b xs,H3 b=some (.lst xs)→upd (upd H3 T.P_l_slots o) o5 (.lst (ms.map V.int)) b=some (.lst xs):=fun o b xs e=>by
          rw [upd_ne (ne_of_none e f5),upd_ne (fun z=>by rw [z,hP3] at e;cases e)]
          exact e
        have nlk:o5≠lk:=Ne.symm (ne_of_none SS3.hk.top f5)
        have nfl:o5≠fl:=Ne.symm (ne_of_none SS3.hf f5)
        refine ⟨o5,ms,rfl,?_,⟨⟨keep _ _ _ SS3.hk.top,rfl,fun i t l e=>by simp at e⟩,keep _ _ _ SS3.hf,by simp,nap,List.Pairwise.nil,Nat.le_refl _⟩,upd_same,nlk,nfl,S3.free f5,keep _ _ _ hkl3,⟨hpm.nodup_iff.mpr h4,fun x hx=>?_,by rw [hpm.length_eq];omega⟩⟩
        · exact ((KP.of S3).tab).updF (S3.free f5)
        · have:=h5 x (hpm.mem_iff.mp hx)
          exact ⟨this.1,by omega,this.2.2⟩
    clear hol s3 hP3 SS3 hkl3 S3 hP2 hkl2 SS0 h3 h4 h5
    rintro σ H4 ⟨o5,os,rfl,K4,SS4,ho5,nlk,nfl,fo5,hkl4,hOS⟩
    have lo:=hOS.len
    refine ⟨_,rfl,o5,rfl,⟨_,SqL.of ho5⟩,for_list (K:=K) (a:=o5) (xs:=os.map V.int) (fun i σ H'=>∃ x6 x7 ts ls fs,σ=[some (.int c),some (.ref kl),some (.int M),some (.ref lk),some (.ref fl),some (.ref o5),x6,x7]∧KP T.P_l_slots H H'∧SS H' lk fl ts ls fs i∧ls.length≤M∧H' o5=some (.lst (os.map V.int))∧H' kl=some (.lst (ks.map V.int))∧(∀ x∈fs,FP ks os i x)∧fs.length≤i + 1∧∀ l∈ls,LP ks os l)
      ⟨none,none,[],[],[0],rfl,K4,SS4,Nat.zero_le _,ho5,hkl4,fun x hx=>.inl (by simpa using hx),by simp,fun _ h=>(nomatch h)⟩ (fun i σ H' _ ⟨_,_,_,_,_,_,_,_,_,h,_⟩=>SqL.of h) ?_ ?_⟩
    · rintro i z σ H5 hz ⟨x6,x7,ts,ls,fs,rfl,K5,SS5,hlM,ho5',hkl5,hfs,lfs,hls⟩
      rw [List.getElem?_map] at hz
      cases ef:os[i]? with
      | none=>rw [ef] at hz;cases hz
      | some f =>
        rw [ef] at hz
        cases hz
        have hfm:=List.mem_of_getElem? ef
        have hfe:=hOS.el f hfm
        have hio:i < os.length:=(List.getElem?_eq_some_iff.mp ef).1
        refine ⟨fun σ H'=>∃ x7 ts ls,σ=[some (.int c),some (.ref kl),some (.int M),some (.ref lk),some (.ref fl),some (.ref o5),some (.int f),x7]∧KP T.P_l_slots H H'∧SS H' lk fl ts ls fs (i + 1)∧ls.length≤M∧H' o5=some (.lst (os.map V.int))∧H' kl=some (.lst (ks.map V.int))∧∀ l∈ls,LP ks os l,?_,?_⟩
        · have els:∃ x7' ts' ls',[some (V.int c),some (.ref kl),some (.int M),some (.ref lk),some (.ref fl),some (.ref o5),some (.int f),x7]=[some (V.int c),some (.ref kl),some (.int M),some (.ref lk),some (.ref fl),some (.ref o5),some (.int f),x7']∧KP T.P_l_slots H H5∧SS H5 lk fl ts' ls' fs (i + 1)∧ls'.length≤M∧H5 o5=some (.lst (os.map V.int))∧H5 kl=some (.lst (ks.map V.int))∧∀ l∈ls',LP ks os l:=⟨x7,ts,ls,rfl,K5,SS5.more (by omega),hlM,ho5',hkl5,hls⟩
          refine ⟨_,rfl,_,rfl,_,_,rfl,rfl,c,_,rfl,_,_,rfl,rfl,(by show (0:Int) < 5;decide),_,_,rfl,rfl,_,rfl,ite2 (fun _=>?_) (fun _=>iteF els)⟩
          refine ⟨_,rfl,lk,_,rfl,.inl (SqL.of SS5.hk.top),_,rfl,_,_,rfl,rfl,_,rfl,ite2 (fun hlt=>?_) (fun _=>els)⟩
          have hlt:((ts.map V.ref).length:Int) < (M:Int):=of_decide_eq_true hlt
          rw [List.length_map,SS5.hk.len] at hlt
          obtain ⟨fo,hfo,hpos,hat⟩:=fold_at SS5.ne (mix c (80 + f))
          refine ⟨_,rfl,_,rfl,_,rfl,_,_,rfl,rfl,c,_,rfl,_,rfl,fl,_,rfl,.inl (SqL.of SS5.hf),_,_,rfl,rfl,hpos,fl,_,_,.int fo,rfl,rfl,SqL.of SS5.hf,hat,?_⟩
          refine ⟨_,rfl,.inl ⟨rfl,_,SqL.of SS5.hk.top⟩,_,rfl,_,rfl,_,rfl,_,rfl,_,rfl,c,f,lk,ts,ls,fo,rfl,SS5.hk,(by have:=SS5.len;omega),fun nm H6 s6 hnm hno=>?_⟩
          refine ⟨_,rfl,(by show 3≤sizeLine;decide),fun tp ftp=>?_⟩
          have s7:=s6.upd (o:=.tup [.int fo,.int nm,.int f]) ftp
          refine ⟨lk,_,_,rfl,rfl,s7 _ _ SS5.hk.top,small1000 (by have:=SS5.len;have:=SS5.hk.len;rw [List.length_map];omega),?_⟩
          refine ⟨_,ts ++ [tp],ls ++ [(fo,nm,f)],rfl,(K5.trans s7).updF flk,SS5.add (l:=(fo,nm,f)) s7 upd_same hno,by simp;omega,?_,?_,fun l hl=>?_⟩
          · rw [upd_ne nlk];exact s7 _ _ ho5'
          · rw [upd_ne (fun z=>by rw [z,flk] at hkl;cases hkl)];exact s7 _ _ hkl5
          · rcases List.mem_append.mp hl with h | h
            · exact hls l h
            · rw [List.mem_singleton.mp h]
              refine ⟨hnm,hfm,?_,.inr ⟨i,ef,hfs fo hfo⟩⟩
              rcases hfs fo hfo with z | ⟨j,_,ej,kz⟩
              · exact .inl z
              · exact .inr ⟨List.mem_of_getElem? ej,kz⟩
        rintro σ H6 ⟨y7,ts6,ls6,rfl,K6,SS6,hlM6,ho6,hkl6,hls6⟩
        have hfs':∀ x∈fs,FP ks os (i + 1) x:=fun x hx=>by
          rcases hfs x hx with z | ⟨j,hj,ej,kz⟩
          · exact .inl z
          · exact .inr ⟨j,by omega,ej,kz⟩
        refine ⟨_,rfl,_,rfl,kl,_,_,_,rfl,rfl,SqL.of hkl6,kind_at hKS (by omega) hfe.2.1,rfl,_,rfl,ite2 (fun h2=>?_) (fun _=>⟨_,_,ts6,ls6,fs,rfl,K6,SS6,hlM6,ho6,hkl6,hfs',by omega,hls6⟩)⟩
        have h2:kindOf ks f=2:=by have:=of_decide_eq_true h2;injection this
        refine ⟨_,rfl,.inl ⟨rfl,_,SqL.of SS6.hf⟩,_,rfl,fl,_,_,rfl,rfl,SS6.hf,small1000 (by rw [List.length_map];omega),?_⟩
        refine ⟨_,_,ts6,ls6,fs ++ [f],rfl,K6.updF ffl0,⟨SS6.hk.off SS6.hf nap,by rw [upd_same,List.map_append];rfl,by simp,nap,SS6.nd,SS6.len⟩,hlM6,?_,?_,fun x hx=>?_,by simp;omega,hls6⟩
        · rw [upd_ne nfl];exact ho6
        · rw [upd_ne (fun z=>by rw [z,ffl0] at hkl;cases hkl)];exact hkl6
        · rcases List.mem_append.mp hx with h | h
          · exact hfs' x h
          · rw [List.mem_singleton.mp h];exact .inr ⟨i,by omega,ef,h2⟩
    rintro σ H5 ⟨x6,x7,ts5,ls5,fs,rfl,K5,SS5,hlM5,ho5',hkl5,hfs,lfs,hls5⟩
    rw [List.length_map] at SS5 hfs lfs
    refine ⟨_,rfl,o5,rfl,⟨_,SqL.of ho5'⟩,for_list (K:=K) (a:=o5) (xs:=os.map V.int) (fun i σ H'=>∃ x6 x7 ts ls,σ=[some (.int c),some (.ref kl),some (.int M),some (.ref lk),some (.ref fl),some (.ref o5),x6,x7]∧KP T.P_l_slots H H'∧SS H' lk fl ts ls fs (os.length + i)∧ls.length≤M∧H' o5=some (.lst (os.map V.int))∧H' kl=some (.lst (ks.map V.int))∧∀ l∈ls,LP ks os l)
      ⟨_,_,ts5,ls5,rfl,K5,SS5,hlM5,ho5',hkl5,hls5⟩ (fun i σ H' _ ⟨_,_,_,_,_,_,_,_,h,_⟩=>SqL.of h) ?_ ?_⟩
    · rintro i z σ H6 hz ⟨y6,y7,ts,ls,rfl,K6,SS6,hlM,ho6,hkl6,hls⟩
      rw [List.getElem?_map] at hz
      cases ef:os[i]? with
      | none=>rw [ef] at hz;cases hz
      | some f =>
        rw [ef] at hz
        cases hz
        have hfm:=List.mem_of_getElem? ef
        have hfe:=hOS.el f hfm
        have hio:i < os.length:=(List.getElem?_eq_some_iff.mp ef).1
        have els:∃ x6 x7 ts' ls',[some (V.int c),some (.ref kl),some (.int M),some (.ref lk),some (.ref fl),some (.ref o5),some (.int f),y7]=[some (V.int c),some (.ref kl),some (.int M),some (.ref lk),some (.ref fl),some (.ref o5),x6,x7]∧KP T.P_l_slots H H6∧SS H6 lk fl ts' ls' fs (os.length + (i + 1))∧ls'.length≤M∧H6 o5=some (.lst (os.map V.int))∧H6 kl=some (.lst (ks.map V.int))∧∀ l∈ls',LP ks os l:=⟨_,_,ts,ls,rfl,K6,SS6.more (by omega),hlM,ho6,hkl6,hls⟩
        refine ⟨_,rfl,_,rfl,kl,_,_,_,rfl,rfl,SqL.of hkl6,kind_at hKS (by omega) hfe.2.1,rfl,_,rfl,ite2 (fun h1=>?_) (fun _=>iteF els)⟩
        have h1:kindOf ks f=1:=by have:=of_decide_eq_true h1;injection this
        refine ⟨_,rfl,_,rfl,_,_,rfl,rfl,c,_,rfl,_,_,rfl,rfl,(by show (0:Int) < 3;decide),rfl,_,rfl,ite2 (fun _=>?_) (fun _=>iteF els)⟩
        refine ⟨_,rfl,lk,_,rfl,.inl (SqL.of SS6.hk.top),_,rfl,_,_,rfl,rfl,_,rfl,ite2 (fun hlt=>?_) (fun _=>els)⟩
        have hlt:((ts.map V.ref).length:Int) < (M:Int):=of_decide_eq_true hlt
        rw [List.length_map,SS6.hk.len] at hlt
        obtain ⟨fo,hfo,hpos,hat⟩:=fold_at SS6.ne (mix c (180 + f))
        refine ⟨_,rfl,_,rfl,_,rfl,_,_,rfl,rfl,c,_,rfl,_,rfl,fl,_,rfl,.inl (SqL.of SS6.hf),_,_,rfl,rfl,hpos,fl,_,_,.int fo,rfl,rfl,SqL.of SS6.hf,hat,?_⟩
        refine ⟨_,rfl,.inl ⟨rfl,_,SqL.of SS6.hk.top⟩,_,rfl,_,rfl,_,rfl,_,_,rfl,rfl,_,rfl,_,rfl,c,20 + f,lk,ts,ls,fo,rfl,SS6.hk,(by omega),fun nm H7 s7 hnm hno=>?_⟩
        refine ⟨_,rfl,(by show 3≤sizeLine;decide),fun tp ftp=>?_⟩
        have s8:=s7.upd (o:=.tup [.int fo,.int nm,.int f]) ftp
        refine ⟨lk,_,_,rfl,rfl,s8 _ _ SS6.hk.top,small1000 (by have:=SS6.hk.len;rw [List.length_map];omega),?_⟩
        refine ⟨_,_,ts ++ [tp],ls ++ [(fo,nm,f)],rfl,(K6.trans s8).updF flk,SS6.add (l:=(fo,nm,f)) s8 upd_same hno,by simp;omega,?_,?_,fun l hl=>?_⟩
        · rw [upd_ne nlk];exact s8 _ _ ho6
        · rw [upd_ne (fun z=>by rw [z,flk] at hkl;cases hkl)];exact s8 _ _ hkl6
        · rcases List.mem_append.mp hl with h | h
          · exact hls l h
          · rw [List.mem_singleton.mp h]
            refine ⟨hnm,hfm,?_,.inl h1⟩
            rcases hfs fo hfo with z | ⟨j,_,ej,kz⟩
            · exact .inl z
            · exact .inr ⟨List.mem_of_getElem? ej,kz⟩
    rintro σ H6 ⟨y6,y7,ts,ls,rfl,K6,SS6,hlM,ho6,hkl6,hls⟩
    exact ⟨_,rfl,k lk ts ls H6 K6 flk SS6.hk (LO.of hKS hOS SS6.nd hls) hlM⟩
end
end K62
namespace K62
open PySem L2 PyProof.Rows PySem.W
section
variable {P:Program}{w:World}{K:PySem.W.Frag}{mg:Str→Option Value}{base:Heap}
structure W (G H:Hp) (v fl:Addr) (as:List Addr) (rows:List (List Int)) (fr:List Int) (n lo:Nat):Prop where
  sg:Same G H
  gv:G v=none
  gf:G fl=none
  ga:∀ b∈as,G b=none
  vol:Vol H v as rows
  len:rows.length=n
  r8:∀ r∈rows,r.length=8
  fre:H fl=some (.lst (fr.map V.int))
  fd:fr.Nodup
  fin:∀ x∈fr,(lo:Int)≤x∧x < (n:Int)
  nvf:fl≠v
  naf:fl∉as
section
variable {G H:Hp}{v fl:Addr}{as:List Addr}{rows:List (List Int)}{fr:List Int}{n lo:Nat}
theorem W.same {H':Hp}(h:W G H v fl as rows fr n lo) (s:Same H H'):W G H' v fl as rows fr n lo:=⟨h.sg.trans s,h.gv,h.gf,h.ga,h.vol.same s,h.len,h.r8,s _ _ h.fre,h.fd,h.fin,h.nvf,h.naf⟩
theorem W.pop {r:List Int}{x:Int}(h:W G H v fl as rows fr n lo) (e:fr=r ++ [x]):W G (upd H fl (.lst (r.map V.int))) v fl as rows r n lo:=by
  have fd:=h.fd
  rw [e,List.nodup_append] at fd
  exact ⟨h.sg.updF h.gf,h.gv,h.gf,h.ga,h.vol.off h.naf h.nvf,h.len,h.r8,upd_same,fd.1,fun y hy=>h.fin y (by rw [e];exact List.mem_append.mpr (.inl hy)),h.nvf,h.naf⟩
theorem mem_set8 {rows:List (List Int)}{i:Nat}{r:List Int}(h:∀ x∈rows,x.length=8) (hr:r.length=8):∀ x∈rows.set i r,x.length=8:=fun x hx=>by
  rcases List.mem_or_eq_of_mem_set hx with h' | h'
  · exact h x h'
  · rw [h'];exact hr
theorem W.row {H1:Hp}{q:Addr}{i:Nat}{r:List Int}(h:W G H v fl as rows fr n lo) (fq:H q=none) (s:Same H H1) (hq:H1 q=some (.lst (r.map V.int))) (hr:r.length=8) :
    W G (upd H1 v (.lst ((as.map V.ref).set i (.ref q)))) v fl (as.set i q) (rows.set i r) fr n lo:=by
  have h1:=h.same s
  obtain ⟨n1,n2⟩:=h.vol.fresh fq
  have nfl:fl≠q:=ne_of_none h.fre fq
  refine ⟨h1.sg.updF h.gv,h.gv,h.gf,fun b hb=>?_,(h.vol.same s).set hq n1 n2,by rw [List.length_set];exact h.len,mem_set8 h.r8 hr,by rw [upd_ne h.nvf];exact h1.fre,h.fd,h.fin,h.nvf,fun hb=>?_⟩
  · rcases List.mem_or_eq_of_mem_set hb with h' | h'
    · exact h.ga b h'
    · rw [h'];exact h.sg.free fq
  · rcases List.mem_or_eq_of_mem_set hb with h' | h'
    · exact h.naf h'
    · exact nfl h'
theorem W.wr {a:Addr}{i:Nat}{r r':List Int}(h:W G H v fl as rows fr n lo) (ea:as[i]?=some a) (er:rows[i]?=some r) (hr:r'.length=8):W G (upd H a (.lst (r'.map V.int))) v fl as (rows.set i r') fr n lo:=by
  have ma:=List.mem_of_getElem? ea
  have hi:i < as.length:=(List.getElem?_eq_some_iff.mp ea).1
  have hi2:i < rows.length:=(List.getElem?_eq_some_iff.mp er).1
  have nf:fl≠a:=fun z=>h.naf (by rw [z];exact ma)
  refine ⟨h.sg.updF (h.ga a ma),h.gv,h.gf,h.ga,⟨by rw [upd_ne (Ne.symm (h.vol.ne ma))];exact h.vol.top,by simp [h.vol.len],h.vol.nd,fun k b s e1 e2=>?_⟩,by rw [List.length_set];exact h.len,mem_set8 h.r8 hr,by rw [upd_ne nf];exact h.fre,h.fd,h.fin,h.nvf,h.naf⟩
  by_cases hk:k=i
  · subst hk
    rw [ea] at e1
    cases e1
    rw [List.getElem?_set_self hi2] at e2
    cases e2
    exact upd_same
  · rw [List.getElem?_set_ne (Ne.symm hk)] at e2
    rw [upd_ne (fun z=>hk (by rw [z] at e1;exact nodup_at h.vol.nd e1 ea))]
    exact h.vol.row k b s e1 e2
end
def spCheck (K:PySem.W.Frag):Sp:=fun vs H Q _=>∃ (a:Addr) (ns:List Int),vs=[.ref a]∧SqL K H a (ns.map V.int)∧ns.length≤63∧∀ (x:Int) (H':Hp),Same H H'→Q (.int x) H'
theorem ok_check (T:Tx K mg):FnOk P w K mg base CX0 1 T.f_l_check T.fd_l_check ["_law_numbers"] (spCheck K):=by
  refine T.F_l_check.ok sc_l_check (fun vs H Q E h=>?_) (fun cdv A outer s H vs Q E hr h=>?_)
  · obtain ⟨a,ns,rfl,_⟩:=h
    rfl
  · obtain ⟨a,ns,rfl,hS,hl,k⟩:=h
    refine ⟨_,pss_one (ps_ret (pe_op op_mod (pe_callB (call_sumL rfl) rfl T.z_sum boot_sum (pa_cons (pe_comp (N':=["_law_k","_law_numbers"]) (cap:=[none,some 0]) rfl (compOk_of (by kernel_rfl)) (pi_range1 rfl T.z_range (pa_cons (pe_callB call_len_seq rfl T.z_len PySem.boot_len (pa_cons (pv 0) pa_nil)) pa_nil))
      (fun cells C s₀ H₀ fp pins=>⟨pg_name (i:=0) (ndp2 (by decide +kernel)) rfl (Or.inl rfl) (.inr rfl),pifs_nil,pe_op op_mul (pe_op op_add (pv 0) pe_int) (pe_ix (ix_listK (K:=K) rfl) (pv 1) (pv 0) (fun _ _=>rfl))⟩)) pa_nil)) pe_int)),?_⟩
    have ll:((ns.map V.int).length:Int)=(ns.length:Int):=by rw [List.length_map]
    refine ⟨_,rfl,a,_,rfl,.inl hS,(ns.length:Int),(by rw [List.length_map]),by omega,by omega,?_⟩
    rw [Int.toNat_natCast]
    refine comp_range (cap:=[none,some 0]) (σ:=[some (.ref a)]) (small_len (n:=ns.length) (by omega)) (fun i ys σ H'=>∃ ms:List Int,ys=ms.map V.int∧ms.length=i∧i≤ns.length∧(∃ s0,σ=[s0,some (.ref a)])∧H'=H)
      (by exact ⟨[],rfl,rfl,Nat.zero_le _,⟨none,rfl⟩,rfl⟩) (fun i ys σ H' ⟨ms,h1,h2,h3,_⟩=>⟨h3,by rw [h1];simp [h2]⟩) ?_ ?_
    · rintro i ys σ H' hi ⟨ms,rfl,h2,h3,⟨s0,rfl⟩,rfl⟩
      refine ⟨_,rfl,_,_,rfl,rfl,_,rfl,_,rfl,a,_,_,.int ns[i],rfl,rfl,hS,?_,_,_,rfl,rfl,.inl ⟨by omega,by omega⟩,ms ++ [_],by rw [List.map_append];rfl,by simp [h2],hi,⟨_,rfl⟩,rfl⟩
      have:(0:Int) + (i:Int)=(i:Int):=by omega
      rw [this]
      exact atI_nat (by rw [List.getElem?_map,List.getElem?_eq_getElem hi];rfl)
    rintro ys σ H' ⟨ms,rfl,h2,h3,⟨s0,rfl⟩,eH⟩ Dm hDm
    rw [eH] at hDm ⊢
    exact ⟨Dm,ms,rfl,SqL.of upd_same,_,_,rfl,rfl,(by show (0:Int) < 1000003;decide),k _ _ (Same.upd0 hDm)⟩
def spTake (K:PySem.W.Frag):Sp:=fun vs H Q _=>∃ (c k:Int) (wd:Bool) (fl:Addr) (fr:List Int),vs=[.int c,.int k,.bl wd,.ref fl]∧H fl=some (.lst (fr.map V.int))∧(∀ H',Same H H'→Q (.int 0) H')∧∀ (r:List Int) (x:Int) (H':Hp),fr=r ++ [x]→Same H H'→Q (.int x) (upd H' fl (.lst (r.map V.int)))
theorem ok_take (T:Tx K mg):FnOk P w K mg base CX0 2 T.f_l_take T.fd_l_take ["_law_cell_here","_law_k","_law_wanted","_law_free"] (spTake K):=by
  refine T.F_l_take.ok sc_l_take (fun vs H Q E h=>?_) (fun cdv A outer s H vs Q E hr h=>?_)
  · obtain ⟨c,k,wd,fl,fr,rfl,_⟩:=h
    rfl
  · obtain ⟨c,k,wd,fl,fr,rfl,hf,k0,k1⟩:=h
    have hu:_ + 60 < cLine:=Nat.lt_of_le_of_lt (Nat.add_le_add_left (by decide:60≤64) _) hr.units
    refine ⟨_,pss_cons (ps_if (PW.pt (pw_and (pt_val (pv 2)) (pw_and (pt_cmpR (op_neT hu) (pv 3) (pe_lst pa_nil) (nomark _)) (pw_and1 (pt_cmpR op_gt (pe_op op_mod (pe_call (ok_mixed T) hr rfl T.g_l_mixed T.F_l_mixed.kp T.b_l_mixed .nil pass0 (pa_cons (pv 0) (pa_cons (pe_op op_add pe_int (pv 1)) pa_nil))) pe_int) pe_int (nomark _))))))
        (pss_one (ps_ret (pe_bm0 PySem.F.plainAttrs_list PySem.F.slot_list_pop PySem.F.type_list_pop mt_pop (pv 3)))) pss_nil)
      (pss_one (ps_ret pe_int)),?_⟩
    refine ⟨_,rfl,wd,rfl,?_⟩
    cases wd with
    | false=>exact iteF (iteF (k0 H (Same.refl _)))
    | true =>
      refine iteT ⟨_,rfl,(by show 0≤sizeLine;decide),fun q fq=>?_⟩
      have s1:=Same.upd0 (o:=.lst []) fq
      have hq:upd H q (.lst []) q=some (.lst (([]:List Int).map V.int)):=upd_same
      generalize upd H q (.lst [])=H1 at s1 hq ⊢
      have hf1:=s1 _ _ hf
      refine ⟨fl,q,1,1,trI fr,trI [],rfl,rfl,by decide,by decide,holds_ints (SqL.of hf1),holds_ints (SqL.of hq),(fun _ h=>nomatch h),(fun _ h=>nomatch h),_,rfl,?_⟩
      rw [eqT_I]
      by_cases he:fr=[]
      · exact iteNS he (iteF (k0 H1 s1))
      · refine iteNF he ⟨_,rfl,_,rfl,_,_,rfl,rfl,c,_,rfl,_,_,rfl,rfl,(by show (0:Int) < 4;decide),_,_,rfl,rfl,_,rfl,ite2 (fun _=>?_) (fun _=>k0 H1 s1)⟩
        obtain ⟨r,x,er⟩:∃ r x,fr=r ++ [x]:=⟨fr.dropLast,fr.getLast he,(List.dropLast_concat_getLast he).symm⟩
        have q1:=k1 r x H1 er s1
        subst er
        refine ⟨_,rfl,.inl ⟨rfl,_,SqL.of hf1⟩,fl,_,.int x,rfl,rfl,hf1,by simp,?_⟩
        have:((r ++ [x]).map V.int).dropLast=r.map V.int:=by rw [List.map_append];simp
        rw [this]
        exact q1
def spSize:Sp:=fun vs H Q _=>∃ (c f:Int),vs=[.int c,.int f]∧∀ (x:Int) (H':Hp),0≤x∧x≤88→Same H H'→Q (.int x) H'
theorem six_at (j:Nat) (h:j < 6):∃ x:Int,(0≤x∧x≤88)∧(([0,1,8,24,25,88]:List Int).map V.int)[j]?=some (.int x):=by
  match j,h with
  | 0,_=>exact ⟨0,by decide,rfl⟩
  | 1,_=>exact ⟨1,by decide,rfl⟩
  | 2,_=>exact ⟨8,by decide,rfl⟩
  | 3,_=>exact ⟨24,by decide,rfl⟩
  | 4,_=>exact ⟨25,by decide,rfl⟩
  | 5,_=>exact ⟨88,by decide,rfl⟩
theorem ok_size (T:Tx K mg):FnOk P w K mg base CX0 2 T.f_l_size T.fd_l_size ["_law_cell_here","_law_f"] spSize:=by
  refine T.F_l_size.ok sc_l_size (fun vs H Q E h=>?_) (fun cdv A outer s H vs Q E hr h=>?_)
  · obtain ⟨c,f,rfl,_⟩:=h
    rfl
  · obtain ⟨c,f,rfl,k⟩:=h
    refine ⟨_,@pss_cons _ _ _ _ _ (@ps_set _ _ 2 _ _ _ _ sc_l_size.nd rfl (Or.inl rfl) (@pe_ints _ _ [0,1,8,24,25,88] _ rfl) rfl (Or.inl rfl))
      (@pss_cons _ _ _ _ _ (ps_if (pt_cmpR op_eq (pe_op op_mod (pe_call (ok_mixed T) hr rfl T.g_l_mixed T.F_l_mixed.kp T.b_l_mixed .nil pass0 (pa_cons (pv 0) (pa_cons (pe_op op_add pe_int (pv 1)) pa_nil))) pe_int) pe_int (nomark _)) (pss_one (ps_ret (pe_ix ix_list (pv 2) (pe_op op_mod (pe_call (ok_mixed T) hr rfl T.g_l_mixed T.F_l_mixed.kp T.b_l_mixed .nil pass0 (pa_cons (pv 0) (pa_cons (pe_op op_add pe_int (pv 1)) pa_nil))) pe_int) (fun _ _=>rfl)))) pss_nil)
      (@pss_one _ _ _ (ps_ret (pe_op op_mod (pe_call (ok_mixed T) hr rfl T.g_l_mixed T.F_l_mixed.kp T.b_l_mixed .nil pass0 (pa_cons (pv 0) (pa_cons (pe_op op_add pe_int (pv 1)) pa_nil))) pe_int)))),?_⟩
    refine ⟨(by show 6≤sizeLine;decide),fun q fq=>?_⟩
    have s1:=Same.upd0 (o:=.lst (([0,1,8,24,25,88]:List Int).map V.int)) fq
    have m0:=mix_lo c (240 + f)
    refine ⟨_,rfl,_,rfl,_,_,rfl,rfl,c,_,rfl,_,_,rfl,rfl,(by show (0:Int) < 3;decide),rfl,_,rfl,ite2 (fun _=>?_) (fun _=>?_)⟩
    · obtain ⟨j,ej⟩:∃ j:Nat,mix c (240 + f) % 6=(j:Int):=⟨(mix c (240 + f) % 6).toNat,by omega⟩
      obtain ⟨x,hx,ex⟩:=six_at j (by omega)
      exact ⟨_,rfl,_,rfl,_,rfl,_,_,rfl,rfl,c,_,rfl,_,_,rfl,rfl,(by show (0:Int) < 6;decide),q,_,_,.int x,rfl,rfl,SqL.of upd_same,(by rw [ej];exact atI_nat ex),k x _ hx s1⟩
    · exact ⟨_,rfl,_,rfl,_,_,rfl,rfl,c,_,rfl,_,_,rfl,rfl,(by show (0:Int) < 89;decide),k _ _ ⟨by omega,by omega⟩ s1⟩
end
end K62
namespace K62
open PySem L2 PyProof.Rows PySem.W
section
variable {P:Program}{w:World}{K:PySem.W.Frag}{mg:Str→Option Value}{base:Heap}
section
variable {G H:Hp}{v fl:Addr}{as:List Addr}{rows:List (List Int)}{fr:List Int}{n lo:Nat}
theorem W.grow {D:Addr}{o:HO}(h:W G H v fl as rows fr n lo) (hD:H D=some o) (n1:D≠v) (n2:D≠fl) (n3:D∉as):W (upd G D o) H v fl as rows fr n lo:=by
  refine ⟨fun b u e=>?_,by rw [upd_ne (Ne.symm n1)];exact h.gv,by rw [upd_ne (Ne.symm n2)];exact h.gf,fun b hb=>by rw [upd_ne (fun z=>n3 (by rw [← z];exact hb))];exact h.ga b hb,h.vol,h.len,h.r8,h.fre,h.fd,h.fin,h.nvf,h.naf⟩
  by_cases hb:b=D
  · subst hb
    rw [upd_same] at e
    cases e
    exact hD
  · rw [upd_ne hb] at e
    exact h.sg b u e
theorem W.shrink {G2:Hp}(s:Same G2 G) (h:W G H v fl as rows fr n lo):W G2 H v fl as rows fr n lo:=⟨s.trans h.sg,s.free h.gv,s.free h.gf,fun b hb=>s.free (h.ga b hb),h.vol,h.len,h.r8,h.fre,h.fd,h.fin,h.nvf,h.naf⟩
theorem W.new {D:Addr}(h:W G H v fl as rows fr n lo) (hD:H D=none):D≠v∧D≠fl∧D∉as∧G D=none:=⟨(h.vol.fresh hD).2,Ne.symm (ne_of_none h.fre hD),(h.vol.fresh hD).1,h.sg.free hD⟩
end
def PT (lo n:Nat) (x:Int):Prop:=x=0∨((lo:Int)≤x∧x < (n:Int))
def MoreOk (lo n:Nat) (rows rows':List (List Int)) (as as':List Addr) (fr fr':List Int) (x:Int):Prop :=
  (x=0∧rows'=rows∧as'=as)∨∃ (m:Nat) (r:List Int) (q:Addr),x=(m:Int)∧lo≤m∧m < n∧(m:Int)∈fr∧(m:Int)∉fr'∧rows'=rows.set m r∧as'=as.set m q∧r.length=8∧∀ e∈r,PT lo n e
theorem ndp5 {a b c d e:Str}(h1:a≠b) (h2:a≠c) (h3:a≠d) (h4:a≠e) (h5:b≠c) (h6:b≠d) (h7:b≠e) (h8:c≠d) (h9:c≠e) (h10:d≠e):[a,b,c,d,e].Nodup:=by simp [h1,h2,h3,h4,h5,h6,h7,h8,h9,h10]
def spPieces (K:PySem.W.Frag):Sp:=fun vs H Q _=>∃ (G:Hp) (c f sz:Int) (v fl:Addr) (as:List Addr) (rows:List (List Int)) (fr:List Int) (n lo:Nat),vs=[.int c,.int f,.int sz,.ref v,.ref fl]∧W G H v fl as rows fr n lo∧1≤lo ∧
  ∀ (l:Addr) (a b d x:Int) (as':List Addr) (rows':List (List Int)) (fr':List Int) (H':Hp),W G H' v fl as' rows' fr' n lo→H' l=some (.lst (([a,b,d,x]:List Int).map V.int))→l∉as'→PT lo n a∧PT lo n b∧PT lo n d∧PT lo n x→(∀ y∈fr',y∈fr)→MoreOk lo n rows rows' as as' fr fr' x→Q (.ref l) H'
theorem ok_pieces (T:Tx K mg):FnOk P w K mg base CX0 3 T.f_l_pieces T.fd_l_pieces ["_law_cell_here","_law_f","_law_size_here","_law_volume","_law_free"] (spPieces K):=by
  refine T.F_l_pieces.ok sc_l_pieces (fun vs H Q E h=>?_) (fun cdv A outer s H vs Q E hr h=>?_)
  · obtain ⟨G,c,f,sz,v,fl,as,rows,fr,n,lo,rfl,_⟩:=h
    rfl
  · obtain ⟨G,c,f,sz,v,fl,as,rows,fr,n,lo,rfl,hW,hlo,k⟩:=h
    refine ⟨_,@pss_cons _ _ _ _ _ (ps_setComp (i:=5) (N':=["_law_k","_law_cell_here","_law_f","_law_size_here","_law_free"]) (cap:=[none,some 0,some 1,some 2,some 4]) sc_l_pieces.nd rfl rfl rfl (compOk_of (by kernel_rfl)) (pi_range1 rfl T.z_range (pa_cons pe_int pa_nil))
        (fun cells C s₀ H₀ fp pins=>⟨pg_name (i:=0) (ndp5 (by decide +kernel) (by decide +kernel) (by decide +kernel) (by decide +kernel) (by decide +kernel) (by decide +kernel) (by decide +kernel) (by decide +kernel) (by decide +kernel) (by decide +kernel)) rfl (Or.inl rfl) (.inr rfl),pifs_nil,
          pe_call (ok_take T) hr rfl T.g_l_take T.F_l_take.kp T.b_l_take .nil pass0 (pa_cons (pv 1) (pa_cons (pe_op op_add (pe_op op_mul pe_int (pv 2)) (pv 0)) (pa_cons (pe_cmpR op_lt (pe_op op_mul pe_int (pv 0)) (pv 3) (nomark _)) (pa_cons (pv 4) pa_nil))))⟩))
      (@pss_cut _ _ _ _ _ (ps_set (i:=6) sc_l_pieces.nd rfl (Or.inl rfl) (pe_call (ok_take T) hr rfl T.g_l_take T.F_l_take.kp T.b_l_take .nil pass0 (pa_cons (pv 0) (pa_cons (pe_op op_add (pe_op op_mul pe_int (pv 1)) pe_int) (pa_cons (pe_cmpR op_gt (pv 2) pe_int (nomark _)) (pa_cons (pv 4) pa_nil))))))
      (@pss_cut _ _ _ _ _ (ps_if (pt_cmpR op_ne (pv 6) pe_int (nomark _)) (pss_one (ps_asg (pe_comp (N':=["_law_k","_law_cell_here","_law_f","_law_size_here","_law_free"]) (cap:=[none,some 0,some 1,some 2,some 4]) rfl (compOk_of (by kernel_rfl)) (pi_range1 rfl T.z_range (pa_cons pe_int pa_nil))
        (fun cells C s₀ H₀ fp pins=>⟨pg_name (i:=0) (ndp5 (by decide +kernel) (by decide +kernel) (by decide +kernel) (by decide +kernel) (by decide +kernel) (by decide +kernel) (by decide +kernel) (by decide +kernel) (by decide +kernel) (by decide +kernel)) rfl (Or.inl rfl) (.inr rfl),pifs_nil,
          pe_call (ok_take T) hr rfl T.g_l_take T.F_l_take.kp T.b_l_take .nil pass0 (pa_cons (pv 1) (pa_cons (pe_op op_add (pe_op op_add (pe_op op_mul pe_int (pv 2)) pe_int) (pv 0)) (pa_cons (pe_cmpR op_lt (pe_op op_add (pe_op op_mul pe_int (pv 0)) pe_int) (pv 3) (nomark _)) (pa_cons (pv 4) pa_nil))))⟩)) (pg_sub (pv 3) (pv 6) set_list))) pss_nil)
      (@pss_one _ _ _ (ps_ret (pe_op op_cat (pv 5) (pe_lst (pa_cons (pv 6) pa_nil))))))),?_⟩
    refine ⟨3,rfl,by decide,by decide,?_⟩
    refine comp_range (cap:=[none,some 0,some 1,some 2,some 4]) (σ:=[some (.int c),some (.int f),some (.int sz),some (.ref v),some (.ref fl),none,none]) (m:=3) (small_len (n:=3) (by decide)) (fun i ys σ H'=>i≤3∧∃ gs fr',ys=(gs:List Int).map V.int∧gs.length=i∧(∀ g∈gs,PT lo n g)∧W G H' v fl as rows fr' n lo∧(∀ y∈fr',y∈fr)∧∃ s0,σ=[s0,some (.int c),some (.int f),some (.int sz),some (.ref fl)])
      (by exact ⟨Nat.zero_le _,[],fr,rfl,rfl,fun _ h=>(nomatch h),hW,fun _ h=>h,⟨none,rfl⟩⟩) (fun i ys σ H' ⟨h1,gs,fr',h2,h3,_⟩=>⟨h1,by rw [h2,List.length_map,h3];exact Nat.le_refl _⟩) ?_ ?_
    · rintro i ys σ H' hi ⟨h1,gs,fr',rfl,h3,h4,h5,h6,⟨s0,rfl⟩⟩
      have c0:(0:Int) + (i:Int)=(i:Int):=by omega
      rw [c0]
      have step:∀ (x:Int) (r:List Int) (H2:Hp),PT lo n x→W G H2 v fl as rows r n lo→(∀ y∈r,y∈fr)→(i + 1≤3∧∃ gs' fr'',(gs.map V.int ++ [V.int x])=(gs':List Int).map V.int∧gs'.length=i + 1∧(∀ g∈gs',PT lo n g)∧W G H2 v fl as rows fr'' n lo∧(∀ y∈fr'',y∈fr)∧∃ s0,[some (V.int (i:Int)),some (.int c),some (.int f),some (.int sz),some (.ref fl)]=[s0,some (.int c),some (.int f),some (.int sz),some (.ref fl)]):=fun x r H2 hx hw hr' =>
        ⟨hi,gs ++ [x],r,by simp,by simp [h3],fun g hg=>(by
          rcases List.mem_append.mp hg with h | h
          · exact h4 g h
          · rw [List.mem_singleton.mp h];exact hx),hw,hr',⟨_,rfl⟩⟩
      refine ⟨_,rfl,_,rfl,_,_,rfl,rfl,.inl ⟨by decide,by decide⟩,_,rfl,_,_,rfl,rfl,_,rfl,_,_,rfl,rfl,.inl ⟨by decide,by decide⟩,_,rfl,_,_,rfl,rfl,_,rfl,c,_,_,fl,fr',rfl,h5.fre,fun H2 s2=>step 0 fr' H2 (.inl rfl) (h5.same s2) h6,fun r x H2 er s2=>step x r _ (.inr (h5.fin x (by rw [er];simp))) ((h5.same s2).pop er) fun y hy=>h6 y (by rw [er];exact List.mem_append.mpr (.inl hy))⟩
    rintro ys σ H1 ⟨h1,gs,fr1,rfl,h3,h4,W1,sub1,⟨s0,rfl⟩⟩ D hD
    obtain ⟨d1,d2,d3,d4⟩:=W1.new hD
    have W2:=(W1.same (Same.upd0 (o:=.lst (gs.map V.int)) hD)).grow upd_same d1 d2 d3
    have hDG:upd G D (.lst (gs.map V.int)) D=some (.lst (gs.map V.int)):=upd_same
    have sG:Same G (upd G D (.lst (gs.map V.int))):=Same.upd0 d4
    generalize upd H1 D (.lst (gs.map V.int))=H2 at W2 ⊢
    generalize upd G D (.lst (gs.map V.int))=G2 at W2 hDG sG
    refine ⟨fun σ H'=>∃ (x:Int) (fr2:List Int),σ=[some (.int c),some (.int f),some (.int sz),some (.ref v),some (.ref fl),some (.ref D),some (.int x)]∧W G2 H' v fl as rows fr2 n lo∧(∀ y∈fr2,y∈fr)∧(x=0∨(x∈fr∧x∉fr2)),?_,?_⟩
    · refine ⟨_,rfl,_,rfl,_,_,rfl,rfl,.inl ⟨by decide,by decide⟩,_,_,rfl,rfl,_,rfl,_,_,rfl,rfl,_,rfl,c,_,_,fl,fr1,rfl,W2.fre,fun H3 s3=>⟨0,fr1,rfl,W2.same s3,sub1,.inl rfl⟩,fun r x H3 er s3=>⟨x,r,rfl,(W2.same s3).pop er,fun y hy=>sub1 y (by rw [er];exact List.mem_append.mpr (.inl hy)),.inr ⟨sub1 x (by rw [er];simp),?_⟩⟩⟩
      have fd:=W2.fd
      rw [er,List.nodup_append] at fd
      exact fun z=>fd.2.2 x z x (by simp) rfl
    rintro σ H3 ⟨x,fr2,rfl,W3,sub2,hx⟩
    have hxP:PT lo n x:=by
      rcases hx with z | ⟨z,_⟩
      · exact .inl z
      · exact .inr (hW.fin x z)
    refine ⟨fun σ H'=>∃ (as':List Addr) (rows':List (List Int)) (fr3:List Int),σ=[some (.int c),some (.int f),some (.int sz),some (.ref v),some (.ref fl),some (.ref D),some (.int x)]∧W G2 H' v fl as' rows' fr3 n lo∧(∀ y∈fr3,y∈fr)∧MoreOk lo n rows rows' as as' fr fr3 x,?_,?_⟩
    · refine ⟨_,rfl,rfl,_,rfl,?_⟩
      by_cases hx0:x=0
      · exact iteNS (by rw [hx0]) ⟨as,rows,fr2,rfl,W3,sub2,.inl ⟨hx0,rfl,rfl⟩⟩
      · have hxm:x∈fr∧x∉fr2:=by
          rcases hx with z | z
          · exact absurd z hx0
          · exact z
        have hxr:=hW.fin x hxm.1
        refine iteNF (int_ne hx0) ⟨8,rfl,by decide,by decide,?_⟩
        refine comp_range (cap:=[none,some 0,some 1,some 2,some 4]) (σ:=[some (.int c),some (.int f),some (.int sz),some (.ref v),some (.ref fl),some (.ref D),some (.int x)]) (m:=8) (small_len (n:=8) (by decide)) (fun i ys σ H'=>i≤8∧∃ gs fr',ys=(gs:List Int).map V.int∧gs.length=i∧(∀ g∈gs,PT lo n g)∧W G2 H' v fl as rows fr' n lo∧(∀ y∈fr',y∈fr2)∧∃ s0,σ=[s0,some (.int c),some (.int f),some (.int sz),some (.ref fl)])
          (by exact ⟨Nat.zero_le _,[],fr2,rfl,rfl,fun _ h=>(nomatch h),W3,fun _ h=>h,⟨none,rfl⟩⟩) (fun i ys σ H' ⟨h1,gs,fr',h2,h3,_⟩=>⟨h1,by rw [h2,List.length_map,h3];exact Nat.le_refl _⟩) ?_ ?_
        · rintro i ys σ H' hi ⟨h1,gs,fr',rfl,h3,h4,h5,h6,⟨s0,rfl⟩⟩
          have c0:(0:Int) + (i:Int)=(i:Int):=by omega
          rw [c0]
          have step:∀ (x:Int) (r:List Int) (H2:Hp),PT lo n x→W G2 H2 v fl as rows r n lo→(∀ y∈r,y∈fr2)→(i + 1≤8∧∃ gs' fr'',(gs.map V.int ++ [V.int x])=(gs':List Int).map V.int∧gs'.length=i + 1∧(∀ g∈gs',PT lo n g)∧W G2 H2 v fl as rows fr'' n lo∧(∀ y∈fr'',y∈fr2)∧∃ s0,[some (V.int (i:Int)),some (.int c),some (.int f),some (.int sz),some (.ref fl)]=[s0,some (.int c),some (.int f),some (.int sz),some (.ref fl)]):=fun x r H2 hx hw hr' =>
            ⟨hi,gs ++ [x],r,by simp,by simp [h3],fun g hg=>(by
              rcases List.mem_append.mp hg with h | h
              · exact h4 g h
              · rw [List.mem_singleton.mp h];exact hx),hw,hr',⟨_,rfl⟩⟩
          refine ⟨_,rfl,_,rfl,_,_,rfl,rfl,.inl ⟨by decide,by decide⟩,_,_,rfl,rfl,_,rfl,_,_,rfl,rfl,_,rfl,_,_,rfl,rfl,.inl ⟨by decide,by decide⟩,_,_,rfl,rfl,_,rfl,_,_,rfl,rfl,_,rfl,c,_,_,fl,fr',rfl,h5.fre,fun H2 s2=>step 0 fr' H2 (.inl rfl) (h5.same s2) h6,fun r y H2 er s2=>step y r _ (.inr (h5.fin y (by rw [er];simp))) ((h5.same s2).pop er) fun z hz=>h6 z (by rw [er];exact List.mem_append.mpr (.inl hz))⟩
        rintro ys σ H4 ⟨_,gs,fr4,rfl,l8,hg8,W4,sub4,⟨s0,rfl⟩⟩ q fq
        obtain ⟨m,em⟩:∃ m:Nat,x=(m:Int):=⟨x.toNat,by omega⟩
        subst em
        have la:=W4.vol.len
        have ln:=W4.len
        refine ⟨_,rfl,_,rfl,v,_,_,m,rfl,rfl,(W4.vol.same (Same.upd0 fq)).top,ixN_nat (by rw [List.length_map,la,ln];omega),?_⟩
        exact ⟨as.set m q,rows.set m gs,fr4,rfl,W4.row fq (Same.upd0 fq) upd_same l8,fun y hy=>sub2 y (sub4 y hy),.inr ⟨m,gs,q,rfl,by omega,by omega,hxm.1,fun z=>hxm.2 (sub4 _ z),rfl,rfl,l8,hg8⟩⟩
    rintro σ H4 ⟨as',rows',fr3,rfl,W4,sub3,hM⟩
    refine ⟨_,rfl,_,rfl,(by show 1≤sizeLine;decide),fun z fz=>?_⟩
    have W5:=W4.same (Same.upd0 (o:=.lst [.int x]) fz)
    have hz:upd H4 z (.lst [.int x]) z=some (.lst (([x]:List Int).map V.int)):=upd_same
    generalize upd H4 z (.lst [.int x])=H5 at W5 hz ⊢
    refine ⟨D,z,_,_,rfl,rfl,W5.sg _ _ hDG,hz,(by rw [List.length_map,List.length_map,h3];show 3 + 1≤sizeLine;decide),fun l fl'=>?_⟩
    match gs,h3 with
    | [a,b,d],_ =>
      have W6:=(W5.same (Same.upd0 (o:=.lst (([a,b,d]:List Int).map V.int ++ ([x]:List Int).map V.int)) fl')).shrink sG
      exact k l a b d x as' rows' fr3 _ W6 upd_same (W5.new fl').2.2.1 ⟨h4 a (by simp),h4 b (by simp),h4 d (by simp),hxP⟩ sub3 hM
end
end K62
namespace K62
open PySem L2 PyProof.Rows PySem.W
section
variable {P:Program}{w:World}{K:PySem.W.Frag}{mg:Str→Option Value}{base:Heap}
def cnt (ls:List Lk) (f:Int):Nat:=(ls.filter fun l=>decide (l.2.2=f)).length
def RcOk (ks:List Int) (ls:List Lk) (lo n:Nat) (fr:List Int) (rows:List (List Int)) (f:Nat):Prop:=∃ r:List Int,rows[10 + f]?=some r∧r.length=8∧r.getD 0 0=kindOf ks f ∧
  (0 < f→kindOf ks f≠0→r.getD 2 0=(cnt ls f:Int)∧r.getD 3 0=if cnt ls f=0 then 1 else 0) ∧
  (0 < f→kindOf ks f=1→(0≤r.getD 1 0∧r.getD 1 0≤88)∧PT lo n (r.getD 4 0)∧PT lo n (r.getD 5 0)∧PT lo n (r.getD 6 0)∧(r.getD 7 0=0∨∃ m:Nat,r.getD 7 0=(m:Int)∧lo≤m∧m < n∧(m:Int)∉fr∧∃ q,rows[m]?=some q∧q.length=8∧∀ e∈q,PT lo n e))
theorem RcOk.stay {ks:List Int}{ls:List Lk}{lo n:Nat}{fr fr':List Int}{rows rows':List (List Int)}{f:Nat}(h:RcOk ks ls lo n fr rows f) (h1:rows'[10 + f]?=rows[10 + f]?) (h2:∀ m:Nat,lo≤m→(m:Int)∉fr→rows'[m]?=rows[m]?) (h3:∀ y∈fr',y∈fr):RcOk ks ls lo n fr' rows' f:=by
  obtain ⟨r,e,l,k0,k1,k2⟩:=h
  refine ⟨r,by rw [h1];exact e,l,k0,k1,fun p q=>?_⟩
  obtain ⟨a,b,c,d,x⟩:=k2 p q
  refine ⟨a,b,c,d,?_⟩
  rcases x with x | ⟨m,m1,m2,m3,m4,y,m5,m6⟩
  · exact .inl x
  · exact .inr ⟨m,m1,m2,m3,fun z=>m4 (h3 _ z),y,by rw [h2 m m2 m4];exact m5,m6⟩
def spRecords (K:PySem.W.Frag):Sp:=fun vs H Q _=>∃ (G:Hp) (c:Int) (kl lk v fl:Addr) (ks:List Int) (ts:List Addr) (ls:List Lk) (as:List Addr) (rows:List (List Int)) (fr:List Int) (F n lo:Nat),vs=[.int c,.ref kl,.ref lk,.ref v,.ref fl]∧W G H v fl as rows fr n lo∧G kl=some (.lst (ks.map V.int))∧KS ks F∧Lks G lk ts ls∧ls.length≤40∧F≤12∧10 + F≤lo∧lo≤n ∧
  ∀ (as':List Addr) (rows':List (List Int)) (fr':List Int) (H':Hp),W G H' v fl as' rows' fr' n lo→(∀ f < F,RcOk ks ls lo n fr' rows' f)→Q .non H'
theorem ok_records (T:Tx K mg):FnOk P w K mg base CX0 4 T.f_l_records T.fd_l_records ["_law_cell_here","_law_kinds_here","_law_slots_here","_law_volume","_law_free"] (spRecords K):=by
  refine T.F_l_records.ok sc_l_records (fun vs H Q E h=>?_) (fun cdv A outer s H vs Q E hr h=>?_)
  · obtain ⟨G,c,kl,lk,v,fl,ks,ts,ls,as,rows,fr,F,n,lo,rfl,_⟩:=h
    rfl
  · obtain ⟨G,c,kl,lk,v,fl,ks,ts,ls,as,rows,fr,F,n,lo,rfl,hW,hkl,hKS,hK,l40,f12,hlo,hln,k⟩:=h
    have r2:Room 2 _:=hr.mono (by decide)
    refine ⟨_,@pss_one _ _ _ (ps_for PassesOwn.never rfl (pi_range1 rfl T.z_range (pa_cons (pe_callB call_len_seq rfl T.z_len PySem.boot_len (pa_cons (pv 1) pa_nil)) pa_nil)) (pg_name (i:=5) sc_l_records.nd rfl (Or.inr rfl))
      (@pss_cons _ _ _ _ _ (ps_set (i:=6) sc_l_records.nd rfl (Or.inl rfl) (pe_ix ix_list (pv 3) (pe_op op_add pe_int (pv 5)) (fun _ _=>rfl)))
      (@pss_cut _ _ _ _ _ (ps_set (i:=7) sc_l_records.nd rfl (Or.inl rfl) (pe_callB call_len_seq rfl T.z_len PySem.boot_len (pa_cons (pe_comp (N':=["_law_one","_law_f"]) (cap:=[none,some 5]) rfl (compOk_of (by kernel_rfl)) (pi_list (pv 2))
        (fun cells C s₀ H₀ fp pins=>⟨pg_name (i:=0) (ndp2 (by decide +kernel)) rfl (Or.inl rfl) (.inr rfl),pifs_one (pt_cmpR op_eq (pe_ix (ix_tupK (K:=K) rfl) (pv 0) pe_int (fun _ _=>rfl)) (pv 1) (nomark _)),pv 0⟩)) pa_nil)))
      (@pss_cons _ _ _ _ _ (ps_asg (pe_ix ix_list (pv 1) (pv 5) (fun _ _=>rfl)) (pg_sub (pv 6) pe_int set_list))
      (@pss_cut _ _ _ _ _ (ps_if (PW.pt (pw_and (pt_cmpR op_gt (pv 5) pe_int (nomark _)) (pw_and1 (pt_cmpR op_gt (pe_ix ix_list (pv 1) (pv 5) (fun _ _=>rfl)) pe_int (nomark _))))) (pss_cons (ps_asg (pv 7) (pg_sub (pv 6) pe_int set_list)) (pss_one (ps_asg (pe_callTy call_int1 rfl T.z_int (by kernel_rfl) (pa_cons (pe_cmpR op_eq (pv 7) pe_int (nomark _)) pa_nil)) (pg_sub (pv 6) pe_int set_list)))) pss_nil)
      (@pss_one _ _ _ (ps_if (PW.pt (pw_and (pt_cmpR op_gt (pv 5) pe_int (nomark _)) (pw_and1 (pt_cmpR op_eq (pe_ix ix_list (pv 1) (pv 5) (fun _ _=>rfl)) pe_int (nomark _))))) (pss_cons (ps_asg (pe_call (ok_size T) r2 rfl T.g_l_size T.F_l_size.kp T.b_l_size .nil pass0 (pa_cons (pv 0) (pa_cons (pv 5) pa_nil))) (pg_sub (pv 6) pe_int set_list))
        (pss_one (ps_asg (pe_call (ok_pieces T) hr rfl T.g_l_pieces T.F_l_pieces.kp T.b_l_pieces .nil pass0 (pa_cons (pv 0) (pa_cons (pv 5) (pa_cons (pe_ix ix_list (pv 6) pe_int (fun _ _=>rfl)) (pa_cons (pv 3) (pa_cons (pv 4) pa_nil)))))) (pg_subS (pv 6) (po_some pe_int) po_none)))) pss_nil))))))),?_⟩
    have lks:=hKS.len
    have lt:ts.length=ls.length:=hK.len
    refine ⟨_,rfl,kl,_,rfl,.inl (SqL.of (hW.sg _ _ hkl)),(F:Int),(by rw [List.length_map,lks]),by omega,by omega,?_⟩
    rw [Int.toNat_natCast]
    refine for_range (lo:=0) (n:=F) (fun i σ H'=>∃ x5 x6 x7 as' rows' fr',σ=[some (.int c),some (.ref kl),some (.ref lk),some (.ref v),some (.ref fl),x5,x6,x7]∧W G H' v fl as' rows' fr' n lo∧∀ f < i,RcOk ks ls lo n fr' rows' f)
      ⟨none,none,none,as,rows,fr,rfl,hW,fun f h=>absurd h (Nat.not_lt_zero _)⟩ ?_ ?_
    · rintro i σ H1 hi ⟨x5,x6,x7,as1,R0,fr1,rfl,W1,hRc⟩
      have c0:(0:Int) + (i:Int)=(i:Int):=by omega
      rw [c0]
      have ln1:=W1.len
      have la1:=W1.vol.len
      have hi2:10 + i < R0.length:=by omega
      have hi3:10 + i < as1.length:=by omega
      have er:R0[10 + i]?=some R0[10 + i]:=List.getElem?_eq_getElem hi2
      have ea:as1[10 + i]?=some as1[10 + i]:=List.getElem?_eq_getElem hi3
      have l8:=W1.r8 _ (List.getElem_mem hi2)
      generalize R0[10 + i]=r0 at er l8
      generalize as1[10 + i]=a at ea
      obtain ⟨z0,z1,z2,z3,z4,z5,z6,z7,rfl⟩:=row_of8 l8
      have d1:(10:Int) + (i:Int)=((10 + i:Nat):Int):=by omega
      refine ⟨_,rfl,_,rfl,_,_,rfl,rfl,v,_,_,.ref a,rfl,rfl,SqL.of W1.vol.top,(by show atI _ (10 + (i:Int))=_;rw [d1];exact atI_nat (by rw [List.getElem?_map,ea];rfl)),?_⟩
      have ki:=kind_at (x:=(i:Int)) hKS (by omega) (by omega)
      have kr:=kind_rng (x:=(i:Int)) hKS (by omega) (by omega)
      generalize ekd:kindOf ks (i:Int)=kd at ki kr
      refine ⟨fun σ H'=>Same H1 H'∧σ=[some (.int c),some (.ref kl),some (.ref lk),some (.ref v),some (.ref fl),some (.int (i:Int)),some (.ref a),some (.int (cnt ls (i:Int):Int))],?_,?_⟩
      · have hK1:=hK.same W1.sg
        refine ⟨_,rfl,lk,rfl,⟨_,SqL.of hK1.top⟩,?_⟩
        refine comp_list (cap:=[none,some 5]) (σ:=[some (.int c),some (.ref kl),some (.ref lk),some (.ref v),some (.ref fl),some (.int (i:Int)),some (.ref a),x7]) (K:=K) (a:=lk) (xs:=ts.map V.ref) (small_len (by rw [List.length_map];omega)) (fun j ys σ H2=>j≤ts.length∧ys.length=((ls.take j).filter fun l=>decide (l.2.2=(i:Int))).length∧(∃ s0,σ=[s0,some (.int (i:Int))])∧H2=H1)
          (by exact ⟨Nat.zero_le _,rfl,⟨none,rfl⟩,rfl⟩) (fun j ys σ H2 ⟨h1,h2,h3,h4⟩=>⟨by rw [List.length_map];exact h1,by rw [h2];exact Nat.le_trans (List.length_filter_le _ _) (by rw [List.length_take];exact Nat.min_le_left _ _),by rw [h4];exact SqL.of hK1.top⟩) ?_ ?_
        · rintro j x ys σ H2 hx ⟨h1,h2,⟨s0,rfl⟩,rfl⟩
          rw [List.getElem?_map] at hx
          cases et:ts[j]? with
          | none=>rw [et] at hx;cases hx
          | some t =>
            rw [et] at hx
            cases hx
            have hj:j < ts.length:=(List.getElem?_eq_some_iff.mp et).1
            have hjl:j < ls.length:=by omega
            have el:ls[j]?=some ls[j]:=List.getElem?_eq_getElem hjl
            have hit:=hK1.item j t _ et el
            generalize ls[j]=l at el hit
            refine ⟨_,rfl,t,_,2,.int l.2.2,rfl,rfl,SqT.of hit,atI_nat (j:=2) rfl,_,rfl,rfl,_,rfl,?_⟩
            rw [take_snoc el,List.filter_append,List.length_append]
            by_cases h:l.2.2=(i:Int)
            · exact iteD (by rw [h]) ⟨_,rfl,hj,by simp [h2,h],⟨_,rfl⟩,rfl⟩
            · exact iteDF (int_ne h) ⟨hj,by simp [h2,h],⟨_,rfl⟩,rfl⟩
        rintro ys σ H2 ⟨h1,h2,⟨s0,rfl⟩,eH2⟩ D hD
        rw [eH2] at hD ⊢
        have el:(ts.map V.ref).length=ls.length:=by rw [List.length_map,lt]
        rw [el,List.take_length] at h2
        refine ⟨D,_,rfl,.inl (SqL.of upd_same),Same.upd0 hD,?_⟩
        show [some (V.int c),some (V.ref kl),some (V.ref lk),some (V.ref v),some (V.ref fl),some (V.int (i:Int)),some (V.ref a),some (V.int (ys.length:Int))]=_
        rw [h2]
        rfl
      rintro σ H2 ⟨s2,rfl⟩
      have W2:=W1.same s2
      have hkl2:=W2.sg _ _ hkl
      have hra:=W2.vol.row _ _ _ ea er
      refine ⟨_,rfl,_,rfl,kl,_,_,_,rfl,rfl,SqL.of hkl2,ki,_,rfl,a,_,_,0,rfl,rfl,hra,ixN_nat (i:=0) (by show 0 < 8;decide),?_⟩
      have W3:=W2.wr (r':=[kd,z1,z2,z3,z4,z5,z6,z7]) ea er rfl
      have er3:(R0.set (10 + i) [kd,z1,z2,z3,z4,z5,z6,z7])[10 + i]?=some [kd,z1,z2,z3,z4,z5,z6,z7]:=List.getElem?_set_self hi2
      have hkl3:=W3.sg _ _ hkl
      have hra3:=W3.vol.row _ _ _ ea er3
      refine ⟨fun σ H'=>∃ y2 y3:Int,σ=[some (.int c),some (.ref kl),some (.ref lk),some (.ref v),some (.ref fl),some (.int (i:Int)),some (.ref a),some (.int (cnt ls (i:Int):Int))]∧W G H' v fl as1 (R0.set (10 + i) [kd,z1,y2,y3,z4,z5,z6,z7]) fr1 n lo∧(0 < i→kd≠0→y2=(cnt ls (i:Int):Int)∧y3=if cnt ls (i:Int)=0 then 1 else 0),?_,?_⟩
      · refine ⟨_,rfl,_,_,rfl,rfl,_,rfl,ite2 (fun h0=>?_) (fun h0=>iteF ⟨z2,z3,rfl,W3,fun h=>absurd (decide_eq_true (show (i:Int) > 0 by omega)) h0⟩)⟩
        refine ⟨_,rfl,_,rfl,kl,_,_,_,rfl,rfl,SqL.of hkl3,ki,_,_,rfl,rfl,_,rfl,ite2 (fun _=>?_) (fun h1=>⟨z2,z3,rfl,W3,fun _ h=>absurd (decide_eq_true (show kd > 0 by omega)) h1⟩)⟩
        refine ⟨_,rfl,_,rfl,a,_,_,2,rfl,rfl,hra3,ixN_nat (i:=2) (by show 2 < 8;decide),?_⟩
        have W4:=W3.wr (r':=[kd,z1,(cnt ls (i:Int):Int),z3,z4,z5,z6,z7]) ea er3 rfl
        rw [List.set_set] at W4
        have er4:(R0.set (10 + i) [kd,z1,(cnt ls (i:Int):Int),z3,z4,z5,z6,z7])[10 + i]?=some [kd,z1,(cnt ls (i:Int):Int),z3,z4,z5,z6,z7]:=List.getElem?_set_self hi2
        have hra4:=W4.vol.row _ _ _ ea er4
        refine ⟨_,rfl,rfl,.inr ⟨_,rfl,_,rfl,a,_,_,3,rfl,rfl,hra4,ixN_nat (i:=3) (by show 3 < 8;decide),?_⟩⟩
        have W5:=W4.wr (r':=[kd,z1,(cnt ls (i:Int):Int),(if decide (V.int (cnt ls (i:Int):Int)=V.int 0) then 1 else 0),z4,z5,z6,z7]) ea er4 rfl
        rw [List.set_set] at W5
        refine ⟨_,_,rfl,W5,fun _ _=>⟨rfl,?_⟩⟩
        by_cases hc:cnt ls (i:Int)=0
        · rw [if_pos hc,hc];rfl
        · rw [if_neg hc, if_neg (by rw [decide_eq_true_eq]; exact fun z => hc (by have : ((cnt ls (i : Int) : Nat) : Int) = 0 := by injection z
                                                                                  omega))]
      clear W3 er3 hkl3 hra3 hkl2 hra W2 s2
      rintro σ H3 ⟨y2,y3,rfl,W3,hy⟩
      have er3:(R0.set (10 + i) [kd,z1,y2,y3,z4,z5,z6,z7])[10 + i]?=some [kd,z1,y2,y3,z4,z5,z6,z7]:=List.getElem?_set_self hi2
      have hkl3:=W3.sg _ _ hkl
      have hra3:=W3.vol.row _ _ _ ea er3
      have old:∀ f < i,RcOk ks ls lo n fr1 (R0.set (10 + i) [kd,z1,y2,y3,z4,z5,z6,z7]) f:=fun f hf=>(hRc f hf).stay (List.getElem?_set_ne (by omega)) (fun m hm _=>List.getElem?_set_ne (by omega)) fun _ h=>h
      have fin:kd≠1∨i=0→∀ f < i + 1,RcOk ks ls lo n fr1 (R0.set (10 + i) [kd,z1,y2,y3,z4,z5,z6,z7]) f:=fun hn f hf=>by
        rcases Nat.lt_succ_iff_lt_or_eq.mp hf with h | h
        · exact old f h
        · subst h
          refine ⟨_,er3,rfl,by rw [ekd];rfl,fun p q=>?_,fun p q=>?_⟩
          · rw [ekd] at q;exact hy p q
          · rw [ekd] at q
            rcases hn with z | z
            · exact absurd q z
            · omega
      refine ⟨_,rfl,_,_,rfl,rfl,_,rfl,ite2 (fun h0=>?_) (fun h0=>iteF ⟨_,_,_,as1,_,fr1,rfl,W3,fin (.inr (by
        by_cases z:i=0
        · exact z
        · exact absurd (decide_eq_true (show (i:Int) > 0 by omega)) h0))⟩)⟩
      have h0:(i:Int) > 0:=of_decide_eq_true h0
      refine ⟨_,rfl,_,rfl,kl,_,_,_,rfl,rfl,SqL.of hkl3,ki,rfl,_,rfl,?_⟩
      by_cases hk1:kd=1
      · refine iteD (by rw [hk1]) ?_
        refine ⟨_,rfl,_,rfl,c,(i:Int),rfl,fun sz H4 hsz s4=>?_⟩
        have W4:=W3.same s4
        have hra4:=W4.vol.row _ _ _ ea er3
        refine ⟨_,rfl,a,_,_,1,rfl,rfl,hra4,ixN_nat (i:=1) (by show 1 < 8;decide),?_⟩
        have W5:=W4.wr (r':=[kd,sz,y2,y3,z4,z5,z6,z7]) ea er3 rfl
        rw [List.set_set] at W5
        have er5:(R0.set (10 + i) [kd,sz,y2,y3,z4,z5,z6,z7])[10 + i]?=some [kd,sz,y2,y3,z4,z5,z6,z7]:=List.getElem?_set_self hi2
        have hra5:=W5.vol.row _ _ _ ea er5
        have old5:∀ f < i,RcOk ks ls lo n fr1 (R0.set (10 + i) [kd,sz,y2,y3,z4,z5,z6,z7]) f:=fun f hf=>(hRc f hf).stay (List.getElem?_set_ne (by omega)) (fun m hm _=>List.getElem?_set_ne (by omega)) fun _ h=>h
        refine ⟨_,rfl,_,rfl,_,rfl,a,_,_,.int sz,rfl,rfl,SqL.of hra5,atI_nat (j:=1) rfl,_,rfl,_,rfl,G,c,(i:Int),sz,v,fl,as1,_,fr1,n,lo,rfl,W5,by omega,fun l p4 p5 p6 p7 as' rows' fr' H6 W6 hl nl hp sub hM=>?_⟩
        have ea6:as'[10 + i]?=some a:=by
          rcases hM with ⟨_,_,e⟩ | ⟨m,r,q,_,m1,_,_,_,_,e,_⟩
          · rw [e];exact ea
          · rw [e,List.getElem?_set_ne (by omega)];exact ea
        have er6:rows'[10 + i]?=some [kd,sz,y2,y3,z4,z5,z6,z7]:=by
          rcases hM with ⟨_,e,_⟩ | ⟨m,r,q,_,m1,_,_,_,e,_,_⟩
          · rw [e];exact er5
          · rw [e,List.getElem?_set_ne (by omega)];exact er5
        have nal:a≠l:=fun z=>nl (by rw [← z];exact List.mem_of_getElem? ea6)
        have hra6:=W6.vol.row _ _ _ ea6 er6
        refine ⟨_,rfl,_,rfl,a,l,_,_,rfl,rfl,hra6,SqL.of hl,nal,(by show 8 + 4≤sizeLine;decide),?_⟩
        have W7:=W6.wr (r':=[kd,sz,y2,y3,p4,p5,p6,p7]) ea6 er6 rfl
        refine ⟨_,_,_,as',rows'.set (10 + i) [kd,sz,y2,y3,p4,p5,p6,p7],fr',rfl,W7,fun f hf=>?_⟩
        have hl6:10 + i < rows'.length:=(List.getElem?_eq_some_iff.mp er6).1
        rcases Nat.lt_succ_iff_lt_or_eq.mp hf with h | h
        · refine (old5 f h).stay ?_ (fun m hm hmf=>?_) sub
          · rw [List.getElem?_set_ne (by omega)]
            rcases hM with ⟨_,e,_⟩ | ⟨m,r,q,_,m1,_,_,_,e,_,_⟩
            · rw [e]
            · rw [e,List.getElem?_set_ne (by omega)]
          · rw [List.getElem?_set_ne (by omega)]
            rcases hM with ⟨_,e,_⟩ | ⟨m',r,q,_,m1,_,m3,_,e,_,_⟩
            · rw [e]
            · rw [e,List.getElem?_set_ne (fun z=>hmf (by rw [← z];exact m3))]
        · subst h
          refine ⟨_,List.getElem?_set_self hl6,rfl,by rw [ekd];rfl,fun p q=>?_,fun p q=>⟨hsz,hp.1,hp.2.1,hp.2.2.1,?_⟩⟩
          · rw [ekd] at q;exact hy p q
          · rcases hM with ⟨e,_,_⟩ | ⟨m,r,q,e,m1,m2,_,m4,e2,_,r8,hrp⟩
            · exact .inl e
            · refine .inr ⟨m,e,m1,m2,m4,r,?_,r8,hrp⟩
              rw [List.getElem?_set_ne (by omega),e2,List.getElem?_set_self (by rw [List.length_set];omega)]
      · exact iteDF (int_ne hk1) ⟨_,_,_,as1,_,fr1,rfl,W3,fin (.inl hk1)⟩
    rintro σ H1 ⟨x5,x6,x7,as1,R1,fr1,rfl,W1,hRc⟩
    exact k as1 R1 fr1 H1 W1 hRc
end
end K62
namespace K62
open PySem L2 PyProof.Rows PySem.W
section
variable {P:Program}{w:World}{K:PySem.W.Frag}{mg:Str→Option Value}{base:Heap}
section
variable {G H:Hp}{v fl:Addr}{as:List Addr}{rows:List (List Int)}{fr:List Int}{n lo:Nat}
theorem W.off {b:Addr}{o:HO}(h:W G H v fl as rows fr n lo) (gb:G b=none) (n1:b≠v) (n2:b≠fl) (n3:b∉as):W G (upd H b o) v fl as rows fr n lo :=
  ⟨h.sg.updF gb,h.gv,h.gf,h.ga,h.vol.off n3 n1,h.len,h.r8,by rw [upd_ne (Ne.symm n2)];exact h.fre,h.fd,h.fin,h.nvf,h.naf⟩
theorem W.row2 {q:Addr}{i:Nat}{r:List Int}(h:W G H v fl as rows fr n lo) (gq:G q=none) (n1:q≠v) (n2:q≠fl) (n3:q∉as) (hq:H q=some (.lst (r.map V.int))) (hr:r.length=8) :
    W G (upd H v (.lst ((as.map V.ref).set i (.ref q)))) v fl (as.set i q) (rows.set i r) fr n lo:=by
  refine ⟨h.sg.updF h.gv,h.gv,h.gf,fun b hb=>?_,h.vol.set hq n3 n1,by rw [List.length_set];exact h.len,mem_set8 h.r8 hr,by rw [upd_ne h.nvf];exact h.fre,h.fd,h.fin,h.nvf,fun hb=>?_⟩
  · rcases List.mem_or_eq_of_mem_set hb with h' | h'
    · exact h.ga b h'
    · rw [h'];exact gq
  · rcases List.mem_or_eq_of_mem_set hb with h' | h'
    · exact h.naf h'
    · exact n2 h'.symm
end
def hid (H:Hp) (L:List Addr):Hp:=fun b=>if b∈L then none else H b
theorem hid_same (H:Hp) (L:List Addr):Same (hid H L) H:=fun b o e=>by
  unfold hid at e
  split at e
  · cases e
  · exact e
theorem hid_at {H:Hp}{L:List Addr}{b:Addr}{o:HO}(e:H b=some o) (n:b∉L):hid H L b=some o:=by
  unfold hid
  rw [if_neg n]
  exact e
theorem hid_no {H:Hp}{L:List Addr}{b:Addr}(n:b∈L):hid H L b=none:=by
  unfold hid
  rw [if_pos n]
theorem Vol.kp {Pt v:Addr}{H H1:Hp}{as:List Addr}{rows:List (List Int)}{ps:Array Value}(x:Vol H v as rows) (h:KP Pt H H1) (hP:H Pt=some (.tbl ps)):Vol H1 v as rows :=
  ⟨h.lst hP x.top,x.len,x.nd,fun i a r e1 e2=>h.lst hP (x.row i a r e1 e2)⟩
def numL (l:Lk):List Int:=[1,l.1,l.2.1,l.2.2]
abbrev Tl:=Nat×Lk
structure TV (rows:List (List Int)) (F E:Nat) (tl:List Tl):Prop where
  nd:(tl.map (·.1)).Nodup
  lt:∀ x∈tl,x.1 < 2 * E
  is:∀ x∈tl,∀ j < 4,slq rows F x.1 j=(numL x.2).getD j 0
  no:∀ s < 2 * E,s∉tl.map (·.1)→slq rows F s 0=0
def keep2 (P1 P2:Addr) (H H':Hp):Prop:=∀ b o,H b=some o→b≠P1→b≠P2→H' b=some o
structure SND (C:Addr) (H:Hp) (p v kl lk:Addr) (F E B:Nat) (ks:List Int) (ts:List Addr) (ls:List Lk) (as:List Addr) (rows:List (List Int)) (tl:List Tl):Prop where
  lay:Lay C H p F E B
  hkl:H kl=some (.lst (ks.map V.int))
  hks:KS ks F
  hlk:Lks H lk ts ls
  hlo:LO ks F ls
  hle:ls.length≤2 * E
  vol:Vol H v as rows
  len:rows.length=10 + F + E + B
  r8:∀ r∈rows,r.length=8
  rc:∃ fr,∀ f < F,RcOk ks ls (10 + F + E) (10 + F + E + B) fr rows f
  tv:TV rows F E tl
  htl:tl.map (·.2)=ls
def spSound (C P1 P2:Addr):Sp:=fun vs H Q _=>∃ (c:Int) (p:Addr) (F E B:Nat),vs=[.ref p,.int c]∧Lay C H p F E B∧LayOk F E B∧H P1=some (.tbl #[])∧H P2=some (.tbl #[]) ∧
  ∀ (t v kl lk:Addr) (ks:List Int) (ts:List Addr) (ls:List Lk) (as:List Addr) (rows:List (List Int)) (tl:List Tl) (H':Hp),keep2 P1 P2 H H'→H' t=some (.tup [.ref v,.ref kl,.ref lk])→SND C H' p v kl lk F E B ks ts ls as rows tl→Q (.ref t) H'
theorem slq_put {rows:List (List Int)}{F s s' j j':Nat}{r:List Int}{n:Int}(hr:rows[10 + F + s / 2]?=some r) (h8:r.length=8) (hj:j < 4) (hj':j' < 4) :
    slq (rows.set (10 + F + s / 2) (r.set (s % 2 * 4 + j) n)) F s' j'=if s'=s∧j'=j then n else slq rows F s' j':=by
  have hl:10 + F + s / 2 < rows.length:=(List.getElem?_eq_some_iff.mp hr).1
  unfold slq
  by_cases hb:s' / 2=s / 2
  · have e1:(rows.set (10 + F + s / 2) (r.set (s % 2 * 4 + j) n)).getD (10 + F + s' / 2) []=r.set (s % 2 * 4 + j) n:=by
      rw [hb,List.getD_eq_getElem?_getD,List.getElem?_set_self hl];rfl
    have e2:rows.getD (10 + F + s' / 2) []=r:=by rw [hb,List.getD_eq_getElem?_getD,hr];rfl
    rw [e1,e2]
    by_cases hc:s'=s∧j'=j
    · obtain ⟨rfl,rfl⟩:=hc
      rw [if_pos ⟨rfl,rfl⟩,List.getD_eq_getElem?_getD,List.getElem?_set_self (by omega)]
      rfl
    · rw [if_neg hc,List.getD_eq_getElem?_getD,List.getElem?_set_ne (by omega),List.getD_eq_getElem?_getD]
  · have e1:(rows.set (10 + F + s / 2) (r.set (s % 2 * 4 + j) n)).getD (10 + F + s' / 2) []=rows.getD (10 + F + s' / 2) []:=by
      rw [List.getD_eq_getElem?_getD,List.getElem?_set_ne (by omega),List.getD_eq_getElem?_getD]
    rw [e1,if_neg (fun z=>hb (by rw [z.1]))]
def putS (r:List Int) (s:Nat) (l:List Int):List Int:=r.take (s % 2 * 4) ++ l ++ r.drop (s % 2 * 4 + 4)
theorem putS_len {r:List Int}{s:Nat}{l:List Int}(h:r.length=8) (hl:l.length=4):(putS r s l).length=8:=by
  unfold putS
  rw [List.length_append,List.length_append,List.length_take,List.length_drop,h,hl]
  omega
theorem slq_putS {rows:List (List Int)}{F s s' j':Nat}{r l:List Int}(hr:rows[10 + F + s / 2]?=some r) (h8:r.length=8) (hl:l.length=4) (hj':j' < 4) :
    slq (rows.set (10 + F + s / 2) (putS r s l)) F s' j'=if s'=s then l.getD j' 0 else slq rows F s' j':=by
  have hlr:10 + F + s / 2 < rows.length:=(List.getElem?_eq_some_iff.mp hr).1
  unfold slq
  by_cases hb:s' / 2=s / 2
  · have e1:(rows.set (10 + F + s / 2) (putS r s l)).getD (10 + F + s' / 2) []=putS r s l:=by
      rw [hb,List.getD_eq_getElem?_getD,List.getElem?_set_self hlr];rfl
    have e2:rows.getD (10 + F + s' / 2) []=r:=by rw [hb,List.getD_eq_getElem?_getD,hr];rfl
    rw [e1,e2]
    obtain ⟨a,b,c,d,e,f,g,i,rfl⟩:=row_of8 h8
    match l,hl with
    | [p,q,t,u],_ =>
      unfold putS
      have hs:s % 2=0∨s % 2=1:=by omega
      have hs':s' % 2=0∨s' % 2=1:=by omega
      have hj:j'=0∨j'=1∨j'=2∨j'=3:=by omega
      by_cases hc:s'=s
      · subst hc
        rw [if_pos rfl]
        rcases hs with h | h<;>rw [h]<;>rcases hj with rfl | rfl | rfl | rfl<;>rfl
      · rw [if_neg hc]
        rcases hs with h | h<;>rcases hs' with h' | h'<;>rw [h,h']<;>first | (exfalso;omega) | (rcases hj with rfl | rfl | rfl | rfl<;>rfl)
  · have e1:(rows.set (10 + F + s / 2) (putS r s l)).getD (10 + F + s' / 2) []=rows.getD (10 + F + s' / 2) []:=by
      rw [List.getD_eq_getElem?_getD,List.getElem?_set_ne (by omega),List.getD_eq_getElem?_getD]
    rw [e1,if_neg (fun z=>hb (by rw [z]))]
theorem Vol.snoc {H H1:Hp}{v q:Addr}{as:List Addr}{rows:List (List Int)}{r:List Int}(x:Vol H v as rows) (s:Same H H1) (fq:H q=none) (hq:H1 q=some (.lst (r.map V.int))):Vol (upd H1 v (.lst (as.map V.ref ++ [.ref q]))) v (as ++ [q]) (rows ++ [r]):=by
  obtain ⟨n1,n2⟩:=x.fresh fq
  refine ⟨by rw [upd_same,List.map_append];rfl,by simp [x.len],?_,fun i a r' e1 e2=>?_⟩
  · rw [List.nodup_append]
    exact ⟨x.nd,by simp,fun a ha b hb e=>by rw [List.mem_singleton.mp hb] at e;rw [e] at ha;exact n1 ha⟩
  · rcases getApp x.len e1 with ⟨hi,e1⟩ | ⟨hi,e1⟩
    · rcases getApp (rfl:rows.length=rows.length) e2 with ⟨_,e2⟩ | ⟨h2,_⟩
      · rw [upd_ne (x.ne (List.mem_of_getElem? e1))];exact s _ _ (x.row i a r' e1 e2)
      · exact absurd h2 (by omega)
    · rcases getApp (rfl:rows.length=rows.length) e2 with ⟨h2,_⟩ | ⟨_,e2⟩
      · exact absurd h2 (by omega)
      · have hj0:i - rows.length < 1:=by have:=(List.getElem?_eq_some_iff.mp e1).1;simpa using this
        have:i - rows.length=0:=by omega
        rw [this] at e1 e2
        cases e1
        cases e2
        rw [upd_ne n2]
        exact hq
theorem nat_list:∀ {ms:List Int},(∀ x∈ms,0≤x)→ms=(ms.map Int.toNat).map fun (i:Nat)=>(i:Int)
  | [],_=>rfl
  | x :: r,h=>by
    rw [List.map_cons,List.map_cons,← nat_list fun y hy=>h y (List.mem_cons_of_mem _ hy),Int.toNat_of_nonneg (h x (List.mem_cons_self ..))]
theorem cutS {r:List Int}{s:Nat}{l:Lk}(h8:r.length=8):(r.map V.int).take (HT.sIx (r.map V.int).length 0 (some ((s:Int) % 2 * 4))) ++ [V.int 1,V.int l.1,V.int l.2.1,V.int l.2.2] ++ (r.map V.int).drop (max (HT.sIx (r.map V.int).length 0 (some ((s:Int) % 2 * 4))) (HT.sIx (r.map V.int).length (r.map V.int).length (some ((s:Int) % 2 * 4 + 4))))=(putS r s (numL l)).map V.int:=by
  obtain ⟨a,b,c,d,e,f,g,i,rfl⟩:=row_of8 h8
  unfold putS numL
  have hs:s % 2=0∨s % 2=1:=by omega
  rcases hs with h | h
  · have h':(s:Int) % 2=0:=by omega
    rw [h,h']
    rfl
  · have h':(s:Int) % 2=1:=by omega
    rw [h,h']
    rfl
end
end K62
namespace K62
open PySem L2 PyProof.Rows PySem.W
section
variable {P:Program}{w:World}{K:PySem.W.Frag}{mg:Str→Option Value}{base:Heap}
theorem zip_fst {α β:Type}:∀ (a:List α) (b:List β),(a.zip b).map (·.1)=a.take b.length
  | [],_=>by simp
  | _ :: _,[]=>rfl
  | x :: a,y :: b=>by rw [List.zip_cons_cons,List.map_cons,zip_fst a b];rfl
theorem zip_snd {α β:Type}:∀ {a:List α}{b:List β},b.length≤a.length→(a.zip b).map (·.2)=b
  | [],[],_=>rfl
  | _ :: _,[],_=>rfl
  | [],_ :: _,h=>absurd h (by simp)
  | x :: a,y :: b,h=>by rw [List.zip_cons_cons,List.map_cons,zip_snd (by simpa using h)]
theorem ok_sound (T:Tx K mg) (BB:BM mg base):FnOk P w K mg base CX0 8 T.f_l_sound T.fd_l_sound ["_law_layout_here","_law_cell_here"] (spSound T.C_Layout T.P_l_slots T.P_l_sound):=by
  refine T.FC_l_sound.ok sc_l_sound (fun vs H Q E h=>?_) (fun A outer s H vs Q X hr h=>?_)
  · obtain ⟨c,p,F,E,B,rfl,_⟩:=h
    rfl
  · obtain ⟨c,p,F,E,B,rfl,hL,ok,hP1,hP2,k⟩:=h
    have npp:T.P_l_slots≠T.P_l_sound:=fun z=>by have:=T.np_l_slots_l_sound;rw [z] at this;simp at this
    have f1:=ok.f1;have f2:=ok.f2;have e1:=ok.e1;have e2:=ok.e2;have b1:=ok.b1;have b2:=ok.b2
    have r1:Room 1 _:=hr.mono (by decide)
    have r2:Room 2 _:=hr.mono (by decide)
    have r4:Room 4 _:=hr.mono (by decide)
    have r6:Room 6 _:=hr.mono (by decide)
    refine ⟨_,@pss_cut _ _ _ _ _ (ps_set (i:=2) sc_l_sound.nd rfl (Or.inl rfl) (pe_op op_add (pe_op op_add (pe_op op_add pe_int (pe_fld (pv 0) rfl)) (pe_fld (pv 0) rfl)) (pe_fld (pv 0) rfl)))
      (@pss_cut _ _ _ _ _ (ps_set (i:=3) sc_l_sound.nd rfl (Or.inr rfl) (pe_op op_sub (pv 2) (pe_fld (pv 0) rfl)))
      (@pss_cons _ _ _ _ _ (ps_set (i:=4) sc_l_sound.nd rfl (Or.inl rfl) (pe_lst pa_nil))
      (@pss_cut _ _ _ _ _ (ps_for PassesOwn.never rfl (pi_range1 rfl T.z_range (pa_cons (pv 2) pa_nil)) (pg_name (i:=5) sc_l_sound.nd rfl (Or.inr rfl))
        (pss_one (ps_expr (pe_bm PySem.F.plainAttrs_list PySem.F.slot_list_append PySem.F.type_list_append mt_append (pv 4) (pa_cons (pe_comp (N':=["_law_k","_law_cell_here","_law_block"]) (cap:=[none,some 1,some 5]) rfl (compOk_of (by kernel_rfl)) (pi_range1 rfl T.z_range (pa_cons pe_int pa_nil))
          (fun cells C s₀ H₀ fp pins=>⟨pg_name (i:=0) (ndp3 (by decide +kernel) (by decide +kernel) (by decide +kernel)) rfl (Or.inl rfl) (.inr rfl),pifs_nil,pe_op op_mod (pe_op op_mul (pe_call (ok_mixed T) r1 rfl T.g_l_mixed T.F_l_mixed.kp T.b_l_mixed .nil pass0 (pa_cons (pv 1) (pa_cons (pe_op op_add (pe_op op_add pe_int (pe_op op_mul pe_int (pv 2))) (pv 0)) pa_nil))) pe_int) (pe_op op_pow pe_int pe_int)⟩)) pa_nil)))))
      (@pss_cons _ _ _ _ _ (ps_set (i:=6) sc_l_sound.nd rfl (Or.inl rfl) (pe_call (ok_kinds T) r2 rfl T.g_l_kinds T.F_l_kinds.kp T.b_l_kinds .nil pass0 (pa_cons (pv 1) (pa_cons (pe_fld (pv 0) rfl) pa_nil))))
      (@pss_cons _ _ _ _ _ (ps_set (i:=7) sc_l_sound.nd rfl (Or.inl rfl) (pe_call (ok_slots T BB) r6 rfl T.g_l_slots T.F_l_slots.kp T.b_l_slots .nil pass0 (pa_cons (pv 1) (pa_cons (pv 6) (pa_cons (pe_op op_mul pe_int (pe_fld (pv 0) rfl)) pa_nil)))))
      (@pss_cut _ _ _ _ _ (ps_set (i:=8) sc_l_sound.nd rfl (Or.inl rfl) (pe_sortKey (k:=1) (pn:="_law_b") (cn:="_law_cell_here") 1 (pe_comp (N':=["_law_k","_law_first"]) (cap:=[none,some 3]) rfl (compOk_of (by kernel_rfl)) (pi_range1 rfl T.z_range (pa_cons (pe_fld (pv 0) rfl) pa_nil))
          (fun cells C s₀ H₀ fp pins=>⟨pg_name (i:=0) (ndp2 (by decide +kernel)) rfl (Or.inl rfl) (.inr rfl),pifs_nil,pe_op op_add (pv 1) (pv 0)⟩)) rfl T.z_sorted BB T.FC_l_sound.hd rfl (by exact ⟨rfl,rfl,rfl,rfl,rfl,by decide +kernel,by decide +kernel⟩) r4 rfl rfl (s.heap.objs.size + 1) rfl rfl
        (fun _ _ _ _=>rfl) (fun f c' A outer s H hr=>pe_call (ok_mixed T) hr rfl T.g_l_mixed T.F_l_mixed.kp T.b_l_mixed .nil pass0 (pa_cons (pv 1) (pa_cons (pe_op op_add pe_int (pv 0)) pa_nil)))))
      (@pss_cons _ _ _ _ _ (ps_expr (pe_call (ok_records T) r4 rfl T.g_l_records T.F_l_records.kp T.b_l_records .nil pass0 (pa_cons (pv 1) (pa_cons (pv 6) (pa_cons (pv 7) (pa_cons (pv 4) (pa_cons (pv 8) pa_nil)))))))
      (@pss_cons _ _ _ _ _ (@ps_set _ _ 9 _ _ _ _ sc_l_sound.nd rfl (Or.inl rfl) (@pe_lst _ _ _ _ (@pa_cons _ _ _ _ _ pe_int (@pa_cons _ _ _ _ _ (pe_op op_mod (pv 1) (pe_op op_pow pe_int pe_int)) (@pa_cons _ _ _ _ _ (pe_fld (pv 0) rfl) (@pa_cons _ _ _ _ _ (pe_fld (pv 0) rfl) (@pa_cons _ _ _ _ _ (pe_fld (pv 0) rfl) (@pa_cons _ _ _ _ _ pe_int (@pa_cons _ _ _ _ _ pe_int pa_nil rfl) rfl) rfl) rfl) rfl) rfl) rfl)) rfl (Or.inl rfl))
      (@pss_cut _ _ _ _ _ (ps_asg (pe_op op_cat (pv 9) (pe_lst (pa_cons (pe_call (ok_check T) r1 rfl T.g_l_check T.F_l_check.kp T.b_l_check .nil pass0 (pa_cons (pv 9) pa_nil)) pa_nil))) (pg_sub (pv 4) pe_int set_list))
      (@pss_cut _ _ _ _ _ (ps_asg (pe_callTy call_list_of rfl T.z_list (by kernel_rfl) (pa_cons (pe_ix ix_list (pv 4) pe_int (fun _ _=>rfl)) pa_nil)) (pg_sub (pv 4) pe_int set_list))
      (@pss_cons _ _ _ _ _ (@ps_set _ _ 10 _ _ _ _ sc_l_sound.nd rfl (Or.inl rfl) (@pe_ints _ _ [0,0,0,0,0,0,0,0] _ rfl) rfl (Or.inl rfl))
      (@pss_cut _ _ _ _ _ (ps_for PassesOwn.never rfl (pi_range2 rfl T.z_range (pa_cons (pv 3) (pa_cons (pv 2) pa_nil))) (pg_name (i:=5) sc_l_sound.nd rfl (Or.inr rfl))
        (@pss_cons _ _ _ _ _ (ps_asg (pe_callB call_divmod rfl T.z_divmod (by kernel_rfl) (pa_cons (pe_op op_sub (pv 5) (pv 3)) (pa_cons pe_int pa_nil))) (pg_tup rfl (pgs_cons (pg_name (i:=11) sc_l_sound.nd rfl (Or.inl rfl)) (pgs_cons (pg_name (i:=12) sc_l_sound.nd rfl (Or.inl rfl)) pgs_nil))))
        (@pss_one _ _ _ (ps_if (pt_cmpR op_notIn_seq (pv 5) (pv 8) rfl) (pss_one (ps_asg (pe_op op_or (pe_ix ix_list (pv 10) (pv 11) (fun _ _=>rfl)) (pe_op op_shl pe_int (pv 12))) (pg_sub (pv 10) (pv 11) set_list))) pss_nil))))
      (@pss_cut _ _ _ _ _ (ps_asg (pv 10) (pg_sub (pv 4) pe_int set_list))
      (@pss_cut _ _ _ _ _ (@ps_asg _ _ _ _ _ _ (@pe_ints _ _ [0,0,0,0,0,0,0,0] _ rfl) (pg_sub (pv 4) pe_int set_list) rfl rfl rfl)
      (@pss_cut _ _ _ _ _ (ps_set (i:=13) sc_l_sound.nd rfl (Or.inl rfl) (pe_sortKey (k:=1) (pn:="_law_s") (cn:="_law_cell_here") 1 (pe_callTy (call_listRange rfl) rfl T.z_list (by kernel_rfl) (pa_cons (pe_callTy call_rangeO rfl T.z_range (by kernel_rfl) (pa_cons (pe_op op_mul pe_int (pe_fld (pv 0) rfl)) pa_nil)) pa_nil)) rfl T.z_sorted BB T.FC_l_sound.hd rfl (by exact ⟨rfl,rfl,rfl,rfl,rfl,by decide +kernel,by decide +kernel⟩) r4 rfl rfl (s.heap.objs.size + 1) rfl rfl
        (fun _ _ _ _=>rfl) (fun f c' A outer s H hr=>pe_call (ok_mixed T) hr rfl T.g_l_mixed T.F_l_mixed.kp T.b_l_mixed .nil pass0 (pa_cons (pv 1) (pa_cons (pe_op op_add pe_int (pv 0)) pa_nil)))))
      (@pss_cut _ _ _ _ _ (ps_for PassesOwn.never rfl (pi_range1 rfl T.z_range (pa_cons (pe_op op_mul pe_int (pe_fld (pv 0) rfl)) pa_nil)) (pg_name (i:=14) sc_l_sound.nd rfl (Or.inl rfl))
        (pss_one (ps_asg pe_int (pg_sub (pe_ix ix_list (pv 4) (pe_op op_add (pe_op op_add pe_int (pe_fld (pv 0) rfl)) (pe_op op_fdiv (pv 14) pe_int)) (fun _ _=>rfl)) (pe_op op_mul (pe_op op_mod (pv 14) pe_int) pe_int) set_list))))
      (@pss_cut _ _ _ _ _ (ps_for PassesOwn.never rfl (pi_zip rfl T.z_zip (pa_cons (pv 13) (pa_cons (pv 7) pa_nil))) (pg_tup rfl (pgs_cons (pg_name (i:=14) sc_l_sound.nd rfl (Or.inl rfl)) (pgs_cons (pg_name (i:=15) sc_l_sound.nd rfl (Or.inl rfl)) pgs_nil)))
        (pss_one (ps_asg (@pe_lst _ _ _ _ (@pa_cons _ _ _ _ _ pe_int (@pa_cons _ _ _ _ _ (pe_ix ix_tup (pv 15) pe_int (fun _ _=>rfl)) (@pa_cons _ _ _ _ _ (pe_ix ix_tup (pv 15) pe_int (fun _ _=>rfl)) (@pa_cons _ _ _ _ _ (pe_ix ix_tup (pv 15) pe_int (fun _ _=>rfl)) pa_nil rfl) rfl) rfl) rfl)) (pg_subS (pe_ix ix_list (pv 4) (pe_op op_add (pe_op op_add pe_int (pe_fld (pv 0) rfl)) (pe_op op_fdiv (pv 14) pe_int)) (fun _ _=>rfl)) (po_some (pe_op op_mul (pe_op op_mod (pv 14) pe_int) pe_int)) (po_some (pe_op op_add (pe_op op_mul (pe_op op_mod (pv 14) pe_int) pe_int) pe_int))))))
      (@pss_one _ _ _ (ps_ret (pe_tup (pa_cons (pv 4) (pa_cons (pv 6) (pa_cons (pv 7) pa_nil))))))))))))))))))))))),?_⟩
    obtain ⟨dx,hp⟩:=hL
    have en:(10:Int) + (F:Int) + (E:Int) + (B:Int)=((10 + F + E + B:Nat):Int):=by omega
    have el:((10 + F + E + B:Nat):Int) - (B:Int)=((10 + F + E:Nat):Int):=by omega
    refine ⟨fun σ H'=>H'=H∧σ=[some (.ref p),some (.int c),some (.int ((10 + F + E + B:Nat):Int)),none,none,none,none,none,none,none,none,none,none,none,none,none],⟨_,rfl,p,T.C_Layout,dx,_,_,rfl,hp,T.cl_Layout,T.n_Layout_files,lay_files _ _ _,_,_,rfl,rfl,_,rfl,p,T.C_Layout,dx,_,_,rfl,hp,T.cl_Layout,T.n_Layout_slots,lay_slots _ _ _,_,_,rfl,rfl,_,rfl,p,T.C_Layout,dx,_,_,rfl,hp,T.cl_Layout,T.n_Layout_data,lay_data _ _ _,_,_,rfl,rfl,rfl,by rw [← en];rfl⟩,?_⟩
    rintro σ H' ⟨eH,rfl⟩
    rw [eH]
    refine ⟨fun σ H'=>H'=H∧σ=[some (.ref p),some (.int c),some (.int ((10 + F + E + B:Nat):Int)),some (.int ((10 + F + E:Nat):Int)),none,none,none,none,none,none,none,none,none,none,none,none],⟨_,rfl,_,rfl,p,T.C_Layout,dx,_,_,rfl,hp,T.cl_Layout,T.n_Layout_data,lay_data _ _ _,_,_,rfl,rfl,rfl,by rw [← el];rfl⟩,?_⟩
    rintro σ H' ⟨eH,rfl⟩
    rw [eH]
    clear en el
    refine ⟨(by show 0≤sizeLine;decide),fun v fv=>?_⟩
    refine ⟨fun σ H'=>∃ x5 as rows,σ=[some (.ref p),some (.int c),some (.int ((10 + F + E + B:Nat):Int)),some (.int ((10 + F + E:Nat):Int)),some (.ref v),x5,none,none,none,none,none,none,none,none,none,none]∧Same H H'∧Vol H' v as rows∧rows.length=10 + F + E + B∧(∀ r∈rows,r.length=8)∧∀ b∈as,H b=none,?_,?_⟩
    · refine ⟨_,rfl,((10 + F + E + B:Nat):Int),rfl,by omega,by omega,?_⟩
      rw [Int.toNat_natCast]
      refine for_range (lo:=0) (n:=10 + F + E + B) (fun i σ H'=>∃ x5 as rows,σ=[some (.ref p),some (.int c),some (.int ((10 + F + E + B:Nat):Int)),some (.int ((10 + F + E:Nat):Int)),some (.ref v),x5,none,none,none,none,none,none,none,none,none,none]∧Same H H'∧Vol H' v as rows∧rows.length=i∧(∀ r∈rows,r.length=8)∧∀ b∈as,H b=none)
        ⟨none,[],[],rfl,Same.upd0 fv,⟨upd_same,rfl,List.nodup_nil,fun i a r h=>by simp at h⟩,rfl,fun _ h=>(nomatch h),fun _ h=>(nomatch h)⟩ ?_ ?_
      · rintro i σ H1 hi ⟨x5,as,rows,rfl,s1,V1,l1,r8,new⟩
        have c0:(0:Int) + (i:Int)=(i:Int):=by omega
        rw [c0]
        refine ⟨_,rfl,.inl ⟨rfl,_,SqL.of V1.top⟩,8,rfl,by decide,by decide,?_⟩
        refine comp_range (cap:=[none,some 1,some 5]) (σ:=[some (.ref p),some (.int c),some (.int ((10 + F + E + B:Nat):Int)),some (.int ((10 + F + E:Nat):Int)),some (.ref v),some (.int (i:Int)),none,none,none,none,none,none,none,none,none,none]) (m:=8) (small_len (n:=8) (by decide)) (fun j ys σ H'=>j≤8∧∃ gs:List Int,ys=gs.map V.int∧gs.length=j∧(∃ s0,σ=[s0,some (.int c),some (.int (i:Int))])∧H'=H1)
          (by exact ⟨Nat.zero_le _,[],rfl,rfl,⟨none,rfl⟩,rfl⟩) (fun j ys σ H' ⟨h1,gs,h2,h3,_⟩=>⟨h1,by rw [h2,List.length_map,h3];exact Nat.le_refl _⟩) ?_ ?_
        · rintro j ys σ H' hj ⟨h1,gs,rfl,h3,⟨s0,rfl⟩,rfl⟩
          exact ⟨_,rfl,_,rfl,_,_,rfl,rfl,.inl ⟨by decide,by decide⟩,_,_,rfl,rfl,_,rfl,_,_,rfl,rfl,c,_,rfl,_,_,rfl,rfl,.inr ⟨by decide,by decide⟩,_,_,rfl,rfl,⟨by decide,by decide,by decide⟩,_,_,rfl,rfl,(by show (0:Int) < 10 ^ 12;decide),hj,gs ++ [_],by rw [List.map_append];rfl,by simp [h3],⟨_,rfl⟩,rfl⟩
        rintro ys σ H' ⟨_,gs,rfl,l8,⟨s0,rfl⟩,eH⟩ q fq
        rw [eH] at fq ⊢
        have sq:=Same.upd0 (o:=.lst (gs.map V.int)) fq
        refine ⟨v,_,_,rfl,rfl,sq _ _ V1.top,small1000 (by rw [List.length_map,V1.len];omega),?_⟩
        exact ⟨_,as ++ [q],rows ++ [gs],rfl,(s1.trans sq).updF fv,K62.Vol.snoc V1 sq fq upd_same,by simp [l1],fun r hr=>(by
          rcases List.mem_append.mp hr with h | h
          · exact r8 r h
          · rw [List.mem_singleton.mp h];exact l8),fun b hb=>(by
          rcases List.mem_append.mp hb with h | h
          · exact new b h
          · rw [List.mem_singleton.mp h];exact s1.free fq)⟩
      rintro σ H1 ⟨x5,as,rows,rfl,s1,V1,l1,r8,new⟩
      exact ⟨x5,as,rows,rfl,s1,V1,l1,r8,new⟩
    rintro σ H1 ⟨x5,as,rows,rfl,s1,V1,l1,r8,new⟩
    have hp1:=s1 _ _ hp
    have fn1:(F:Int)=((F:Nat):Int):=rfl
    refine ⟨_,rfl,_,rfl,p,T.C_Layout,dx,_,_,rfl,hp1,T.cl_Layout,T.n_Layout_files,lay_files _ _ _,c,F,rfl,by omega,by omega,fun kl ks H2 s2 fkl hkl hKS=>?_⟩
    have S2:=s1.trans s2
    have hp2:=S2 _ _ hp
    have hP12:=S2 _ _ hP1
    have em:(2:Int) * (E:Int)=((2 * E:Nat):Int):=by omega
    refine ⟨_,rfl,_,rfl,_,rfl,p,T.C_Layout,dx,_,_,rfl,hp2,T.cl_Layout,T.n_Layout_slots,lay_slots _ _ _,_,_,rfl,rfl,.inl ⟨by decide,by decide⟩,c,kl,ks,F,2 * E,(by rw [← em];rfl),hkl,hKS,by omega,by omega,by omega,hP12,fun lk ts ls H3 k3 flk hK hLO hle=>?_⟩
    have V2:=V1.same s2
    have V3:=K62.Vol.kp V2 k3 hP12
    have hkl3:H3 kl=some (.lst (ks.map V.int)):=k3.lst hP12 hkl
    have hp3:H3 p=some (.ins T.C_Layout dx (lay F E B)):=k3 _ _ hp2 fun z=>by rw [z,hP12] at hp2;cases hp2
    have hP23:H3 T.P_l_sound=some (.tbl #[]):=k3 _ _ (S2 _ _ hP2) (Ne.symm npp)
    have nkv:=V1.fresh fkl
    have nlv:=V2.fresh flk
    have K3:∀ b o,H b=some o→b≠T.P_l_slots→H3 b=some o:=fun b o e n=>k3 _ _ (S2 _ _ e) n
    have nlk:lk≠kl:=fun z=>by rw [z,hkl] at flk;cases flk
    clear k3 hP12 hp2 hp1 S2 s2 V2 V1 hkl
    refine ⟨fun σ H'=>∃ (fl:Addr) (fr:List Int),σ=[some (.ref p),some (.int c),some (.int ((10 + F + E + B:Nat):Int)),some (.int ((10 + F + E:Nat):Int)),some (.ref v),x5,some (.ref kl),some (.ref lk),some (.ref fl),none,none,none,none,none,none,none]∧KP T.P_l_sound H3 H'∧H3 fl=none∧fl≠T.P_l_sound∧H' fl=some (.lst (fr.map V.int))∧fr.Nodup∧(∀ x∈fr,((10 + F + E:Nat):Int)≤x∧x < ((10 + F + E + B:Nat):Int))∧∃ (ln:Int) (cr:Value),H' T.P_l_sound=some (.tbl #[rawInt ln,rawInt 93,cr]),?_,?_⟩
    · refine ⟨_,rfl,p,T.C_Layout,dx,_,_,rfl,hp3,T.cl_Layout,T.n_Layout_data,lay_data _ _ _,(B:Int),rfl,by omega,by omega,?_⟩
      rw [Int.toNat_natCast]
      refine comp_range (cap:=[none,some 3]) (σ:=[some (.ref p),some (.int c),some (.int ((10 + F + E + B:Nat):Int)),some (.int ((10 + F + E:Nat):Int)),some (.ref v),x5,some (.ref kl),some (.ref lk),none,none,none,none,none,none,none,none]) (m:=B) (small_len (n:=B) (by omega)) (fun j ys σ H'=>j≤B∧∃ gs:List Int,ys=gs.map V.int∧gs.length=j∧gs.Nodup∧(∀ g∈gs,((10 + F + E:Nat):Int)≤g∧g < ((10 + F + E:Nat):Int) + (j:Int))∧(∃ s0,σ=[s0,some (.int ((10 + F + E:Nat):Int))])∧H'=H3)
        (by exact ⟨Nat.zero_le _,[],rfl,rfl,List.nodup_nil,fun _ h=>(nomatch h),⟨none,rfl⟩,rfl⟩) (fun j ys σ H' ⟨h1,gs,h2,h3,_⟩=>⟨h1,by rw [h2,List.length_map,h3];exact Nat.le_refl _⟩) ?_ ?_
      · rintro j ys σ H' hj ⟨h1,gs,rfl,h3,h4,h5,⟨s0,rfl⟩,rfl⟩
        refine ⟨_,rfl,_,rfl,_,_,rfl,rfl,hj,gs ++ [((10 + F + E:Nat):Int) + (0 + (j:Int))],by rw [List.map_append];rfl,by simp [h3],?_,fun g hg=>?_,⟨_,rfl⟩,rfl⟩
        · rw [List.nodup_append]
          exact ⟨h4,by simp,fun a ha b hb e=>by have:=(h5 a ha).2;rw [List.mem_singleton.mp hb] at e;omega⟩
        · rcases List.mem_append.mp hg with h | h
          · have:=h5 g h;omega
          · rw [List.mem_singleton.mp h];omega
      rintro ys σ H' ⟨_,gs,rfl,lg,h4,h5,⟨s0,rfl⟩,eH⟩ ol fol
      rw [eH] at fol ⊢
      have sO:=Same.upd0 (o:=.lst (gs.map V.int)) fol
      have hol:upd H3 ol (.lst (gs.map V.int)) ol=some (.lst (gs.map V.int)):=upd_same
      have hPo:=sO _ _ hP23
      generalize upd H3 ol (.lst (gs.map V.int))=H4 at sO hol hPo ⊢
      refine ⟨ol,gs,.int c,fun n=>mix c (500 + n),#[],rfl,SqL.of hol,by omega,rfl,hPo,trivial,rfl,fun n hn more=>?_,fun cr fl ms hpm ffl nfl=>?_⟩
      · exact ⟨_,rfl,_,rfl,_,_,rfl,rfl,c,500 + n,rfl,rfl,rfl⟩
      · refine ⟨fl,ms,rfl,((KP.of sO).tab).updF (sO.free ffl),sO.free ffl,nfl,upd_same,hpm.nodup_iff.mpr h4,fun x hx=>?_,?_⟩
        · have:=h5 x (hpm.mem_iff.mp hx);omega
        · exact ⟨_,cr,(upd_ne (Ne.symm nfl)).trans upd_same⟩
    rintro σ H4 ⟨fl,fr,rfl,k4,ffl,nfP,hfl,hfd,hfin,ln,cr,hP24⟩
    have V4:=K62.Vol.kp V3 k4 hP23
    have hkl4:H4 kl=some (.lst (ks.map V.int)):=k4.lst hP23 hkl3
    have hp4:H4 p=some (.ins T.C_Layout dx (lay F E B)):=k4 _ _ hp3 fun z=>by rw [z,hP23] at hp3;cases hp3
    have hK4:Lks H4 lk ts ls:=⟨k4.lst hP23 hK.top,hK.len,fun i t l a b=>k4 _ _ (hK.item i t l a b) fun z=>by have:=hK.item i t l a b;rw [z,hP23] at this;cases this⟩
    have nfv:=V3.fresh ffl
    have K4:keep2 T.P_l_slots T.P_l_sound H H4:=fun b o e n1 n2=>k4 _ _ (K3 b o e n1) n2
    have nkf:kl≠fl:=ne_of_none hkl3 ffl
    have nlf:lk≠fl:=ne_of_none hK.top ffl
    have hG:W (hid H4 (v :: fl :: as)) H4 v fl as rows fr (10 + F + E + B) (10 + F + E) :=
      ⟨hid_same _ _,hid_no (by simp),hid_no (by simp),fun b hb=>hid_no (by simp [hb]),V4,l1,r8,hfl,hfd,hfin,nfv.2,nfv.1⟩
    have gkl:hid H4 (v :: fl :: as) kl=some (.lst (ks.map V.int)):=hid_at hkl4 (by simp only [List.mem_cons,not_or];exact ⟨nkv.2,nkf,nkv.1⟩)
    have insNot:∀ t o,H4 t=some o→(∀ xs,o≠.lst xs)→t∉v :: fl :: as:=fun t o e n z=>by
      rcases List.mem_cons.mp z with z | z
      · rw [z,V4.top] at e;cases e;exact n _ rfl
      · rcases List.mem_cons.mp z with z | z
        · rw [z,hfl] at e;cases e;exact n _ rfl
        · obtain ⟨i,hi,ei⟩:=List.getElem_of_mem z
          have hi2:i < rows.length:=by rw [← V4.len];exact hi
          have:=V4.row i t rows[i] (by rw [List.getElem?_eq_getElem hi,ei]) (List.getElem?_eq_getElem hi2)
          rw [this] at e;cases e;exact n _ rfl
    have tupNot:∀ t xs,H4 t=some (.tup xs)→t∉v :: fl :: as:=fun t xs e=>insNot t _ e fun _ z=>by cases z
    have gK:Lks (hid H4 (v :: fl :: as)) lk ts ls:=⟨hid_at hK4.top (by simp only [List.mem_cons,not_or];exact ⟨nlv.2,nlf,nlv.1⟩),hK4.len,fun i t l a b=>hid_at (hK4.item i t l a b) (tupNot _ _ (hK4.item i t l a b))⟩
    have gp:hid H4 (v :: fl :: as) p=some (.ins T.C_Layout dx (lay F E B)):=hid_at hp4 (insNot _ _ hp4 fun _ z=>by cases z)
    have gP:hid H4 (v :: fl :: as) T.P_l_sound=some (.tbl #[rawInt ln,rawInt 93,cr]):=hid_at hP24 (insNot _ _ hP24 fun _ z=>by cases z)
    have gkeep:keep2 T.P_l_slots T.P_l_sound H (hid H4 (v :: fl :: as)):=fun b o e n1 n2=>hid_at (K4 b o e n1 n2) (by
      simp only [List.mem_cons,not_or]
      exact ⟨(fun z=>by rw [z,fv] at e;cases e),(fun z=>by rw [z] at e n1;rw [K3 _ _ e n1] at ffl;cases ffl),(fun z=>by rw [new b z] at e;cases e)⟩)
    generalize hid H4 (v :: fl :: as)=G at hG gkl gK gp gP gkeep
    clear tupNot insNot K4 k4 hK4 hp4 hkl4 V4 K3 hP24 hP23 hp3 hkl3 hK V3 nlv nkv r8 new s1 l1 hfl nfv nkf nlf nlk fkl flk
    refine ⟨_,rfl,_,rfl,_,rfl,_,rfl,_,rfl,G,c,kl,lk,v,fl,ks,ts,ls,as,rows,fr,F,10 + F + E + B,10 + F + E,rfl,hG,gkl,hKS,gK,by omega,by omega,by omega,by omega,fun as5 R5 fr5 H5 W5 hRc=>?_⟩
    have hp5:=W5.sg _ _ gp
    have rcSet:∀ {R:List (List Int)} {j:Nat} {r:List Int},j < 10→(∀ f < F,RcOk ks ls (10 + F + E) (10 + F + E + B) fr5 R f)→∀ f < F,RcOk ks ls (10 + F + E) (10 + F + E + B) fr5 (R.set j r) f:=fun hj h f hf=>(h f hf).stay (List.getElem?_set_ne (by omega)) (fun m hm _=>List.getElem?_set_ne (by omega)) fun _ z=>z
    clear hG rows as hfd hfin
    refine ⟨_,rfl,_,_,rfl,rfl,⟨by decide,by decide,by decide⟩,_,_,rfl,rfl,(by show (0:Int) < 10 ^ 12;decide),_,rfl,p,T.C_Layout,dx,_,_,rfl,hp5,T.cl_Layout,T.n_Layout_files,lay_files _ _ _,_,rfl,p,T.C_Layout,dx,_,_,rfl,hp5,T.cl_Layout,T.n_Layout_slots,lay_slots _ _ _,_,rfl,p,T.C_Layout,dx,_,_,rfl,hp5,T.cl_Layout,T.n_Layout_data,lay_data _ _ _,(by show 7≤sizeLine;decide),fun hd fhd=>?_⟩
    refine ⟨fun σ H'=>∃ as R,σ=[some (.ref p),some (.int c),some (.int ((10 + F + E + B:Nat):Int)),some (.int ((10 + F + E:Nat):Int)),some (.ref v),x5,some (.ref kl),some (.ref lk),some (.ref fl),some (.ref hd),none,none,none,none,none,none]∧W G H' v fl as R fr5 (10 + F + E + B) (10 + F + E)∧∀ f < F,RcOk ks ls (10 + F + E) (10 + F + E + B) fr5 R f,?_,?_⟩
    · have W6:=W5.same (Same.upd0 (o:=.lst [.int 1179,.int (c % 10 ^ Int.toNat 12),.int F,.int E,.int B,.int 0,.int 0]) fhd)
      have hhd:upd H5 hd (.lst [.int 1179,.int (c % 10 ^ Int.toNat 12),.int F,.int E,.int B,.int 0,.int 0]) hd=some (.lst (([1179,c % 10 ^ Int.toNat 12,F,E,B,0,0]:List Int).map V.int)):=upd_same
      refine ⟨_,rfl,_,rfl,hd,[1179,c % 10 ^ Int.toNat 12,F,E,B,0,0],rfl,SqL.of hhd,(by show 7≤63;decide),fun x H7 s7=>⟨(by show 1≤sizeLine;decide),fun z fz=>?_⟩⟩
      have W8:=(W6.same s7).same (Same.upd0 (o:=.lst [.int x]) fz)
      have hhd8:=(Same.upd0 (o:=.lst [.int x]) fz) _ _ (s7 _ _ hhd)
      refine ⟨hd,z,_,_,rfl,rfl,hhd8,upd_same,(by show 7 + 1≤sizeLine;decide),fun q fq=>?_⟩
      refine ⟨_,rfl,v,_,_,0,rfl,rfl,(W8.vol.same (Same.upd0 fq)).top,ixN_nat (i:=0) (by rw [List.length_map,W8.vol.len,W8.len];omega),?_⟩
      exact ⟨_,_,rfl,W8.row (i:=0) (r:=[1179,c % 10 ^ Int.toNat 12,F,E,B,0,0,x]) fq (Same.upd0 fq) upd_same rfl,rcSet (by decide) hRc⟩
    clear hp5 hRc W5 fhd
    rintro σ H6 ⟨as6,R6,rfl,W6,hRc6⟩
    refine ⟨fun σ H'=>∃ as R,σ=[some (.ref p),some (.int c),some (.int ((10 + F + E + B:Nat):Int)),some (.int ((10 + F + E:Nat):Int)),some (.ref v),x5,some (.ref kl),some (.ref lk),some (.ref fl),some (.ref hd),none,none,none,none,none,none]∧W G H' v fl as R fr5 (10 + F + E + B) (10 + F + E)∧∀ f < F,RcOk ks ls (10 + F + E) (10 + F + E + B) fr5 R f,?_,?_⟩
    · have l0:0 < R6.length:=by rw [W6.len];omega
      have a0:0 < as6.length:=by rw [W6.vol.len];exact l0
      have ea:=List.getElem?_eq_getElem a0
      have er:=List.getElem?_eq_getElem l0
      have h8:=W6.r8 _ (List.getElem_mem l0)
      generalize as6[0]=a at ea
      generalize R6[0]=r at er h8
      refine ⟨_,rfl,v,_,_,.ref a,rfl,rfl,SqL.of W6.vol.top,atI_nat (j:=0) (by rw [List.getElem?_map,ea];rfl),a,_,rfl,.inl (SqL.of (W6.vol.row _ _ _ ea er)),fun q fq=>?_⟩
      refine ⟨_,rfl,v,_,_,1,rfl,rfl,(W6.vol.same (Same.upd0 fq)).top,ixN_nat (i:=1) (by rw [List.length_map,W6.vol.len,W6.len];omega),?_⟩
      exact ⟨_,_,rfl,W6.row (i:=1) fq (Same.upd0 fq) upd_same h8,rcSet (by decide) hRc6⟩
    clear W6 hRc6 as6 R6
    rintro σ H6 ⟨as6,R6,rfl,W6,hRc6⟩
    refine ⟨(by show 8≤sizeLine;decide),fun bl fbl=>?_⟩
    have W7:=W6.same (Same.upd0 (o:=.lst (([0,0,0,0,0,0,0,0]:List Int).map V.int)) fbl)
    obtain ⟨q1,q2,q3,q4⟩:=W6.new fbl
    have hbl:upd H6 bl (.lst (([0,0,0,0,0,0,0,0]:List Int).map V.int)) bl=some (.lst (([0,0,0,0,0,0,0,0]:List Int).map V.int)):=upd_same
    refine ⟨fun σ H'=>∃ x5 x11 x12 bs,σ=[some (.ref p),some (.int c),some (.int ((10 + F + E + B:Nat):Int)),some (.int ((10 + F + E:Nat):Int)),some (.ref v),x5,some (.ref kl),some (.ref lk),some (.ref fl),some (.ref hd),some (.ref bl),x11,x12,none,none,none]∧W G H' v fl as6 R6 fr5 (10 + F + E + B) (10 + F + E)∧H' bl=some (.lst ((bs:List Int).map V.int))∧bs.length=8,?_,?_⟩
    · refine ⟨_,rfl,_,rfl,((10 + F + E:Nat):Int),((10 + F + E + B:Nat):Int),rfl,⟨by omega,by omega,by omega,by omega⟩,?_⟩
      have eB:(((10 + F + E + B:Nat):Int) - ((10 + F + E:Nat):Int)).toNat=B:=by omega
      rw [eB]
      refine for_range (lo:=((10 + F + E:Nat):Int)) (n:=B) (fun i σ H'=>∃ x5 x11 x12 bs,σ=[some (.ref p),some (.int c),some (.int ((10 + F + E + B:Nat):Int)),some (.int ((10 + F + E:Nat):Int)),some (.ref v),x5,some (.ref kl),some (.ref lk),some (.ref fl),some (.ref hd),some (.ref bl),x11,x12,none,none,none]∧W G H' v fl as6 R6 fr5 (10 + F + E + B) (10 + F + E)∧H' bl=some (.lst ((bs:List Int).map V.int))∧bs.length=8)
        ⟨_,_,_,_,rfl,W7,hbl,rfl⟩ ?_ ?_
      · rintro i σ H8 hi ⟨y5,y11,y12,bs,rfl,W8,hb8,lb⟩
        refine ⟨_,rfl,_,rfl,_,_,rfl,rfl,_,_,rfl,⟨by decide,by decide⟩,fun t ft=>?_⟩
        have st:=Same.upd0 (o:=.tup [.int ((((10 + F + E:Nat):Int) + (i:Int) - ((10 + F + E:Nat):Int)) / 20),.int ((((10 + F + E:Nat):Int) + (i:Int) - ((10 + F + E:Nat):Int)) % 20)]) ft
        refine ⟨t,_,rfl,SqT.of upd_same,rfl,_,_,rfl,_,_,rfl,rfl,?_⟩
        have W9:=W8.same st
        have hb9:=st _ _ hb8
        have e1:(((10 + F + E:Nat):Int) + (i:Int) - ((10 + F + E:Nat):Int)) / 20=((i / 20:Nat):Int):=by omega
        have e2:0≤(((10 + F + E:Nat):Int) + (i:Int) - ((10 + F + E:Nat):Int)) % 20∧(((10 + F + E:Nat):Int) + (i:Int) - ((10 + F + E:Nat):Int)) % 20 < 20:=⟨by omega,by omega⟩
        have hk:i / 20 < bs.length:=by omega
        refine ⟨_,rfl,_,rfl,fl,_,rfl,.inl (SqL.of W9.fre),rfl,flatI _,_,rfl,ite2 (fun _=>?_) (fun _=>⟨_,_,_,bs,rfl,W9,hb9,lb⟩)⟩
        refine ⟨_,rfl,_,rfl,bl,_,_,.int bs[i / 20],rfl,rfl,SqL.of hb9,(by show atI _ ((((10 + F + E:Nat):Int) + (i:Int) - ((10 + F + E:Nat):Int)) / 20)=_;rw [e1];exact atI_nat (by rw [List.getElem?_map,List.getElem?_eq_getElem hk];rfl)),_,rfl,_,_,rfl,rfl,⟨e2.1,by omega,by decide⟩,_,_,rfl,rfl,?_⟩
        refine ⟨_,rfl,_,rfl,bl,_,_,i / 20,rfl,rfl,hb9,(by show ixN _ ((((10 + F + E:Nat):Int) + (i:Int) - ((10 + F + E:Nat):Int)) / 20)=_;rw [e1];exact ixN_nat (by rw [List.length_map];exact hk)),?_⟩
        refine ⟨_,_,_,bs.set (i / 20) (Builtin.bitOr bs[i / 20] (1 * 2 ^ ((((10 + F + E:Nat):Int) + (i:Int) - ((10 + F + E:Nat):Int)) % 20).toNat)),rfl,W9.off q4 q1 q2 q3,?_,by rw [List.length_set];exact lb⟩
        rw [upd_same,List.map_set]
      rintro σ H8 h
      exact h
    clear W7 hbl W6 fbl
    rintro σ H7 ⟨y5,y11,y12,bs,rfl,W7,hb7,lb⟩
    refine ⟨fun σ H'=>∃ as R,σ=[some (.ref p),some (.int c),some (.int ((10 + F + E + B:Nat):Int)),some (.int ((10 + F + E:Nat):Int)),some (.ref v),y5,some (.ref kl),some (.ref lk),some (.ref fl),some (.ref hd),some (.ref bl),y11,y12,none,none,none]∧W G H' v fl as R fr5 (10 + F + E + B) (10 + F + E)∧∀ f < F,RcOk ks ls (10 + F + E) (10 + F + E + B) fr5 R f,?_,?_⟩
    · refine ⟨_,rfl,_,rfl,v,_,_,2,rfl,rfl,W7.vol.top,ixN_nat (i:=2) (by rw [List.length_map,W7.vol.len,W7.len];omega),?_⟩
      exact ⟨_,_,rfl,W7.row2 (i:=2) q4 q1 q2 q3 hb7 lb,rcSet (by decide) hRc6⟩
    clear W7 hb7 q1 q2 q3 q4 hRc6 as6 R6
    rintro σ H7 ⟨as7,R7,rfl,W7,hRc7⟩
    refine ⟨fun σ H'=>∃ as R,σ=[some (.ref p),some (.int c),some (.int ((10 + F + E + B:Nat):Int)),some (.int ((10 + F + E:Nat):Int)),some (.ref v),y5,some (.ref kl),some (.ref lk),some (.ref fl),some (.ref hd),some (.ref bl),y11,y12,none,none,none]∧W G H' v fl as R fr5 (10 + F + E + B) (10 + F + E)∧∀ f < F,RcOk ks ls (10 + F + E) (10 + F + E + B) fr5 R f,?_,?_⟩
    · refine ⟨(by show 8≤sizeLine;decide),fun q fq=>⟨_,rfl,v,_,_,3,rfl,rfl,(W7.vol.same (Same.upd0 fq)).top,ixN_nat (i:=3) (by rw [List.length_map,W7.vol.len,W7.len];omega),?_⟩⟩
      exact ⟨_,_,rfl,W7.row (i:=3) fq (Same.upd0 fq) upd_same rfl,rcSet (by decide) hRc7⟩
    clear W7 hRc7 as7 R7
    rintro σ H7 ⟨as7,R7,rfl,W7,hRc7⟩
    have WJ:=W7.shrink (hid_same G [T.P_l_sound])
    have gJ:hid G [T.P_l_sound] T.P_l_sound=none:=hid_no (by simp)
    have hPJ:=W7.sg _ _ gP
    have nPv:T.P_l_sound≠v:=fun z=>by rw [z,W7.gv] at gP;cases gP
    have nPf:T.P_l_sound≠fl:=fun z=>by rw [z,W7.gf] at gP;cases gP
    have nPa:T.P_l_sound∉as7:=fun z=>by rw [W7.ga _ z] at gP;cases gP
    have gJp:hid G [T.P_l_sound] p=some (.ins T.C_Layout dx (lay F E B)):=hid_at gp (by simp only [List.mem_singleton];exact fun z=>by rw [z,gP] at gp;cases gp)
    have gJkl:hid G [T.P_l_sound] kl=some (.lst (ks.map V.int)):=hid_at gkl (by simp only [List.mem_singleton];exact fun z=>by rw [z,gP] at gkl;cases gkl)
    have gJK:Lks (hid G [T.P_l_sound]) lk ts ls:=⟨hid_at gK.top (by simp only [List.mem_singleton];exact fun z=>by have:=gK.top;rw [z,gP] at this;cases this),gK.len,fun i t l a b=>hid_at (gK.item i t l a b) (by simp only [List.mem_singleton];exact fun z=>by have:=gK.item i t l a b;rw [z,gP] at this;cases this)⟩
    have gJkeep:keep2 T.P_l_slots T.P_l_sound H (hid G [T.P_l_sound]):=fun b o e n1 n2=>hid_at (gkeep b o e n1 n2) (by simp only [List.mem_singleton];exact n2)
    generalize hid G [T.P_l_sound]=G2 at WJ gJ gJp gJkl gJK gJkeep
    clear W7 gkeep gK gkl gp
    have hp7:=WJ.sg _ _ gJp
    refine ⟨fun σ H'=>∃ (sp:Addr) (ss:List Nat),σ=[some (.ref p),some (.int c),some (.int ((10 + F + E + B:Nat):Int)),some (.int ((10 + F + E:Nat):Int)),some (.ref v),y5,some (.ref kl),some (.ref lk),some (.ref fl),some (.ref hd),some (.ref bl),y11,y12,some (.ref sp),none,none]∧W (upd G2 sp (.lst (ss.map fun (s:Nat)=>V.int s))) H' v fl as7 R7 fr5 (10 + F + E + B) (10 + F + E)∧G2 sp=none∧ss.Nodup∧(∀ s∈ss,s < 2 * E)∧ss.length=2 * E,?_,?_⟩
    · refine ⟨_,rfl,p,T.C_Layout,dx,_,_,rfl,hp7,T.cl_Layout,T.n_Layout_slots,lay_slots _ _ _,_,_,rfl,rfl,.inl ⟨by decide,by decide⟩,_,rfl,fun ra fra=>?_⟩
      refine ⟨ra,2 * E,rfl,(by rw [← em];exact upd_same),by omega,fun ll fll=>?_⟩
      have s8:=(Same.upd0 (o:=rangeO ra (2 * (E:Int))) fra).upd (o:=.lst ((List.range (2 * E)).map fun (i:Nat)=>V.int i)) fll
      have hll:upd (upd H7 ra (rangeO ra (2 * (E:Int)))) ll (.lst ((List.range (2 * E)).map fun (i:Nat)=>V.int i)) ll=some (.lst (((List.range (2 * E)).map fun (i:Nat)=>(i:Int)).map V.int)):=by rw [upd_same,List.map_map];rfl
      have W8:=WJ.same s8
      have hP8:=s8 _ _ hPJ
      generalize upd (upd H7 ra (rangeO ra (2 * (E:Int)))) ll (.lst ((List.range (2 * E)).map fun (i:Nat)=>V.int i))=H8 at s8 hll W8 hP8 ⊢
      refine ⟨ll,(List.range (2 * E)).map fun (i:Nat)=>(i:Int),.int c,fun n=>mix c (600 + n),#[rawInt ln,rawInt 93,cr],rfl,SqL.of hll,by rw [List.length_map,List.length_range];omega,rfl,hP8,trivial,?_,fun n hn more=>?_,fun cr2 sp ms hpm fsp nsp=>?_⟩
      · show (if (ln == _ && (93:Int) == 69)=true then some cr else none)=none
        rw [if_neg (by simp)]
      · exact ⟨_,rfl,_,rfl,_,_,rfl,rfl,c,600 + n,rfl,rfl,rfl⟩
      · have h0:∀ x∈ms,0≤x:=fun x hx=>by
          obtain ⟨j,_,rfl⟩:=List.mem_map.mp (hpm.mem_iff.mp hx)
          exact Int.natCast_nonneg j
        have ems:=nat_list h0
        have hps:(ms.map Int.toNat).Perm (List.range (2 * E)):=by
          have:=hpm.map Int.toNat
          rw [List.map_map] at this
          have e:(List.range (2 * E)).map (Int.toNat ∘ fun (i:Nat)=>(i:Int))=List.range (2 * E):=by
            rw [show (Int.toNat ∘ fun (i:Nat)=>(i:Int))=id from funext fun i=>Int.toNat_natCast i,List.map_id]
          rw [e] at this
          exact this
        generalize ms.map Int.toNat=ss at ems hps
        have eml:ms.map V.int=ss.map fun (s:Nat)=>V.int s:=by rw [ems,List.map_map];rfl
        have gsp:G2 sp=none:=W8.sg.free fsp
        obtain ⟨m1,m2,m3,m4⟩:=W8.new fsp
        rw [eml]
        refine ⟨sp,ss,rfl,((W8.off gJ nPv nPf nPa).same (Same.upd0 (by rw [upd_ne nsp];exact fsp))).grow upd_same m1 m2 m3,gsp,hps.nodup_iff.mpr List.nodup_range,fun s hs=>List.mem_range.mp (hps.mem_iff.mp hs),by rw [hps.length_eq,List.length_range]⟩
    clear WJ hPJ hp7 gJ gP nPa
    rintro σ H8 ⟨sp,ss,rfl,W8,gsp,snd,slt,slen⟩
    have sG:=Same.upd0 (o:=.lst (ss.map fun (s:Nat)=>V.int s)) gsp
    have gp3:=sG _ _ gJp
    have gK3:=gJK.same sG
    have gkl3:=sG _ _ gJkl
    have gsp3:upd G2 sp (.lst (ss.map fun (s:Nat)=>V.int s)) sp=some (.lst (ss.map fun (s:Nat)=>V.int s)):=upd_same
    have gkeep3:keep2 T.P_l_slots T.P_l_sound H (upd G2 sp (.lst (ss.map fun (s:Nat)=>V.int s))):=fun b o e n1 n2=>sG _ _ (gJkeep b o e n1 n2)
    generalize upd G2 sp (.lst (ss.map fun (s:Nat)=>V.int s))=G3 at W8 gp3 gK3 gkl3 gsp3 gkeep3
    clear sG gsp gJp gJK gJkl gJkeep
    have rcMid:∀ {R:List (List Int)} {j:Nat} {r:List Int},10 + F≤j→j < 10 + F + E→(∀ f < F,RcOk ks ls (10 + F + E) (10 + F + E + B) fr5 R f)→∀ f < F,RcOk ks ls (10 + F + E) (10 + F + E + B) fr5 (R.set j r) f:=fun h1 h2 h f hf=>(h f hf).stay (List.getElem?_set_ne (by omega)) (fun m hm _=>List.getElem?_set_ne (by omega)) fun _ z=>z
    refine ⟨fun σ H'=>∃ x14 R,σ=[some (.ref p),some (.int c),some (.int ((10 + F + E + B:Nat):Int)),some (.int ((10 + F + E:Nat):Int)),some (.ref v),y5,some (.ref kl),some (.ref lk),some (.ref fl),some (.ref hd),some (.ref bl),y11,y12,some (.ref sp),x14,none]∧W G3 H' v fl as7 R fr5 (10 + F + E + B) (10 + F + E)∧(∀ f < F,RcOk ks ls (10 + F + E) (10 + F + E + B) fr5 R f)∧∀ s < 2 * E,slq R F s 0=0,?_,?_⟩
    · refine ⟨_,rfl,p,T.C_Layout,dx,_,_,rfl,W8.sg _ _ gp3,T.cl_Layout,T.n_Layout_slots,lay_slots _ _ _,_,_,rfl,rfl,.inl ⟨by decide,by decide⟩,2 * (E:Int),rfl,by omega,by omega,?_⟩
      have en2:(2 * (E:Int)).toNat=2 * E:=by omega
      rw [en2]
      refine for_range (lo:=0) (n:=2 * E) (fun i σ H'=>∃ x14 R,σ=[some (.ref p),some (.int c),some (.int ((10 + F + E + B:Nat):Int)),some (.int ((10 + F + E:Nat):Int)),some (.ref v),y5,some (.ref kl),some (.ref lk),some (.ref fl),some (.ref hd),some (.ref bl),y11,y12,some (.ref sp),x14,none]∧W G3 H' v fl as7 R fr5 (10 + F + E + B) (10 + F + E)∧(∀ f < F,RcOk ks ls (10 + F + E) (10 + F + E + B) fr5 R f)∧∀ s < i,slq R F s 0=0)
        ⟨_,R7,rfl,W8,hRc7,fun s h=>absurd h (Nat.not_lt_zero _)⟩ ?_ ?_
      · rintro i σ H9 hi ⟨x14,R,rfl,W9,hRc,hz⟩
        have c0:(0:Int) + (i:Int)=(i:Int):=by omega
        rw [c0]
        have hr2:10 + F + i / 2 < R.length:=by rw [W9.len];omega
        have hra:10 + F + i / 2 < as7.length:=by rw [W9.vol.len];exact hr2
        have er:=List.getElem?_eq_getElem hr2
        have ea:=List.getElem?_eq_getElem hra
        have l8:=W9.r8 _ (List.getElem_mem hr2)
        generalize R[10 + F + i / 2]=r at er l8
        generalize as7[10 + F + i / 2]=a at ea
        have d1:(10:Int) + (F:Int) + (i:Int) / 2=((10 + F + i / 2:Nat):Int):=by omega
        have d2:(i:Int) % 2 * 4=((i % 2 * 4 + 0:Nat):Int):=by omega
        refine ⟨_,rfl,_,rfl,p,T.C_Layout,dx,_,_,rfl,W9.sg _ _ gp3,T.cl_Layout,T.n_Layout_files,lay_files _ _ _,_,_,rfl,rfl,_,rfl,_,_,rfl,rfl,⟨by decide,by decide⟩,_,_,rfl,rfl,v,_,_,.ref a,rfl,rfl,SqL.of W9.vol.top,?_,_,rfl,_,_,rfl,rfl,(by show (0:Int) < 2;decide),_,_,rfl,rfl,.inr ⟨by decide,by decide⟩,a,_,_,i % 2 * 4 + 0,rfl,rfl,W9.vol.row _ _ _ ea er,?_,?_⟩
        · show atI (as7.map V.ref) (10 + (F:Int) + (i:Int) / 2)=_
          rw [d1]
          exact atI_nat (by rw [List.getElem?_map,ea];rfl)
        · show ixN _ ((i:Int) % 2 * 4)=_
          rw [d2]
          exact ixN_nat (by rw [List.length_map,l8];omega)
        have W10:=W9.wr (r':=r.set (i % 2 * 4 + 0) 0) ea er (by rw [List.length_set];exact l8)
        rw [List.map_set] at W10
        refine ⟨_,_,rfl,W10,rcMid (by omega) (by omega) hRc,fun s hs=>?_⟩
        rw [slq_put er l8 (by decide) (by decide)]
        by_cases hsi:s=i
        · rw [if_pos ⟨hsi,rfl⟩]
        · rw [if_neg (fun z=>hsi z.1)]
          exact hz s (by omega)
      rintro σ H9 h
      exact h
    clear W8 hRc7 R7
    rintro σ H9 ⟨x14,R9,rfl,W9,hRc9,hz9⟩
    have hKl:=gK3.len
    refine ⟨fun σ H'=>∃ x14 x15 R,σ=[some (.ref p),some (.int c),some (.int ((10 + F + E + B:Nat):Int)),some (.int ((10 + F + E:Nat):Int)),some (.ref v),y5,some (.ref kl),some (.ref lk),some (.ref fl),some (.ref hd),some (.ref bl),y11,y12,some (.ref sp),x14,x15]∧W G3 H' v fl as7 R fr5 (10 + F + E + B) (10 + F + E)∧(∀ f < F,RcOk ks ls (10 + F + E) (10 + F + E + B) fr5 R f)∧(∀ (j s:Nat) (l:Lk),ss[j]?=some s→ls[j]?=some l→∀ q < 4,slq R F s q=(numL l).getD q 0)∧∀ s < 2 * E,s∉ss.take ls.length→slq R F s 0=0,?_,?_⟩
    · refine ⟨_,rfl,_,rfl,sp,lk,rfl,⟨_,SqL.of (W9.sg _ _ gsp3)⟩,⟨_,SqL.of (gK3.same W9.sg).top⟩,for_zip (K:=K) (a:=sp) (b:=lk) (xs:=ss.map fun (s:Nat)=>V.int s) (ys:=ts.map V.ref) (fun i σ H'=>∃ x14 x15 R,σ=[some (.ref p),some (.int c),some (.int ((10 + F + E + B:Nat):Int)),some (.int ((10 + F + E:Nat):Int)),some (.ref v),y5,some (.ref kl),some (.ref lk),some (.ref fl),some (.ref hd),some (.ref bl),y11,y12,some (.ref sp),x14,x15]∧W G3 H' v fl as7 R fr5 (10 + F + E + B) (10 + F + E)∧(∀ f < F,RcOk ks ls (10 + F + E) (10 + F + E + B) fr5 R f)∧(∀ (j s:Nat) (l:Lk),j < i→ss[j]?=some s→ls[j]?=some l→∀ q < 4,slq R F s q=(numL l).getD q 0)∧∀ s < 2 * E,s∉ss.take i→slq R F s 0=0)
        ⟨_,_,R9,rfl,W9,hRc9,fun j s l h=>absurd h (Nat.not_lt_zero _),fun s hs _=>hz9 s hs⟩ (fun i σ H' _ ⟨_,_,_,_,w,_⟩=>⟨SqL.of (w.sg _ _ gsp3),SqL.of (gK3.same w.sg).top⟩) ?_ ?_⟩
      · rintro i x y σ H10 tp hx hy ⟨z14,z15,R,rfl,W10,hRc,hA,hB⟩ ftp
        rw [List.getElem?_map] at hx hy
        cases es:ss[i]? with
        | none=>rw [es] at hx;cases hx
        | some s =>
          cases et:ts[i]? with
          | none=>rw [et] at hy;cases hy
          | some t =>
            rw [es] at hx
            rw [et] at hy
            cases hx
            cases hy
            have hsm:=List.mem_of_getElem? es
            have hs2:=slt s hsm
            have hil:i < ls.length:=by rw [← hKl];exact (List.getElem?_eq_some_iff.mp et).1
            have el:=List.getElem?_eq_getElem hil
            have ht0:=gK3.item i t _ et el
            generalize ls[i]=l at el ht0
            have W11:=W10.same (Same.upd0 (o:=.tup [.int (s:Int),.ref t]) ftp)
            have htp:upd H10 tp (.tup [.int (s:Int),.ref t]) tp=some (.tup [.int (s:Int),.ref t]):=upd_same
            refine ⟨tp,_,rfl,SqT.of htp,rfl,_,_,rfl,_,_,rfl,rfl,?_⟩
            have ht:=W11.sg _ _ ht0
            generalize upd H10 tp (.tup [.int (s:Int),.ref t])=H11 at W11 ht
            refine ⟨_,rfl,t,_,0,.int l.1,rfl,rfl,SqT.of ht,atI_nat (j:=0) rfl,_,rfl,t,_,1,.int l.2.1,rfl,rfl,SqT.of ht,atI_nat (j:=1) rfl,_,rfl,t,_,2,.int l.2.2,rfl,rfl,SqT.of ht,atI_nat (j:=2) rfl,(by show 4≤sizeLine;decide),fun q fq=>?_⟩
            obtain ⟨g1,g2,g3,g4⟩:=W11.new fq
            have W12:=W11.same (Same.upd0 (o:=.lst [.int 1,.int l.1,.int l.2.1,.int l.2.2]) fq)
            have hq:upd H11 q (.lst [.int 1,.int l.1,.int l.2.1,.int l.2.2]) q=some (.lst [.int 1,.int l.1,.int l.2.1,.int l.2.2]):=upd_same
            have hr2:10 + F + s / 2 < R.length:=by rw [W10.len];omega
            have hra:10 + F + s / 2 < as7.length:=by rw [W10.vol.len];exact hr2
            have er:=List.getElem?_eq_getElem hr2
            have ea:=List.getElem?_eq_getElem hra
            have l8:=W10.r8 _ (List.getElem_mem hr2)
            generalize R[10 + F + s / 2]=r at er l8
            generalize as7[10 + F + s / 2]=a at ea
            have d1:(10:Int) + (F:Int) + (s:Int) / 2=((10 + F + s / 2:Nat):Int):=by omega
            have naq:a≠q:=fun z=>g3 (by rw [← z];exact List.mem_of_getElem? ea)
            refine ⟨_,rfl,_,rfl,p,T.C_Layout,dx,_,_,rfl,W12.sg _ _ gp3,T.cl_Layout,T.n_Layout_files,lay_files _ _ _,_,_,rfl,rfl,_,rfl,_,_,rfl,rfl,⟨by decide,by decide⟩,_,_,rfl,rfl,v,_,_,.ref a,rfl,rfl,SqL.of W12.vol.top,?_,_,rfl,_,_,rfl,rfl,(by show (0:Int) < 2;decide),_,_,rfl,rfl,.inr ⟨by decide,by decide⟩,_,rfl,_,rfl,_,_,rfl,rfl,(by show (0:Int) < 2;decide),_,_,rfl,rfl,.inr ⟨by decide,by decide⟩,_,_,rfl,rfl,_,rfl,a,q,_,_,rfl,rfl,W12.vol.row _ _ _ ea er,SqL.of hq,naq,?_,?_⟩
            · show atI (as7.map V.ref) (10 + (F:Int) + (s:Int) / 2)=_
              rw [d1]
              exact atI_nat (by rw [List.getElem?_map,ea];rfl)
            · rw [List.length_map,l8];show 8 + 4≤sizeLine;decide
            have W13:=W12.wr (r':=putS r s (numL l)) ea er (putS_len l8 rfl)
            rw [← cutS l8] at W13
            refine ⟨_,_,R.set (10 + F + s / 2) (putS r s (numL l)),rfl,W13,rcMid (by omega) (by omega) hRc,fun j s' l' hj es' el' q' hq'=>?_,fun s' hs' hn=>?_⟩
            · rw [slq_putS er l8 rfl hq']
              rcases Nat.lt_succ_iff_lt_or_eq.mp hj with h | h
              · have ne:s'≠s:=fun z=>by rw [z] at es';have:=nodup_at snd es' es;omega
                rw [if_neg ne]
                exact hA j s' l' h es' el' q' hq'
              · subst h
                rw [es] at es'
                cases es'
                rw [el] at el'
                cases el'
                rw [if_pos rfl]
            · rw [take_snoc es,List.mem_append,not_or] at hn
              have ne:s'≠s:=fun z=>hn.2 (by rw [z];simp)
              rw [slq_putS er l8 rfl (by decide),if_neg ne]
              exact hB s' hs' hn.1
      rintro σ H10 ⟨z14,z15,R,rfl,W10,hRc,hA,hB⟩
      have emin:min (ss.map fun (s:Nat)=>V.int s).length (ts.map V.ref).length=ls.length:=by rw [List.length_map,List.length_map,slen,hKl];omega
      rw [emin] at hA hB
      exact ⟨z14,z15,R,rfl,W10,hRc,fun j s l a b=>hA j s l (List.getElem?_eq_some_iff.mp b).1 a b,hB⟩
    clear W9 hRc9 hz9
    rintro σ H10 ⟨z14,z15,R,rfl,W10,hRc,hA,hB⟩
    refine ⟨_,rfl,_,rfl,_,rfl,(by show 3≤sizeLine;decide),fun t ft=>?_⟩
    have st:=Same.upd0 (o:=.tup [.ref v,.ref kl,.ref lk]) ft
    have ztl:((ss.zip ls).map (·.1))=ss.take ls.length:=zip_fst ss ls
    have zts:((ss.zip ls).map (·.2))=ls:=zip_snd (by rw [slen];exact hle)
    refine k t v kl lk ks ts ls as7 R (ss.zip ls) _ (fun b o e n1 n2=>(W10.sg.trans st) _ _ (gkeep3 b o e n1 n2)) upd_same ?_
    refine ⟨⟨dx,st _ _ (W10.sg _ _ gp3)⟩,st _ _ (W10.sg _ _ gkl3),hKS,(gK3.same W10.sg).same st,hLO,hle,W10.vol.same st,W10.len,W10.r8,⟨fr5,hRc⟩,⟨?_,?_,?_,?_⟩,zts⟩
    · rw [ztl];exact (List.take_sublist _ _).nodup snd
    · intro x hx
      have:x.1∈(ss.zip ls).map (·.1):=List.mem_map_of_mem hx
      rw [ztl] at this
      exact slt _ (List.mem_of_mem_take this)
    · intro x hx j hj
      obtain ⟨i,e⟩:=List.getElem?_of_mem hx
      rw [List.getElem?_zip_eq_some] at e
      exact hA i _ _ e.1 e.2 j hj
    · intro s hs hn
      rw [ztl] at hn
      exact hB s hs hn
end
end K62
namespace K62
open PySem L2 PyProof.Rows PySem.W
section
variable {P:Program}{w:World}{K:PySem.W.Frag}{mg:Str→Option Value}{base:Heap}
inductive Ways (ls:List Lk):Int→List Int→Int→Prop
  | nil {f:Int}:Ways ls f [] f
  | cons {l:Lk} {ns:List Int} {f:Int}:l∈ls→Ways ls l.2.2 ns f→Ways ls l.1 (l.2.1 :: ns) f
def PathTo (ks:List Int) (F:Nat) (ls:List Lk) (f:Int) (ns:List Int):Prop :=
  Ways ls 0 ns f∨∃ (st:Int) (nm:List Int),ns=0 :: st :: nm∧Ways ls st nm f∧1≤st∧st < (F:Int)∧(∀ l∈ls,l.2.2≠st)∧(st=f∨kindOf ks st≠0)
def spPath:Sp:=fun vs H Q _=>∃ (lk:Addr) (ts:List Addr) (ls:List Lk) (ks:List Int) (F:Nat) (f c:Int),vs=[.ref lk,.int f,.int c]∧Lks H lk ts ls∧ls.length≤40∧LO ks F ls∧0≤f∧f < (F:Int)∧F≤12∧KS ks F ∧
  ∀ (t:Addr) (ns:List Int) (H':Hp),Same H H'→H' t=some (.tup (ns.map V.int))→ns.length≤40→PathTo ks F ls f ns→Q (.ref t) H'
theorem pick_at {us:List Addr}(h:us≠[]) (c:Int):∃ x∈us,(0:Int) < ((us.map V.ref).length:Int)∧atI (us.map V.ref) (c % ((us.map V.ref).length:Int))=some (.ref x):=by
  have lp:0 < us.length:=List.length_pos_iff.mpr h
  have a0:=Int.emod_nonneg c (b:=((us.map V.ref).length:Int)) (by rw [List.length_map];omega)
  have a1:=Int.emod_lt_of_pos c (b:=((us.map V.ref).length:Int)) (by rw [List.length_map];omega)
  obtain ⟨j,ej⟩:∃ j:Nat,c % ((us.map V.ref).length:Int)=(j:Int):=⟨(c % ((us.map V.ref).length:Int)).toNat,by omega⟩
  have hj:j < us.length:=by rw [List.length_map] at a1 ej;omega
  exact ⟨us[j],List.getElem_mem hj,by rw [List.length_map];omega,by rw [ej];exact atI_nat (by rw [List.getElem?_map,List.getElem?_eq_getElem hj];rfl)⟩
theorem ok_path (T:Tx K mg):FnOk P w K mg base CX0 1 T.f_l_path T.fd_l_path ["_law_slots_here","_law_f","_law_cell_here"] spPath:=by
  refine T.F_l_path.ok sc_l_path (fun vs H Q E h=>?_) (fun cdv A outer s H vs Q E hr h=>?_)
  · obtain ⟨lk,ts,ls,ks,F,f,c,rfl,_⟩:=h
    rfl
  · obtain ⟨lk,ts,ls,ks,F,f,c,rfl,hK,l40,hL,f0,f1,F12,hKS,k⟩:=h
    have hu:_ + 60 < cLine:=Nat.lt_of_le_of_lt (Nat.add_le_add_left (by decide:60≤64) _) hr.units
    have lt:ts.length=ls.length:=hK.len
    refine ⟨_,pss_cons (ps_set (i:=3) sc_l_path.nd rfl (Or.inl rfl) (pe_lst pa_nil))
      (pss_cons (ps_for PassesOwn.never rfl (pi_range1 rfl T.z_range (pa_cons pe_int pa_nil)) (pg_name (i:=4) sc_l_path.nd rfl (Or.inl rfl))
        (pss_cons (ps_setComp (i:=5) (N':=["_law_one","_law_f"]) (cap:=[none,some 1]) sc_l_path.nd rfl rfl rfl (compOk_of (by kernel_rfl)) (pi_list (pv 0))
          (fun cells C s₀ H₀ fp pins=>⟨pg_name (i:=0) (ndp2 (by decide +kernel)) rfl (Or.inl rfl) (.inr rfl),pifs_one (pt_cmpR op_eq (pe_ix (ix_tupK (K:=K) rfl) (pv 0) pe_int (fun _ _=>rfl)) (pv 1) (nomark _)),pv 0⟩))
        (pss_cons (ps_if (pt_cmpR op_eq (pv 1) pe_int (nomark _)) (pss_one (ps_ret (pe_callTy call_tuple_of rfl T.z_tuple (by kernel_rfl) (pa_cons (pv 3) pa_nil)))) pss_nil)
        (pss_cons (ps_if (pt_cmpR (op_eqT hu) (pv 5) (pe_lst pa_nil) (nomark _)) (pss_one (ps_ret (pe_op op_catT (pe_tup (pa_cons pe_int (pa_cons (pv 1) pa_nil))) (pe_callTy call_tuple_of rfl T.z_tuple (by kernel_rfl) (pa_cons (pv 3) pa_nil))))) pss_nil)
        (pss_cons (ps_set (i:=6) sc_l_path.nd rfl (Or.inl rfl) (pe_ix ix_list (pv 5) (pe_op op_mod (pv 2) (pe_callB call_len_seq rfl T.z_len PySem.boot_len (pa_cons (pv 5) pa_nil))) (fun _ _=>rfl)))
        (pss_cons (ps_set (i:=3) sc_l_path.nd rfl (Or.inl rfl) (pe_op op_cat (pe_lst (pa_cons (pe_ix ix_tup (pv 6) pe_int (fun _ _=>rfl)) pa_nil)) (pv 3)))
        (pss_one (ps_set (i:=1) sc_l_path.nd rfl (Or.inr rfl) (pe_ix ix_tup (pv 6) pe_int (fun _ _=>rfl))))))))))
      (pss_one (ps_ret (pe_tup pa_nil)))),?_⟩
    obtain ⟨rk,rk1,rk2⟩:=hL.rk
    refine ⟨(by show 0≤sizeLine;decide),fun n0 fn0=>?_⟩
    refine ⟨14,rfl,by decide,by decide,?_⟩
    refine for_range (lo:=0) (n:=14) (fun i σ H'=>∃ (nl:Addr) (cur:Int) (nm:List Int) (x4 x5 x6:Option V),σ=[some (.ref lk),some (.int cur),some (.int c),some (.ref nl),x4,x5,x6]∧Same H H'∧H' nl=some (.lst (nm.map V.int))∧nm.length≤i∧Ways ls cur nm f∧rk cur + i≤13∧0≤cur∧cur < (F:Int)∧(cur=f∨kindOf ks cur≠0))
      ⟨n0,f,[],none,none,none,rfl,Same.upd0 fn0,upd_same,Nat.le_refl _,.nil,rk2 f,f0,f1,.inl rfl⟩ ?_ ?_
    · rintro i σ H1 hi ⟨nl,cur,nm,x4,x5,x6,rfl,s1,hnl,lnm,hw,hrk,c0,c1,ck⟩
      refine ⟨_,rfl,lk,rfl,⟨_,SqL.of (hK.same s1).top⟩,?_⟩
      have hK1:=hK.same s1
      refine comp_list (cap:=[none,some 1]) (σ:=[some (.ref lk),some (.int cur),some (.int c),some (.ref nl),some (.int (0 + (i:Int))),x5,x6]) (K:=K) (a:=lk) (xs:=ts.map V.ref) (small_len (by rw [List.length_map];omega)) (fun j ys σ H'=>j≤ts.length∧(∃ us:List Addr,ys=us.map V.ref∧us.length≤j∧(us=[]↔∀ l∈ls.take j,l.2.2≠cur)∧∀ u∈us,∃ l∈ls,l.2.2=cur∧H1 u=some (.tup [.int l.1,.int l.2.1,.int l.2.2]))∧(∃ s0,σ=[s0,some (.int cur)])∧H'=H1)
        (by exact ⟨Nat.zero_le _,⟨[],rfl,Nat.le_refl _,by simp,fun _ h=>(nomatch h)⟩,⟨none,rfl⟩,rfl⟩) (fun j ys σ H' ⟨h1,⟨us,h2,h3,_⟩,_,h4⟩=>⟨by rw [List.length_map];exact h1,by rw [h2,List.length_map];exact h3,by rw [h4];exact SqL.of hK1.top⟩) ?_ ?_
      · rintro j x ys σ H' hx ⟨h1,⟨us,rfl,h3,h5,h6⟩,⟨s0,rfl⟩,rfl⟩
        rw [List.getElem?_map] at hx
        cases et:ts[j]? with
        | none=>rw [et] at hx;cases hx
        | some t =>
          rw [et] at hx
          cases hx
          have hj:j < ts.length:=(List.getElem?_eq_some_iff.mp et).1
          have hjl:j < ls.length:=by omega
          have el:ls[j]?=some ls[j]:=List.getElem?_eq_getElem hjl
          have hit:=hK1.item j t _ et el
          generalize ls[j]=l at el hit
          have tk:=take_snoc el
          refine ⟨_,rfl,t,_,2,.int l.2.2,rfl,rfl,SqT.of hit,atI_nat (j:=2) rfl,_,rfl,rfl,_,rfl,?_⟩
          by_cases h:l.2.2=cur
          · refine iteD (by rw [h]) ⟨_,rfl,hj,⟨us ++ [t],by simp,by simp;omega,?_,fun u hu=>?_⟩,⟨_,rfl⟩,rfl⟩
            · rw [tk]
              exact ⟨fun z=>absurd z (by simp),fun z=>absurd h (z l (by simp))⟩
            · rcases List.mem_append.mp hu with h' | h'
              · exact h6 u h'
              · rw [List.mem_singleton.mp h'];exact ⟨l,List.mem_of_getElem? el,h,hit⟩
          · refine iteDF (int_ne h) ⟨hj,⟨us,rfl,by omega,?_,h6⟩,⟨_,rfl⟩,rfl⟩
            rw [tk,h5]
            exact ⟨fun z x hx=>(List.mem_append.mp hx).elim (z x) fun e=>by rw [List.mem_singleton.mp e];exact h,fun z x hx=>z x (List.mem_append_left _ hx)⟩
      rintro ys σ H' ⟨h1,⟨us,rfl,h3,h5,h6⟩,⟨s0,rfl⟩,eH⟩ D hD
      rw [eH] at hD ⊢
      have el:(ts.map V.ref).length=ls.length:=by rw [List.length_map,lt]
      rw [el,List.take_length] at h5
      have s2:=Same.upd0 (o:=.lst (us.map V.ref)) hD
      have hDl:upd H1 D (.lst (us.map V.ref)) D=some (.lst (us.map V.ref)):=upd_same
      have hnl2:=s2 _ _ hnl
      generalize upd H1 D (.lst (us.map V.ref))=H2 at s2 hDl hnl2 ⊢
      have s12:=s1.trans s2
      refine ⟨_,rfl,rfl,_,rfl,?_⟩
      by_cases hc0:cur=0
      · refine iteD (by rw [hc0]) ⟨_,rfl,nl,_,rfl,.inl ⟨SqL.of hnl2,fun t ft=>k t nm _ (s12.upd ft) upd_same (by omega) (.inl ?_)⟩⟩
        rw [hc0] at hw
        exact hw
      refine iteDF (int_ne hc0) ?_
      refine ⟨_,rfl,(by show 0≤sizeLine;decide),fun q fq=>?_⟩
      have s3:=Same.upd0 (o:=.lst []) fq
      have hDl3:=s3 _ _ hDl
      have hnl3:=s3 _ _ hnl2
      have hq:upd H2 q (.lst []) q=some (.lst (([]:List Int).map V.int)):=upd_same
      generalize upd H2 q (.lst [])=H3 at s3 hDl3 hnl3 hq ⊢
      have s13:=s12.trans s3
      have h63:∀ u∈us,∃ l∈ls,l.2.2=cur∧H3 u=some (.tup [.int l.1,.int l.2.1,.int l.2.2]):=fun u hu=>let ⟨l,a,b,e⟩:=h6 u hu;⟨l,a,b,s3 _ _ (s2 _ _ e)⟩
      obtain ⟨trs,lt2,hol⟩:=holds_some (K:=K) hDl3 fun u hu=>let ⟨l,_,_,e⟩:=h63 u hu;⟨_,_,_,e⟩
      refine ⟨D,q,2,1,.lst trs,trI [],rfl,rfl,by decide,by decide,hol,holds_ints (SqL.of hq),(fun _ h=>nomatch h),(fun _ h=>nomatch h),_,rfl,?_⟩
      by_cases hus:us=[]
      · have et:trs=[]:=List.eq_nil_of_length_eq_zero (by rw [lt2,hus];rfl)
        refine iteB (by rw [et];simp [L2.eqT,trI,eqTs]) ?_
        refine ⟨_,rfl,(by show 2≤sizeLine;decide),fun a fa=>?_⟩
        have s4:=Same.upd0 (o:=.tup [.int 0,.int cur]) fa
        have ha:upd H3 a (.tup [.int 0,.int cur]) a=some (.tup [.int 0,.int cur]):=upd_same
        have hnl4:=s4 _ _ hnl3
        generalize upd H3 a (.tup [.int 0,.int cur])=H4 at s4 ha hnl4 ⊢
        refine ⟨_,rfl,nl,_,rfl,.inl ⟨SqL.of hnl4,fun b fb=>?_⟩⟩
        have s5:=Same.upd0 (o:=.tup (nm.map V.int)) fb
        have hp:PathTo ks F ls f (0 :: cur :: nm):=.inr ⟨cur,nm,rfl,hw,by omega,c1,h5.mp hus,ck⟩
        refine ⟨a,b,_,_,rfl,rfl,SqT.of (s5 _ _ ha),SqT.of upd_same,(by simp),?_,fun en=>?_,fun _ t ft=>?_⟩
        · rw [List.length_map];show 2 + nm.length≤sizeLine;exact Nat.le_trans (by omega) (by decide:100≤sizeLine)
        · have:nm=[]:=List.map_eq_nil_iff.mp en
          subst this
          exact k a [0,cur] _ ((s13.trans s4).trans s5) (s5 _ _ ha) (by simp) hp
        · exact k t (0 :: cur :: nm) _ (((s13.trans s4).trans s5).upd ft) upd_same (by simp;omega) hp
      have et:trs≠[]:=fun z=>hus (List.eq_nil_of_length_eq_zero (by rw [← lt2,z];rfl))
      refine iteBF (by
        cases trs with
        | nil=>exact absurd rfl et
        | cons a b=>simp [L2.eqT,trI,eqTs]) ?_
      obtain ⟨u,hu,hpos,hat⟩:=pick_at hus c
      obtain ⟨l,hl,hlc,hlu⟩:=h63 u hu
      refine ⟨_,rfl,_,rfl,_,rfl,D,_,rfl,.inl (SqL.of hDl3),_,_,rfl,rfl,hpos,D,_,_,.ref u,rfl,rfl,SqL.of hDl3,hat,?_⟩
      refine ⟨_,rfl,u,_,1,.int l.2.1,rfl,rfl,SqT.of hlu,atI_nat (j:=1) rfl,(by show 1≤sizeLine;decide),fun o fo=>?_⟩
      have s4:=Same.upd0 (o:=.lst [.int l.2.1]) fo
      refine ⟨_,rfl,o,nl,_,_,rfl,rfl,upd_same,s4 _ _ hnl3,?_,fun z fz=>?_⟩
      · rw [List.length_map];show 1 + nm.length≤sizeLine;exact Nat.le_trans (by omega) (by decide:100≤sizeLine)
      have s5:=s4.upd (o:=.lst ([.int l.2.1] ++ nm.map V.int)) fz
      refine ⟨_,rfl,u,_,0,.int l.1,rfl,rfl,SqT.of (s5 _ _ hlu),atI_nat (j:=0) rfl,?_⟩
      have r:=rk1 l hl
      rw [hlc] at r
      have hfo:=hL.fo l hl
      refine ⟨z,l.1,l.2.1 :: nm,_,_,_,rfl,s13.trans s5,upd_same,by simp;omega,.cons hl (by rw [hlc];exact hw),by omega,?_,?_,?_⟩
      · rcases hfo with e | e
        · rw [e];exact Int.le_refl _
        · omega
      · rcases hfo with e | e
        · rw [e];omega
        · omega
      · rcases hfo with e | ⟨_,_,e⟩
        · right
          rw [e]
          have:=hKS.top
          unfold kindOf
          rw [List.getD_eq_getElem?_getD]
          show (ks[0]?).getD 0≠0
          rw [this]
          decide
        · right;rw [e];decide
    rintro σ H1 ⟨nl,cur,nm,x4,x5,x6,rfl,s1,hnl,lnm,hw,hrk,_⟩
    exact absurd hrk (by omega)
end
end K62
namespace K62
open PySem L2 PyProof.Rows PySem.W
section
variable {P:Program}{w:World}{K:PySem.W.Frag}{mg:Str→Option Value}{base:Heap}
section
variable {rows:List (List Int)}{F E:Nat}{tl:List Tl}{ks:List Int}{ls:List Lk}
theorem TV.mem (h:TV rows F E tl) (s:Nat):s∈usl rows F (2 * E)↔s∈tl.map (·.1):=by
  unfold usl
  rw [List.mem_filter,List.mem_range]
  constructor
  · rintro ⟨h1,h2⟩
    by_cases hs:s∈tl.map (·.1)
    · exact hs
    · rw [h.no s h1 hs] at h2
      exact absurd h2 (by decide)
  · intro hs
    obtain ⟨x,hx,rfl⟩:=List.mem_map.mp hs
    exact ⟨h.lt x hx,decide_eq_true (h.is x hx 0 (by decide))⟩
theorem TV.at (h:TV rows F E tl) {x:Tl}(hx:x∈tl):slq rows F x.1 1=x.2.1∧slq rows F x.1 2=x.2.2.1∧slq rows F x.1 3=x.2.2.2:=⟨h.is x hx 1 (by decide),h.is x hx 2 (by decide),h.is x hx 3 (by decide)⟩
theorem lk_uq {ls:List Lk}(h:(ls.map pr).Nodup) {x y:Lk}(hx:x∈ls) (hy:y∈ls) (e:pr x=pr y):x=y:=by
  induction ls with
  | nil=>cases hx
  | cons z r ih =>
    rw [List.map_cons,List.nodup_cons] at h
    rcases List.mem_cons.mp hx with e1 | h1
    · rcases List.mem_cons.mp hy with e2 | h2
      · rw [e1,e2]
      · exact absurd (List.mem_map.mpr ⟨y,h2,by rw [← e,e1]⟩) h.1
    · rcases List.mem_cons.mp hy with e2 | h2
      · exact absurd (List.mem_map.mpr ⟨x,h1,by rw [e,e2]⟩) h.1
      · exact ih h.2 h1 h2
structure SF (rows:List (List Int)) (F E:Nat) (tl:List Tl) (ks:List Int) (ls:List Lk):Prop where
  tv:TV rows F E tl
  htl:tl.map (·.2)=ls
  hlo:LO ks F ls
  hks:KS ks F
  rc:∃ lo n fr,∀ f < F,RcOk ks ls lo n fr rows f
theorem SF.inl (h:SF rows F E tl ks ls) {x:Tl}(hx:x∈tl):x.2∈ls:=by
  rw [← h.htl]
  exact List.mem_map_of_mem hx
theorem SF.step (h:SF rows F E tl ks ls) {l:Lk}(hl:l∈ls):∃ s,sof rows F E l.1 l.2.1=some s∧slq rows F s 3=l.2.2:=by
  have hl':=hl
  rw [← h.htl] at hl'
  obtain ⟨x,hx,rfl⟩:=List.mem_map.mp hl'
  obtain ⟨a1,a2,a3⟩:=h.tv.at hx
  cases e:sof rows F E x.2.1 x.2.2.1 with
  | none =>
    unfold sof at e
    have:=List.find?_eq_none.mp e x.1 ((h.tv.mem _).mpr (List.mem_map.mpr ⟨x,hx,rfl⟩))
    rw [a1,a2] at this
    simp at this
  | some s =>
    refine ⟨s,rfl,?_⟩
    unfold sof at e
    obtain ⟨y,hy,rfl⟩:=List.mem_map.mp ((h.tv.mem s).mp (List.mem_of_find?_eq_some e))
    obtain ⟨b1,b2,b3⟩:=h.tv.at hy
    have p:=List.find?_some e
    rw [b1,b2,Bool.and_eq_true,decide_eq_true_eq,decide_eq_true_eq] at p
    have:=lk_uq h.hlo.nd (h.inl hy) (h.inl hx) (by unfold pr;rw [p.1,p.2])
    rw [b3,this]
theorem SF.nostep (h:SF rows F E tl ks ls) {fo nm:Int}(hn:∀ l∈ls,l.1≠fo):sof rows F E fo nm=none:=by
  unfold sof
  rw [List.find?_eq_none]
  intro s hs hc
  obtain ⟨x,hx,rfl⟩:=List.mem_map.mp ((h.tv.mem s).mp hs)
  obtain ⟨a1,a2,_⟩:=h.tv.at hx
  rw [a1,a2,Bool.and_eq_true,decide_eq_true_eq,decide_eq_true_eq] at hc
  exact hn _ (h.inl hx) hc.1
theorem SF.way (h:SF rows F E tl ks ls) {a f:Int}{ns:List Int}(w:Ways ls a ns f) (ms:List Int):rb rows F E a (ns ++ ms)=rb rows F E f ms:=by
  induction w with
  | nil=>rfl
  | @cons l ns f hl w ih =>
    obtain ⟨s,e1,e2⟩:=h.step hl
    show (match sof rows F E l.1 l.2.1 with | none=>none | some s=>rb rows F E (slq rows F s 3) (ns ++ ms))=_
    rw [e1]
    show rb rows F E (slq rows F s 3) (ns ++ ms)=_
    rw [e2]
    exact ih
theorem Ways.pos {a f:Int}{ns:List Int}(lo:LO ks F ls) (w:Ways ls a ns f):∀ n∈ns,1≤n:=by
  induction w with
  | nil=>exact fun _ h=>(nomatch h)
  | @cons l ns f hl w ih =>
    intro n hn
    rcases List.mem_cons.mp hn with e | hn
    · rw [e];exact (lo.nm l hl).1
    · exact ih n hn
theorem kindR (hk:KS ks F) (x:Int):kindOf ks x=0∨kindOf ks x=1∨kindOf ks x=2:=by
  unfold kindOf
  rw [List.getD_eq_getElem?_getD]
  cases e:ks[x.toNat]? with
  | none=>exact .inl rfl
  | some k=>exact hk.rng k (List.mem_of_getElem? e)
theorem kind_0 (hk:KS ks F):kindOf ks 0=2:=by
  have:=hk.top
  unfold kindOf
  rw [List.getD_eq_getElem?_getD]
  show (ks[0]?).getD 0=2
  rw [this]
  rfl
theorem cnt0 {f:Int}:cnt ls f=0↔∀ l∈ls,l.2.2≠f:=by
  unfold cnt
  rw [List.length_eq_zero_iff,List.filter_eq_nil_iff]
  exact ⟨fun h l hl e=>h l hl (decide_eq_true e),fun h l hl e=>h l hl (of_decide_eq_true e)⟩
theorem SF.kd (h:SF rows F E tl ks ls) {f:Nat}(hf:f < F):kd rows f=kindOf ks f:=by
  obtain ⟨lo,n,fr,rc⟩:=h.rc
  obtain ⟨r,e,l,k0,_⟩:=rc f hf
  unfold K62.kd
  rw [← k0,List.getD_eq_getElem?_getD (l:=rows),e]
  rfl
theorem SF.fnd (h:SF rows F E tl ks ls) {f:Nat}(hf:f < F) (f0:0 < f) (hk:kindOf ks f≠0):fnd rows f=if cnt ls f=0 then 1 else 0:=by
  obtain ⟨lo,n,fr,rc⟩:=h.rc
  obtain ⟨r,e,l,k0,k1,_⟩:=rc f hf
  unfold K62.fnd
  rw [← (k1 f0 hk).2,List.getD_eq_getElem?_getD (l:=rows),e]
  rfl
theorem SF.isfd (h:SF rows F E tl ks ls) (f:Int):isfd rows F f=true↔1≤f∧f < (F:Int)∧kindOf ks f≠0∧∀ l∈ls,l.2.2≠f:=by
  by_cases h1:1≤f
  rotate_left
  · unfold K62.isfd
    rw [decide_eq_false h1]
    simp [h1]
  by_cases h2:f < (F:Int)
  rotate_left
  · unfold K62.isfd
    rw [decide_eq_false h2]
    simp [h2]
  obtain ⟨n,rfl⟩:=Int.eq_ofNat_of_zero_le (show 0≤f by omega)
  have hn:n < F:=by omega
  unfold K62.isfd
  rw [Int.toNat_natCast,h.kd hn]
  by_cases h3:kindOf ks (n:Int)=0
  · rw [h3]
    simp [h1,h2]
  rw [h.fnd hn (by omega) h3]
  have h4:kindOf ks (n:Int)=1∨kindOf ks (n:Int)=2:=(kindR h.hks n).resolve_left h3
  have e1:(!(!decide (kindOf ks (n:Int)=1) && !decide (kindOf ks (n:Int)=2)))=true:=by
    rcases h4 with z | z<;>rw [z]<;>rfl
  rw [e1,decide_eq_true h1,decide_eq_true h2]
  by_cases h5:cnt ls (n:Int)=0
  · rw [if_pos h5]
    exact ⟨fun _=>⟨h1,h2,h3,cnt0.mp h5⟩,fun _=>rfl⟩
  · rw [if_neg h5]
    exact ⟨fun z=>absurd z (by decide),fun z=>absurd (cnt0.mpr z.2.2.2) h5⟩
theorem SF.go (h:SF rows F E tl ks ls) {f:Int}{ns:List Int}(p:PathTo ks F ls f ns) (hk:kindOf ks f≠0) (ms:List Int) (hm:ns≠[]∨ms.take 1≠[0]):fp rows F E (ns ++ ms)=rb rows F E f ms:=by
  rcases p with w | ⟨st,nm,rfl,w,s1,s2,s3,s4⟩
  · have:¬ (ns ++ ms).take 1=[0]:=by
      cases ns with
      | nil =>
        rcases hm with z | z
        · exact absurd rfl z
        · exact z
      | cons n r =>
        have:=w.pos h.hlo n (List.mem_cons_self ..)
        simp
        omega
    unfold fp
    rw [if_neg this]
    exact h.way w ms
  · have hi:K62.isfd rows F st=true:=(h.isfd st).mpr ⟨s1,s2,s4.elim (fun e=>by rw [e];exact hk) id,s3⟩
    show (if ([0]:List Int)=[0] then (if 0 :: st :: (nm ++ ms)=[0] then none else if K62.isfd rows F st=true then rb rows F E st (nm ++ ms) else none) else _)=_
    rw [if_pos rfl,if_neg (by simp),if_pos hi]
    exact h.way w ms
theorem Ways.stay {a f:Int}{ns:List Int}(w:Ways ls a ns f):ns=[]→f=a:=by
  induction w with
  | nil=>exact fun _=>rfl
  | cons=>exact fun e=>nomatch e
theorem SF.ne (h:SF rows F E tl ks ls) {f:Int}{ns:List Int}(p:PathTo ks F ls f ns) (hk:kindOf ks f=1):ns≠[]:=by
  rcases p with w | ⟨st,nm,rfl,_⟩
  · intro e
    have ef:=w.stay e
    rw [ef,kind_0 h.hks] at hk
    exact absurd hk (by decide)
  · simp
theorem SF.nofile (h:SF rows F E tl ks ls) {f:Int}(hk:kindOf ks f=1) (m:Int):rb rows F E f [m]=none:=by
  have n:sof rows F E f m=none:=h.nostep fun l hl e=>by
    rcases h.hlo.fo l hl with z | ⟨_,_,z⟩
    · rw [← e,z,kind_0 h.hks] at hk
      exact absurd hk (by decide)
    · rw [e,hk] at z
      exact absurd z (by decide)
  show (match sof rows F E f m with | none=>none | some s=>rb rows F E (slq rows F s 3) [])=none
  rw [n]
theorem fp_zero (rows:List (List Int)) (F E:Nat):fp rows F E [0]=none:=rfl
theorem nofound {f:Int}(h:isfd rows F f=false):fp rows F E [0,f]=none:=by
  show (if ([0]:List Int)=[0] then (if ([0,f]:List Int)=[0] then none else if K62.isfd rows F f=true then rb rows F E f [] else none) else _)=_
  rw [if_pos rfl,if_neg (by simp),h]
  rfl
end
end
end K62
namespace K62
open PySem L2 PyProof.Rows PySem.W
section
variable {P:Program}{w:World}{K:PySem.W.Frag}{mg:Str→Option Value}{base:Heap}
def cntK (s:Int):Int:=(((List.range 11).filter fun (k:Nat)=>decide ((k:Int) * 8 < s)).length:Int)
theorem cntK_eq {s:Int}(h0:0≤s) (h1:s≤88):cntK s=(s + 8 - 1) / 8:=by
  have all:∀ n:Nat,n < 89→cntK (n:Int)=((n:Int) + 8 - 1) / 8:=by decide +kernel
  obtain ⟨n,rfl⟩:=Int.eq_ofNat_of_zero_le h0
  exact all n (by omega)
open Classical in
noncomputable def wantsOf (T:Tx K mg) (C:Addr) (r:R8):Int:=if C=T.C_FileRecord then cntK r.s else 0
open Classical in
noncomputable def keepsOf (T:Tx K mg) (C:Addr) (r:R8) (k:Int):Bool:=if C=T.C_FileRecord then decide (k * 8 < r.s) else false
def spGetS (T:Tx K mg) (g:R8→V) (C:Addr):Sp:=fun vs H Q _=>∃ (p:Addr) (r:R8),vs=[.ref p]∧Rec C H p r∧∀ H',Same H H'→Q (g r) H'
def spKeeps (T:Tx K mg) (g:R8→Int→Bool) (C:Addr):Sp:=fun vs H Q _=>∃ (p:Addr) (r:R8) (k:Int),vs=[.ref p,.int k]∧Rec C H p r∧Q (.bl (g r k)) H
theorem ok_keeps1 (T:Tx K mg):FnOk P w K mg base CX0 1 T.f_FileRecord_keeps T.fd_FileRecord_keeps ["self","k"] (spKeeps T (fun r k=>decide (k * 8 < r.s)) T.C_FileRecord):=by
  refine T.F_FileRecord_keeps.ok sc_FileRecord_keeps (fun vs H Q E h=>?_) (fun cdv A outer s H vs Q E hr h=>?_)
  · obtain ⟨p,r,k,rfl,_⟩:=h
    rfl
  · obtain ⟨p,r,k,rfl,⟨dx,t,hp,ht⟩,q⟩:=h
    refine ⟨_,pss_one (ps_ret (pe_cmpR op_lt (pe_op op_mul (pv 1) (pe_glob (v:=.int 8) rfl T.g_WIDE ⟨_,rfl⟩)) (pe_fld (pv 0) rfl) (nomark _))),?_⟩
    exact ⟨_,rfl,_,_,rfl,rfl,.inr ⟨by decide,by decide⟩,_,rfl,p,T.C_FileRecord,dx,_,_,rfl,hp,T.cl_FileRecord,T.n_FileRecord_size,rec_size _ _,_,_,rfl,rfl,q⟩
theorem ok_wants1 (T:Tx K mg):FnOk P w K mg base CX0 2 T.f_FileRecord_wants T.fd_FileRecord_wants ["self"] (spGetS T (fun r=>.int (cntK r.s)) T.C_FileRecord):=by
  refine T.F_FileRecord_wants.ok sc_FileRecord_wants (fun vs H Q E h=>?_) (fun cdv A outer s H vs Q E hr h=>?_)
  · obtain ⟨p,r,rfl,_⟩:=h
    rfl
  · obtain ⟨p,r,rfl,hR,k⟩:=h
    have hR0:=hR
    obtain ⟨dx,t,hp,ht⟩:=hR0
    refine ⟨_,pss_one (ps_ret (pe_callB call_len_seq rfl T.z_len PySem.boot_len (pa_cons (pe_comp (N':=["k","self"]) (cap:=[none,some 0]) rfl (compOk_of (by kernel_rfl)) (pi_range1 rfl T.z_range (pa_cons (pe_glob (v:=.int 11) rfl T.g_PIECES ⟨_,rfl⟩) pa_nil))
      (fun cells C s₀ H₀ fp pins=>⟨pg_name (i:=0) (ndp2 (by decide +kernel)) rfl (Or.inl rfl) (.inr rfl),pifs_one (pt_val (pe_meth (pv 1) T.cl_FileRecord T.m_FileRecord_keeps (ok_keeps1 T) hr T.b_FileRecord_keeps .nil pass0 (pa_cons (pv 0) pa_nil))),pv 0⟩)) pa_nil))),?_⟩
    refine ⟨11,rfl,by decide,by decide,?_⟩
    refine comp_range (cap:=[none,some 0]) (σ:=[some (.ref p)]) (small_len (n:=11) (by decide)) (fun i ys σ H'=>ys=((List.range i).filter fun (k:Nat)=>decide ((k:Int) * 8 < r.s)).map (fun (k:Nat)=>V.int (k:Int))∧i≤11∧(∃ s0,σ=[s0,some (.ref p)])∧H'=H)
      (by exact ⟨rfl,Nat.zero_le _,⟨none,rfl⟩,rfl⟩) (fun i ys σ H' ⟨h1,h2,_⟩=>⟨h2,by rw [h1,List.length_map];exact Nat.le_trans (List.length_filter_le _ _) (by rw [List.length_range];exact Nat.le_refl _)⟩) ?_ ?_
    · rintro i ys σ H' hi ⟨rfl,h2,⟨s0,rfl⟩,eH⟩
      rw [eH]
      refine ⟨_,rfl,p,dx,_,rfl,hp,rec_no_keeps _ _,_,rfl,p,r,_,rfl,hR,_,rfl,?_⟩
      rw [List.range_succ,List.filter_append,List.map_append]
      have e0:(0:Int) + (i:Int)=(i:Int):=by omega
      rw [e0]
      by_cases h:(i:Int) * 8 < r.s
      · refine iteD h ⟨_,rfl,?_,hi,⟨_,rfl⟩,rfl⟩
        simp [h]
      · refine iteDF h ⟨?_,hi,⟨_,rfl⟩,rfl⟩
        simp [h]
    rintro ys σ H' ⟨rfl,h2,⟨s0,rfl⟩,eH⟩ Dd hDd
    rw [eH] at hDd ⊢
    refine ⟨Dd,_,rfl,.inl (SqL.of upd_same),?_⟩
    rw [List.length_map]
    exact k _ (Same.upd0 hDd)
abbrev z8:List Int:=[0,0,0,0,0,0,0,0]
theorem cut_toI {xs:List V}{n:Nat}:cutV xs none (some (n:Int))=xs.take n:=by
  unfold cutV
  rw [HT.sIx_nat,HT.sIx_none,List.drop_zero,Nat.sub_zero]
  by_cases h:n≤xs.length
  · rw [Nat.min_eq_left h]
  · rw [Nat.min_eq_right (by omega),List.take_of_length_le (Nat.le_refl _),List.take_of_length_le (by omega)]
def behind (rows:List (List Int)) (r:R8):List Int:=if r.m=0 then z8 else rows.getD r.m.toNat []
def blks (rows:List (List Int)) (r:R8):List Int:=[r.p,r.q,r.u] ++ behind rows r
def okM (rows:List (List Int)) (r:R8):Prop:=r.m=0∨(0≤r.m∧r.m < rows.length)
theorem behind_len {rows:List (List Int)}{r:R8}(h:okM rows r) (h8:∀ x∈rows,x.length=8):(behind rows r).length=8:=by
  unfold behind
  by_cases hm:r.m=0
  · rw [if_pos hm];rfl
  · rw [if_neg hm]
    have h:=h.resolve_left hm
    have hi:r.m.toNat < rows.length:=by omega
    rw [List.getD_eq_getElem?_getD,List.getElem?_eq_getElem hi]
    exact h8 _ (List.getElem_mem hi)
theorem rep8:(List.replicate (8:Int).toNat [V.int 0]).flatten=z8.map V.int:=rfl
def spBlocks (T:Tx K mg):Sp:=fun vs H Q _=>∃ (v q C:Addr) (r:R8) (as:List Addr) (rows:List (List Int)),vs=[.ref v,.ref q]∧D T C∧Rec C H q r∧Vol H v as rows∧okM rows r∧(∀ x∈rows,x.length=8) ∧
  ∀ (l:Addr) (H':Hp),Same H H'→H' l=some (.lst ((blks rows r).map V.int))→Q (.ref l) H'
theorem ok_blocks (T:Tx K mg):FnOk P w K mg base CX0 1 T.f_blocks_of T.fd_blocks_of ["volume","record"] (spBlocks T):=by
  refine T.F_blocks_of.ok sc_blocks_of (fun vs H Q E h=>?_) (fun cdv A outer s H vs Q E hr h=>?_)
  · obtain ⟨v,q,C,r,as,rows,rfl,_⟩:=h
    rfl
  · obtain ⟨v,q,C,r,as,rows,rfl,hD,⟨dx,t,hp,ht⟩,hV,hM,h8,k⟩:=h
    refine ⟨_,pss_cut (ps_set (i:=2) sc_blocks_of.nd rfl (Or.inl rfl) (pe_ifExp (pt_cmpR op_eq (pe_fld (pv 1) rfl) pe_int (nomark _)) (pe_op op_rep (pe_lst (pa_cons pe_int pa_nil)) (pe_glob (v:=.int 8) rfl T.g_WIDE ⟨_,rfl⟩)) (pe_ix ix_list (pv 0) (pe_fld (pv 1) rfl) (fun _ _=>rfl))))
      (pss_one (ps_ret (pe_op op_cat (pe_callTy call_list_of rfl T.z_list (by kernel_rfl) (pa_cons (pe_fld (pv 1) rfl) pa_nil)) (pv 2)))),?_⟩
    refine ⟨fun σ H'=>∃ b,σ=[some (.ref v),some (.ref q),some (.ref b)]∧Same H H'∧H' b=some (.lst ((behind rows r).map V.int)),?_,?_⟩
    · refine ⟨_,rfl,q,C,dx,_,_,rfl,hp,hD.cls,hD.n_more,rec_more _ _,rfl,_,rfl,ite2 (fun h=>?_) (fun h=>?_)⟩
      · have m0:r.m=0:=by have:=of_decide_eq_true h;injection this
        refine ⟨(by show 1≤sizeLine;decide),fun z fz=>⟨z,8,_,rfl,rfl,upd_same,by decide,by decide,(by show 8≤sizeLine;decide),fun z2 fz2=>⟨z2,rfl,(Same.upd0 fz).upd fz2,?_⟩⟩⟩
        unfold behind
        rw [if_pos m0,upd_same,rep8]
      · have m0:¬ r.m=0:=fun z=>h (by rw [z];rfl)
        have hb:=hM.resolve_left m0
        obtain ⟨j,ej⟩:=Int.eq_ofNat_of_zero_le hb.1
        have hj:j < rows.length:=by omega
        have hja:j < as.length:=by rw [hV.len];exact hj
        have ea:as[j]?=some as[j]:=List.getElem?_eq_getElem hja
        have er:rows[j]?=some rows[j]:=List.getElem?_eq_getElem hj
        refine ⟨_,rfl,_,rfl,q,C,dx,_,_,rfl,hp,hD.cls,hD.n_more,rec_more _ _,v,_,_,.ref as[j],rfl,rfl,SqL.of hV.top,(by rw [ej];exact atI_nat (by rw [List.getElem?_map,ea];rfl)),as[j],rfl,Same.refl H,?_⟩
        unfold behind
        rw [if_neg m0,ej,Int.toNat_natCast,List.getD_eq_getElem?_getD,er]
        exact hV.row j _ _ ea er
    rintro σ H1 ⟨b,rfl,s1,hb⟩
    refine ⟨_,rfl,q,C,dx,_,_,rfl,s1 _ _ hp,hD.cls,hD.n_first,rec_first _ _,t,_,rfl,.inr (SqT.of (s1 _ _ ht)),fun l2 f2=>?_⟩
    have s2:=s1.upd (o:=.lst [.int r.p,.int r.q,.int r.u]) f2
    refine ⟨_,rfl,l2,b,_,_,rfl,rfl,upd_same,(Same.upd0 f2) _ _ hb,small_len (by rw [List.length_map,behind_len hM h8];show 3 + 8≤1000;decide),fun l3 f3=>?_⟩
    refine k l3 _ (s2.upd f3) ?_
    rw [upd_same]
    unfold blks
    rw [List.map_append]
    rfl
def rowAt (rows:List (List Int)) (b:Int):List Int:=if b=0 then z8 else rows.getD b.toNat []
def cont (rows:List (List Int)) (r:R8):List Int:=((((blks rows r).take (cntK r.s).toNat).map (rowAt rows)).flatten).take r.s.toNat
theorem cntK_nonneg (s:Int):0≤cntK s:=by unfold cntK;exact Int.natCast_nonneg _
theorem cntK_le (s:Int):cntK s≤11:=by
  unfold cntK
  have:=List.length_filter_le (fun k:Nat=>decide ((k:Int) * 8 < s)) (List.range 11)
  rw [List.length_range] at this
  exact_mod_cast this
def okP (rows:List (List Int)) (r:R8):Prop:=∀ b∈(blks rows r).take (cntK r.s).toNat,b=0∨(0≤b∧b < rows.length)
def spCont (T:Tx K mg):Sp:=fun vs H Q _=>∃ (p v:Addr) (F E B:Int) (f:Nat) (as:List Addr) (rows:List (List Int)) (r:R8),vs=[.ref p,.ref v,.int f]∧Lay T.C_Layout H p F E B∧Vol H v as rows∧rows[10 + f]?=some r.list∧(∀ x∈rows,x.length=8) ∧
  (((f=0∨r.k≠1)∧∀ (l:Addr) (H':Hp),H l=none→Same H H'→H' l=some (.lst [])→Q (.ref l) H') ∨
   (f≠0∧r.k=1∧0≤r.s∧r.s≤88∧okM rows r∧okP rows r∧∀ (l:Addr) (H':Hp),H l=none→Same H H'→H' l=some (.lst ((cont rows r).map V.int))→Q (.ref l) H'))
theorem ok_contents (T:Tx K mg):FnOk P w K mg base CX0 5 T.f_contents T.fd_contents ["layout","volume","f"] (spCont T):=by
  refine T.F_contents.ok sc_contents (fun vs H Q E h=>?_) (fun cdv A outer s H vs Q E hr h=>?_)
  · obtain ⟨p,v,F,E,B,f,as,rows,r,rfl,_⟩:=h
    rfl
  · obtain ⟨p,v,F,E,B,f,as,rows,r,rfl,hL,hV,er,h8,k⟩:=h
    have r1:Room 1 _:=hr.mono (by decide)
    have r2:Room 2 _:=hr.mono (by decide)
    have r4:Room 4 _:=hr.mono (by decide)
    refine ⟨_,pss_cons (ps_set (i:=3) sc_contents.nd rfl (Or.inl rfl) (pe_call (ok_recin T) r4 rfl T.g_record_in T.F_record_in.kp T.b_record_in .nil pass0 (pa_cons (pv 0) (pa_cons (pv 1) (pa_cons (pv 2) pa_nil)))))
      (pss_cons (ps_if (pt_not (pt_val (pe_callB call_isC rfl T.z_isinstance (by kernel_rfl) (pa_cons (pv 3) (pa_cons (pe_glob (v:=.ref T.C_FileRecord) rfl T.g_FileRecord rfl) pa_nil))))) (pss_one (ps_ret (pe_lst pa_nil))) pss_nil)
      (pss_cons (ps_set (i:=4) sc_contents.nd rfl (Or.inl rfl) (pe_lst pa_nil))
      (pss_cons (ps_for PassesOwn.never rfl (pi_list (pe_slice sl_list (pe_call (ok_blocks T) r1 rfl T.g_blocks_of T.F_blocks_of.kp T.b_blocks_of .nil pass0 (pa_cons (pv 1) (pa_cons (pv 3) pa_nil))) po_none (po_some (pe_meth0 (pv 3) T.cl_FileRecord T.m_FileRecord_wants (ok_wants1 T) r2 T.b_FileRecord_wants .nil pass0)))) (pg_name (i:=5) sc_contents.nd rfl (Or.inl rfl))
        (pss_one (ps_expr (pe_bm PySem.F.plainAttrs_list PySem.F.slot_list_extend PySem.F.type_list_extend mt_extend (pv 4) (pa_cons (pe_ifExp (pt_cmpR op_eq (pv 5) pe_int (nomark _)) (pe_op op_rep (pe_lst (pa_cons pe_int pa_nil)) (pe_glob (v:=.int 8) rfl T.g_WIDE ⟨_,rfl⟩)) (pe_ix ix_list (pv 1) (pv 5) (fun _ _=>rfl))) pa_nil)))))
      (pss_one (ps_ret (pe_slice sl_list (pv 4) po_none (po_some (pe_fld (pv 3) rfl)))))))),?_⟩
    refine ⟨_,rfl,_,rfl,_,rfl,p,v,F,E,B,f,as,rows,r,rfl,hL,hV,er,fun q H1 s1 hR=>?_⟩
    have hty:=ty_of (clsIn_D T f r.k) hR
    rcases k with ⟨hno,k⟩ | ⟨f0,k1,z0,z8',hM,hP,k⟩
    · refine ⟨_,rfl,_,_,_,false,rfl,hty,clsIn_no T hno,false,rfl,iteT ?_⟩
      exact ⟨(by show 0≤sizeLine;decide),fun l fl=>k l _ (s1.free fl) (s1.upd fl) upd_same⟩
    rw [clsIn_file T f0 k1] at hR hty
    refine ⟨_,rfl,_,_,_,true,rfl,hty,T.k11,true,rfl,iteF ?_⟩
    refine ⟨(by show 0≤sizeLine;decide),fun to fto=>?_⟩
    have s2:Same H1 (upd H1 to (.lst [])):=Same.upd0 fto
    have hto:upd H1 to (.lst []) to=some (.lst []):=upd_same
    have hV1:=hV.same s1
    refine ⟨_,rfl,_,rfl,v,q,T.C_FileRecord,r,as,rows,rfl,.inl rfl,hR.same s2,hV1.same s2,hM,h8,fun bl H2 s3 hbl=>?_⟩
    have hR2:=(hR.same s2).same s3
    have hR0:=hR2
    obtain ⟨dx,t,hp,ht⟩:=hR0
    refine ⟨_,rfl,q,dx,_,rfl,hp,rec_no_wants _ _,q,r,rfl,hR2,fun H2' s3'=>?_⟩
    have s3:=s3.trans s3'
    have hbl:=s3' _ _ hbl
    clear hp ht hR2
    generalize H2'=H2 at s3 s3' hbl
    refine ⟨_,rfl,bl,_,rfl,SqL.of hbl,fun sl fsl=>?_⟩
    have ecn:cntK r.s=(((cntK r.s).toNat:Nat):Int):=by have:=cntK_nonneg r.s;omega
    have ecut:cutV ((blks rows r).map V.int) none (some (cntK r.s))=((blks rows r).take (cntK r.s).toNat).map V.int:=by
      rw [ecn,cut_toI,Int.toNat_natCast,List.map_take]
    rw [ecut]
    have s4:Same H2 (upd H2 sl (.lst (((blks rows r).take (cntK r.s).toNat).map V.int))):=Same.upd0 fsl
    have hsl:upd H2 sl (.lst (((blks rows r).take (cntK r.s).toNat).map V.int)) sl=some (.lst (((blks rows r).take (cntK r.s).toNat).map V.int)):=upd_same
    have hto4:=s4 _ _ (s3 _ _ hto)
    have nts:sl≠to:=fun z=>by rw [z,s3 _ _ hto] at fsl;cases fsl
    have lbs:((blks rows r).take (cntK r.s).toNat).length≤11:=by rw [List.length_take];have:=cntK_le r.s;omega
    have hP':=hP
    unfold okP at hP'
    generalize ebs:(blks rows r).take (cntK r.s).toNat=bs at hsl s4 hto4 lbs hP' ⊢
    have S4:∀ b o,H1 b=some o→upd H2 sl (.lst (bs.map V.int)) b=some o:=fun b o e=>s4 _ _ (s3 _ _ (s2 _ _ e))
    generalize upd H2 sl (.lst (bs.map V.int))=H3 at hsl s4 hto4 S4 ⊢
    have S4':Same H1 H3:=S4
    refine ⟨sl,rfl,⟨_,SqL.of hsl⟩,for_list (K:=K) (a:=sl) (xs:=bs.map V.int) (fun i σ H'=>∃ x5,σ=[some (.ref p),some (.ref v),some (.int f),some (.ref q),some (.ref to),x5]∧Same H1 H'∧H' to=some (.lst ((((bs.take i).map (rowAt rows)).flatten).map V.int))∧(((bs.take i).map (rowAt rows)).flatten).length≤8 * i∧H' sl=some (.lst (bs.map V.int)))
      ⟨none,rfl,S4',by simpa using hto4,by simp,hsl⟩ (fun i σ H' _ ⟨_,_,_,_,_,h⟩=>SqL.of h) ?_ ?_⟩
    · rintro i x σ H' hx ⟨x5,rfl,sH,hto',ln,hsl'⟩
      rw [List.getElem?_map] at hx
      cases eb:bs[i]? with
      | none=>rw [eb] at hx;cases hx
      | some b =>
        rw [eb] at hx
        cases hx
        have hi:i < bs.length:=(List.getElem?_eq_some_iff.mp eb).1
        have hb:=hP' b (List.mem_of_getElem? eb)
        have e5:((bs.take (i + 1)).map (rowAt rows)).flatten=((bs.take i).map (rowAt rows)).flatten ++ rowAt rows b:=by rw [take_snoc eb,List.map_append,List.flatten_append];simp
        refine ⟨_,rfl,.inl ⟨rfl,_,SqL.of hto'⟩,_,rfl,rfl,_,rfl,ite2 (fun h=>?_) (fun h=>?_)⟩
        · have b0:b=0:=by have:=of_decide_eq_true h;injection this
          have eR:rowAt rows b=z8:=by unfold rowAt;rw [if_pos b0]
          refine ⟨(by show 1≤sizeLine;decide),fun z fz=>⟨z,8,_,rfl,rfl,upd_same,by decide,by decide,(by show 8≤sizeLine;decide),fun z2 fz2=>?_⟩⟩
          rw [rep8]
          have sz:=(Same.upd0 (o:=.lst [.int 0]) fz).upd (o:=.lst (z8.map V.int)) fz2
          refine ⟨to,z2,_,_,rfl,rfl,sz _ _ hto',upd_same,small_len (by rw [List.length_map];show _ + 8≤1000;omega),?_⟩
          refine ⟨_,rfl,(sH.trans sz).updF fto,?_,?_,by rw [upd_ne nts];exact sz _ _ hsl'⟩
          · rw [upd_same,e5,eR,List.map_append]
          · rw [e5,eR,List.length_append];show _ + 8≤_;omega
        · have b0:¬ b=0:=fun z=>h (by rw [z];rfl)
          have hb:=hb.resolve_left b0
          obtain ⟨j,rfl⟩:=Int.eq_ofNat_of_zero_le hb.1
          have hj:j < rows.length:=by omega
          have hja:j < as.length:=by rw [hV.len];exact hj
          have ea:as[j]?=some as[j]:=List.getElem?_eq_getElem hja
          have er':rows[j]?=some rows[j]:=List.getElem?_eq_getElem hj
          have eR:rowAt rows (j:Int)=rows[j]:=by unfold rowAt;rw [if_neg b0,Int.toNat_natCast,List.getD_eq_getElem?_getD,er'];rfl
          have l8:=h8 _ (List.getElem_mem hj)
          refine ⟨_,rfl,_,rfl,v,_,_,.ref as[j],rfl,rfl,SqL.of (sH _ _ hV1.top),atI_nat (by rw [List.getElem?_map,ea];rfl),to,as[j],_,_,rfl,rfl,hto',sH _ _ (hV1.row j _ _ ea er'),small_len (by rw [List.length_map,List.length_map,l8];omega),?_⟩
          refine ⟨_,rfl,sH.updF fto,?_,?_,by rw [upd_ne nts];exact hsl'⟩
          · rw [upd_same,e5,eR,List.map_append]
          · rw [e5,eR,List.length_append,l8];omega
    rintro σ H4 ⟨x5,rfl,sH,hto',ln,hsl'⟩
    have e:bs.take (bs.map V.int).length=bs:=by rw [List.length_map,List.take_length]
    rw [e] at hto'
    have hR4:=hR.same sH
    obtain ⟨dx4,t4,hp4,ht4⟩:=hR4
    refine ⟨_,rfl,_,rfl,q,T.C_FileRecord,dx4,_,_,rfl,hp4,T.cl_FileRecord,T.n_FileRecord_size,rec_size _ _,_,rfl,to,_,rfl,SqL.of hto',fun l fl=>?_⟩
    refine k l _ ((s1.trans sH).free fl) ((s1.trans sH).upd fl) ?_
    have esz:r.s=((r.s.toNat:Nat):Int):=by omega
    rw [upd_same]
    unfold cont
    rw [ebs]
    conv=>lhs;rw [esz]
    rw [cut_toI,List.map_take]
end
end K62
namespace K62
open PySem L2 PyProof.Rows PySem.W
section
variable {P:Program}{w:World}{K:PySem.W.Frag}{mg:Str→Option Value}{base:Heap}
def InF (F:Nat) (o:Option Int):Prop:=∀ x,o=some x→0≤x∧x < (F:Int)
theorem FunD.okX {x qual:Str}{st:Stmt}{f:Addr}{fd:FuncData}{dV:Value}{N ps:List Str}{k:Nat}{sp:Sp}(F:FunD K x qual st f fd dV) (S:FnScope N ps (defScope st)) (len:∀ vs H Q E,sp vs H Q E→vs.length=ps.length)
    (hbody:∀ (cdv:Value) (A:Around) (outer:List Env) (s:Shared) (H:Hp) (vs:List V) (Q:VK) (E:XK),Room k (A.deeper (envOfC qual (defScope st) s.heap.objs.size f cdv))→sp vs H Q E →
      ∃ t,PSs (cxOf (CX1 P w) P w K mg base N qual (defScope st) f cdv A outer s H E) (defBody st) t∧t { nx:=fun _ H'=>Q .non H',rt:=Q } (L2.start N vs) H):FnOk P w K mg base (CX1 P w) (k + 1) f fd ps sp:=by
  obtain ⟨oc,od,kV,doc,pm,an,cdv,ct,osl,rfl,lk,hcd⟩:=F.ex
  exact fn_of lk hcd S len fun A outer s H vs Q E hr hsp=>hbody cdv A outer s H vs Q E hr hsp
def spFF (T:Tx K mg):Sp:=fun vs H Q X=>∃ (p v t:Addr) (F E:Nat) (B:Int) (as:List Addr) (rows:List (List Int)) (ns:List Int),vs=[.ref p,.ref v,.ref t]∧VV T.C_Layout H p v F E B as rows∧SqT K H t (ns.map V.int)∧InF F (fp rows F E ns) ∧
  (∀ f:Nat,fp rows F E ns=some (f:Int)→isfl rows f=true→∀ H',Same H H'→Q (.int (f:Int)) H')∧(∀ f:Nat,fp rows F E ns=some (f:Int)→isfl rows f=false→∀ H',Same H H'→X (.ref T.C_NotFile) none H')∧(fp rows F E ns=none→∀ H',Same H H'→X (.ref T.C_NoPath) none H')
theorem ok_ff (T:Tx K mg):FnOk P w K mg base (CX1 P w) 9 T.f_find_file T.fd_find_file ["layout","volume","path"] (spFF T):=by
  refine T.F_find_file.okX sc_find_file (fun vs H Q E h=>?_) (fun cdv A outer s H vs Q X hr h=>?_)
  · obtain ⟨p,v,t,F,E,B,as,rows,ns,rfl,_⟩:=h
    rfl
  · obtain ⟨p,v,t,F,E,B,as,rows,ns,rfl,hV,hS,hF,k,kf,kx⟩:=h
    have r5:Room 5 _:=hr.mono (by decide)
    refine ⟨_,pss_cons (ps_set (i:=3) sc_find_file.nd rfl (Or.inl rfl) (pe_callX (ok_fp T) hr rfl T.g_find_path T.F_find_path.kp T.b_find_path .nil takes_cx (pa_cons (pv 0) (pa_cons (pv 1) (pa_cons (pv 2) pa_nil)))))
      (pss_cons (ps_if (pt_not (pt_val (pe_call (ok_isfile T) r5 rfl T.g_is_file T.F_is_file.kp T.b_is_file .nil pass0 (pa_cons (pv 0) (pa_cons (pv 1) (pa_cons (pv 3) pa_nil)))))) (pss_one (ps_raise rfl T.ex_NotFile rfl T.g_NotFile takesN_cx (pa_cons pe_str pa_nil))) pss_nil)
      (pss_one (ps_ret (pv 3)))),?_⟩
    refine ⟨_,rfl,_,rfl,_,rfl,p,v,t,F,E,B,as,rows,ns,rfl,hV,hS,fun x hx H1 s1=>?_,fun hx H1 s1=>kx hx H1 s1⟩
    obtain ⟨h0,h1⟩:=hF x hx
    obtain ⟨n,rfl⟩:=Int.eq_ofNat_of_zero_le h0
    refine ⟨_,rfl,_,rfl,_,rfl,p,v,F,E,B,n,as,rows,rfl,hV.same s1,by omega,fun H2 s2=>?_⟩
    cases hi:isfl rows n
    · exact ⟨_,rfl,iteT ⟨(by show 1≤sizeLine;decide),kf n hx hi H2 (s1.trans s2)⟩⟩
    · exact ⟨_,rfl,iteF ⟨_,rfl,k n hx hi H2 (s1.trans s2)⟩⟩
def optV:Option Int→V
  | none=>.non
  | some i=>.int i
def readL (xs:List Int) (at_:Nat):Option Int→List Int
  | none=>xs.drop at_
  | some m=>(xs.drop at_).take m.toNat
structure FileOk (rows:List (List Int)) (f:Nat) (r:R8):Prop where
  er:rows[10 + f]?=some r.list
  f0:f≠0
  hk:r.k=1
  s0:0≤r.s
  s1:r.s≤88
  hm:okM rows r
  hp:okP rows r
def spRead (T:Tx K mg):Sp:=fun vs H Q X=>∃ (p v t:Addr) (F E:Nat) (B a:Int) (m:Option Int) (as:List Addr) (rows:List (List Int)) (ns:List Int),vs=[.ref p,.ref v,.ref t,.int a,optV m]∧VV T.C_Layout H p v F E B as rows∧SqT K H t (ns.map V.int)∧InF F (fp rows F E ns) ∧
  (fp rows F E ns=none→∀ H',Same H H'→X (.ref T.C_NoPath) none H')∧(∀ f:Nat,fp rows F E ns=some (f:Int)→isfl rows f=false→∀ H',Same H H'→X (.ref T.C_NotFile) none H') ∧
  (∀ f:Nat,fp rows F E ns=some (f:Int)→isfl rows f=true→(a < 0∨∃ i,m=some i∧i < 0)→∀ H',Same H H'→X (.ref T.C_TooFar) none H') ∧
  (∀ f:Nat,fp rows F E ns=some (f:Int)→isfl rows f=true→0≤a→(∀ i,m=some i→0≤i)→∃ r,FileOk rows f r∧∀ (l:Addr) (H':Hp),Same H H'→H l=none→H' l=some (.lst ((readL (cont rows r) a.toNat m).map V.int))→Q (.ref l) H')
theorem cut_frI (xs:List Int) {a:Int}(h:0≤a):cutV (xs.map V.int) (some a) none=(xs.drop a.toNat).map V.int:=by
  obtain ⟨n,rfl⟩:=Int.eq_ofNat_of_zero_le h
  rw [cut_fr,List.map_drop]
  rfl
theorem cut_toJ (xs:List Int) {a:Int}(h:0≤a):cutV (xs.map V.int) none (some a)=(xs.take a.toNat).map V.int:=by
  obtain ⟨n,rfl⟩:=Int.eq_ofNat_of_zero_le h
  rw [cut_to,List.map_take]
  rfl
theorem ok_read (T:Tx K mg):FnOk P w K mg base (CX1 P w) 10 T.f_read T.fd_read ["layout","volume","path","at","many"] (spRead T):=by
  refine FunD.okX T.F_read sc_read (fun vs H Q E h=>?_) (fun cdv A outer s H vs Q X hr h=>?_)
  · obtain ⟨p,v,t,F,E,B,a,m,as,rows,ns,rfl,_⟩:=h
    rfl
  · obtain ⟨p,v,t,F,E,B,a,m,as,rows,ns,rfl,hV,hS,hF,kp,kf,kt,k⟩:=h
    have r5:Room 5 _:=hr.mono (by decide)
    refine ⟨_,pss_cons (ps_set (i:=5) sc_read.nd rfl (Or.inl rfl) (pe_callX (ok_ff T) hr rfl T.g_find_file T.F_find_file.kp T.b_find_file .nil takes_cx (pa_cons (pv 0) (pa_cons (pv 1) (pa_cons (pv 2) pa_nil)))))
      (pss_cut (ps_if (PW.pt (pw_or (pt_cmpR op_lt (pv 3) pe_int (nomark _)) (pw_or1 (PW.pt (pw_and (pt_cmpR op_notN (pv 4) pe_non (nomark _)) (pw_and1 (pt_cmpR op_lt (pv 4) pe_int (nomark _)))))))) (pss_one (ps_raise rfl T.ex_TooFar rfl T.g_TooFar takesN_cx (pa_cons pe_str pa_nil))) pss_nil)
      (pss_cons (ps_set (i:=6) sc_read.nd rfl (Or.inl rfl) (pe_slice sl_list (pe_call (ok_contents T) r5 rfl T.g_contents T.F_contents.kp T.b_contents .nil pass0 (pa_cons (pv 0) (pa_cons (pv 1) (pa_cons (pv 5) pa_nil)))) (po_some (pv 3)) po_none))
      (pss_one (ps_ret (pe_ifExp (pt_cmpR op_isN (pv 4) pe_non (nomark _)) (pv 6) (pe_slice sl_list (pv 6) po_none (po_some (pv 4)))))))),?_⟩
    refine ⟨_,rfl,_,rfl,_,rfl,p,v,t,F,E,B,as,rows,ns,rfl,hV,hS,hF,fun f hf hi H1 s1=>?_,fun f hf hi H1 s1=>kf f hf hi H1 s1,fun hx H1 s1=>kp hx H1 s1⟩
    have far:(a < 0∨∃ i,m=some i∧i < 0)→X (.ref T.C_TooFar) none H1:=fun h=>kt f hf hi h H1 s1
    refine ⟨fun σ H'=>H'=H1∧0≤a∧(∀ i,m=some i→0≤i)∧σ=[some (.ref p),some (.ref v),some (.ref t),some (.int a),some (optV m),some (.int (f:Int)),none],?_,?_⟩
    · refine ⟨_,rfl,_,_,rfl,rfl,_,rfl,?_⟩
      by_cases ha:a < 0
      · exact iteD ha (iteT ⟨(by show 1≤sizeLine;decide),far (.inl ha)⟩)
      refine iteDF ha ⟨_,rfl,rfl,_,rfl,?_⟩
      cases m with
      | none=>exact iteBF rfl (iteF ⟨rfl,by omega,fun i e=>(nomatch e),rfl⟩)
      | some i =>
        refine iteB rfl ⟨_,rfl,i,_,rfl,rfl,_,rfl,?_⟩
        by_cases hi0:i < 0
        · exact iteD hi0 ⟨(by show 1≤sizeLine;decide),far (.inr ⟨i,rfl,hi0⟩)⟩
        · exact iteDF hi0 ⟨rfl,by omega,fun j e=>(by cases e;omega),rfl⟩
    rintro σ H2 ⟨eH,ha,hm,rfl⟩
    rw [eH]
    obtain ⟨r,ok,k⟩:=k f hf hi ha hm
    have hV1:=hV.same s1
    refine ⟨_,rfl,_,rfl,_,rfl,p,v,F,E,B,f,as,rows,r,rfl,hV1.lay,hV1.vol,ok.er,hV1.r8,.inr ⟨ok.f0,ok.hk,ok.s0,ok.s1,ok.hm,ok.hp,fun l H3 fl s3 hl=>?_⟩⟩
    refine ⟨_,rfl,a,rfl,l,_,rfl,SqL.of hl,fun z fz=>?_⟩
    rw [cut_frI _ ha]
    have s4:=s1.trans s3
    have hz:upd H3 z (.lst (((cont rows r).drop a.toNat).map V.int)) z=some (.lst (((cont rows r).drop a.toNat).map V.int)):=upd_same
    have s5:=s4.upd (o:=.lst (((cont rows r).drop a.toNat).map V.int)) fz
    have fzH:H z=none:=s4.free fz
    generalize upd H3 z (.lst (((cont rows r).drop a.toNat).map V.int))=H5 at hz s5 ⊢
    refine ⟨_,rfl,rfl,_,rfl,?_⟩
    cases m with
    | none=>exact iteB rfl ⟨_,rfl,k z _ s5 fzH hz⟩
    | some i =>
      refine iteBF rfl ⟨_,rfl,_,rfl,i,rfl,z,_,rfl,SqL.of hz,fun y fy=>?_⟩
      rw [cut_toJ _ (hm i rfl)]
      exact k y _ (s5.upd fy) (s5.free fy) upd_same
end
end K62
namespace K62
open PySem L2 PyProof.Rows PySem.W
section
variable {P:Program}{w:World}{K:PySem.W.Frag}{mg:Str→Option Value}{base:Heap}
theorem b_read5 (T:Tx K mg):Binds K T.fd_read ["layout","volume","path","at","many"] []:=by
  obtain ⟨oc,od,kV,doc,pm,an,cdv,ct,osl,e,lk,hcd⟩:=T.F_read.ex
  obtain ⟨o,its,n,ho,hd,hv⟩:=T.do_read
  intro s us X hl
  match us,hl with
  | [u1,u2,u3,u4,u5],_ =>
    have hit:∃ t,its=#[.int 0 t,.none]:=by
      obtain ⟨u,w',eu,⟨t,rfl⟩,rw'⟩:=vals2 hv
      cases rw'
      exact ⟨t,by rw [← Array.toArray_toList (xs:=its),eu]⟩
    obtain ⟨t,rfl⟩:=hit
    rw [e,T.dv_read]
    exact PySem.W.binds_K X rfl ho hd rfl rfl
theorem b_read4 (T:Tx K mg):Binds K T.fd_read ["layout","volume","path","at","many"] [.none]:=by
  obtain ⟨oc,od,kV,doc,pm,an,cdv,ct,osl,e,lk,hcd⟩:=T.F_read.ex
  obtain ⟨o,its,n,ho,hd,hv⟩:=T.do_read
  have hit:∃ t,its=#[.int 0 t,.none]:=by
    obtain ⟨u,w',eu,⟨t,rfl⟩,rw'⟩:=vals2 hv
    cases rw'
    exact ⟨t,by rw [← Array.toArray_toList (xs:=its),eu]⟩
  obtain ⟨t,rfl⟩:=hit
  intro s us X hl
  have hl':us.length=4:=by simpa using hl
  match us,hl' with
  | [u1,u2,u3,u4],_ =>
    rw [e,T.dv_read]
    exact PySem.W.binds_K X rfl ho hd rfl rfl
theorem b_read3 (T:Tx K mg):∃ t,Binds K T.fd_read ["layout","volume","path","at","many"] [.int 0 t,.none]:=by
  obtain ⟨oc,od,kV,doc,pm,an,cdv,ct,osl,e,lk,hcd⟩:=T.F_read.ex
  obtain ⟨o,its,n,ho,hd,hv⟩:=T.do_read
  have hit:∃ t,its=#[.int 0 t,.none]:=by
    obtain ⟨u,w',eu,⟨t,rfl⟩,rw'⟩:=vals2 hv
    cases rw'
    exact ⟨t,by rw [← Array.toArray_toList (xs:=its),eu]⟩
  obtain ⟨t,rfl⟩:=hit
  refine ⟨t,?_⟩
  intro s us X hl
  have hl':us.length=3:=by simpa using hl
  match us,hl' with
  | [u1,u2,u3],_ =>
    rw [e,T.dv_read]
    exact PySem.W.binds_K X rfl ho hd rfl rfl
theorem vs_r3 (t:Tok):Vals [.int 0,.non] [.int 0 t,.none]:=.cons ⟨_,rfl⟩ (.cons rfl .nil)
theorem vs_r4:Vals [.non] [.none]:=.cons rfl .nil
theorem flat_take:∀ (L:List (List Int)) (k s:Nat),(∀ x∈L,x.length=8)→k≤L.length→s≤8 * k→L.flatten.take s=(L.take k).flatten.take s
  | L,k,s,h8,hk,hs=>by
    have e:L.flatten=(L.take k).flatten ++ (L.drop k).flatten:=by rw [← List.flatten_append,List.take_append_drop]
    have len:∀ (M:List (List Int)),(∀ x∈M,x.length=8)→M.flatten.length=8 * M.length:=by
      intro M
      induction M with
      | nil=>intro _;rfl
      | cons a M ih =>
        intro h
        rw [List.flatten_cons,List.length_append,ih fun x hx=>h x (List.mem_cons_of_mem _ hx),h a (List.mem_cons_self ..),List.length_cons]
        omega
    have l1:=len (L.take k) fun x hx=>h8 x (List.mem_of_mem_take hx)
    rw [List.length_take,Nat.min_eq_left hk] at l1
    rw [e,List.take_append_of_le_length (by omega)]
theorem blks_len {rows:List (List Int)}{r:R8}(h:okM rows r) (h8:∀ x∈rows,x.length=8):(blks rows r).length=11:=by
  unfold blks
  rw [List.length_append,behind_len h h8]
  rfl
theorem cont_all {rows:List (List Int)}{f:Nat}{r:R8}(h:FileOk rows f r) (h8:∀ x∈rows,x.length=8) (hb:∀ b∈blks rows r,b=0∨(0≤b∧b < (rows.length:Int))):(((blks rows r).map (rowAt rows)).flatten).take r.s.toNat=cont rows r:=by
  have s0:=h.s0
  have s1:=h.s1
  have ek:=cntK_eq s0 s1
  unfold cont
  rw [List.map_take]
  refine flat_take _ _ _ (fun x hx=>?_) ?_ ?_
  · obtain ⟨b,hbm,rfl⟩:=List.mem_map.mp hx
    unfold rowAt
    by_cases c:b=0
    · rw [if_pos c];rfl
    · rw [if_neg c]
      have hl:b.toNat < rows.length:=by have:=(hb b hbm).resolve_left c;omega
      rw [List.getD_eq_getElem?_getD,List.getElem?_eq_getElem hl]
      exact h8 _ (List.getElem_mem hl)
  · rw [List.length_map,blks_len h.hm h8,ek]
    omega
  · rw [ek]
    omega
inductive Wd
  | path | file | far
def clsW (T:Tx K mg):Wd→Addr
  | .path=>T.C_NoPath
  | .file=>T.C_NotFile
  | .far=>T.C_TooFar
def word:Wd→Str
  | .path=>"path"
  | .file=>"file"
  | .far=>"far"
def spRefusal (T:Tx K mg):Sp:=fun vs H Q _=>∃ (ea:Addr) (wd:Wd),vs=[.ref ea]∧H ea=some (excO ea (clsW T wd) none)∧∀ H',Same H H'→Q (.str (word wd)) H'
theorem ok_refusal (T:Tx K mg):FnOkU P w K mg base 1 T.f_l_refusal T.fd_l_refusal ["_law_e"] (spRefusal T):=by
  refine T.F_l_refusal.okU sc_l_refusal (fun vs H Q E h=>?_) (fun cdv A outer s H vs Q E hr h=>?_)
  · obtain ⟨ea,wd,rfl,_⟩:=h
    rfl
  · obtain ⟨ea,wd,rfl,he,k⟩:=h
    refine ⟨_,pss_cons (ps_set (i:=1) sc_l_refusal.nd rfl (Or.inl rfl) (pe_lst pa_nil))
      (pss_cons (ps_if (pt_val (pe_callB (call_isE (K:=K) rfl) rfl T.z_isinstance (by kernel_rfl) (pa_cons (pv 0) (pa_cons (pe_glob (v:=.ref T.C_BadNumber) rfl T.g_BadNumber rfl) pa_nil)))) (pss_one (ps_expr (pe_bm PySem.F.plainAttrs_list PySem.F.slot_list_append PySem.F.type_list_append mt_append (pv 1) (pa_cons pe_str pa_nil)))) pss_nil)
      (pss_cons (ps_if (pt_val (pe_callB (call_isE (K:=K) rfl) rfl T.z_isinstance (by kernel_rfl) (pa_cons (pv 0) (pa_cons (pe_glob (v:=.ref T.C_NoPath) rfl T.g_NoPath rfl) pa_nil)))) (pss_one (ps_expr (pe_bm PySem.F.plainAttrs_list PySem.F.slot_list_append PySem.F.type_list_append mt_append (pv 1) (pa_cons pe_str pa_nil)))) pss_nil)
      (pss_cons (ps_if (pt_val (pe_callB (call_isE (K:=K) rfl) rfl T.z_isinstance (by kernel_rfl) (pa_cons (pv 0) (pa_cons (pe_glob (v:=.ref T.C_NotFile) rfl T.g_NotFile rfl) pa_nil)))) (pss_one (ps_expr (pe_bm PySem.F.plainAttrs_list PySem.F.slot_list_append PySem.F.type_list_append mt_append (pv 1) (pa_cons pe_str pa_nil)))) pss_nil)
      (pss_cons (ps_if (pt_val (pe_callB (call_isE (K:=K) rfl) rfl T.z_isinstance (by kernel_rfl) (pa_cons (pv 0) (pa_cons (pe_glob (v:=.ref T.C_NotFolder) rfl T.g_NotFolder rfl) pa_nil)))) (pss_one (ps_expr (pe_bm PySem.F.plainAttrs_list PySem.F.slot_list_append PySem.F.type_list_append mt_append (pv 1) (pa_cons pe_str pa_nil)))) pss_nil)
      (pss_cons (ps_if (pt_val (pe_callB (call_isE (K:=K) rfl) rfl T.z_isinstance (by kernel_rfl) (pa_cons (pv 0) (pa_cons (pe_glob (v:=.ref T.C_TooFar) rfl T.g_TooFar rfl) pa_nil)))) (pss_one (ps_expr (pe_bm PySem.F.plainAttrs_list PySem.F.slot_list_append PySem.F.type_list_append mt_append (pv 1) (pa_cons pe_str pa_nil)))) pss_nil)
      (pss_cons (ps_if (pt_val (pe_callB (call_isE (K:=K) rfl) rfl T.z_isinstance (by kernel_rfl) (pa_cons (pv 0) (pa_cons (pe_glob (v:=.ref T.C_Full) rfl T.g_Full rfl) pa_nil)))) (pss_one (ps_expr (pe_bm PySem.F.plainAttrs_list PySem.F.slot_list_append PySem.F.type_list_append mt_append (pv 1) (pa_cons pe_str pa_nil)))) pss_nil)
      (pss_cons (ps_if (PW.pt (pw_or (pt_cmpR op_ne (pe_callB call_len_seq rfl T.z_len PySem.boot_len (pa_cons (pv 1) pa_nil)) pe_int (nomark _)) (pw_or1 (pt_not (pt_val (pe_callB (call_isE (K:=K) rfl) rfl T.z_isinstance (by kernel_rfl) (pa_cons (pv 0) (pa_cons (pe_bltn (v:=.ty "ValueError") rfl T.z_ValueError (by kernel_rfl) rfl) pa_nil)))))))) (pss_one (ps_ret pe_str)) pss_nil)
      (pss_one (ps_ret (pe_ix ix_list (pv 1) pe_int (fun _ _=>rfl))))))))))),?_⟩
    refine ⟨(by show 0≤sizeLine;decide),fun l fl=>?_⟩
    have nl:ea≠l:=fun z=>by rw [z,fl] at he;cases he
    have s1:=Same.upd0 (o:=.lst []) fl
    have he1:=s1 _ _ he
    have hl1:upd H l (.lst []) l=some (.lst []):=upd_same
    have sF:∀ {H1:Hp} {o:HO},Same H H1→Same H (upd H1 l o):=fun s=>s.updF fl
    generalize upd H l (.lst [])=H1 at s1 he1 hl1 ⊢
    cases wd with
    | path =>
      have he2:∀ o,upd H1 l o ea=some (excO ea (clsW T .path) none):=fun o=>by rw [upd_ne nl];exact he1
      refine ⟨_,rfl,ea,T.C_NoPath,none,_,_,_,rfl,he1,.inl rfl,T.xt_NoPath,rfl,T.q_NoPath_BadNumber,_,rfl,iteF ?_⟩
      refine ⟨_,rfl,ea,T.C_NoPath,none,_,_,_,rfl,he1,.inl rfl,T.xt_NoPath,rfl,T.q_NoPath_NoPath,_,rfl,iteT ?_⟩
      refine ⟨_,rfl,.inl ⟨rfl,_,SqL.of hl1⟩,l,_,_,rfl,rfl,hl1,(by show 0 + 1≤sizeLine;decide),?_⟩
      refine ⟨_,rfl,ea,T.C_NoPath,none,_,_,_,rfl,he2 _,.inl rfl,T.xt_NoPath,rfl,T.q_NoPath_NotFile,_,rfl,iteF ?_⟩
      refine ⟨_,rfl,ea,T.C_NoPath,none,_,_,_,rfl,he2 _,.inl rfl,T.xt_NoPath,rfl,T.q_NoPath_NotFolder,_,rfl,iteF ?_⟩
      refine ⟨_,rfl,ea,T.C_NoPath,none,_,_,_,rfl,he2 _,.inl rfl,T.xt_NoPath,rfl,T.q_NoPath_TooFar,_,rfl,iteF ?_⟩
      refine ⟨_,rfl,ea,T.C_NoPath,none,_,_,_,rfl,he2 _,.inl rfl,T.xt_NoPath,rfl,T.q_NoPath_Full,_,rfl,iteF ?_⟩
      refine ⟨_,rfl,l,_,rfl,.inl (SqL.of upd_same),rfl,_,rfl,iteNS rfl ?_⟩
      refine ⟨_,rfl,ea,T.C_NoPath,none,_,_,_,rfl,he2 _,.inl rfl,T.xt_NoPath,rfl,T.v_NoPath,_,rfl,iteF ?_⟩
      exact ⟨_,rfl,l,_,0,.str "path",rfl,rfl,SqL.of upd_same,atI_nat (j:=0) rfl,k _ (sF s1)⟩
    | file =>
      have he2:∀ o,upd H1 l o ea=some (excO ea (clsW T .file) none):=fun o=>by rw [upd_ne nl];exact he1
      refine ⟨_,rfl,ea,T.C_NotFile,none,_,_,_,rfl,he1,.inl rfl,T.xt_NotFile,rfl,T.q_NotFile_BadNumber,_,rfl,iteF ?_⟩
      refine ⟨_,rfl,ea,T.C_NotFile,none,_,_,_,rfl,he1,.inl rfl,T.xt_NotFile,rfl,T.q_NotFile_NoPath,_,rfl,iteF ?_⟩
      refine ⟨_,rfl,ea,T.C_NotFile,none,_,_,_,rfl,he1,.inl rfl,T.xt_NotFile,rfl,T.q_NotFile_NotFile,_,rfl,iteT ?_⟩
      refine ⟨_,rfl,.inl ⟨rfl,_,SqL.of hl1⟩,l,_,_,rfl,rfl,hl1,(by show 0 + 1≤sizeLine;decide),?_⟩
      refine ⟨_,rfl,ea,T.C_NotFile,none,_,_,_,rfl,he2 _,.inl rfl,T.xt_NotFile,rfl,T.q_NotFile_NotFolder,_,rfl,iteF ?_⟩
      refine ⟨_,rfl,ea,T.C_NotFile,none,_,_,_,rfl,he2 _,.inl rfl,T.xt_NotFile,rfl,T.q_NotFile_TooFar,_,rfl,iteF ?_⟩
      refine ⟨_,rfl,ea,T.C_NotFile,none,_,_,_,rfl,he2 _,.inl rfl,T.xt_NotFile,rfl,T.q_NotFile_Full,_,rfl,iteF ?_⟩
      refine ⟨_,rfl,l,_,rfl,.inl (SqL.of upd_same),rfl,_,rfl,iteNS rfl ?_⟩
      refine ⟨_,rfl,ea,T.C_NotFile,none,_,_,_,rfl,he2 _,.inl rfl,T.xt_NotFile,rfl,T.v_NotFile,_,rfl,iteF ?_⟩
      exact ⟨_,rfl,l,_,0,.str "file",rfl,rfl,SqL.of upd_same,atI_nat (j:=0) rfl,k _ (sF s1)⟩
    | far =>
      have he2:∀ o,upd H1 l o ea=some (excO ea (clsW T .far) none):=fun o=>by rw [upd_ne nl];exact he1
      refine ⟨_,rfl,ea,T.C_TooFar,none,_,_,_,rfl,he1,.inl rfl,T.xt_TooFar,rfl,T.q_TooFar_BadNumber,_,rfl,iteF ?_⟩
      refine ⟨_,rfl,ea,T.C_TooFar,none,_,_,_,rfl,he1,.inl rfl,T.xt_TooFar,rfl,T.q_TooFar_NoPath,_,rfl,iteF ?_⟩
      refine ⟨_,rfl,ea,T.C_TooFar,none,_,_,_,rfl,he1,.inl rfl,T.xt_TooFar,rfl,T.q_TooFar_NotFile,_,rfl,iteF ?_⟩
      refine ⟨_,rfl,ea,T.C_TooFar,none,_,_,_,rfl,he1,.inl rfl,T.xt_TooFar,rfl,T.q_TooFar_NotFolder,_,rfl,iteF ?_⟩
      refine ⟨_,rfl,ea,T.C_TooFar,none,_,_,_,rfl,he1,.inl rfl,T.xt_TooFar,rfl,T.q_TooFar_TooFar,_,rfl,iteT ?_⟩
      refine ⟨_,rfl,.inl ⟨rfl,_,SqL.of hl1⟩,l,_,_,rfl,rfl,hl1,(by show 0 + 1≤sizeLine;decide),?_⟩
      refine ⟨_,rfl,ea,T.C_TooFar,none,_,_,_,rfl,he2 _,.inl rfl,T.xt_TooFar,rfl,T.q_TooFar_Full,_,rfl,iteF ?_⟩
      refine ⟨_,rfl,l,_,rfl,.inl (SqL.of upd_same),rfl,_,rfl,iteNS rfl ?_⟩
      refine ⟨_,rfl,ea,T.C_TooFar,none,_,_,_,rfl,he2 _,.inl rfl,T.xt_TooFar,rfl,T.v_TooFar,_,rfl,iteF ?_⟩
      exact ⟨_,rfl,l,_,0,.str "far",rfl,rfl,SqL.of upd_same,atI_nat (j:=0) rfl,k _ (sF s1)⟩
structure RfR (rows:List (List Int)) (F E:Nat) (ns:List Int) (a:Int) (m:Option Int) (wd:Wd):Prop where
  inf:InF F (fp rows F E ns)
  path:wd=.path→fp rows F E ns=none
  file:wd=.file→∃ f:Nat,fp rows F E ns=some (f:Int)∧isfl rows f=false
  far:wd=.far→(∃ f:Nat,fp rows F E ns=some (f:Int)∧isfl rows f=true)∧(a < 0∨∃ i,m=some i∧i < 0)
def spRefused (T:Tx K mg):Sp:=fun vs H Q _=>∃ (p v t:Addr) (F E:Nat) (B a:Int) (m:Option Int) (as:List Addr) (rows:List (List Int)) (ns:List Int) (wd:Wd),vs=[.ref p,.ref v,.ref t,.int a,optV m]∧VV T.C_Layout H p v F E B as rows∧SqT K H t (ns.map V.int)∧RfR rows F E ns a m wd∧∀ H',Same H H'→Q (.str (word wd)) H'
theorem ok_refused (T:Tx K mg):FnOk P w K mg base CX0 11 T.f_l_refused T.fd_l_refused ["_law_layout_here","_law_volume","_law_path_here","_law_at","_law_many"] (spRefused T):=by
  refine T.F_l_refused.ok sc_l_refused (fun vs H Q E h=>?_) (fun cdv A outer s H vs Q E hr h=>?_)
  · obtain ⟨p,v,t,F,E,B,a,m,as,rows,ns,wd,rfl,_⟩:=h
    rfl
  · obtain ⟨p,v,t,F,E,B,a,m,as,rows,ns,wd,rfl,hV,hS,R,k⟩:=h
    have r1:Room 1 _:=hr.mono (by decide)
    refine ⟨_,pss_cons (ps_try (i:=5) (C:=T.C_VolumeError) rfl T.g_VolumeError rfl rfl sc_l_refused.nd rfl rfl
        (fun W pn X hT=>pss_one (ps_expr (pe_callX (ok_read T) hr rfl T.g_read T.F_read.kp (b_read5 T) .nil hT (pa_cons (pv 0) (pa_cons (pv 1) (pa_cons (pv 2) (pa_cons (pv 3) (pa_cons (pv 4) pa_nil))))))))
        (fun ea=>pss_one (ps_ret (pe_callU (ok_refusal T) r1.mark rfl T.g_l_refusal T.F_l_refusal.kp T.b_l_refusal .nil pass0 (pa_cons (pv 5) pa_nil))))
        pss_nil)
      (pss_one (ps_ret pe_str)),?_⟩
    refine ⟨_,rfl,_,rfl,_,rfl,_,rfl,_,rfl,p,v,t,F,E,B,a,m,as,rows,ns,rfl,hV,hS,R.inf,?_,?_,?_,?_⟩
    · intro hx H1 s1
      cases wd with
      | path=>exact ⟨T.C_NoPath,rfl,T.m_NoPath,fun ea hea=>⟨_,rfl,ea,.path,rfl,upd_same,fun H2 s2=>k _ ((s1.upd hea).trans s2)⟩⟩
      | file=>obtain ⟨f,e,_⟩:=R.file rfl;rw [hx] at e;cases e
      | far=>obtain ⟨⟨f,e,_⟩,_⟩:=R.far rfl;rw [hx] at e;cases e
    · intro f hf hi H1 s1
      cases wd with
      | path=>have e:=R.path rfl;rw [hf] at e;cases e
      | file=>exact ⟨T.C_NotFile,rfl,T.m_NotFile,fun ea hea=>⟨_,rfl,ea,.file,rfl,upd_same,fun H2 s2=>k _ ((s1.upd hea).trans s2)⟩⟩
      | far =>
        obtain ⟨⟨f',e,e2⟩,_⟩:=R.far rfl
        rw [hf] at e
        have:f=f':=by have:=Option.some.inj e;omega
        rw [← this,hi] at e2
        cases e2
    · intro f hf hi _ H1 s1
      cases wd with
      | path=>have e:=R.path rfl;rw [hf] at e;cases e
      | file =>
        obtain ⟨f',e,e2⟩:=R.file rfl
        rw [hf] at e
        have:f=f':=by have:=Option.some.inj e;omega
        rw [← this,hi] at e2
        cases e2
      | far=>exact ⟨T.C_TooFar,rfl,T.m_TooFar,fun ea hea=>⟨_,rfl,ea,.far,rfl,upd_same,fun H2 s2=>k _ ((s1.upd hea).trans s2)⟩⟩
    · intro f hf hi ha hm
      exfalso
      cases wd with
      | path=>have e:=R.path rfl;rw [hf] at e;cases e
      | file =>
        obtain ⟨f',e,e2⟩:=R.file rfl
        rw [hf] at e
        have:f=f':=by have:=Option.some.inj e;omega
        rw [← this,hi] at e2
        cases e2
      | far =>
        rcases (R.far rfl).2 with z | ⟨i,e,z⟩
        · omega
        · have:=hm i e
          omega
end
end K62
namespace K62
open PySem L2 PyProof.Rows PySem.W
section
variable {P:Program}{w:World}{K:PySem.W.Frag}{mg:Str→Option Value}{base:Heap}
def fl8 (rows:List (List Int)) (bs:List Int):List Int:=(bs.map (rowAt rows)).flatten
theorem fl8_snoc (rows:List (List Int)) (bs:List Int) (b:Int):fl8 rows (bs ++ [b])=fl8 rows bs ++ rowAt rows b:=by
  unfold fl8
  rw [List.map_append,List.flatten_append]
  simp
theorem fl8_len {rows:List (List Int)}{bs:List Int}(h8:∀ x∈rows,x.length=8):(fl8 rows bs).length≤8 * bs.length:=by
  induction bs with
  | nil=>exact Nat.le_refl _
  | cons b r ih =>
    have e:fl8 rows (b :: r)=rowAt rows b ++ fl8 rows r:=rfl
    have hb:(rowAt rows b).length≤8:=by
      unfold rowAt
      split
      · decide
      · rw [List.getD_eq_getElem?_getD]
        cases e:rows[b.toNat]? with
        | none=>exact Nat.zero_le _
        | some x=>rw [Option.getD_some,h8 x (List.mem_of_getElem? e)];exact Nat.le_refl _
    rw [e,List.length_append,List.length_cons]
    omega
def spLC:Sp:=fun vs H Q _=>∃ (p v:Addr) (f:Nat) (as:List Addr) (rows:List (List Int)) (r:R8),vs=[.ref p,.ref v,.int f]∧Vol H v as rows∧(∀ x∈rows,x.length=8)∧FileOk rows f r∧(∀ b∈blks rows r,b=0∨(0≤b∧b < (rows.length:Int)))∧rows.length≤1000 ∧
  ∀ (l:Addr) (H':Hp),Same H H'→H' l=some (.lst ((cont rows r).map V.int))→Q (.ref l) H'
theorem ok_lc (T:Tx K mg):FnOk P w K mg base CX0 1 T.f_l_contents T.fd_l_contents ["_law_layout_here","_law_volume","_law_f"] spLC:=by
  refine T.F_l_contents.ok sc_l_contents (fun vs H Q E h=>?_) (fun cdv A outer s H vs Q E hr h=>?_)
  · obtain ⟨p,v,f,as,rows,r,rfl,_⟩:=h
    rfl
  · obtain ⟨p,v,f,as,rows,r,rfl,hV,h8,ok,hb,hl,k⟩:=h
    refine ⟨_,@pss_cons _ _ _ _ _ (ps_set (i:=3) sc_l_contents.nd rfl (Or.inl rfl) (pe_ix ix_list (pv 1) (pe_op op_add pe_int (pv 2)) (fun _ _=>rfl)))
      (@pss_cons _ _ _ _ _ (@ps_set _ _ 4 _ _ _ _ sc_l_contents.nd rfl (Or.inl rfl) (pe_op op_cat (pe_slice sl_list (pv 3) (po_some pe_int) (po_some pe_int)) (@pe_ints _ _ [0,0,0,0,0,0,0,0] _ rfl)) rfl (Or.inl rfl))
      (@pss_cut _ _ _ _ _ (ps_if (pt_cmpR op_ne (pe_ix ix_list (pv 3) pe_int (fun _ _=>rfl)) pe_int (nomark _)) (pss_one (ps_set (i:=4) sc_l_contents.nd rfl (Or.inl rfl) (pe_op op_cat (pe_slice sl_list (pv 3) (po_some pe_int) (po_some pe_int)) (pe_ix ix_list (pv 1) (pe_ix ix_list (pv 3) pe_int (fun _ _=>rfl)) (fun _ _=>rfl))))) pss_nil)
      (@pss_cons _ _ _ _ _ (ps_set (i:=5) sc_l_contents.nd rfl (Or.inl rfl) (pe_lst pa_nil))
      (@pss_cut _ _ _ _ _ (ps_for PassesOwn.never rfl (pi_list (pv 4)) (pg_name (i:=6) sc_l_contents.nd rfl (Or.inl rfl))
        (@pss_one _ _ _ (ps_if (pt_cmpR op_eq (pv 6) pe_int (nomark _))
          (@pss_one _ _ _ (@ps_set _ _ 5 _ _ _ _ sc_l_contents.nd rfl (Or.inl rfl) (pe_op op_cat (pv 5) (@pe_ints _ _ [0,0,0,0,0,0,0,0] _ rfl)) rfl (Or.inl rfl)))
          (pss_one (ps_set (i:=5) sc_l_contents.nd rfl (Or.inl rfl) (pe_op op_cat (pv 5) (pe_ix ix_list (pv 1) (pv 6) (fun _ _=>rfl))))))))
      (@pss_one _ _ _ (ps_ret (pe_slice sl_list (pv 5) po_none (po_some (pe_ix ix_list (pv 3) pe_int (fun _ _=>rfl)))))))))),?_⟩
    obtain ⟨a,ea,ha,har⟩:=K62.Vol.rowAt hV ok.er
    have d1:(10:Int) + (f:Int)=((10 + f:Nat):Int):=by omega
    refine ⟨_,rfl,_,rfl,_,_,rfl,rfl,v,_,_,.ref a,rfl,rfl,SqL.of hV.top,(by rw [d1];exact ha),?_⟩
    refine ⟨_,rfl,4,rfl,7,rfl,a,_,rfl,SqL.of har,fun z fz=>?_⟩
    have ec:cutV (r.list.map V.int) (some 4) (some 7)=([r.p,r.q,r.u]:List Int).map V.int:=rfl
    rw [ec]
    have s1:=Same.upd0 (o:=.lst (([r.p,r.q,r.u]:List Int).map V.int)) fz
    have hz:upd H z (.lst (([r.p,r.q,r.u]:List Int).map V.int)) z=some (.lst (([r.p,r.q,r.u]:List Int).map V.int)):=upd_same
    generalize upd H z (.lst (([r.p,r.q,r.u]:List Int).map V.int))=H1 at s1 hz ⊢
    refine ⟨(by show 8≤sizeLine;decide),fun y fy=>?_⟩
    have s2:=Same.upd0 (o:=.lst (([0,0,0,0,0,0,0,0]:List Int).map V.int)) fy
    refine ⟨z,y,_,_,rfl,rfl,s2 _ _ hz,upd_same,(by show 11≤sizeLine;decide),fun b0 fb0=>?_⟩
    have s3:=(s1.trans s2).upd (o:=.lst (([r.p,r.q,r.u]:List Int).map V.int ++ ([0,0,0,0,0,0,0,0]:List Int).map V.int)) fb0
    have hb0:upd (upd H1 y (.lst (([0,0,0,0,0,0,0,0]:List Int).map V.int))) b0 (.lst (([r.p,r.q,r.u]:List Int).map V.int ++ ([0,0,0,0,0,0,0,0]:List Int).map V.int)) b0=some (.lst (([r.p,r.q,r.u] ++ z8).map V.int)):=upd_same
    generalize upd (upd H1 y (.lst (([0,0,0,0,0,0,0,0]:List Int).map V.int))) b0 (.lst (([r.p,r.q,r.u]:List Int).map V.int ++ ([0,0,0,0,0,0,0,0]:List Int).map V.int))=H3 at s3 hb0 ⊢
    clear hz fz fy fb0 s1 s2 H1
    refine ⟨fun σ H'=>∃ bl:Addr,σ=[some (.ref p),some (.ref v),some (.int (f:Int)),some (.ref a),some (.ref bl),none,none]∧Same H H'∧H' bl=some (.lst ((blks rows r).map V.int)),?_,?_⟩
    · refine ⟨_,rfl,a,_,_,.int r.m,rfl,rfl,SqL.of (s3 _ _ har),atI_nat (j:=7) rfl,rfl,_,rfl,?_⟩
      by_cases c:r.m=0
      · refine iteNS (by rw [c]) ⟨b0,rfl,s3,?_⟩
        rw [hb0]
        unfold blks behind
        rw [if_pos c]
      · refine iteNF (int_ne c) ?_
        have hm:=ok.hm.resolve_left c
        have hmr:=List.getElem?_eq_getElem (l:=rows) (i:=r.m.toNat) (by omega)
        have eg:rows.getD r.m.toNat []=rows[r.m.toNat]'(by omega):=by rw [List.getD_eq_getElem?_getD,hmr];rfl
        generalize rows[r.m.toNat]'(by omega)=q at hmr eg
        obtain ⟨a2,ea2,ha2,har2⟩:=K62.Vol.rowAt (hV.same s3) hmr
        refine ⟨_,rfl,4,rfl,7,rfl,a,_,rfl,SqL.of (s3 _ _ har),fun z fz=>?_⟩
        rw [ec]
        have s4:=s3.upd (o:=.lst (([r.p,r.q,r.u]:List Int).map V.int)) fz
        have dm:r.m=((r.m.toNat:Nat):Int):=by omega
        refine ⟨_,rfl,_,rfl,a,_,_,.int r.m,rfl,rfl,SqL.of (s4 _ _ har),atI_nat (j:=7) rfl,v,_,_,.ref a2,rfl,rfl,SqL.of (hV.same s4).top,(by rw [dm];exact ha2),z,a2,_,_,rfl,rfl,upd_same,(Same.upd0 fz) _ _ har2,?_,fun b1 fb1=>⟨b1,rfl,s4.upd fb1,?_⟩⟩
        · rw [List.length_map,List.length_map,h8 q (List.mem_of_getElem? hmr)];show 3 + 8≤sizeLine;decide
        · rw [upd_same]
          unfold blks behind
          rw [if_neg c,eg,List.map_append]
    clear hb0 s3 H3
    rintro σ H3 ⟨bl,rfl,s3,hbl⟩
    refine ⟨(by show 0≤sizeLine;decide),fun f0 ff0=>?_⟩
    have s4:=s3.upd (o:=.lst []) ff0
    have hbl4:=(Same.upd0 (o:=.lst []) ff0) _ _ hbl
    have hf0:upd H3 f0 (.lst []) f0=some (.lst ((fl8 rows []).map V.int)):=upd_same
    generalize upd H3 f0 (.lst [])=H4 at s4 hbl4 hf0 ⊢
    have l11:=blks_len ok.hm h8
    refine ⟨fun σ H'=>∃ (fo:Addr) (x6:Option V),σ=[some (.ref p),some (.ref v),some (.int (f:Int)),some (.ref a),some (.ref bl),some (.ref fo),x6]∧Same H4 H'∧H' fo=some (.lst ((fl8 rows (blks rows r)).map V.int)),?_,?_⟩
    · refine ⟨_,rfl,bl,rfl,⟨_,SqL.of hbl4⟩,for_list (K:=K) (a:=bl) (xs:=(blks rows r).map V.int) (fun i σ H'=>∃ (fo:Addr) (x6:Option V),σ=[some (.ref p),some (.ref v),some (.int (f:Int)),some (.ref a),some (.ref bl),some (.ref fo),x6]∧Same H4 H'∧H' fo=some (.lst ((fl8 rows ((blks rows r).take i)).map V.int)))
        ⟨f0,none,rfl,Same.refl _,hf0⟩ (fun i σ H' _ ⟨_,_,_,sH,_⟩=>SqL.of (sH _ _ hbl4)) ?_ ?_⟩
      · rintro i x σ H5 hx ⟨fo,x6,rfl,s5,hfo⟩
        rw [List.getElem?_map] at hx
        cases et:(blks rows r)[i]? with
        | none=>rw [et] at hx;cases hx
        | some b =>
          rw [et] at hx
          cases hx
          have hi:i < 11:=by rw [← l11];exact (List.getElem?_eq_some_iff.mp et).1
          have hfl:(fl8 rows ((blks rows r).take i)).length + 8≤100:=by
            have:=fl8_len (rows:=rows) (bs:=(blks rows r).take i) h8
            rw [List.length_take] at this
            omega
          have s45:=s4.trans s5
          refine ⟨_,rfl,rfl,_,rfl,?_⟩
          by_cases c:b=0
          · refine iteD (by rw [c]) ⟨_,rfl,(by show 8≤sizeLine;decide),fun y fy=>?_⟩
            have s6:=Same.upd0 (o:=.lst (([0,0,0,0,0,0,0,0]:List Int).map V.int)) fy
            refine ⟨fo,y,_,_,rfl,rfl,s6 _ _ hfo,upd_same,?_,fun g fg=>⟨g,_,rfl,(s5.trans s6).upd fg,?_⟩⟩
            · rw [List.length_map];exact Nat.le_trans hfl (by decide)
            · rw [upd_same,take_snoc et,fl8_snoc,List.map_append]
              unfold rowAt
              rw [if_pos c]
          · refine iteDF (int_ne c) ?_
            have hbr:=(hb b (List.mem_of_getElem? et)).resolve_left c
            have hmr:=List.getElem?_eq_getElem (l:=rows) (i:=b.toNat) (by omega)
            have eg:rows.getD b.toNat []=rows[b.toNat]'(by omega):=by rw [List.getD_eq_getElem?_getD,hmr];rfl
            generalize rows[b.toNat]'(by omega)=q at hmr eg
            obtain ⟨a2,ea2,ha2,har2⟩:=K62.Vol.rowAt (hV.same s45) hmr
            have dm:b=((b.toNat:Nat):Int):=by omega
            refine ⟨_,rfl,_,rfl,_,rfl,v,_,_,.ref a2,rfl,rfl,SqL.of (hV.same s45).top,(by rw [dm];exact ha2),fo,a2,_,_,rfl,rfl,hfo,har2,?_,fun g fg=>⟨g,_,rfl,s5.upd fg,?_⟩⟩
            · rw [List.length_map,List.length_map,h8 q (List.mem_of_getElem? hmr)];exact Nat.le_trans hfl (by decide)
            · rw [upd_same,take_snoc et,fl8_snoc,List.map_append]
              unfold rowAt
              rw [if_neg c,eg]
      rintro σ H5 ⟨fo,x6,rfl,s5,hfo⟩
      rw [List.length_map,List.take_length] at hfo
      exact ⟨fo,x6,rfl,s5,hfo⟩
    rintro σ H5 ⟨fo,x6,rfl,s5,hfo⟩
    have s45:=s4.trans s5
    refine ⟨_,rfl,_,rfl,a,_,_,.int r.s,rfl,rfl,SqL.of (s45 _ _ har),atI_nat (j:=1) rfl,r.s,rfl,fo,_,rfl,SqL.of hfo,fun l fl=>k l _ (s45.upd fl) ?_⟩
    rw [upd_same,cut_toJ _ ok.s0]
    have:=cont_all ok h8 hb
    unfold fl8
    rw [this]
end
end K62
namespace K62
open PySem L2 PyProof.Rows PySem.W
section
variable {P:Program}{w:World}{K:PySem.W.Frag}{mg:Str→Option Value}{base:Heap}
def endL (n a:Nat):Option Int→Int
  | none=>(n:Int)
  | some i=>(a:Int) + i
theorem cut_rd (xs:List Int) (a:Nat) (m:Option Int) (hm:∀ i,m=some i→0≤i):cutV (xs.map V.int) (some (a:Int)) (some (endL xs.length a m))=(readL xs a m).map V.int:=by
  have key:∀ e:Nat,cutV (xs.map V.int) (some (a:Int)) (some (e:Int))=((xs.drop (min a xs.length)).take (min e xs.length - min a xs.length)).map V.int:=fun e=>by
    unfold cutV
    rw [HT.sIx_nat,HT.sIx_nat,List.length_map,List.map_take,List.map_drop]
  cases m with
  | none =>
    show cutV (xs.map V.int) (some (a:Int)) (some ((xs.length:Nat):Int))=(xs.drop a).map V.int
    rw [key,Nat.min_self]
    congr 1
    by_cases h:a≤xs.length
    · rw [Nat.min_eq_left h,List.take_of_length_le (by rw [List.length_drop];exact Nat.le_refl _)]
    · rw [Nat.min_eq_right (by omega),Nat.sub_self,List.take_zero,List.drop_of_length_le (by omega)]
  | some i =>
    obtain ⟨n,rfl⟩:=Int.eq_ofNat_of_zero_le (hm i rfl)
    show cutV (xs.map V.int) (some (a:Int)) (some ((a:Int) + (n:Int)))=((xs.drop a).take n).map V.int
    rw [show (a:Int) + (n:Int)=((a + n:Nat):Int) by omega,key]
    congr 1
    by_cases h:a≤xs.length
    · rw [Nat.min_eq_left h,List.take_eq_take_iff,List.length_drop]
      omega
    · rw [show min a xs.length=xs.length by omega,List.drop_of_length_le (Nat.le_refl _),List.drop_of_length_le (by omega)]
      simp
theorem five_at (x0 x1 x2 x3 x4:V) {i:Int}(h0:0≤i) (h1:i < 5):∃ y,y∈[x0,x1,x2,x3,x4]∧atI [x0,x1,x2,x3,x4] i=some y:=by
  obtain ⟨n,rfl⟩:=Int.eq_ofNat_of_zero_le h0
  have hn:n < 5:=by omega
  have e:([x0,x1,x2,x3,x4]:List V)[n]?=some ([x0,x1,x2,x3,x4][n]'hn):=List.getElem?_eq_getElem hn
  exact ⟨_,List.getElem_mem hn,atI_nat e⟩
structure FR (rows:List (List Int)) (F E:Nat) (ns:List Int) (f:Nat) (r:R8):Prop where
  inf:InF F (fp rows F E ns)
  hfp:fp rows F E ns=some (f:Int)
  fl:isfl rows f=true
  ok:FileOk rows f r
theorem FR.told {T:Tx K mg}{rows:List (List Int)}{F E:Nat}{ns:List Int}{f:Nat}{r:R8}{a:Int}{m:Option Int}(h:FR rows F E ns f r) (ha:0≤a) (hm:∀ i,m=some i→0≤i) {f':Nat}(e:fp rows F E ns=some (f':Int)):f'=f:=by
  rw [h.hfp] at e
  have:=Option.some.inj e
  omega
def ReadP (T:Tx K mg) (rows:List (List Int)) (F E:Nat) (ns:List Int) (a:Int) (m:Option Int) (H:Hp) (Q:VK) (X:XK):Prop :=
  InF F (fp rows F E ns) ∧
  (fp rows F E ns=none→∀ H',Same H H'→X (.ref T.C_NoPath) none H')∧(∀ f:Nat,fp rows F E ns=some (f:Int)→isfl rows f=false→∀ H',Same H H'→X (.ref T.C_NotFile) none H') ∧
  (∀ f:Nat,fp rows F E ns=some (f:Int)→isfl rows f=true→(a < 0∨∃ i,m=some i∧i < 0)→∀ H',Same H H'→X (.ref T.C_TooFar) none H') ∧
  (∀ f:Nat,fp rows F E ns=some (f:Int)→isfl rows f=true→0≤a→(∀ i,m=some i→0≤i)→∃ r,FileOk rows f r∧∀ (l:Addr) (H':Hp),Same H H'→H l=none→H' l=some (.lst ((readL (cont rows r) a.toNat m).map V.int))→Q (.ref l) H')
theorem FR.reads {T:Tx K mg}{rows:List (List Int)}{F E:Nat}{ns:List Int}{f:Nat}{r:R8}{a:Int}{m:Option Int}{H:Hp}{Q:VK}{X:XK}(h:FR rows F E ns f r) (ha:0≤a) (hm:∀ i,m=some i→0≤i)
    (k:∀ (l:Addr) (H':Hp),Same H H'→H l=none→H' l=some (.lst ((readL (cont rows r) a.toNat m).map V.int))→Q (.ref l) H'):ReadP T rows F E ns a m H Q X:=by
  refine ⟨h.inf,fun e=>?_,fun f' e hi=>?_,fun f' _ _ z=>?_,fun f' e _ _ _=>?_⟩
  · rw [h.hfp] at e;cases e
  · rw [h.told (T:=T) ha hm e,h.fl] at hi;cases hi
  · rcases z with z | ⟨i,z1,z2⟩
    · omega
    · have:=hm i z1;omega
  · have:=h.told (T:=T) ha hm e
    subst this
    exact ⟨r,h.ok,k⟩
theorem ok_readP (T:Tx K mg):FnOk P w K mg base (CX1 P w) 10 T.f_read T.fd_read ["layout","volume","path","at","many"] (fun vs H Q X=>∃ (p v t:Addr) (F E:Nat) (B a:Int) (m:Option Int) (as:List Addr) (rows:List (List Int)) (ns:List Int),vs=[.ref p,.ref v,.ref t,.int a,optV m]∧VV T.C_Layout H p v F E B as rows∧SqT K H t (ns.map V.int)∧ReadP T rows F E ns a m H Q X) :=
  (ok_read T).imp fun vs H Q X ⟨p,v,t,F,E,B,a,m,as,rows,ns,e,hV,hS,h⟩=>⟨p,v,t,F,E,B,a,m,as,rows,ns,e,hV,hS,h⟩
def spPart (T:Tx K mg):Sp:=fun vs H Q _=>∃ (p v t d:Addr) (F E:Nat) (B c:Int) (as:List Addr) (rows:List (List Int)) (ns:List Int) (f:Nat) (r:R8),vs=[.ref p,.ref v,.ref t,.ref d,.int c]∧VV T.C_Layout H p v F E B as rows∧SqT K H t (ns.map V.int)∧FR rows F E ns f r∧H d=some (.lst ((cont rows r).map V.int))∧(cont rows r).length≤100∧0≤c∧∀ H',Same H H'→Q (.bl true) H'
theorem ok_part (T:Tx K mg):FnOk P w K mg base CX0 11 T.f_l_part T.fd_l_part ["_law_layout_here","_law_volume","_law_path_here","_law_due","_law_cell_here"] (spPart T):=by
  refine T.F_l_part.ok sc_l_part (fun vs H Q E h=>?_) (fun cdv A outer s H vs Q E hr h=>?_)
  · obtain ⟨p,v,t,d,F,E,B,c,as,rows,ns,f,r,rfl,_⟩:=h
    rfl
  · obtain ⟨p,v,t,d,F,E,B,c,as,rows,ns,f,r,rfl,hV,hS,R,hd,hl,c0,k⟩:=h
    have hu:_ + 60 < cLine:=Nat.lt_of_le_of_lt (Nat.add_le_add_left (by decide:60≤64) _) hr.units
    refine ⟨_,@pss_cut _ _ _ _ _ (@ps_set _ _ 5 _ _ _ _ sc_l_part.nd rfl (Or.inl rfl) (@pe_ix _ _ _ _ _ _ _ ix_list (@pe_lst _ _ _ _ (@pa_cons _ _ _ _ _ (pe_op op_mod (pv 4) pe_int) (@pa_cons _ _ _ _ _ (pe_callB call_len_seq rfl T.z_len PySem.boot_len (pa_cons (pv 3) pa_nil)) (@pa_cons _ _ _ _ _ pe_int (@pa_cons _ _ _ _ _ pe_int (@pa_cons _ _ _ _ _ (pe_callB (call_max2 rfl) rfl T.z_max (by kernel_rfl) (pa_cons pe_int (pa_cons (pe_op op_sub (pe_callB call_len_seq rfl T.z_len PySem.boot_len (pa_cons (pv 3) pa_nil)) pe_int) pa_nil))) pa_nil rfl) rfl) rfl) rfl) rfl)) (pe_op op_mod (pe_op op_fdiv (pv 4) pe_int) pe_int) (fun _ _=>rfl)) rfl (Or.inl rfl))
      (@pss_cut _ _ _ _ _ (@ps_set _ _ 6 _ _ _ _ sc_l_part.nd rfl (Or.inl rfl) (@pe_ix _ _ _ _ _ _ _ ix_list (@pe_lst _ _ _ _ (@pa_cons _ _ _ _ _ (pe_op op_mod (pe_op op_fdiv (pv 4) pe_int) pe_int) (@pa_cons _ _ _ _ _ pe_non (@pa_cons _ _ _ _ _ pe_int (@pa_cons _ _ _ _ _ pe_int (@pa_cons _ _ _ _ _ (pe_callB call_len_seq rfl T.z_len PySem.boot_len (pa_cons (pv 3) pa_nil)) pa_nil rfl) rfl) rfl) rfl) rfl)) (pe_op op_mod (pe_op op_fdiv (pv 4) pe_int) pe_int) (fun _ _=>rfl)) rfl (Or.inl rfl))
      (@pss_cons _ _ _ _ _ (ps_set (i:=7) sc_l_part.nd rfl (Or.inl rfl) (pe_callB call_len_seq rfl T.z_len PySem.boot_len (pa_cons (pv 3) pa_nil)))
      (@pss_cut _ _ _ _ _ (ps_if (pt_cmpR op_notN (pv 6) pe_non (nomark _)) (pss_one (ps_set (i:=7) sc_l_part.nd rfl (Or.inl rfl) (pe_op op_add (pv 5) (pv 6)))) pss_nil)
      (@pss_cons _ _ _ _ _ (ps_set (i:=8) sc_l_part.nd rfl (Or.inl rfl) (pe_callX (ok_readP T) hr rfl T.g_read T.F_read.kp (b_read5 T) .nil takes0 (pa_cons (pv 0) (pa_cons (pv 1) (pa_cons (pv 2) (pa_cons (pv 5) (pa_cons (pv 6) pa_nil)))))))
      (@pss_cons _ _ _ _ _ (ps_if (PW.pt (pw_or (pt_not (pt_val (pe_callB call_isT rfl T.z_isinstance (by kernel_rfl) (pa_cons (pv 8) (pa_cons (pe_bltn (v:=.ty "list") rfl T.z_list (by kernel_rfl) rfl) pa_nil))))) (pw_or1 (pt_cmpR (op_neT hu) (pv 8) (pe_slice sl_list (pv 3) (po_some (pv 5)) (po_some (pv 7))) (nomark _))))) (pss_one (ps_ret pe_bl)) pss_nil)
      (@pss_cons _ _ _ _ _ (ps_expr (pe_bm PySem.F.plainAttrs_list PySem.F.slot_list_append PySem.F.type_list_append mt_append (pv 8) (pa_cons pe_int pa_nil)))
      (@pss_one _ _ _ (ps_ret (pe_cmpR (op_eqT hu) (pe_callX (ok_readP T) hr rfl T.g_read T.F_read.kp (b_read5 T) .nil takes0 (pa_cons (pv 0) (pa_cons (pv 1) (pa_cons (pv 2) (pa_cons (pv 5) (pa_cons (pv 6) pa_nil)))))) (pe_slice sl_list (pv 3) (po_some (pv 5)) (po_some (pv 7))) (nomark _)))))))))),?_⟩
    refine ⟨fun σ H'=>∃ a:Nat,σ=[some (.ref p),some (.ref v),some (.ref t),some (.ref d),some (.int c),some (.int (a:Int)),none,none,none]∧Same H H',?_,?_⟩
    · obtain ⟨y,hy,hat⟩:=five_at (.int (c % 100)) (.int (((cont rows r).map V.int).length:Int)) (.int 0) (.int 88) (.int (if (((cont rows r).map V.int).length:Int) - 1 > 0 then (((cont rows r).map V.int).length:Int) - 1 else 0)) (i:=c / 100 % 5) (by omega) (by omega)
      have hn:∃ a:Nat,y=.int (a:Int):=by
        have:∃ x:Int,y=.int x∧0≤x:=by
          simp only [List.mem_cons,List.not_mem_nil,or_false] at hy
          rcases hy with h | h | h | h | h
          · exact ⟨_,h,by omega⟩
          · exact ⟨_,h,by omega⟩
          · exact ⟨_,h,by omega⟩
          · exact ⟨_,h,by omega⟩
          · refine ⟨_,h,?_⟩
            split<;>omega
        obtain ⟨x,e,h⟩:=this
        exact ⟨x.toNat,by rw [e,Int.toNat_of_nonneg h]⟩
      obtain ⟨a,rfl⟩:=hn
      refine ⟨_,rfl,_,_,rfl,rfl,(by show (0:Int) < 100;decide),_,rfl,d,_,rfl,.inl (SqL.of hd),_,rfl,d,_,rfl,.inl (SqL.of hd),_,_,rfl,rfl,_,_,rfl,(by show 5≤sizeLine;decide),fun q fq=>?_⟩
      exact ⟨_,rfl,_,_,rfl,rfl,⟨by decide,by decide⟩,_,_,rfl,rfl,(by show (0:Int) < 5;decide),q,_,_,_,rfl,rfl,SqL.of upd_same,hat,a,rfl,Same.upd0 fq⟩
    rintro σ H1 ⟨a,rfl,s1⟩
    refine ⟨fun σ H'=>∃ m:Option Int,(∀ i,m=some i→0≤i)∧σ=[some (.ref p),some (.ref v),some (.ref t),some (.ref d),some (.int c),some (.int (a:Int)),some (optV m),none,none]∧Same H1 H',?_,?_⟩
    · have hd1:=s1 _ _ hd
      obtain ⟨y,hy,hat⟩:=five_at (.int (c / 500 % 100)) .non (.int 1) (.int 0) (.int (((cont rows r).map V.int).length:Int)) (i:=c / 50000 % 5) (by omega) (by omega)
      have hn:∃ m:Option Int,(∀ i,m=some i→0≤i)∧y=optV m:=by
        simp only [List.mem_cons,List.not_mem_nil,or_false] at hy
        rcases hy with h | h | h | h | h
        · exact ⟨some _,fun i e=>(by cases e;omega),h⟩
        · exact ⟨none,fun i e=>(nomatch e),h⟩
        · exact ⟨some _,fun i e=>(by cases e;omega),h⟩
        · exact ⟨some _,fun i e=>(by cases e;omega),h⟩
        · exact ⟨some _,fun i e=>(by cases e;omega),h⟩
      obtain ⟨m,hm,rfl⟩:=hn
      refine ⟨_,rfl,_,_,rfl,rfl,⟨by decide,by decide⟩,_,_,rfl,rfl,(by show (0:Int) < 100;decide),_,rfl,d,_,rfl,.inl (SqL.of hd1),(by show 5≤sizeLine;decide),fun q fq=>?_⟩
      exact ⟨_,rfl,_,_,rfl,rfl,⟨by decide,by decide⟩,_,_,rfl,rfl,(by show (0:Int) < 5;decide),q,_,_,_,rfl,rfl,SqL.of upd_same,hat,m,hm,rfl,Same.upd0 fq⟩
    rintro σ H2 ⟨m,hm,rfl,s2⟩
    have s12:=s1.trans s2
    have hd2:=s12 _ _ hd
    refine ⟨_,rfl,d,_,rfl,.inl (SqL.of hd2),?_⟩
    refine ⟨fun σ H'=>σ=[some (.ref p),some (.ref v),some (.ref t),some (.ref d),some (.int c),some (.int (a:Int)),some (optV m),some (.int (endL (cont rows r).length a m)),none]∧H'=H2,?_,?_⟩
    · refine ⟨_,rfl,rfl,_,rfl,?_⟩
      cases m with
      | none =>
        refine iteBF rfl ⟨?_,rfl⟩
        rw [List.length_map]
        rfl
      | some i=>exact iteB rfl ⟨_,rfl,_,rfl,(a:Int),i,rfl,rfl,rfl,rfl⟩
    rintro σ H3 ⟨rfl,eH⟩
    rw [eH]
    have ha:(0:Int)≤(a:Int):=Int.natCast_nonneg a
    have ec:=cut_rd (cont rows r) a m hm
    refine ⟨_,rfl,_,rfl,_,rfl,_,rfl,_,rfl,p,v,t,F,E,B,(a:Int),m,as,rows,ns,rfl,hV.same s12,s12.seqT hS,R.reads ha hm fun l H4 s4 fl hl4=>?_⟩
    rw [Int.toNat_natCast] at hl4
    refine ⟨_,rfl,_,_,_,true,rfl,TyOf.lst hl4,rfl,true,rfl,iteF ?_⟩
    have hlr:(readL (cont rows r) a m).length≤100:=by
      cases m with
      | none=>show ((cont rows r).drop a).length≤100;rw [List.length_drop];omega
      | some i=>show (((cont rows r).drop a).take i.toNat).length≤100;rw [List.length_take,List.length_drop];omega
    refine ⟨_,rfl,_,rfl,_,rfl,(a:Int),rfl,_,rfl,_,rfl,d,_,rfl,SqL.of (s4 _ _ hd2),fun z fz=>?_⟩
    rw [ec]
    have s5:=Same.upd0 (o:=.lst ((readL (cont rows r) a m).map V.int)) fz
    refine ⟨l,z,1,1,_,_,rfl,rfl,by decide,by decide,holds_ints (SqL.of (s5 _ _ hl4)),holds_ints (SqL.of upd_same),(fun _ h=>nomatch h),(fun _ h=>nomatch h),_,rfl,iteBF (by rw [eqT_I];simp) ?_⟩
    have hl5:=s5 _ _ hl4
    have s25:=s4.trans s5
    generalize upd H4 z (.lst ((readL (cont rows r) a m).map V.int))=H5 at s5 hl5 s25 ⊢
    refine ⟨_,rfl,.inl ⟨rfl,_,SqL.of hl5⟩,l,_,_,rfl,rfl,hl5,small1000 (by rw [List.length_map];omega),?_⟩
    have s6:Same H2 (upd H5 l (.lst ((readL (cont rows r) a m).map V.int ++ [.int 7]))):=s25.updF fl
    generalize upd H5 l (.lst ((readL (cont rows r) a m).map V.int ++ [.int 7]))=H6 at s6 ⊢
    have s16:=s12.trans s6
    refine ⟨_,rfl,_,rfl,_,rfl,_,rfl,_,rfl,p,v,t,F,E,B,(a:Int),m,as,rows,ns,rfl,hV.same s16,s16.seqT hS,R.reads ha hm fun l2 H7 s7 fl2 hl7=>?_⟩
    rw [Int.toNat_natCast] at hl7
    refine ⟨_,rfl,_,rfl,(a:Int),rfl,_,rfl,_,rfl,d,_,rfl,SqL.of ((s16.trans s7) _ _ hd),fun z2 fz2=>?_⟩
    rw [ec]
    have s8:=Same.upd0 (o:=.lst ((readL (cont rows r) a m).map V.int)) fz2
    refine ⟨l2,z2,1,1,_,_,rfl,rfl,by decide,by decide,holds_ints (SqL.of (s8 _ _ hl7)),holds_ints (SqL.of upd_same),(fun _ h=>nomatch h),(fun _ h=>nomatch h),?_⟩
    show Q (.bl (eqT (trI (readL (cont rows r) a m)) (trI (readL (cont rows r) a m)))) _
    rw [eqT_I,decide_eq_true rfl]
    exact k _ ((s16.trans s7).trans s8)
end
end K62
namespace K62
open PySem L2 PyProof.Rows PySem.W
section
variable {P:Program}{w:World}{K:PySem.W.Frag}{mg:Str→Option Value}{base:Heap}
theorem ok_file (T:Tx K mg):FnOk P w K mg base CX0 12 T.f_l_file T.fd_l_file ["_law_layout_here","_law_volume","_law_path_here","_law_due","_law_cell_here"] (spPart T):=by
  obtain ⟨t3,b3⟩:=b_read3 T
  refine T.F_l_file.ok sc_l_file (fun vs H Q E h=>?_) (fun cdv A outer s H vs Q E hr h=>?_)
  · obtain ⟨p,v,t,d,F,E,B,c,as,rows,ns,f,r,rfl,_⟩:=h
    rfl
  · obtain ⟨p,v,t,d,F,E,B,c,as,rows,ns,f,r,rfl,hV,hS,R,hd,hl100,c0,k⟩:=h
    have r1:Room 1 _:=hr.mono (by decide)
    have r10:Room 10 _:=hr.mono (by decide)
    have hu:_ + 60 < cLine:=Nat.lt_of_le_of_lt (Nat.add_le_add_left (by decide:60≤64) _) hr.units
    refine ⟨_,@pss_cons _ _ _ _ _ (ps_set (i:=5) sc_l_file.nd rfl (Or.inl rfl) (pe_callX (ok_readP T) r10 rfl T.g_read T.F_read.kp b3 (vs_r3 t3) takes0 (pa_cons (pv 0) (pa_cons (pv 1) (pa_cons (pv 2) pa_nil)))))
      (@pss_cons _ _ _ _ _ (ps_if (PW.pt (pw_or (pt_not (pt_val (pe_callB call_isT rfl T.z_isinstance (by kernel_rfl) (pa_cons (pv 5) (pa_cons (pe_bltn (v:=.ty "list") rfl T.z_list (by kernel_rfl) rfl) pa_nil)))))
          (pw_or (pt_cmpR (op_neT hu) (pv 5) (pv 3) (nomark _))
          (pw_or1 (pt_cmpR (op_neT hu) (pe_comp (N':=["_law_one"]) (cap:=[none]) rfl (compOk_of (by kernel_rfl)) (pi_list (pv 5)) (fun cells C s₀ H₀ fp pins=>⟨pg_name (i:=0) ndp1 rfl (Or.inl rfl) (.inr rfl),pifs_one (pt_val (pe_callB (call_isTK (K:=K) rfl) rfl T.z_isinstance (by kernel_rfl) (pa_cons (pv 0) (pa_cons (pe_bltn (v:=.ty "bool") rfl T.z_bool (by kernel_rfl) rfl) pa_nil)))),pv 0⟩)) (pe_lst pa_nil) (nomark _)))))) (pss_one (ps_ret pe_bl)) pss_nil)
      (@pss_cons _ _ _ _ _ (ps_if (pt_cmpR (op_neT hu) (pe_callX (ok_readP T) r10 rfl T.g_read T.F_read.kp (b_read4 T) vs_r4 takes0 (pa_cons (pv 0) (pa_cons (pv 1) (pa_cons (pv 2) (pa_cons (pe_op op_mod (pv 4) pe_int) pa_nil))))) (pe_slice sl_list (pv 3) (po_some (pe_op op_mod (pv 4) pe_int)) po_none) (nomark _)) (pss_one (ps_ret pe_bl)) pss_nil)
      (@pss_cut _ _ _ _ _ (ps_for PassesOwn.never rfl (pi_range1 rfl T.z_range (pa_cons pe_int pa_nil)) (pg_name (i:=6) sc_l_file.nd rfl (Or.inl rfl))
        (@pss_one _ _ _ (ps_if (pt_not (pt_val (pe_call (ok_part T) hr rfl T.g_l_part T.F_l_part.kp T.b_l_part .nil pass0 (pa_cons (pv 0) (pa_cons (pv 1) (pa_cons (pv 2) (pa_cons (pv 3) (pa_cons (pe_call (ok_mixed T) r1 rfl T.g_l_mixed T.F_l_mixed.kp T.b_l_mixed .nil pass0 (pa_cons (pv 4) (pa_cons (pv 6) pa_nil))) pa_nil)))))))) (pss_one (ps_ret pe_bl)) pss_nil)))
      (@pss_cons _ _ _ _ _ (ps_if (pt_cmpR op_ne (pe_call (ok_refused T) hr rfl T.g_l_refused T.F_l_refused.kp T.b_l_refused .nil pass0 (pa_cons (pv 0) (pa_cons (pv 1) (pa_cons (pv 2) (pa_cons (pe_op op_sub (pe_un un_neg pe_int) (pe_op op_mod (pv 4) pe_int)) (pa_cons pe_int pa_nil)))))) pe_str (nomark _)) (pss_one (ps_ret pe_bl)) pss_nil)
      (@pss_one _ _ _ (ps_ret (pe_cmpR op_eq (pe_call (ok_refused T) hr rfl T.g_l_refused T.F_l_refused.kp T.b_l_refused .nil pass0 (pa_cons (pv 0) (pa_cons (pv 1) (pa_cons (pv 2) (pa_cons pe_int (pa_cons (pe_op op_sub (pe_un un_neg pe_int) (pe_op op_mod (pv 4) pe_int)) pa_nil)))))) pe_str (nomark _)))))))),?_⟩
    have no:∀ i,(none:Option Int)=some i→0≤i:=fun i e=>(nomatch e)
    refine ⟨_,rfl,_,rfl,_,rfl,p,v,t,F,E,B,0,none,as,rows,ns,rfl,hV,hS,R.reads (by decide) no fun l H1 s1 fl hl=>?_⟩
    have hl:H1 l=some (.lst ((cont rows r).map V.int)):=hl
    refine ⟨_,rfl,_,_,_,true,rfl,TyOf.lst hl,rfl,true,rfl,iteF ?_⟩
    refine ⟨_,rfl,_,rfl,l,d,1,1,_,_,rfl,rfl,by decide,by decide,holds_ints (SqL.of hl),holds_ints (SqL.of (s1 _ _ hd)),(fun _ h=>nomatch h),(fun _ h=>nomatch h),_,rfl,iteBF (by rw [eqT_I];simp) ?_⟩
    refine ⟨_,rfl,l,rfl,⟨_,SqL.of hl⟩,?_⟩
    refine comp_list (cap:=[none]) (K:=K) (a:=l) (xs:=(cont rows r).map V.int) (small_len (by rw [List.length_map];omega)) (fun i ys σ H3=>i≤(cont rows r).length∧ys=[]∧σ.length=1∧H3=H1)
      (by exact ⟨Nat.zero_le _,rfl,rfl,rfl⟩) (fun i ys σ H3 ⟨h1,h2,h3,h4⟩=>⟨by rw [List.length_map];exact h1,by rw [h2];exact Nat.zero_le _,by rw [h4];exact SqL.of hl⟩) ?_ ?_
    · rintro j z ys σ' H3 hz ⟨h1,rfl,h3,rfl⟩
      rw [List.getElem?_map] at hz
      cases en:(cont rows r)[j]? with
      | none=>rw [en] at hz;cases hz
      | some n =>
        rw [en] at hz
        cases hz
        have hj:j < (cont rows r).length:=(List.getElem?_eq_some_iff.mp en).1
        match σ',h3 with
        | [z0],_=>exact ⟨_,rfl,_,_,_,false,rfl,TyOf.int n,rfl,false,rfl,iteF ⟨hj,rfl,rfl,rfl⟩⟩
    rintro ys σ' H3 ⟨h1,rfl,h3,eH⟩ Dm hDm
    rw [eH] at hDm ⊢
    refine ⟨(by show 0≤sizeLine;decide),fun z fz=>?_⟩
    refine ⟨Dm,z,1,1,.lst [],.lst [],rfl,rfl,by decide,by decide,holds_flatsL (xs:=[]) (SqL.of ((Same.upd0 fz) _ _ upd_same)) rfl,holds_flatsL (xs:=[]) (SqL.of upd_same) rfl,(fun _ h=>nomatch h),(fun _ h=>nomatch h),_,rfl,iteBF rfl ?_⟩
    have S1:=(Same.upd0 (o:=.lst []) hDm).upd (o:=.lst []) fz
    have s4:=s1.trans S1
    generalize upd (upd H1 Dm (.lst [])) z (.lst [])=H4 at S1 s4 ⊢
    have hc:(0:Int)≤c % 90:=Int.emod_nonneg _ (by decide)
    refine ⟨_,rfl,_,rfl,_,rfl,_,rfl,_,_,rfl,rfl,(by show (0:Int) < 90;decide),p,v,t,F,E,B,c % 90,none,as,rows,ns,rfl,hV.same s4,s4.seqT hS,R.reads hc no fun l2 H5 s5 fl2 hl2=>?_⟩
    refine ⟨_,rfl,_,rfl,_,_,rfl,rfl,(by show (0:Int) < 90;decide),_,rfl,d,_,rfl,SqL.of ((s4.trans s5) _ _ hd),fun y fy=>?_⟩
    rw [cut_frI _ hc]
    have s6:=Same.upd0 (o:=.lst (((cont rows r).drop (c % 90).toNat).map V.int)) fy
    refine ⟨l2,y,1,1,_,_,rfl,rfl,by decide,by decide,holds_ints (SqL.of (s6 _ _ hl2)),holds_ints (SqL.of upd_same),(fun _ h=>nomatch h),(fun _ h=>nomatch h),_,rfl,iteBF (by rw [eqT_I];simp [readL]) ?_⟩
    have s7:=(s4.trans s5).trans s6
    generalize upd H5 y (.lst (((cont rows r).drop (c % 90).toNat).map V.int))=H7 at s7 ⊢
    refine ⟨fun σ H'=>∃ x6,σ=[some (.ref p),some (.ref v),some (.ref t),some (.ref d),some (.int c),some (.ref l),x6]∧Same H H',?_,?_⟩
    · refine ⟨3,rfl,by decide,by decide,?_⟩
      refine for_range (lo:=0) (n:=3) (fun i σ H'=>∃ x6,σ=[some (.ref p),some (.ref v),some (.ref t),some (.ref d),some (.int c),some (.ref l),x6]∧Same H H')
        ⟨none,rfl,s7⟩ ?_ ?_
      · rintro i σ H8 hi ⟨x6,rfl,s8⟩
        exact ⟨_,rfl,_,rfl,_,rfl,_,rfl,_,rfl,_,rfl,_,_,rfl,p,v,t,d,F,E,B,_,as,rows,ns,f,r,rfl,hV.same s8,s8.seqT hS,R,s8 _ _ hd,hl100,mix_lo _ _,fun H9 s9=>⟨true,rfl,iteF ⟨_,rfl,s8.trans s9⟩⟩⟩
      rintro σ H8 h
      exact h
    rintro σ H8 ⟨x6,rfl,s8⟩
    have hc9:(-1:Int) - c % 9 < 0:=by omega
    have far:∀ (a:Int) (m:Option Int),(a < 0∨∃ i,m=some i∧i < 0)→RfR rows F E ns a m .far:=fun a m h=>⟨R.inf,fun e=>(nomatch e),fun e=>(nomatch e),fun _=>⟨⟨f,R.hfp,R.fl⟩,h⟩⟩
    refine ⟨_,rfl,_,rfl,_,rfl,_,rfl,_,rfl,_,_,rfl,rfl,(by show (0:Int) < 9;decide),_,_,rfl,rfl,p,v,t,F,E,B,-1 - c % 9,some 3,as,rows,ns,.far,rfl,hV.same s8,s8.seqT hS,far _ _ (.inl hc9),fun H9 s9=>⟨rfl,_,rfl,iteNS rfl ?_⟩⟩
    have s10:=s8.trans s9
    exact ⟨_,rfl,_,rfl,_,rfl,_,rfl,_,rfl,_,_,rfl,rfl,(by show (0:Int) < 9;decide),_,_,rfl,rfl,p,v,t,F,E,B,0,some (-1 - c % 9),as,rows,ns,.far,rfl,hV.same s10,s10.seqT hS,far _ _ (.inr ⟨_,rfl,hc9⟩),fun H11 s11=>⟨rfl,k _ (s10.trans s11)⟩⟩
end
end K62
namespace K62
open PySem L2 PyProof.Rows PySem.W
section
variable {P:Program}{w:World}{K:PySem.W.Frag}{mg:Str→Option Value}{base:Heap}
theorem file_ok2 {ks:List Int}{ls:List Lk}{lo n:Nat}{fr:List Int}{rows:List (List Int)}{f:Nat}(rc:RcOk ks ls lo n fr rows f) (hn:n=rows.length) (f0:f≠0) (hk:kindOf ks (f:Int)=1):∃ r,FileOk rows f r∧∀ b∈blks rows r,b=0∨(0≤b∧b < (rows.length:Int)):=by
  obtain ⟨l,e,l8,k0,_,k2⟩:=rc
  obtain ⟨r,rfl⟩:=r8_of l8
  obtain ⟨⟨s0,s1⟩,p4,p5,p6,p7⟩:=k2 (by omega) hk
  have pt:∀ {x:Int},PT lo n x→x=0∨(0≤x∧x < (rows.length:Int)):=fun h=>by
    rcases h with h | h
    · exact .inl h
    · right
      omega
  have hm:okM rows r:=by
    rcases p7 with h | ⟨m,h,h1,h2,_⟩
    · exact .inl h
    · right
      have h:r.m=(m:Int):=h
      omega
  suffices all:∀ b∈blks rows r,b=0∨(0≤b∧b < (rows.length:Int)) from ⟨r,⟨e,f0,by rw [hk] at k0;exact k0,s0,s1,hm,fun b hb=>all b (List.mem_of_mem_take hb)⟩,all⟩
  intro b hb
  unfold blks at hb
  rcases List.mem_append.mp hb with h | h
  · rcases List.mem_cons.mp h with z | h
    · rw [z];exact pt p4
    · rcases List.mem_cons.mp h with z | h
      · rw [z];exact pt p5
      · rw [List.mem_singleton.mp h];exact pt p6
  · unfold behind at h
    by_cases c:r.m=0
    · rw [if_pos c] at h
      left
      simpa [z8] using h
    · rw [if_neg c] at h
      rcases p7 with z | ⟨m,z,_,h2,_,q,eq,_,hq⟩
      · exact absurd z c
      · have z:r.m=(m:Int):=z
        rw [z,Int.toNat_natCast,List.getD_eq_getElem?_getD,eq] at h
        exact pt (hq b h)
theorem SND.same {C:Addr}{H H':Hp}{p v kl lk:Addr}{F E B:Nat}{ks:List Int}{ts:List Addr}{ls:List Lk}{as:List Addr}{rows:List (List Int)}{tl:List Tl}(h:SND C H p v kl lk F E B ks ts ls as rows tl) (s:Same H H'):SND C H' p v kl lk F E B ks ts ls as rows tl :=
  ⟨h.lay.same s,s _ _ h.hkl,h.hks,h.hlk.same s,h.hlo,h.hle,h.vol.same s,h.len,h.r8,h.rc,h.tv,h.htl⟩
theorem keep2.seq {P1 P2 a:Addr}{H H1:Hp}{xs:List V}{p1 p2:Array Value}(h:keep2 P1 P2 H H1) (e1:H P1=some (.tbl p1)) (e2:H P2=some (.tbl p2)) (hq:SqL K H a xs):SqL K H1 a xs:=by
  have ne:∀ b o,H b=some o→(∀ qs,o≠.tbl qs)→H1 b=some o:=fun b o e n=>h b o e (fun z=>by rw [z,e1] at e;cases e;exact n _ rfl) (fun z=>by rw [z,e2] at e;cases e;exact n _ rfl)
  rcases hq with (e | ⟨o,e⟩) | e
  · exact .inl (.inl (ne _ _ e fun _ z=>by cases z))
  · exact .inl (.inr ⟨o,ne _ _ e fun _ z=>by cases z⟩)
  · exact .inr e
def spLaw (K:PySem.W.Frag) (ts:List Addr):Sp:=fun vs H Q _=>∃ (a:Addr) (ns:List Int),vs=[.ref a]∧SqL K H a (ns.map V.int)∧ns.length≤63∧(∀ p∈ts,H p=some (.tbl #[]))∧∀ H',Q (.bl true) H'
theorem ok_law (T:Tx K mg) (BB:BM mg base) {tbs:List Addr}(hts:T.P_l_slots∈tbs) (htd:T.P_l_sound∈tbs):FnOk P w K mg base CX0 14 T.f_law T.fd_law ["_law_script"] (spLaw K tbs):=by
  refine T.F_law.ok sc_law (fun vs H Q E h=>?_) (fun cdv A outer s H vs Q E hr h=>?_)
  · obtain ⟨a,ns,rfl,_⟩:=h
    rfl
  · obtain ⟨a,ns,rfl,hS,hl,hT,k⟩:=h
    have r1:Room 1 _:=hr.mono (by decide)
    have r3:Room 3 _:=hr.mono (by decide)
    have r8:Room 8 _:=hr.mono (by decide)
    have r11:Room 11 _:=hr.mono (by decide)
    have hu:_ + 60 < cLine:=Nat.lt_of_le_of_lt (Nat.add_le_add_left (by decide:60≤64) _) hr.units
    have r12:Room 12 _:=hr.mono (by decide)
    refine ⟨_,@pss_cons _ _ _ _ _ (ps_set (i:=1) sc_law.nd rfl (Or.inl rfl) (pe_call (ok_layout T) r3 rfl T.g_l_layout T.F_l_layout.kp T.b_l_layout .nil pass0 (pa_cons (pv 0) pa_nil)))
      (@pss_cons _ _ _ _ _ (ps_asg (pe_call (ok_sound T BB) r8 rfl T.g_l_sound T.F_l_sound.kp T.b_l_sound .nil pass0 (pa_cons (pv 1) (pa_cons (pe_call (ok_cell T) r1 rfl T.g_l_cell T.F_l_cell.kp T.b_l_cell .nil pass0 (pa_cons (pv 0) (pa_cons pe_int pa_nil))) pa_nil))) (pg_tup rfl (pgs_cons (pg_name (i:=2) sc_law.nd rfl (Or.inl rfl)) (pgs_cons (pg_name (i:=3) sc_law.nd rfl (Or.inl rfl)) (pgs_cons (pg_name (i:=4) sc_law.nd rfl (Or.inl rfl)) pgs_nil)))))
      (@pss_cut _ _ _ _ _ (ps_setComp (i:=5) (N':=["_law_row"]) (cap:=[none]) sc_law.nd rfl rfl rfl (compOk_of (by kernel_rfl)) (pi_list (pv 2)) (fun cells C s₀ H₀ fp pins=>⟨pg_name (i:=0) ndp1 rfl (Or.inl rfl) (.inr rfl),pifs_nil,pe_callTy (call_list_ofK (K:=K) rfl) rfl T.z_list (by kernel_rfl) (pa_cons (pv 0) pa_nil)⟩))
      (@pss_cut _ _ _ _ _ (ps_for PassesOwn.never rfl (pi_range1 rfl T.z_range (pa_cons (pe_fld (pv 1) rfl) pa_nil)) (pg_name (i:=6) sc_law.nd rfl (Or.inl rfl))
        (@pss_cons _ _ _ _ _ (ps_set (i:=7) sc_law.nd rfl (Or.inl rfl) (pe_call (ok_mixed T) r1 rfl T.g_l_mixed T.F_l_mixed.kp T.b_l_mixed .nil pass0 (pa_cons (pe_call (ok_cell T) r1 rfl T.g_l_cell T.F_l_cell.kp T.b_l_cell .nil pass0 (pa_cons (pv 0) (pa_cons pe_int pa_nil))) (pa_cons (pv 6) pa_nil))))
        (@pss_cons _ _ _ _ _ (ps_set (i:=8) sc_law.nd rfl (Or.inl rfl) (pe_call (ok_path T) r1 rfl T.g_l_path T.F_l_path.kp T.b_l_path .nil pass0 (pa_cons (pv 4) (pa_cons (pv 6) (pa_cons (pv 7) pa_nil)))))
        (@pss_one _ _ _ (ps_if (PW.pt (pw_and (pt_cmpR op_eq (pe_ix ix_list (pv 3) (pv 6) (fun _ _=>rfl)) pe_int (nomark _)) (pw_and1 (pt_cmpR op_gt (pv 6) pe_int (nomark _)))))
          (pss_cons (ps_if (pt_not (pt_val (pe_call (ok_file T) r12 rfl T.g_l_file T.F_l_file.kp T.b_l_file .nil pass0 (pa_cons (pv 1) (pa_cons (pv 5) (pa_cons (pv 8) (pa_cons (pe_call (ok_lc T) r1 rfl T.g_l_contents T.F_l_contents.kp T.b_l_contents .nil pass0 (pa_cons (pv 1) (pa_cons (pv 2) (pa_cons (pv 6) pa_nil)))) (pa_cons (pv 7) pa_nil)))))))) (pss_one (ps_ret pe_bl)) pss_nil)
          (pss_one (ps_if (pt_cmpR op_ne (pe_call (ok_refused T) r11 rfl T.g_l_refused T.F_l_refused.kp T.b_l_refused .nil pass0 (pa_cons (pv 1) (pa_cons (pv 5) (pa_cons (pe_op op_catU (pv 8) (pe_tup (pa_cons pe_int pa_nil))) (pa_cons (pe_un un_neg pe_int) (pa_cons pe_non pa_nil)))))) pe_str (nomark _)) (pss_one (ps_ret pe_bl)) pss_nil)))
          (pss_one (ps_if (pt_cmpR op_eq (pe_ix ix_list (pv 3) (pv 6) (fun _ _=>rfl)) pe_int (nomark _))
            (pss_one (ps_for PassesOwn.never rfl (pi_list (pe_lst (pa_cons pe_int (pa_cons (pe_un un_neg pe_int) pa_nil)))) (pg_name (i:=9) sc_law.nd rfl (Or.inl rfl))
              (pss_one (ps_if (pt_cmpR op_ne (pe_call (ok_refused T) r11 rfl T.g_l_refused T.F_l_refused.kp T.b_l_refused .nil pass0 (pa_cons (pv 1) (pa_cons (pv 5) (pa_cons (pv 8) (pa_cons (pv 9) (pa_cons pe_non pa_nil)))))) pe_str (nomark _)) (pss_one (ps_ret pe_bl)) pss_nil)))) pss_nil)))))))
      (@pss_cut _ _ _ _ _ (ps_for PassesOwn.never rfl (pi_list (pe_lst (pa_cons (pe_tup (pa_cons pe_int pa_nil)) (pa_cons (pe_tup (pa_cons pe_int (pa_cons pe_int pa_nil))) (pa_cons (pe_tup (pa_cons pe_int (pa_cons (pe_fld (pv 1) rfl) pa_nil))) pa_nil))))) (pg_name (i:=8) sc_law.nd rfl (Or.inl rfl))
        (pss_one (ps_if (pt_cmpR op_ne (pe_call (ok_refused T) r11 rfl T.g_l_refused T.F_l_refused.kp T.b_l_refused .nil pass0 (pa_cons (pv 1) (pa_cons (pv 5) (pa_cons (pv 8) (pa_cons (pe_un un_neg pe_int) (pa_cons (pe_un un_neg pe_int) pa_nil)))))) pe_str (nomark _)) (pss_one (ps_ret pe_bl)) pss_nil)))
      (@pss_one _ _ _ (ps_ret (pe_cmpR (op_eqT hu) (pv 5) (pv 2) (nomark _)))))))),?_⟩
    refine ⟨_,rfl,a,ns,rfl,hS,hl,fun p F E B H1 ok hp1 s1=>?_⟩
    have f1:=ok.f1;have f2:=ok.f2;have e1:=ok.e1;have e2:=ok.e2;have b1:=ok.b1;have b2:=ok.b2
    obtain ⟨F,rfl⟩:=Int.eq_ofNat_of_zero_le (show 0≤F by omega)
    obtain ⟨E,rfl⟩:=Int.eq_ofNat_of_zero_le (show 0≤E by omega)
    obtain ⟨B,rfl⟩:=Int.eq_ofNat_of_zero_le (show 0≤B by omega)
    have hP1:=s1 _ _ (hT _ hts)
    have hP2:=s1 _ _ (hT _ htd)
    refine ⟨_,rfl,_,rfl,a,ns,1,rfl,s1.seq hS,hl,_,p,F,E,B,rfl,hp1,ok,hP1,hP2,fun t v kl lk ks ts ls as rows tl H2 kp2 ht SN=>?_⟩
    have hS2:=kp2.seq hP1 hP2 (s1.seq hS)
    refine ⟨t,_,rfl,SqT.of ht,rfl,_,_,rfl,_,_,rfl,_,_,rfl,rfl,?_⟩
    clear kp2 hP1 hP2 hp1 s1 ht
    have S:SF rows F E tl ks ls:=let ⟨fr,rc⟩:=SN.rc;⟨SN.tv,SN.htl,SN.hlo,SN.hks,_,_,fr,rc⟩
    have l40:ls.length≤40:=by have:=SN.hle;omega
    refine ⟨fun σ H'=>∃ (hd:Addr) (bs:List Addr),σ=[some (.ref a),some (.ref p),some (.ref v),some (.ref kl),some (.ref lk),some (.ref hd),none,none,none,none]∧SqL K H' a (ns.map V.int)∧SND T.C_Layout H' p v kl lk F E B ks ts ls as rows tl∧Vol H' hd bs rows,?_,?_⟩
    · refine ⟨_,rfl,v,rfl,⟨_,SqL.of SN.vol.top⟩,comp_rows SN.vol (by rw [SN.len];omega) fun hd bs H3 nhd nbs V3 s3=>?_⟩
      exact ⟨hd,bs,rfl,s3.seq hS2,SN.same s3,V3⟩
    rintro σ H3 ⟨hd,bs,rfl,hS3,SN3,V3⟩
    clear hS2 SN H2
    have VV3:VV T.C_Layout H3 p hd F E B bs rows:=⟨SN3.lay,V3,by rw [SN3.len];omega,by omega,SN3.r8,by omega⟩
    have hkl3:=SN3.hkl
    obtain ⟨dx,hp3⟩:=SN3.lay
    refine ⟨fun σ H'=>∃ (x6 x7 x8 x9:Option V),σ=[some (.ref a),some (.ref p),some (.ref v),some (.ref kl),some (.ref lk),some (.ref hd),x6,x7,x8,x9]∧Same H3 H',?_,?_⟩
    · refine ⟨_,rfl,p,T.C_Layout,dx,_,_,rfl,hp3,T.cl_Layout,T.n_Layout_files,lay_files _ _ _,(F:Int),rfl,by omega,by omega,?_⟩
      rw [Int.toNat_natCast]
      refine for_range (lo:=0) (n:=F) (fun i σ H'=>∃ (x6 x7 x8 x9:Option V),σ=[some (.ref a),some (.ref p),some (.ref v),some (.ref kl),some (.ref lk),some (.ref hd),x6,x7,x8,x9]∧Same H3 H')
        ⟨none,none,none,none,rfl,Same.refl _⟩ ?_ ?_
      · rintro i σ H4 hi ⟨x6,x7,x8,x9,rfl,s4⟩
        have c0:(0:Int) + (i:Int)=(i:Int):=by omega
        rw [c0]
        have ka:=kind_at (x:=(i:Int)) SN3.hks (by omega) (by omega)
        refine ⟨_,rfl,a,ns,2,rfl,s4.seq hS3,hl,_,rfl,_,_,rfl,?_⟩
        have c1:=mix_lo (ns.getD 2 0) (i:Int)
        generalize mix (ns.getD 2 0) (i:Int)=c at c1 ⊢
        refine ⟨_,rfl,_,rfl,_,rfl,lk,ts,ls,ks,F,(i:Int),c,rfl,SN3.hlk.same s4,l40,SN3.hlo,by omega,by omega,by omega,SN3.hks,fun t nm H5 s5 ht lnm hp=>?_⟩
        have s35:=s4.trans s5
        have ht:SqT K H5 t (nm.map V.int):=SqT.of ht
        refine ⟨_,rfl,_,rfl,kl,_,_,.int (kindOf ks (i:Int)),rfl,rfl,SqL.of (s35 _ _ hkl3),ka,rfl,_,rfl,?_⟩
        by_cases hk1:kindOf ks (i:Int)=1
        · have i0:i≠0:=fun e=>by
            rw [e] at hk1
            have:=kind_0 SN3.hks
            rw [show ((0:Nat):Int)=0 from rfl,this] at hk1
            exact absurd hk1 (by decide)
          have hk0:kindOf ks (i:Int)≠0:=by rw [hk1];decide
          have hfp:fp rows F E nm=some (i:Int):=by
            have:=S.go hp hk0 [] (.inr (by simp))
            rw [List.append_nil] at this
            exact this
          have hfl:isfl rows i=true:=by
            unfold isfl
            rw [S.kd hi,hk1,decide_eq_false i0]
            rfl
          have hno:fp rows F E (nm ++ [1])=none:=by
            rw [S.go hp hk0 [1] (.inl (S.ne hp hk1))]
            exact S.nofile hk1 1
          obtain ⟨r,ok,hb⟩:∃ r,FileOk rows i r∧∀ b∈blks rows r,b=0∨(0≤b∧b < (rows.length:Int)):=let ⟨fr,rc⟩:=SN3.rc;file_ok2 (rc i hi) (by rw [SN3.len]) i0 hk1
          have hlc:(cont rows r).length≤100:=by
            have:=ok.s1
            unfold cont
            rw [List.length_take]
            omega
          have R:FR rows F E nm i r:=⟨fun x e=>(by rw [hfp] at e;cases e;omega),hfp,hfl,ok⟩
          refine iteD (by rw [hk1]) ⟨_,rfl,_,_,rfl,rfl,_,rfl,iteD (by omega) ?_⟩
          refine ⟨_,rfl,_,rfl,_,rfl,_,rfl,_,rfl,_,rfl,p,v,i,as,rows,r,rfl,SN3.vol.same s35,SN3.r8,ok,hb,by rw [SN3.len];omega,fun l H6 s6 hl6=>?_⟩
          refine ⟨_,rfl,p,hd,t,l,F,E,B,c,bs,rows,nm,i,r,rfl,VV3.same (s35.trans s6),s6.seqT ht,R,hl6,hlc,c1,fun H7 s7=>⟨true,rfl,iteF ?_⟩⟩
          have s37:=(s35.trans s6).trans s7
          refine ⟨_,rfl,_,rfl,_,rfl,(by show 1≤sizeLine;decide),fun y fy=>?_⟩
          have s8:=Same.upd0 (o:=.tup [.int 1]) fy
          refine ⟨t,y,_,_,rfl,rfl,s8.seqT (s7.seqT (s6.seqT ht)),SqT.of upd_same,?_,fun q H9 s9 hq=>?_⟩
          · rw [List.length_map]
            show nm.length + 1≤sizeLine
            exact Nat.le_trans (by omega) (by decide:100≤sizeLine)
          have s39:=s37.trans (s8.trans s9)
          exact ⟨_,rfl,p,hd,q,F,E,B,-1,none,bs,rows,nm ++ [1],.path,rfl,VV3.same s39,by rw [List.map_append];exact hq,⟨fun x e=>(by rw [hno] at e;cases e),fun _=>hno,fun e=>(nomatch e),fun e=>(nomatch e)⟩,fun H10 s10=>⟨rfl,_,rfl,iteNS rfl ⟨_,_,_,_,rfl,s39.trans s10⟩⟩⟩
        · refine iteDF (int_ne hk1) (iteF ?_)
          refine ⟨_,rfl,_,rfl,kl,_,_,.int (kindOf ks (i:Int)),rfl,rfl,SqL.of (s35 _ _ hkl3),ka,rfl,_,rfl,?_⟩
          by_cases hk2:kindOf ks (i:Int)=2
          · have hk0:kindOf ks (i:Int)≠0:=by rw [hk2];decide
            have hfp:fp rows F E nm=some (i:Int):=by
              have:=S.go hp hk0 [] (.inr (by simp))
              rw [List.append_nil] at this
              exact this
            have hfl:isfl rows i=false:=by
              unfold isfl
              rw [S.kd hi,decide_eq_false hk1,Bool.and_false]
            refine iteD (by rw [hk2]) ⟨_,rfl,(by show 2≤sizeLine;decide),fun z fz=>?_⟩
            have s6:=Same.upd0 (o:=.lst [.int 0,.int (-1)]) fz
            have hz:upd H5 z (.lst [.int 0,.int (-1)]) z=some (.lst ([0,-1].map V.int)):=upd_same
            refine ⟨z,rfl,⟨_,SqL.of upd_same⟩,?_⟩
            generalize upd H5 z (.lst [.int 0,.int (-1)])=H6 at s6 hz ⊢
            refine for_list (K:=K) (a:=z) (xs:=([0,-1]:List Int).map V.int) (fun j σ H'=>∃ (x9:Option V),σ=[some (.ref a),some (.ref p),some (.ref v),some (.ref kl),some (.ref lk),some (.ref hd),some (.int (i:Int)),some (.int c),some (.ref t),x9]∧Same H6 H')
              ⟨_,rfl,Same.refl _⟩ (fun j σ H' _ ⟨_,_,sH⟩=>SqL.of (sH _ _ hz)) ?_ ?_
            · rintro j x σ H7 hx ⟨x9,rfl,s7⟩
              rw [List.getElem?_map] at hx
              cases et:([0,-1]:List Int)[j]? with
              | none=>rw [et] at hx;cases hx
              | some y =>
                rw [et] at hx
                cases hx
                exact ⟨_,rfl,_,rfl,_,rfl,_,rfl,p,hd,t,F,E,B,y,none,bs,rows,nm,.file,rfl,VV3.same ((s35.trans s6).trans s7),s7.seqT (s6.seqT ht),⟨fun x e=>(by rw [hfp] at e;cases e;omega),fun e=>(nomatch e),fun _=>⟨i,hfp,hfl⟩,fun e=>(nomatch e)⟩,fun H8 s8=>⟨rfl,_,rfl,iteNS rfl ⟨_,rfl,s7.trans s8⟩⟩⟩
            rintro σ H7 ⟨x9,rfl,s7⟩
            exact ⟨_,_,_,_,rfl,(s35.trans s6).trans s7⟩
          · exact iteDF (int_ne hk2) ⟨_,_,_,_,rfl,s35⟩
      rintro σ H4 h
      exact h
    rintro σ H4 ⟨x6,x7,x8,x9,rfl,s4⟩
    have nf0:isfd rows F 0=false:=by
      cases e:isfd rows F 0
      · rfl
      · have:=((S.isfd 0).mp e).1
        omega
    have nfF:isfd rows F (F:Int)=false:=by
      cases e:isfd rows F (F:Int)
      · rfl
      · have:=((S.isfd (F:Int)).mp e).2.1
        omega
    refine ⟨fun σ H'=>∃ (x8:Option V),σ=[some (.ref a),some (.ref p),some (.ref v),some (.ref kl),some (.ref lk),some (.ref hd),x6,x7,x8,x9]∧Same H3 H',?_,?_⟩
    · refine ⟨(by show 1≤sizeLine;decide),fun q1 fq1=>?_⟩
      have u1:=Same.upd0 (o:=.tup [.int 0]) fq1
      have hq1:upd H4 q1 (.tup [.int 0]) q1=some (.tup ([0].map V.int)):=upd_same
      generalize upd H4 q1 (.tup [.int 0])=H5 at u1 hq1 ⊢
      refine ⟨(by show 2≤sizeLine;decide),fun q2 fq2=>?_⟩
      have u2:=Same.upd0 (o:=.tup [.int 0,.int 0]) fq2
      have hq2:upd H5 q2 (.tup [.int 0,.int 0]) q2=some (.tup ([0,0].map V.int)):=upd_same
      generalize upd H5 q2 (.tup [.int 0,.int 0])=H6 at u2 hq2 ⊢
      have s6:=s4.trans (u1.trans u2)
      refine ⟨_,rfl,p,T.C_Layout,dx,_,_,rfl,s6 _ _ hp3,T.cl_Layout,T.n_Layout_files,lay_files _ _ _,(by show 2≤sizeLine;decide),fun q3 fq3=>?_⟩
      have u3:=Same.upd0 (o:=.tup [.int 0,.int (F:Int)]) fq3
      have hq3:upd H6 q3 (.tup [.int 0,.int (F:Int)]) q3=some (.tup ([0,(F:Int)].map V.int)):=upd_same
      generalize upd H6 q3 (.tup [.int 0,.int (F:Int)])=H7 at u3 hq3 ⊢
      refine ⟨(by show 3≤sizeLine;decide),fun z fz=>?_⟩
      have u4:=Same.upd0 (o:=.lst [.ref q1,.ref q2,.ref q3]) fz
      have hz:upd H7 z (.lst [.ref q1,.ref q2,.ref q3]) z=some (.lst ([q1,q2,q3].map V.ref)):=upd_same
      refine ⟨z,rfl,⟨_,SqL.of upd_same⟩,?_⟩
      generalize upd H7 z (.lst [.ref q1,.ref q2,.ref q3])=H8 at u4 hz ⊢
      have s8:=s6.trans (u3.trans u4)
      have h6:∀ u∈[q1,q2,q3],∃ ms:List Int,H8 u=some (.tup (ms.map V.int))∧fp rows F E ms=none:=fun u hu=>by
        rcases List.mem_cons.mp hu with e | hu
        · rw [e];exact ⟨[0],u4 _ _ (u3 _ _ (u2 _ _ hq1)),fp_zero ..⟩
        · rcases List.mem_cons.mp hu with e | hu
          · rw [e];exact ⟨[0,0],u4 _ _ (u3 _ _ hq2),nofound nf0⟩
          · rw [List.mem_singleton.mp hu];exact ⟨[0,(F:Int)],u4 _ _ hq3,nofound nfF⟩
      refine for_list (K:=K) (a:=z) (xs:=[q1,q2,q3].map V.ref) (fun j σ H'=>∃ (x8:Option V),σ=[some (.ref a),some (.ref p),some (.ref v),some (.ref kl),some (.ref lk),some (.ref hd),x6,x7,x8,x9]∧Same H8 H')
        ⟨_,rfl,Same.refl _⟩ (fun j σ H' _ ⟨_,_,sH⟩=>SqL.of (sH _ _ hz)) ?_ ?_
      · rintro j x σ H9 hx ⟨x8,rfl,s9⟩
        rw [List.getElem?_map] at hx
        cases et:[q1,q2,q3][j]? with
        | none=>rw [et] at hx;cases hx
        | some u =>
          rw [et] at hx
          cases hx
          obtain ⟨ms,hm1,hm2⟩:=h6 u (List.mem_of_getElem? et)
          exact ⟨_,rfl,_,rfl,_,rfl,_,rfl,_,rfl,p,hd,u,F,E,B,-1,some (-1),bs,rows,ms,.path,rfl,VV3.same (s8.trans s9),SqT.of (s9 _ _ hm1),⟨fun x e=>(by rw [hm2] at e;cases e),fun _=>hm2,fun e=>(nomatch e),fun e=>(nomatch e)⟩,fun H10 s10=>⟨rfl,_,rfl,iteNS rfl ⟨_,rfl,s9.trans s10⟩⟩⟩
      rintro σ H9 ⟨x8,rfl,s9⟩
      exact ⟨_,rfl,s8.trans s9⟩
    rintro σ H9 ⟨x8,rfl,s39⟩
    refine ⟨_,rfl,_,rfl,hd,v,2,2,trV rows,trV rows,rfl,rfl,by decide,by decide,holds_vol (V3.same s39),holds_vol (SN3.vol.same s39),(fun _ h=>nomatch h),(fun _ h=>nomatch h),?_⟩
    have:eqT (trV rows) (trV rows)=true:=by rw [eqT_V];simp
    show Q (.bl (eqT (trV rows) (trV rows))) _
    rw [this]
    exact k _
end
end K62
namespace K62
open PySem L2 PyProof.Rows PySem.W
theorem all_mk {l:PySem.W.OpenLaw}{w:World}{K:PySem.W.Frag}{h:Heap}{mg:Str→Option Value}{fa:Addr}{ts:List Addr}(X:K.In h) (G:h.Ns mainGlobals mg) (hfa:mg "law"=some (.ref fa))
    {C_Layout:Addr}
    {C_Record:Addr}
    {C_FileRecord:Addr}
    {C_FolderRecord:Addr}
    {C_FreeRecord:Addr}
    {C_NoLayout:Addr}
    {C_VolumeError:Addr}
    {C_BadNumber:Addr}
    {C_NoPath:Addr}
    {C_NotFile:Addr}
    {C_NotFolder:Addr}
    {C_TooFar:Addr}
    {C_Full:Addr}
    {f_many_slots:Addr} {od_many_slots an_many_slots:Option Addr} {sl_many_slots:Array (Option Value)} {oc_many_slots kV_many_slots dc_many_slots pm_many_slots cd_many_slots ct_many_slots:Value}
    {f_slot_at:Addr} {od_slot_at an_slot_at:Option Addr} {sl_slot_at:Array (Option Value)} {oc_slot_at kV_slot_at dc_slot_at pm_slot_at cd_slot_at ct_slot_at:Value}
    {f_slot:Addr} {od_slot an_slot:Option Addr} {sl_slot:Array (Option Value)} {oc_slot kV_slot dc_slot pm_slot cd_slot ct_slot:Value}
    {f_used_slots:Addr} {od_used_slots an_used_slots:Option Addr} {sl_used_slots:Array (Option Value)} {oc_used_slots kV_used_slots dc_used_slots pm_used_slots cd_used_slots ct_used_slots:Value}
    {f_slot_of:Addr} {od_slot_of an_slot_of:Option Addr} {sl_slot_of:Array (Option Value)} {oc_slot_of kV_slot_of dc_slot_of pm_slot_of cd_slot_of ct_slot_of:Value}
    {f_Layout_init:Addr} {od_Layout_init an_Layout_init:Option Addr} {sl_Layout_init:Array (Option Value)} {oc_Layout_init kV_Layout_init dc_Layout_init pm_Layout_init cd_Layout_init ct_Layout_init:Value}
    {f_Layout_record_at:Addr} {od_Layout_record_at an_Layout_record_at:Option Addr} {sl_Layout_record_at:Array (Option Value)} {oc_Layout_record_at kV_Layout_record_at dc_Layout_record_at pm_Layout_record_at cd_Layout_record_at ct_Layout_record_at:Value}
    {f_Layout_names_at:Addr} {od_Layout_names_at an_Layout_names_at:Option Addr} {sl_Layout_names_at:Array (Option Value)} {oc_Layout_names_at kV_Layout_names_at dc_Layout_names_at pm_Layout_names_at cd_Layout_names_at ct_Layout_names_at:Value}
    {f_Record_init:Addr} {od_Record_init an_Record_init:Option Addr} {sl_Record_init:Array (Option Value)} {oc_Record_init kV_Record_init dc_Record_init pm_Record_init cd_Record_init ct_Record_init:Value}
    {f_Record_wants:Addr} {od_Record_wants an_Record_wants:Option Addr} {sl_Record_wants:Array (Option Value)} {oc_Record_wants kV_Record_wants dc_Record_wants pm_Record_wants cd_Record_wants ct_Record_wants:Value}
    {f_Record_keeps:Addr} {od_Record_keeps an_Record_keeps:Option Addr} {sl_Record_keeps:Array (Option Value)} {oc_Record_keeps kV_Record_keeps dc_Record_keeps pm_Record_keeps cd_Record_keeps ct_Record_keeps:Value}
    {f_FileRecord_wants:Addr} {od_FileRecord_wants an_FileRecord_wants:Option Addr} {sl_FileRecord_wants:Array (Option Value)} {oc_FileRecord_wants kV_FileRecord_wants dc_FileRecord_wants pm_FileRecord_wants cd_FileRecord_wants ct_FileRecord_wants:Value}
    {f_FileRecord_keeps:Addr} {od_FileRecord_keeps an_FileRecord_keeps:Option Addr} {sl_FileRecord_keeps:Array (Option Value)} {oc_FileRecord_keeps kV_FileRecord_keeps dc_FileRecord_keeps pm_FileRecord_keeps cd_FileRecord_keeps ct_FileRecord_keeps:Value}
    {f_record_of:Addr} {od_record_of an_record_of:Option Addr} {sl_record_of:Array (Option Value)} {oc_record_of kV_record_of dc_record_of pm_record_of cd_record_of ct_record_of:Value}
    {f_record_in:Addr} {od_record_in an_record_in:Option Addr} {sl_record_in:Array (Option Value)} {oc_record_in kV_record_in dc_record_in pm_record_in cd_record_in ct_record_in:Value}
    {f_blocks_of:Addr} {od_blocks_of an_blocks_of:Option Addr} {sl_blocks_of:Array (Option Value)} {oc_blocks_of kV_blocks_of dc_blocks_of pm_blocks_of cd_blocks_of ct_blocks_of:Value}
    {f_contents:Addr} {od_contents an_contents:Option Addr} {sl_contents:Array (Option Value)} {oc_contents kV_contents dc_contents pm_contents cd_contents ct_contents:Value}
    {f_is_found:Addr} {od_is_found an_is_found:Option Addr} {sl_is_found:Array (Option Value)} {oc_is_found kV_is_found dc_is_found pm_is_found cd_is_found ct_is_found:Value}
    {f_is_file:Addr} {od_is_file an_is_file:Option Addr} {sl_is_file:Array (Option Value)} {oc_is_file kV_is_file dc_is_file pm_is_file cd_is_file ct_is_file:Value}
    {f_record_behind:Addr} {od_record_behind an_record_behind:Option Addr} {sl_record_behind:Array (Option Value)} {oc_record_behind kV_record_behind dc_record_behind pm_record_behind cd_record_behind ct_record_behind:Value}
    {f_find_path:Addr} {od_find_path an_find_path:Option Addr} {sl_find_path:Array (Option Value)} {oc_find_path kV_find_path dc_find_path pm_find_path cd_find_path ct_find_path:Value}
    {f_find_file:Addr} {od_find_file an_find_file:Option Addr} {sl_find_file:Array (Option Value)} {oc_find_file kV_find_file dc_find_file pm_find_file cd_find_file ct_find_file:Value}
    {f_read:Addr} {od_read an_read:Option Addr} {sl_read:Array (Option Value)} {oc_read kV_read dc_read pm_read cd_read ct_read:Value}
    {D_read:Addr}
    {t0_read:Tok} {nD_read:Nat} {cD_read:Value} {dD_read:Option Addr} {sD_read:Array (Option Value)}
    {f_l_cell:Addr} {od_l_cell an_l_cell:Option Addr} {sl_l_cell:Array (Option Value)} {oc_l_cell kV_l_cell dc_l_cell pm_l_cell cd_l_cell ct_l_cell:Value}
    {f_l_mixed:Addr} {od_l_mixed an_l_mixed:Option Addr} {sl_l_mixed:Array (Option Value)} {oc_l_mixed kV_l_mixed dc_l_mixed pm_l_mixed cd_l_mixed ct_l_mixed:Value}
    {f_l_layout:Addr} {od_l_layout an_l_layout:Option Addr} {sl_l_layout:Array (Option Value)} {oc_l_layout kV_l_layout dc_l_layout pm_l_layout cd_l_layout ct_l_layout:Value}
    {f_l_kinds:Addr} {od_l_kinds an_l_kinds:Option Addr} {sl_l_kinds:Array (Option Value)} {oc_l_kinds kV_l_kinds dc_l_kinds pm_l_kinds cd_l_kinds ct_l_kinds:Value}
    {f_l_stands:Addr} {od_l_stands an_l_stands:Option Addr} {sl_l_stands:Array (Option Value)} {oc_l_stands kV_l_stands dc_l_stands pm_l_stands cd_l_stands ct_l_stands:Value}
    {f_l_new_name:Addr} {od_l_new_name an_l_new_name:Option Addr} {sl_l_new_name:Array (Option Value)} {oc_l_new_name kV_l_new_name dc_l_new_name pm_l_new_name cd_l_new_name ct_l_new_name:Value}
    {f_l_slots:Addr} {od_l_slots an_l_slots:Option Addr} {sl_l_slots:Array (Option Value)} {oc_l_slots kV_l_slots dc_l_slots pm_l_slots cd_l_slots ct_l_slots:Value}
    {cc_l_slots P_l_slots:Addr} {cv_l_slots:Array Value} {cod_l_slots:Option Addr} {cos_l_slots:Array (Option Value)}
    {f_l_check:Addr} {od_l_check an_l_check:Option Addr} {sl_l_check:Array (Option Value)} {oc_l_check kV_l_check dc_l_check pm_l_check cd_l_check ct_l_check:Value}
    {f_l_take:Addr} {od_l_take an_l_take:Option Addr} {sl_l_take:Array (Option Value)} {oc_l_take kV_l_take dc_l_take pm_l_take cd_l_take ct_l_take:Value}
    {f_l_pieces:Addr} {od_l_pieces an_l_pieces:Option Addr} {sl_l_pieces:Array (Option Value)} {oc_l_pieces kV_l_pieces dc_l_pieces pm_l_pieces cd_l_pieces ct_l_pieces:Value}
    {f_l_size:Addr} {od_l_size an_l_size:Option Addr} {sl_l_size:Array (Option Value)} {oc_l_size kV_l_size dc_l_size pm_l_size cd_l_size ct_l_size:Value}
    {f_l_records:Addr} {od_l_records an_l_records:Option Addr} {sl_l_records:Array (Option Value)} {oc_l_records kV_l_records dc_l_records pm_l_records cd_l_records ct_l_records:Value}
    {f_l_sound:Addr} {od_l_sound an_l_sound:Option Addr} {sl_l_sound:Array (Option Value)} {oc_l_sound kV_l_sound dc_l_sound pm_l_sound cd_l_sound ct_l_sound:Value}
    {cc_l_sound P_l_sound:Addr} {cv_l_sound:Array Value} {cod_l_sound:Option Addr} {cos_l_sound:Array (Option Value)}
    {f_l_contents:Addr} {od_l_contents an_l_contents:Option Addr} {sl_l_contents:Array (Option Value)} {oc_l_contents kV_l_contents dc_l_contents pm_l_contents cd_l_contents ct_l_contents:Value}
    {f_l_path:Addr} {od_l_path an_l_path:Option Addr} {sl_l_path:Array (Option Value)} {oc_l_path kV_l_path dc_l_path pm_l_path cd_l_path ct_l_path:Value}
    {f_l_refusal:Addr} {od_l_refusal an_l_refusal:Option Addr} {sl_l_refusal:Array (Option Value)} {oc_l_refusal kV_l_refusal dc_l_refusal pm_l_refusal cd_l_refusal ct_l_refusal:Value}
    {f_l_refused:Addr} {od_l_refused an_l_refused:Option Addr} {sl_l_refused:Array (Option Value)} {oc_l_refused kV_l_refused dc_l_refused pm_l_refused cd_l_refused ct_l_refused:Value}
    {f_l_part:Addr} {od_l_part an_l_part:Option Addr} {sl_l_part:Array (Option Value)} {oc_l_part kV_l_part dc_l_part pm_l_part cd_l_part ct_l_part:Value}
    {f_l_file:Addr} {od_l_file an_l_file:Option Addr} {sl_l_file:Array (Option Value)} {oc_l_file kV_l_file dc_l_file pm_l_file cd_l_file ct_l_file:Value}
    {f_law:Addr} {od_law an_law:Option Addr} {sl_law:Array (Option Value)} {oc_law kV_law dc_law pm_law cd_law ct_law:Value}
    {t_RECORDS_AT:Tok}
    {t_FILE:Tok}
    {t_FOLDER:Tok}
    {t_KIND_AT:Tok}
    {t_SIZE_AT:Tok}
    {t_NAMES_AT:Tok}
    {t_FOUND_AT:Tok}
    {t_FIRST_AT:Tok}
    {t_MORE_AT:Tok}
    {t_EACH:Tok}
    {t_SLOT_WIDE:Tok}
    {t_USED:Tok}
    {t_FOUND:Tok}
    {t_WIDE:Tok}
    {t_PIECES:Tok}
    {p_FOUND_PATH:Addr} {d_FOUND_PATH:Option Addr} {n_FOUND_PATH:Nat} {s_FOUND_PATH:Array (Option Value)} {t0_FOUND_PATH:Tok}
    (aC_Layout:PySem.W.nsIn K mainGlobals "Layout"=some (some (.ref C_Layout)))
    (pg_Layout:PySem.W.plainGet K C_Layout Str.empty=true)
    (hd_Layout:PySem.W.hasDictIn K C_Layout=true)
    (po_Layout:PySem.W.plainOver K C_Layout=true)
    (sa_Layout:PySem.W.findIn K (.ref C_Layout) "__setattr__"=some (some (.builtin "object.__setattr__")))
    (n_Layout_files:PySem.W.findIn K (.ref C_Layout) "files"=some none)
    (n_Layout_slots:PySem.W.findIn K (.ref C_Layout) "slots"=some none)
    (n_Layout_data:PySem.W.findIn K (.ref C_Layout) "data"=some none)
    (aC_Record:PySem.W.nsIn K mainGlobals "Record"=some (some (.ref C_Record)))
    (pg_Record:PySem.W.plainGet K C_Record Str.empty=true)
    (hd_Record:PySem.W.hasDictIn K C_Record=true)
    (po_Record:PySem.W.plainOver K C_Record=true)
    (sa_Record:PySem.W.findIn K (.ref C_Record) "__setattr__"=some (some (.builtin "object.__setattr__")))
    (aC_FileRecord:PySem.W.nsIn K mainGlobals "FileRecord"=some (some (.ref C_FileRecord)))
    (pg_FileRecord:PySem.W.plainGet K C_FileRecord Str.empty=true)
    (hd_FileRecord:PySem.W.hasDictIn K C_FileRecord=true)
    (po_FileRecord:PySem.W.plainOver K C_FileRecord=true)
    (sa_FileRecord:PySem.W.findIn K (.ref C_FileRecord) "__setattr__"=some (some (.builtin "object.__setattr__")))
    (n_FileRecord_kind:PySem.W.findIn K (.ref C_FileRecord) "kind"=some none)
    (n_FileRecord_size:PySem.W.findIn K (.ref C_FileRecord) "size"=some none)
    (n_FileRecord_names:PySem.W.findIn K (.ref C_FileRecord) "names"=some none)
    (n_FileRecord_found:PySem.W.findIn K (.ref C_FileRecord) "found"=some none)
    (n_FileRecord_first:PySem.W.findIn K (.ref C_FileRecord) "first"=some none)
    (n_FileRecord_more:PySem.W.findIn K (.ref C_FileRecord) "more"=some none)
    (aC_FolderRecord:PySem.W.nsIn K mainGlobals "FolderRecord"=some (some (.ref C_FolderRecord)))
    (pg_FolderRecord:PySem.W.plainGet K C_FolderRecord Str.empty=true)
    (hd_FolderRecord:PySem.W.hasDictIn K C_FolderRecord=true)
    (po_FolderRecord:PySem.W.plainOver K C_FolderRecord=true)
    (sa_FolderRecord:PySem.W.findIn K (.ref C_FolderRecord) "__setattr__"=some (some (.builtin "object.__setattr__")))
    (n_FolderRecord_kind:PySem.W.findIn K (.ref C_FolderRecord) "kind"=some none)
    (n_FolderRecord_size:PySem.W.findIn K (.ref C_FolderRecord) "size"=some none)
    (n_FolderRecord_names:PySem.W.findIn K (.ref C_FolderRecord) "names"=some none)
    (n_FolderRecord_found:PySem.W.findIn K (.ref C_FolderRecord) "found"=some none)
    (n_FolderRecord_first:PySem.W.findIn K (.ref C_FolderRecord) "first"=some none)
    (n_FolderRecord_more:PySem.W.findIn K (.ref C_FolderRecord) "more"=some none)
    (aC_FreeRecord:PySem.W.nsIn K mainGlobals "FreeRecord"=some (some (.ref C_FreeRecord)))
    (pg_FreeRecord:PySem.W.plainGet K C_FreeRecord Str.empty=true)
    (hd_FreeRecord:PySem.W.hasDictIn K C_FreeRecord=true)
    (po_FreeRecord:PySem.W.plainOver K C_FreeRecord=true)
    (sa_FreeRecord:PySem.W.findIn K (.ref C_FreeRecord) "__setattr__"=some (some (.builtin "object.__setattr__")))
    (n_FreeRecord_kind:PySem.W.findIn K (.ref C_FreeRecord) "kind"=some none)
    (n_FreeRecord_size:PySem.W.findIn K (.ref C_FreeRecord) "size"=some none)
    (n_FreeRecord_names:PySem.W.findIn K (.ref C_FreeRecord) "names"=some none)
    (n_FreeRecord_found:PySem.W.findIn K (.ref C_FreeRecord) "found"=some none)
    (n_FreeRecord_first:PySem.W.findIn K (.ref C_FreeRecord) "first"=some none)
    (n_FreeRecord_more:PySem.W.findIn K (.ref C_FreeRecord) "more"=some none)
    (aC_NoLayout:PySem.W.nsIn K mainGlobals "NoLayout"=some (some (.ref C_NoLayout)))
    (aC_VolumeError:PySem.W.nsIn K mainGlobals "VolumeError"=some (some (.ref C_VolumeError)))
    (aC_BadNumber:PySem.W.nsIn K mainGlobals "BadNumber"=some (some (.ref C_BadNumber)))
    (aC_NoPath:PySem.W.nsIn K mainGlobals "NoPath"=some (some (.ref C_NoPath)))
    (aC_NotFile:PySem.W.nsIn K mainGlobals "NotFile"=some (some (.ref C_NotFile)))
    (aC_NotFolder:PySem.W.nsIn K mainGlobals "NotFolder"=some (some (.ref C_NotFolder)))
    (aC_TooFar:PySem.W.nsIn K mainGlobals "TooFar"=some (some (.ref C_TooFar)))
    (aC_Full:PySem.W.nsIn K mainGlobals "Full"=some (some (.ref C_Full)))
    (a_many_slots:PySem.W.nsIn K mainGlobals "many_slots"=some (some (.ref f_many_slots)))
    (l_many_slots:K.lookup f_many_slots=some ⟨oc_many_slots,od_many_slots,.func (PySem.W.fnOf "many_slots" "many_slots" (defArgs s_many_slots) (defBody s_many_slots) (defScope s_many_slots) .none kV_many_slots dc_many_slots pm_many_slots an_many_slots cd_many_slots ct_many_slots),sl_many_slots⟩)
    (c_many_slots:PySem.W.codeIn K cd_many_slots "many_slots"=true)
    (k_many_slots:PySem.W.keepIn K (.ref f_many_slots)=true)
    (a_slot_at:PySem.W.nsIn K mainGlobals "slot_at"=some (some (.ref f_slot_at)))
    (l_slot_at:K.lookup f_slot_at=some ⟨oc_slot_at,od_slot_at,.func (PySem.W.fnOf "slot_at" "slot_at" (defArgs s_slot_at) (defBody s_slot_at) (defScope s_slot_at) .none kV_slot_at dc_slot_at pm_slot_at an_slot_at cd_slot_at ct_slot_at),sl_slot_at⟩)
    (c_slot_at:PySem.W.codeIn K cd_slot_at "slot_at"=true)
    (k_slot_at:PySem.W.keepIn K (.ref f_slot_at)=true)
    (a_slot:PySem.W.nsIn K mainGlobals "slot"=some (some (.ref f_slot)))
    (l_slot:K.lookup f_slot=some ⟨oc_slot,od_slot,.func (PySem.W.fnOf "slot" "slot" (defArgs s_slot) (defBody s_slot) (defScope s_slot) .none kV_slot dc_slot pm_slot an_slot cd_slot ct_slot),sl_slot⟩)
    (c_slot:PySem.W.codeIn K cd_slot "slot"=true)
    (k_slot:PySem.W.keepIn K (.ref f_slot)=true)
    (a_used_slots:PySem.W.nsIn K mainGlobals "used_slots"=some (some (.ref f_used_slots)))
    (l_used_slots:K.lookup f_used_slots=some ⟨oc_used_slots,od_used_slots,.func (PySem.W.fnOf "used_slots" "used_slots" (defArgs s_used_slots) (defBody s_used_slots) (defScope s_used_slots) .none kV_used_slots dc_used_slots pm_used_slots an_used_slots cd_used_slots ct_used_slots),sl_used_slots⟩)
    (c_used_slots:PySem.W.codeIn K cd_used_slots "used_slots"=true)
    (k_used_slots:PySem.W.keepIn K (.ref f_used_slots)=true)
    (a_slot_of:PySem.W.nsIn K mainGlobals "slot_of"=some (some (.ref f_slot_of)))
    (l_slot_of:K.lookup f_slot_of=some ⟨oc_slot_of,od_slot_of,.func (PySem.W.fnOf "slot_of" "slot_of" (defArgs s_slot_of) (defBody s_slot_of) (defScope s_slot_of) .none kV_slot_of dc_slot_of pm_slot_of an_slot_of cd_slot_of ct_slot_of),sl_slot_of⟩)
    (c_slot_of:PySem.W.codeIn K cd_slot_of "slot_of"=true)
    (k_slot_of:PySem.W.keepIn K (.ref f_slot_of)=true)
    (a_Layout_init:PySem.W.findIn K (.ref C_Layout) "__init__"=some (some (.ref f_Layout_init)))
    (i_Layout_init:PySem.W.isFn K (.ref f_Layout_init)=true)
    (l_Layout_init:K.lookup f_Layout_init=some ⟨oc_Layout_init,od_Layout_init,.func (PySem.W.fnOf "__init__" "Layout.__init__" (defArgs s_Layout_init) (defBody s_Layout_init) (defScope s_Layout_init) .none kV_Layout_init dc_Layout_init pm_Layout_init an_Layout_init cd_Layout_init ct_Layout_init),sl_Layout_init⟩)
    (c_Layout_init:PySem.W.codeIn K cd_Layout_init "Layout.__init__"=true)
    (k_Layout_init:PySem.W.keepIn K (.ref f_Layout_init)=true)
    (mk_Layout:PySem.W.makesIn K C_Layout=true)
    (kc_Layout:PySem.W.keepIn K (.ref C_Layout)=true)
    (a_Layout_record_at:PySem.W.findIn K (.ref C_Layout) "record_at"=some (some (.ref f_Layout_record_at)))
    (i_Layout_record_at:PySem.W.isFn K (.ref f_Layout_record_at)=true)
    (l_Layout_record_at:K.lookup f_Layout_record_at=some ⟨oc_Layout_record_at,od_Layout_record_at,.func (PySem.W.fnOf "record_at" "Layout.record_at" (defArgs s_Layout_record_at) (defBody s_Layout_record_at) (defScope s_Layout_record_at) .none kV_Layout_record_at dc_Layout_record_at pm_Layout_record_at an_Layout_record_at cd_Layout_record_at ct_Layout_record_at),sl_Layout_record_at⟩)
    (c_Layout_record_at:PySem.W.codeIn K cd_Layout_record_at "Layout.record_at"=true)
    (k_Layout_record_at:PySem.W.keepIn K (.ref f_Layout_record_at)=true)
    (a_Layout_names_at:PySem.W.findIn K (.ref C_Layout) "names_at"=some (some (.ref f_Layout_names_at)))
    (i_Layout_names_at:PySem.W.isFn K (.ref f_Layout_names_at)=true)
    (l_Layout_names_at:K.lookup f_Layout_names_at=some ⟨oc_Layout_names_at,od_Layout_names_at,.func (PySem.W.fnOf "names_at" "Layout.names_at" (defArgs s_Layout_names_at) (defBody s_Layout_names_at) (defScope s_Layout_names_at) .none kV_Layout_names_at dc_Layout_names_at pm_Layout_names_at an_Layout_names_at cd_Layout_names_at ct_Layout_names_at),sl_Layout_names_at⟩)
    (c_Layout_names_at:PySem.W.codeIn K cd_Layout_names_at "Layout.names_at"=true)
    (k_Layout_names_at:PySem.W.keepIn K (.ref f_Layout_names_at)=true)
    (a_Record_init:PySem.W.findIn K (.ref C_Record) "__init__"=some (some (.ref f_Record_init)))
    (i_Record_init:PySem.W.isFn K (.ref f_Record_init)=true)
    (l_Record_init:K.lookup f_Record_init=some ⟨oc_Record_init,od_Record_init,.func (PySem.W.fnOf "__init__" "Record.__init__" (defArgs s_Record_init) (defBody s_Record_init) (defScope s_Record_init) .none kV_Record_init dc_Record_init pm_Record_init an_Record_init cd_Record_init ct_Record_init),sl_Record_init⟩)
    (c_Record_init:PySem.W.codeIn K cd_Record_init "Record.__init__"=true)
    (k_Record_init:PySem.W.keepIn K (.ref f_Record_init)=true)
    (mk_Record:PySem.W.makesIn K C_Record=true)
    (kc_Record:PySem.W.keepIn K (.ref C_Record)=true)
    (a_Record_wants:PySem.W.findIn K (.ref C_Record) "wants"=some (some (.ref f_Record_wants)))
    (i_Record_wants:PySem.W.isFn K (.ref f_Record_wants)=true)
    (l_Record_wants:K.lookup f_Record_wants=some ⟨oc_Record_wants,od_Record_wants,.func (PySem.W.fnOf "wants" "Record.wants" (defArgs s_Record_wants) (defBody s_Record_wants) (defScope s_Record_wants) .none kV_Record_wants dc_Record_wants pm_Record_wants an_Record_wants cd_Record_wants ct_Record_wants),sl_Record_wants⟩)
    (c_Record_wants:PySem.W.codeIn K cd_Record_wants "Record.wants"=true)
    (k_Record_wants:PySem.W.keepIn K (.ref f_Record_wants)=true)
    (a_Record_keeps:PySem.W.findIn K (.ref C_Record) "keeps"=some (some (.ref f_Record_keeps)))
    (i_Record_keeps:PySem.W.isFn K (.ref f_Record_keeps)=true)
    (l_Record_keeps:K.lookup f_Record_keeps=some ⟨oc_Record_keeps,od_Record_keeps,.func (PySem.W.fnOf "keeps" "Record.keeps" (defArgs s_Record_keeps) (defBody s_Record_keeps) (defScope s_Record_keeps) .none kV_Record_keeps dc_Record_keeps pm_Record_keeps an_Record_keeps cd_Record_keeps ct_Record_keeps),sl_Record_keeps⟩)
    (c_Record_keeps:PySem.W.codeIn K cd_Record_keeps "Record.keeps"=true)
    (k_Record_keeps:PySem.W.keepIn K (.ref f_Record_keeps)=true)
    (a_FileRecord_wants:PySem.W.findIn K (.ref C_FileRecord) "wants"=some (some (.ref f_FileRecord_wants)))
    (i_FileRecord_wants:PySem.W.isFn K (.ref f_FileRecord_wants)=true)
    (l_FileRecord_wants:K.lookup f_FileRecord_wants=some ⟨oc_FileRecord_wants,od_FileRecord_wants,.func (PySem.W.fnOf "wants" "FileRecord.wants" (defArgs s_FileRecord_wants) (defBody s_FileRecord_wants) (defScope s_FileRecord_wants) .none kV_FileRecord_wants dc_FileRecord_wants pm_FileRecord_wants an_FileRecord_wants cd_FileRecord_wants ct_FileRecord_wants),sl_FileRecord_wants⟩)
    (c_FileRecord_wants:PySem.W.codeIn K cd_FileRecord_wants "FileRecord.wants"=true)
    (k_FileRecord_wants:PySem.W.keepIn K (.ref f_FileRecord_wants)=true)
    (a_FileRecord_keeps:PySem.W.findIn K (.ref C_FileRecord) "keeps"=some (some (.ref f_FileRecord_keeps)))
    (i_FileRecord_keeps:PySem.W.isFn K (.ref f_FileRecord_keeps)=true)
    (l_FileRecord_keeps:K.lookup f_FileRecord_keeps=some ⟨oc_FileRecord_keeps,od_FileRecord_keeps,.func (PySem.W.fnOf "keeps" "FileRecord.keeps" (defArgs s_FileRecord_keeps) (defBody s_FileRecord_keeps) (defScope s_FileRecord_keeps) .none kV_FileRecord_keeps dc_FileRecord_keeps pm_FileRecord_keeps an_FileRecord_keeps cd_FileRecord_keeps ct_FileRecord_keeps),sl_FileRecord_keeps⟩)
    (c_FileRecord_keeps:PySem.W.codeIn K cd_FileRecord_keeps "FileRecord.keeps"=true)
    (k_FileRecord_keeps:PySem.W.keepIn K (.ref f_FileRecord_keeps)=true)
    (a_record_of:PySem.W.nsIn K mainGlobals "record_of"=some (some (.ref f_record_of)))
    (l_record_of:K.lookup f_record_of=some ⟨oc_record_of,od_record_of,.func (PySem.W.fnOf "record_of" "record_of" (defArgs s_record_of) (defBody s_record_of) (defScope s_record_of) .none kV_record_of dc_record_of pm_record_of an_record_of cd_record_of ct_record_of),sl_record_of⟩)
    (c_record_of:PySem.W.codeIn K cd_record_of "record_of"=true)
    (k_record_of:PySem.W.keepIn K (.ref f_record_of)=true)
    (a_record_in:PySem.W.nsIn K mainGlobals "record_in"=some (some (.ref f_record_in)))
    (l_record_in:K.lookup f_record_in=some ⟨oc_record_in,od_record_in,.func (PySem.W.fnOf "record_in" "record_in" (defArgs s_record_in) (defBody s_record_in) (defScope s_record_in) .none kV_record_in dc_record_in pm_record_in an_record_in cd_record_in ct_record_in),sl_record_in⟩)
    (c_record_in:PySem.W.codeIn K cd_record_in "record_in"=true)
    (k_record_in:PySem.W.keepIn K (.ref f_record_in)=true)
    (a_blocks_of:PySem.W.nsIn K mainGlobals "blocks_of"=some (some (.ref f_blocks_of)))
    (l_blocks_of:K.lookup f_blocks_of=some ⟨oc_blocks_of,od_blocks_of,.func (PySem.W.fnOf "blocks_of" "blocks_of" (defArgs s_blocks_of) (defBody s_blocks_of) (defScope s_blocks_of) .none kV_blocks_of dc_blocks_of pm_blocks_of an_blocks_of cd_blocks_of ct_blocks_of),sl_blocks_of⟩)
    (c_blocks_of:PySem.W.codeIn K cd_blocks_of "blocks_of"=true)
    (k_blocks_of:PySem.W.keepIn K (.ref f_blocks_of)=true)
    (a_contents:PySem.W.nsIn K mainGlobals "contents"=some (some (.ref f_contents)))
    (l_contents:K.lookup f_contents=some ⟨oc_contents,od_contents,.func (PySem.W.fnOf "contents" "contents" (defArgs s_contents) (defBody s_contents) (defScope s_contents) .none kV_contents dc_contents pm_contents an_contents cd_contents ct_contents),sl_contents⟩)
    (c_contents:PySem.W.codeIn K cd_contents "contents"=true)
    (k_contents:PySem.W.keepIn K (.ref f_contents)=true)
    (a_is_found:PySem.W.nsIn K mainGlobals "is_found"=some (some (.ref f_is_found)))
    (l_is_found:K.lookup f_is_found=some ⟨oc_is_found,od_is_found,.func (PySem.W.fnOf "is_found" "is_found" (defArgs s_is_found) (defBody s_is_found) (defScope s_is_found) .none kV_is_found dc_is_found pm_is_found an_is_found cd_is_found ct_is_found),sl_is_found⟩)
    (c_is_found:PySem.W.codeIn K cd_is_found "is_found"=true)
    (k_is_found:PySem.W.keepIn K (.ref f_is_found)=true)
    (a_is_file:PySem.W.nsIn K mainGlobals "is_file"=some (some (.ref f_is_file)))
    (l_is_file:K.lookup f_is_file=some ⟨oc_is_file,od_is_file,.func (PySem.W.fnOf "is_file" "is_file" (defArgs s_is_file) (defBody s_is_file) (defScope s_is_file) .none kV_is_file dc_is_file pm_is_file an_is_file cd_is_file ct_is_file),sl_is_file⟩)
    (c_is_file:PySem.W.codeIn K cd_is_file "is_file"=true)
    (k_is_file:PySem.W.keepIn K (.ref f_is_file)=true)
    (a_record_behind:PySem.W.nsIn K mainGlobals "record_behind"=some (some (.ref f_record_behind)))
    (l_record_behind:K.lookup f_record_behind=some ⟨oc_record_behind,od_record_behind,.func (PySem.W.fnOf "record_behind" "record_behind" (defArgs s_record_behind) (defBody s_record_behind) (defScope s_record_behind) .none kV_record_behind dc_record_behind pm_record_behind an_record_behind cd_record_behind ct_record_behind),sl_record_behind⟩)
    (c_record_behind:PySem.W.codeIn K cd_record_behind "record_behind"=true)
    (k_record_behind:PySem.W.keepIn K (.ref f_record_behind)=true)
    (a_find_path:PySem.W.nsIn K mainGlobals "find_path"=some (some (.ref f_find_path)))
    (l_find_path:K.lookup f_find_path=some ⟨oc_find_path,od_find_path,.func (PySem.W.fnOf "find_path" "find_path" (defArgs s_find_path) (defBody s_find_path) (defScope s_find_path) .none kV_find_path dc_find_path pm_find_path an_find_path cd_find_path ct_find_path),sl_find_path⟩)
    (c_find_path:PySem.W.codeIn K cd_find_path "find_path"=true)
    (k_find_path:PySem.W.keepIn K (.ref f_find_path)=true)
    (a_find_file:PySem.W.nsIn K mainGlobals "find_file"=some (some (.ref f_find_file)))
    (l_find_file:K.lookup f_find_file=some ⟨oc_find_file,od_find_file,.func (PySem.W.fnOf "find_file" "find_file" (defArgs s_find_file) (defBody s_find_file) (defScope s_find_file) .none kV_find_file dc_find_file pm_find_file an_find_file cd_find_file ct_find_file),sl_find_file⟩)
    (c_find_file:PySem.W.codeIn K cd_find_file "find_file"=true)
    (k_find_file:PySem.W.keepIn K (.ref f_find_file)=true)
    (a_read:PySem.W.nsIn K mainGlobals "read"=some (some (.ref f_read)))
    (l_read:K.lookup f_read=some ⟨oc_read,od_read,.func (PySem.W.fnOf "read" "read" (defArgs s_read) (defBody s_read) (defScope s_read) (.ref D_read) kV_read dc_read pm_read an_read cd_read ct_read),sl_read⟩)
    (c_read:PySem.W.codeIn K cd_read "read"=true)
    (k_read:PySem.W.keepIn K (.ref f_read)=true)
    (q_read:K.lookup D_read=some ⟨cD_read,dD_read,.seq #[.int 0 t0_read,.none] nD_read,sD_read⟩)
    (a_l_cell:PySem.W.nsIn K mainGlobals "_law_cell"=some (some (.ref f_l_cell)))
    (l_l_cell:K.lookup f_l_cell=some ⟨oc_l_cell,od_l_cell,.func (PySem.W.fnOf "_law_cell" "_law_cell" (defArgs s_l_cell) (defBody s_l_cell) (defScope s_l_cell) .none kV_l_cell dc_l_cell pm_l_cell an_l_cell cd_l_cell ct_l_cell),sl_l_cell⟩)
    (c_l_cell:PySem.W.codeIn K cd_l_cell "_law_cell"=true)
    (k_l_cell:PySem.W.keepIn K (.ref f_l_cell)=true)
    (a_l_mixed:PySem.W.nsIn K mainGlobals "_law_mixed"=some (some (.ref f_l_mixed)))
    (l_l_mixed:K.lookup f_l_mixed=some ⟨oc_l_mixed,od_l_mixed,.func (PySem.W.fnOf "_law_mixed" "_law_mixed" (defArgs s_l_mixed) (defBody s_l_mixed) (defScope s_l_mixed) .none kV_l_mixed dc_l_mixed pm_l_mixed an_l_mixed cd_l_mixed ct_l_mixed),sl_l_mixed⟩)
    (c_l_mixed:PySem.W.codeIn K cd_l_mixed "_law_mixed"=true)
    (k_l_mixed:PySem.W.keepIn K (.ref f_l_mixed)=true)
    (a_l_layout:PySem.W.nsIn K mainGlobals "_law_layout"=some (some (.ref f_l_layout)))
    (l_l_layout:K.lookup f_l_layout=some ⟨oc_l_layout,od_l_layout,.func (PySem.W.fnOf "_law_layout" "_law_layout" (defArgs s_l_layout) (defBody s_l_layout) (defScope s_l_layout) .none kV_l_layout dc_l_layout pm_l_layout an_l_layout cd_l_layout ct_l_layout),sl_l_layout⟩)
    (c_l_layout:PySem.W.codeIn K cd_l_layout "_law_layout"=true)
    (k_l_layout:PySem.W.keepIn K (.ref f_l_layout)=true)
    (a_l_kinds:PySem.W.nsIn K mainGlobals "_law_kinds"=some (some (.ref f_l_kinds)))
    (l_l_kinds:K.lookup f_l_kinds=some ⟨oc_l_kinds,od_l_kinds,.func (PySem.W.fnOf "_law_kinds" "_law_kinds" (defArgs s_l_kinds) (defBody s_l_kinds) (defScope s_l_kinds) .none kV_l_kinds dc_l_kinds pm_l_kinds an_l_kinds cd_l_kinds ct_l_kinds),sl_l_kinds⟩)
    (c_l_kinds:PySem.W.codeIn K cd_l_kinds "_law_kinds"=true)
    (k_l_kinds:PySem.W.keepIn K (.ref f_l_kinds)=true)
    (a_l_stands:PySem.W.nsIn K mainGlobals "_law_stands"=some (some (.ref f_l_stands)))
    (l_l_stands:K.lookup f_l_stands=some ⟨oc_l_stands,od_l_stands,.func (PySem.W.fnOf "_law_stands" "_law_stands" (defArgs s_l_stands) (defBody s_l_stands) (defScope s_l_stands) .none kV_l_stands dc_l_stands pm_l_stands an_l_stands cd_l_stands ct_l_stands),sl_l_stands⟩)
    (c_l_stands:PySem.W.codeIn K cd_l_stands "_law_stands"=true)
    (k_l_stands:PySem.W.keepIn K (.ref f_l_stands)=true)
    (a_l_new_name:PySem.W.nsIn K mainGlobals "_law_new_name"=some (some (.ref f_l_new_name)))
    (l_l_new_name:K.lookup f_l_new_name=some ⟨oc_l_new_name,od_l_new_name,.func (PySem.W.fnOf "_law_new_name" "_law_new_name" (defArgs s_l_new_name) (defBody s_l_new_name) (defScope s_l_new_name) .none kV_l_new_name dc_l_new_name pm_l_new_name an_l_new_name cd_l_new_name ct_l_new_name),sl_l_new_name⟩)
    (c_l_new_name:PySem.W.codeIn K cd_l_new_name "_law_new_name"=true)
    (k_l_new_name:PySem.W.keepIn K (.ref f_l_new_name)=true)
    (a_l_slots:PySem.W.nsIn K mainGlobals "_law_slots"=some (some (.ref f_l_slots)))
    (l_l_slots:K.lookup f_l_slots=some ⟨oc_l_slots,od_l_slots,.func (PySem.W.fnOf "_law_slots" "_law_slots" (defArgs s_l_slots) (defBody s_l_slots) (defScope s_l_slots) .none kV_l_slots dc_l_slots pm_l_slots an_l_slots cd_l_slots ct_l_slots),sl_l_slots⟩)
    (c_l_slots:PySem.W.codeIn K cd_l_slots "_law_slots"=true)
    (k_l_slots:PySem.W.keepIn K (.ref f_l_slots)=true)
    (ce_l_slots:cd_l_slots=.ref cc_l_slots)
    (cl_l_slots:K.lookup cc_l_slots=some ⟨.type "code",cod_l_slots,.fields cv_l_slots,cos_l_slots⟩)
    (cP_l_slots:cv_l_slots[11]?=some (.ref P_l_slots))
    (ch_l_slots:codeHdIn K cc_l_slots P_l_slots=true)
    (cn_l_slots:(K.lookup P_l_slots).isNone=true)
    (cm_l_slots:ts.contains P_l_slots=true)
    (a_l_check:PySem.W.nsIn K mainGlobals "_law_check"=some (some (.ref f_l_check)))
    (l_l_check:K.lookup f_l_check=some ⟨oc_l_check,od_l_check,.func (PySem.W.fnOf "_law_check" "_law_check" (defArgs s_l_check) (defBody s_l_check) (defScope s_l_check) .none kV_l_check dc_l_check pm_l_check an_l_check cd_l_check ct_l_check),sl_l_check⟩)
    (c_l_check:PySem.W.codeIn K cd_l_check "_law_check"=true)
    (k_l_check:PySem.W.keepIn K (.ref f_l_check)=true)
    (a_l_take:PySem.W.nsIn K mainGlobals "_law_take"=some (some (.ref f_l_take)))
    (l_l_take:K.lookup f_l_take=some ⟨oc_l_take,od_l_take,.func (PySem.W.fnOf "_law_take" "_law_take" (defArgs s_l_take) (defBody s_l_take) (defScope s_l_take) .none kV_l_take dc_l_take pm_l_take an_l_take cd_l_take ct_l_take),sl_l_take⟩)
    (c_l_take:PySem.W.codeIn K cd_l_take "_law_take"=true)
    (k_l_take:PySem.W.keepIn K (.ref f_l_take)=true)
    (a_l_pieces:PySem.W.nsIn K mainGlobals "_law_pieces"=some (some (.ref f_l_pieces)))
    (l_l_pieces:K.lookup f_l_pieces=some ⟨oc_l_pieces,od_l_pieces,.func (PySem.W.fnOf "_law_pieces" "_law_pieces" (defArgs s_l_pieces) (defBody s_l_pieces) (defScope s_l_pieces) .none kV_l_pieces dc_l_pieces pm_l_pieces an_l_pieces cd_l_pieces ct_l_pieces),sl_l_pieces⟩)
    (c_l_pieces:PySem.W.codeIn K cd_l_pieces "_law_pieces"=true)
    (k_l_pieces:PySem.W.keepIn K (.ref f_l_pieces)=true)
    (a_l_size:PySem.W.nsIn K mainGlobals "_law_size"=some (some (.ref f_l_size)))
    (l_l_size:K.lookup f_l_size=some ⟨oc_l_size,od_l_size,.func (PySem.W.fnOf "_law_size" "_law_size" (defArgs s_l_size) (defBody s_l_size) (defScope s_l_size) .none kV_l_size dc_l_size pm_l_size an_l_size cd_l_size ct_l_size),sl_l_size⟩)
    (c_l_size:PySem.W.codeIn K cd_l_size "_law_size"=true)
    (k_l_size:PySem.W.keepIn K (.ref f_l_size)=true)
    (a_l_records:PySem.W.nsIn K mainGlobals "_law_records"=some (some (.ref f_l_records)))
    (l_l_records:K.lookup f_l_records=some ⟨oc_l_records,od_l_records,.func (PySem.W.fnOf "_law_records" "_law_records" (defArgs s_l_records) (defBody s_l_records) (defScope s_l_records) .none kV_l_records dc_l_records pm_l_records an_l_records cd_l_records ct_l_records),sl_l_records⟩)
    (c_l_records:PySem.W.codeIn K cd_l_records "_law_records"=true)
    (k_l_records:PySem.W.keepIn K (.ref f_l_records)=true)
    (a_l_sound:PySem.W.nsIn K mainGlobals "_law_sound"=some (some (.ref f_l_sound)))
    (l_l_sound:K.lookup f_l_sound=some ⟨oc_l_sound,od_l_sound,.func (PySem.W.fnOf "_law_sound" "_law_sound" (defArgs s_l_sound) (defBody s_l_sound) (defScope s_l_sound) .none kV_l_sound dc_l_sound pm_l_sound an_l_sound cd_l_sound ct_l_sound),sl_l_sound⟩)
    (c_l_sound:PySem.W.codeIn K cd_l_sound "_law_sound"=true)
    (k_l_sound:PySem.W.keepIn K (.ref f_l_sound)=true)
    (ce_l_sound:cd_l_sound=.ref cc_l_sound)
    (cl_l_sound:K.lookup cc_l_sound=some ⟨.type "code",cod_l_sound,.fields cv_l_sound,cos_l_sound⟩)
    (cP_l_sound:cv_l_sound[11]?=some (.ref P_l_sound))
    (ch_l_sound:codeHdIn K cc_l_sound P_l_sound=true)
    (cn_l_sound:(K.lookup P_l_sound).isNone=true)
    (cm_l_sound:ts.contains P_l_sound=true)
    (a_l_contents:PySem.W.nsIn K mainGlobals "_law_contents"=some (some (.ref f_l_contents)))
    (l_l_contents:K.lookup f_l_contents=some ⟨oc_l_contents,od_l_contents,.func (PySem.W.fnOf "_law_contents" "_law_contents" (defArgs s_l_contents) (defBody s_l_contents) (defScope s_l_contents) .none kV_l_contents dc_l_contents pm_l_contents an_l_contents cd_l_contents ct_l_contents),sl_l_contents⟩)
    (c_l_contents:PySem.W.codeIn K cd_l_contents "_law_contents"=true)
    (k_l_contents:PySem.W.keepIn K (.ref f_l_contents)=true)
    (a_l_path:PySem.W.nsIn K mainGlobals "_law_path"=some (some (.ref f_l_path)))
    (l_l_path:K.lookup f_l_path=some ⟨oc_l_path,od_l_path,.func (PySem.W.fnOf "_law_path" "_law_path" (defArgs s_l_path) (defBody s_l_path) (defScope s_l_path) .none kV_l_path dc_l_path pm_l_path an_l_path cd_l_path ct_l_path),sl_l_path⟩)
    (c_l_path:PySem.W.codeIn K cd_l_path "_law_path"=true)
    (k_l_path:PySem.W.keepIn K (.ref f_l_path)=true)
    (a_l_refusal:PySem.W.nsIn K mainGlobals "_law_refusal"=some (some (.ref f_l_refusal)))
    (l_l_refusal:K.lookup f_l_refusal=some ⟨oc_l_refusal,od_l_refusal,.func (PySem.W.fnOf "_law_refusal" "_law_refusal" (defArgs s_l_refusal) (defBody s_l_refusal) (defScope s_l_refusal) .none kV_l_refusal dc_l_refusal pm_l_refusal an_l_refusal cd_l_refusal ct_l_refusal),sl_l_refusal⟩)
    (c_l_refusal:PySem.W.codeIn K cd_l_refusal "_law_refusal"=true)
    (k_l_refusal:PySem.W.keepIn K (.ref f_l_refusal)=true)
    (a_l_refused:PySem.W.nsIn K mainGlobals "_law_refused"=some (some (.ref f_l_refused)))
    (l_l_refused:K.lookup f_l_refused=some ⟨oc_l_refused,od_l_refused,.func (PySem.W.fnOf "_law_refused" "_law_refused" (defArgs s_l_refused) (defBody s_l_refused) (defScope s_l_refused) .none kV_l_refused dc_l_refused pm_l_refused an_l_refused cd_l_refused ct_l_refused),sl_l_refused⟩)
    (c_l_refused:PySem.W.codeIn K cd_l_refused "_law_refused"=true)
    (k_l_refused:PySem.W.keepIn K (.ref f_l_refused)=true)
    (a_l_part:PySem.W.nsIn K mainGlobals "_law_part"=some (some (.ref f_l_part)))
    (l_l_part:K.lookup f_l_part=some ⟨oc_l_part,od_l_part,.func (PySem.W.fnOf "_law_part" "_law_part" (defArgs s_l_part) (defBody s_l_part) (defScope s_l_part) .none kV_l_part dc_l_part pm_l_part an_l_part cd_l_part ct_l_part),sl_l_part⟩)
    (c_l_part:PySem.W.codeIn K cd_l_part "_law_part"=true)
    (k_l_part:PySem.W.keepIn K (.ref f_l_part)=true)
    (a_l_file:PySem.W.nsIn K mainGlobals "_law_file"=some (some (.ref f_l_file)))
    (l_l_file:K.lookup f_l_file=some ⟨oc_l_file,od_l_file,.func (PySem.W.fnOf "_law_file" "_law_file" (defArgs s_l_file) (defBody s_l_file) (defScope s_l_file) .none kV_l_file dc_l_file pm_l_file an_l_file cd_l_file ct_l_file),sl_l_file⟩)
    (c_l_file:PySem.W.codeIn K cd_l_file "_law_file"=true)
    (k_l_file:PySem.W.keepIn K (.ref f_l_file)=true)
    (a_law:PySem.W.nsIn K mainGlobals "law"=some (some (.ref f_law)))
    (l_law:K.lookup f_law=some ⟨oc_law,od_law,.func (PySem.W.fnOf "law" "law" (defArgs s_law) (defBody s_law) (defScope s_law) .none kV_law dc_law pm_law an_law cd_law ct_law),sl_law⟩)
    (c_law:PySem.W.codeIn K cd_law "law"=true)
    (k_law:PySem.W.keepIn K (.ref f_law)=true)
    (ai_FileRecord:PySem.W.findIn K (.ref C_FileRecord) "__init__"=some (some (.ref f_Record_init)))
    (mk_FileRecord:PySem.W.makesIn K C_FileRecord=true)
    (kc_FileRecord:PySem.W.keepIn K (.ref C_FileRecord)=true)
    (ai_FolderRecord:PySem.W.findIn K (.ref C_FolderRecord) "__init__"=some (some (.ref f_Record_init)))
    (mk_FolderRecord:PySem.W.makesIn K C_FolderRecord=true)
    (kc_FolderRecord:PySem.W.keepIn K (.ref C_FolderRecord)=true)
    (am_FolderRecord_wants:PySem.W.findIn K (.ref C_FolderRecord) "wants"=some (some (.ref f_Record_wants)))
    (am_FolderRecord_keeps:PySem.W.findIn K (.ref C_FolderRecord) "keeps"=some (some (.ref f_Record_keeps)))
    (ai_FreeRecord:PySem.W.findIn K (.ref C_FreeRecord) "__init__"=some (some (.ref f_Record_init)))
    (mk_FreeRecord:PySem.W.makesIn K C_FreeRecord=true)
    (kc_FreeRecord:PySem.W.keepIn K (.ref C_FreeRecord)=true)
    (am_FreeRecord_wants:PySem.W.findIn K (.ref C_FreeRecord) "wants"=some (some (.ref f_Record_wants)))
    (am_FreeRecord_keeps:PySem.W.findIn K (.ref C_FreeRecord) "keeps"=some (some (.ref f_Record_keeps)))
    (a_RECORDS_AT:PySem.W.nsIn K mainGlobals "RECORDS_AT"=some (some (.int 10 t_RECORDS_AT)))
    (a_FILE:PySem.W.nsIn K mainGlobals "FILE"=some (some (.int 1 t_FILE)))
    (a_FOLDER:PySem.W.nsIn K mainGlobals "FOLDER"=some (some (.int 2 t_FOLDER)))
    (a_KIND_AT:PySem.W.nsIn K mainGlobals "KIND_AT"=some (some (.int 0 t_KIND_AT)))
    (a_SIZE_AT:PySem.W.nsIn K mainGlobals "SIZE_AT"=some (some (.int 1 t_SIZE_AT)))
    (a_NAMES_AT:PySem.W.nsIn K mainGlobals "NAMES_AT"=some (some (.int 2 t_NAMES_AT)))
    (a_FOUND_AT:PySem.W.nsIn K mainGlobals "FOUND_AT"=some (some (.int 3 t_FOUND_AT)))
    (a_FIRST_AT:PySem.W.nsIn K mainGlobals "FIRST_AT"=some (some (.int 4 t_FIRST_AT)))
    (a_MORE_AT:PySem.W.nsIn K mainGlobals "MORE_AT"=some (some (.int 7 t_MORE_AT)))
    (a_EACH:PySem.W.nsIn K mainGlobals "EACH"=some (some (.int 2 t_EACH)))
    (a_SLOT_WIDE:PySem.W.nsIn K mainGlobals "SLOT_WIDE"=some (some (.int 4 t_SLOT_WIDE)))
    (a_USED:PySem.W.nsIn K mainGlobals "USED"=some (some (.int 1 t_USED)))
    (a_FOUND:PySem.W.nsIn K mainGlobals "FOUND"=some (some (.int 1 t_FOUND)))
    (a_WIDE:PySem.W.nsIn K mainGlobals "WIDE"=some (some (.int 8 t_WIDE)))
    (a_PIECES:PySem.W.nsIn K mainGlobals "PIECES"=some (some (.int 11 t_PIECES)))
    (a_FOUND_PATH:PySem.W.nsIn K mainGlobals "FOUND_PATH"=some (some (.ref p_FOUND_PATH)))
    (q_FOUND_PATH:K.lookup p_FOUND_PATH=some ⟨.type "tuple",d_FOUND_PATH,.seq #[.int 0 t0_FOUND_PATH] n_FOUND_PATH,s_FOUND_PATH⟩)
    (ex_NoLayout:PySem.W.excIn K C_NoLayout [.type "ValueError",.type "Exception",.type "BaseException",.type "object"] "ValueError.__new__"=true)
    (ex_NoPath:PySem.W.excIn K C_NoPath [.type "ValueError",.type "Exception",.type "BaseException",.type "object"] "ValueError.__new__"=true)
    (ex_NotFile:PySem.W.excIn K C_NotFile [.type "ValueError",.type "Exception",.type "BaseException",.type "object"] "ValueError.__new__"=true)
    (ex_TooFar:PySem.W.excIn K C_TooFar [.type "ValueError",.type "Exception",.type "BaseException",.type "object"] "ValueError.__new__"=true)
    (xt_ga_NoPath:PySem.W.findIn K (.ref C_NoPath) "__getattribute__"=some (some (.builtin "BaseException.__getattribute__")))
    (xt_gt_NoPath:PySem.W.findIn K (.ref C_NoPath) "__getattr__"=some none)
    (xt_ha_NoPath:PySem.W.findIn K (.ref C_NoPath) "__class__"=some (some (.builtin "object.__class__")))
    (xt_mO_NoPath:PySem.W.mroIn K C_NoPath (.type "object")=some true)
    (xt_mB_NoPath:PySem.W.mroIn K C_NoPath (.type "BaseException")=some true)
    (xt_hn_NoPath:PySem.W.specialIn K (.builtin "object.__class__") "__get__"=some (some (.builtin "getset_descriptor.__get__")))
    (xt_tk_NoPath:PySem.W.takesIn K (.builtin "object.__class__")=some true)
    (xt_ga_NotFile:PySem.W.findIn K (.ref C_NotFile) "__getattribute__"=some (some (.builtin "BaseException.__getattribute__")))
    (xt_gt_NotFile:PySem.W.findIn K (.ref C_NotFile) "__getattr__"=some none)
    (xt_ha_NotFile:PySem.W.findIn K (.ref C_NotFile) "__class__"=some (some (.builtin "object.__class__")))
    (xt_mO_NotFile:PySem.W.mroIn K C_NotFile (.type "object")=some true)
    (xt_mB_NotFile:PySem.W.mroIn K C_NotFile (.type "BaseException")=some true)
    (xt_hn_NotFile:PySem.W.specialIn K (.builtin "object.__class__") "__get__"=some (some (.builtin "getset_descriptor.__get__")))
    (xt_tk_NotFile:PySem.W.takesIn K (.builtin "object.__class__")=some true)
    (xt_ga_TooFar:PySem.W.findIn K (.ref C_TooFar) "__getattribute__"=some (some (.builtin "BaseException.__getattribute__")))
    (xt_gt_TooFar:PySem.W.findIn K (.ref C_TooFar) "__getattr__"=some none)
    (xt_ha_TooFar:PySem.W.findIn K (.ref C_TooFar) "__class__"=some (some (.builtin "object.__class__")))
    (xt_mO_TooFar:PySem.W.mroIn K C_TooFar (.type "object")=some true)
    (xt_mB_TooFar:PySem.W.mroIn K C_TooFar (.type "BaseException")=some true)
    (xt_hn_TooFar:PySem.W.specialIn K (.builtin "object.__class__") "__get__"=some (some (.builtin "getset_descriptor.__get__")))
    (xt_tk_TooFar:PySem.W.takesIn K (.builtin "object.__class__")=some true)
    (fa_o_File:PySem.W.mroIn K C_FileRecord (.type "object")=some true)
    (fa_o_Folder:PySem.W.mroIn K C_FolderRecord (.type "object")=some true)
    (fa_o_Free:PySem.W.mroIn K C_FreeRecord (.type "object")=some true)
    (fa_k11:PySem.W.kitOne K (.ref C_FileRecord) (.ref C_FileRecord)=some true)
    (fa_k21:PySem.W.kitOne K (.ref C_FolderRecord) (.ref C_FileRecord)=some false)
    (fa_k31:PySem.W.kitOne K (.ref C_FreeRecord) (.ref C_FileRecord)=some false)
    (fa_ha_File:PySem.W.findIn K (.ref C_FileRecord) "__class__"=some (some (.builtin "object.__class__")))
    (fa_ha_Folder:PySem.W.findIn K (.ref C_FolderRecord) "__class__"=some (some (.builtin "object.__class__")))
    (fa_ha_Free:PySem.W.findIn K (.ref C_FreeRecord) "__class__"=some (some (.builtin "object.__class__")))
    (fa_hn_class:PySem.W.specialIn K (.builtin "object.__class__") "__get__"=some (some (.builtin "getset_descriptor.__get__")))
    (fa_tk_class:PySem.W.takesIn K (.builtin "object.__class__")=some true)
    (fa_k22:PySem.W.kitOne K (.ref C_FolderRecord) (.ref C_FolderRecord)=some true)
    (fa_k12:PySem.W.kitOne K (.ref C_FileRecord) (.ref C_FolderRecord)=some false)
    (fa_k32:PySem.W.kitOne K (.ref C_FreeRecord) (.ref C_FolderRecord)=some false)
    (fa_k33:PySem.W.kitOne K (.ref C_FreeRecord) (.ref C_FreeRecord)=some true)
    (fa_k13:PySem.W.kitOne K (.ref C_FileRecord) (.ref C_FreeRecord)=some false)
    (fa_k23:PySem.W.kitOne K (.ref C_FolderRecord) (.ref C_FreeRecord)=some false)
    (fa_m_NoPath:PySem.W.exmOne K (.ref C_NoPath) (.ref C_VolumeError)=some true)
    (fa_q_NoPath_BadNumber:PySem.W.kitOne K (.ref C_NoPath) (.ref C_BadNumber)=some false)
    (fa_q_NoPath_NoPath:PySem.W.kitOne K (.ref C_NoPath) (.ref C_NoPath)=some true)
    (fa_q_NoPath_NotFile:PySem.W.kitOne K (.ref C_NoPath) (.ref C_NotFile)=some false)
    (fa_q_NoPath_TooFar:PySem.W.kitOne K (.ref C_NoPath) (.ref C_TooFar)=some false)
    (fa_q_NoPath_Full:PySem.W.kitOne K (.ref C_NoPath) (.ref C_Full)=some false)
    (fa_v_NoPath:PySem.W.kitOne K (.ref C_NoPath) (.type "ValueError")=some true)
    (fa_q_NoPath_NotFolder:PySem.W.kitOne K (.ref C_NoPath) (.ref C_NotFolder)=some false)
    (fa_m_NotFile:PySem.W.exmOne K (.ref C_NotFile) (.ref C_VolumeError)=some true)
    (fa_q_NotFile_BadNumber:PySem.W.kitOne K (.ref C_NotFile) (.ref C_BadNumber)=some false)
    (fa_q_NotFile_NoPath:PySem.W.kitOne K (.ref C_NotFile) (.ref C_NoPath)=some false)
    (fa_q_NotFile_NotFile:PySem.W.kitOne K (.ref C_NotFile) (.ref C_NotFile)=some true)
    (fa_q_NotFile_NotFolder:PySem.W.kitOne K (.ref C_NotFile) (.ref C_NotFolder)=some false)
    (fa_q_NotFile_TooFar:PySem.W.kitOne K (.ref C_NotFile) (.ref C_TooFar)=some false)
    (fa_q_NotFile_Full:PySem.W.kitOne K (.ref C_NotFile) (.ref C_Full)=some false)
    (fa_v_NotFile:PySem.W.kitOne K (.ref C_NotFile) (.type "ValueError")=some true)
    (fa_m_TooFar:PySem.W.exmOne K (.ref C_TooFar) (.ref C_VolumeError)=some true)
    (fa_q_TooFar_BadNumber:PySem.W.kitOne K (.ref C_TooFar) (.ref C_BadNumber)=some false)
    (fa_q_TooFar_NoPath:PySem.W.kitOne K (.ref C_TooFar) (.ref C_NoPath)=some false)
    (fa_q_TooFar_NotFile:PySem.W.kitOne K (.ref C_TooFar) (.ref C_NotFile)=some false)
    (fa_q_TooFar_NotFolder:PySem.W.kitOne K (.ref C_TooFar) (.ref C_NotFolder)=some false)
    (fa_q_TooFar_TooFar:PySem.W.kitOne K (.ref C_TooFar) (.ref C_TooFar)=some true)
    (fa_q_TooFar_Full:PySem.W.kitOne K (.ref C_TooFar) (.ref C_Full)=some false)
    (fa_v_TooFar:PySem.W.kitOne K (.ref C_TooFar) (.type "ValueError")=some true)
    (np_l_slots_l_sound:(P_l_slots == P_l_sound)=false)
    (z_len:PySem.W.nsIn K mainGlobals "len"=some none)
    (z_range:PySem.W.nsIn K mainGlobals "range"=some none)
    (z_isinstance:PySem.W.nsIn K mainGlobals "isinstance"=some none)
    (z_list:PySem.W.nsIn K mainGlobals "list"=some none)
    (z_tuple:PySem.W.nsIn K mainGlobals "tuple"=some none)
    (z_int:PySem.W.nsIn K mainGlobals "int"=some none)
    (z_sorted:PySem.W.nsIn K mainGlobals "sorted"=some none)
    (z_sum:PySem.W.nsIn K mainGlobals "sum"=some none)
    (z_zip:PySem.W.nsIn K mainGlobals "zip"=some none)
    (z_divmod:PySem.W.nsIn K mainGlobals "divmod"=some none)
    (z_bool:PySem.W.nsIn K mainGlobals "bool"=some none)
    (z_ValueError:PySem.W.nsIn K mainGlobals "ValueError"=some none)
    (z_max:PySem.W.nsIn K mainGlobals "max"=some none)
    (ct_all:(ts.all fun p=>p == P_l_slots || p == P_l_sound)=true)
    : ∃ fd:FuncData,(∀ (s:Shared) (v:Value),BindsTo s fd ⟨[v],[]⟩ [("_law_script",v)])∧(∀ p∈ts,K.lookup p=none∧∃ c,codeHdIn K c p=true)∧∀ base:Heap,K.In base→base.Ns mainGlobals mg→BM mg base→FnOk l.prog w K mg base CX0 14 fa fd ["_law_script"] (spLaw K ts):=by
  have e:f_law=fa:=by
    have z:=(PySem.W.mg_of X G a_law).symm.trans hfa
    injection z with z
    injection z
  subst e
  let T:Tx K mg:={
    C_Layout:=C_Layout,
    cl_Layout:=⟨pg_Layout,hd_Layout,po_Layout,sa_Layout⟩,
    g_Layout:=PySem.W.mg_of X G aC_Layout,
    n_Layout_files:=n_Layout_files,
    n_Layout_slots:=n_Layout_slots,
    n_Layout_data:=n_Layout_data,
    C_Record:=C_Record,
    cl_Record:=⟨pg_Record,hd_Record,po_Record,sa_Record⟩,
    g_Record:=PySem.W.mg_of X G aC_Record,
    C_FileRecord:=C_FileRecord,
    cl_FileRecord:=⟨pg_FileRecord,hd_FileRecord,po_FileRecord,sa_FileRecord⟩,
    g_FileRecord:=PySem.W.mg_of X G aC_FileRecord,
    n_FileRecord_kind:=n_FileRecord_kind,
    n_FileRecord_size:=n_FileRecord_size,
    n_FileRecord_names:=n_FileRecord_names,
    n_FileRecord_found:=n_FileRecord_found,
    n_FileRecord_first:=n_FileRecord_first,
    n_FileRecord_more:=n_FileRecord_more,
    C_FolderRecord:=C_FolderRecord,
    cl_FolderRecord:=⟨pg_FolderRecord,hd_FolderRecord,po_FolderRecord,sa_FolderRecord⟩,
    g_FolderRecord:=PySem.W.mg_of X G aC_FolderRecord,
    n_FolderRecord_kind:=n_FolderRecord_kind,
    n_FolderRecord_size:=n_FolderRecord_size,
    n_FolderRecord_names:=n_FolderRecord_names,
    n_FolderRecord_found:=n_FolderRecord_found,
    n_FolderRecord_first:=n_FolderRecord_first,
    n_FolderRecord_more:=n_FolderRecord_more,
    C_FreeRecord:=C_FreeRecord,
    cl_FreeRecord:=⟨pg_FreeRecord,hd_FreeRecord,po_FreeRecord,sa_FreeRecord⟩,
    g_FreeRecord:=PySem.W.mg_of X G aC_FreeRecord,
    n_FreeRecord_kind:=n_FreeRecord_kind,
    n_FreeRecord_size:=n_FreeRecord_size,
    n_FreeRecord_names:=n_FreeRecord_names,
    n_FreeRecord_found:=n_FreeRecord_found,
    n_FreeRecord_first:=n_FreeRecord_first,
    n_FreeRecord_more:=n_FreeRecord_more,
    C_NoLayout:=C_NoLayout,
    g_NoLayout:=PySem.W.mg_of X G aC_NoLayout,
    C_VolumeError:=C_VolumeError,
    g_VolumeError:=PySem.W.mg_of X G aC_VolumeError,
    C_BadNumber:=C_BadNumber,
    g_BadNumber:=PySem.W.mg_of X G aC_BadNumber,
    C_NoPath:=C_NoPath,
    g_NoPath:=PySem.W.mg_of X G aC_NoPath,
    C_NotFile:=C_NotFile,
    g_NotFile:=PySem.W.mg_of X G aC_NotFile,
    C_NotFolder:=C_NotFolder,
    g_NotFolder:=PySem.W.mg_of X G aC_NotFolder,
    C_TooFar:=C_TooFar,
    g_TooFar:=PySem.W.mg_of X G aC_TooFar,
    C_Full:=C_Full,
    g_Full:=PySem.W.mg_of X G aC_Full,
    f_many_slots:=f_many_slots,
    fd_many_slots:=PySem.W.fnOf "many_slots" "many_slots" (defArgs s_many_slots) (defBody s_many_slots) (defScope s_many_slots) .none kV_many_slots dc_many_slots pm_many_slots an_many_slots cd_many_slots ct_many_slots,
    F_many_slots:=fun_mk (st:=s_many_slots) l_many_slots c_many_slots k_many_slots,
    b_many_slots:=(fun_mk (st:=s_many_slots) l_many_slots c_many_slots k_many_slots).binds (ps:=["layout"]) fun _ _ _ _ _ _ us hl=>match us,hl with | [_],_=>rfl,
    g_many_slots:=PySem.W.mg_of X G a_many_slots,
    f_slot_at:=f_slot_at,
    fd_slot_at:=PySem.W.fnOf "slot_at" "slot_at" (defArgs s_slot_at) (defBody s_slot_at) (defScope s_slot_at) .none kV_slot_at dc_slot_at pm_slot_at an_slot_at cd_slot_at ct_slot_at,
    F_slot_at:=fun_mk (st:=s_slot_at) l_slot_at c_slot_at k_slot_at,
    b_slot_at:=(fun_mk (st:=s_slot_at) l_slot_at c_slot_at k_slot_at).binds (ps:=["layout","s"]) fun _ _ _ _ _ _ us hl=>match us,hl with | [_,_],_=>rfl,
    g_slot_at:=PySem.W.mg_of X G a_slot_at,
    f_slot:=f_slot,
    fd_slot:=PySem.W.fnOf "slot" "slot" (defArgs s_slot) (defBody s_slot) (defScope s_slot) .none kV_slot dc_slot pm_slot an_slot cd_slot ct_slot,
    F_slot:=fun_mk (st:=s_slot) l_slot c_slot k_slot,
    b_slot:=(fun_mk (st:=s_slot) l_slot c_slot k_slot).binds (ps:=["layout","volume","s"]) fun _ _ _ _ _ _ us hl=>match us,hl with | [_,_,_],_=>rfl,
    g_slot:=PySem.W.mg_of X G a_slot,
    f_used_slots:=f_used_slots,
    fd_used_slots:=PySem.W.fnOf "used_slots" "used_slots" (defArgs s_used_slots) (defBody s_used_slots) (defScope s_used_slots) .none kV_used_slots dc_used_slots pm_used_slots an_used_slots cd_used_slots ct_used_slots,
    F_used_slots:=fun_mk (st:=s_used_slots) l_used_slots c_used_slots k_used_slots,
    b_used_slots:=(fun_mk (st:=s_used_slots) l_used_slots c_used_slots k_used_slots).binds (ps:=["layout","volume"]) fun _ _ _ _ _ _ us hl=>match us,hl with | [_,_],_=>rfl,
    g_used_slots:=PySem.W.mg_of X G a_used_slots,
    f_slot_of:=f_slot_of,
    fd_slot_of:=PySem.W.fnOf "slot_of" "slot_of" (defArgs s_slot_of) (defBody s_slot_of) (defScope s_slot_of) .none kV_slot_of dc_slot_of pm_slot_of an_slot_of cd_slot_of ct_slot_of,
    F_slot_of:=fun_mk (st:=s_slot_of) l_slot_of c_slot_of k_slot_of,
    b_slot_of:=(fun_mk (st:=s_slot_of) l_slot_of c_slot_of k_slot_of).binds (ps:=["layout","volume","folder","name"]) fun _ _ _ _ _ _ us hl=>match us,hl with | [_,_,_,_],_=>rfl,
    g_slot_of:=PySem.W.mg_of X G a_slot_of,
    f_Layout_init:=f_Layout_init,
    fd_Layout_init:=PySem.W.fnOf "__init__" "Layout.__init__" (defArgs s_Layout_init) (defBody s_Layout_init) (defScope s_Layout_init) .none kV_Layout_init dc_Layout_init pm_Layout_init an_Layout_init cd_Layout_init ct_Layout_init,
    F_Layout_init:=fun_mk (st:=s_Layout_init) l_Layout_init c_Layout_init k_Layout_init,
    b_Layout_init:=(fun_mk (st:=s_Layout_init) l_Layout_init c_Layout_init k_Layout_init).binds (ps:=["self","files","slots","data"]) fun _ _ _ _ _ _ us hl=>match us,hl with | [_,_,_,_],_=>rfl,
    mk_Layout:=⟨mk_Layout,a_Layout_init,i_Layout_init,kc_Layout⟩,
    f_Layout_record_at:=f_Layout_record_at,
    fd_Layout_record_at:=PySem.W.fnOf "record_at" "Layout.record_at" (defArgs s_Layout_record_at) (defBody s_Layout_record_at) (defScope s_Layout_record_at) .none kV_Layout_record_at dc_Layout_record_at pm_Layout_record_at an_Layout_record_at cd_Layout_record_at ct_Layout_record_at,
    F_Layout_record_at:=fun_mk (st:=s_Layout_record_at) l_Layout_record_at c_Layout_record_at k_Layout_record_at,
    b_Layout_record_at:=(fun_mk (st:=s_Layout_record_at) l_Layout_record_at c_Layout_record_at k_Layout_record_at).binds (ps:=["self","f"]) fun _ _ _ _ _ _ us hl=>match us,hl with | [_,_],_=>rfl,
    m_Layout_record_at:=⟨a_Layout_record_at,i_Layout_record_at,k_Layout_record_at⟩,
    f_Layout_names_at:=f_Layout_names_at,
    fd_Layout_names_at:=PySem.W.fnOf "names_at" "Layout.names_at" (defArgs s_Layout_names_at) (defBody s_Layout_names_at) (defScope s_Layout_names_at) .none kV_Layout_names_at dc_Layout_names_at pm_Layout_names_at an_Layout_names_at cd_Layout_names_at ct_Layout_names_at,
    F_Layout_names_at:=fun_mk (st:=s_Layout_names_at) l_Layout_names_at c_Layout_names_at k_Layout_names_at,
    b_Layout_names_at:=(fun_mk (st:=s_Layout_names_at) l_Layout_names_at c_Layout_names_at k_Layout_names_at).binds (ps:=["self","e"]) fun _ _ _ _ _ _ us hl=>match us,hl with | [_,_],_=>rfl,
    m_Layout_names_at:=⟨a_Layout_names_at,i_Layout_names_at,k_Layout_names_at⟩,
    f_Record_init:=f_Record_init,
    fd_Record_init:=PySem.W.fnOf "__init__" "Record.__init__" (defArgs s_Record_init) (defBody s_Record_init) (defScope s_Record_init) .none kV_Record_init dc_Record_init pm_Record_init an_Record_init cd_Record_init ct_Record_init,
    F_Record_init:=fun_mk (st:=s_Record_init) l_Record_init c_Record_init k_Record_init,
    b_Record_init:=(fun_mk (st:=s_Record_init) l_Record_init c_Record_init k_Record_init).binds (ps:=["self","row"]) fun _ _ _ _ _ _ us hl=>match us,hl with | [_,_],_=>rfl,
    mk_Record:=⟨mk_Record,a_Record_init,i_Record_init,kc_Record⟩,
    f_Record_wants:=f_Record_wants,
    fd_Record_wants:=PySem.W.fnOf "wants" "Record.wants" (defArgs s_Record_wants) (defBody s_Record_wants) (defScope s_Record_wants) .none kV_Record_wants dc_Record_wants pm_Record_wants an_Record_wants cd_Record_wants ct_Record_wants,
    F_Record_wants:=fun_mk (st:=s_Record_wants) l_Record_wants c_Record_wants k_Record_wants,
    b_Record_wants:=(fun_mk (st:=s_Record_wants) l_Record_wants c_Record_wants k_Record_wants).binds (ps:=["self"]) fun _ _ _ _ _ _ us hl=>match us,hl with | [_],_=>rfl,
    m_Record_wants:=⟨a_Record_wants,i_Record_wants,k_Record_wants⟩,
    f_Record_keeps:=f_Record_keeps,
    fd_Record_keeps:=PySem.W.fnOf "keeps" "Record.keeps" (defArgs s_Record_keeps) (defBody s_Record_keeps) (defScope s_Record_keeps) .none kV_Record_keeps dc_Record_keeps pm_Record_keeps an_Record_keeps cd_Record_keeps ct_Record_keeps,
    F_Record_keeps:=fun_mk (st:=s_Record_keeps) l_Record_keeps c_Record_keeps k_Record_keeps,
    b_Record_keeps:=(fun_mk (st:=s_Record_keeps) l_Record_keeps c_Record_keeps k_Record_keeps).binds (ps:=["self","k"]) fun _ _ _ _ _ _ us hl=>match us,hl with | [_,_],_=>rfl,
    m_Record_keeps:=⟨a_Record_keeps,i_Record_keeps,k_Record_keeps⟩,
    f_FileRecord_wants:=f_FileRecord_wants,
    fd_FileRecord_wants:=PySem.W.fnOf "wants" "FileRecord.wants" (defArgs s_FileRecord_wants) (defBody s_FileRecord_wants) (defScope s_FileRecord_wants) .none kV_FileRecord_wants dc_FileRecord_wants pm_FileRecord_wants an_FileRecord_wants cd_FileRecord_wants ct_FileRecord_wants,
    F_FileRecord_wants:=fun_mk (st:=s_FileRecord_wants) l_FileRecord_wants c_FileRecord_wants k_FileRecord_wants,
    b_FileRecord_wants:=(fun_mk (st:=s_FileRecord_wants) l_FileRecord_wants c_FileRecord_wants k_FileRecord_wants).binds (ps:=["self"]) fun _ _ _ _ _ _ us hl=>match us,hl with | [_],_=>rfl,
    m_FileRecord_wants:=⟨a_FileRecord_wants,i_FileRecord_wants,k_FileRecord_wants⟩,
    f_FileRecord_keeps:=f_FileRecord_keeps,
    fd_FileRecord_keeps:=PySem.W.fnOf "keeps" "FileRecord.keeps" (defArgs s_FileRecord_keeps) (defBody s_FileRecord_keeps) (defScope s_FileRecord_keeps) .none kV_FileRecord_keeps dc_FileRecord_keeps pm_FileRecord_keeps an_FileRecord_keeps cd_FileRecord_keeps ct_FileRecord_keeps,
    F_FileRecord_keeps:=fun_mk (st:=s_FileRecord_keeps) l_FileRecord_keeps c_FileRecord_keeps k_FileRecord_keeps,
    b_FileRecord_keeps:=(fun_mk (st:=s_FileRecord_keeps) l_FileRecord_keeps c_FileRecord_keeps k_FileRecord_keeps).binds (ps:=["self","k"]) fun _ _ _ _ _ _ us hl=>match us,hl with | [_,_],_=>rfl,
    m_FileRecord_keeps:=⟨a_FileRecord_keeps,i_FileRecord_keeps,k_FileRecord_keeps⟩,
    f_record_of:=f_record_of,
    fd_record_of:=PySem.W.fnOf "record_of" "record_of" (defArgs s_record_of) (defBody s_record_of) (defScope s_record_of) .none kV_record_of dc_record_of pm_record_of an_record_of cd_record_of ct_record_of,
    F_record_of:=fun_mk (st:=s_record_of) l_record_of c_record_of k_record_of,
    b_record_of:=(fun_mk (st:=s_record_of) l_record_of c_record_of k_record_of).binds (ps:=["row"]) fun _ _ _ _ _ _ us hl=>match us,hl with | [_],_=>rfl,
    g_record_of:=PySem.W.mg_of X G a_record_of,
    f_record_in:=f_record_in,
    fd_record_in:=PySem.W.fnOf "record_in" "record_in" (defArgs s_record_in) (defBody s_record_in) (defScope s_record_in) .none kV_record_in dc_record_in pm_record_in an_record_in cd_record_in ct_record_in,
    F_record_in:=fun_mk (st:=s_record_in) l_record_in c_record_in k_record_in,
    b_record_in:=(fun_mk (st:=s_record_in) l_record_in c_record_in k_record_in).binds (ps:=["layout","volume","f"]) fun _ _ _ _ _ _ us hl=>match us,hl with | [_,_,_],_=>rfl,
    g_record_in:=PySem.W.mg_of X G a_record_in,
    f_blocks_of:=f_blocks_of,
    fd_blocks_of:=PySem.W.fnOf "blocks_of" "blocks_of" (defArgs s_blocks_of) (defBody s_blocks_of) (defScope s_blocks_of) .none kV_blocks_of dc_blocks_of pm_blocks_of an_blocks_of cd_blocks_of ct_blocks_of,
    F_blocks_of:=fun_mk (st:=s_blocks_of) l_blocks_of c_blocks_of k_blocks_of,
    b_blocks_of:=(fun_mk (st:=s_blocks_of) l_blocks_of c_blocks_of k_blocks_of).binds (ps:=["volume","record"]) fun _ _ _ _ _ _ us hl=>match us,hl with | [_,_],_=>rfl,
    g_blocks_of:=PySem.W.mg_of X G a_blocks_of,
    f_contents:=f_contents,
    fd_contents:=PySem.W.fnOf "contents" "contents" (defArgs s_contents) (defBody s_contents) (defScope s_contents) .none kV_contents dc_contents pm_contents an_contents cd_contents ct_contents,
    F_contents:=fun_mk (st:=s_contents) l_contents c_contents k_contents,
    b_contents:=(fun_mk (st:=s_contents) l_contents c_contents k_contents).binds (ps:=["layout","volume","f"]) fun _ _ _ _ _ _ us hl=>match us,hl with | [_,_,_],_=>rfl,
    g_contents:=PySem.W.mg_of X G a_contents,
    f_is_found:=f_is_found,
    fd_is_found:=PySem.W.fnOf "is_found" "is_found" (defArgs s_is_found) (defBody s_is_found) (defScope s_is_found) .none kV_is_found dc_is_found pm_is_found an_is_found cd_is_found ct_is_found,
    F_is_found:=fun_mk (st:=s_is_found) l_is_found c_is_found k_is_found,
    b_is_found:=(fun_mk (st:=s_is_found) l_is_found c_is_found k_is_found).binds (ps:=["layout","volume","f"]) fun _ _ _ _ _ _ us hl=>match us,hl with | [_,_,_],_=>rfl,
    g_is_found:=PySem.W.mg_of X G a_is_found,
    f_is_file:=f_is_file,
    fd_is_file:=PySem.W.fnOf "is_file" "is_file" (defArgs s_is_file) (defBody s_is_file) (defScope s_is_file) .none kV_is_file dc_is_file pm_is_file an_is_file cd_is_file ct_is_file,
    F_is_file:=fun_mk (st:=s_is_file) l_is_file c_is_file k_is_file,
    b_is_file:=(fun_mk (st:=s_is_file) l_is_file c_is_file k_is_file).binds (ps:=["layout","volume","f"]) fun _ _ _ _ _ _ us hl=>match us,hl with | [_,_,_],_=>rfl,
    g_is_file:=PySem.W.mg_of X G a_is_file,
    f_record_behind:=f_record_behind,
    fd_record_behind:=PySem.W.fnOf "record_behind" "record_behind" (defArgs s_record_behind) (defBody s_record_behind) (defScope s_record_behind) .none kV_record_behind dc_record_behind pm_record_behind an_record_behind cd_record_behind ct_record_behind,
    F_record_behind:=fun_mk (st:=s_record_behind) l_record_behind c_record_behind k_record_behind,
    b_record_behind:=(fun_mk (st:=s_record_behind) l_record_behind c_record_behind k_record_behind).binds (ps:=["layout","volume","start","names"]) fun _ _ _ _ _ _ us hl=>match us,hl with | [_,_,_,_],_=>rfl,
    g_record_behind:=PySem.W.mg_of X G a_record_behind,
    f_find_path:=f_find_path,
    fd_find_path:=PySem.W.fnOf "find_path" "find_path" (defArgs s_find_path) (defBody s_find_path) (defScope s_find_path) .none kV_find_path dc_find_path pm_find_path an_find_path cd_find_path ct_find_path,
    F_find_path:=fun_mk (st:=s_find_path) l_find_path c_find_path k_find_path,
    b_find_path:=(fun_mk (st:=s_find_path) l_find_path c_find_path k_find_path).binds (ps:=["layout","volume","path"]) fun _ _ _ _ _ _ us hl=>match us,hl with | [_,_,_],_=>rfl,
    g_find_path:=PySem.W.mg_of X G a_find_path,
    f_find_file:=f_find_file,
    fd_find_file:=PySem.W.fnOf "find_file" "find_file" (defArgs s_find_file) (defBody s_find_file) (defScope s_find_file) .none kV_find_file dc_find_file pm_find_file an_find_file cd_find_file ct_find_file,
    F_find_file:=fun_mk (st:=s_find_file) l_find_file c_find_file k_find_file,
    b_find_file:=(fun_mk (st:=s_find_file) l_find_file c_find_file k_find_file).binds (ps:=["layout","volume","path"]) fun _ _ _ _ _ _ us hl=>match us,hl with | [_,_,_],_=>rfl,
    g_find_file:=PySem.W.mg_of X G a_find_file,
    f_read:=f_read,
    fd_read:=PySem.W.fnOf "read" "read" (defArgs s_read) (defBody s_read) (defScope s_read) (.ref D_read) kV_read dc_read pm_read an_read cd_read ct_read,
    dV_read:=.ref D_read,
    F_read:=funD_mk (st:=s_read) l_read c_read k_read,
    a_read:=D_read,
    dv_read:=rfl,
    do_read:=⟨_,_,_,q_read,rfl,.cons ⟨_,rfl⟩ (.cons rfl (.nil))⟩,
    g_read:=PySem.W.mg_of X G a_read,
    f_l_cell:=f_l_cell,
    fd_l_cell:=PySem.W.fnOf "_law_cell" "_law_cell" (defArgs s_l_cell) (defBody s_l_cell) (defScope s_l_cell) .none kV_l_cell dc_l_cell pm_l_cell an_l_cell cd_l_cell ct_l_cell,
    F_l_cell:=fun_mk (st:=s_l_cell) l_l_cell c_l_cell k_l_cell,
    b_l_cell:=(fun_mk (st:=s_l_cell) l_l_cell c_l_cell k_l_cell).binds (ps:=["_law_script","_law_k"]) fun _ _ _ _ _ _ us hl=>match us,hl with | [_,_],_=>rfl,
    g_l_cell:=PySem.W.mg_of X G a_l_cell,
    f_l_mixed:=f_l_mixed,
    fd_l_mixed:=PySem.W.fnOf "_law_mixed" "_law_mixed" (defArgs s_l_mixed) (defBody s_l_mixed) (defScope s_l_mixed) .none kV_l_mixed dc_l_mixed pm_l_mixed an_l_mixed cd_l_mixed ct_l_mixed,
    F_l_mixed:=fun_mk (st:=s_l_mixed) l_l_mixed c_l_mixed k_l_mixed,
    b_l_mixed:=(fun_mk (st:=s_l_mixed) l_l_mixed c_l_mixed k_l_mixed).binds (ps:=["_law_cell_here","_law_k"]) fun _ _ _ _ _ _ us hl=>match us,hl with | [_,_],_=>rfl,
    g_l_mixed:=PySem.W.mg_of X G a_l_mixed,
    f_l_layout:=f_l_layout,
    fd_l_layout:=PySem.W.fnOf "_law_layout" "_law_layout" (defArgs s_l_layout) (defBody s_l_layout) (defScope s_l_layout) .none kV_l_layout dc_l_layout pm_l_layout an_l_layout cd_l_layout ct_l_layout,
    F_l_layout:=fun_mk (st:=s_l_layout) l_l_layout c_l_layout k_l_layout,
    b_l_layout:=(fun_mk (st:=s_l_layout) l_l_layout c_l_layout k_l_layout).binds (ps:=["_law_script"]) fun _ _ _ _ _ _ us hl=>match us,hl with | [_],_=>rfl,
    g_l_layout:=PySem.W.mg_of X G a_l_layout,
    f_l_kinds:=f_l_kinds,
    fd_l_kinds:=PySem.W.fnOf "_law_kinds" "_law_kinds" (defArgs s_l_kinds) (defBody s_l_kinds) (defScope s_l_kinds) .none kV_l_kinds dc_l_kinds pm_l_kinds an_l_kinds cd_l_kinds ct_l_kinds,
    F_l_kinds:=fun_mk (st:=s_l_kinds) l_l_kinds c_l_kinds k_l_kinds,
    b_l_kinds:=(fun_mk (st:=s_l_kinds) l_l_kinds c_l_kinds k_l_kinds).binds (ps:=["_law_cell_here","_law_files"]) fun _ _ _ _ _ _ us hl=>match us,hl with | [_,_],_=>rfl,
    g_l_kinds:=PySem.W.mg_of X G a_l_kinds,
    f_l_stands:=f_l_stands,
    fd_l_stands:=PySem.W.fnOf "_law_stands" "_law_stands" (defArgs s_l_stands) (defBody s_l_stands) (defScope s_l_stands) .none kV_l_stands dc_l_stands pm_l_stands an_l_stands cd_l_stands ct_l_stands,
    F_l_stands:=fun_mk (st:=s_l_stands) l_l_stands c_l_stands k_l_stands,
    b_l_stands:=(fun_mk (st:=s_l_stands) l_l_stands c_l_stands k_l_stands).binds (ps:=["_law_slots_here","_law_folder","_law_name"]) fun _ _ _ _ _ _ us hl=>match us,hl with | [_,_,_],_=>rfl,
    g_l_stands:=PySem.W.mg_of X G a_l_stands,
    f_l_new_name:=f_l_new_name,
    fd_l_new_name:=PySem.W.fnOf "_law_new_name" "_law_new_name" (defArgs s_l_new_name) (defBody s_l_new_name) (defScope s_l_new_name) .none kV_l_new_name dc_l_new_name pm_l_new_name an_l_new_name cd_l_new_name ct_l_new_name,
    F_l_new_name:=fun_mk (st:=s_l_new_name) l_l_new_name c_l_new_name k_l_new_name,
    b_l_new_name:=(fun_mk (st:=s_l_new_name) l_l_new_name c_l_new_name k_l_new_name).binds (ps:=["_law_cell_here","_law_k","_law_slots_here","_law_folder"]) fun _ _ _ _ _ _ us hl=>match us,hl with | [_,_,_,_],_=>rfl,
    g_l_new_name:=PySem.W.mg_of X G a_l_new_name,
    f_l_slots:=f_l_slots,
    fd_l_slots:=PySem.W.fnOf "_law_slots" "_law_slots" (defArgs s_l_slots) (defBody s_l_slots) (defScope s_l_slots) .none kV_l_slots dc_l_slots pm_l_slots an_l_slots cd_l_slots ct_l_slots,
    F_l_slots:=fun_mk (st:=s_l_slots) l_l_slots c_l_slots k_l_slots,
    b_l_slots:=(fun_mk (st:=s_l_slots) l_l_slots c_l_slots k_l_slots).binds (ps:=["_law_cell_here","_law_kinds_here","_law_most"]) fun _ _ _ _ _ _ us hl=>match us,hl with | [_,_,_],_=>rfl,
    cc_l_slots:=cc_l_slots,
    P_l_slots:=P_l_slots,
    FC_l_slots:=funC_mk (st:=s_l_slots) l_l_slots c_l_slots ce_l_slots ch_l_slots,
    g_l_slots:=PySem.W.mg_of X G a_l_slots,
    f_l_check:=f_l_check,
    fd_l_check:=PySem.W.fnOf "_law_check" "_law_check" (defArgs s_l_check) (defBody s_l_check) (defScope s_l_check) .none kV_l_check dc_l_check pm_l_check an_l_check cd_l_check ct_l_check,
    F_l_check:=fun_mk (st:=s_l_check) l_l_check c_l_check k_l_check,
    b_l_check:=(fun_mk (st:=s_l_check) l_l_check c_l_check k_l_check).binds (ps:=["_law_numbers"]) fun _ _ _ _ _ _ us hl=>match us,hl with | [_],_=>rfl,
    g_l_check:=PySem.W.mg_of X G a_l_check,
    f_l_take:=f_l_take,
    fd_l_take:=PySem.W.fnOf "_law_take" "_law_take" (defArgs s_l_take) (defBody s_l_take) (defScope s_l_take) .none kV_l_take dc_l_take pm_l_take an_l_take cd_l_take ct_l_take,
    F_l_take:=fun_mk (st:=s_l_take) l_l_take c_l_take k_l_take,
    b_l_take:=(fun_mk (st:=s_l_take) l_l_take c_l_take k_l_take).binds (ps:=["_law_cell_here","_law_k","_law_wanted","_law_free"]) fun _ _ _ _ _ _ us hl=>match us,hl with | [_,_,_,_],_=>rfl,
    g_l_take:=PySem.W.mg_of X G a_l_take,
    f_l_pieces:=f_l_pieces,
    fd_l_pieces:=PySem.W.fnOf "_law_pieces" "_law_pieces" (defArgs s_l_pieces) (defBody s_l_pieces) (defScope s_l_pieces) .none kV_l_pieces dc_l_pieces pm_l_pieces an_l_pieces cd_l_pieces ct_l_pieces,
    F_l_pieces:=fun_mk (st:=s_l_pieces) l_l_pieces c_l_pieces k_l_pieces,
    b_l_pieces:=(fun_mk (st:=s_l_pieces) l_l_pieces c_l_pieces k_l_pieces).binds (ps:=["_law_cell_here","_law_f","_law_size_here","_law_volume","_law_free"]) fun _ _ _ _ _ _ us hl=>match us,hl with | [_,_,_,_,_],_=>rfl,
    g_l_pieces:=PySem.W.mg_of X G a_l_pieces,
    f_l_size:=f_l_size,
    fd_l_size:=PySem.W.fnOf "_law_size" "_law_size" (defArgs s_l_size) (defBody s_l_size) (defScope s_l_size) .none kV_l_size dc_l_size pm_l_size an_l_size cd_l_size ct_l_size,
    F_l_size:=fun_mk (st:=s_l_size) l_l_size c_l_size k_l_size,
    b_l_size:=(fun_mk (st:=s_l_size) l_l_size c_l_size k_l_size).binds (ps:=["_law_cell_here","_law_f"]) fun _ _ _ _ _ _ us hl=>match us,hl with | [_,_],_=>rfl,
    g_l_size:=PySem.W.mg_of X G a_l_size,
    f_l_records:=f_l_records,
    fd_l_records:=PySem.W.fnOf "_law_records" "_law_records" (defArgs s_l_records) (defBody s_l_records) (defScope s_l_records) .none kV_l_records dc_l_records pm_l_records an_l_records cd_l_records ct_l_records,
    F_l_records:=fun_mk (st:=s_l_records) l_l_records c_l_records k_l_records,
    b_l_records:=(fun_mk (st:=s_l_records) l_l_records c_l_records k_l_records).binds (ps:=["_law_cell_here","_law_kinds_here","_law_slots_here","_law_volume","_law_free"]) fun _ _ _ _ _ _ us hl=>match us,hl with | [_,_,_,_,_],_=>rfl,
    g_l_records:=PySem.W.mg_of X G a_l_records,
    f_l_sound:=f_l_sound,
    fd_l_sound:=PySem.W.fnOf "_law_sound" "_law_sound" (defArgs s_l_sound) (defBody s_l_sound) (defScope s_l_sound) .none kV_l_sound dc_l_sound pm_l_sound an_l_sound cd_l_sound ct_l_sound,
    F_l_sound:=fun_mk (st:=s_l_sound) l_l_sound c_l_sound k_l_sound,
    b_l_sound:=(fun_mk (st:=s_l_sound) l_l_sound c_l_sound k_l_sound).binds (ps:=["_law_layout_here","_law_cell_here"]) fun _ _ _ _ _ _ us hl=>match us,hl with | [_,_],_=>rfl,
    cc_l_sound:=cc_l_sound,
    P_l_sound:=P_l_sound,
    FC_l_sound:=funC_mk (st:=s_l_sound) l_l_sound c_l_sound ce_l_sound ch_l_sound,
    g_l_sound:=PySem.W.mg_of X G a_l_sound,
    f_l_contents:=f_l_contents,
    fd_l_contents:=PySem.W.fnOf "_law_contents" "_law_contents" (defArgs s_l_contents) (defBody s_l_contents) (defScope s_l_contents) .none kV_l_contents dc_l_contents pm_l_contents an_l_contents cd_l_contents ct_l_contents,
    F_l_contents:=fun_mk (st:=s_l_contents) l_l_contents c_l_contents k_l_contents,
    b_l_contents:=(fun_mk (st:=s_l_contents) l_l_contents c_l_contents k_l_contents).binds (ps:=["_law_layout_here","_law_volume","_law_f"]) fun _ _ _ _ _ _ us hl=>match us,hl with | [_,_,_],_=>rfl,
    g_l_contents:=PySem.W.mg_of X G a_l_contents,
    f_l_path:=f_l_path,
    fd_l_path:=PySem.W.fnOf "_law_path" "_law_path" (defArgs s_l_path) (defBody s_l_path) (defScope s_l_path) .none kV_l_path dc_l_path pm_l_path an_l_path cd_l_path ct_l_path,
    F_l_path:=fun_mk (st:=s_l_path) l_l_path c_l_path k_l_path,
    b_l_path:=(fun_mk (st:=s_l_path) l_l_path c_l_path k_l_path).binds (ps:=["_law_slots_here","_law_f","_law_cell_here"]) fun _ _ _ _ _ _ us hl=>match us,hl with | [_,_,_],_=>rfl,
    g_l_path:=PySem.W.mg_of X G a_l_path,
    f_l_refusal:=f_l_refusal,
    fd_l_refusal:=PySem.W.fnOf "_law_refusal" "_law_refusal" (defArgs s_l_refusal) (defBody s_l_refusal) (defScope s_l_refusal) .none kV_l_refusal dc_l_refusal pm_l_refusal an_l_refusal cd_l_refusal ct_l_refusal,
    F_l_refusal:=fun_mk (st:=s_l_refusal) l_l_refusal c_l_refusal k_l_refusal,
    b_l_refusal:=(fun_mk (st:=s_l_refusal) l_l_refusal c_l_refusal k_l_refusal).binds (ps:=["_law_e"]) fun _ _ _ _ _ _ us hl=>match us,hl with | [_],_=>rfl,
    g_l_refusal:=PySem.W.mg_of X G a_l_refusal,
    f_l_refused:=f_l_refused,
    fd_l_refused:=PySem.W.fnOf "_law_refused" "_law_refused" (defArgs s_l_refused) (defBody s_l_refused) (defScope s_l_refused) .none kV_l_refused dc_l_refused pm_l_refused an_l_refused cd_l_refused ct_l_refused,
    F_l_refused:=fun_mk (st:=s_l_refused) l_l_refused c_l_refused k_l_refused,
    b_l_refused:=(fun_mk (st:=s_l_refused) l_l_refused c_l_refused k_l_refused).binds (ps:=["_law_layout_here","_law_volume","_law_path_here","_law_at","_law_many"]) fun _ _ _ _ _ _ us hl=>match us,hl with | [_,_,_,_,_],_=>rfl,
    g_l_refused:=PySem.W.mg_of X G a_l_refused,
    f_l_part:=f_l_part,
    fd_l_part:=PySem.W.fnOf "_law_part" "_law_part" (defArgs s_l_part) (defBody s_l_part) (defScope s_l_part) .none kV_l_part dc_l_part pm_l_part an_l_part cd_l_part ct_l_part,
    F_l_part:=fun_mk (st:=s_l_part) l_l_part c_l_part k_l_part,
    b_l_part:=(fun_mk (st:=s_l_part) l_l_part c_l_part k_l_part).binds (ps:=["_law_layout_here","_law_volume","_law_path_here","_law_due","_law_cell_here"]) fun _ _ _ _ _ _ us hl=>match us,hl with | [_,_,_,_,_],_=>rfl,
    g_l_part:=PySem.W.mg_of X G a_l_part,
    f_l_file:=f_l_file,
    fd_l_file:=PySem.W.fnOf "_law_file" "_law_file" (defArgs s_l_file) (defBody s_l_file) (defScope s_l_file) .none kV_l_file dc_l_file pm_l_file an_l_file cd_l_file ct_l_file,
    F_l_file:=fun_mk (st:=s_l_file) l_l_file c_l_file k_l_file,
    b_l_file:=(fun_mk (st:=s_l_file) l_l_file c_l_file k_l_file).binds (ps:=["_law_layout_here","_law_volume","_law_path_here","_law_due","_law_cell_here"]) fun _ _ _ _ _ _ us hl=>match us,hl with | [_,_,_,_,_],_=>rfl,
    g_l_file:=PySem.W.mg_of X G a_l_file,
    f_law:=f_law,
    fd_law:=PySem.W.fnOf "law" "law" (defArgs s_law) (defBody s_law) (defScope s_law) .none kV_law dc_law pm_law an_law cd_law ct_law,
    F_law:=fun_mk (st:=s_law) l_law c_law k_law,
    b_law:=(fun_mk (st:=s_law) l_law c_law k_law).binds (ps:=["_law_script"]) fun _ _ _ _ _ _ us hl=>match us,hl with | [_],_=>rfl,
    g_law:=PySem.W.mg_of X G a_law,
    mk_FileRecord:=⟨mk_FileRecord,ai_FileRecord,i_Record_init,kc_FileRecord⟩,
    mk_FolderRecord:=⟨mk_FolderRecord,ai_FolderRecord,i_Record_init,kc_FolderRecord⟩,
    m_FolderRecord_wants:=⟨am_FolderRecord_wants,i_Record_wants,k_Record_wants⟩,
    m_FolderRecord_keeps:=⟨am_FolderRecord_keeps,i_Record_keeps,k_Record_keeps⟩,
    mk_FreeRecord:=⟨mk_FreeRecord,ai_FreeRecord,i_Record_init,kc_FreeRecord⟩,
    m_FreeRecord_wants:=⟨am_FreeRecord_wants,i_Record_wants,k_Record_wants⟩,
    m_FreeRecord_keeps:=⟨am_FreeRecord_keeps,i_Record_keeps,k_Record_keeps⟩,
    t_RECORDS_AT:=t_RECORDS_AT,
    g_RECORDS_AT:=PySem.W.mg_of X G a_RECORDS_AT,
    t_FILE:=t_FILE,
    g_FILE:=PySem.W.mg_of X G a_FILE,
    t_FOLDER:=t_FOLDER,
    g_FOLDER:=PySem.W.mg_of X G a_FOLDER,
    t_KIND_AT:=t_KIND_AT,
    g_KIND_AT:=PySem.W.mg_of X G a_KIND_AT,
    t_SIZE_AT:=t_SIZE_AT,
    g_SIZE_AT:=PySem.W.mg_of X G a_SIZE_AT,
    t_NAMES_AT:=t_NAMES_AT,
    g_NAMES_AT:=PySem.W.mg_of X G a_NAMES_AT,
    t_FOUND_AT:=t_FOUND_AT,
    g_FOUND_AT:=PySem.W.mg_of X G a_FOUND_AT,
    t_FIRST_AT:=t_FIRST_AT,
    g_FIRST_AT:=PySem.W.mg_of X G a_FIRST_AT,
    t_MORE_AT:=t_MORE_AT,
    g_MORE_AT:=PySem.W.mg_of X G a_MORE_AT,
    t_EACH:=t_EACH,
    g_EACH:=PySem.W.mg_of X G a_EACH,
    t_SLOT_WIDE:=t_SLOT_WIDE,
    g_SLOT_WIDE:=PySem.W.mg_of X G a_SLOT_WIDE,
    t_USED:=t_USED,
    g_USED:=PySem.W.mg_of X G a_USED,
    t_FOUND:=t_FOUND,
    g_FOUND:=PySem.W.mg_of X G a_FOUND,
    t_WIDE:=t_WIDE,
    g_WIDE:=PySem.W.mg_of X G a_WIDE,
    t_PIECES:=t_PIECES,
    g_PIECES:=PySem.W.mg_of X G a_PIECES,
    p_FOUND_PATH:=p_FOUND_PATH,
    g_FOUND_PATH:=PySem.W.mg_of X G a_FOUND_PATH,
    o_FOUND_PATH:=⟨_,_,_,q_FOUND_PATH,rfl,rfl,(by show 1≤sizeLine;decide),.cons ⟨_,rfl⟩ (.nil)⟩,
    ex_NoLayout:=ex_NoLayout,
    ex_NoPath:=ex_NoPath,
    ex_NotFile:=ex_NotFile,
    ex_TooFar:=ex_TooFar,
    xt_NoPath:=⟨xt_ga_NoPath,xt_gt_NoPath,cls_some xt_mO_NoPath,xt_ha_NoPath,xt_hn_NoPath,xt_tk_NoPath,xt_mO_NoPath,xt_mB_NoPath⟩,
    xt_NotFile:=⟨xt_ga_NotFile,xt_gt_NotFile,cls_some xt_mO_NotFile,xt_ha_NotFile,xt_hn_NotFile,xt_tk_NotFile,xt_mO_NotFile,xt_mB_NotFile⟩,
    xt_TooFar:=⟨xt_ga_TooFar,xt_gt_TooFar,cls_some xt_mO_TooFar,xt_ha_TooFar,xt_hn_TooFar,xt_tk_TooFar,xt_mO_TooFar,xt_mB_TooFar⟩,
    o_File:=fa_o_File,
    o_Folder:=fa_o_Folder,
    o_Free:=fa_o_Free,
    k11:=fa_k11,
    k21:=fa_k21,
    k31:=fa_k31,
    ha_File:=fa_ha_File,
    ha_Folder:=fa_ha_Folder,
    ha_Free:=fa_ha_Free,
    hn_class:=fa_hn_class,
    tk_class:=fa_tk_class,
    k22:=fa_k22,
    k12:=fa_k12,
    k32:=fa_k32,
    k33:=fa_k33,
    k13:=fa_k13,
    k23:=fa_k23,
    m_NoPath:=fa_m_NoPath,
    q_NoPath_BadNumber:=fa_q_NoPath_BadNumber,
    q_NoPath_NoPath:=fa_q_NoPath_NoPath,
    q_NoPath_NotFile:=fa_q_NoPath_NotFile,
    q_NoPath_TooFar:=fa_q_NoPath_TooFar,
    q_NoPath_Full:=fa_q_NoPath_Full,
    v_NoPath:=fa_v_NoPath,
    q_NoPath_NotFolder:=fa_q_NoPath_NotFolder,
    m_NotFile:=fa_m_NotFile,
    q_NotFile_BadNumber:=fa_q_NotFile_BadNumber,
    q_NotFile_NoPath:=fa_q_NotFile_NoPath,
    q_NotFile_NotFile:=fa_q_NotFile_NotFile,
    q_NotFile_NotFolder:=fa_q_NotFile_NotFolder,
    q_NotFile_TooFar:=fa_q_NotFile_TooFar,
    q_NotFile_Full:=fa_q_NotFile_Full,
    v_NotFile:=fa_v_NotFile,
    m_TooFar:=fa_m_TooFar,
    q_TooFar_BadNumber:=fa_q_TooFar_BadNumber,
    q_TooFar_NoPath:=fa_q_TooFar_NoPath,
    q_TooFar_NotFile:=fa_q_TooFar_NotFile,
    q_TooFar_NotFolder:=fa_q_TooFar_NotFolder,
    q_TooFar_TooFar:=fa_q_TooFar_TooFar,
    q_TooFar_Full:=fa_q_TooFar_Full,
    v_TooFar:=fa_v_TooFar,
    np_l_slots_l_sound:=np_l_slots_l_sound,
    z_len:=PySem.W.mg_none_of X G z_len,
    z_range:=PySem.W.mg_none_of X G z_range,
    z_isinstance:=PySem.W.mg_none_of X G z_isinstance,
    z_list:=PySem.W.mg_none_of X G z_list,
    z_tuple:=PySem.W.mg_none_of X G z_tuple,
    z_int:=PySem.W.mg_none_of X G z_int,
    z_sorted:=PySem.W.mg_none_of X G z_sorted,
    z_sum:=PySem.W.mg_none_of X G z_sum,
    z_zip:=PySem.W.mg_none_of X G z_zip,
    z_divmod:=PySem.W.mg_none_of X G z_divmod,
    z_bool:=PySem.W.mg_none_of X G z_bool,
    z_ValueError:=PySem.W.mg_none_of X G z_ValueError,
    z_max:=PySem.W.mg_none_of X G z_max }
  refine ⟨T.fd_law,fun s v=>.of_eq rfl,fun p hp=>?_,fun base _ _ B=>ok_law T B (by simpa using cm_l_slots) (by simpa using cm_l_sound)⟩
  have hz:=List.all_eq_true.mp ct_all p hp
  simp only [Bool.or_eq_true,beq_iff_eq] at hz
  rcases hz with rfl | rfl
  · exact ⟨Option.isNone_iff_eq_none.mp cn_l_slots,_,ch_l_slots⟩
  · exact ⟨Option.isNone_iff_eq_none.mp cn_l_sound,_,ch_l_sound⟩
theorem walk {l:PySem.W.OpenLaw}{q:Program}{loose:List Str}{XP:(Str→Option Value)→Heap→Prop}{YP:World→Heap→Prop}{d:DefRec}{K:Params→PySem.W.Frag}{ts:List Addr}(hn:l.most=some 63) (hdf:d.params.defaults=[])
    (hY:∀ (w:World) (h:Heap),YP w h→(K w.params).In h) (hYT:∀ (w:World) (h:Heap),YP w h→∀ p∈ts,h.get? p=some (tabObj #[]))
    (F:∀ (w:World) (mg:Str→Option Value) (fa:Addr) (h:Heap),(K w.params).In h→h.Ns mainGlobals mg→mg d.name=some (.ref fa) →
      ∃ fd:FuncData,(∀ (s:Shared) (u:Value),BindsTo s fd ⟨[u],[]⟩ [("_law_script",u)])∧(∀ p∈ts,(K w.params).lookup p=none∧∃ c,codeHdIn (K w.params) c p=true)∧∀ base:Heap,(K w.params).In base→base.Ns mainGlobals mg→BM mg base→FnOk l.prog w (K w.params) mg base CX0 14 fa fd ["_law_script"] (spLaw (K w.params) ts)) :
    PySem.W.WalkO q loose XP YP l.row.toRowW d [] (fun f vs=>PySem.call f vs) :=
  L2.walk_ofT (n:=63) (k:=14) (x:="_law_script") (CX:=fun _=>CX0) (sp:=fun w=>spLaw (K w.params) ts) hn (by decide) hdf ⟨rfl,by decide,by decide⟩ hY hYT F (fun _ _ a ns hl hO hS=>⟨a,ns,rfl,hS,hl,hO,fun _=>rfl⟩) fun _ _ _ _ _ z=>z
end K62
namespace PySem.W.Fast
theorem tw9196203325827023432:True:=trivial
theorem tw14604389982740780575:True:=trivial
theorem tw4013369997681516096:True:=trivial
theorem tw14537681666332797964:True:=trivial
theorem tw17223930656668535721:True:=trivial
theorem tw11242679997954653100:True:=trivial
theorem tw11835067739257625287:True:=trivial
theorem tw3377174813206054839:True:=trivial
theorem tw542634697214661419:True:=trivial
theorem tw15545726636250221200:True:=trivial
theorem tw8715634801032719507:True:=trivial
theorem tw13958104941127650824:True:=trivial
theorem tw4047004312453953954:True:=trivial
theorem tw6795240417352397371:True:=trivial
theorem tw16440734498263088330:True:=trivial
theorem tw16912816123712703052:True:=trivial
theorem tw15108496637871011637:True:=trivial
theorem tw14222708609222393337:True:=trivial
theorem tw10236606323768382265:True:=trivial
theorem tw12018192883531246447:True:=trivial
theorem tw798387201291048122:True:=trivial
theorem tw3520003342965304484:True:=trivial
theorem tw13339060489886676067:True:=trivial
theorem tw12507131537064048944:True:=trivial
theorem tw427909763402718391:True:=trivial
theorem tw11657160589741915307:True:=trivial
theorem tw11476991971892921153:True:=trivial
theorem tw4289902766627757917:True:=trivial
theorem tw1285200601645158107:True:=trivial
theorem tw1965064822014653308:True:=trivial
theorem tw12546185037152205152:True:=trivial
theorem tw5920075798278185376:True:=trivial
theorem tw9689382632660094175:True:=trivial
theorem tw8884009950642401137:True:=trivial
theorem tw11831819182147322966:True:=trivial
theorem tw7105487922951533090:True:=trivial
theorem tw1878172772246042959:True:=trivial
theorem tw3115607882722258025:True:=trivial
theorem tw4153134734751464001:True:=trivial
theorem tw8644704993556188886:True:=trivial
theorem tw7979495635204053578:True:=trivial
theorem tw10431194025731863609:True:=trivial
theorem tw15411028241422899259:True:=trivial
theorem tw6411517660581597045:True:=trivial
theorem tw7690527043804496960:True:=trivial
theorem tw8854783127063733898:True:=trivial
theorem tw10646984186527452000:True:=trivial
theorem tw17143414267124143389:True:=trivial
theorem tw11330822737752513709:True:=trivial
theorem tw11066738639212813933:True:=trivial
theorem tw5306342385565033620:True:=trivial
theorem tw8727733385068868598:True:=trivial
theorem tw13264511380747351500:True:=trivial
theorem tw8575950836154342012:True:=trivial
theorem tw2489339184245242315:True:=trivial
theorem tw16538594859515582884:True:=trivial
theorem tw16565810102848235194:True:=trivial
theorem tw13927428908588711796:True:=trivial
theorem tw12872035448131461357:True:=trivial
theorem tw13804175459333418512:True:=trivial
theorem tw3382646878356723796:True:=trivial
theorem tw4480887017912577615:True:=trivial
theorem tw11693931133185734142:True:=trivial
theorem tw7601496343804913539:True:=trivial
theorem tw13378634787219312094:True:=trivial
theorem tw8021013665803316698:True:=trivial
theorem tw5806714940944383512:True:=trivial
theorem tw8621573913983015251:True:=trivial
theorem tw1335652951893300032:True:=trivial
theorem tw11273454129993984823:True:=trivial
theorem tw16190558906622460515:True:=trivial
theorem tw11038896552211397951:True:=trivial
theorem tw11667208873855249118:True:=trivial
theorem tw5833642076810607116:True:=trivial
theorem tw11260233483632799426:True:=trivial
theorem tw3140204502857436915:True:=trivial
theorem tw11853992044424634595:True:=trivial
theorem tw7165981293836886232:True:=trivial
theorem tw14060624032010303118:True:=trivial
theorem tw3123720290710243634:True:=trivial
theorem tw6643082923311431544:True:=trivial
theorem tw8483708277332098155:True:=trivial
theorem tw18432410295235238738:True:=trivial
theorem tw6003845470783453100:True:=trivial
theorem tw14070717840341747637:True:=trivial
theorem tw14753962472335445288:True:=trivial
theorem tw14627528490974448309:True:=trivial
theorem tw9822262897372336192:True:=trivial
theorem tw3989447460679353568:True:=trivial
theorem tw15611543808016532963:True:=trivial
theorem tw10338725252439287291:True:=trivial
theorem tw1819293956031440013:True:=trivial
theorem tw6781596630952613873:True:=trivial
theorem tw9436366458869235015:True:=trivial
theorem tw13983966651852080597:True:=trivial
theorem tw13678688043877788683:True:=trivial
theorem tw1302536290668781034:True:=trivial
theorem tw9191110692252973674:True:=trivial
theorem tw183627321275893478:True:=trivial
theorem tw8432095904440638158:True:=trivial
theorem tw2357152865725884195:True:=trivial
theorem tw17237234096122861236:True:=trivial
theorem tw17752506036082952411:True:=trivial
theorem tw399595566136436832:True:=trivial
theorem tw15852898281704227950:True:=trivial
theorem tw16012286388745682907:True:=trivial
theorem tw10820094700835665398:True:=trivial
theorem tw5072135655417606230:True:=trivial
theorem tw16982228277954610300:True:=trivial
theorem tw4439453152682550704:True:=trivial
theorem tw2449323100527846045:True:=trivial
theorem tw3945641869643062353:True:=trivial
theorem tw17167489527337993257:True:=trivial
theorem tw13560928181401193989:True:=trivial
theorem tw8315665501699792444:True:=trivial
theorem tw7157133858069437070:True:=trivial
theorem tw4259206604627173765:True:=trivial
theorem tw16325503019093284538:True:=trivial
theorem tw6480091313044042070:True:=trivial
theorem tw8247560159818254979:True:=trivial
theorem tw17113116512047321805:True:=trivial
theorem tw7367211508932458053:True:=trivial
theorem tw6933195137717801415:True:=trivial
theorem tw9591636497315835490:True:=trivial
theorem tw1979957252896820032:True:=trivial
theorem tw6835788353522593875:True:=trivial
theorem tw7603398327317794656:True:=trivial
theorem tw13565420225847222790:True:=trivial
theorem tw16071454842079788163:True:=trivial
theorem tw15690662480411639133:True:=trivial
theorem tw14205494849906906102:True:=trivial
theorem tw13512739058355180106:True:=trivial
theorem tw17175487645549006650:True:=trivial
theorem tw10570516861910839695:True:=trivial
theorem tw9085353186968017809:True:=trivial
theorem tw15043294194466149941:True:=trivial
theorem tw6815947276436001647:True:=trivial
theorem tw12458808002250867829:True:=trivial
theorem tw10234617091089201756:True:=trivial
theorem tw5820302409284218275:True:=trivial
theorem tw16324147040677822033:True:=trivial
theorem tw720491469362374066:True:=trivial
theorem tw12282420414771985435:True:=trivial
theorem tw10255522753696883153:True:=trivial
theorem tw1132347657731976828:True:=trivial
theorem tw7078923380893410679:True:=trivial
theorem tw14015185835516253876:True:=trivial
theorem tw15142972609031678292:True:=trivial
theorem tw11238477392252754060:True:=trivial
theorem tw322445313629350891:True:=trivial
theorem tw10042211929622130652:True:=trivial
theorem tw16634135048311244098:True:=trivial
theorem tw9247734358107826161:True:=trivial
theorem tw16717161744748075471:True:=trivial
theorem tw421139138786741457:True:=trivial
theorem tw16751149858669916916:True:=trivial
theorem tw16101333499775696087:True:=trivial
theorem tw10344772519759760999:True:=trivial
theorem tw14834806521045822530:True:=trivial
theorem tw6290659417336668335:True:=trivial
theorem tw78056720332129784:True:=trivial
theorem tw1594173625418141562:True:=trivial
theorem tw8557936854116973886:True:=trivial
theorem tw9453256390196946572:True:=trivial
theorem tw1912815170066191114:True:=trivial
theorem tw16380743394884733433:True:=trivial
theorem tw15146890101192667931:True:=trivial
theorem tw13406681699174891169:True:=trivial
theorem tw3916041651809902981:True:=trivial
theorem tw12964816260843270068:True:=trivial
theorem tw10143515608820908892:True:=trivial
theorem tw6026243294471181237:True:=trivial
theorem tw15439114338026960519:True:=trivial
theorem tw5152536910095133302:True:=trivial
theorem tw15598705252485001387:True:=trivial
theorem tw14666580756688115778:True:=trivial
theorem tw4621022258787869015:True:=trivial
theorem tw14776037725660577219:True:=trivial
theorem tw14978351233021864784:True:=trivial
theorem tw632607426778965849:True:=trivial
theorem tw1828381074144056070:True:=trivial
theorem tw6447218845273718682:True:=trivial
theorem tw232176234528728277:True:=trivial
theorem tw1738646079579853716:True:=trivial
theorem tw14513989258224707591:True:=trivial
theorem tw851279258227601894:True:=trivial
theorem tw999522883081415698:True:=trivial
theorem tw3679692717940664433:True:=trivial
theorem tw3513389766089216770:True:=trivial
theorem tw16426117262008932831:True:=trivial
theorem tw10209664403768606542:True:=trivial
theorem tw8213777681556177170:True:=trivial
theorem tw2058525735011534067:True:=trivial
theorem tw3370007659242263006:True:=trivial
theorem tw9999668057156668463:True:=trivial
theorem tw975797157025890258:True:=trivial
theorem tw1275493437466988021:True:=trivial
theorem tw9190370599792380816:True:=trivial
theorem tw11733045858712361161:True:=trivial
theorem tw8785450264103347573:True:=trivial
theorem tw10925647484175620080:True:=trivial
theorem tw13675048684228072399:True:=trivial
theorem tw4656541639920754748:True:=trivial
theorem tw18010554402700578658:True:=trivial
theorem tw6602865719139693884:True:=trivial
theorem tw13642814375979762579:True:=trivial
theorem tw11361425032569007263:True:=trivial
theorem tw17122893102462712779:True:=trivial
theorem tw4953836785087758563:True:=trivial
theorem tw11487321014360789907:True:=trivial
theorem tw11191019858795993096:True:=trivial
theorem tw4644799585864557101:True:=trivial
theorem tw12976401543302934051:True:=trivial
theorem tw17447281409871655959:True:=trivial
theorem tw6231582990868181264:True:=trivial
theorem tw9860719940082695675:True:=trivial
theorem tw8201552797467193495:True:=trivial
theorem tw14461802752566198486:True:=trivial
theorem tw17047473348536471605:True:=trivial
theorem tw12092257125650591512:True:=trivial
theorem tw16300590267558130848:True:=trivial
theorem tw14071335136512745169:True:=trivial
theorem tw2194444037719722224:True:=trivial
theorem tw14627651103736820994:True:=trivial
theorem tw1547583471355848187:True:=trivial
theorem tw3089599001399296051:True:=trivial
theorem tw17758550884377415535:True:=trivial
theorem tw10969412218549203400:True:=trivial
theorem tw11277858982190423345:True:=trivial
theorem tw9095942902585642907:True:=trivial
theorem tw14072284331087471656:True:=trivial
theorem tw12663838161340025155:True:=trivial
theorem tw18243686189522248990:True:=trivial
theorem tw2870702842219795491:True:=trivial
theorem tw3041851921138011536:True:=trivial
theorem tw16813598871025666936:True:=trivial
theorem tw9547748432127213285:True:=trivial
theorem tw12956730539882113940:True:=trivial
theorem tw15198545733947219275:True:=trivial
theorem tw13111315112700261528:True:=trivial
theorem tw15382653506552198568:True:=trivial
theorem tw7653287049627700385:True:=trivial
theorem tw16541036051651628177:True:=trivial
theorem tw4851570111249691493:True:=trivial
theorem tw18341100251457616650:True:=trivial
theorem tw15638009927323529613:True:=trivial
theorem tw1350003445894958681:True:=trivial
theorem tw12151760364711633910:True:=trivial
theorem tw1997978573765693854:True:=trivial
theorem tw173440104292151976:True:=trivial
theorem tw13570597167686282862:True:=trivial
theorem tw2802874665786159485:True:=trivial
theorem tw9454841896372140111:True:=trivial
theorem tw14286657688012516475:True:=trivial
theorem tw7119402244102914177:True:=trivial
theorem tw5214083972569832048:True:=trivial
theorem tw13218284600300608317:True:=trivial
theorem tw4423106084374249914:True:=trivial
theorem tw10293733301853465597:True:=trivial
theorem tw15461909180609299402:True:=trivial
theorem tw1346256785017053190:True:=trivial
theorem tw16025817157073497235:True:=trivial
theorem tw12440267258617302470:True:=trivial
theorem tw13647113444739530786:True:=trivial
theorem tw208357305024688261:True:=trivial
theorem tw11810545917379600338:True:=trivial
theorem tw7755323191883597787:True:=trivial
theorem tw7764345164810000633:True:=trivial
theorem tw6063905559007770822:True:=trivial
theorem tw8417660346539118650:True:=trivial
theorem tw1453479491003474523:True:=trivial
theorem tw16656732404386504365:True:=trivial
theorem tw161729882728432992:True:=trivial
theorem tw2897467609216828271:True:=trivial
theorem tw6538436177355254714:True:=trivial
theorem tw7599089148140234686:True:=trivial
theorem tw13676942362566924826:True:=trivial
theorem tw4097462404688777363:True:=trivial
theorem tw2673346706003195019:True:=trivial
theorem tw8382859454757032555:True:=trivial
theorem tw12745074572856258755:True:=trivial
theorem tw11648984067921346542:True:=trivial
theorem tw4135012948678513991:True:=trivial
theorem tw180808041667137573:True:=trivial
theorem tw3138652305291461450:True:=trivial
theorem tw7912666040153050571:True:=trivial
theorem tw15007068989692507480:True:=trivial
theorem tw15079589256818796896:True:=trivial
theorem tw3377368663230283933:True:=trivial
theorem tw2778386784515558782:True:=trivial
theorem tw15716684081715062838:True:=trivial
theorem tw1851604043378552544:True:=trivial
theorem tw2965136001375635759:True:=trivial
theorem tw927005360299187003:True:=trivial
theorem tw2199478801414189246:True:=trivial
theorem tw5941967114458174511:True:=trivial
theorem tw6153238009767167421:True:=trivial
theorem tw14451302372580959877:True:=trivial
theorem tw11765713711676714800:True:=trivial
theorem tw17006102420884602670:True:=trivial
theorem tw6148474247575108785:True:=trivial
theorem tw14077876116450397897:True:=trivial
theorem tw9171907706887419112:True:=trivial
theorem tw11746959746583624253:True:=trivial
theorem tw11465015430838786530:True:=trivial
theorem tw9586226185379749347:True:=trivial
theorem tw2073407764483058130:True:=trivial
theorem tw3278877778458769434:True:=trivial
theorem tw5748793690512304991:True:=trivial
theorem tw5157390315044994223:True:=trivial
theorem tw12936924517438154973:True:=trivial
theorem tw10887260154671999601:True:=trivial
theorem tw15571062497466436352:True:=trivial
theorem tw10776296875643035630:True:=trivial
theorem tw10088755608221274905:True:=trivial
theorem tw7919634422358050961:True:=trivial
theorem tw10605157660840822691:True:=trivial
theorem tw2468889139231074291:True:=trivial
theorem tw15275758859452180549:True:=trivial
theorem tw1027402361635062310:True:=trivial
theorem tw2388965099900542611:True:=trivial
theorem tw4035478092061685988:True:=trivial
theorem tw2395802215939274864:True:=trivial
theorem tw1993091512501064280:True:=trivial
theorem tw16641259883154568110:True:=trivial
theorem tw10388453513338552434:True:=trivial
theorem tw10579267268865458398:True:=trivial
theorem tw3650222079970303215:True:=trivial
theorem tw10669267488606955509:True:=trivial
theorem tw1989150512353181893:True:=trivial
theorem tw7617726554181259210:True:=trivial
theorem tw14665918677789584772:True:=trivial
theorem tw6605757844515109804:True:=trivial
theorem tw12314633838526853614:True:=trivial
theorem tw3712508433208221082:True:=trivial
theorem tw11821010297979664817:True:=trivial
theorem tw11168804035026716903:True:=trivial
theorem tw4366891083774914635:True:=trivial
theorem tw11354632357619817629:True:=trivial
theorem tw9005067392971806674:True:=trivial
theorem tw6677756333051835625:True:=trivial
theorem tw8779011125821066914:True:=trivial
theorem tw11649368958371792599:True:=trivial
theorem tw16870507414358667735:True:=trivial
theorem tw13921253562088756249:True:=trivial
theorem tw5882661153407276803:True:=trivial
theorem tw14566472975615738772:True:=trivial
theorem tw9427796957511605630:True:=trivial
theorem tw768315380531857266:True:=trivial
theorem tw5860484442466248117:True:=trivial
theorem tw15232837570990935496:True:=trivial
theorem tw12491534340203994884:True:=trivial
theorem tw2358479439877854962:True:=trivial
theorem tw6640842239638798435:True:=trivial
theorem tw5055869870121298769:True:=trivial
theorem tw17798206639748111862:True:=trivial
theorem tw14102906554442648270:True:=trivial
theorem tw16486549325143280534:True:=trivial
theorem tw6503099525027571482:True:=trivial
theorem tw8914486526364202252:True:=trivial
theorem tw3570887864894582779:True:=trivial
theorem tw3715157645462236221:True:=trivial
theorem tw15140547957131336449:True:=trivial
theorem tw406116354765156025:True:=trivial
theorem tw14597370754354374650:True:=trivial
theorem tw2299619183794801373:True:=trivial
theorem tw10678653135239984818:True:=trivial
theorem tw10542398627351534433:True:=trivial
theorem tw8782502572071402870:True:=trivial
theorem tw445826606011416198:True:=trivial
theorem tw7338903428343645381:True:=trivial
theorem tw4333569192587498282:True:=trivial
theorem tw3131230595886599201:True:=trivial
theorem tw10191332493384584577:True:=trivial
theorem tw15076453989328429659:True:=trivial
theorem tw3123598783536787331:True:=trivial
theorem tw3964163386421859123:True:=trivial
theorem tw3045378168745756286:True:=trivial
theorem tw8010214775866113156:True:=trivial
theorem tw6281952760050860034:True:=trivial
theorem tw4629928099979318783:True:=trivial
theorem tw14877228411367557420:True:=trivial
theorem tw10738549905384702850:True:=trivial
theorem tw1393805522721853130:True:=trivial
theorem tw8386104789652461822:True:=trivial
theorem tw13174784637176326915:True:=trivial
theorem tw12974319636903637786:True:=trivial
theorem tw15578503885422157930:True:=trivial
theorem tw12473182769831550004:True:=trivial
theorem tw6377384838524592063:True:=trivial
theorem tw10882245732612689341:True:=trivial
theorem tw137251037647613760:True:=trivial
theorem tw15055543378240915125:True:=trivial
theorem tw9311079090914710310:True:=trivial
theorem tw3340408478871806805:True:=trivial
theorem tw4848482528074980613:True:=trivial
theorem tw9529025216552272920:True:=trivial
theorem tw4487178822069039542:True:=trivial
theorem tw164289799270545328:True:=trivial
theorem tw7749264183104774262:True:=trivial
theorem tw5543233602353544370:True:=trivial
theorem tw2799178381592089845:True:=trivial
theorem tw153012347901921646:True:=trivial
theorem tw8852875813332008092:True:=trivial
theorem tw14530044190958096718:True:=trivial
theorem tw11416859096931427068:True:=trivial
theorem tw15509236146485792111:True:=trivial
theorem tw18345547268586968078:True:=trivial
theorem tw13927566031966756941:True:=trivial
theorem tw5065853051427649720:True:=trivial
theorem tw13717721758119294526:True:=trivial
theorem tw2195259824127095263:True:=trivial
theorem tw10886888856743228494:True:=trivial
theorem tw2618548491580771962:True:=trivial
theorem tw12842746795356963210:True:=trivial
theorem tw14430791912859767371:True:=trivial
theorem tw6977755953413228014:True:=trivial
theorem tw406670371923352204:True:=trivial
theorem tw18374213149490653731:True:=trivial
theorem tw3184776043534232914:True:=trivial
theorem tw4231743535169183221:True:=trivial
theorem tw11953232335543052544:True:=trivial
theorem tw12532640326452529129:True:=trivial
theorem tw10531421932916911393:True:=trivial
theorem tw353483302266471056:True:=trivial
theorem tw11855272640456108724:True:=trivial
theorem tw14860501737680470025:True:=trivial
theorem tw3089970604101632547:True:=trivial
theorem tw7166297545458238826:True:=trivial
theorem tw8356411678482285209:True:=trivial
theorem tw1841533068302484683:True:=trivial
theorem tw1866875737730949382:True:=trivial
theorem tw7091665667218695083:True:=trivial
theorem tw5921570356775247759:True:=trivial
theorem tw14014800900611432870:True:=trivial
theorem tw15058960419434122322:True:=trivial
theorem tw16372703314282640722:True:=trivial
theorem tw14997382189040243336:True:=trivial
theorem tw12679586058092775428:True:=trivial
theorem tw911617574247375290:True:=trivial
theorem tw961204358431536852:True:=trivial
theorem tw12752181989158816840:True:=trivial
theorem tw13089170480833613791:True:=trivial
theorem tw13082493371623086766:True:=trivial
theorem tw15686270120172567875:True:=trivial
theorem tw5663873249496216355:True:=trivial
theorem tw16958364335839381511:True:=trivial
theorem tw984792560233618305:True:=trivial
theorem tw11544144383736052623:True:=trivial
theorem tw5743995803249072730:True:=trivial
theorem tw14438841613708469162:True:=trivial
theorem tw499376255105612226:True:=trivial
theorem tw17572162067487752173:True:=trivial
theorem tw42616145824320810:True:=trivial
theorem tw3436758531616577719:True:=trivial
theorem tw18402908406703587452:True:=trivial
theorem tw9769017106935113124:True:=trivial
theorem tw782348296038052354:True:=trivial
theorem tw5281036124229479239:True:=trivial
theorem tw8559770486176287219:True:=trivial
theorem tw16520063032666905142:True:=trivial
theorem tw15768089505307973871:True:=trivial
theorem tw13265331390036318056:True:=trivial
theorem tw18221584602645428082:True:=trivial
theorem tw14856387200521605767:True:=trivial
theorem tw12822084134244296024:True:=trivial
theorem tw16041113023369994105:True:=trivial
theorem tw13720790937170473426:True:=trivial
theorem tw15949926710337689817:True:=trivial
theorem tw13572564821043032206:True:=trivial
theorem tw4667624851012816507:True:=trivial
theorem tw3281064253783438437:True:=trivial
theorem tw2097469507510837489:True:=trivial
theorem tw16284220389536933343:True:=trivial
theorem tw12680248998705428166:True:=trivial
theorem tw9509981892539037488:True:=trivial
theorem tw6917132508886421826:True:=trivial
theorem tw11390167738984241274:True:=trivial
theorem tw6425780712971950092:True:=trivial
theorem tw5210103585357808508:True:=trivial
theorem tw9511025645989597827:True:=trivial
theorem tw5555218225109019556:True:=trivial
theorem tw2771223461191535398:True:=trivial
theorem tw2548254446988356848:True:=trivial
theorem tw6863711809371171702:True:=trivial
theorem tw1363326087013625129:True:=trivial
theorem tw6050266412502254522:True:=trivial
theorem tw16450721711605276958:True:=trivial
theorem tw15041631979389876564:True:=trivial
theorem tw3166501519932101918:True:=trivial
theorem tw12965469502836072183:True:=trivial
theorem tw11835511020118156237:True:=trivial
theorem tw12366785994954097068:True:=trivial
theorem tw5566566745366634101:True:=trivial
theorem tw4777250561580395892:True:=trivial
theorem tw12711716348987909440:True:=trivial
theorem tw7555982618356354414:True:=trivial
theorem tw9464136757880608050:True:=trivial
theorem tw15413788726984913514:True:=trivial
theorem tw3948028708785555567:True:=trivial
theorem tw15993016846608115913:True:=trivial
theorem tw16909870738433156123:True:=trivial
theorem tw5903241752646687990:True:=trivial
theorem tw7813678800779684994:True:=trivial
theorem tw6857590557847565288:True:=trivial
theorem tw2133668262812850958:True:=trivial
theorem tw17100749371683086595:True:=trivial
theorem tw6132685992527572875:True:=trivial
theorem tw15870183604361609911:True:=trivial
end PySem.W.Fast
open PySem PySem.W PyProof.Rows
set_option maxRecDepth 100000 in
set_option maxHeartbeats 0 in
theorem PySem.Challenge.cw_volumemend_k62_files_read_holds : PySem.Challenge.rw_volumemend_k62_files_read.Holds := by
  w_on; o_law; k_head; (case hw => w_witness2)
  k_fill
  refine K62.walk (l := PySem.Challenge.rw_volumemend_k62_files_read) rfl rfl (fun w h Y => PySem.W.km_in_of Y) (fun w h Y => PySem.W.km_tabs_of Y) ?F
  case F =>
    intro w mg fa h KX G hmg
    refine' K62.all_mk KX G hmg ?aC_Layout ?pg_Layout ?hd_Layout ?po_Layout ?sa_Layout ?n_Layout_files ?n_Layout_slots ?n_Layout_data ?aC_Record ?pg_Record ?hd_Record ?po_Record ?sa_Record ?aC_FileRecord ?pg_FileRecord ?hd_FileRecord ?po_FileRecord ?sa_FileRecord ?n_FileRecord_kind ?n_FileRecord_size ?n_FileRecord_names ?n_FileRecord_found ?n_FileRecord_first ?n_FileRecord_more ?aC_FolderRecord ?pg_FolderRecord ?hd_FolderRecord ?po_FolderRecord ?sa_FolderRecord ?n_FolderRecord_kind ?n_FolderRecord_size ?n_FolderRecord_names ?n_FolderRecord_found ?n_FolderRecord_first ?n_FolderRecord_more ?aC_FreeRecord ?pg_FreeRecord ?hd_FreeRecord ?po_FreeRecord ?sa_FreeRecord ?n_FreeRecord_kind ?n_FreeRecord_size ?n_FreeRecord_names ?n_FreeRecord_found ?n_FreeRecord_first ?n_FreeRecord_more ?aC_NoLayout ?aC_VolumeError ?aC_BadNumber ?aC_NoPath ?aC_NotFile ?aC_NotFolder ?aC_TooFar ?aC_Full ?a_many_slots ?l_many_slots ?c_many_slots ?k_many_slots ?a_slot_at ?l_slot_at ?c_slot_at ?k_slot_at ?a_slot ?l_slot ?c_slot ?k_slot ?a_used_slots ?l_used_slots ?c_used_slots ?k_used_slots ?a_slot_of ?l_slot_of ?c_slot_of ?k_slot_of ?a_Layout_init ?i_Layout_init ?l_Layout_init ?c_Layout_init ?k_Layout_init ?mk_Layout ?kc_Layout ?a_Layout_record_at ?i_Layout_record_at ?l_Layout_record_at ?c_Layout_record_at ?k_Layout_record_at ?a_Layout_names_at ?i_Layout_names_at ?l_Layout_names_at ?c_Layout_names_at ?k_Layout_names_at ?a_Record_init ?i_Record_init ?l_Record_init ?c_Record_init ?k_Record_init ?mk_Record ?kc_Record ?a_Record_wants ?i_Record_wants ?l_Record_wants ?c_Record_wants ?k_Record_wants ?a_Record_keeps ?i_Record_keeps ?l_Record_keeps ?c_Record_keeps ?k_Record_keeps ?a_FileRecord_wants ?i_FileRecord_wants ?l_FileRecord_wants ?c_FileRecord_wants ?k_FileRecord_wants ?a_FileRecord_keeps ?i_FileRecord_keeps ?l_FileRecord_keeps ?c_FileRecord_keeps ?k_FileRecord_keeps ?a_record_of ?l_record_of ?c_record_of ?k_record_of ?a_record_in ?l_record_in ?c_record_in ?k_record_in ?a_blocks_of ?l_blocks_of ?c_blocks_of ?k_blocks_of ?a_contents ?l_contents ?c_contents ?k_contents ?a_is_found ?l_is_found ?c_is_found ?k_is_found ?a_is_file ?l_is_file ?c_is_file ?k_is_file ?a_record_behind ?l_record_behind ?c_record_behind ?k_record_behind ?a_find_path ?l_find_path ?c_find_path ?k_find_path ?a_find_file ?l_find_file ?c_find_file ?k_find_file ?a_read ?l_read ?c_read ?k_read ?q_read ?a_l_cell ?l_l_cell ?c_l_cell ?k_l_cell ?a_l_mixed ?l_l_mixed ?c_l_mixed ?k_l_mixed ?a_l_layout ?l_l_layout ?c_l_layout ?k_l_layout ?a_l_kinds ?l_l_kinds ?c_l_kinds ?k_l_kinds ?a_l_stands ?l_l_stands ?c_l_stands ?k_l_stands ?a_l_new_name ?l_l_new_name ?c_l_new_name ?k_l_new_name ?a_l_slots ?l_l_slots ?c_l_slots ?k_l_slots ?ce_l_slots ?cl_l_slots ?cP_l_slots ?ch_l_slots ?cn_l_slots ?cm_l_slots ?a_l_check ?l_l_check ?c_l_check ?k_l_check ?a_l_take ?l_l_take ?c_l_take ?k_l_take ?a_l_pieces ?l_l_pieces ?c_l_pieces ?k_l_pieces ?a_l_size ?l_l_size ?c_l_size ?k_l_size ?a_l_records ?l_l_records ?c_l_records ?k_l_records ?a_l_sound ?l_l_sound ?c_l_sound ?k_l_sound ?ce_l_sound ?cl_l_sound ?cP_l_sound ?ch_l_sound ?cn_l_sound ?cm_l_sound ?a_l_contents ?l_l_contents ?c_l_contents ?k_l_contents ?a_l_path ?l_l_path ?c_l_path ?k_l_path ?a_l_refusal ?l_l_refusal ?c_l_refusal ?k_l_refusal ?a_l_refused ?l_l_refused ?c_l_refused ?k_l_refused ?a_l_part ?l_l_part ?c_l_part ?k_l_part ?a_l_file ?l_l_file ?c_l_file ?k_l_file ?a_law ?l_law ?c_law ?k_law ?ai_FileRecord ?mk_FileRecord ?kc_FileRecord ?ai_FolderRecord ?mk_FolderRecord ?kc_FolderRecord ?am_FolderRecord_wants ?am_FolderRecord_keeps ?ai_FreeRecord ?mk_FreeRecord ?kc_FreeRecord ?am_FreeRecord_wants ?am_FreeRecord_keeps ?a_RECORDS_AT ?a_FILE ?a_FOLDER ?a_KIND_AT ?a_SIZE_AT ?a_NAMES_AT ?a_FOUND_AT ?a_FIRST_AT ?a_MORE_AT ?a_EACH ?a_SLOT_WIDE ?a_USED ?a_FOUND ?a_WIDE ?a_PIECES ?a_FOUND_PATH ?q_FOUND_PATH ?ex_NoLayout ?ex_NoPath ?ex_NotFile ?ex_TooFar ?xt_ga_NoPath ?xt_gt_NoPath ?xt_ha_NoPath ?xt_mO_NoPath ?xt_mB_NoPath ?xt_hn_NoPath ?xt_tk_NoPath ?xt_ga_NotFile ?xt_gt_NotFile ?xt_ha_NotFile ?xt_mO_NotFile ?xt_mB_NotFile ?xt_hn_NotFile ?xt_tk_NotFile ?xt_ga_TooFar ?xt_gt_TooFar ?xt_ha_TooFar ?xt_mO_TooFar ?xt_mB_TooFar ?xt_hn_TooFar ?xt_tk_TooFar ?fa_o_File ?fa_o_Folder ?fa_o_Free ?fa_k11 ?fa_k21 ?fa_k31 ?fa_ha_File ?fa_ha_Folder ?fa_ha_Free ?fa_hn_class ?fa_tk_class ?fa_k22 ?fa_k12 ?fa_k32 ?fa_k33 ?fa_k13 ?fa_k23 ?fa_m_NoPath ?fa_q_NoPath_BadNumber ?fa_q_NoPath_NoPath ?fa_q_NoPath_NotFile ?fa_q_NoPath_TooFar ?fa_q_NoPath_Full ?fa_v_NoPath ?fa_q_NoPath_NotFolder ?fa_m_NotFile ?fa_q_NotFile_BadNumber ?fa_q_NotFile_NoPath ?fa_q_NotFile_NotFile ?fa_q_NotFile_NotFolder ?fa_q_NotFile_TooFar ?fa_q_NotFile_Full ?fa_v_NotFile ?fa_m_TooFar ?fa_q_TooFar_BadNumber ?fa_q_TooFar_NoPath ?fa_q_TooFar_NotFile ?fa_q_TooFar_NotFolder ?fa_q_TooFar_TooFar ?fa_q_TooFar_Full ?fa_v_TooFar ?np_l_slots_l_sound ?z_len ?z_range ?z_isinstance ?z_list ?z_tuple ?z_int ?z_sorted ?z_sum ?z_zip ?z_divmod ?z_bool ?z_ValueError ?z_max ?ct_all
    (case aC_Layout => k_is)
    (case pg_Layout => k_is)
    (case hd_Layout => k_is)
    (case po_Layout => k_is)
    (case sa_Layout => k_is)
    (case n_Layout_files => k_is)
    (case n_Layout_slots => k_is)
    (case n_Layout_data => k_is)
    (case aC_Record => k_is)
    (case pg_Record => k_is)
    (case hd_Record => k_is)
    (case po_Record => k_is)
    (case sa_Record => k_is)
    (case aC_FileRecord => k_is)
    (case pg_FileRecord => k_is)
    (case hd_FileRecord => k_is)
    (case po_FileRecord => k_is)
    (case sa_FileRecord => k_is)
    (case n_FileRecord_kind => k_is)
    (case n_FileRecord_size => k_is)
    (case n_FileRecord_names => k_is)
    (case n_FileRecord_found => k_is)
    (case n_FileRecord_first => k_is)
    (case n_FileRecord_more => k_is)
    (case aC_FolderRecord => k_is)
    (case pg_FolderRecord => k_is)
    (case hd_FolderRecord => k_is)
    (case po_FolderRecord => k_is)
    (case sa_FolderRecord => k_is)
    (case n_FolderRecord_kind => k_is)
    (case n_FolderRecord_size => k_is)
    (case n_FolderRecord_names => k_is)
    (case n_FolderRecord_found => k_is)
    (case n_FolderRecord_first => k_is)
    (case n_FolderRecord_more => k_is)
    (case aC_FreeRecord => k_is)
    (case pg_FreeRecord => k_is)
    (case hd_FreeRecord => k_is)
    (case po_FreeRecord => k_is)
    (case sa_FreeRecord => k_is)
    (case n_FreeRecord_kind => k_is)
    (case n_FreeRecord_size => k_is)
    (case n_FreeRecord_names => k_is)
    (case n_FreeRecord_found => k_is)
    (case n_FreeRecord_first => k_is)
    (case n_FreeRecord_more => k_is)
    (case aC_NoLayout => k_is)
    (case aC_VolumeError => k_is)
    (case aC_BadNumber => k_is)
    (case aC_NoPath => k_is)
    (case aC_NotFile => k_is)
    (case aC_NotFolder => k_is)
    (case aC_TooFar => k_is)
    (case aC_Full => k_is)
    (case a_many_slots => k_is)
    (case l_many_slots => k_is)
    (case c_many_slots => k_is)
    (case k_many_slots => k_is)
    (case a_slot_at => k_is)
    (case l_slot_at => k_is)
    (case c_slot_at => k_is)
    (case k_slot_at => k_is)
    (case a_slot => k_is)
    (case l_slot => k_is)
    (case c_slot => k_is)
    (case k_slot => k_is)
    (case a_used_slots => k_is)
    (case l_used_slots => k_is)
    (case c_used_slots => k_is)
    (case k_used_slots => k_is)
    (case a_slot_of => k_is)
    (case l_slot_of => k_is)
    (case c_slot_of => k_is)
    (case k_slot_of => k_is)
    (case a_Layout_init => k_is)
    (case i_Layout_init => k_is)
    (case l_Layout_init => k_is)
    (case c_Layout_init => k_is)
    (case k_Layout_init => k_is)
    (case mk_Layout => k_is)
    (case kc_Layout => k_is)
    (case a_Layout_record_at => k_is)
    (case i_Layout_record_at => k_is)
    (case l_Layout_record_at => k_is)
    (case c_Layout_record_at => k_is)
    (case k_Layout_record_at => k_is)
    (case a_Layout_names_at => k_is)
    (case i_Layout_names_at => k_is)
    (case l_Layout_names_at => k_is)
    (case c_Layout_names_at => k_is)
    (case k_Layout_names_at => k_is)
    (case a_Record_init => k_is)
    (case i_Record_init => k_is)
    (case l_Record_init => k_is)
    (case c_Record_init => k_is)
    (case k_Record_init => k_is)
    (case mk_Record => k_is)
    (case kc_Record => k_is)
    (case a_Record_wants => k_is)
    (case i_Record_wants => k_is)
    (case l_Record_wants => k_is)
    (case c_Record_wants => k_is)
    (case k_Record_wants => k_is)
    (case a_Record_keeps => k_is)
    (case i_Record_keeps => k_is)
    (case l_Record_keeps => k_is)
    (case c_Record_keeps => k_is)
    (case k_Record_keeps => k_is)
    (case a_FileRecord_wants => k_is)
    (case i_FileRecord_wants => k_is)
    (case l_FileRecord_wants => k_is)
    (case c_FileRecord_wants => k_is)
    (case k_FileRecord_wants => k_is)
    (case a_FileRecord_keeps => k_is)
    (case i_FileRecord_keeps => k_is)
    (case l_FileRecord_keeps => k_is)
    (case c_FileRecord_keeps => k_is)
    (case k_FileRecord_keeps => k_is)
    (case a_record_of => k_is)
    (case l_record_of => k_is)
    (case c_record_of => k_is)
    (case k_record_of => k_is)
    (case a_record_in => k_is)
    (case l_record_in => k_is)
    (case c_record_in => k_is)
    (case k_record_in => k_is)
    (case a_blocks_of => k_is)
    (case l_blocks_of => k_is)
    (case c_blocks_of => k_is)
    (case k_blocks_of => k_is)
    (case a_contents => k_is)
    (case l_contents => k_is)
    (case c_contents => k_is)
    (case k_contents => k_is)
    (case a_is_found => k_is)
    (case l_is_found => k_is)
    (case c_is_found => k_is)
    (case k_is_found => k_is)
    (case a_is_file => k_is)
    (case l_is_file => k_is)
    (case c_is_file => k_is)
    (case k_is_file => k_is)
    (case a_record_behind => k_is)
    (case l_record_behind => k_is)
    (case c_record_behind => k_is)
    (case k_record_behind => k_is)
    (case a_find_path => k_is)
    (case l_find_path => k_is)
    (case c_find_path => k_is)
    (case k_find_path => k_is)
    (case a_find_file => k_is)
    (case l_find_file => k_is)
    (case c_find_file => k_is)
    (case k_find_file => k_is)
    (case a_read => k_is)
    (case l_read => k_is)
    (case c_read => k_is)
    (case k_read => k_is)
    (case q_read => k_is)
    (case a_l_cell => k_is)
    (case l_l_cell => k_is)
    (case c_l_cell => k_is)
    (case k_l_cell => k_is)
    (case a_l_mixed => k_is)
    (case l_l_mixed => k_is)
    (case c_l_mixed => k_is)
    (case k_l_mixed => k_is)
    (case a_l_layout => k_is)
    (case l_l_layout => k_is)
    (case c_l_layout => k_is)
    (case k_l_layout => k_is)
    (case a_l_kinds => k_is)
    (case l_l_kinds => k_is)
    (case c_l_kinds => k_is)
    (case k_l_kinds => k_is)
    (case a_l_stands => k_is)
    (case l_l_stands => k_is)
    (case c_l_stands => k_is)
    (case k_l_stands => k_is)
    (case a_l_new_name => k_is)
    (case l_l_new_name => k_is)
    (case c_l_new_name => k_is)
    (case k_l_new_name => k_is)
    (case a_l_slots => k_is)
    (case l_l_slots => k_is)
    (case c_l_slots => k_is)
    (case k_l_slots => k_is)
    (case ce_l_slots => rfl)
    (case cl_l_slots => k_is)
    (case cP_l_slots => rfl)
    (case ch_l_slots => kernel_rfl)
    (case cn_l_slots => kernel_rfl)
    (case cm_l_slots => kernel_rfl)
    (case a_l_check => k_is)
    (case l_l_check => k_is)
    (case c_l_check => k_is)
    (case k_l_check => k_is)
    (case a_l_take => k_is)
    (case l_l_take => k_is)
    (case c_l_take => k_is)
    (case k_l_take => k_is)
    (case a_l_pieces => k_is)
    (case l_l_pieces => k_is)
    (case c_l_pieces => k_is)
    (case k_l_pieces => k_is)
    (case a_l_size => k_is)
    (case l_l_size => k_is)
    (case c_l_size => k_is)
    (case k_l_size => k_is)
    (case a_l_records => k_is)
    (case l_l_records => k_is)
    (case c_l_records => k_is)
    (case k_l_records => k_is)
    (case a_l_sound => k_is)
    (case l_l_sound => k_is)
    (case c_l_sound => k_is)
    (case k_l_sound => k_is)
    (case ce_l_sound => rfl)
    (case cl_l_sound => k_is)
    (case cP_l_sound => rfl)
    (case ch_l_sound => kernel_rfl)
    (case cn_l_sound => kernel_rfl)
    (case cm_l_sound => kernel_rfl)
    (case a_l_contents => k_is)
    (case l_l_contents => k_is)
    (case c_l_contents => k_is)
    (case k_l_contents => k_is)
    (case a_l_path => k_is)
    (case l_l_path => k_is)
    (case c_l_path => k_is)
    (case k_l_path => k_is)
    (case a_l_refusal => k_is)
    (case l_l_refusal => k_is)
    (case c_l_refusal => k_is)
    (case k_l_refusal => k_is)
    (case a_l_refused => k_is)
    (case l_l_refused => k_is)
    (case c_l_refused => k_is)
    (case k_l_refused => k_is)
    (case a_l_part => k_is)
    (case l_l_part => k_is)
    (case c_l_part => k_is)
    (case k_l_part => k_is)
    (case a_l_file => k_is)
    (case l_l_file => k_is)
    (case c_l_file => k_is)
    (case k_l_file => k_is)
    (case a_law => k_is)
    (case l_law => k_is)
    (case c_law => k_is)
    (case k_law => k_is)
    (case ai_FileRecord => k_is)
    (case mk_FileRecord => k_is)
    (case kc_FileRecord => k_is)
    (case ai_FolderRecord => k_is)
    (case mk_FolderRecord => k_is)
    (case kc_FolderRecord => k_is)
    (case am_FolderRecord_wants => k_is)
    (case am_FolderRecord_keeps => k_is)
    (case ai_FreeRecord => k_is)
    (case mk_FreeRecord => k_is)
    (case kc_FreeRecord => k_is)
    (case am_FreeRecord_wants => k_is)
    (case am_FreeRecord_keeps => k_is)
    (case a_RECORDS_AT => k_is)
    (case a_FILE => k_is)
    (case a_FOLDER => k_is)
    (case a_KIND_AT => k_is)
    (case a_SIZE_AT => k_is)
    (case a_NAMES_AT => k_is)
    (case a_FOUND_AT => k_is)
    (case a_FIRST_AT => k_is)
    (case a_MORE_AT => k_is)
    (case a_EACH => k_is)
    (case a_SLOT_WIDE => k_is)
    (case a_USED => k_is)
    (case a_FOUND => k_is)
    (case a_WIDE => k_is)
    (case a_PIECES => k_is)
    (case a_FOUND_PATH => k_is)
    (case q_FOUND_PATH => k_is)
    (case ex_NoLayout => k_exc)
    (case ex_NoPath => k_exc)
    (case ex_NotFile => k_exc)
    (case ex_TooFar => k_exc)
    (case xt_ga_NoPath => k_is)
    (case xt_gt_NoPath => k_is)
    (case xt_ha_NoPath => k_is)
    (case xt_mO_NoPath => k_is)
    (case xt_mB_NoPath => k_is)
    (case xt_hn_NoPath => k_is)
    (case xt_tk_NoPath => k_is)
    (case xt_ga_NotFile => k_is)
    (case xt_gt_NotFile => k_is)
    (case xt_ha_NotFile => k_is)
    (case xt_mO_NotFile => k_is)
    (case xt_mB_NotFile => k_is)
    (case xt_hn_NotFile => k_is)
    (case xt_tk_NotFile => k_is)
    (case xt_ga_TooFar => k_is)
    (case xt_gt_TooFar => k_is)
    (case xt_ha_TooFar => k_is)
    (case xt_mO_TooFar => k_is)
    (case xt_mB_TooFar => k_is)
    (case xt_hn_TooFar => k_is)
    (case xt_tk_TooFar => k_is)
    (case fa_o_File => k_is)
    (case fa_o_Folder => k_is)
    (case fa_o_Free => k_is)
    (case fa_k11 => kit_is)
    (case fa_k21 => kit_is)
    (case fa_k31 => kit_is)
    (case fa_ha_File => k_is)
    (case fa_ha_Folder => k_is)
    (case fa_ha_Free => k_is)
    (case fa_hn_class => k_is)
    (case fa_tk_class => k_is)
    (case fa_k22 => kit_is)
    (case fa_k12 => kit_is)
    (case fa_k32 => kit_is)
    (case fa_k33 => kit_is)
    (case fa_k13 => kit_is)
    (case fa_k23 => kit_is)
    (case fa_m_NoPath => kts_exm)
    (case fa_q_NoPath_BadNumber => kit_is)
    (case fa_q_NoPath_NoPath => kit_is)
    (case fa_q_NoPath_NotFile => kit_is)
    (case fa_q_NoPath_TooFar => kit_is)
    (case fa_q_NoPath_Full => kit_is)
    (case fa_v_NoPath => kit_is)
    (case fa_q_NoPath_NotFolder => kit_is)
    (case fa_m_NotFile => kts_exm)
    (case fa_q_NotFile_BadNumber => kit_is)
    (case fa_q_NotFile_NoPath => kit_is)
    (case fa_q_NotFile_NotFile => kit_is)
    (case fa_q_NotFile_NotFolder => kit_is)
    (case fa_q_NotFile_TooFar => kit_is)
    (case fa_q_NotFile_Full => kit_is)
    (case fa_v_NotFile => kit_is)
    (case fa_m_TooFar => kts_exm)
    (case fa_q_TooFar_BadNumber => kit_is)
    (case fa_q_TooFar_NoPath => kit_is)
    (case fa_q_TooFar_NotFile => kit_is)
    (case fa_q_TooFar_NotFolder => kit_is)
    (case fa_q_TooFar_TooFar => kit_is)
    (case fa_q_TooFar_Full => kit_is)
    (case fa_v_TooFar => kit_is)
    (case np_l_slots_l_sound => kernel_rfl)
    (case z_len => k_is)
    (case z_range => k_is)
    (case z_isinstance => k_is)
    (case z_list => k_is)
    (case z_tuple => k_is)
    (case z_int => k_is)
    (case z_sorted => k_is)
    (case z_sum => k_is)
    (case z_zip => k_is)
    (case z_divmod => k_is)
    (case z_bool => k_is)
    (case z_ValueError => k_is)
    (case z_max => k_is)
    (case ct_all => kernel_rfl)
