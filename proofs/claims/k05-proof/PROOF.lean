import PyProof.Rows.All
import Wide.All
import OpenK.AllK
import Wide.FinOn
import Lean
import PyProof.EqAt
import PyProof.EqKinds
import PyProof.TupleCall
import PyProof.EnumMake
import PyProof.EnumFor
import PyProof.StationsW
import PyProof.ExcClass
import PyProof.ExcInit
import PyProof.ExcClass2
import PyProof.DictItems
import KE.KPairComp
import PyProof.FactsDict
import PyProof.MeetsDictList
import PyProof.DictWalks
import KE.KDictList
import KE.KDictSum
import PyProof.StrCalls2
import PyProof.StrWalks
import PyProof.StrLawsTight
import PyProof.StrLawsJoin
import PyProof.StrLawsIn
import PyProof.FitsReplace
import PyProof.Rows.StrItems
import PyProof.Rows.CatFin
import PyProof.Rows.StrIntSpec
import PyProof.SliceStr2
import PyProof.Rows.StrSplitCount
import KE.KIntText
import PySem.Challenge.RW_volumemend_k05_no_text
set_option Elab.async false
set_option linter.all false
set_option maxRecDepth 100000
namespace L2
open PySem PySem.Spec PyProof.Rows
abbrev Key:=Sum Int Str
def keyIs:Key→Value→Bool
  | .inl k,v=>Value.isInt k v
  | .inr x,v=>Value.isStrOf x v
def keyH (w:World):Key→Int
  | .inl k=>hashInt k
  | .inr x=>hashStr w x
theorem keyIs_shape:∀ {k:Key}{v:Value},keyIs k v=true→(∃ i t,k=Sum.inl i∧v=Value.int i t)∨(∃ x t,k=Sum.inr x∧v=Value.str x t)
  | .inl i,v,h=>by
    obtain ⟨t,e⟩:=Value.isInt_shape (k:=i) (v:=v) h
    exact .inl ⟨i,t,rfl,e⟩
  | .inr x,v,h=>by
    obtain ⟨t,e⟩:=Value.isStrOf_shape (x:=x) (v:=v) h
    exact .inr ⟨x,t,rfl,e⟩
theorem key_ll (a b:Int):decide ((Sum.inl a:Key)=Sum.inl b)=(a == b):=by
  by_cases e:a=b
  · subst e;simp
  · have h:¬ (Sum.inl a:Key)=Sum.inl b:=fun q=>e (Sum.inl.inj q)
    rw [decide_eq_false h]
    exact (beq_eq_false_iff_ne.mpr e).symm
theorem key_rr (a b:Str):decide ((Sum.inr a:Key)=Sum.inr b)=decide (a=b):=by
  by_cases e:a=b
  · subst e;simp
  · have h:¬ (Sum.inr a:Key)=Sum.inr b:=fun q=>e (Sum.inr.inj q)
    rw [decide_eq_false h,decide_eq_false e]
theorem key_lr (a:Int) (b:Str):decide ((Sum.inl a:Key)=Sum.inr b)=false:=decide_eq_false (fun q=>nomatch q)
theorem key_rl (a:Str) (b:Int):decide ((Sum.inr a:Key)=Sum.inl b)=false:=decide_eq_false (fun q=>nomatch q)
def mixKind (prog:Program) (w:World):PySem.KeyKind prog w Key where
  is:=keyIs
  hash:=keyH w
  inj:=fun v a b ha hb=>by
    rcases keyIs_shape ha with ⟨i,t,rfl,rfl⟩ | ⟨x,t,rfl,rfl⟩
    · rcases keyIs_shape hb with ⟨j,u,rfl,e⟩ | ⟨y,u,rfl,e⟩
      · injection e with e1 _;rw [e1]
      · exact nomatch e
    · rcases keyIs_shape hb with ⟨j,u,rfl,e⟩ | ⟨y,u,rfl,e⟩
      · exact nomatch e
      · injection e with e1 _;rw [e1]
  byValue:=fun k v h=>by
    rcases keyIs_shape h with ⟨i,t,rfl,rfl⟩ | ⟨x,t,rfl,rfl⟩<;>rfl
  pyHash:=fun hv h=>by
    rcases keyIs_shape hv with ⟨i,t,rfl,rfl⟩ | ⟨x,t,rfl,rfl⟩
    · exact wpAny_pyHash_int h
    · exact wpAny_pyHash_str h
  eqBool:=fun hu hv h=>by
    rcases keyIs_shape hu with ⟨i,t,rfl,rfl⟩ | ⟨x,t,rfl,rfl⟩
    · rcases keyIs_shape hv with ⟨j,u,rfl,rfl⟩ | ⟨y,u,rfl,rfl⟩
      · rw [key_ll] at h;exact wpAny_eqBool_int h
      · rw [key_lr] at h;exact SeqAt.EqAt.int_str i t y u _ _ _ _ h
    · rcases keyIs_shape hv with ⟨j,u,rfl,rfl⟩ | ⟨y,u,rfl,rfl⟩
      · rw [key_rl] at h;exact SeqAt.EqAt.str_int x t j u _ _ _ _ h
      · rw [key_rr] at h;exact wpAny_eqBool_str h
  «strs»:=fun k x t v h=>by
    rcases keyIs_shape h with ⟨i,u,rfl,e⟩ | ⟨y,u,rfl,e⟩
    · exact nomatch e
    · injection e with e1 _
      subst e1
      cases v<;>rfl
end L2
namespace L2
open PySem PySem.Spec PyProof.Rows
inductive V where
  | non | bl (b:Bool) | int (i:Int) | str (x:Str) | byt (b:Array UInt8) | flt (b:UInt64) | ref (a:Addr) | ty (n:String)
  deriving DecidableEq
def RelV:V→Value→Prop
  | .non,u=>u=Value.none
  | .bl b,u=>u=Value.bool b
  | .int i,u=>∃ t,u=Value.int i t
  | .str x,u=>∃ t,u=Value.str x t
  | .byt b,u=>∃ t,u=Value.bytes b t
  | .flt b,u=>∃ t,u=Value.float b t
  | .ref a,u=>u=Value.ref a
  | .ty n,u=>u=Value.type n
abbrev Vals:List V→List Value→Prop:=Paired RelV
theorem Vals.length {xs:List V}{us:List Value}(r:Vals xs us):xs.length=us.length:=Paired.length r
theorem Vals.get:∀ {xs:List V}{us:List Value}{i:Nat}{x:V},Vals xs us→xs[i]?=some x→∃ u,us[i]?=some u∧RelV x u
  | _,_,_,_,.nil,e=>by simp at e
  | _,_,0,_,.cons r _,e=>by simp at e;subst e;exact ⟨_,rfl,r⟩
  | _,_,i + 1,x,.cons _ t,e=>by
    obtain ⟨u,h1,h2⟩:=Vals.get (i:=i) (x:=x) t (by simpa using e)
    exact ⟨u,by simpa using h1,h2⟩
theorem Vals.set {x:V}{u:Value}(r:RelV x u):∀ {xs:List V}{us:List Value}(i:Nat),Vals xs us→Vals (xs.set i x) (us.set i u)
  | _,_,_,.nil=>.nil
  | _,_,0,.cons _ t=>.cons r t
  | _,_,i + 1,.cons q t=>.cons q (Vals.set r i t)
theorem Vals.append:∀ {xs ys:List V}{us ws:List Value},Vals xs us→Vals ys ws→Vals (xs ++ ys) (us ++ ws)
  | _,_,_,_,.nil,s=>s
  | _,_,_,_,.cons r t,s=>.cons r (Vals.append t s)
theorem Vals.take:∀ {xs:List V}{us:List Value}(n:Nat),Vals xs us→Vals (xs.take n) (us.take n)
  | _,_,0,_=>.nil
  | _,_,_ + 1,.nil=>.nil
  | _,_,n + 1,.cons r t=>.cons r (Vals.take n t)
theorem Vals.drop:∀ {xs:List V}{us:List Value}(n:Nat),Vals xs us→Vals (xs.drop n) (us.drop n)
  | _,_,0,r=>r
  | _,_,_ + 1,.nil=>.nil
  | _,_,n + 1,.cons _ t=>Vals.drop n t
def RelO:Option V→Option Value→Prop
  | some v,some u=>RelV v u
  | none,none=>True
  | _,_=>False
def KV {κ:Type}:List (κ×V)→List (κ×Value)→Prop:=Paired fun (p:κ×V) (q:κ×Value)=>p.1=q.1∧RelV p.2 q.2
def kV:Key→V
  | .inl i=>.int i
  | .inr x=>.str x
inductive HO where
  | lst (xs:List V)
  | tup (xs:List V)
  | dK (kvs:List (Key×V)) | dT (kvs:List (List Key×V))
  | set (S:Int→Bool) (n:Nat)
  | ins (C dx:Addr) (fs:List (Str×V))
  | own (x:Addr)
  | xd (fs:List (Str×V))
  | met (f x:Addr)
  | rng (lo hi:Int)
  | frz (o:Obj) (u:HO)
  | tbl (ps:Array Value)
  | ext (φ:Heap→Prop)
abbrev Hp:=Addr→Option HO
def upd (H:Hp) (a:Addr) (o:HO):Hp:=fun b=>if b=a then some o else H b
theorem upd_same {H:Hp}{a:Addr}{o:HO}:upd H a o a=some o:=by unfold upd;rw [if_pos rfl]
theorem upd_ne {H:Hp}{a b:Addr}{o:HO}(h:b≠a):upd H a o b=H b:=by unfold upd;rw [if_neg h]
theorem ne_of_none {H:Hp}{a b:Addr}{o:HO}(h:H a=some o) (h':H b=none):a≠b:=by
  intro e;subst e;rw [h] at h';cases h'
section
variable (P:Program) (w:World)
def ObjOk (H:Hp) (h:Heap) (a:Addr):HO→Prop
  | .lst xs=>xs.length≤sizeLine∧∃ (its:List Value) (n:Nat),Vals xs its∧h.get? a=some { cls:=.type "list",data:=.seq its.toArray n }
  | .tup xs=>xs.length≤sizeLine∧∃ its:List Value,Vals xs its∧IsTup h a its.toArray
  | .dK kvs=>kvs.length≤sizeLine∧(a == sysModules)=false∧∃ vs,KV kvs vs∧h.DictOf (mixKind P w) a vs
  | .dT kvs=>kvs.length≤sizeLine∧(a == sysModules)=false∧∃ xs:List (List Key×Addr×Value),
      Paired (fun (p:List Key×V) (q:List Key×Addr×Value)=>p.1=q.1∧H q.2.1=some (.tup (p.1.map kV))∧RelV p.2 q.2.2) kvs xs ∧
      ∃ o es ep,h.get? a=some o∧o.ExactDict∧o.data=.dict es ep∧es.toList=xs.map (entryOfKey (tupleKind (mixKind P w)))∧(xs.map (·.1)).Nodup
  | .set S n=>h.SetOf (intKind P w) a S n
  | .ins C dx fs=>H dx=some (.own a)∧fs.length≤1000∧dx≠a∧h.get? a=some (PySem.W.instObj C dx) ∧
      ∃ mA,h.Ns1 dx mA∧(∀ f,RelO (fs.lookup f) (mA f))∧PySem.Within mA (fs.map (·.1))
  | .own _=>∃ o,h.get? a=some o
  | .xd fs=>∃ mA,h.Ns1 a mA∧∀ f,RelO (fs.lookup f) (mA f)
  | .rng lo hi=>∃ t u v,h.get? a=some { cls:=.type "range",data:=.fields #[.int lo t,.int hi u,.int 1 v] }
  | .frz o u=>h.get? a=some o∧ObjOk H h a u
  | .tbl ps=>h.get? a=some { cls:=.none,data:=.fields ps }
  | .met f x=>h.get? a=some (PySem.W.methodObj (.ref f) (.ref x))
  | .ext φ=>φ h∧(∃ o,h.get? a=some o)∧∀ h1 h2:Heap,φ h1→(∀ o,h1.get? a=some o→h2.get? a=some o)→φ h2
def HOk (H:Hp) (h:Heap):Prop:=∀ a o,H a=some o→ObjOk P w H h a o
end
section
variable {P:Program}{w:World}{H H':Hp}{h h':Heap}{a:Addr}{o:HO}
theorem ObjOk.lt (x:ObjOk P w H h a o):a < h.objs.size:=by
  cases o with
  | lst xs=>obtain ⟨_,_,_,_,e⟩:=x;exact Heap.lt_size e
  | tup xs=>obtain ⟨_,_,_,p⟩:=x;exact p.lt
  | dK kvs=>obtain ⟨_,_,_,_,o,_,_,e,_⟩:=x;exact Heap.lt_size e
  | dT kvs=>obtain ⟨_,_,_,_,o,_,_,e,_⟩:=x;exact Heap.lt_size e
  | set S n=>obtain ⟨o,_,_,_,e,_⟩:=x;exact Heap.lt_size e
  | ins C dx fs=>obtain ⟨_,_,_,e,_⟩:=x;exact Heap.lt_size e
  | own y=>obtain ⟨_,e⟩:=x;exact Heap.lt_size e
  | xd fs=>obtain ⟨_,⟨_,_,_,e,_⟩,_⟩:=x;exact Heap.lt_size e
  | rng lo hi=>obtain ⟨_,_,_,e⟩:=x;exact Heap.lt_size e
  | frz ob u=>obtain ⟨e,_⟩:=x;exact Heap.lt_size e
  | tbl ps=>exact Heap.lt_size (show h.get? a=some _ from x)
  | met f y=>exact Heap.lt_size (show h.get? a=some _ from x)
  | ext φ=>obtain ⟨_,⟨_,e⟩,_⟩:=x;exact Heap.lt_size e
theorem Paired.mapP {α β:Type}{F G:α→β→Prop}:∀ {l₁:List α}{l₂:List β},Paired F l₁ l₂→(∀ a b,F a b→G a b)→Paired G l₁ l₂
  | _,_,.nil,_=>.nil
  | _,_,.cons r t,f=>.cons (f _ _ r) (Paired.mapP t f)
theorem ObjOk.stay (x:ObjOk P w H h a o) (k:∀ b u,(b=a∨H b=some (.own a))→h.get? b=some u→h'.get? b=some u)
    (ho:∀ b,H b=some (.own a)→H' b=some (.own a)) (ht:∀ b xs,H b=some (.tup xs)→H' b=some (.tup xs)):ObjOk P w H' h' a o:=by
  induction o with
  | lst xs=>obtain ⟨z,its,n,r,e⟩:=x;exact ⟨z,its,n,r,k _ _ (.inl rfl) e⟩
  | tup xs=>obtain ⟨z,its,r,ob,e,c⟩:=x;exact ⟨z,its,r,ob,k _ _ (.inl rfl) e,c⟩
  | dK kvs=>obtain ⟨z,y,vs,r,ob,es,ep,e,c⟩:=x;exact ⟨z,y,vs,r,ob,es,ep,k _ _ (.inl rfl) e,c⟩
  | dT kvs =>
    obtain ⟨z,y,xs,r,ob,es,ep,e,c⟩:=x
    exact ⟨z,y,xs,Paired.mapP r fun p q z=>⟨z.1,ht _ _ z.2.1,z.2.2⟩,ob,es,ep,k _ _ (.inl rfl) e,c⟩
  | set S n=>obtain ⟨ob,es,ep,t,e,c⟩:=x;exact ⟨ob,es,ep,t,k _ _ (.inl rfl) e,c⟩
  | ins C dx fs =>
    obtain ⟨d,z,ne,e,mA,⟨od,es,ep,e2,c⟩,r⟩:=x
    exact ⟨ho _ d,z,ne,k _ _ (.inl rfl) e,mA,⟨od,es,ep,k _ _ (.inr d) e2,c⟩,r⟩
  | own y=>obtain ⟨ob,e⟩:=x;exact ⟨ob,k _ _ (.inl rfl) e⟩
  | xd fs=>obtain ⟨mA,⟨od,es,ep,e,c⟩,r⟩:=x;exact ⟨mA,⟨od,es,ep,k _ _ (.inl rfl) e,c⟩,r⟩
  | rng lo hi=>obtain ⟨t,u,v,e⟩:=x;exact ⟨t,u,v,k _ _ (.inl rfl) e⟩
  | frz ob u ih=>obtain ⟨e,q⟩:=x;exact ⟨k _ _ (.inl rfl) e,ih q⟩
  | tbl ps =>
    have e:h.get? a=some { cls:=.none,data:=.fields ps }:=x
    show h'.get? a=some { cls:=.none,data:=.fields ps }
    exact k a _ (.inl rfl) e
  | met f y =>
    have e:h.get? a=some (PySem.W.methodObj (.ref f) (.ref y)):=x
    show h'.get? a=some (PySem.W.methodObj (.ref f) (.ref y))
    exact k a _ (.inl rfl) e
  | ext φ=>obtain ⟨p,⟨o,e⟩,st⟩:=x;exact ⟨st _ _ p fun o q=>k _ _ (.inl rfl) q,⟨o,k _ _ (.inl rfl) e⟩,st⟩
theorem HOk.lt (x:HOk P w H h) (e:H a=some o):a < h.objs.size:=(x a o e).lt
theorem HOk.fresh (x:HOk P w H h) (e:h.objs.size≤a):H a=none:=by
  cases q:H a with
  | none=>rfl
  | some u=>exact absurd (Nat.lt_of_lt_of_le (x.lt q) e) (Nat.lt_irrefl _)
theorem HOk.kept (x:HOk P w H h) (k:∀ b u,h.get? b=some u→h'.get? b=some u):HOk P w H h':=fun a o e =>
  (x a o e).stay (fun b u _ q=>k b u q) (fun _ q=>q) fun _ _ q=>q
theorem HOk.laid (x:HOk P w H h) (k:∀ b u,h.get? b=some u→h'.get? b=some u) (hp:h.objs.size≤a) (new:ObjOk P w (upd H a o) h' a o):HOk P w (upd H a o) h':=fun b u e=>by
  have hn:=x.fresh hp
  by_cases hb:b=a
  · subst hb;rw [upd_same] at e;cases e;exact new
  · rw [upd_ne hb] at e
    exact (x b u e).stay (fun c v _ q=>k c v q) (fun c q=>by rw [upd_ne (ne_of_none q hn)];exact q) fun c xs q=>by rw [upd_ne (ne_of_none q hn)];exact q
end
def Rd (H:Hp) (a:Addr) (u:HO):Prop:=H a=some u∨∃ o,H a=some (.frz o u)
theorem Rd.ok {P:Program}{w:World}{H:Hp}{h:Heap}{a:Addr}{u:HO}(r:Rd H a u) (x:HOk P w H h):ObjOk P w H h a u:=by
  rcases r with r | ⟨o,r⟩
  · exact x a u r
  · obtain ⟨_,q⟩:=x a _ r
    exact q
def Mut:Option HO→Prop
  | some (.lst _)=>True
  | some (.dK _)=>True
  | some (.dT _)=>True
  | some (.set _ _)=>True
  | some (.ins _ _ _)=>True
  | some (.ext _)=>True
  | _=>False
section
variable {P:Program}{w:World}{H:Hp}{h h':Heap}{x e:Addr}{o':HO}
theorem HOk.write (ok:HOk P w H h) (mu:Mut (H x)) (he:e=x∨H e=some (.own x)) (k:∀ b u,b≠e→h.get? b=some u→h'.get? b=some u) (heo:∃ u,h'.get? e=some u)
    (new:ObjOk P w (upd H x o') h' x o'):HOk P w (upd H x o') h':=fun b u q=>by
  have nown:∀ c y,H c=some (.own y)→c≠x:=fun c y r z=>by subst z;rw [r] at mu;exact mu
  have ntup:∀ c xs,H c=some (.tup xs)→c≠x:=fun c xs r z=>by subst z;rw [r] at mu;exact mu
  by_cases hb:b=x
  · subst hb;rw [upd_same] at q;cases q;exact new
  · rw [upd_ne hb] at q
    by_cases hbe:b=e
    · have q':H b=some (.own x):=by
        rcases he with z | z
        · exact absurd (hbe.trans z) hb
        · rw [hbe];exact z
      rw [q] at q';cases q'
      obtain ⟨v,hv⟩:=heo
      exact ⟨v,by rw [hbe];exact hv⟩
    · refine (ok b u q).stay (fun c v hc r=>k c v ?_ r) (fun c r=>by rw [upd_ne (nown c b r)];exact r) fun c xs r=>by rw [upd_ne (ntup c xs r)];exact r
      rcases hc with rfl | hc
      · exact hbe
      · rintro rfl
        rcases he with z | z
        · exact nown c b hc z
        · rw [hc] at z;cases z;exact hb rfl
end
structure Un (fs ex:List Addr) (H H':Hp) (h h':Heap):Prop where
  keep:∀ b o,h.get? b=some o→H b=none→b∉fs→b∉ex→h'.get? b=some o
  slot:∀ b o,h.get? b=some o→H b=none→b∈fs→b∉ex→∃ sl,h'.get? b=some { o with slots:=sl }
  free:∀ b o,h.get? b=some o→H b=none→b∉ex→H' b=none
  there:∀ b o,h.get? b=some o→b∉ex→∃ o',h'.get? b=some o'
  tups:∀ b xs,H b=some (.tup xs)→H' b=some (.tup xs)
  frzs:∀ b o u,H b=some (.frz o u)→H' b=some (.frz o u)
  tbls:∀ b ps,H b=some (.tbl ps)→∃ more,H' b=some (.tbl (ps ++ more))
section
variable {fs fs' ex ex':List Addr}{H H1 H2:Hp}{h h1 h2 h':Heap}{a x e:Addr}{o:HO}
theorem Un.any (u:Un fs ex H H1 h h1) {b:Addr} {ob:Obj} (q:h.get? b=some ob) (n:H b=none) (hx:b∉ex):∃ sl,h1.get? b=some { ob with slots:=sl }:=by
  by_cases hb:b∈fs
  · exact u.slot b ob q n hb hx
  · exact ⟨ob.slots,u.keep b ob q n hb hx⟩
theorem Un.kept (k:∀ b u,h.get? b=some u→h'.get? b=some u):Un fs ex H H h h' :=
  ⟨fun b ob q _ _ _=>k b ob q,fun b ob q _ _ _=>⟨ob.slots,k b ob q⟩,fun _ _ _ n _=>n,fun b ob q _=>⟨ob,k b ob q⟩,fun _ _ q=>q,fun _ _ _ q=>q,fun _ ps q=>⟨#[],by rw [q];simp⟩⟩
theorem Un.refl:Un fs ex H H h h:=Un.kept fun _ _ q=>q
theorem Un.laid (k:∀ b u,h.get? b=some u→h'.get? b=some u) (hp:h.objs.size≤a) (hn:H a=none):Un fs ex H (upd H a o) h h' where
  keep:=fun b u q _ _ _=>k b u q
  slot:=fun b u q _ _ _=>⟨u.slots,k b u q⟩
  free:=fun b u q n _=>by rw [upd_ne (Nat.ne_of_lt (Nat.lt_of_lt_of_le (Heap.lt_size q) hp))];exact n
  there:=fun b u q _=>⟨u,k b u q⟩
  tups:=fun b xs q=>by rw [upd_ne (ne_of_none q hn)];exact q
  frzs:=fun b u xs q=>by rw [upd_ne (ne_of_none q hn)];exact q
  tbls:=fun b ps q=>⟨#[],by rw [upd_ne (ne_of_none q hn),q];simp⟩
theorem Un.write (mu:Mut (H x)) (he:e=x∨H e=some (.own x)) (k:∀ b u,b≠e→h.get? b=some u→h'.get? b=some u) (heo:∃ u,h'.get? e=some u):Un fs ex H (upd H x o) h h':=by
  have hx:∀ b,H b=none→b≠x:=fun b n z=>by subst z;rw [n] at mu;exact mu
  have hb:∀ b,H b=none→b≠e:=fun b n z=>by
    subst z
    rcases he with r | r
    · exact hx b n r
    · rw [n] at r;cases r
  have hm:∀ b u,H b=some u→¬ Mut (some u)→b≠x:=fun b u q nm z=>by subst z;rw [q] at mu;exact nm mu
  refine ⟨fun b u q n _ _=>k b u (hb b n) q,fun b u q n _ _=>⟨u.slots,k b u (hb b n) q⟩,fun b u q n _=>by rw [upd_ne (hx b n)];exact n,fun b u q _=>?_,
    fun b xs q=>by rw [upd_ne (hm b _ q fun z=>z)];exact q,fun b u xs q=>by rw [upd_ne (hm b _ q fun z=>z)];exact q,fun b ps q=>⟨#[],by rw [upd_ne (hm b _ q fun z=>z),q];simp⟩⟩
  by_cases hbe:b=e
  · subst hbe;exact heo
  · exact ⟨u,k b u hbe q⟩
end
def trk (h:Heap) (H:Hp):List Addr:=(List.range h.objs.size).filter fun a=>(H a).isSome
def hidT (h:Heap) (H:Hp):Heap:=PySem.W.hideAll h (trk h H)
theorem hidT_size (h:Heap) (H:Hp):(hidT h H).objs.size=h.objs.size:=PySem.W.hideAll_size _ _
theorem hidT_get {h:Heap}{H:Hp}{b:Addr}{o:Obj}(e:h.get? b=some o) (n:H b=none):(hidT h H).get? b=some o :=
  PySem.W.hideAll_get _ e fun hm=>by
    have q:(H b).isSome=true:=(List.mem_filter.mp hm).2
    rw [n] at q;simp at q
theorem of_hidT {h:Heap}{H:Hp}{b:Addr}{o:Obj}(e:(hidT h H).get? b=some o):h.get? b=some o∧H b=none:=by
  have e':h.get? b=some o:=PySem.W.of_hideAll (trk h H) e
  refine ⟨e',?_⟩
  cases q:H b with
  | none=>rfl
  | some x =>
    have hm:b∈trk h H:=List.mem_filter.mpr ⟨List.mem_range.mpr (Heap.lt_size e'),by simp [q]⟩
    have z:(hidT h H).get? b=none:=PySem.W.hideAll_none (trk h H) hm
    rw [z] at e;cases e
end L2
namespace L2
open PySem PySem.Spec PyProof.Rows
structure Mod (K:PySem.W.Frag) (mg:Str→Option Value) (base:Heap):Prop where
  kin:K.In base
  glob:base.Ns mainGlobals mg
  blt:∃ mb,base.Ns builtinsNs mb∧∀ x:Str,x≠"__name__"→mb x=bootBuiltins x
  nolimit:base.NoLimit
structure Cx where
  prog:Program
  w:World
  K:PySem.W.Frag
  mg:Str→Option Value
  base:Heap
  A:Around
  N:List Str
  s₀:Shared
  H₀:Hp
  env:Env
  outer:List Env
  stack:List Env
  ex:List Addr
  fn:Str→Bool
  calm:Bool
  pn:List (Addr×Obj)
  xe:Value→Shared→Prop
def frs (l:List Env):List Addr:=l.filterMap (·.frame)
abbrev Cx.fs (X:Cx):List Addr:=frs X.outer
def Vis (sc:Scope) (x:Str):Prop:=sc.names.lookup x=some .local∨sc.names.lookup x=some .cell∨sc.names.lookup x=some .free
def Loc (sc:Scope) (x:Str):Prop:=sc.names.lookup x=some .local∨sc.names.lookup x=some .cell
def Look (env:Env) (h:Heap) (m:Str→Option Value) (x:Str) (u:Value):Prop :=
  (env.kindOf x=some .local∧m x=some u)∨((env.kindOf x=some .cell∨env.kindOf x=some .free)∧∃ c,env.cells.lookup x=some c∧h.IsCell c (some u))
structure Cx.Ok (X:Cx):Prop where
  mod:Mod X.K X.mg X.base
  kind:X.env.scope.kind=.function
  glob:X.env.globals=mainGlobals
  blt:X.env.builtins=builtinsNs
  above:X.s₀.heap.objs.size≤X.env.locals
  inj:∀ x y c,X.env.cells.lookup x=some c→X.env.cells.lookup y=some c→x=y
  has:∀ x,(X.env.kindOf x=some .cell∨X.env.kindOf x=some .free)→∃ c,X.env.cells.lookup x=some c
  cab:∀ x c,X.fn x=true→X.env.cells.lookup x=some c→X.s₀.heap.objs.size≤c
  hd:X.calm=true→X.A.handled=none
  frames:X.A.frames=some X.stack
  stk:X.stack=X.outer∨(X.stack=X.env :: X.outer∧X.env.frame=some X.env.locals)
  exf:∀ b∈X.ex,b≠X.env.locals∧∀ x c,X.env.cells.lookup x=some c→c≠b
  bs:∀ b o,X.base.get? b=some o→X.s₀.heap.get? b=some o∧X.H₀ b=none
  bsz:X.base.objs.size≤X.s₀.heap.objs.size
  noex:∀ b o,X.base.get? b=some o→b∉X.ex
  exfs:∀ b∈X.ex,b∉X.fs
  funs:X.s₀.heap.FunFrames X.base X.outer
  frf:∀ b∈X.fs,X.H₀ b=none
structure Inv (X:Cx) (pins:List (Addr×Obj)) (σ:List (Option V)) (H:Hp) (s:Shared):Prop where
  ok:X.Ok
  os:s.os=X.s₀.os
  bare:AllBare s.gens
  base:Un X.fs X.ex X.H₀ H X.s₀.heap s.heap
  loc:∃ m,s.heap.Ns X.env.locals m∧∀ (i:Nat) (x:Str) (v:V),X.N[i]?=some x→σ[i]?=some (some v)→Vis X.env.scope x→∃ u,RelV v u∧Look X.env s.heap m x u
  cell:∀ x c,X.env.cells.lookup x=some c→∃ v,s.heap.IsCell c v
  free:H X.env.locals=none
  freeC:∀ x c,X.env.cells.lookup x=some c→H c=none
  pin:∀ p∈X.pn ++ pins,s.heap.get? p.1=some p.2∧H p.1=none∧p.1≠X.env.locals∧p.1∉X.fs∧∀ v,p.2.data≠.cell v
  hok:HOk X.prog X.w H s.heap
  len:σ.length=X.N.length
section
variable {X:Cx}{pins:List (Addr×Obj)}{σ:List (Option V)}{H H':Hp}{s:Shared}{h':Heap}
theorem Cx.Ok.nofr (ok:X.Ok) {b:Addr}{o:Obj}(e:X.base.get? b=some o):b∉X.fs:=fun hb=>by
  have:=(ok.funs.mem hb).1
  rw [e] at this;cases this
theorem Inv.bs (I:Inv X pins σ H s):∀ b o,X.base.get? b=some o→s.heap.get? b=some o∧H b=none:=fun b o e =>
  ⟨I.base.keep b o (I.ok.bs b o e).1 (I.ok.bs b o e).2 (I.ok.nofr e) (I.ok.noex b o e),I.base.free b o (I.ok.bs b o e).1 (I.ok.bs b o e).2 (I.ok.noex b o e)⟩
theorem Inv.bk (I:Inv X pins σ H s):∀ b o,X.base.get? b=some o→s.heap.get? b=some o:=fun b o e=>(I.bs b o e).1
theorem Inv.mod (I:Inv X pins σ H s):Mod X.K X.mg X.base:=I.ok.mod
theorem Inv.kIn (I:Inv X pins σ H s):X.K.In s.heap:=I.ok.mod.kin.keeps I.bk
theorem Inv.lt (I:Inv X pins σ H s):X.env.locals < s.heap.objs.size:=let ⟨_,hn,_⟩:=I.loc;hn.lt
theorem Inv.sz (I:Inv X pins σ H s):X.s₀.heap.objs.size≤s.heap.objs.size:=Nat.le_trans I.ok.above (Nat.le_of_lt I.lt)
theorem Inv.nofs (I:Inv X pins σ H s) {a:Addr}(h:s.heap.objs.size≤a):a∉X.fs:=fun hb=>by
  obtain ⟨_,o,ho,_⟩:=I.ok.funs.mem hb
  exact absurd (Nat.lt_of_lt_of_le (Heap.lt_size ho) (Nat.le_trans I.sz h)) (Nat.lt_irrefl _)
theorem Inv.cne (I:Inv X pins σ H s):∀ x c,X.env.cells.lookup x=some c→c≠X.env.locals:=fun x c e z=>by
  obtain ⟨v,o,ho,hd⟩:=I.cell x c e
  obtain ⟨m,⟨o',es,ep,ho',hd',_⟩,_⟩:=I.loc
  rw [z,ho'] at ho;cases ho;rw [hd'] at hd;cases hd
theorem Inv.funs (I:Inv X pins σ H s):s.heap.FunFrames X.base X.outer:=by
  have all:∀ (l:List Env),(∀ b∈frs l,b∈X.fs)→X.s₀.heap.FunFrames X.base l→s.heap.FunFrames X.base l:=by
    intro l
    induction l with
    | nil=>intro _ _;trivial
    | cons env r ih =>
      intro hs hl
      obtain ⟨hk,⟨L,o,hf,hn,ho,hd⟩,hr⟩:=hl
      have hL:L∈X.fs:=hs L (by unfold frs;rw [List.filterMap_cons,hf];exact List.mem_cons_self)
      obtain ⟨sl,e⟩:=I.base.slot L o ho (I.ok.frf L hL) hL fun z=>I.ok.exfs L z hL
      exact ⟨hk,⟨L,_,hf,hn,e,hd⟩,ih (fun b hb=>hs b (by unfold frs;rw [List.filterMap_cons,hf];exact List.mem_cons_of_mem _ hb)) hr⟩
  exact all X.outer (fun _ hb=>hb) I.ok.funs
theorem Inv.stack (I:Inv X pins σ H s):s.heap.FunFrames X.base X.stack:=by
  rcases I.ok.stk with e | ⟨e,hf⟩
  · rw [e];exact I.funs
  · rw [e]
    obtain ⟨m,hn,_⟩:=I.loc
    refine .cons (by rw [I.ok.kind];decide) hf hn ?_ I.funs
    exact Heap.get?_none_of_le (Nat.le_trans I.ok.bsz I.ok.above)
theorem Inv.stkSub (I:Inv X pins σ H s):∀ b∈frs X.stack,b∈X.env.locals :: X.fs:=fun b hb=>by
  rcases I.ok.stk with e | ⟨e,hf⟩
  · rw [e] at hb;exact List.mem_cons_of_mem _ hb
  · rw [e] at hb
    unfold frs at hb
    rw [List.filterMap_cons,hf] at hb
    exact hb
theorem Inv.stkFree (I:Inv X pins σ H s):∀ b∈frs X.stack,H b=none:=fun b hb=>by
  rcases List.mem_cons.mp (I.stkSub b hb) with e | hb
  · rw [e];exact I.free
  · obtain ⟨_,o,ho,_⟩:=I.ok.funs.mem hb
    exact I.base.free b o ho (I.ok.frf b hb) fun z=>I.ok.exfs b z hb
theorem Inv.step {g':Array GenState}{t':Nat}{d':Drawn}{ch:List Addr}(I:Inv X pins σ H s)
    (hch:∀ b∈ch,(b∈X.ex∨X.s₀.heap.objs.size≤b)∧b≠X.env.locals∧(∀ x c,X.env.cells.lookup x=some c→c≠b)∧∀ p∈X.pn ++ pins,p.1≠b)
    (keep:∀ b o,b≠X.env.locals→b∉X.fs→b∉ch→s.heap.get? b=some o→H b=none→h'.get? b=some o)
    (slot:∀ b o,b≠X.env.locals→b∈X.fs→b∉ch→s.heap.get? b=some o→H b=none→∃ sl,h'.get? b=some { o with slots:=sl }) (free:∀ b o,b∉ch→s.heap.get? b=some o→H b=none→H' b=none)
    (there:∀ b o,b∉ch→s.heap.get? b=some o→∃ o',h'.get? b=some o')
    (tups:∀ b xs,H b=some (.tup xs)→H' b=some (.tup xs)) (frzs:∀ b o u,H b=some (.frz o u)→H' b=some (.frz o u)) (tbls:∀ b ps,H b=some (.tbl ps)→∃ more,H' b=some (.tbl (ps ++ more)))
    (ns:∀ m,s.heap.Ns X.env.locals m→h'.Ns X.env.locals m) (hok:HOk X.prog X.w H' h') (hg:AllBare g') :
    Inv X pins σ H' { s with heap:=h',gens:=g',drawn:=d',toks:=t' }:=by
  have neL:∀ b o,X.s₀.heap.get? b=some o→b≠X.env.locals:=fun b o e=>Nat.ne_of_lt (Nat.lt_of_lt_of_le (Heap.lt_size e) I.ok.above)
  have neC:∀ b o,X.s₀.heap.get? b=some o→b∉X.ex→b∉ch:=fun b o e hx hb=>by
    rcases (hch b hb).1 with z | z
    · exact hx z
    · exact absurd (Nat.lt_of_lt_of_le (Heap.lt_size e) z) (Nat.lt_irrefl _)
  have cellK:∀ x c,X.env.cells.lookup x=some c→∀ v,s.heap.IsCell c v→h'.IsCell c v:=fun x c e v ⟨o,ho,hd⟩=>by
    have nch:c∉ch:=fun z=>(hch c z).2.2.1 x c e rfl
    by_cases hc:c∈X.fs
    · obtain ⟨sl,q⟩:=slot c o (I.cne x c e) hc nch ho (I.freeC x c e)
      exact ⟨_,q,hd⟩
    · exact ⟨o,keep c o (I.cne x c e) hc nch ho (I.freeC x c e),hd⟩
  refine ⟨I.ok,I.os,hg,⟨fun b o e n hb hx=>?_,fun b o e n hb hx=>?_,fun b o e n hx=>?_,fun b o e hx=>?_,fun b xs e=>tups b xs (I.base.tups b xs e),fun b o xs e=>frzs b o xs (I.base.frzs b o xs e),fun b ps e=>?_⟩,?_,fun x c e=>?_,?_,fun x c e=>?_,fun p hp=>?_,hok,I.len⟩
  · exact keep b o (neL b o e) hb (neC b o e hx) (I.base.keep b o e n hb hx) (I.base.free b o e n hx)
  · obtain ⟨sl,e1⟩:=I.base.slot b o e n hb hx
    obtain ⟨sl',e2⟩:=slot b _ (neL b o e) hb (neC b o e hx) e1 (I.base.free b o e n hx)
    exact ⟨sl',e2⟩
  · obtain ⟨o',e1⟩:=I.base.there b o e hx
    exact free b o' (neC b o e hx) e1 (I.base.free b o e n hx)
  · obtain ⟨o',e1⟩:=I.base.there b o e hx
    exact there b o' (neC b o e hx) e1
  · obtain ⟨m1,e1⟩:=I.base.tbls b ps e
    obtain ⟨m2,e2⟩:=tbls b _ e1
    exact ⟨m1 ++ m2,by rw [e2,Array.append_assoc]⟩
  · obtain ⟨m,hn,hl⟩:=I.loc
    refine ⟨m,ns m hn,fun i x v e1 e2 e3=>?_⟩
    obtain ⟨u,r,l⟩:=hl i x v e1 e2 e3
    refine ⟨u,r,?_⟩
    rcases l with l | ⟨k,c,e,z⟩
    · exact .inl l
    · exact .inr ⟨k,c,e,cellK x c e _ z⟩
  · obtain ⟨v,z⟩:=I.cell x c e
    exact ⟨v,cellK x c e v z⟩
  · obtain ⟨m,⟨o,_,_,ho,_⟩,_⟩:=I.loc
    exact free _ o (fun z=>(hch _ z).2.1 rfl) ho I.free
  · obtain ⟨v,o,ho,hd⟩:=I.cell x c e
    exact free c o (fun z=>(hch c z).2.2.1 x c e rfl) ho (I.freeC x c e)
  · obtain ⟨e,n,ne,nf,d⟩:=I.pin p hp
    have nch:p.1∉ch:=fun z=>(hch p.1 z).2.2.2 p hp rfl
    exact ⟨keep p.1 p.2 ne nf nch e n,free p.1 p.2 nch e n,ne,nf,d⟩
theorem Inv.un {t':Nat} (I:Inv X pins σ H s) (u:Un X.fs [] H H' s.heap h') (hok:HOk X.prog X.w H' h'):Inv X pins σ H' { s with heap:=h',toks:=t' }:=by
  obtain ⟨m,⟨o,es,ep,ho,r⟩,_⟩:=id I.loc
  obtain ⟨sl,hL⟩:=u.any ho I.free (by simp)
  exact I.step (g':=s.gens) (d':=s.drawn) (ch:=[]) (fun _ z=>nomatch z) (fun b o _ hb _ e n=>u.keep b o e n hb (by simp)) (fun b o _ hb _ e n=>u.slot b o e n hb (by simp)) (fun b o _ e n=>u.free b o e n (by simp)) (fun b o _ e=>u.there b o e (by simp)) u.tups u.frzs u.tbls (fun m' hm=>by
    obtain ⟨o',es',ep',ho',r'⟩:=hm
    rw [ho] at ho';cases ho'
    exact ⟨_,es',ep',hL,r'⟩) hok I.bare
theorem Inv.call {g':Array GenState}{t':Nat}{d':Drawn}{ch:List Addr}(I:Inv X pins σ H s) (u:Un (frs X.stack) ch H H' s.heap h') (hok:HOk X.prog X.w H' h') (hg:AllBare g')
    (hch:∀ b∈ch,(b∈X.ex∨X.s₀.heap.objs.size≤b)∧b≠X.env.locals∧(∀ x c,X.env.cells.lookup x=some c→c≠b)∧∀ p∈X.pn ++ pins,p.1≠b) :
    Inv X pins σ H' { s with heap:=h',gens:=g',drawn:=d',toks:=t' }:=by
  obtain ⟨m,⟨o,es,ep,ho,r⟩,_⟩:=id I.loc
  obtain ⟨sl,hL⟩:=u.any ho I.free fun z=>(hch _ z).2.1 rfl
  exact I.step (ch:=ch) hch (fun b o hL hb hc e n=>u.keep b o e n (fun z=>(List.mem_cons.mp (I.stkSub b z)).elim hL hb) hc) (fun b o _ _ hc e n=>u.any e n hc) (fun b o hc e n=>u.free b o e n hc) (fun b o hc e=>u.there b o e hc) u.tups u.frzs u.tbls (fun m' hm=>by
    obtain ⟨o',es',ep',ho',r'⟩:=hm
    rw [ho] at ho';cases ho'
    exact ⟨_,es',ep',hL,r'⟩) hok hg
theorem Inv.turned {t':Nat}{it:Addr}(I:Inv X pins σ H s) (k:∀ b o,b≠it→s.heap.get? b=some o→h'.get? b=some o) (hn:H it=none) (hL:it≠X.env.locals)
    (h1:it∈X.ex∨X.s₀.heap.objs.size≤it) (h2:∀ x c,X.env.cells.lookup x=some c→c≠it) (h3:∀ p∈X.pn ++ pins,p.1≠it):Inv X pins σ H { s with heap:=h',toks:=t' }:=by
  have nit:∀ b u,H b=some u→b≠it:=fun b u e z=>by rw [z,hn] at e;cases e
  refine I.step (g':=s.gens) (d':=s.drawn) (ch:=[it]) (fun b hb=>?_) (fun b o _ _ hc e _=>k b o (fun z=>hc (by simp [z])) e) (fun b o _ _ hc e _=>⟨o.slots,k b o (fun z=>hc (by simp [z])) e⟩) (fun _ _ _ _ n=>n)
    (fun b o hc e=>⟨o,k b o (fun z=>hc (by simp [z])) e⟩) (fun _ _ e=>e) (fun _ _ _ e=>e) (fun b ps e=>⟨#[],by rw [e];simp⟩) (fun m hm=>?_) (fun b u e=>?_) I.bare
  · have e:b=it:=by simpa using hb
    subst e
    exact ⟨h1,hL,h2,h3⟩
  · obtain ⟨o,es,ep,ho,r⟩:=hm
    exact ⟨o,es,ep,k _ o (Ne.symm hL) ho,r⟩
  · refine (I.hok b u e).stay (fun c v hc q=>k c v ?_ q) (fun _ q=>q) fun _ _ q=>q
    rcases hc with z | z
    · rw [z];exact nit b u e
    · exact nit c _ z
theorem Inv.tok (I:Inv X pins σ H s) (t:Nat):Inv X pins σ H { s with toks:=t }:=I.un (h':=s.heap) (t':=t) Un.refl I.hok
theorem Inv.kept {t':Nat} (I:Inv X pins σ H s) (k:∀ b u,s.heap.get? b=some u→h'.get? b=some u):Inv X pins σ H { s with heap:=h',toks:=t' }:=I.un (Un.kept k) (I.hok.kept k)
theorem Inv.laid {a:Addr}{o:HO}{t':Nat}(I:Inv X pins σ H s) (k:∀ b u,s.heap.get? b=some u→h'.get? b=some u) (hp:s.heap.objs.size≤a) (new:ObjOk X.prog X.w (upd H a o) h' a o) :
    Inv X pins σ (upd H a o) { s with heap:=h',toks:=t' }:=I.un (Un.laid k hp (I.hok.fresh hp)) (I.hok.laid k hp new)
theorem Inv.write {x e:Addr}{o:HO}{t':Nat}(I:Inv X pins σ H s) (mu:Mut (H x)) (he:e=x∨H e=some (.own x)) (k:∀ b u,b≠e→s.heap.get? b=some u→h'.get? b=some u) (heo:∃ u,h'.get? e=some u)
    (new:ObjOk X.prog X.w (upd H x o) h' x o):Inv X pins σ (upd H x o) { s with heap:=h',toks:=t' }:=I.un (Un.write mu he k heo) (I.hok.write mu he k heo new)
theorem Inv.pins_of {pins':List (Addr×Obj)}(I:Inv X pins σ H s) (h:∀ p∈pins',s.heap.get? p.1=some p.2∧H p.1=none∧p.1≠X.env.locals∧p.1∉X.fs∧∀ v,p.2.data≠.cell v):Inv X pins' σ H s :=
  ⟨I.ok,I.os,I.bare,I.base,I.loc,I.cell,I.free,I.freeC,fun p hp=>(List.mem_append.mp hp).elim (fun z=>I.pin p (List.mem_append_left _ z)) (h p),I.hok,I.len⟩
theorem nodup_ix {N:List Str}(hN:N.Nodup) {i j:Nat}{x:Str}(a:N[i]?=some x) (b:N[j]?=some x):i=j:=by
  obtain ⟨h1,e1⟩:=List.getElem?_eq_some_iff.mp a
  obtain ⟨h2,e2⟩:=List.getElem?_eq_some_iff.mp b
  exact (List.getElem_inj hN).mp (e1.trans e2.symm)
theorem store_ok2 {M:Model}{A:Around}{E:Value→Shared→Prop}{i:Nat}{x:Str}{v:V}{u:Value}{Q:Unit→Shared→Prop}(I:Inv X pins σ H s) (hN:X.N.Nodup) (hi:X.N[i]?=some x) (hx:Loc X.env.scope x) (r:RelV v u)
    (h:∀ s',Inv X pins (σ.set i (some v)) H s'→(∃ a,Heap.SameBut a s.heap s'.heap∧(a=X.env.locals∨X.env.cells.lookup x=some a))→Q () s') (hf:X.fn x=true∨X.env.scope.names.lookup x=some .local:=by first | exact .inl rfl | exact .inr rfl | assumption):wpAny M A (storeName X.env x u) Q E s:=by
  obtain ⟨m,hn,hl⟩:=id I.loc
  have hcls:(X.env.scope.kind == .class || (X.env.scope.kind == .module && X.env.locals != X.env.globals))=false:=by rw [I.ok.kind];rfl
  have hiσ:i < σ.length:=by rw [I.len];exact (List.getElem?_eq_some_iff.mp hi).1
  have cne:=I.cne
  have tracked:∀ {a:Addr} {h':Heap},(∃ o,s.heap.get? a=some o∧H a=none)→Heap.SameBut a s.heap h'→HOk X.prog X.w H h':=fun {a h'} ha hs b ob e=>by
    obtain ⟨_,_,hfree⟩:=ha
    refine (I.hok b ob e).stay (fun c w' hc q=>(hs.2 c ?_).trans q) (fun _ q=>q) fun _ _ q=>q
    rintro rfl
    rcases hc with rfl | hc
    · rw [hfree] at e;cases e
    · rw [hfree] at hc;cases hc
  rcases hx with hk | hk
  · refine wpAny_storeName_local hk hn (fun h' hn' hs=>?_) hcls
    obtain ⟨oL,_,_,hoL,_⟩:=id hn
    refine h _ ⟨I.ok,I.os,I.bare,⟨fun b o e n hb hx=>?_,fun b o e n hb hx=>?_,I.base.free,fun b o e hx=>?_,I.base.tups,I.base.frzs,I.base.tbls⟩,⟨_,hn',fun j y v' e1 e2 e3=>?_⟩,fun y c e=>?_,I.free,I.freeC,fun p hp=>?_,tracked ⟨oL,hoL,I.free⟩ hs,by simpa using I.len⟩ ⟨_,hs,.inl rfl⟩
    · exact (hs.2 b (Nat.ne_of_lt (Nat.lt_of_lt_of_le (Heap.lt_size e) I.ok.above))).trans (I.base.keep b o e n hb hx)
    · obtain ⟨sl,e1⟩:=I.base.slot b o e n hb hx
      exact ⟨sl,(hs.2 b (Nat.ne_of_lt (Nat.lt_of_lt_of_le (Heap.lt_size e) I.ok.above))).trans e1⟩
    · obtain ⟨o',e1⟩:=I.base.there b o e hx
      exact ⟨o',(hs.2 b (Nat.ne_of_lt (Nat.lt_of_lt_of_le (Heap.lt_size e) I.ok.above))).trans e1⟩
    · by_cases hj:j=i
      · subst hj
        rw [hi] at e1;cases e1
        rw [List.getElem?_set_self hiσ] at e2
        cases e2
        exact ⟨u,r,.inl ⟨hk,by simp⟩⟩
      · rw [List.getElem?_set_ne (Ne.symm hj)] at e2
        obtain ⟨u',r',q⟩:=hl j y v' e1 e2 e3
        refine ⟨u',r',?_⟩
        rcases q with ⟨k,e⟩ | ⟨k,c,e,z⟩
        · refine .inl ⟨k,?_⟩
          have:y≠x:=fun e=>hj (nodup_ix hN e1 (e▸hi))
          simp [this,e]
        · exact .inr ⟨k,c,e,z.sameBut hs (cne y c e)⟩
    · obtain ⟨w',z⟩:=I.cell y c e
      exact ⟨w',z.sameBut hs (cne y c e)⟩
    · obtain ⟨e,n,ne,nf,d⟩:=I.pin p hp
      exact ⟨(hs.2 p.1 ne).trans e,n,ne,nf,d⟩
  · have hfn:X.fn x=true:=by
      rcases hf with z | z
      · exact z
      · rw [z] at hk;cases hk
    obtain ⟨c,hc⟩:=I.ok.has x (.inl hk)
    obtain ⟨w',z⟩:=I.cell x c hc
    refine wpAny_storeName_cell I.ok.kind hk hc z (fun h' hc' hs=>?_)
    obtain ⟨oc,hoc,hocd⟩:=id z
    refine h { s with heap:=h' } ⟨I.ok,I.os,I.bare,⟨fun b o e n hb hx=>?_,fun b o e n hb hx=>?_,I.base.free,fun b o e hx=>?_,I.base.tups,I.base.frzs,I.base.tbls⟩,⟨m,hn.sameBut hs (Ne.symm (cne x c hc)),fun j y v' e1 e2 e3=>?_⟩,fun y c' e=>?_,I.free,I.freeC,fun p hp=>?_,tracked ⟨oc,hoc,I.freeC x c hc⟩ hs,by simpa using I.len⟩ ⟨c,hs,.inr hc⟩
    · exact (hs.2 b (Nat.ne_of_lt (Nat.lt_of_lt_of_le (Heap.lt_size e) (I.ok.cab x c hfn hc)))).trans (I.base.keep b o e n hb hx)
    · obtain ⟨sl,e1⟩:=I.base.slot b o e n hb hx
      exact ⟨sl,(hs.2 b (Nat.ne_of_lt (Nat.lt_of_lt_of_le (Heap.lt_size e) (I.ok.cab x c hfn hc)))).trans e1⟩
    · obtain ⟨o',e1⟩:=I.base.there b o e hx
      exact ⟨o',(hs.2 b (Nat.ne_of_lt (Nat.lt_of_lt_of_le (Heap.lt_size e) (I.ok.cab x c hfn hc)))).trans e1⟩
    · by_cases hj:j=i
      · subst hj
        rw [hi] at e1;cases e1
        rw [List.getElem?_set_self hiσ] at e2
        cases e2
        exact ⟨u,r,.inr ⟨.inl hk,c,hc,hc'⟩⟩
      · rw [List.getElem?_set_ne (Ne.symm hj)] at e2
        obtain ⟨u',r',q⟩:=hl j y v' e1 e2 e3
        refine ⟨u',r',?_⟩
        rcases q with q | ⟨k,c',e,z'⟩
        · exact .inl q
        · refine .inr ⟨k,c',e,z'.sameBut hs ?_⟩
          rintro rfl
          exact hj (nodup_ix hN e1 (I.ok.inj _ _ _ e hc▸hi))
    · by_cases hcc:c'=c
      · subst hcc;exact ⟨_,hc'⟩
      · obtain ⟨w2,z2⟩:=I.cell y c' e
        exact ⟨w2,z2.sameBut hs hcc⟩
    · obtain ⟨e,n,ne,nf,d⟩:=I.pin p hp
      refine ⟨(hs.2 p.1 ?_).trans e,n,ne,nf,d⟩
      intro q
      rw [q,hoc] at e
      have q':oc=p.2:=Option.some.inj e
      exact d w' (by rw [← q'];exact hocd)
theorem store_ok {M:Model}{A:Around}{E:Value→Shared→Prop}{i:Nat}{x:Str}{v:V}{u:Value}{Q:Unit→Shared→Prop}(I:Inv X pins σ H s) (hN:X.N.Nodup) (hi:X.N[i]?=some x) (hx:Loc X.env.scope x) (r:RelV v u)
    (h:∀ s',Inv X pins (σ.set i (some v)) H s'→Q () s') (hf:X.fn x=true∨X.env.scope.names.lookup x=some .local:=by first | exact .inl rfl | exact .inr rfl | assumption):wpAny M A (storeName X.env x u) Q E s :=
  store_ok2 I hN hi hx r (fun s' I' _=>h s' I') hf
theorem Inv.call' {s':Shared}{ch:List Addr}(I:Inv X pins σ H s) (ho:s'.os=s.os) (u:Un (frs X.stack) ch H H' s.heap s'.heap) (hok:HOk X.prog X.w H' s'.heap) (hg:AllBare s'.gens)
    (hch:∀ b∈ch,(b∈X.ex∨X.s₀.heap.objs.size≤b)∧b≠X.env.locals∧(∀ x c,X.env.cells.lookup x=some c→c≠b)∧∀ p∈X.pn ++ pins,p.1≠b):Inv X pins σ H' s':=by
  obtain ⟨h',g',d',t',o'⟩:=s'
  have e:o'=s.os:=ho
  subst e
  exact I.call (g':=g') (t':=t') (d':=d') u hok hg hch
end
abbrev XK:=Value→Option Addr→Hp→Prop
abbrev St:=List (Option V)
abbrev VK:=V→Hp→Prop
abbrev TE:=St→Hp→VK→Prop
abbrev TT:=St→Hp→(Bool→Hp→Prop)→Prop
abbrev TA:=St→Hp→(List V→Hp→Prop)→Prop
structure Ends where
  nx:St→Hp→Prop
  rt:VK
  bk:St→Hp→Prop:=fun _ _=>False
  ct:St→Hp→Prop:=fun _ _=>False
abbrev TS:=Ends→St→Hp→Prop
def EP (X:Cx) (pins:List (Addr×Obj)) (σ:St) (Q:VK) (u:Value) (s':Shared):Prop:=∃ v H',Inv X pins σ H' s'∧RelV v u∧Q v H'
def TP (X:Cx) (pins:List (Addr×Obj)) (σ:St) (Q:Bool→Hp→Prop) (b:Bool) (s':Shared):Prop:=∃ H',Inv X pins σ H' s'∧Q b H'
def AP (X:Cx) (pins:List (Addr×Obj)) (σ:St) (Q:List V→Hp→Prop) (us:List Value) (s':Shared):Prop:=∃ vs H',Inv X pins σ H' s'∧Vals vs us∧Q vs H'
def SP (X:Cx) (pins:List (Addr×Obj)) (D:Ends) (f:Flow) (s':Shared):Prop :=
  match f with
  | .next=>∃ σ' H',Inv X pins σ' H' s'∧D.nx σ' H'
  | .brk=>∃ σ' H',Inv X pins σ' H' s'∧D.bk σ' H'
  | .cont=>∃ σ' H',Inv X pins σ' H' s'∧D.ct σ' H'
  | .ret u=>∃ v σ' H',Inv X pins σ' H' s'∧RelV v u∧D.rt v H'
def PE (X:Cx) (e:Expr) (t:TE):Prop :=
  ∀ (pins:List (Addr×Obj)) (s:Shared) (σ:St) (H:Hp) (Q:VK),Inv X pins σ H s→t σ H Q→wpAny (model X.prog X.w) X.A (eval e X.env) (EP X pins σ Q) X.xe s
def PT (X:Cx) (e:Expr) (t:TT):Prop :=
  ∀ (pins:List (Addr×Obj)) (s:Shared) (σ:St) (H:Hp) (Q:Bool→Hp→Prop),Inv X pins σ H s→t σ H Q→wpAny (model X.prog X.w) X.A (isTrue e X.env (eval e X.env)) (TP X pins σ Q) X.xe s
def PW (X:Cx) (e:Expr) (t:TT):Prop :=
  ∀ (whole:Sem Value) (pins:List (Addr×Obj)) (s:Shared) (σ:St) (H:Hp) (Q:Bool→Hp→Prop),Inv X pins σ H s→t σ H Q→wpAny (model X.prog X.w) X.A (isTrue e X.env whole) (TP X pins σ Q) X.xe s
theorem PW.pt {X:Cx}{e:Expr}{t:TT}(h:PW X e t):PT X e t:=h _
def PA (X:Cx) (es:List Expr) (t:TA):Prop :=
  ∀ (pos:Pos) (pins:List (Addr×Obj)) (s:Shared) (σ:St) (H:Hp) (Q:List V→Hp→Prop),Inv X pins σ H s→t σ H Q→wpAny (model X.prog X.w) X.A (spliced (backTo pos (starEach es X.env))) (AP X pins σ Q) X.xe s
def PS (X:Cx) (st:Stmt) (t:TS):Prop :=
  ∀ (pins:List (Addr×Obj)) (s:Shared) (σ:St) (H:Hp) (D:Ends),Inv X pins σ H s→t D σ H→wpAny (model X.prog X.w) X.A (exec st X.env) (SP X pins D) X.xe s
def PSs (X:Cx) (st:List Stmt) (t:TS):Prop :=
  ∀ (pins:List (Addr×Obj)) (s:Shared) (σ:St) (H:Hp) (D:Ends),Inv X pins σ H s→t D σ H→wpAny (model X.prog X.w) X.A (execs st X.env) (SP X pins D) X.xe s
theorem thn {α:Type}{t:Sem α}{Q Q':α→Shared→Prop}{M:Model}{A:Around}{E:Value→Shared→Prop}{s:Shared}(h:wpAny M A t Q E s) (hQ:∀ a s,Q a s→Q' a s):wpAny M A t Q' E s:=wpAny_mono h hQ fun _ _ x=>x
end L2
namespace L2
open PySem PySem.Spec PyProof.Rows
section
variable {X:Cx}
def tVar (i:Nat):TE:=fun σ H Q=>∃ v,σ[i]?=some (some v)∧Q v H
def tC (v:V):TE:=fun _ H Q=>Q v H
theorem pe_var {i:Nat}{x:Str}{pos:Pos}(hN:X.N[i]?=some x) (hv:Vis X.env.scope x) (hd:(x == ("__debug__":Str))=false:=by decide) (hcd:(x == ("__classdict__":Str))=false:=by decide):PE X (.Name x pos) (tVar i):=by
  intro pins s σ H Q I h
  obtain ⟨v,e,h⟩:=h
  obtain ⟨m,hn,hl⟩:=I.loc
  obtain ⟨u,r,l⟩:=hl i x v hN e hv
  have fin:EP X pins σ Q u s:=⟨v,H,I,r,h⟩
  rcases l with ⟨hk,hm⟩ | ⟨hk,c,hc,hcell⟩
  · exact wpAny_Name (wpAny_loadName_local I.ok.kind hk hn hm fin) hd
  · rcases hk with hk | hk
    · exact wpAny_Name (wpAny_loadName_cell I.ok.kind hk hc hcell fin) hd
    · exact wpAny_Name (wpAny_loadName_free I.ok.kind hk hc hcell fin hcd) hd
theorem pe_int {i j pos}:PE X (.Constant (.int i) j pos) (tC (.int i)):=fun _ _ _ H _ I h=>wpAny_Constant_int ⟨.int i,H,I.tok _,⟨_,rfl⟩,h⟩
theorem pe_bl {b j pos}:PE X (.Constant (.bool b) j pos) (tC (.bl b)):=fun _ _ _ H _ I h=>Constant_bool ⟨.bl b,H,I,rfl,h⟩
theorem pe_non {j pos}:PE X (.Constant .none j pos) (tC .non):=fun _ _ _ H _ I h=>Constant_none ⟨.non,H,I,rfl,h⟩
theorem pe_str {x j pos}:PE X (.Constant (.str x) j pos) (tC (.str x)):=fun _ _ _ H _ I h=>Calls.Constant_str ⟨.str x,H,I.tok _,⟨_,rfl⟩,h⟩
def Gl (X:Cx) (x:Str):Prop:=X.env.kindOf x=some .globalImplicit
theorem ld_glob {E:Value→Shared→Prop}{pins:List (Addr×Obj)}{s:Shared}{σ:St}{H:Hp}{x:Str}{u:Value}{pos:Pos}{Q:Value→Shared→Prop}(I:Inv X pins σ H s) (hg:Gl X x) (hm:X.mg x=some u) (h:Q u s)
    (hd:(x == ("__debug__":Str))=false:=by decide):wpAny (model X.prog X.w) X.A (eval (.Name x pos) X.env) Q E s :=
  Calls.Name_function_global I.ok.kind hg (Calls.loadGlobal_global (by rw [I.ok.glob];exact I.mod.glob.keeps I.bk) hm h) hd
theorem ld_blt {E:Value→Shared→Prop}{pins:List (Addr×Obj)}{s:Shared}{σ:St}{H:Hp}{x:Str}{u:Value}{pos:Pos}{Q:Value→Shared→Prop}(I:Inv X pins σ H s) (hg:Gl X x) (hm:X.mg x=none) (hv:bootBuiltins x=some u) (h:Q u s)
    (hn:x≠"__name__":=by decide) (hd:(x == ("__debug__":Str))=false:=by decide):wpAny (model X.prog X.w) X.A (eval (.Name x pos) X.env) Q E s:=by
  obtain ⟨mb,h1,h2⟩:=I.mod.blt
  exact Calls.Name_function_global I.ok.kind hg (Calls.loadGlobal_builtin (by rw [I.ok.glob];exact I.mod.glob.keeps I.bk) hm (by rw [I.ok.blt];exact h1.keeps I.bk) ((h2 x hn).trans hv) h) hd
theorem pe_glob {x:Str}{v:V}{u:Value}{pos:Pos}(hg:Gl X x) (hm:X.mg x=some u) (r:RelV v u) (hd:(x == ("__debug__":Str))=false:=by decide):PE X (.Name x pos) (tC v) :=
  fun _ _ _ H _ I h=>ld_glob I hg hm ⟨v,H,I,r,h⟩ hd
theorem pe_bltn {x:Str}{v:V}{u:Value}{pos:Pos}(hg:Gl X x) (hm:X.mg x=none) (hv:bootBuiltins x=some u) (r:RelV v u) (hn:x≠"__name__":=by decide) (hd:(x == ("__debug__":Str))=false:=by decide):PE X (.Name x pos) (tC v) :=
  fun _ _ _ H _ I h=>ld_blt I hg hm hv ⟨v,H,I,r,h⟩ hn hd
variable {a b:Expr}{ta tb:TE}{pos:Pos}
def tB (t:TE):TT:=fun σ H Q=>t σ H fun x H1=>∃ c,x=.bl c∧Q c H1
theorem pt_val {e:Expr}{t:TE}(h:PE X e t) (he:∀ whole,isTrue e X.env whole=(do let v ← whole;standAt e.pos;holding [v] (truthy v)):=by intro _;rfl):PT X e (tB t):=by
  intro pins s σ H Q I hw
  refine isTrue_plain (thn (h pins s σ H _ I hw) fun v s1 ⟨x,H1,I1,r1,q1⟩=>?_) (he _)
  obtain ⟨d,rfl,q⟩:=q1
  cases r1
  exact wpAny_truthy_bool ⟨H1,I1,q⟩
variable {tA tB':TT}{rest:List Expr}
def tAnd (t u:TT):TT:=fun σ H Q=>t σ H fun c H1=>if c=true then u σ H1 Q else Q false H1
def tOr (t u:TT):TT:=fun σ H Q=>t σ H fun c H1=>if c=true then Q true H1 else u σ H1 Q
def tNot (t:TT):TT:=fun σ H Q=>t σ H fun c H1=>Q (!c) H1
theorem pw_and1 (ha:PT X a tA):PW X (.BoolOp .And [a] pos) tA:=by
  intro wh pins s σ H Q I h
  refine isTrue_and (thn (ha pins s σ H Q I h) fun c s1 e=>?_)
  cases c with
  | true=>exact isTrue_and_nil e
  | false=>exact e
theorem pw_or1 (ha:PT X a tA):PW X (.BoolOp .Or [a] pos) tA:=by
  intro wh pins s σ H Q I h
  refine isTrue_or (thn (ha pins s σ H Q I h) fun c s1 e=>?_)
  cases c with
  | false=>exact isTrue_or_nil e
  | true=>exact e
theorem pw_and (ha:PT X a tA) (hb:PW X (.BoolOp .And (b :: rest) pos) tB'):PW X (.BoolOp .And (a :: b :: rest) pos) (tAnd tA tB'):=by
  intro wh pins s σ H Q I h
  refine isTrue_and (thn (ha pins s σ H _ I h) fun c s1 ⟨H1,I1,q1⟩=>?_)
  cases c with
  | true=>exact hb wh pins s1 σ H1 Q I1 q1
  | false=>exact ⟨H1,I1,q1⟩
theorem pw_or (ha:PT X a tA) (hb:PW X (.BoolOp .Or (b :: rest) pos) tB'):PW X (.BoolOp .Or (a :: b :: rest) pos) (tOr tA tB'):=by
  intro wh pins s σ H Q I h
  refine isTrue_or (thn (ha pins s σ H _ I h) fun c s1 ⟨H1,I1,q1⟩=>?_)
  cases c with
  | true=>exact ⟨H1,I1,q1⟩
  | false=>exact hb wh pins s1 σ H1 Q I1 q1
theorem pt_not (ha:PT X a tA):PT X (.UnaryOp .Not a pos) (tNot tA):=by
  intro pins s σ H Q I h
  exact isTrue_not (ha pins s σ H (fun c H1=>Q (!c) H1) I h)
def tAndV (ta tb:TE):TE:=fun σ H Q=>ta σ H fun x H1=>∃ c,x=.bl c∧if c=true then tb σ H1 Q else Q (.bl false) H1
def tNotV (ta:TE):TE:=fun σ H Q=>ta σ H fun x H1=>∃ c,x=.bl c∧Q (.bl (!c)) H1
theorem pe_one {op}{t:TE}(h:PE X a t):PE X (.BoolOp op [a] pos) t:=fun pins s σ H Q I hw=>BoolOp_one (h pins s σ H Q I hw)
theorem pe_and (ha:PE X a ta) (hb:PE X (.BoolOp .And (b :: rest) pos) tb):PE X (.BoolOp .And (a :: b :: rest) pos) (tAndV ta tb):=by
  intro pins s σ H Q I h
  refine BoolOp_and (thn (ha pins s σ H _ I h) fun v s1 ⟨x,H1,I1,r1,q1⟩=>?_)
  obtain ⟨c,rfl,q1⟩:=q1
  cases r1
  refine wpAny_truthy_bool ?_
  cases c with
  | true=>exact hb pins s1 σ H1 Q I1 q1
  | false=>exact ⟨.bl false,H1,I1,rfl,q1⟩
theorem pe_not (ha:PE X a ta):PE X (.UnaryOp .Not a pos) (tNotV ta):=by
  intro pins s σ H Q I h
  refine UnaryOp_ (thn (ha pins s σ H _ I h) fun v s1 ⟨x,H1,I1,r1,q1⟩=>?_)
  obtain ⟨c,rfl,q1⟩:=q1
  cases r1
  exact not_of (wpAny_truthy_bool ⟨.bl (!c),H1,I1,rfl,q1⟩)
def tIf (t:TT) (ta tb:TE):TE:=fun σ H Q=>t σ H fun c H1=>if c=true then ta σ H1 Q else tb σ H1 Q
theorem pe_ifExp {c:Expr}(hc:PT X c tA) (ha:PE X a ta) (hb:PE X b tb):PE X (.IfExp c a b pos) (tIf tA ta tb):=by
  intro pins s σ H Q I h
  refine wpAny_IfExp (thn (hc pins s σ H _ I h) fun d s1 ⟨H1,I1,q1⟩=>?_)
  cases d with
  | true=>exact ha pins s1 σ H1 Q I1 q1
  | false=>exact hb pins s1 σ H1 Q I1 q1
end
end L2
namespace L2
open PySem PySem.Spec PyProof.Rows
def SqL (K:PySem.W.Frag) (H:Hp) (a:Addr) (xs:List V):Prop :=
  Rd H a (.lst xs) ∨
    ∃ (o:Obj) (its:Array Value) (n:Nat),K.lookup a=some o∧o.cls=.type "list"∧o.dict=none∧o.data=.seq its n∧its.size≤sizeLine∧Vals xs its.toList
def SqT (K:PySem.W.Frag) (H:Hp) (a:Addr) (xs:List V):Prop :=
  Rd H a (.tup xs) ∨
    ∃ (o:Obj) (its:Array Value) (n:Nat),K.lookup a=some o∧o.cls=.type "tuple"∧o.data=.seq its n∧its.size≤sizeLine∧Vals xs its.toList
def absV:Value→Option V
  | .none=>some .non
  | .bool b=>some (.bl b)
  | .int i _=>some (.int i)
  | .str x _=>some (.str x)
  | .bytes b _=>some (.byt b)
  | .float b _=>some (.flt b)
  | .ref a=>some (.ref a)
  | .type n=>some (.ty n)
  | _=>none
theorem RelV.abs {x:V}{u:Value}(r:RelV x u):absV u=some x:=by
  cases x with
  | non=>cases r;rfl
  | bl _=>cases r;rfl
  | int _=>obtain ⟨t,rfl⟩:=r;rfl
  | str _=>obtain ⟨t,rfl⟩:=r;rfl
  | byt _=>obtain ⟨t,rfl⟩:=r;rfl
  | flt _=>obtain ⟨t,rfl⟩:=r;rfl
  | ref _=>cases r;rfl
  | ty _=>cases r;rfl
theorem RelV.inj {x y:V}{u:Value}(r:RelV x u) (q:RelV y u):x=y:=Option.some.inj (r.abs.symm.trans q.abs)
theorem Vals.inj:∀ {xs ys:List V}{us:List Value},Vals xs us→Vals ys us→xs=ys
  | _,_,_,.nil,.nil=>rfl
  | _,_,_,.cons r t,.cons r' t'=>by rw [r.inj r',Vals.inj t t']
section
variable {X:Cx}{pins:List (Addr×Obj)}{σ:St}{H:Hp}{s:Shared}{a:Addr}{xs ys:List V}
theorem SqL.of {K:PySem.W.Frag}(h:H a=some (.lst xs)):SqL K H a xs:=.inl (.inl h)
theorem SqT.of {K:PySem.W.Frag}(h:H a=some (.tup xs)):SqT K H a xs:=.inl (.inl h)
theorem Inv.list (I:Inv X pins σ H s) (h:SqL X.K H a xs):∃ its:List Value,Vals xs its∧PlainL s.heap a its.toArray∧xs.length≤sizeLine:=by
  rcases h with h | ⟨o,its,n,hk,hc,hd,hs,hz,r⟩
  · obtain ⟨z,its,n,r,e⟩:=h.ok I.hok
    exact ⟨its,r,⟨_,n,e,rfl,rfl,rfl⟩,z⟩
  · refine ⟨its.toList,r,⟨o,n,I.kIn a o hk,hc,hd,by simpa using hs⟩,?_⟩
    have e:=r.length
    simp only [Array.length_toList] at e
    omega
theorem Inv.tuple (I:Inv X pins σ H s) (h:SqT X.K H a xs):∃ its:List Value,Vals xs its∧IsTup s.heap a its.toArray∧xs.length≤sizeLine:=by
  rcases h with h | ⟨o,its,n,hk,hc,hs,hz,r⟩
  · obtain ⟨z,its,r,p⟩:=h.ok I.hok
    exact ⟨its,r,p,z⟩
  · refine ⟨its.toList,r,⟨o,I.kIn a o hk,hc,n,by simpa using hs⟩,?_⟩
    have e:=r.length
    simp only [Array.length_toList] at e
    omega
theorem Inv.list_inj (I:Inv X pins σ H s) (h:SqL X.K H a xs) (h':SqL X.K H a ys):xs=ys:=by
  obtain ⟨its,r,⟨o,n,e,_,_,d⟩,_⟩:=I.list h
  obtain ⟨its',r',⟨o',n',e',_,_,d'⟩,_⟩:=I.list h'
  rw [e] at e';cases e'
  rw [d] at d'
  injection d' with d1 _
  have:its=its':=by simpa using congrArg Array.toList d1
  subst this
  exact r.inj r'
theorem Inv.tuple_inj (I:Inv X pins σ H s) (h:SqT X.K H a xs) (h':SqT X.K H a ys):xs=ys:=by
  obtain ⟨its,r,⟨o,e,_,n,d⟩,_⟩:=I.tuple h
  obtain ⟨its',r',⟨o',e',_,n',d'⟩,_⟩:=I.tuple h'
  rw [e] at e';cases e'
  rw [d] at d'
  injection d' with d1 _
  have:its=its':=by simpa using congrArg Array.toList d1
  subst this
  exact r.inj r'
end
abbrev Cx.wish (X:Cx) (E:Value→Shared→Prop):Cx:={ X with xe:=E }
abbrev Cx.nox (X:Cx):Cx:=X.wish fun _ _=>False
theorem Cx.Ok.wish {X:Cx}(ok:X.Ok) (E:Value→Shared→Prop):(X.wish E).Ok :=
  ⟨ok.mod,ok.kind,ok.glob,ok.blt,ok.above,ok.inj,ok.has,ok.cab,ok.hd,ok.frames,ok.stk,ok.exf,ok.bs,ok.bsz,ok.noex,ok.exfs,ok.funs,ok.frf⟩
theorem Cx.Ok.unwish {X:Cx}{E:Value→Shared→Prop}(ok:(X.wish E).Ok):X.Ok :=
  ⟨ok.mod,ok.kind,ok.glob,ok.blt,ok.above,ok.inj,ok.has,ok.cab,ok.hd,ok.frames,ok.stk,ok.exf,ok.bs,ok.bsz,ok.noex,ok.exfs,ok.funs,ok.frf⟩
section
variable {X:Cx}{pins:List (Addr×Obj)}{σ:St}{H:Hp}{s:Shared}{E:Value→Shared→Prop}
theorem Inv.wish (I:Inv X pins σ H s) (E:Value→Shared→Prop):Inv (X.wish E) pins σ H s:=⟨I.ok.wish E,I.os,I.bare,I.base,I.loc,I.cell,I.free,I.freeC,I.pin,I.hok,I.len⟩
theorem Inv.unwish (I:Inv (X.wish E) pins σ H s):Inv X pins σ H s:=⟨I.ok.unwish,I.os,I.bare,I.base,I.loc,I.cell,I.free,I.freeC,I.pin,I.hok,I.len⟩
theorem SP.unwish {D:Ends}{f:Flow}{s':Shared}(h:SP (X.wish E) pins D f s'):SP X pins D f s':=by
  cases f with
  | next=>obtain ⟨σ',H',I,q⟩:=h;exact ⟨σ',H',I.unwish,q⟩
  | brk=>obtain ⟨σ',H',I,q⟩:=h;exact ⟨σ',H',I.unwish,q⟩
  | cont=>obtain ⟨σ',H',I,q⟩:=h;exact ⟨σ',H',I.unwish,q⟩
  | ret u=>obtain ⟨v,σ',H',I,r,q⟩:=h;exact ⟨v,σ',H',I.unwish,r,q⟩
theorem PSs.nox {st:List Stmt}{t:TS}(h:PSs X.nox st t):PSs X st t:=fun pins s σ H D I hw =>
  wpAny_mono (h pins s σ H D (I.wish _) hw) (fun _ _ q=>q.unwish) fun _ _ z=>False.elim z
end
section
variable {X:Cx}{st:Stmt}{rest:List Stmt}{t u:TS}{e:Expr}{te:TE}{pos:Pos}
def tNext:TS:=fun D σ H=>D.nx σ H
def tSeq (t u:TS):TS:=fun D σ H=>t { D with nx:=u D } σ H
theorem pss_nil:PSs X [] tNext:=fun _ _ σ H _ I h=>wpAny_execs_nil ⟨σ,H,I,h⟩
theorem pss_cons (h1:PS X st t) (h2:PSs X rest u):PSs X (st :: rest) (tSeq t u):=by
  intro pins s σ H D I h
  refine wpAny_execs_cons (thn (h1 pins s σ H { D with nx:=u D } I h) fun f s1 q=>?_)
  cases f with
  | next =>
    obtain ⟨σ',H',I',q⟩:=q
    exact h2 pins s1 σ' H' D I' q
  | ret v=>exact q
  | brk=>exact q
  | cont=>exact q
theorem pss_one (h1:PS X st t):PSs X [st] t:=by
  intro pins s σ H D I h
  refine wpAny_execs_cons (thn (h1 pins s σ H D I h) fun f s1 q=>?_)
  cases f with
  | next=>exact wpAny_execs_nil q
  | ret v=>exact q
  | brk=>exact q
  | cont=>exact q
theorem Inv.quiet {pins:List (Addr×Obj)}{σ:St}{H:Hp}{s:Shared}(I:Inv X pins σ H s):interactive X.env=false:=by simp [interactive,I.ok.kind]
def tDrop (te:TE):TS:=fun D σ H=>te σ H fun _ H1=>D.nx σ H1
theorem ps_expr (he:PE X e te) (hs:swapsWith e none pos.line X.env=pure false:=by rfl):PS X (.Expr e pos) (tDrop te):=by
  intro pins s σ H D I h
  exact wpAny_Expr_any (thn (he pins s σ H _ I h) fun v s1 ⟨x,H1,I1,r1,q1⟩=>⟨σ,H1,I1,q1⟩) I.quiet hs
def tRet (te:TE):TS:=fun D σ H=>te σ H D.rt
theorem ps_ret (he:PE X e te):PS X (.Return (some e) pos) (tRet te):=by
  intro pins s σ H D I h
  exact wpAny_Return_some (thn (he pins s σ H _ I h) fun v s1 ⟨x,H1,I1,r1,q1⟩=>⟨x,σ,H1,I1,r1,q1⟩)
def tIfS (c:TT) (t u:TS):TS:=fun D σ H=>c σ H fun b H1=>if b=true then t D σ H1 else u D σ H1
theorem ps_if {c:Expr}{a b:List Stmt}{tc:TT}(hc:PT X c tc) (ha:PSs X a t) (hb:PSs X b u):PS X (.If c a b pos) (tIfS tc t u):=by
  intro pins s σ H D I h
  refine wpAny_If (thn (hc pins s σ H _ I h) fun d s1 ⟨H1,I1,q1⟩=>?_)
  cases d with
  | true=>exact ha pins s1 σ H1 D I1 q1
  | false=>exact hb pins s1 σ H1 D I1 q1
end
abbrev TG:=V→St→Hp→(St→Hp→Prop)→Prop
abbrev TGs:=List V→St→Hp→(St→Hp→Prop)→Prop
def PG (X:Cx) (target:Expr) (t:TG):Prop :=
  ∀ (pins:List (Addr×Obj)) (s:Shared) (σ:St) (H:Hp) (v:V) (u:Value) (Q:St→Hp→Prop),Inv X pins σ H s→RelV v u→t v σ H Q →
    wpAny (model X.prog X.w) X.A (assign target X.env u) (fun _ s'=>∃ σ' H',Inv X pins σ' H' s'∧Q σ' H') X.xe s
def PGs (X:Cx) (ts:List Expr) (t:TGs):Prop :=
  ∀ (pins:List (Addr×Obj)) (s:Shared) (σ:St) (H:Hp) (vs:List V) (us:List Value) (Q:St→Hp→Prop),Inv X pins σ H s→Vals vs us→t vs σ H Q →
    wpAny (model X.prog X.w) X.A (assignInOrder ((assignEach ts X.env).map (·.2)) us) (fun _ s'=>∃ σ' H',Inv X pins σ' H' s'∧Q σ' H') X.xe s
abbrev TSet:=V→V→V→Hp→(Hp→Prop)→Prop
def PSet (X:Cx) (t:TSet):Prop :=
  ∀ (pins:List (Addr×Obj)) (s:Shared) (σ:St) (H:Hp) (o i v:V) (ov iv u:Value) (Q:Hp→Prop),Inv X pins σ H s→RelV o ov→RelV i iv→RelV v u→t o i v H Q →
    wpAny (model X.prog X.w) X.A (setItem ov iv u) (fun _ s'=>∃ H',Inv X pins σ H' s'∧Q H') X.xe s
section
variable {X:Cx}{pos:Pos}
def gName (i:Nat):TG:=fun v σ H Q=>Q (σ.set i (some v)) H
theorem pg_name {i:Nat}{x:Str}(hN:X.N.Nodup) (hi:X.N[i]?=some x) (hx:Loc X.env.scope x) (hf:X.fn x=true∨X.env.scope.names.lookup x=some .local:=by first | exact .inl rfl | exact .inr rfl | assumption):PG X (.Name x pos) (gName i):=by
  intro pins s σ H v u Q I r h
  exact wpAny_assign_Name (store_ok I hN hi hx r (fun s' I'=>⟨_,H,I',h⟩) hf)
def gNil:TGs:=fun vs σ H Q=>vs=[]∧Q σ H
def gCons (t:TG) (u:TGs):TGs:=fun vs σ H Q=>∃ v r,vs=v :: r∧t v σ H fun σ' H'=>u r σ' H' Q
theorem pgs_nil:PGs X [] gNil:=by
  intro pins s σ H vs us Q I r h
  obtain ⟨e,h⟩:=h
  subst e
  cases r
  exact assignInOrder_nil ⟨σ,H,I,h⟩
theorem pgs_cons {e:Expr}{es:List Expr}{t:TG}{u:TGs}(h1:PG X e t) (h2:PGs X es u)
    (hs:(assignEach (e :: es) X.env).map (·.2)=assign e X.env :: (assignEach es X.env).map (·.2):=by rfl):PGs X (e :: es) (gCons t u):=by
  intro pins s σ H vs us Q I r h
  obtain ⟨v,vr,e1,h⟩:=h
  subst e1
  cases r with
  | cons r rr =>
    rw [hs]
    refine assignInOrder_cons (thn (h1 pins s σ H _ _ _ I r h) fun _ s1 ⟨σ1,H1,I1,q1⟩=>?_)
    exact h2 pins s1 σ1 H1 _ _ Q I1 rr q1
def gTup (K:PySem.W.Frag) (n:Nat) (t:TGs):TG:=fun v σ H Q=>∃ a xs,v=.ref a∧SqT K H a xs∧xs.length=n∧t xs σ H Q
theorem pg_tup {es:List Expr}{k:Nat}{t:TGs}{n:Nat}(hc:X.calm=true) (h:PGs X es t)
    (hn:(assignEach es X.env).length=n:=by rfl) (hst:(assignEach es X.env).findIdx? (·.1)=none:=by rfl):PG X (.Tuple es k pos) (gTup X.K n t):=by
  intro pins s σ H v u Q I r hw
  obtain ⟨a,xs,e1,hq,hl,hw⟩:=hw
  subst e1
  cases r
  obtain ⟨its,rv,ht,hz⟩:=I.tuple hq
  refine assign_Tuple_tuple (I.ok.hd hc) ht (by simp [hn,← hl,rv.length]) hst fun h' hx=>?_
  have I1:Inv X pins σ H { s with heap:=h' }:=I.kept (t':=s.toks) fun b o e=>hx b o (Nat.ne_of_lt (Heap.lt_size e)) e
  exact h pins _ σ H xs _ Q I1 (by simpa using rv) hw
def gSub (to ti:TE) (t:TSet):TG:=fun v σ H Q=>to σ H fun o H1=>ti σ H1 fun i H2=>t o i v H2 fun H3=>Q σ H3
theorem pg_sub {o i:Expr}{to ti:TE}{t:TSet}(ho:PE X o to) (hi:PE X i ti) (hs:PSet X t)
    (ha:∀ v,assign (.Subscript o i pos) X.env v=(do
      let ov ← holding [v] (eval o X.env)
      let iv ← holding [v,ov] (eval i X.env)
      standAt pos
      holding [v,ov,iv] (setItem ov iv v)
      release [v,ov,iv] []):=by intro _;rfl):PG X (.Subscript o i pos) (gSub to ti t):=by
  intro pins s σ H v u Q I r h
  rw [ha]
  refine wpAny_bind (wpAny_holding (thn (ho pins s σ H _ I h) fun ov s1 ⟨x,H1,I1,r1,q1⟩=>?_))
  refine wpAny_bind (wpAny_holding (thn (hi pins s1 σ H1 _ I1 q1) fun iv s2 ⟨y,H2,I2,r2,q2⟩=>?_))
  refine wpAny_bind (wpAny_standAt (wpAny_bind (wpAny_holding (thn (hs pins s2 σ H2 x y v ov iv u _ I2 r1 r2 r q2) fun _ s3 ⟨H3,I3,q3⟩=>?_))))
  exact wpAny_release ⟨σ,H3,I3,q3⟩
def tAsg (te:TE) (g:TG):TS:=fun D σ H=>te σ H fun x H1=>g x σ H1 D.nx
theorem ps_asg {tg e:Expr}{te:TE}{g:TG}(he:PE X e te) (hg:PG X tg g) (hs:swapsWithSole [tg] e pos.line X.env=pure false:=by rfl) (hw:swappedStores [tg] e X.env=pure none:=by rfl)
    (h1:(assignEach [tg] X.env).map (·.2)=[assign tg X.env]:=by rfl):PS X (.Assign [tg] e pos) (tAsg te g):=by
  intro pins s σ H D I h
  refine wpAny_Assign_stores (thn (he pins s σ H _ I h) fun v s1 ⟨x,H1,I1,r1,q1⟩=>?_) hs hw
  rw [h1]
  exact thn (hg pins s1 σ H1 x v _ I1 r1 q1) fun _ s2 q=>q
theorem ps_set {i:Nat}{x:Str}{e:Expr}{te:TE}{pos':Pos}(hN:X.N.Nodup) (hi:X.N[i]?=some x) (hx:Loc X.env.scope x) (he:PE X e te) (hs:swapsWith e (some (.Name x pos')) pos.line X.env=pure false:=by rfl) (hf:X.fn x=true∨X.env.scope.names.lookup x=some .local:=by first | exact .inl rfl | exact .inr rfl | assumption) :
    PS X (.Assign [.Name x pos'] e pos) (tAsg te (gName i)):=by
  intro pins s σ H D I h
  refine wpAny_Assign_Name (thn (he pins s σ H _ I h) fun v s1 ⟨y,H1,I1,r1,q1⟩=>?_) hs
  exact store_ok I1 hN hi hx r1 (fun s2 I2=>⟨_,H1,I2,q1⟩) hf
end
section
variable {X:Cx}{pos:Pos}
end
structure It where
  go:Nat→Hp→Prop
  yld:Nat→Hp→V→Hp→Prop
  stop:Nat→Hp→Prop
def FpOk (X:Cx) (pins:List (Addr×Obj)) (H:Hp) (b:Addr):Prop :=
  H b=none∧b≠X.env.locals∧b∉X.fs∧(b∈X.ex∨X.s₀.heap.objs.size≤b)∧(∀ x c,X.env.cells.lookup x=some c→c≠b)∧∀ p∈X.pn ++ pins,p.1≠b
theorem Inv.fpOk {X:Cx}{pins:List (Addr×Obj)}{σ:St}{H H':Hp}{s:Shared}{b:Addr}(I:Inv X pins σ H s) (hb:s.heap.objs.size≤b) (hn:H' b=none):FpOk X pins H' b:=by
  refine ⟨hn,Nat.ne_of_gt (Nat.lt_of_lt_of_le I.lt hb),I.nofs hb,.inr (Nat.le_trans I.sz hb),fun x c e z=>?_,fun p hp z=>?_⟩
  · obtain ⟨v,q⟩:=I.cell x c e
    exact absurd (Nat.lt_of_lt_of_le q.lt (by rw [z];exact hb)) (Nat.lt_irrefl _)
  · exact absurd (Nat.lt_of_lt_of_le (Heap.lt_size (I.pin p hp).1) (by rw [z];exact hb)) (Nat.lt_irrefl _)
structure Turn (P:Program) (w:World) (K:PySem.W.Frag) (tg:Expr) (J:It) (fp:List Addr) (it:Addr) (tn:Nat→Heap→Prop):Prop where
  mem:it∈fp
  obj:∀ i h,tn i h→∀ b∈fp,∃ o,h.get? b=some o∧∀ v,o.data≠.cell v
  keep:∀ i h h',tn i h→(∀ b∈fp,∀ o,h.get? b=some o→h'.get? b=some o)→tn i h'
  item:∀ (X:Cx),X.prog=P→X.w=w→X.K=K→X.calm=true→∀ (i:Nat) (pins:List (Addr×Obj)) (s:Shared) (σ:St) (H:Hp) (E:Value→Shared→Prop),Inv X pins σ H s→(∀ b∈fp,FpOk X pins H b)→tn i s.heap→J.go i H →
    wpAny (model P w) X.A (pyNext (.ref it)) (fun r s1=>∃ u,r=some u ∧
      wpAny (model P w) X.A (letOwnedTupleGo tg (.ref it) u) (fun _ s2=>∃ x H',Inv X pins σ H' s2∧RelV x u∧J.yld i H x H'∧tn (i + 1) s2.heap∧∀ b∈fp,H' b=none) E s1) E s
  done:∀ (X:Cx),X.prog=P→X.w=w→X.K=K→X.calm=true→∀ (i:Nat) (pins:List (Addr×Obj)) (s:Shared) (σ:St) (H:Hp) (E:Value→Shared→Prop),Inv X pins σ H s→(∀ b∈fp,FpOk X pins H b)→tn i s.heap→J.stop i H →
    wpAny (model P w) X.A (pyNext (.ref it)) (fun r s1=>r=none∧Inv X pins σ H s1) E s
  self:∀ (A:Around) (i:Nat) (s:Shared) (Q:Value→Shared→Prop) (E:Value→Shared→Prop),tn i s.heap→Q (.ref it) s→wpAny (model P w) A (pyIter (.ref it)) Q E s
abbrev TI:=St→Hp→(It→Hp→Prop)→Prop
def PIE (X:Cx) (pins:List (Addr×Obj)) (σ:St) (tg:Expr) (R:It→Hp→Prop) (itv:Value) (s2:Shared):Prop :=
  ∃ (it:Addr) (fp:List Addr) (tn:Nat→Heap→Prop) (J:It) (H':Hp),itv=.ref it∧Inv X pins σ H' s2∧Turn X.prog X.w X.K tg J fp it tn∧tn 0 s2.heap∧(∀ b∈fp,FpOk X pins H' b)∧R J H'
def PI (X:Cx) (tg iter:Expr) (wi:TI):Prop :=
  ∀ (pins:List (Addr×Obj)) (s:Shared) (σ:St) (H:Hp) (R:It→Hp→Prop),Inv X pins σ H s→wi σ H R →
    wpAny (model X.prog X.w) X.A (eval iter X.env) (fun v s1=>wpAny (model X.prog X.w) X.A (pyIter v) (PIE X pins σ tg R) X.xe s1) X.xe s
theorem go_of {M:Model}{A:Around}{E:Value→Shared→Prop}{s:Shared}{tg:Expr}{it:Addr}{u:Value}{o:Obj}{n:String}{vs:Array Value}{Q:Unit→Shared→Prop}(ho:s.heap.get? it=some o) (hc:o.cls=.type n) (hd:o.data=.fields vs)
    (hn:["enumerate","zip","dict_itemiterator","dict_reverseitemiterator","odict_iterator","itertools.zip_longest","itertools.pairwise"].contains n=false) (hQ:Q () s):wpAny M A (letOwnedTupleGo tg (.ref it) u) Q E s:=by
  unfold letOwnedTupleGo
  cases tg<;>first
    | exact wpAny_pure hQ
    | (cases u<;>first
        | exact wpAny_pure hQ
        | (refine wpAny_bind (wpAny_load ho ?_)
           rw [hc,hd]
           show wpAny M A (if (["enumerate","zip","dict_itemiterator","dict_reverseitemiterator","odict_iterator","itertools.zip_longest","itertools.pairwise"].contains n && vs[0]? == some (rawInt _))=true then _ else _) Q E s
           rw [if_neg (by intro h;rw [hn,Bool.false_and] at h;cases h)]
           exact wpAny_pure hQ))
def Itl (K:PySem.W.Frag) (a:Addr):It :=
  ⟨fun i H=>∃ xs x,SqL K H a xs∧xs[i]?=some x,fun i H x H'=>H'=H∧∀ xs,SqL K H a xs→xs[i]?=some x,fun i H=>∃ xs,SqL K H a xs∧xs.length≤i⟩
def Itr (lo:Int) (n:Nat):It:=⟨fun i _=>i < n,fun i H x H'=>H'=H∧x=.int (lo + i),fun i _=>n≤i⟩
theorem turn_list {P:Program}{w:World}{K:PySem.W.Frag}{tg:Expr}(a it:Addr):Turn P w K tg (Itl K a) [it] it (fun i h=>h.IsListIter it a i) where
  mem:=by simp
  obj:=fun i h st b hb=>by
    have e:b=it:=by simpa using hb
    subst e
    obtain ⟨o,e,c,d⟩:=st
    exact ⟨o,e,fun v z=>by rw [d] at z;cases z⟩
  keep:=fun i h h' st k=>st.at fun o e=>k it (by simp) o e
  item:=by
    intro X hP hw hK hc i pins s σ H E I hf st hg
    subst hP hw hK
    obtain ⟨xs,x,hq,hx⟩:=hg
    obtain ⟨its,rv,p,hz⟩:=I.list hq
    obtain ⟨u,hu,ru⟩:=rv.get hx
    obtain ⟨f0,f1,f2,f3,f4,f5⟩:=hf it (by simp)
    refine wpAny_pyNext_list_item st p.isList (x:=u) (by simpa using hu) fun h' st' sb=>?_
    have I1:Inv X pins σ H { s with heap:=h' }:=I.turned (t':=s.toks) (fun b o hb e=>(sb.2 b hb).trans e) f0 f1 f3 f4 f5
    obtain ⟨o,e,c,d⟩:=id st'
    exact ⟨u,rfl,go_of (s:={ s with heap:=h' }) e c d (by decide) ⟨x,H,I1,ru,⟨rfl,fun ys hy=>by rw [I.list_inj hy hq];exact hx⟩,st',fun b hb=>(hf b hb).1⟩⟩
  done:=by
    intro X hP hw hK hc i pins s σ H E I hf st hg
    subst hP hw hK
    obtain ⟨xs,hq,hx⟩:=hg
    obtain ⟨its,rv,p,hz⟩:=I.list hq
    obtain ⟨f0,f1,f2,f3,f4,f5⟩:=hf it (by simp)
    have hl:=rv.length
    exact wpAny_pyNext_list_end (I.ok.hd hc) st p.isList (by simp;omega) fun h' eb=>⟨rfl,I.turned (t':=s.toks) (fun b o hb e=>eb b o hb e) f0 f1 f3 f4 f5⟩
  self:=fun _ _ _ _ _ st h=>wpAny_pyIter_listiter st h
theorem turn_range {P:Program}{w:World}{K:PySem.W.Frag}{tg:Expr}(it:Addr) (lo:Int) (n:Nat):Turn P w K tg (Itr lo n) [it] it (fun i h=>IsRangeIter h it (lo + (i:Nat) * 1) ((n:Int) - (i:Nat)) 1) where
  mem:=by simp
  obj:=fun i h st b hb=>by
    have e:b=it:=by simpa using hb
    subst e
    exact ⟨_,st,fun v z=>by
      have z':Data.fields _=Data.cell v:=z
      cases z'⟩
  keep:=fun i h h' st k=>k it (by simp) _ st
  item:=by
    intro X hP hw hK hc i pins s σ H E I hf st hg
    subst hP hw hK
    obtain ⟨f0,f1,f2,f3,f4,f5⟩:=hf it (by simp)
    have W:=Walks.range (prog:=X.prog) (w:=X.w) (I.ok.hd hc) it lo 1 n
    refine W.item i s _ _ hg st fun v h' tk hv st' kk=>?_
    obtain ⟨t,rfl⟩:=hv
    have I1:Inv X pins σ H { s with heap:=h',toks:=tk }:=I.turned (fun b o hb e=>kk b o (by simpa using hb) e) f0 f1 f3 f4 f5
    refine ⟨_,rfl,go_of (s:={ s with heap:=h',toks:=tk }) (n:="range_iterator") st' rfl rfl (by decide) ⟨.int (lo + i),H,I1,⟨t,?_⟩,⟨rfl,rfl⟩,st',fun b hb=>(hf b hb).1⟩⟩
    rw [Int.mul_one]
  done:=by
    intro X hP hw hK hc i pins s σ H E I hf st hg
    subst hP hw hK
    obtain ⟨f0,f1,f2,f3,f4,f5⟩:=hf it (by simp)
    exact wpAny_pyNext_range_end (I.ok.hd hc) st (by have:n≤i:=hg;omega) fun h' eb=>⟨rfl,I.turned (t':=s.toks) (fun b o hb e=>eb b o hb e) f0 f1 f3 f4 f5⟩
  self:=fun _ _ _ _ _ st h=>wpAny_pyIter_rangeiter st h
end L2
namespace L2
open PySem PySem.Spec PyProof.Rows
section
variable {X:Cx}{tg:Expr}
def iList (K:PySem.W.Frag) (tl:TE):TI:=fun σ H R=>tl σ H fun x H1=>∃ a,x=.ref a∧(∃ xs,SqL K H1 a xs)∧R (Itl K a) H1
theorem pi_list {l:Expr}{tl:TE}(hl:PE X l tl):PI X tg l (iList X.K tl):=by
  intro pins s σ H R I h
  refine thn (hl pins s σ H _ I h) fun v s1 ⟨x,H1,I1,r1,q1⟩=>?_
  obtain ⟨a,e,⟨xs,hq⟩,q⟩:=q1
  subst e
  cases r1
  obtain ⟨its,rv,p,hz⟩:=I1.list hq
  refine wpAny_pyIter_list p.isList ?_
  refine ⟨s1.heap.objs.size,[s1.heap.objs.size],_,_,H1,rfl,I1.kept (t':=s1.toks) fun b o e=>Heap.get?_push_of_some _ e,turn_list a _,⟨_,Heap.get?_push_size _ rfl,rfl,rfl⟩,fun b hb=>?_,q⟩
  have e:b=s1.heap.objs.size:=by simpa using hb
  subst e
  exact I1.fpOk (Nat.le_refl _) (I1.hok.fresh (Nat.le_refl _))
theorem range_it {pins:List (Addr×Obj)}{σ:St}{H:Hp}{s:Shared}{R:It→Hp→Prop}{E:Value→Shared→Prop}{lo hi:Int}{t u v:Tok}{tk:Nat}(I:Inv X pins σ H s) (h1:-(2 ^ 62)≤lo) (h2:lo < 2 ^ 62) (h3:-(2 ^ 62)≤hi) (h4:hi < 2 ^ 62)
    (q:R (Itr lo (hi - lo).toNat) H):wpAny (model X.prog X.w) X.A (pyIter (.ref s.heap.objs.size)) (PIE X pins σ tg R) E { s with heap:=s.heap.push { cls:=.type "range",data:=.fields #[.int lo t,.int hi u,.int 1 v] },toks:=tk }:=by
  refine wpAny_pyIter_range (IsRange.new ..) (small_one h1 h2 h3 h4) ?_
  have I1:Inv X pins σ H { s with heap:=s.heap.push { cls:=.type "range",data:=.fields #[.int lo t,.int hi u,.int 1 v] },toks:=tk }:=I.kept fun b o e=>Heap.get?_push_of_some _ e
  refine ⟨(s.heap.push { cls:=.type "range",data:=.fields #[.int lo t,.int hi u,.int 1 v] }).objs.size,[(s.heap.push { cls:=.type "range",data:=.fields #[.int lo t,.int hi u,.int 1 v] }).objs.size],_,_,H,rfl,
    I1.kept (t':=tk) fun b o e=>Heap.get?_push_of_some _ e,turn_range _ lo (hi - lo).toNat,?_,fun b hb=>?_,q⟩
  · have e1:lo + ((0:Nat):Int) * 1=lo:=by simp
    have e2:(((hi - lo).toNat:Nat):Int) - ((0:Nat):Int)=Builtin.Range.rangeSize lo hi 1:=by rw [rangeSize_one];split<;>omega
    show IsRangeIter _ _ (lo + ((0:Nat):Int) * 1) ((((hi - lo).toNat:Nat):Int) - ((0:Nat):Int)) 1
    rw [e1,e2]
    exact Heap.get?_push_size _ rfl
  · have e:b=(s.heap.push { cls:=.type "range",data:=.fields #[.int lo t,.int hi u,.int 1 v] }).objs.size:=by simpa using hb
    subst e
    exact I1.fpOk (Nat.le_refl _) (I1.hok.fresh (Nat.le_refl _))
def iRng1 (ta:TA):TI:=fun σ H R=>ta σ H fun vs H1=>∃ j:Int,vs=[.int j]∧-(2 ^ 62)≤j∧j < 2 ^ 62∧R (Itr 0 j.toNat) H1
def iRng2 (ta:TA):TI:=fun σ H R=>ta σ H fun vs H1=>∃ i j:Int,vs=[.int i,.int j]∧(-(2 ^ 62)≤i∧i < 2 ^ 62∧-(2 ^ 62)≤j∧j < 2 ^ 62)∧R (Itr i (j - i).toNat) H1
theorem pi_range1 {a:Expr}{ta:TA}{p pos:Pos}(hg:Gl X "range") (hm:X.mg "range"=none) (ha:PA X [a] ta) (hs:starEach [a] X.env=[(false,eval a X.env)]:=by rfl):PI X tg (.Call (.Name "range" p) [a] [] pos) (iRng1 ta):=by
  intro pins s σ H R I h
  refine Call_ (ld_blt I hg hm boot_range (PyProof.Rows.callWith_type1 (thn (ha pos pins s σ H _ I h) fun us s1 ⟨vs,H1,I1,r1,q1⟩=>?_) hs rfl))
  obtain ⟨j,e,q1,q2,q⟩:=q1
  subst e
  cases r1 with
  | cons r rr =>
    cases rr
    obtain ⟨t,rfl⟩:=r
    exact call_range_1 (range_it I1 (by omega) (by omega) q1 q2 (by simpa using q))
theorem pi_range2 {a b:Expr}{ta:TA}{p pos:Pos}(hg:Gl X "range") (hm:X.mg "range"=none) (ha:PA X [a,b] ta) (hs:starEach [a,b] X.env=[(false,eval a X.env),(false,eval b X.env)]:=by rfl) (hs2:starEach [b] X.env=[(false,eval b X.env)]:=by rfl) :
    PI X tg (.Call (.Name "range" p) [a,b] [] pos) (iRng2 ta):=by
  intro pins s σ H R I h
  refine Call_ (ld_blt I hg hm boot_range (PyProof.Rows.callWith_type1 (thn (ha pos pins s σ H _ I h) fun us s1 ⟨vs,H1,I1,r1,q1⟩=>?_) (by rw [hs,hs2]) (by rw [hs2];rfl)))
  obtain ⟨i,j,e,⟨q1,q2,q3,q4⟩,q⟩:=q1
  subst e
  cases r1 with
  | cons r rr =>
    cases rr with
    | cons r' rr =>
      cases rr
      obtain ⟨t,rfl⟩:=r
      obtain ⟨t',rfl⟩:=r'
      exact call_range_2 (range_it I1 q1 q2 q3 q4 q)
def tFor (wi:TI) (g:TG) (tb:TS):TS:=fun D σ H=>wi σ H fun J H1=>∃ W:Nat→Nat→St→Hp→Prop,(∃ m,W 0 m σ H1)∧∀ i m σ H,W i m σ H →
  (J.stop i H∧D.nx σ H)∨(J.go i H∧∃ N:St→Hp→Prop,(∀ σ' H',N σ' H'→∃ m',m' < m∧W (i + 1) m' σ' H')∧∀ x H',J.yld i H x H'→g x σ H' fun σ2 H2=>tb { D with nx:=N,ct:=N,bk:=D.nx } σ2 H2)
def pinsAt (fp:List Addr) (h:Heap):List (Addr×Obj):=fp.filterMap fun b=>(h.get? b).map fun o=>(b,o)
theorem mem_pinsAt {fp:List Addr}{h:Heap}{b:Addr}{o:Obj}(hb:b∈fp) (e:h.get? b=some o):(b,o)∈pinsAt fp h:=List.mem_filterMap.mpr ⟨b,hb,by rw [e];rfl⟩
theorem of_pinsAt {fp:List Addr}{h:Heap}{p:Addr×Obj}(hp:p∈pinsAt fp h):p.1∈fp∧h.get? p.1=some p.2:=by
  obtain ⟨b,hb,e⟩:=List.mem_filterMap.mp hp
  cases q:h.get? b with
  | none=>rw [q] at e;cases e
  | some o =>
    rw [q] at e
    have e':(b,o)=p:=Option.some.inj e
    subst e'
    exact ⟨hb,q⟩
theorem Inv.pinned {pins:List (Addr×Obj)}{σ:St}{H:Hp}{s:Shared}{fp:List Addr}(I:Inv X pins σ H s) (hf:∀ b∈fp,FpOk X pins H b) (ho:∀ b∈fp,∃ o,s.heap.get? b=some o∧∀ v,o.data≠.cell v):Inv X (pins ++ pinsAt fp s.heap) σ H s :=
  I.pins_of fun p hp=>(List.mem_append.mp hp).elim (fun z=>I.pin p (List.mem_append_right _ z)) fun z=>by
    obtain ⟨hb,e⟩:=of_pinsAt z
    obtain ⟨f0,f1,f2,_⟩:=hf p.1 hb
    obtain ⟨o,e',d⟩:=ho p.1 hb
    rw [e] at e';cases e'
    exact ⟨e,f0,f1,f2,d⟩
theorem Inv.unpinned {pins pl:List (Addr×Obj)}{σ:St}{H:Hp}{s:Shared}(I:Inv X (pins ++ pl) σ H s):Inv X pins σ H s:=I.pins_of fun p hp=>I.pin p (List.mem_append_right _ (List.mem_append_left _ hp))
theorem ps_for {iter:Expr}{body:List Stmt}{wi:TI}{g:TG}{tb:TS}{pos:Pos}(hp:PassesOwn (model X.prog X.w) X.A X.env X.xe) (hc:X.calm=true) (hi:PI X tg iter wi) (hg:PG X tg g) (hb:PSs X body tb)
    (hs:∀ x,foldedSetIterable iter X.env x=pure x:=by intro _;rfl):PS X (.For tg iter body [] pos) (tFor wi g tb):=by
  intro pins s σ H D I h
  refine wpAny_For (thn (hi pins s σ H _ I h) fun v s1 h1=>thn h1 fun itv s2 h2=>?_) hs
  obtain ⟨it,fp,tn,J,H2,e,I2,T,st2,f2,W,⟨m0,w0⟩,turn⟩:=h2
  subst e
  have stat:∀ {H':Hp},(∀ b∈fp,H' b=none)→∀ b∈fp,FpOk X pins H' b:=fun hn b hb=>⟨hn b hb,(f2 b hb).2⟩
  refine codeAny_forLoop_any (fun n s'=>∃ i σ' H',Inv X pins σ' H' s'∧tn i s'.heap∧(∀ b∈fp,H' b=none)∧W i n σ' H') ?_ m0 ⟨0,σ,H2,I2,st2,fun b hb=>(f2 b hb).1,w0⟩
  rintro n s3 ⟨i,σ3,H3,I3,st3,fr3,w3⟩
  rcases turn i n σ3 H3 w3 with ⟨stop,qn⟩ | ⟨go,N,hN,step⟩
  · refine wpAny_passesOwn hp (thn (T.done X rfl rfl rfl hc i pins s3 σ3 H3 X.xe I3 (stat fr3) st3 stop) fun r s4 ⟨hr,I4⟩=>?_)
    subst hr
    exact wpAny_execs_nil ⟨σ3,H3,I4,qn⟩
  · refine wpAny_passesOwn hp (thn (T.item X rfl rfl rfl hc i pins s3 σ3 H3 X.xe I3 (stat fr3) st3 go) fun r s4 ⟨u,hr,h4⟩=>?_)
    subst hr
    refine wpAny_passesOwn hp (thn h4 fun _ s5 ⟨x,H5,I5,r5,y5,st5,fr5⟩=>?_)
    have I5':=I5.pinned (stat fr5) (T.obj _ _ st5)
    refine wpAny_passesOwn hp (thn (hg _ s5 σ3 H5 x u _ I5' r5 (step x H5 y5)) fun _ s6 ⟨σ6,H6,I6,q6⟩=>?_)
    refine wpAny_passesOwn hp (thn (hb _ s6 σ6 H6 _ I6 q6) fun f s7 q7=>?_)
    have again:∀ {σ7:St} {H7:Hp},Inv X (pins ++ pinsAt fp s5.heap) σ7 H7 s7→N σ7 H7→∃ m,m < n∧∃ i σ' H',Inv X pins σ' H' s7∧tn i s7.heap∧(∀ b∈fp,H' b=none)∧W i m σ' H':=fun {σ7 H7} I7 n7=>by
      obtain ⟨m',hm,w7⟩:=hN σ7 H7 n7
      refine ⟨m',hm,i + 1,σ7,H7,I7.unpinned,T.keep _ _ _ st5 fun b hb o e=>(I7.pin (b,o) (List.mem_append_right _ (List.mem_append_right _ (mem_pinsAt hb e)))).1,fun b hb=>?_,w7⟩
      obtain ⟨o,e,d⟩:=T.obj _ _ st5 b hb
      exact (I7.pin (b,o) (List.mem_append_right _ (List.mem_append_right _ (mem_pinsAt hb e)))).2.1
    cases f with
    | next=>obtain ⟨σ7,H7,I7,n7⟩:=q7;exact again I7 n7
    | cont=>obtain ⟨σ7,H7,I7,n7⟩:=q7;exact again I7 n7
    | brk=>obtain ⟨σ7,H7,I7,q7⟩:=q7;exact ⟨σ7,H7,I7.unpinned,q7⟩
    | ret v=>obtain ⟨x7,σ7,H7,I7,r7,q7⟩:=q7;exact ⟨x7,σ7,H7,I7.unpinned,r7,q7⟩
end
theorem for_list {K:PySem.W.Frag}{a:Addr}{xs:List V}{g:TG}{tb:TS}{D:Ends}{σ:St}{H:Hp}(Pv:Nat→St→Hp→Prop) (h0:Pv 0 σ H) (hl:∀ i σ H,i≤xs.length→Pv i σ H→SqL K H a xs)
    (hs:∀ i x σ H,xs[i]?=some x→Pv i σ H→g x σ H fun σ2 H2=>tb { D with nx:=Pv (i + 1),ct:=Pv (i + 1),bk:=D.nx } σ2 H2) (hd:∀ σ H,Pv xs.length σ H→D.nx σ H) :
    ∃ W:Nat→Nat→St→Hp→Prop,(∃ m,W 0 m σ H)∧∀ i m σ H,W i m σ H →
      ((Itl K a).stop i H∧D.nx σ H)∨((Itl K a).go i H∧∃ N:St→Hp→Prop,(∀ σ' H',N σ' H'→∃ m',m' < m∧W (i + 1) m' σ' H')∧∀ x H',(Itl K a).yld i H x H'→g x σ H' fun σ2 H2=>tb { D with nx:=N,ct:=N,bk:=D.nx } σ2 H2):=by
  refine ⟨fun i m σ H=>m=xs.length - i∧i≤xs.length∧Pv i σ H,⟨xs.length,by simp,Nat.zero_le _,h0⟩,?_⟩
  rintro i m σ H ⟨rfl,hi,p⟩
  have q:=hl i σ H hi p
  by_cases hlt:i < xs.length
  · refine .inr ⟨⟨xs,xs[i],q,by simp [hlt]⟩,Pv (i + 1),fun σ' H' p'=>⟨xs.length - (i + 1),by omega,rfl,hlt,p'⟩,fun x H' y=>?_⟩
    obtain ⟨e,y⟩:=y
    subst e
    exact hs i x σ _ (y xs q) p
  · have e:i=xs.length:=by omega
    subst e
    exact .inl ⟨⟨xs,q,Nat.le_refl _⟩,hd σ H p⟩
theorem for_range {lo:Int}{n:Nat}{g:TG}{tb:TS}{D:Ends}{σ:St}{H:Hp}(Pv:Nat→St→Hp→Prop) (h0:Pv 0 σ H)
    (hs:∀ i σ H,i < n→Pv i σ H→g (.int (lo + i)) σ H fun σ2 H2=>tb { D with nx:=Pv (i + 1),ct:=Pv (i + 1),bk:=D.nx } σ2 H2) (hd:∀ σ H,Pv n σ H→D.nx σ H) :
    ∃ W:Nat→Nat→St→Hp→Prop,(∃ m,W 0 m σ H)∧∀ i m σ H,W i m σ H →
      ((Itr lo n).stop i H∧D.nx σ H)∨((Itr lo n).go i H∧∃ N:St→Hp→Prop,(∀ σ' H',N σ' H'→∃ m',m' < m∧W (i + 1) m' σ' H')∧∀ x H',(Itr lo n).yld i H x H'→g x σ H' fun σ2 H2=>tb { D with nx:=N,ct:=N,bk:=D.nx } σ2 H2):=by
  refine ⟨fun i m σ H=>m=n - i∧i≤n∧Pv i σ H,⟨n,by simp,Nat.zero_le _,h0⟩,?_⟩
  rintro i m σ H ⟨rfl,hi,p⟩
  by_cases hlt:i < n
  · refine .inr ⟨hlt,Pv (i + 1),fun σ' H' p'=>⟨n - (i + 1),by omega,rfl,hlt,p'⟩,fun x H' y=>?_⟩
    obtain ⟨e,y⟩:=y
    subst e y
    exact hs i σ _ hlt p
  · have e:i=n:=by omega
    subst e
    exact .inl ⟨Nat.le_refl _,hd σ H p⟩
end L2
namespace L2
open PySem PySem.Spec PyProof.Rows
abbrev R2:=V→V→Hp→VK→Prop
def OpR (X:Cx) (f:Value→Value→Sem Value) (r:R2):Prop :=
  ∀ (pins:List (Addr×Obj)) (s:Shared) (σ:St) (H:Hp) (x y:V) (v u:Value) (Q:VK),Inv X pins σ H s→RelV x v→RelV y u→r x y H Q →
    wpAny (model X.prog X.w) X.A (f v u) (EP X pins σ Q) X.xe s
def UnR (X:Cx) (f:Value→Sem Value) (r:V→Hp→VK→Prop):Prop :=
  ∀ (pins:List (Addr×Obj)) (s:Shared) (σ:St) (H:Hp) (x:V) (v:Value) (Q:VK),Inv X pins σ H s→RelV x v→r x H Q →
    wpAny (model X.prog X.w) X.A (f v) (EP X pins σ Q) X.xe s
def CallR (X:Cx) (f:Value) (r:List V→Hp→VK→Prop):Prop :=
  ∀ (pins:List (Addr×Obj)) (s:Shared) (σ:St) (H:Hp) (xs:List V) (us:List Value) (Q:VK),Inv X pins σ H s→Vals xs us→r xs H Q →
    wpAny (model X.prog X.w) X.A (call f us) (EP X pins σ Q) X.xe s
def tOp (r:R2) (ta tb:TE):TE:=fun σ H Q=>ta σ H fun x H1=>tb σ H1 fun y H2=>r x y H2 Q
def tUn (r:V→Hp→VK→Prop) (ta:TE):TE:=fun σ H Q=>ta σ H fun x H1=>r x H1 Q
def rI (C:Int→Int→Prop) (g:Int→Int→V):R2:=fun x y H Q=>∃ i j,x=.int i∧y=.int j∧C i j∧Q (g i j) H
def rI0 (g:Int→Int→V):R2:=fun x y H Q=>∃ i j,x=.int i∧y=.int j∧Q (g i j) H
def rU (g:Int→V):V→Hp→VK→Prop:=fun x H Q=>∃ i,x=.int i∧Q (g i) H
section
variable {X:Cx}{a b c:Expr}{ta tb tc:TE}{pos:Pos}
theorem binT (ha:PE X a ta) (hb:PE X b tb) {pins:List (Addr×Obj)}{s:Shared}{σ:St}{H:Hp}{R:V→V→Hp→Prop}(I:Inv X pins σ H s)
    (h:ta σ H fun x H1=>tb σ H1 fun y H2=>R x y H2) {Q:Value→Shared→Prop} {f:Value→Value→Sem Value}
    (hf:∀ v u s2 x y H2,Inv X pins σ H2 s2→RelV x v→RelV y u→R x y H2→wpAny (model X.prog X.w) X.A (f v u) Q X.xe s2) :
    wpAny (model X.prog X.w) X.A (eval a X.env) (fun v s₁=>wpAny (model X.prog X.w) X.A (eval b X.env) (fun u s₂=>wpAny (model X.prog X.w) X.A (f v u) Q X.xe s₂) X.xe s₁) X.xe s:=by
  refine thn (ha pins s σ H _ I h) fun v s1 ⟨x,H1,I1,r1,q1⟩=>?_
  refine thn (hb pins s1 σ H1 _ I1 q1) fun u s2 ⟨y,H2,I2,r2,q2⟩=>?_
  exact hf v u s2 x y H2 I2 r1 r2 q2
theorem pe_op {op:Operator}{r:R2}(ho:OpR X (binaryOp op) r) (ha:PE X a ta) (hb:PE X b tb):PE X (.BinOp a op b pos) (tOp r ta tb):=by
  intro pins s σ H Q I h
  exact wpAny_BinOp (binT ha hb I h fun v u s2 x y H2 I2 rx ry q=>ho pins s2 σ H2 x y v u Q I2 rx ry q)
theorem pe_un {op:UnaryOp}{r:V→Hp→VK→Prop}(ho:UnR X (unaryOp op) r) (ha:PE X a ta):PE X (.UnaryOp op a pos) (tUn r ta):=by
  intro pins s σ H Q I h
  exact UnaryOp_ (thn (ha pins s σ H _ I h) fun v s1 ⟨x,H1,I1,r1,q1⟩=>ho pins s1 σ H1 x v Q I1 r1 q1)
theorem opI {f:Value→Value→Sem Value}{C:Int→Int→Prop}{g:Int→Int→Int}
    (rule:∀ (i j:Int) (t u:Tok) (s:Shared) (Q:Value→Shared→Prop) (E:Value→Shared→Prop),C i j→Q (.int (g i j) s.toks) { s with toks:=s.toks + 1 }→wpAny (model X.prog X.w) X.A (f (.int i t) (.int j u)) Q E s) :
    OpR X f (rI C fun i j=>.int (g i j)):=by
  intro pins s σ H x y v u Q I rx ry h
  obtain ⟨i,j,rfl,rfl,hc,q⟩:=h
  obtain ⟨t,rfl⟩:=rx
  obtain ⟨t',rfl⟩:=ry
  exact rule i j t t' s _ _ hc ⟨.int (g i j),H,I.tok _,⟨_,rfl⟩,q⟩
theorem opI0 {f:Value→Value→Sem Value}{g:Int→Int→Int}
    (rule:∀ (i j:Int) (t u:Tok) (s:Shared) (Q:Value→Shared→Prop) (E:Value→Shared→Prop),Q (.int (g i j) s.toks) { s with toks:=s.toks + 1 }→wpAny (model X.prog X.w) X.A (f (.int i t) (.int j u)) Q E s) :
    OpR X f (rI0 fun i j=>.int (g i j)):=by
  intro pins s σ H x y v u Q I rx ry h
  obtain ⟨i,j,rfl,rfl,q⟩:=h
  obtain ⟨t,rfl⟩:=rx
  obtain ⟨t',rfl⟩:=ry
  exact rule i j t t' s _ _ ⟨.int (g i j),H,I.tok _,⟨_,rfl⟩,q⟩
theorem opB0 {f:Value→Value→Sem Value}{g:Int→Int→Bool}
    (rule:∀ (i j:Int) (t u:Tok) (s:Shared) (Q:Value→Shared→Prop) (E:Value→Shared→Prop),Q (.bool (g i j)) s→wpAny (model X.prog X.w) X.A (f (.int i t) (.int j u)) Q E s) :
    OpR X f (rI0 fun i j=>.bl (g i j)):=by
  intro pins s σ H x y v u Q I rx ry h
  obtain ⟨i,j,rfl,rfl,q⟩:=h
  obtain ⟨t,rfl⟩:=rx
  obtain ⟨t',rfl⟩:=ry
  exact rule i j t t' s _ _ ⟨.bl (g i j),H,I,rfl,q⟩
def CDiv (i j:Int):Prop:=0 < j∧j < 1073741824
def CPow (i j:Int):Prop:=0≤j∧j≤1000000∧i.natAbs < 2 ^ 64
def CMul (i j:Int):Prop:=(-(2 ^ 64) < i∧i < 2 ^ 64)∨(-(2 ^ 64) < j∧j < 2 ^ 64)
theorem CMul.ok {i j:Int}(h:CMul i j):IntMulOk i j:=by
  rcases h with ⟨h1,h2⟩ | ⟨h1,h2⟩
  · exact .of_left (intBits_le_64 h1 h2)
  · exact .of_right (intBits_le_64 h1 h2)
theorem op_add:OpR X (binaryOp .Add) (rI0 fun i j=>.int (i + j)):=opI0 fun _ _ _ _ _ _ _ q=>add_int q
theorem op_sub:OpR X (binaryOp .Sub) (rI0 fun i j=>.int (i - j)):=opI0 fun _ _ _ _ _ _ _ q=>sub_int q
theorem op_mul:OpR X (binaryOp .Mult) (rI CMul fun i j=>.int (i * j)):=opI fun _ _ _ _ _ _ _ hc q=>mul_int q hc.ok
theorem op_fdiv:OpR X (binaryOp .FloorDiv) (rI CDiv fun i j=>.int (i / j)):=opI fun i j _ _ _ _ _ hc q=>by
  have h1:(0:Int) < j:=hc.1
  have h2:j < 1073741824:=hc.2
  exact floordiv_int (by omega) (by rw [Int.fdiv_eq_ediv_of_nonneg i (by omega)];exact q) (.inl (PyProof.noPylong_small (by omega)))
theorem op_mod:OpR X (binaryOp .Mod) (rI (fun _ j=>0 < j) fun i j=>.int (i % j)):=opI fun i j _ _ _ _ _ hc q=>by
  have h1:(0:Int) < j:=hc
  exact mod_int' (by omega) (by rw [Int.fmod_eq_emod_of_nonneg i (by omega)];exact q)
theorem op_pow:OpR X (binaryOp .Pow) (rI CPow fun i j=>.int (i ^ j.toNat)):=opI fun _ _ _ _ _ _ _ hc q=>pow_int_small hc.1 hc.2.1 hc.2.2 q
theorem unI {f:Value→Sem Value}{g:Int→Int}
    (rule:∀ (i:Int) (t:Tok) (s:Shared) (Q:Value→Shared→Prop) (E:Value→Shared→Prop),Q (.int (g i) s.toks) { s with toks:=s.toks + 1 }→wpAny (model X.prog X.w) X.A (f (.int i t)) Q E s) :
    UnR X f (rU fun i=>.int (g i)):=by
  intro pins s σ H x v Q I rx h
  obtain ⟨i,rfl,q⟩:=h
  obtain ⟨t,rfl⟩:=rx
  exact rule i t s _ _ ⟨.int (g i),H,I.tok _,⟨_,rfl⟩,q⟩
theorem un_neg:UnR X (unaryOp .USub) (rU fun i=>.int (-i)):=unI fun _ _ _ _ _ q=>neg_int q
end
def scal:V→V→Bool
  | .non,.non=>true | .non,.int _=>true | .int _,.non=>true | .non,.bl _=>true | .bl _,.non=>true | .non,.str _=>true | .str _,.non=>true
  | .int _,.int _=>true | .bl _,.bl _=>true | .str _,.str _=>true | .byt _,.byt _=>true
  | .int _,.str _=>true | .str _,.int _=>true | .bl _,.str _=>true | .str _,.bl _=>true
  | _,_=>false
def rEq:R2:=fun x y H Q=>scal x y=true∧Q (.bl (decide (x=y))) H
def rNe:R2:=fun x y H Q=>scal x y=true∧Q (.bl (!decide (x=y))) H
theorem dec_int {i j:Int}:decide (V.int i=V.int j)=(i == j):=by
  rw [Bool.eq_iff_iff]
  simp
theorem dec_bl {i j:Bool}:decide (V.bl i=V.bl j)=(i == j):=by
  rw [Bool.eq_iff_iff]
  simp
theorem dec_str {i j:Str}:decide (V.str i=V.str j)=(i == j):=by
  rw [Bool.eq_iff_iff]
  simp
theorem dec_byt {i j:Array UInt8}:decide (V.byt i=V.byt j)=(i.toList == j.toList):=by
  rw [Bool.eq_iff_iff]
  cases i
  cases j
  simp
section
variable {X:Cx}{a b c:Expr}{ta tb tc:TE}{pos:Pos}
theorem fin_bl {pins:List (Addr×Obj)}{σ:St}{H:Hp}{s:Shared}{Q:VK}{k k':Bool}(I:Inv X pins σ H s) (q:Q (.bl k) H) (e:k=k'):EP X pins σ Q (.bool k') s:=by
  subst e
  exact ⟨.bl k,H,I,rfl,q⟩
theorem op_eq:OpR X (compareOp .Eq) rEq:=by
  intro pins s σ H x y v u Q I rx ry h
  obtain ⟨hs,q⟩:=h
  cases x with
  | non =>
    cases rx
    cases y with
    | non=>cases ry;exact PySem.EqNone.eq_none_none (fin_bl I q (by simp))
    | bl j=>cases ry;exact PySem.EqNone.eq_none_bool (fin_bl I q (by simp))
    | int j=>obtain ⟨t',rfl⟩:=ry;exact PySem.EqNone.eq_none_int (fin_bl I q (by simp))
    | str j=>obtain ⟨t',rfl⟩:=ry;exact PySem.EqNone.eq_none_str (fin_bl I q (by simp))
    | _=>exact absurd (show false=true from hs) Bool.false_ne_true
  | bl i =>
    cases rx
    cases y with
    | non=>cases ry;exact PySem.EqNone.eq_bool_none (fin_bl I q (by simp))
    | bl j=>cases ry;exact eq_bool (fin_bl I q dec_bl)
    | str j=>obtain ⟨t',rfl⟩:=ry;exact PySem.EqMixed.eq_bool_str (fin_bl I q (by simp))
    | _=>exact absurd (show false=true from hs) Bool.false_ne_true
  | int i =>
    obtain ⟨t,rfl⟩:=rx
    cases y with
    | non=>cases ry;exact PySem.EqNone.eq_int_none (fin_bl I q (by simp))
    | int j=>obtain ⟨t',rfl⟩:=ry;exact eq_int (fin_bl I q dec_int)
    | str j=>obtain ⟨t',rfl⟩:=ry;exact PySem.EqMixed.eq_int_str (fin_bl I q (by simp))
    | _=>exact absurd (show false=true from hs) Bool.false_ne_true
  | str i =>
    obtain ⟨t,rfl⟩:=rx
    cases y with
    | non=>cases ry;exact PySem.EqNone.eq_str_none (fin_bl I q (by simp))
    | bl j=>cases ry;exact PySem.EqMixed.eq_str_bool (fin_bl I q (by simp))
    | int j=>obtain ⟨t',rfl⟩:=ry;exact PySem.EqMixed.eq_str_int (fin_bl I q (by simp))
    | str j=>obtain ⟨t',rfl⟩:=ry;exact eq_str (fin_bl I q dec_str)
    | _=>exact absurd (show false=true from hs) Bool.false_ne_true
  | byt i =>
    obtain ⟨t,rfl⟩:=rx
    cases y with
    | byt j=>obtain ⟨t',rfl⟩:=ry;exact PySem.W.eq_bytes (fin_bl I q dec_byt)
    | _=>exact absurd (show false=true from hs) Bool.false_ne_true
  | _=>cases y<;>exact absurd (show false=true from hs) Bool.false_ne_true
theorem op_ne:OpR X (compareOp .NotEq) rNe:=by
  intro pins s σ H x y v u Q I rx ry h
  obtain ⟨hs,q⟩:=h
  cases x with
  | non =>
    cases rx
    cases y with
    | non=>cases ry;exact PySem.EqNone.ne_none_none (fin_bl I q (by simp))
    | bl j=>cases ry;exact PySem.EqNone.ne_none_bool (fin_bl I q (by simp))
    | int j=>obtain ⟨t',rfl⟩:=ry;exact PySem.EqNone.ne_none_int (fin_bl I q (by simp))
    | str j=>obtain ⟨t',rfl⟩:=ry;exact PySem.EqNone.ne_none_str (fin_bl I q (by simp))
    | _=>exact absurd (show false=true from hs) Bool.false_ne_true
  | bl i =>
    cases rx
    cases y with
    | non=>cases ry;exact PySem.EqNone.ne_bool_none (fin_bl I q (by simp))
    | bl j=>cases ry;exact ne_bool (fin_bl I q (congrArg not dec_bl))
    | str j=>obtain ⟨t',rfl⟩:=ry;exact PySem.EqMixed.ne_bool_str (fin_bl I q (by simp))
    | _=>exact absurd (show false=true from hs) Bool.false_ne_true
  | int i =>
    obtain ⟨t,rfl⟩:=rx
    cases y with
    | non=>cases ry;exact PySem.EqNone.ne_int_none (fin_bl I q (by simp))
    | int j=>obtain ⟨t',rfl⟩:=ry;exact ne_int (fin_bl I q (congrArg not dec_int))
    | str j=>obtain ⟨t',rfl⟩:=ry;exact PySem.EqMixed.ne_int_str (fin_bl I q (by simp))
    | _=>exact absurd (show false=true from hs) Bool.false_ne_true
  | str i =>
    obtain ⟨t,rfl⟩:=rx
    cases y with
    | non=>cases ry;exact PySem.EqNone.ne_str_none (fin_bl I q (by simp))
    | bl j=>cases ry;exact PySem.EqMixed.ne_str_bool (fin_bl I q (by simp))
    | int j=>obtain ⟨t',rfl⟩:=ry;exact PySem.EqMixed.ne_str_int (fin_bl I q (by simp))
    | str j=>obtain ⟨t',rfl⟩:=ry;exact ne_str (fin_bl I q (congrArg not dec_str))
    | _=>exact absurd (show false=true from hs) Bool.false_ne_true
  | byt i =>
    obtain ⟨t,rfl⟩:=rx
    cases y with
    | byt j=>obtain ⟨t',rfl⟩:=ry;exact PySem.W.ne_bytes (fin_bl I q (congrArg not dec_byt))
    | _=>exact absurd (show false=true from hs) Bool.false_ne_true
  | _=>cases y<;>exact absurd (show false=true from hs) Bool.false_ne_true
theorem op_lt:OpR X (compareOp .Lt) (rI0 fun i j=>.bl (decide (i < j))):=opB0 fun _ _ _ _ _ _ _ q=>lt_int q
theorem op_le:OpR X (compareOp .LtE) (rI0 fun i j=>.bl (decide (i≤j))):=opB0 fun _ _ _ _ _ _ _ q=>le_int q
theorem op_gt:OpR X (compareOp .Gt) (rI0 fun i j=>.bl (decide (j < i))):=opB0 fun _ _ _ _ _ _ _ q=>gt_int q
theorem op_in_str:OpR X (compareOp .In) (fun x y H Q=>∃ i j,x=.str i∧y=.str j∧Q (.bl (!(Builtin.Str.occurrences j i 0 j.length 1).isEmpty)) H):=by
  intro pins s σ H x y v u Q I rx ry h
  obtain ⟨i,j,rfl,rfl,q⟩:=h
  obtain ⟨t,rfl⟩:=rx
  obtain ⟨t',rfl⟩:=ry
  exact in_str (fin_bl I q rfl)
theorem op_isN:OpR X (compareOp .Is) (fun x y H Q=>y=.non∧Q (.bl (decide (x=.non))) H):=by
  intro pins s σ H x y v u Q I rx ry h
  obtain ⟨rfl,q⟩:=h
  cases ry
  refine is_none_gen (fin_bl I q ?_)
  cases x<;>first
    | (cases rx;rfl)
    | (obtain ⟨t,rfl⟩:=rx;rfl)
theorem op_notin_str:OpR X (compareOp .NotIn) (fun x y H Q=>∃ i j,x=.str i∧y=.str j∧Q (.bl (!(!(Builtin.Str.occurrences j i 0 j.length 1).isEmpty))) H):=by
  intro pins s σ H x y v u Q I rx ry h
  obtain ⟨i,j,rfl,rfl,q⟩:=h
  obtain ⟨t,rfl⟩:=rx
  obtain ⟨t',rfl⟩:=ry
  exact notIn_str (fin_bl I q rfl)
theorem nomark (b:Expr) {op:CmpOp}(h:op≠.In:=by decide) (h2:op≠.NotIn:=by decide):behindInMarks op b=false:=by
  have e1:(op == CmpOp.In)=false:=by cases op<;>first | rfl | exact absurd rfl h
  have e2:(op == CmpOp.NotIn)=false:=by cases op<;>first | rfl | exact absurd rfl h2
  cases b<;>simp [behindInMarks,e1,e2]
theorem pe_cmpR {op:CmpOp}{r:R2}(ho:OpR X (compareOp op) r) (ha:PE X a ta) (hb:PE X b tb) (hm:behindInMarks op b=false):PE X (.Compare a [op] [b] pos) (tOp r ta tb):=by
  intro pins s σ H Q I h
  exact wpAny_Compare1 (binT ha hb I h fun v u s2 x y H2 I2 rx ry q=>ho pins s2 σ H2 x y v u Q I2 rx ry q) hm
def tTest (t:TE):TT:=fun σ H Q=>t σ H fun x H'=>∃ k,x=.bl k∧Q k H'
theorem pt_cmpR {op:CmpOp}{r:R2}(ho:OpR X (compareOp op) r) (ha:PE X a ta) (hb:PE X b tb) (hm:behindInMarks op b=false):PT X (.Compare a [op] [b] pos) (tTest (tOp r ta tb)):=by
  intro pins s σ H Q I h
  refine wpAny_isTrue_Compare1 (thn (ha pins s σ H _ I h) fun v s1 ⟨x,H1,I1,r1,q1⟩=>thn (hb pins s1 σ H1 _ I1 q1) fun u s2 ⟨y,H2,I2,r2,q2⟩ =>
    thn (ho pins s2 σ H2 x y v u _ I2 r1 r2 q2) fun c s3 ⟨z,H3,I3,r3,k,e,q3⟩=>?_) hm
  subst e
  cases r3
  exact wpAny_truthy_bool ⟨H3,I3,q3⟩
def tChain (r r':R2) (ta tb tc:TE):TE:=fun σ H Q=>ta σ H fun x H1=>tb σ H1 fun y H2=>r x y H2 fun z H3=>∃ k,z=.bl k ∧
  (if k=true then tc σ H3 fun w' H4=>r' y w' H4 Q else Q (.bl false) H3)
theorem pt_chain {op op':CmpOp}{r r':R2}(ho:OpR X (compareOp op) r) (ho':OpR X (compareOp op') r') (ha:PE X a ta) (hb:PE X b tb) (hc:PE X c tc)
    (hm:lastMarks [op,op'] [b,c]=false:=by with_unfolding_all rfl):PT X (.Compare a [op,op'] [b,c] pos) (tTest (tChain r r' ta tb tc)):=by
  intro pins s σ H Q I h
  refine isTrue_chain (thn (ha pins s σ H _ I h) fun v s1 ⟨x,H1,I1,r1,q1⟩=>test_link (thn (hb pins s1 σ H1 _ I1 q1) fun u s2 ⟨y,H2,I2,r2,q2⟩ =>
    thn (ho pins s2 σ H2 x y v u _ I2 r1 r2 q2) fun d s3 ⟨z,H3,I3,r3,k,e,q3⟩=>?_)) hm
  subst e
  cases r3
  refine wpAny_truthy_bool ?_
  cases k with
  | false =>
    obtain ⟨k',e',q'⟩:=q3
    cases e'
    exact ite_ff ⟨H3,I3,q'⟩
  | true =>
    refine ite_tt (test_last (thn (hc pins s3 σ H3 _ I3 q3) fun w' s4 ⟨z',H4,I4,r4,q4⟩=>thn (ho' pins s4 σ H4 y z' u w' _ I4 r2 r4 q4) fun d' s5 ⟨z2,H5,I5,r5,k2,e2,q5⟩=>?_))
    subst e2
    cases r5
    exact wpAny_truthy_bool ⟨H5,I5,q5⟩
theorem line63:(sizeLine:Nat) < 2 ^ 63:=by rw [sizeLine_eq];decide
theorem op_add_str:OpR X (binaryOp .Add) (fun x y H Q=>∃ i j,x=.str i∧y=.str j∧i.length + j.length≤sizeLine∧Q (.str (i ++ j)) H):=by
  intro pins s σ H x y v u Q I rx ry h
  obtain ⟨i,j,rfl,rfl,hz,q⟩:=h
  obtain ⟨t,rfl⟩:=rx
  obtain ⟨t',rfl⟩:=ry
  exact add_str (fun t' tk=>⟨.str (i ++ j),H,I.tok _,⟨_,rfl⟩,q⟩) hz
theorem vals1 {x:V}{us:List Value}(r:Vals [x] us):∃ u,us=[u]∧RelV x u:=by
  cases r with
  | cons r1 r2=>cases r2;exact ⟨_,rfl,r1⟩
theorem vals2 {x y:V}{us:List Value}(r:Vals [x,y] us):∃ u w',us=[u,w']∧RelV x u∧RelV y w':=by
  cases r with
  | cons r1 r2 =>
    cases r2 with
    | cons r3 r4=>cases r4;exact ⟨_,_,rfl,r1,r3⟩
theorem call_min2 (hc:X.calm=true):CallR X (.builtin "min") (fun xs H Q=>∃ i j,xs=[.int i,.int j]∧Q (.int (if j < i then j else i)) H):=by
  intro pins s σ H xs us Q I r h
  obtain ⟨i,j,rfl,q⟩:=h
  obtain ⟨u,w',rfl,⟨t,rfl⟩,⟨t',rfl⟩⟩:=vals2 r
  refine min_two_ints (I.ok.hd hc) fun h' tk k=>⟨_,H,I.kept k,?_,q⟩
  by_cases hj:j < i
  · rw [if_pos hj,if_pos hj];exact ⟨_,rfl⟩
  · rw [if_neg hj,if_neg hj];exact ⟨_,rfl⟩
theorem call_str_int:CallR X (.type "str") (fun xs H Q=>∃ i,xs=[.int i]∧i.natAbs.log2 < 1920∧Q (.str (toString i)) H):=by
  intro pins s σ H xs us Q I r h
  obtain ⟨i,rfl,hz,q⟩:=h
  obtain ⟨u,rfl,t,rfl⟩:=vals1 r
  exact PySem.P.str_of_int hz ⟨.str _,H,I.tok _,⟨_,rfl⟩,q⟩
end
end L2
namespace L2
open PySem PySem.Spec PyProof.Rows
structure ObjM (h:Heap) (x dx C:Addr) (mA:Str→Option Value):Prop where
  obj:h.get? x=some (PySem.W.instObj C dx)
  ns:h.Ns1 dx mA
  ne:dx≠x
theorem lookIn_ns {h:Heap}{dx:Addr}{mA:Str→Option Value}(n:h.Ns1 dx mA):∃ od,h.get? dx=some od∧∀ name,PySem.W.lookIn name od=some (mA name):=by
  obtain ⟨o,es,ep,ho,hd,hk,_,hm⟩:=n
  refine ⟨o,ho,fun name=>?_⟩
  have e:=hm name
  unfold nsFind findBy at e
  rw [← Array.find?_toList] at e
  unfold PySem.W.lookIn
  rw [hd]
  dsimp only
  split
  · rename_i y q
    rw [q] at e
    exact congrArg some e
  · rename_i q
    rw [q] at e
    have a:es.toList.any (·.refKey)=false:=by
      rw [List.any_eq_false]
      intro y hy
      obtain ⟨z,t,hkey⟩:=hk y (Array.mem_toList_iff.mp hy)
      simp [DictEntry.refKey,hkey]
    have a':¬ es.toList.any (·.refKey)=true:=by rw [a];exact Bool.false_ne_true
    rw [if_neg a']
    exact congrArg some e
theorem ObjM.look {h:Heap}{x dx C:Addr}{mA:Str→Option Value}(I:ObjM h x dx C mA):∃ od,PySem.W.InstAt h x (PySem.W.instObj C dx) C (some od)∧∀ name,PySem.W.lookIn name od=some (mA name) :=
  let ⟨od,ho,hl⟩:=lookIn_ns I.ns
  ⟨od,⟨I.obj,rfl,rfl,ho⟩,hl⟩
section
variable {prog:Program}{w:World}{A:Around}{E:Value→Shared→Prop}{s:Shared}{K:PySem.W.Frag}{x dx C f:Addr}{mA:Str→Option Value}{name:Str}{v:Value}
theorem get_map {expr:Bool}{Q:Value→Shared→Prop}(X:K.In s.heap) (I:ObjM s.heap x dx C mA) (hg:PySem.W.plainGet K C name=true) (hh:PySem.W.hasDictIn K C=true)
    (ha:PySem.W.findIn K (.ref C) name=some none) (hv:mA name=some v) (hv':PySem.W.handedIn v=true) (h:Q v { s with toks:=s.toks + 1 }) :
    wpAny (model prog w) A (getAttr (.ref x) name expr) Q E s:=by
  obtain ⟨od,J,hl⟩:=I.look
  exact PySem.W.get_value X J (PySem.W.plainGet_of hg).1 (PySem.W.findObj_own hh ha rfl (by rw [hl,hv])) hv' h
theorem get_meth {pl:Sem Bool}{Q:Value×List Value→Shared→Prop}(X:K.In s.heap) (I:ObjM s.heap x dx C mA) (hg:PySem.W.plainGet K C name=true)
    (hf:PySem.W.findIn K (.ref C) name=some (some (.ref f))) (ht:PySem.W.isFn K (.ref f)=true) (hv:mA name=none) (h:Q (.ref f,[.ref x]) s) :
    wpAny (model prog w) A (getMethod (.ref x) name pl) Q E s:=by
  obtain ⟨od,J,hl⟩:=I.look
  exact PySem.W.method_fn X J (PySem.W.plainGet_of hg).1 (PySem.W.plainGet_of hg).2 hf (beq_iff_eq.mp ht) (by show (PySem.W.lookIn name od).map (·.isSome)=some false;rw [hl,hv];rfl) h
theorem set_map {ns:List Str}{Q:Unit→Shared→Prop}(X:K.In s.heap) (I:ObjM s.heap x dx C mA)
    (hs:PySem.W.findIn K (.ref C) "__setattr__"=some (some (.builtin "object.__setattr__"))) (hp:PySem.W.plainOver K C=true) (ht:PySem.W.takerIn K C name=some none) (hh:PySem.W.hasDictIn K C=true)
    (hw:PySem.Within mA ns) (hsz:ns.length≤sizeLine)
    (h:∀ h',ObjM h' x dx C (fun y=>if y=name then some v else mA y)→Heap.SameBut dx s.heap h'→Q () { s with heap:=h',toks:=s.toks + 2 }) :
    wpAny (model prog w) A (setAttr (.ref x) name v) Q E s:=by
  obtain ⟨od,J,hl⟩:=I.look
  refine PySem.W.set_plain X J hs (PySem.W.osa_open (s:={ s with toks:=s.toks + 1 }) (r:=none) X J hp ht fun b=>?_)
  obtain ⟨cd,hc,hd'⟩:=PySem.W.any_some hh
  have hx:s.heap.get? x=some ⟨.ref C,some dx,.plain,#[]⟩:=I.obj
  refine wpAny_bind (wpAny_pure (wpAny_bind (wpAny_bind (wpAny_loadPart hx (wpAny_bind (PySem.W.Looks.here (s:={ s with toks:=s.toks + 1 }) (PySem.W.looks_clsIn X hc) ?_))))))
  rw [hd']
  refine wpAny_pure (a:=some dx) (wpAny_bind (wpAny_pure (wpAny_bind ?_)))
  refine wpAny_nsSet1 (s:={ s with toks:=s.toks + 1 }) I.ns fun h' hn2 hs2=>?_
  obtain ⟨oD,esD,epD,hoD,hdD,hcD⟩:=hn2.count (PySem.Within.cons name v hw)
  refine wpAny_bind (wpAny_lookBehind hoD (by rw [hdD];exact pastItsLine_dict (Nat.le_trans hcD (by rw [List.length_cons];omega))) ?_)
  exact wpAny_pure (h _ ⟨(hs2.2 _ (Ne.symm I.ne)).trans I.obj,hn2,I.ne⟩ hs2)
theorem make_map {R:Result→Shared→Prop}{vs:List Value}{kw:List (Str×Value)}(X:K.In s.heap) (hm:PySem.W.makesIn K C=true)
    (hi:PySem.W.findIn K (.ref C) "__init__"=some (some (.ref f))) (hf:PySem.W.typeIn K (.ref f)=some (.type "function"))
    (h:codeAny (model prog w) (A.under (.builtin "type.__call__" ⟨.ref C :: vs,kw⟩)) (.call (.ref f) ⟨.ref (s.heap.objs.size + 1) :: vs,kw⟩) (PySem.W.InitBack (s.heap.objs.size + 1) R)
      { s with heap:=(s.heap.push PySem.W.emptyDict).push (PySem.W.instObj C s.heap.objs.size) }) :
    codeAny (model prog w) A (.call (.ref C) ⟨vs,kw⟩) R s:=by
  obtain ⟨hh,g,d,t,os⟩:=s
  exact PySem.W.make_core (PySem.W.makes_of X hm) (PySem.W.looks_findIn X hi) (fun self=>PySem.W.bind_fn X self hf) (.inl rfl) h
end
def putF (f:Str) (v:V):List (Str×V)→List (Str×V)
  | []=>[(f,v)]
  | (g,x) :: r=>if g=f then (g,v) :: r else (g,x) :: putF f v r
theorem lookup_putF (f g:Str) (v:V):∀ fs:List (Str×V),(putF f v fs).lookup g=if g=f then some v else fs.lookup g
  | []=>by
    show List.lookup g [(f,v)]=_
    by_cases h:g=f
    · have hb:(g == f)=true:=beq_iff_eq.mpr h
      simp only [List.lookup,hb,if_pos h]
    · have hb:(g == f)=false:=beq_eq_false_iff_ne.mpr h
      simp only [List.lookup,hb,if_neg h]
  | (k,x) :: r=>by
    have ih:=lookup_putF f g v r
    rw [show putF f v ((k,x) :: r)=(if k=f then (k,v) :: r else (k,x) :: putF f v r) from rfl]
    by_cases hk:k=f
    · rw [if_pos hk]
      by_cases h:g=k
      · have hb:(g == k)=true:=beq_iff_eq.mpr h
        simp only [List.lookup,hb,if_pos (h.trans hk)]
      · have hb:(g == k)=false:=beq_eq_false_iff_ne.mpr h
        simp only [List.lookup,hb,if_neg (fun e:g=f=>h (e.trans hk.symm))]
    · rw [if_neg hk]
      by_cases h:g=k
      · have hb:(g == k)=true:=beq_iff_eq.mpr h
        simp only [List.lookup,hb,if_neg (fun e:g=f=>hk (h.symm.trans e))]
      · have hb:(g == k)=false:=beq_eq_false_iff_ne.mpr h
        simp only [List.lookup,hb]
        exact ih
theorem keys_putF (f:Str) (v:V):∀ fs:List (Str×V),f∈(putF f v fs).map (·.1)∧∀ g,g∈fs.map (·.1)→g∈(putF f v fs).map (·.1)
  | []=>⟨by simp [putF],fun g h=>by simp at h⟩
  | (k,x) :: r=>by
    obtain ⟨i1,i2⟩:=keys_putF f v r
    rw [show putF f v ((k,x) :: r)=(if k=f then (k,v) :: r else (k,x) :: putF f v r) from rfl]
    by_cases hk:k=f
    · rw [if_pos hk]
      subst hk
      exact ⟨by simp,fun g h=>by simpa using h⟩
    · rw [if_neg hk]
      refine ⟨?_,fun g h=>?_⟩
      · rw [List.map_cons]
        exact List.mem_cons_of_mem _ i1
      · rw [List.map_cons] at h ⊢
        rcases List.mem_cons.mp h with e | e
        · exact List.mem_cons.mpr (.inl e)
        · exact List.mem_cons_of_mem _ (i2 g e)
theorem length_putF (f:Str) (v:V):∀ fs:List (Str×V),(putF f v fs).length≤fs.length + 1
  | []=>by simp [putF]
  | (k,x) :: r=>by
    have ih:=length_putF f v r
    rw [show putF f v ((k,x) :: r)=(if k=f then (k,v) :: r else (k,x) :: putF f v r) from rfl]
    by_cases hk:k=f
    · rw [if_pos hk,List.length_cons,List.length_cons];omega
    · rw [if_neg hk,List.length_cons,List.length_cons];omega
theorem RelO.some_of {v:V}{o:Option Value}(r:RelO (some v) o):∃ u,o=some u∧RelV v u:=by
  cases o with
  | none=>exact (show False from r).elim
  | some u=>exact ⟨u,rfl,r⟩
theorem RelO.none_of {o:Option Value}(r:RelO none o):o=none:=by
  cases o with
  | none=>rfl
  | some u=>exact (show False from r).elim
theorem handed_of {v:V}{u:Value}(r:RelV v u):PySem.W.handedIn u=true:=by
  cases v with
  | non=>cases (show u=Value.none from r);rfl
  | bl b=>cases (show u=Value.bool b from r);rfl
  | int i=>obtain ⟨t,e⟩:=(show ∃ t,u=Value.int i t from r);cases e;rfl
  | str x=>obtain ⟨t,e⟩:=(show ∃ t,u=Value.str x t from r);cases e;rfl
  | byt b=>obtain ⟨t,e⟩:=(show ∃ t,u=Value.bytes b t from r);cases e;rfl
  | flt b=>obtain ⟨t,e⟩:=(show ∃ t,u=Value.float b t from r);cases e;rfl
  | ref a=>cases (show u=Value.ref a from r);rfl
  | ty n=>cases (show u=Value.type n from r);rfl
section
variable {P:Program}{w:World}{H H':Hp}{h h':Heap}{a C dx:Addr}{fs fs':List (Str×V)}
theorem ins_get (hok:HOk P w H h) (e:H a=some (.ins C dx fs)):∃ mA,ObjM h a dx C mA∧(∀ f,RelO (fs.lookup f) (mA f))∧PySem.Within mA (fs.map (·.1))∧fs.length≤1000∧H dx=some (.own a):=by
  obtain ⟨d,z,ne,ob,mA,n,r,q⟩:=(show ObjOk P w H h a (.ins C dx fs) from hok a _ e)
  exact ⟨mA,⟨ob,n,ne⟩,r,q,z,d⟩
end
structure Cls (K:PySem.W.Frag) (C:Addr):Prop where
  pg:PySem.W.plainGet K C Str.empty=true
  hd:PySem.W.hasDictIn K C=true
  po:PySem.W.plainOver K C=true
  sa:PySem.W.findIn K (.ref C) "__setattr__"=some (some (.builtin "object.__setattr__"))
theorem Cls.get {K:PySem.W.Frag}{C:Addr}(c:Cls K C) (f:Str):PySem.W.plainGet K C f=true:=c.pg
def NoAttr (K:PySem.W.Frag) (C:Addr) (f:Str):Prop:=PySem.W.findIn K (.ref C) f=some none
theorem NoAttr.taker {K:PySem.W.Frag}{C:Addr}{f:Str}(n:NoAttr K C f):PySem.W.takerIn K C f=some none:=by
  unfold PySem.W.takerIn
  rw [show PySem.W.findIn K (.ref C) f=some none from n]
  rfl
structure Meth (K:PySem.W.Frag) (C:Addr) (m:Str) (f:Addr):Prop where
  at_:PySem.W.findIn K (.ref C) m=some (some (.ref f))
  fn:PySem.W.isFn K (.ref f)=true
  kp:PySem.W.keepIn K (.ref f)=true
section
variable {X:Cx}{pins:List (Addr×Obj)}{σ:St}{H:Hp}{s:Shared}{a C dx:Addr}{fs:List (Str×V)}{f:Str}{v:V}{A:Around}{E:Value→Shared→Prop}
theorem getattr_ok {b:Bool}{Q:Value→Shared→Prop}(I:Inv X pins σ H s) (e:H a=some (.ins C dx fs)) (c:Cls X.K C) (n:NoAttr X.K C f) (l:fs.lookup f=some v)
    (h:∀ u s',Inv X pins σ H s'→RelV v u→Q u s'):wpAny (model X.prog X.w) A (getAttr (.ref a) f b) Q E s:=by
  obtain ⟨mA,O,r,_,_,_⟩:=ins_get I.hok e
  obtain ⟨u,hu,ru⟩:=RelO.some_of (v:=v) (o:=mA f) (by rw [← l];exact r f)
  exact get_map I.kIn O (c.get f) c.hd n hu (handed_of ru) (h u _ (I.tok _) ru)
theorem getmeth_ok {m:Str}{g:Addr}{pl:Sem Bool}{Q:Value×List Value→Shared→Prop}(I:Inv X pins σ H s) (e:H a=some (.ins C dx fs)) (c:Cls X.K C) (k:Meth X.K C m g) (l:fs.lookup m=none)
    (h:Q (.ref g,[.ref a]) s):wpAny (model X.prog X.w) A (getMethod (.ref a) m pl) Q E s:=by
  obtain ⟨mA,O,r,_,_,_⟩:=ins_get I.hok e
  have hn:mA m=none:=RelO.none_of (by rw [← l];exact r m)
  exact get_meth I.kIn O (c.get m) k.at_ k.fn hn h
theorem setattr_ok {y:V}{u:Value}{Q:Unit→Shared→Prop}(I:Inv X pins σ H s) (e:H a=some (.ins C dx fs)) (c:Cls X.K C) (n:NoAttr X.K C f) (hl:fs.length < 1000) (ry:RelV y u)
    (h:∀ s',Inv X pins σ (upd H a (.ins C dx (putF f y fs))) s'→Q () s'):wpAny (model X.prog X.w) A (setAttr (.ref a) f u) Q E s:=by
  obtain ⟨mA,O,r,wi,_,ho⟩:=ins_get I.hok e
  have hz:(fs.map (·.1)).length≤sizeLine:=by rw [List.length_map,sizeLine_eq];omega
  refine set_map I.kIn O c.sa c.po n.taker c.hd wi hz fun h' O' sb=>h _ ?_
  have hd:∃ o,h'.get? dx=some o:=let ⟨o,_,_,e',_⟩:=O'.ns;⟨o,e'⟩
  refine I.write (x:=a) (e:=dx) (by rw [e];exact True.intro) (.inr ho) (fun b q hb z=>(sb.2 b hb).trans z) hd ?_
  refine ⟨by rw [upd_ne O.ne];exact ho,?_,O.ne,O'.obj,_,O'.ns,fun g=>?_,fun g hg=>?_⟩
  · have:=length_putF f y fs;omega
  · show RelO ((putF f y fs).lookup g) (if g=f then some u else mA g)
    rw [lookup_putF]
    by_cases q:g=f
    · rw [if_pos q,if_pos q];exact ry
    · rw [if_neg q,if_neg q];exact r g
  · by_cases q:g=f
    · rw [q];exact (keys_putF f y fs).1
    · refine (keys_putF f y fs).2 g (wi g fun z=>hg ?_)
      show (if g=f then some u else mA g)=none
      rw [if_neg q];exact z
theorem Inv.made (I:Inv X pins σ H s):Inv X pins σ (upd (upd H s.heap.objs.size (.own (s.heap.objs.size + 1))) (s.heap.objs.size + 1) (.ins C s.heap.objs.size []))
    { s with heap:=(s.heap.push PySem.W.emptyDict).push (PySem.W.instObj C s.heap.objs.size) }:=by
  have e1:(s.heap.push PySem.W.emptyDict).get? s.heap.objs.size=some PySem.W.emptyDict:=Heap.get?_push_size s.heap rfl
  have e2:((s.heap.push PySem.W.emptyDict).push (PySem.W.instObj C s.heap.objs.size)).get? (s.heap.objs.size + 1)=some (PySem.W.instObj C s.heap.objs.size):=by
    have:=Heap.get?_push_size (s.heap.push PySem.W.emptyDict) (o:=PySem.W.instObj C s.heap.objs.size) rfl
    rwa [Heap.size_push] at this
  have e3:(s.heap.push PySem.W.emptyDict).Ns s.heap.objs.size (fun _=>none):=⟨PySem.W.emptyDict,#[],_,e1,rfl,(fun e he=>absurd he (by simp)),fun _=>rfl⟩
  have I1:=I.laid (a:=s.heap.objs.size) (o:=.own (s.heap.objs.size + 1)) (h':=s.heap.push PySem.W.emptyDict) (t':=s.toks) (fun b u q=>Heap.get?_push_of_some _ q) (Nat.le_refl _) ⟨_,e1⟩
  refine I1.laid (a:=s.heap.objs.size + 1) (o:=.ins C s.heap.objs.size []) (t':=s.toks) (fun b u q=>Heap.get?_push_of_some _ q) (Nat.le_of_eq (Heap.size_push _ _)) ?_
  have ne:s.heap.objs.size≠s.heap.objs.size + 1:=Nat.ne_of_lt (Nat.lt_succ_self _)
  refine ⟨by rw [upd_ne ne,upd_same],Nat.zero_le _,ne,e2,fun _=>none,(Heap.Ns1.of_empty e3).at fun o q=>Heap.get?_push_of_some _ q,fun _=>True.intro,fun y hy=>absurd rfl hy⟩
theorem attr_of {prog:Program}{w:World}{env:Env}{e:Expr}{f:Str}{pos:Pos}{s:Shared}{Q:Value→Shared→Prop}(hb:attributeBase e f env (eval e env)=eval e env)
    (h:wpAny (model prog w) A (eval e env) (fun o s₁=>wpAny (model prog w) A (getAttr o f true) Q E s₁) E s):wpAny (model prog w) A (eval (.Attribute e f pos) env) Q E s :=
  Attribute_any_ h (by rw [arm_eval_Attribute,hb])
end
def tFld (K:PySem.W.Frag) (ta:TE) (f:Str):TE:=fun σ H Q=>ta σ H fun x H1=>∃ a C dx fs v,x=.ref a∧H1 a=some (.ins C dx fs)∧Cls K C∧NoAttr K C f∧fs.lookup f=some v∧Q v H1
def sFld (K:PySem.W.Frag) (ta tv:TE) (f:Str):TS:=fun D σ H=>tv σ H fun y H1=>ta σ H1 fun x H2=>∃ a C dx fs,x=.ref a∧H2 a=some (.ins C dx fs)∧Cls K C∧NoAttr K C f∧fs.length < 1000 ∧
  D.nx σ (upd H2 a (.ins C dx (putF f y fs)))
section
variable {X:Cx}{o e value:Expr}{f:Str}{pos pos' tpos:Pos}{ta tv:TE}
theorem pe_fld (he:PE X e ta) (hb:attributeBase e f X.env (eval e X.env)=eval e X.env):PE X (.Attribute e f pos) (tFld X.K ta f):=by
  intro pins s σ H Q I h
  refine attr_of hb (thn (he pins s σ H _ I h) fun u s1 ⟨x,H1,I1,rx,a,C,dx,fs,v,ex,ea,c,n,l,q⟩=>?_)
  subst ex
  obtain rfl:u=Value.ref a:=rx
  exact getattr_ok I1 ea c n l fun u' s2 I2 ru=>⟨v,H1,I2,ru,q⟩
theorem ps_fld (ha:PE X o ta) (hv:PE X value tv) (hs:swapsWith value (some (.Attribute o f pos')) pos.line X.env=pure false):PS X (.Assign [.Attribute o f pos'] value pos) (sFld X.K ta tv f):=by
  intro pins s σ H D I h
  refine plainObj_wpAny_Assign_Attribute (thn (hv pins s σ H _ I h) fun u s1 ⟨y,H1,I1,ry,q⟩=>thn (ha pins s1 σ H1 _ I1 q) fun ov s2 ⟨x,H2,I2,rx,a,C,dx,fs,ex,ea,c,n,l,q2⟩=>?_) hs
  subst ex
  obtain rfl:ov=Value.ref a:=rx
  exact setattr_ok I2 ea c n l ry fun s3 I3=>⟨σ,_,I3,q2⟩
end
section
variable {X:Cx}{pins:List (Addr×Obj)}{σ:St}{H:Hp}{s:Shared}{A:Around}{E:Value→Shared→Prop}{Q:Value→Shared→Prop}{c:Value}{b:Bool}
inductive TyOf (K:PySem.W.Frag) (H:Hp):V→Value→Prop where
  | non:TyOf K H .non (.type "NoneType")
  | bl (x:Bool):TyOf K H (.bl x) (.type "bool")
  | int (i:Int):TyOf K H (.int i) (.type "int")
  | str (x:Str):TyOf K H (.str x) (.type "str")
  | flt (x:UInt64):TyOf K H (.flt x) (.type "float")
  | lst {a:Addr} {xs:List V} (e:H a=some (.lst xs)):TyOf K H (.ref a) (.type "list")
  | frz {a:Addr} {o:Obj} {xs:List V} (e:H a=some (.frz o (.lst xs))):TyOf K H (.ref a) (.type "list")
  | tup {a:Addr} {xs:List V} (e:H a=some (.tup xs)):TyOf K H (.ref a) (.type "tuple")
  | dK {a:Addr} {kvs:List (Key×V)} (e:H a=some (.dK kvs)):TyOf K H (.ref a) (.type "dict")
  | dT {a:Addr} {kvs:List (List Key×V)} (e:H a=some (.dT kvs)):TyOf K H (.ref a) (.type "dict")
  | ins {a C dx:Addr} {fs:List (Str×V)} (e:H a=some (.ins C dx fs)) (cl:Cls K C) (ha:PySem.W.findIn K (.ref C) "__class__"=some (some (.builtin "object.__class__")))
      (hn:PySem.W.specialIn K (.builtin "object.__class__") "__get__"=some (some (.builtin "getset_descriptor.__get__"))) (htk:PySem.W.takesIn K (.builtin "object.__class__")=some true)
      (hm:PySem.W.mroIn K C (.type "object")=some true):TyOf K H (.ref a) (.ref C)
theorem isinst_ok {x:V} {u t:Value} (I:Inv X pins σ H s) (rx:RelV x u) (ty:TyOf X.K H x t) (e:PySem.W.kitOne X.K t c=some b) (h:∀ tk,Q (.bool b) { s with toks:=tk }) :
    wpAny (model X.prog X.w) A (call (.builtin "isinstance") [u,c]) Q E s:=by
  cases ty with
  | non=>cases (show u=Value.none from rx);exact PySem.W.kia_one PySem.W.kitx_none I.kIn True.intro e (fun z=>nomatch z) h
  | bl y=>cases (show u=Value.bool y from rx);exact PySem.W.kia_one PySem.W.kitx_bool I.kIn True.intro e (fun z=>nomatch z) h
  | int i=>obtain ⟨t,q⟩:=(show ∃ t,u=Value.int i t from rx);cases q;exact PySem.W.kia_one PySem.W.kitx_int I.kIn True.intro e (fun z=>nomatch z) h
  | str y=>obtain ⟨t,q⟩:=(show ∃ t,u=Value.str y t from rx);cases q;exact PySem.W.kia_one PySem.W.kitx_str I.kIn True.intro e (fun z=>nomatch z) h
  | flt y=>obtain ⟨t,q⟩:=(show ∃ t,u=Value.float y t from rx);cases q;exact PySem.W.kia_one PySem.W.kitx_float I.kIn True.intro e (fun z=>nomatch z) h
  | @lst a xs ea =>
    cases (show u=Value.ref a from rx)
    obtain ⟨_,_,n,_,h1⟩:=(show ObjOk X.prog X.w H s.heap a (.lst xs) from I.hok a _ ea)
    exact PySem.W.kia_one PySem.W.kitx_list I.kIn ⟨_,h1,rfl⟩ e (fun z=>nomatch z) h
  | @frz a ob xs ea =>
    cases (show u=Value.ref a from rx)
    obtain ⟨_,_,_,n,_,h1⟩:=(show ObjOk X.prog X.w H s.heap a (.frz ob (.lst xs)) from I.hok a _ ea)
    exact PySem.W.kia_one PySem.W.kitx_list I.kIn ⟨_,h1,rfl⟩ e (fun z=>nomatch z) h
  | @tup a xs ea =>
    cases (show u=Value.ref a from rx)
    obtain ⟨_,_,_,p⟩:=(show ObjOk X.prog X.w H s.heap a (.tup xs) from I.hok a _ ea)
    obtain ⟨o,h1,h2,_⟩:=p
    exact PySem.W.kia_one PySem.W.kitx_tuple I.kIn ⟨o,h1,h2⟩ e (fun z=>nomatch z) h
  | @dK a kvs ea =>
    cases (show u=Value.ref a from rx)
    obtain ⟨_,_,vs,_,p⟩:=(show ObjOk X.prog X.w H s.heap a (.dK kvs) from I.hok a _ ea)
    obtain ⟨o,es,ep,h1,h2,_⟩:=p
    exact PySem.W.kia_one PySem.W.kitx_dict I.kIn ⟨o,h1,h2.1⟩ e (fun z=>nomatch z) h
  | @dT a kvs ea =>
    cases (show u=Value.ref a from rx)
    obtain ⟨_,_,xs,_,o,es,ep,h1,h2,_⟩:=(show ObjOk X.prog X.w H s.heap a (.dT kvs) from I.hok a _ ea)
    exact PySem.W.kia_one PySem.W.kitx_dict I.kIn ⟨o,h1,h2.1⟩ e (fun z=>nomatch z) h
  | @ins a C dx fs ea cl ha hn htk hm =>
    cases (show u=Value.ref a from rx)
    obtain ⟨mA,O,_⟩:=ins_get I.hok ea
    obtain ⟨od,J,_⟩:=O.look
    exact PySem.W.kia_one (PySem.W.kitx_own (cl.get _) cl.hd ha hn htk hm) I.kIn J e (fun z=>nomatch z) h
end
end L2
namespace L2
open PySem PySem.Spec PyProof.Rows
structure Room (k:Nat) (A:Around):Prop where
  hd:A.handled=none
  dp:A.depth + 3 * k + 5 < recursionLimit
  un:A.units + 16 * k + 200 < cLine
theorem Room.mono {j k:Nat}{A:Around}(r:Room k A) (h:j≤k):Room j A:=⟨r.hd,by have:=r.dp;omega,by have:=r.un;omega⟩
theorem Room.deeper {k:Nat}{A:Around}(r:Room (k + 1) A) (env:Env):Room k (A.deeper env) :=
  ⟨r.hd,by have:=r.dp;show A.depth + 1 + 3 * k + 5 < _;omega,by have:=r.un;show A.units + 3 + 16 * k + 200 < _;omega⟩
theorem make_depth {A:Around}{C:Addr}{us:List Value}{kw:List (Str×Value)}:(A.under (.builtin "type.__call__" ⟨.ref C :: us,kw⟩)).depth=A.depth + 1:=by
  first | rfl | simp [Around.under,Code.weight,Code.isCreation,Code.isGuard,Code.isCaller,Code.frames,Code.isFrame,guardIds]
theorem make_units {A:Around}{C:Addr}{us:List Value}{kw:List (Str×Value)}:(A.under (.builtin "type.__call__" ⟨.ref C :: us,kw⟩)).units=A.units + 1:=by
  first | rfl | simp [Around.under,Code.cUnits,Code.frames,Code.isFrame]
theorem Room.make {k:Nat}{A:Around}(r:Room (k + 1) A) (C:Addr) (us:List Value) (kw:List (Str×Value)):Room k (A.under (.builtin "type.__call__" ⟨.ref C :: us,kw⟩)) :=
  ⟨r.hd,by have:=r.dp;rw [make_depth];omega,by have:=r.un;rw [make_units];omega⟩
theorem Room.depth {k:Nat}{A:Around}(r:Room k A):A.depth < recursionLimit:=by have:=r.dp;omega
theorem Room.units {k:Nat}{A:Around}(r:Room k A):A.units + 64 < cLine:=by have:=r.un;omega
def tNil:TA:=fun _ H Q=>Q [] H
def tCons (ta:TE) (tr:TA):TA:=fun σ H Q=>ta σ H fun x H1=>tr σ H1 fun xs H2=>Q (x :: xs) H2
section
variable {X:Cx}{e:Expr}{es:List Expr}{te:TE}{t:TA}{pos:Pos}
theorem pa_nil:PA X [] tNil:=fun _ _ _ _ H Q I h=>Calls.spliced_nil ⟨[],H,I,.nil,h⟩
theorem pa_cons (ha:PE X e te) (hr:PA X es t) (hs:starEach (e :: es) X.env=(false,eval e X.env) :: starEach es X.env:=by rfl):PA X (e :: es) (tCons te t):=by
  intro pos pins s σ H Q I h
  rw [hs]
  show wpAny _ _ (spliced ((false,eval e X.env) :: backTo pos (starEach es X.env))) _ _ s
  refine Calls.spliced_cons (thn (ha pins s σ H _ I h) fun u s1 ⟨x,H1,I1,r1,q1⟩=>?_)
  exact thn (hr pos pins s1 σ H1 _ I1 q1) fun us s2 ⟨xs,H2,I2,r2,q2⟩=>⟨x :: xs,H2,I2,.cons r1 r2,q2⟩
def tTup (t:TA):TE:=fun σ H Q=>t σ H fun xs H1=>xs.length≤sizeLine∧∀ p,H1 p=none→Q (.ref p) (upd H1 p (.tup xs))
def tLst (t:TA):TE:=fun σ H Q=>t σ H fun xs H1=>xs.length≤sizeLine∧∀ p,H1 p=none→Q (.ref p) (upd H1 p (.lst xs))
theorem pe_tup {x1}(h:PA X es t):PE X (.Tuple es x1 pos) (tTup t):=by
  intro pins s σ H Q I hq
  refine wpAny_Tuple_spliced (thn (h pos pins s σ H _ I hq) fun us s1 ⟨xs,H1,I1,r,z,q⟩=>⟨by rw [← r.length];exact z,?_⟩)
  have hf:H1 s1.heap.objs.size=none:=I1.hok.fresh (Nat.le_refl _)
  refine ⟨.ref s1.heap.objs.size,upd H1 s1.heap.objs.size (.tup xs),I1.laid (t':=s1.toks) (fun b u e=>Heap.get?_push_of_some _ e) (Nat.le_refl _) ?_,rfl,q _ hf⟩
  exact ⟨z,us,r,⟨_,Heap.get?_push_size _ rfl,rfl,_,rfl⟩⟩
theorem pe_lst (h:PA X es t):PE X (.List es pos) (tLst t):=by
  intro pins s σ H Q I hq
  refine wpAny_List_spliced (thn (h pos pins s σ H _ I hq) fun us s1 ⟨xs,H1,I1,r,z,q⟩=>⟨by rw [← r.length];exact z,?_⟩)
  have hf:H1 s1.heap.objs.size=none:=I1.hok.fresh (Nat.le_refl _)
  refine ⟨.ref s1.heap.objs.size,upd H1 s1.heap.objs.size (.lst xs),I1.laid (t':=s1.toks) (fun b u e=>Heap.get?_push_of_some _ e) (Nat.le_refl _) ?_,rfl,q _ hf⟩
  exact ⟨z,us,0,r,Heap.get?_push_size _ rfl⟩
end
abbrev Sp:=List V→Hp→VK→XK→Prop
abbrev CXT:=List Env→Hp→Shared→XK→Value→Shared→Prop
structure Env0 (P:Program) (w:World) (K:PySem.W.Frag) (mg:Str→Option Value) (base:Heap) (A:Around) (outer:List Env) (s:Shared) (H:Hp):Prop where
  frames:A.frames=some outer
  mod:Mod K mg base
  bs:∀ b o,base.get? b=some o→s.heap.get? b=some o∧H b=none
  bsz:base.objs.size≤s.heap.objs.size
  funs:s.heap.FunFrames base outer
  frf:∀ b∈frs outer,H b=none
  hok:HOk P w H s.heap
  bare:AllBare s.gens
def CE (outer:List Env) (P:Program) (w:World) (H:Hp) (s:Shared) (Q:VK) (u:Value) (s':Shared):Prop :=
  ∃ v H',s'.os=s.os∧AllBare s'.gens∧Un (frs outer) [] H H' s.heap s'.heap∧HOk P w H' s'.heap∧RelV v u∧Q v H'
def CR (CX:CXT) (outer:List Env) (P:Program) (w:World) (H:Hp) (s:Shared) (Q:VK) (E:XK) (r:Result) (s':Shared):Prop :=
  match r with
  | .ok (.ret u)=>CE outer P w H s Q u s'
  | .ok _=>False
  | .error e=>CX outer H s E e s'
structure FnOk (P:Program) (w:World) (K:PySem.W.Frag) (mg:Str→Option Value) (base:Heap) (CX:CXT) (k:Nat) (f:Addr) (fd:FuncData) (ps:List Str) (sp:Sp):Prop where
  len:∀ vs H Q E,sp vs H Q E→vs.length=ps.length
  run:∀ (A:Around) (outer:List Env) (s:Shared) (H:Hp) (args:Args) (us:List Value) (vs:List V) (Q:VK) (E:XK),Room k A→Env0 P w K mg base A outer s H→BindsTo s fd args (ps.zip us)→Vals vs us→sp vs H Q E →
    codeAny (model P w) A (.call (.ref f) args) (CR CX outer P w H s Q E) s
theorem Env0.make {P:Program}{w:World}{K:PySem.W.Frag}{mg:Str→Option Value}{base:Heap}{A:Around}{outer:List Env}{s:Shared}{H:Hp}(e:Env0 P w K mg base A outer s H) (C:Addr) (us:List Value) (kw:List (Str×Value)) :
    Env0 P w K mg base (A.under (.builtin "type.__call__" ⟨.ref C :: us,kw⟩)) outer s H:=⟨by first | exact e.frames | (simpa [Around.under,Code.envs,Code.isFrame,pushEnvs] using e.frames),e.mod,e.bs,e.bsz,e.funs,e.frf,e.hok,e.bare⟩
section
variable {X:Cx}{pins:List (Addr×Obj)}{σ:St}{H:Hp}{s s':Shared}
theorem Inv.env0 (I:Inv X pins σ H s):Env0 X.prog X.w X.K X.mg X.base X.A X.stack s H :=
  ⟨I.ok.frames,I.ok.mod,I.bs,Nat.le_trans I.ok.bsz I.sz,I.stack,I.stkFree,I.hok,I.bare⟩
theorem Inv.after {Q:VK}{u:Value}(I:Inv X pins σ H s) (h:CE X.stack X.prog X.w H s Q u s'):EP X pins σ Q u s':=by
  obtain ⟨v,H',os,bare,un,hok,r,q⟩:=h
  obtain ⟨hh,g,d,t,os'⟩:=s'
  obtain rfl:os'=s.os:=os
  exact ⟨v,H',I.call (h':=hh) (g':=g) (d':=d) (t':=t) (ch:=[]) un hok bare (fun b z=>absurd z (by simp)),r,q⟩
end
def tCall (sp:Sp) (dvs:List V) (E:XK) (t:TA):TE:=fun σ H Q=>t σ H fun vs H1=>sp (vs ++ dvs) H1 Q E
def tMeth (C:Addr) (m:Str) (sp:Sp) (dvs:List V) (E:XK) (ta:TE) (t:TA):TE:=fun σ H Q=>ta σ H fun x H1=>∃ a dx fs,x=.ref a∧H1 a=some (.ins C dx fs)∧fs.lookup m=none ∧
  t σ H1 fun vs H2=>sp (x :: (vs ++ dvs)) H2 Q E
def Binds (K:PySem.W.Frag) (fd:FuncData) (ps:List Str) (ds:List Value):Prop :=
  ∀ (s:Shared) (us:List Value),K.In s.heap→(us ++ ds).length=ps.length→BindsTo s fd ⟨us,[]⟩ (ps.zip (us ++ ds))
theorem Binds.all {K:PySem.W.Frag}{fd:FuncData}{ps:List Str}(h:∀ us:List Value,us.length=ps.length→bindArgs fd ⟨us,[]⟩=pure (ps.zip us)):Binds K fd ps []:=fun s us _ hl=>by
  rw [List.append_nil] at hl ⊢
  exact .of_eq (h us hl)
def Passes (CX:CXT) (X:Cx) (E:XK):Prop:=∀ (pins:List (Addr×Obj)) (σ:St) (H:Hp) (s:Shared) (e:Value) (s':Shared),Inv X pins σ H s→CX X.stack H s E e s'→X.xe e s'
section
variable {X:Cx}{CX:CXT}{k:Nat}{f C:Addr}{fd:FuncData}{ps:List Str}{sp:Sp}{dvs:List V}{ds:List Value}{E:XK}{x m:Str}{p pos apos:Pos}{e o:Expr}{es:List Expr}{ta:TE}{t:TA}
theorem run_fn {pins:List (Addr×Obj)}{σ:St}{H:Hp}{s:Shared}{Q:VK}{us:List Value}{vs:List V}(F:FnOk X.prog X.w X.K X.mg X.base CX k f fd ps sp) (hr:Room k X.A) (hb:Binds X.K fd ps ds) (hd:Vals dvs ds) (hx:Passes CX X E)
    (I:Inv X pins σ H s) (r:Vals vs us) (h:sp (vs ++ dvs) H Q E):wpAny (model X.prog X.w) X.A (call (.ref f) us) (EP X pins σ Q) X.xe s:=by
  have r2:Vals (vs ++ dvs) (us ++ ds):=r.append hd
  have hl:(us ++ ds).length=ps.length:=by rw [← r2.length];exact F.len _ _ _ _ h
  refine wpAny_call (codeAny_mono (F.run X.A X.stack s H ⟨us,[]⟩ (us ++ ds) (vs ++ dvs) Q E hr I.env0 (hb s us I.kIn hl) r2 h) fun r s' hq=>?_)
  cases r with
  | error e=>exact hx pins σ H s e s' I hq
  | ok fl =>
    cases fl with
    | ret u=>exact I.after hq
    | next=>exact False.elim hq
    | brk=>exact False.elim hq
    | cont=>exact False.elim hq
theorem pe_call (F:FnOk X.prog X.w X.K X.mg X.base CX k f fd ps sp) (hr:Room k X.A) (hg:Gl X x) (hm:X.mg x=some (.ref f)) (hk:PySem.W.keepIn X.K (.ref f)=true) (hb:Binds X.K fd ps ds) (hd:Vals dvs ds) (hx:Passes CX X E)
    (ha:PA X (e :: es) t) (hdb:(x == ("__debug__":Str))=false:=by decide) (he:starEach (e :: es) X.env=(false,eval e X.env) :: starEach es X.env:=by rfl) (hpl:(backTo pos (starEach es X.env)).any (·.1)=false:=by rfl) :
    PE X (.Call (.Name x p) (e :: es) [] pos) (tCall sp dvs E t):=by
  intro pins s σ H Q I h
  refine wpAny_Call_Name_kw (ld_glob I hg hm ?_ hdb)
  refine PySem.W.callWith_K (h₀:=X.base) I.ok.mod.kin hk (thn (ha pos pins s σ H _ I h) fun us s1 ⟨vs,H1,I1,r,q⟩=>⟨I1.kIn,?_⟩) he hpl
  exact run_fn F hr hb hd hx I1 r q
theorem pe_meth {pl:Sem Bool}(he:PE X o ta) (c:Cls X.K C) (hm:Meth X.K C m f) (F:FnOk X.prog X.w X.K X.mg X.base CX k f fd ps sp) (hr:Room k X.A) (hb:Binds X.K fd ps ds) (hd:Vals dvs ds) (hx:Passes CX X E) (ha:PA X (e :: es) t)
    (hst:starEach (e :: es) X.env=(false,eval e X.env) :: starEach es X.env:=by rfl) (hpl:(backTo pos (starEach es X.env)).any (·.1)=false:=by rfl)
    (ht:eval (.Call (.Attribute o m apos) (e :: es) [] pos) X.env=(do
      let ov ← eval o X.env
      standAt apos.atName
      let (f,first) ← holding [ov] (getMethod ov m pl)
      callWith pos f first (backTo pos (starEach (e :: es) X.env)) (backToKw pos (keywordEach [] X.env))):=by rfl) :
    PE X (.Call (.Attribute o m apos) (e :: es) [] pos) (tMeth C m sp dvs E ta t):=by
  intro pins s σ H Q I h
  refine PySem.W.methodCall_KW (pl:=pl) (thn (he pins s σ H _ I h) fun u s1 ⟨x,H1,I1,rx,a,dx,fs,ex,ea,l,q⟩=>?_) ht
  subst ex
  obtain rfl:u=Value.ref a:=rx
  refine getmeth_ok I1 ea c hm l ?_
  refine PySem.W.callWith_K (first:=[.ref a]) (h₀:=X.base) I.ok.mod.kin hm.kp (thn (ha pos pins s1 σ H1 _ I1 q) fun us s2 ⟨vs,H2,I2,r,q2⟩=>⟨I2.kIn,?_⟩) hst hpl
  exact run_fn (us:=.ref a :: us) (vs:=.ref a :: vs) F hr hb hd hx I2 (.cons rfl r) q2
theorem pe_meth0 {pl:Sem Bool}(he:PE X o ta) (c:Cls X.K C) (hm:Meth X.K C m f) (F:FnOk X.prog X.w X.K X.mg X.base CX k f fd ps sp) (hr:Room k X.A) (hb:Binds X.K fd ps ds) (hd:Vals dvs ds) (hx:Passes CX X E)
    (ht:eval (.Call (.Attribute o m apos) [] [] pos) X.env=(do
      let ov ← eval o X.env
      standAt apos.atName
      let (f,first) ← holding [ov] (getMethod ov m pl)
      callWith pos f first (backTo pos (starEach [] X.env)) (backToKw pos (keywordEach [] X.env))):=by rfl) :
    PE X (.Call (.Attribute o m apos) [] [] pos) (tMeth C m sp dvs E ta tNil):=by
  intro pins s σ H Q I h
  refine PySem.W.methodCall_KW (pl:=pl) (thn (he pins s σ H _ I h) fun u s1 ⟨x,H1,I1,rx,a,dx,fs,ex,ea,l,q⟩=>?_) ht
  subst ex
  obtain rfl:u=Value.ref a:=rx
  refine getmeth_ok I1 ea c hm l ?_
  exact PySem.W.callWith_K0 (first:=[.ref a]) I1.kIn hm.kp (run_fn (us:=[.ref a]) (vs:=[.ref a]) F hr hb hd hx I1 (.cons rfl .nil) q)
structure Mk (K:PySem.W.Frag) (C f:Addr):Prop where
  makes:PySem.W.makesIn K C=true
  init:PySem.W.findIn K (.ref C) "__init__"=some (some (.ref f))
  fn:PySem.W.isFn K (.ref f)=true
  kp:PySem.W.keepIn K (.ref C)=true
end
def PK (X:Cx) (kws:List Keyword) (t:TA):Prop :=
  ∀ (pos:Pos) (pins:List (Addr×Obj)) (s:Shared) (σ:St) (H:Hp) (Q:List V→Hp→Prop),Inv X pins σ H s→t σ H Q→wpAny (model X.prog X.w) X.A (evalAll ((backToKw pos (keywordEach kws X.env)).map (·.2))) (AP X pins σ Q) X.xe s
section
variable {X:Cx}{CX:CXT}{k:Nat}{f C:Addr}{fd:FuncData}{ps ks:List Str}{sp:Sp}{E:XK}{x m:Str}{p pos apos kpos:Pos}{e o:Expr}{es:List Expr}{kws:List Keyword}{te ta:TE}{t tk:TA}{nm:Option Str}
theorem pk_nil:PK X [] tNil:=fun _ _ _ _ H Q I h=>wpAny_evalAll_nil ⟨[],H,I,.nil,h⟩
theorem pk_cons (ha:PE X e te) (hr:PK X kws t):PK X (⟨nm,e,kpos⟩ :: kws) (tCons te t):=by
  intro pos pins s σ H Q I h
  show wpAny _ _ (evalAll ((do let v ← eval e X.env;standAt pos;pure v) :: (backToKw pos (keywordEach kws X.env)).map (·.2))) _ _ s
  refine wpAny_evalAll_cons (wpAny_bind (thn (ha pins s σ H _ I h) fun u s1 ⟨x,H1,I1,r1,q1⟩=>wpAny_bind (wpAny_standAt (wpAny_pure ?_))))
  exact thn (hr pos pins s1 σ H1 _ I1 q1) fun us s2 ⟨xs,H2,I2,r2,q2⟩=>⟨x :: xs,H2,I2,.cons r1 r2,q2⟩
variable {g:List Value→List Value→List Value}{gV:List V→List V→List V}
end
structure FnScope (N P:List Str) (sc:Scope):Prop where
  kind:sc.kind=.function
  co:sc.isCoroutine=false
  gen:sc.isGenerator=false
  nd:N.Nodup
  pre:N.take P.length=P
  par:∀ x∈P,sc.names.lookup x=some .local∨sc.names.lookup x=some .cell
  nofree:∀ y∈sc.names,y.2≠.free
theorem bindL_out {kindOf:Str→Option NameKind}{x:Str}:∀ {binds:List (Str×Value)}{m:Str→Option Value},(∀ v,(x,v)∉binds)→bindL kindOf binds m x=m x
  | [],_,_=>rfl
  | (n,v) :: r,m,h=>by
    unfold bindL
    rw [bindL_out fun w hw=>h w (List.mem_cons_of_mem _ hw)]
    split
    · have:x≠n:=by rintro rfl;exact h v List.mem_cons_self
      simp [this]
    · rfl
theorem bindC_out {kindOf:Str→Option NameKind}{x:Str}:∀ {binds:List (Str×Value)}{m:Str→Option Value},(∀ v,(x,v)∉binds)→bindC kindOf binds m x=m x
  | [],_,_=>rfl
  | (n,v) :: r,m,h=>by
    unfold bindC
    rw [bindC_out fun w hw=>h w (List.mem_cons_of_mem _ hw)]
    split
    · rfl
    · have:x≠n:=by rintro rfl;exact h v List.mem_cons_self
      simp [this]
theorem bindL_get {kindOf:Str→Option NameKind}{x:Str}{v:Value}:∀ {P:List Str}{vs:List Value}{i:Nat}{m:Str→Option Value},P.Nodup→P[i]?=some x→vs[i]?=some v→kindOf x=some .local →
    bindL kindOf (P.zip vs) m x=some v
  | [],_,_,_,_,h,_,_=>by simp at h
  | _ :: _,[],_,_,_,_,h,_=>by simp at h
  | p :: P,w :: vs,0,m,nd,h1,h2,hk=>by
    simp at h1 h2;subst h1;subst h2
    show bindL kindOf ((p,w) :: P.zip vs) m p=_
    unfold bindL
    rw [bindL_out fun v hv=>(List.nodup_cons.mp nd).1 (List.of_mem_zip hv).1,if_pos hk]
    simp
  | p :: P,w :: vs,i + 1,m,nd,h1,h2,hk=>by
    show bindL kindOf ((p,w) :: P.zip vs) m x=_
    unfold bindL
    exact bindL_get (i:=i) (List.nodup_cons.mp nd).2 (by simpa using h1) (by simpa using h2) hk
theorem bindC_get {kindOf:Str→Option NameKind}{x:Str}{v:Value}:∀ {P:List Str}{vs:List Value}{i:Nat}{m:Str→Option Value},P.Nodup→P[i]?=some x→vs[i]?=some v→kindOf x≠some .local →
    bindC kindOf (P.zip vs) m x=some v
  | [],_,_,_,_,h,_,_=>by simp at h
  | _ :: _,[],_,_,_,_,h,_=>by simp at h
  | p :: P,w :: vs,0,m,nd,h1,h2,hk=>by
    simp at h1 h2;subst h1;subst h2
    show bindC kindOf ((p,w) :: P.zip vs) m p=_
    unfold bindC
    rw [bindC_out fun v hv=>(List.nodup_cons.mp nd).1 (List.of_mem_zip hv).1,if_neg hk]
    simp
  | p :: P,w :: vs,i + 1,m,nd,h1,h2,hk=>by
    show bindC kindOf ((p,w) :: P.zip vs) m x=_
    unfold bindC
    exact bindC_get (i:=i) (List.nodup_cons.mp nd).2 (by simpa using h1) (by simpa using h2) hk
def start (N:List Str) (vs:List V):St:=vs.map some ++ List.replicate (N.length - vs.length) none
def cxOf (CX:CXT) (P:Program) (w:World) (K:PySem.W.Frag) (mg:Str→Option Value) (base:Heap) (N:List Str) (qual:Str) (scope:Scope) (f:Addr) (cd:Value) (A:Around) (outer:List Env) (s:Shared) (H:Hp) (E:XK):Cx where
  prog:=P
  w:=w
  K:=K
  mg:=mg
  base:=base
  A:=A.deeper (envOfC qual scope s.heap.objs.size f cd)
  N:=N
  s₀:=s
  H₀:=H
  env:=envOfC qual scope s.heap.objs.size f cd
  outer:=outer
  stack:=envOfC qual scope s.heap.objs.size f cd :: outer
  ex:=[]
  calm:=true
  fn:=fun _=>true
  pn:=[]
  xe:=fun e s'=>wpAny (model P w) (A.deeper (envOfC qual scope s.heap.objs.size f cd)) (leaving (envOfC qual scope s.heap.objs.size f cd) e) (fun _ s''=>CX outer H s E e s'') (fun e' s''=>CX outer H s E e' s'') s'
theorem cell_has {sc:Scope}{n:Nat}{x:Str}(h:sc.names.lookup x=some .cell):∃ c,(cellsFrom n sc.names []).lookup x=some c:=by
  have q:=PySem.W.cellsFrom_some sc.names n [] (.inl h)
  exact Option.isSome_iff_exists.mp q
theorem inv_start {CX:CXT}{P:Program}{w:World}{K:PySem.W.Frag}{mg:Str→Option Value}{base:Heap}{N ps:List Str}{qual:Str}{scope:Scope}{f:Addr}{cd:Value}{A:Around}{outer:List Env}{s s1:Shared}{H:Hp}{E:XK}{us:List Value}{vs:List V}
    (S:FnScope N ps scope) (hd:A.handled=none) (e0:Env0 P w K mg base A outer s H) (hl:vs.length=ps.length) (r:Vals vs us)
    (x:InCallC s s.heap.objs.size (bindL (envOfC qual scope s.heap.objs.size f cd).kindOf (ps.zip us) fun _=>none) (cellsFrom (s.heap.objs.size + 1) scope.names []) (bindC (envOfC qual scope s.heap.objs.size f cd).kindOf (ps.zip us) fun _=>none) s1) :
    Inv (cxOf CX P w K mg base N qual scope f cd A outer s H E) [] (start N vs) H s1:=by
  have hpl:ps.length≤N.length:=by have:=congrArg List.length S.pre;rw [List.length_take] at this;omega
  obtain ⟨h1,tk,rfl,hk⟩:=x.done
  have noA:∀ b:Addr,b∉(cxOf CX P w K mg base N qual scope f cd A outer s H E).ex:=fun b z=>absurd (show b∈([]:List Addr) from z) (by simp)
  refine ⟨⟨e0.mod,S.kind,rfl,rfl,Nat.le_refl _,fun y z c h1 h2=>?_,fun y hy=>?_,fun y c _ h=>?_,fun _=>hd,Around.frames_deeper e0.frames,.inr ⟨rfl,rfl⟩,fun b z=>absurd z (noA b),e0.bs,e0.bsz,fun b _ _=>noA b,fun b z=>absurd z (noA b),e0.funs,e0.frf⟩,
    rfl,e0.bare,Un.kept hk,⟨_,x.toInCall.ns,fun i y v h1 h2 h3=>?_⟩,fun y c h=>⟨_,x.cell y c h⟩,e0.hok.fresh (Nat.le_refl _),fun y c h=>?_,fun p hp=>absurd (show p∈([]:List (Addr×Obj)) from hp) (by simp),e0.hok.kept hk,?_⟩
  · exact name_of_addr x.apart (PySem.mem_of_lookup h1) (PySem.mem_of_lookup h2)
  · have hy:scope.names.lookup y=some .cell∨scope.names.lookup y=some .free:=hy
    rcases hy with hy | hy
    · exact cell_has hy
    · exact absurd rfl (S.nofree _ (PySem.mem_of_lookup hy))
  · exact Nat.le_of_lt (x.above y c (PySem.mem_of_lookup h))
  · have hi:i < vs.length:=by
      unfold start at h2
      by_cases hi:i < vs.length
      · exact hi
      · rw [List.getElem?_append_right (by simpa using hi)] at h2
        rw [List.getElem?_replicate] at h2
        split at h2<;>cases h2
    have ha:vs[i]?=some v:=by
      unfold start at h2
      rw [List.getElem?_append_left (by simpa using hi),List.getElem?_map] at h2
      cases e:vs[i]? with
      | none=>rw [e] at h2;cases h2
      | some a=>rw [e] at h2;cases h2;rfl
    obtain ⟨u,hu,rv⟩:=r.get ha
    have hp:ps[i]?=some y:=by
      rw [← S.pre,List.getElem?_take_of_lt (by omega)];exact h1
    have ndP:ps.Nodup:=by rw [← S.pre];exact S.nd.sublist (List.take_sublist _ _)
    refine ⟨u,rv,?_⟩
    rcases S.par y (List.mem_of_getElem? hp) with k | k
    · exact .inl ⟨k,bindL_get ndP hp hu k⟩
    · obtain ⟨c,e⟩:=cell_has (n:=s.heap.objs.size + 1) k
      refine .inr ⟨.inl k,c,e,?_⟩
      have q:=x.cell y c e
      rw [bindC_get ndP hp hu (by show scope.names.lookup y≠_;rw [k];decide)] at q
      exact q
  · exact e0.hok.fresh (Nat.le_of_lt (x.above y c (PySem.mem_of_lookup h)))
  · unfold start
    show _=N.length
    rw [List.length_append,List.length_map,List.length_replicate]
    omega
theorem fn_of {CX:CXT}{P:Program}{w:World}{K:PySem.W.Frag}{mg:Str→Option Value}{base:Heap}{k:Nat}{f:Addr}{name qual:Str}{params:Arguments}{body:List Stmt}{scope:Scope}{dV kV doc pm cdv ct oc:Value}{an od:Option Addr}
    {osl:Array (Option Value)} {N ps:List Str} {sp:Sp} (lk:K.lookup f=some ⟨oc,od,.func (PySem.W.fnOf name qual params body scope dV kV doc pm an cdv ct),osl⟩) (hcd:PySem.W.codeIn K cdv qual=true) (S:FnScope N ps scope)
    (len:∀ vs H Q E,sp vs H Q E→vs.length=ps.length)
    (hbody:∀ (A:Around) (outer:List Env) (s:Shared) (H:Hp) (vs:List V) (Q:VK) (E:XK),Room k (A.deeper (envOfC qual scope s.heap.objs.size f cdv))→sp vs H Q E →
      ∃ t,PSs (cxOf CX P w K mg base N qual scope f cdv A outer s H E) body t∧t { nx:=fun _ H'=>Q .non H',rt:=Q } (start N vs) H) :
    FnOk P w K mg base CX (k + 1) f (PySem.W.fnOf name qual params body scope dV kV doc pm an cdv ct) ps sp:=by
  refine ⟨len,fun A outer s H args us vs Q E hr e0 hb r hsp=>?_⟩
  have hl:=len _ _ _ _ hsp
  have KX:K.In s.heap:=e0.mod.kin.keeps fun b o e=>(e0.bs b o e).1
  have lim:s.heap.NoLimit:=e0.mod.nolimit.keeps fun b o e=>(e0.bs b o e).1
  have hkind:∀ y∈ps.zip us,scope.names.lookup y.1=some .local∨(scope.names.lookup y.1=some .cell∧((cellsFrom (s.heap.objs.size + 1) scope.names []).lookup y.1).isSome=true):=fun ⟨n,v⟩ hy=>by
    rcases S.par n (List.of_mem_zip hy).1 with q | q
    · exact .inl q
    · exact .inr ⟨q,PySem.W.cellsFrom_some _ _ _ (.inl q)⟩
  refine codeAny_call_function hr.depth (KX _ _ lk) rfl S.co S.gen rfl (PySem.W.codeRec_of KX hcd) (hb _ _ _ _ ?_)
  refine wpAny_newFunctionEnv_cells S.kind hkind fun env he s1 x=>?_
  subst he
  refine ⟨lim.keeps x.toInCall.keep,codeAny_func ?_⟩
  obtain ⟨t,ht,hq⟩:=hbody A outer s H vs Q E (hr.deeper _) hsp
  have I:Inv (cxOf CX P w K mg base N qual scope f cdv A outer s H E) [] (start N vs) H s1:=inv_start S hr.hd e0 hl r x
  refine wpAny_mono (ht [] s1 (start N vs) H _ I hq) (fun fl s' hs=>?_) fun e s' hs=>hs
  have fin:∀ {σ':St} {H':Hp} {v:V} {u:Value},Inv (cxOf CX P w K mg base N qual scope f cdv A outer s H E) [] σ' H' s'→RelV v u→Q v H'→CE outer P w H s Q u s' :=
    fun {σ' H' v u} J rv q=>⟨v,H',J.os,J.bare,J.base,J.hok,rv,q⟩
  cases fl with
  | ret u =>
    obtain ⟨v,σ',H',J,rv,q⟩:=hs
    exact fin J rv q
  | next =>
    obtain ⟨σ',H',J,q⟩:=hs
    exact fin (v:=V.non) (u:=Value.none) J rfl q
  | brk =>
    obtain ⟨_,_,_,q⟩:=hs
    exact False.elim q
  | cont =>
    obtain ⟨_,_,_,q⟩:=hs
    exact False.elim q
end L2
namespace L2
open PySem PySem.Spec PyProof.Rows
section
variable {X:Cx}{x:Str}{p pos:Pos}{e:Expr}{es:List Expr}{t:TA}{id T:String}{r:List V→Hp→VK→Prop}
def tCB (r:List V→Hp→VK→Prop) (t:TA):TE:=fun σ H Q=>t σ H fun vs H1=>r vs H1 Q
theorem pe_callB (hc:CallR X (.builtin id) r) (hg:Gl X x) (hm:X.mg x=none) (hv:bootBuiltins x=some (.builtin id)) (ha:PA X (e :: es) t) (hn:x≠"__name__":=by decide) (hdb:(x == ("__debug__":Str))=false:=by decide)
    (he:starEach (e :: es) X.env=(false,eval e X.env) :: starEach es X.env:=by rfl) (hpl:(backTo pos (starEach es X.env)).any (·.1)=false:=by rfl):PE X (.Call (.Name x p) (e :: es) [] pos) (tCB r t):=by
  intro pins s σ H Q I h
  refine wpAny_Call_Name_kw (ld_blt I hg hm hv ?_ hn hdb)
  exact PyProof.Rows.callWith_builtin1 (thn (ha pos pins s σ H _ I h) fun us s1 ⟨vs,H1,I1,r1,q1⟩=>hc pins s1 σ H1 vs us Q I1 r1 q1) he hpl
theorem pe_callTy (hc:CallR X (.type T) r) (hg:Gl X x) (hm:X.mg x=none) (hv:bootBuiltins x=some (.type T)) (ha:PA X (e :: es) t) (hn:x≠"__name__":=by decide) (hdb:(x == ("__debug__":Str))=false:=by decide)
    (he:starEach (e :: es) X.env=(false,eval e X.env) :: starEach es X.env:=by rfl) (hpl:(backTo pos (starEach es X.env)).any (·.1)=false:=by rfl):PE X (.Call (.Name x p) (e :: es) [] pos) (tCB r t):=by
  intro pins s σ H Q I h
  refine wpAny_Call_Name_kw (ld_blt I hg hm hv ?_ hn hdb)
  exact PyProof.Rows.callWith_type1 (thn (ha pos pins s σ H _ I h) fun us s1 ⟨vs,H1,I1,r1,q1⟩=>hc pins s1 σ H1 vs us Q I1 r1 q1) he hpl
end
end L2
namespace HT
open PySem PyProof.Rows
section
open PySem.SeqAt
open PySem.AutoSeq1 (wpAny_loadPart')
open PySem.MeetsSeq PySem.MeetsSeq2 PySem.MeetsSeq3
end
section
variable {prog:Program}{w:World}{A:Around}{E:Value→Shared→Prop}{s:Shared}
def sIx (n d:Nat):Option Int→Nat
  | none=>d
  | some v=>if v < 0 then (v + (n:Int)).toNat else min v.toNat n
theorem sIx_none (n d:Nat):sIx n d none=d:=rfl
theorem sIx_nat (n d k:Nat):sIx n d (some (k:Int))=min k n:=by
  show (if (k:Int) < 0 then ((k:Int) + (n:Int)).toNat else min (k:Int).toNat n)=min k n
  rw [if_neg (by omega),Int.toNat_natCast]
end
end HT
namespace L2
open PySem PySem.Spec PyProof.Rows
abbrev TO:=St→Hp→(Option Int→Hp→Prop)→Prop
def PO (X:Cx) (e:Option Expr) (t:TO):Prop :=
  ∀ (pins:List (Addr×Obj)) (s:Shared) (σ:St) (H:Hp) (Q:Option Int→Hp→Prop),Inv X pins σ H s→t σ H Q →
    wpAny (model X.prog X.w) X.A (evalPart e X.env) (fun u s'=>∃ o H',Inv X pins σ H' s'∧IsPart u o∧Q o H') X.xe s
def tNoPart:TO:=fun _ H Q=>Q none H
def tPart (t:TE):TO:=fun σ H Q=>t σ H fun x H1=>∃ i,x=.int i∧Q (some i) H1
section
variable {X:Cx}{e:Expr}{te:TE}{lo hi:Option Expr}{tl th:TO}{pos p2:Pos}
theorem po_none:PO X none tNoPart:=by
  intro pins s σ H Q I h
  rw [evalPart_none]
  exact wpAny_pure ⟨none,H,I,.none,h⟩
theorem po_some (h:PE X e te):PO X (some e) (tPart te):=by
  intro pins s σ H Q I hw
  rw [evalPart_some]
  refine thn (h pins s σ H _ I hw) fun u s1 ⟨x,H1,I1,r1,q1⟩=>?_
  obtain ⟨i,rfl,q⟩:=q1
  obtain ⟨t,rfl⟩:=r1
  exact ⟨some i,H1,I1,.int i t,q⟩
def SlR (X:Cx) (r:V→Option Int→Option Int→Hp→VK→Prop):Prop :=
  ∀ (pins:List (Addr×Obj)) (s:Shared) (σ:St) (H:Hp) (x:V) (v vl vu:Value) (lo hi:Option Int) (sl:Addr) (Q:VK),Inv X pins σ H s→RelV x v→s.heap.IsSliceOf sl vl vu .none→IsPart vl lo→IsPart vu hi→r x lo hi H Q →
    ∃ T id,typeLookup (.type T) "__getitem__"=pure (some (.builtin id))∧s.TypeIs v T∧wpAny (model X.prog X.w) X.A (getItem v (.ref sl)) (EP X pins σ Q) X.xe s
def tSl (r:V→Option Int→Option Int→Hp→VK→Prop) (te:TE) (tl th:TO):TE:=fun σ H Q=>te σ H fun x H1=>tl σ H1 fun l H2=>th σ H2 fun u H3=>r x l u H3 Q
theorem pe_slice {r:V→Option Int→Option Int→Hp→VK→Prop}(hr:SlR X r) (he:PE X e te) (hl:PO X lo tl) (hu:PO X hi th):PE X (.Subscript e (.Slice lo hi none p2) pos) (tSl r te tl th):=by
  intro pins s σ H Q I h
  refine Subscript_ (thn (he pins s σ H _ I h) fun v s1 ⟨x,H1,I1,r1,q1⟩=>?_)
  refine wpAny_Slice (thn (hl pins s1 σ H1 _ I1 q1) fun vl s2 ⟨l,H2,I2,pl,q2⟩=>thn (hu pins s2 σ H2 _ I2 q2) fun vu s3 ⟨u,H3,I3,pu,q3⟩=>?_)
  rw [evalPart_none]
  refine wpAny_pure ?_
  have I4:Inv X pins σ H3 { s3 with heap:=s3.heap.push { cls:=.type "slice",data:=.fields #[vl,vu,.none] } }:=I3.kept (t':=s3.toks) fun b ob q=>Heap.get?_push_of_some _ q
  obtain ⟨T,id,hT,ht,hg⟩:=hr pins { s3 with heap:=s3.heap.push { cls:=.type "slice",data:=.fields #[vl,vu,.none] } } σ H3 x v vl vu l u s3.heap.objs.size Q I4 r1 (Heap.IsSliceOf.new ..) pl pu q3
  show wpAny (model X.prog X.w) X.A (subscriptTail e (.Slice lo hi none p2) v (.ref s3.heap.objs.size)) (EP X pins σ Q) X.xe { s3 with heap:=s3.heap.push { cls:=.type "slice",data:=.fields #[vl,vu,.none] } }
  exact tail_any (ops:=[.ref s3.heap.objs.size,v]) ht hT hg (by with_unfolding_all rfl)
def cutV (xs:List V) (lo hi:Option Int):List V:=(xs.drop (HT.sIx xs.length 0 lo)).take (HT.sIx xs.length xs.length hi - HT.sIx xs.length 0 lo)
theorem cutV_length (xs:List V) (lo hi:Option Int):(cutV xs lo hi).length≤xs.length:=by
  unfold cutV
  rw [List.length_take,List.length_drop]
  omega
end
end L2
namespace L2
open PySem PySem.Spec PyProof.Rows
def ixN (n:Nat) (i:Int):Option Nat:=if 0≤i then (if i < n then some i.toNat else none) else if -(n:Int)≤i then some (i + n).toNat else none
def atI {α:Type}(xs:List α) (i:Int):Option α:=(ixN xs.length i).bind fun j=>xs[j]?
theorem ixN_seq {n:Nat}{i:Int}{j:Nat}(h:ixN n i=some j):seqIndex? i n=some j∧j < n∧-(n:Int)≤i∧i < n:=by
  unfold ixN at h
  by_cases h0:0≤i
  · rw [if_pos h0] at h
    by_cases h1:i < n
    · rw [if_pos h1] at h
      have e:i.toNat=j:=Option.some.inj h
      exact ⟨by rw [seqIndex_of h0 h1,e],by omega,by omega,h1⟩
    · rw [if_neg h1] at h;cases h
  · rw [if_neg h0] at h
    by_cases h1:-(n:Int)≤i
    · rw [if_pos h1] at h
      have e:(i + n).toNat=j:=Option.some.inj h
      exact ⟨by rw [seqIndex_neg (by omega) h1,e],by omega,h1,by omega⟩
    · rw [if_neg h1] at h;cases h
theorem atI_get {α:Type}{xs:List α}{i:Int}{v:α}(h:atI xs i=some v):∃ j,seqIndex? i xs.length=some j∧xs[j]?=some v∧j < xs.length∧-(xs.length:Int)≤i∧i < xs.length:=by
  unfold atI at h
  cases e:ixN xs.length i with
  | none=>rw [e] at h;cases h
  | some j =>
    rw [e] at h
    obtain ⟨h1,h2,h3,h4⟩:=ixN_seq e
    exact ⟨j,h1,h,h2,h3,h4⟩
theorem atI_nat {α:Type}{xs:List α}{j:Nat}{v:α}(h:xs[j]?=some v):atI xs (j:Int)=some v:=by
  have hj:j < xs.length:=(List.getElem?_eq_some_iff.mp h).1
  have e:ixN xs.length (j:Int)=some j:=by
    unfold ixN
    rw [if_pos (by omega),if_pos (by omega)];simp
  unfold atI;rw [e];exact h
theorem atI_last {α:Type}(xs:List α) (v:α):atI (xs ++ [v]) (-1)=some v:=by
  have hl:(xs ++ [v]).length=xs.length + 1:=by simp
  have e:ixN (xs ++ [v]).length (-1)=some xs.length:=by
    unfold ixN
    rw [hl,if_neg (by decide),if_pos (by omega)]
    congr 1
    omega
  unfold atI
  rw [e]
  show (xs ++ [v])[xs.length]?=some v
  simp
def PlainIx (b:Expr):Prop:=∀ o i,subscripted b false o i=operate [o,i] (getItem o i)
def IxR (X:Cx) (r:R2):Prop :=
  ∀ (value slice:Expr) (pins:List (Addr×Obj)) (s:Shared) (σ:St) (H:Hp) (x y:V) (v u:Value) (Q:VK),Inv X pins σ H s→RelV x v→RelV y u→r x y H Q →
    subscripted slice false v u=operate [v,u] (getItem v u)→wpAny (model X.prog X.w) X.A (subscriptTail value slice v u) (EP X pins σ Q) X.xe s
def MtR (X:Cx) (id:String) (r:V→List V→Hp→VK→Prop):Prop :=
  ∀ (pins:List (Addr×Obj)) (s:Shared) (σ:St) (H:Hp) (x:V) (xs:List V) (v:Value) (us:List Value) (Q:VK),Inv X pins σ H s→RelV x v→Vals xs us→r x xs H Q →
    wpAny (model X.prog X.w) X.A (call (.builtin id) (v :: us)) (EP X pins σ Q) X.xe s
section
variable {X:Cx}{a b:Expr}{ta tb:TE}{pos:Pos}
theorem pe_ix {r:R2}(hr:IxR X r) (ha:PE X a ta) (hb:PE X b tb) (hs:PlainIx b):PE X (.Subscript a b pos) (tOp r ta tb):=by
  intro pins s σ H Q I h
  exact Subscript_ (binT ha hb I h fun v u s2 x y H2 I2 rx ry q=>hr a b pins s2 σ H2 x y v u Q I2 rx ry q (hs _ _))
def rIxL (K:PySem.W.Frag):R2:=fun x y H Q=>∃ p xs i v,x=.ref p∧y=.int i∧SqL K H p xs∧atI xs i=some v∧Q v H
def rIxT (K:PySem.W.Frag):R2:=fun x y H Q=>∃ p xs i v,x=.ref p∧y=.int i∧SqT K H p xs∧atI xs i=some v∧Q v H
def rIxS:R2:=fun x y H Q=>∃ z i c,x=.str z∧y=.int i∧z.length≤sizeLine∧atI z.cps.toList i=some c∧Q (.str ⟨#[c]⟩) H
theorem ix_list:IxR X (rIxL X.K):=by
  intro value slice pins s σ H x y v u Q I rx ry h hs
  obtain ⟨p,xs,i,z,rfl,rfl,hq,he,q⟩:=h
  cases rx
  obtain ⟨t,rfl⟩:=ry
  obtain ⟨its,r,pl,hz⟩:=I.list hq
  obtain ⟨j,h1,h2,h3,h4,h5⟩:=atI_get he
  obtain ⟨w,ew,rw'⟩:=r.get h2
  have hl:=r.length
  have hn:=line63
  have fin:EP X pins σ Q w s:=⟨z,H,I,rw',q⟩
  by_cases h0:0≤i
  · have hj:i.toNat=j:=by
      rw [seqIndex_of h0 h5] at h1
      exact Option.some.inj h1
    exact item_listR pl.isList h0 (by omega) (by rw [hj];simpa using ew) fin hs
  · have hj:(i + (its.toArray.size:Int)).toNat=j:=by
      rw [seqIndex_neg (by omega) h4] at h1
      rw [List.size_toArray,← hl]
      exact Option.some.inj h1
    exact subscriptTail_builtinR (x:=w) pl.isList.typeIs slot_list_getitem.lookup
      (wpAny_getItem_list_neg (Q:=fun r s'=>r=w∧EP X pins σ Q r s') pl.isList (by omega) (by rw [List.size_toArray]<;>omega) (by omega) (by rw [hj];simpa using ew) ⟨rfl,fin⟩) hs
theorem ix_tup:IxR X (rIxT X.K):=by
  intro value slice pins s σ H x y v u Q I rx ry h hs
  obtain ⟨p,xs,i,z,rfl,rfl,hq,he,q⟩:=h
  cases rx
  obtain ⟨t,rfl⟩:=ry
  obtain ⟨its,r,pl,hz⟩:=I.tuple hq
  obtain ⟨j,h1,h2,h3,h4,h5⟩:=atI_get he
  obtain ⟨w,ew,rw'⟩:=r.get h2
  have hl:=r.length
  have hn:=line63
  have fin:EP X pins σ Q w s:=⟨z,H,I,rw',q⟩
  exact subscriptTail_builtinR (x:=w) pl.typeIs slot_tuple_getitem.lookup
    (getItem_tuple (j:=j) (Q:=fun r s'=>r=w∧EP X pins σ Q r s') pl (by omega) (by omega) (by rw [List.size_toArray,← hl];exact h1) (by simpa using ew) ⟨rfl,fin⟩) hs
theorem ix_str:IxR X rIxS:=by
  intro value slice pins s σ H x y v u Q I rx ry h hs
  obtain ⟨z,i,c,rfl,rfl,hz,he,q⟩:=h
  obtain ⟨t,rfl⟩:=rx
  obtain ⟨t',rfl⟩:=ry
  obtain ⟨j,h1,h2,h3,h4,h5⟩:=atI_get he
  have hl:z.cps.toList.length=z.length:=by simp [Str.length]
  rw [hl] at h1 h4 h5
  have hn:=line63
  exact tail_any (typeIs_str s z t) slot_str_getitem.lookup (getItem_str (c:=c) (by
    have e1:decide (i < -(2 ^ 63:Int))=false:=decide_eq_false (by omega)
    have e2:decide (i ≥ 2 ^ 63)=false:=decide_eq_false (by omega)
    rw [e1,e2,Bool.or_false]) (by rw [h1];simpa using h2) ⟨.str ⟨#[c]⟩,H,I.tok _,⟨_,rfl⟩,q⟩) hs
theorem mapSeq_set (its:List Value) (n j:Nat) (u:Value):Obj.mapSeq (·.setIfInBounds j u) { cls:=.type "list",data:=.seq its.toArray n }={ cls:=.type "list",data:=.seq (its.set j u).toArray n }:=by
  simp [Obj.mapSeq]
theorem Inv.lst {pins:List (Addr×Obj)}{σ:St}{H:Hp}{s:Shared}{p:Addr}{xs:List V}(I:Inv X pins σ H s) (h:H p=some (.lst xs)) :
    ∃ (its:List Value) (n:Nat),Vals xs its∧s.heap.get? p=some { cls:=.type "list",data:=.seq its.toArray n }∧xs.length≤sizeLine:=by
  obtain ⟨z,its,n,r,e⟩:=I.hok p _ h
  exact ⟨its,n,r,e,z⟩
theorem Inv.lstUpd {pins:List (Addr×Obj)}{σ:St}{H:Hp}{s:Shared}{p:Addr}{xs ys:List V}{its its':List Value}{n n':Nat}{f:Obj→Obj}(I:Inv X pins σ H s) (h:H p=some (.lst xs))
    (ho:s.heap.get? p=some { cls:=.type "list",data:=.seq its.toArray n }) (hf:f { cls:=.type "list",data:=.seq its.toArray n }={ cls:=.type "list",data:=.seq its'.toArray n' }) (r:Vals ys its') (hz:ys.length≤sizeLine) (t:Nat) :
    Inv X pins σ (upd H p (.lst ys)) { s with heap:=s.heap.update p f,toks:=t }:=by
  have e:(s.heap.update p f).get? p=some { cls:=.type "list",data:=.seq its'.toArray n' }:=by
    rw [Heap.get?_update_self f ho (by rw [hf]<;>rfl),hf]
  refine I.write (x:=p) (e:=p) (by rw [h];trivial) (.inl rfl) (fun b u hb q=>(Heap.get?_update_other _ _ (Ne.symm hb)).trans q) ⟨_,e⟩ ?_
  exact ⟨hz,its',n',r,e⟩
def rSetL:V→V→V→Hp→(Hp→Prop)→Prop:=fun o i v H Q=>∃ p xs k j,o=.ref p∧i=.int k∧H p=some (.lst xs)∧ixN xs.length k=some j∧Q (upd H p (.lst (xs.set j v)))
theorem set_list:PSet X rSetL:=by
  intro pins s σ H o i v ov iv u Q I ro ri rv h
  obtain ⟨p,xs,k,j,rfl,rfl,hp,hj,q⟩:=h
  cases ro
  obtain ⟨t,rfl⟩:=ri
  obtain ⟨its,n,r,ho,hz⟩:=I.lst hp
  obtain ⟨h1,h2,h3,h4⟩:=ixN_seq hj
  have hl:=r.length
  have hn:=line63
  have I':Inv X pins σ (upd H p (.lst (xs.set j v))) { s with heap:=s.heap.update p (Obj.mapSeq (·.setIfInBounds j u)) } :=
    I.lstUpd hp ho (mapSeq_set its n j u) (r.set rv j) (by rw [List.length_set];exact hz) s.toks
  by_cases h0:0≤k
  · have hk:k.toNat=j:=by
      rw [seqIndex_of h0 h4] at h1
      exact Option.some.inj h1
    exact PySem.W.ki_setAt ho h0 (by omega) (by rw [List.size_toArray,← hl];exact h4) (by rw [hk];exact ⟨_,I',q⟩)
  · have hk:(k + (its.toArray.size:Int)).toNat=j:=by
      rw [seqIndex_neg (by omega) h3] at h1
      rw [List.size_toArray,← hl]
      exact Option.some.inj h1
    exact PySem.W.ki_setBack ho (by omega) (by rw [List.size_toArray,← hl];exact h3) (by omega) (by rw [hk];exact ⟨_,I',q⟩)
theorem slice_bounds (lo hi:Option Int) (n:Nat):(sliceBounds lo hi none n).1=((HT.sIx n 0 lo:Nat):Int)∧(sliceBounds lo hi none n).2.1=((HT.sIx n n hi:Nat):Int)∧(sliceBounds lo hi none n).2.2=1:=by
  refine ⟨?_,?_,rfl⟩
  · cases lo with
    | none=>simp [sliceBounds,HT.sIx]
    | some i =>
      simp only [sliceBounds,HT.sIx,Option.getD_none,show (1:Int) > 0 by decide,if_true]
      by_cases h:i < 0
      · simp only [h,if_true]<;>omega
      · simp only [h,if_false]<;>omega
  · cases hi with
    | none=>simp [sliceBounds,HT.sIx]
    | some i =>
      simp only [sliceBounds,HT.sIx,Option.getD_none,show (1:Int) > 0 by decide,if_true]
      by_cases h:i < 0
      · simp only [h,if_true]<;>omega
      · simp only [h,if_false]<;>omega
theorem slicePick_cut (its:List Value) (lo hi:Option Int):slicePick its.toArray lo hi none=((its.drop (HT.sIx its.length 0 lo)).take (HT.sIx its.length its.length hi - HT.sIx its.length 0 lo)).toArray:=by
  obtain ⟨h1,h2,h3⟩:=slice_bounds lo hi its.toArray.size
  unfold slicePick
  rw [h1,h2,h3]
  simp only [sliceRange_one,pick_run,List.size_toArray]<;>rfl
def rSlL (K:PySem.W.Frag):V→Option Int→Option Int→Hp→VK→Prop:=fun x lo hi H Q=>∃ a xs,x=.ref a∧SqL K H a xs∧∀ p,H p=none→Q (.ref p) (upd H p (.lst (cutV xs lo hi)))
theorem sl_list:SlR X (rSlL X.K):=by
  intro pins s σ H x v vl vu lo hi sl Q I rx hs pl pu h
  obtain ⟨a,xs,rfl,hx,q⟩:=h
  cases rx
  obtain ⟨its,r,ht,hz⟩:=I.list hx
  have hlen:=r.length
  refine ⟨"list",_,slot_list_getitem.lookup,ht.isList.typeIs,?_⟩
  refine wpAny_getItem_list_slice ht.isList hs pl pu .none (by simp) ?_ (by rw [List.size_toArray]<;>omega)
  rw [slicePick_cut,← hlen]
  refine ⟨.ref s.heap.objs.size,_,I.laid (t':=s.toks) (o:=.lst (cutV xs lo hi)) (fun b ob q=>Heap.get?_push_of_some _ q) (Nat.le_refl _) ?_,rfl,q _ (I.hok.fresh (Nat.le_refl _))⟩
  exact ⟨Nat.le_trans (cutV_length xs lo hi) hz,_,0,(r.drop (HT.sIx xs.length 0 lo)).take (HT.sIx xs.length xs.length hi - HT.sIx xs.length 0 lo),Heap.get?_push_size _ rfl⟩
def flatV:V→Bool
  | .non=>true
  | .bl _=>true
  | .int _=>true
  | .str _=>true
  | _=>false
def eqV:V→V→Bool
  | .non,.non=>true
  | .bl a,.bl b=>a == b
  | .bl a,.int b=>(if a then 1 else 0) == b
  | .int a,.bl b=>a == (if b then 1 else 0)
  | .int a,.int b=>a == b
  | .str a,.str b=>a == b
  | _,_=>false
theorem eqAt_V {A:Around}{s:Shared}{y x:V}{u v:Value}(ry:RelV y u) (rx:RelV x v) (fy:flatV y=true) (fx:flatV x=true):SeqAt.EqAt A s u v (eqV y x):=by
  cases y with
  | non =>
    cases ry
    cases x with
    | non=>cases rx;exact SeqAt.EqAt.same _
    | bl b=>cases rx;exact SeqAt.EqAt.none_bool b
    | int b=>obtain ⟨t,rfl⟩:=rx;exact SeqAt.EqAt.none_int b t
    | str b=>obtain ⟨t,rfl⟩:=rx;exact SeqAt.EqAt.none_str b t
    | _=>exact absurd (show false=true from fx) Bool.false_ne_true
  | bl a =>
    cases ry
    cases x with
    | non=>cases rx;exact SeqAt.EqAt.bool_none a
    | bl b=>cases rx;exact SeqAt.EqAt.bool_bool a b
    | int b=>obtain ⟨t,rfl⟩:=rx;exact SeqAt.EqAt.bool_int a b t
    | str b=>obtain ⟨t,rfl⟩:=rx;exact SeqAt.EqAt.bool_str a b t
    | _=>exact absurd (show false=true from fx) Bool.false_ne_true
  | int a =>
    obtain ⟨t',rfl⟩:=ry
    cases x with
    | non=>cases rx;exact SeqAt.EqAt.int_none a t'
    | bl b=>cases rx;exact SeqAt.EqAt.int_bool a t' b
    | int b=>obtain ⟨t,rfl⟩:=rx;exact SeqAt.EqAt.int_int a t' b t
    | str b=>obtain ⟨t,rfl⟩:=rx;exact SeqAt.EqAt.int_str a t' b t
    | _=>exact absurd (show false=true from fx) Bool.false_ne_true
  | str a =>
    obtain ⟨t',rfl⟩:=ry
    cases x with
    | non=>cases rx;exact SeqAt.EqAt.str_none a t'
    | bl b=>cases rx;exact SeqAt.EqAt.str_bool a t' b
    | int b=>obtain ⟨t,rfl⟩:=rx;exact SeqAt.EqAt.str_int a t' b t
    | str b=>obtain ⟨t,rfl⟩:=rx;exact SeqAt.EqAt.str_str a t' b t
    | _=>exact absurd (show false=true from fx) Bool.false_ne_true
  | _=>exact absurd (show false=true from fy) Bool.false_ne_true
theorem call_len_seq:CallR X (.builtin "len") (fun xs H Q=>∃ p ys,xs=[.ref p]∧(SqL X.K H p ys∨SqT X.K H p ys)∧Q (.int ys.length) H):=by
  intro pins s σ H xs us Q I r h
  obtain ⟨p,ys,rfl,hq,q⟩:=h
  obtain ⟨u,rfl,rx⟩:=vals1 r
  cases rx
  have hn:=line63
  rcases hq with hq | hq
  · obtain ⟨its,r',pl,hz⟩:=I.list hq
    have hlen:=r'.length
    exact Calls.call_len_list pl.isList (by simp only [List.size_toArray]<;>omega) ⟨.int ys.length,H,I.tok _,⟨s.toks + 1,by rw [List.size_toArray,hlen]⟩,q⟩
  · obtain ⟨its,r',pl,hz⟩:=I.tuple hq
    have hlen:=r'.length
    exact len_tuple pl (by simp only [List.size_toArray]<;>omega) ⟨.int ys.length,H,I.tok _,⟨s.toks + 1,by rw [List.size_toArray,hlen]⟩,q⟩
theorem call_len_str:CallR X (.builtin "len") (fun xs H Q=>∃ z,xs=[.str z]∧z.length≤sizeLine∧Q (.int z.length) H):=by
  intro pins s σ H xs us Q I r h
  obtain ⟨z,rfl,hz,q⟩:=h
  obtain ⟨u,rfl,t,rfl⟩:=vals1 r
  have hn:=line63
  exact len_str (by omega) ⟨.int z.length,H,I.tok _,⟨_,rfl⟩,q⟩
def tyV (K:PySem.W.Frag) (T:String) (x:V) (H:Hp):Prop:=match x with
  | .str _=>T="str"
  | .int _=>T="int"
  | .ref p=>(T="list"∧∃ xs,SqL K H p xs)∨(T="tuple"∧∃ o,K.lookup p=some o∧o.cls=.type "tuple"∧o.dict=none) ∨
      (T="dict"∧((∃ kvs,H p=some (.dK kvs))∨∃ kvs,H p=some (.dT kvs)))∨(T="set"∧∃ S n,H p=some (.set S n))
  | _=>False
theorem tyV_is {pins:List (Addr×Obj)}{σ:St}{H:Hp}{s:Shared}{T:String}{x:V}{v:Value}(I:Inv X pins σ H s) (r:RelV x v) (ty:tyV X.K T x H) :
    s.TypeIs v T∧∀ a,v=.ref a→∃ ob,s.heap.get? a=some ob∧ob.dict=none:=by
  cases x with
  | str z =>
    obtain ⟨t,rfl⟩:=r
    cases (show T="str" from ty)
    exact ⟨typeIs_str s z t,fun _ e=>nomatch e⟩
  | int i =>
    obtain ⟨t,rfl⟩:=r
    cases (show T="int" from ty)
    exact ⟨typeIs_int s i t,fun _ e=>nomatch e⟩
  | ref p =>
    cases r
    rcases ty with ⟨rfl,xs,hq⟩ | ⟨rfl,o,hk,hc,hd⟩ | ⟨rfl,hk⟩ | ⟨rfl,S,n,hk⟩
    · obtain ⟨its,_,pl,_⟩:=I.list hq
      refine ⟨pl.isList.typeIs,fun a e=>?_⟩
      cases e
      obtain ⟨o,n,e,c,hd,_⟩:=pl
      exact ⟨o,e,hd⟩
    · refine ⟨⟨o,I.kIn p o hk,hc⟩,fun a e=>?_⟩
      cases e
      exact ⟨o,I.kIn _ o hk,hd⟩
    · have z:∃ o,s.heap.get? p=some o∧o.ExactDict:=by
        rcases hk with ⟨kvs,hk⟩ | ⟨kvs,hk⟩
        · obtain ⟨_,_,_,_,o,_,_,e,ex,_⟩:=I.hok p _ hk
          exact ⟨o,e,ex⟩
        · obtain ⟨_,_,_,_,o,_,_,e,ex,_⟩:=I.hok p _ hk
          exact ⟨o,e,ex⟩
      obtain ⟨o,e,ex⟩:=z
      refine ⟨⟨o,e,ex.1⟩,fun a e2=>?_⟩
      cases e2
      exact ⟨o,e,ex.2.1⟩
    · obtain ⟨o,_,_,_,e,ex,_⟩:=I.hok p _ hk
      refine ⟨⟨o,e,ex.1⟩,fun a e2=>?_⟩
      cases e2
      exact ⟨o,e,ex.2.1⟩
  | _=>exact False.elim ty
def tBM0 (K:PySem.W.Frag) (T:String) (r:V→List V→Hp→VK→Prop) (to:TE):TE:=fun σ H Q=>to σ H fun x H1=>tyV K T x H1∧r x [] H1 Q
def tBM (K:PySem.W.Frag) (T:String) (r:V→List V→Hp→VK→Prop) (to:TE) (t:TA):TE:=fun σ H Q=>to σ H fun x H1=>tyV K T x H1∧t σ H1 fun xs H2=>r x xs H2 Q
variable {o e:Expr}{es:List Expr}{to:TE}{t:TA}{name:Str}{apos cpos:Pos}{T id:String}{r:V→List V→Hp→VK→Prop}
theorem pe_bm0 (pa:PlainAttrs T) (slot:Slot T name id) (hty:typeOf (.builtin id)=pure (.type "method_descriptor")) (hm:MtR X id r) (ho:PE X o to)
    (hbase:attributeBase o name X.env (eval o X.env)=eval o X.env:=by rfl) (hline:(apos.endLine == cpos.line)=true:=by rfl):PE X (.Call (.Attribute o name apos) [] [] cpos) (tBM0 X.K T r to):=by
  intro pins s σ H Q I h
  refine wpAny_Call_method0_late hbase hline (thn (ho pins s σ H _ I h) fun v s1 ⟨x,H1,I1,r1,ty,q1⟩=>?_)
  obtain ⟨h1,h2⟩:=tyV_is I1 r1 ty
  exact ⟨T,id,pa,slot,hty,h1,h2,Calls.callWith_builtin rfl (PySem.evalArgs_none (hm pins s1 σ H1 x [] v [] Q I1 r1 .nil q1))⟩
theorem pe_bm (pa:PlainAttrs T) (slot:Slot T name id) (hty:typeOf (.builtin id)=pure (.type "method_descriptor")) (hm:MtR X id r) (ho:PE X o to) (ha:PA X (e :: es) t)
    (hbase:attributeBase o name X.env (eval o X.env)=eval o X.env:=by rfl)
    (hfew:((backTo cpos (starEach (e :: es) X.env)).all (fun x=>!x.1) && (backToKw cpos (keywordEach [] X.env)).all (fun x=>x.1.isSome)
      && decide ((e :: es).length + ([]:List Keyword).length + (if ([]:List Keyword).isEmpty then 0 else 1) < 30))=true:=by rfl)
    (hline:(apos.endLine == cpos.line)=true:=by rfl) (hs:starEach (e :: es) X.env=(false,eval e X.env) :: starEach es X.env:=by rfl) (hplain:(backTo cpos (starEach es X.env)).any (·.1)=false:=by rfl) :
    PE X (.Call (.Attribute o name apos) (e :: es) [] cpos) (tBM X.K T r to t):=by
  intro pins s σ H Q I h
  refine wpAny_Call_method_late hbase hfew hline rfl (thn (ho pins s σ H _ I h) fun v s1 ⟨x,H1,I1,r1,ty,q1⟩=>?_)
  obtain ⟨h1,h2⟩:=tyV_is I1 r1 ty
  refine ⟨T,id,pa,slot,hty,h1,h2,?_⟩
  have hA:=ha cpos pins s1 σ H1 _ I1 q1
  rw [hs] at hA ⊢
  refine Calls.callWith_builtin (by show (false || (backTo cpos (starEach es X.env)).any (·.1))=false;rw [hplain]<;>rfl) (Calls.evalArgs_plain ?_)
  exact thn hA fun us s2 ⟨vs,H2,I2,r2,q2⟩=>hm pins s2 σ H2 x vs v us Q I2 r1 r2 q2
end
end L2
namespace L2
open PySem PySem.Spec PyProof.Rows
def MtM (X:Cx) (id:String) (r:V→List V→Hp→VK→Prop):Prop :=
  ∀ (pins:List (Addr×Obj)) (s:Shared) (σ:St) (H:Hp) (x:V) (xs:List V) (v:Value) (us:List Value) (Q:VK),Inv X pins σ H s→RelV x v→Vals xs us→r x xs H Q →
    wpAny (model X.prog X.w) X.A (call (.builtin id) (v :: us)) (EP X pins σ Q) X.xe s
theorem Vals.one:∀ {x:V}{us:List Value},Vals [x] us→∃ u,us=[u]∧RelV x u
  | _,_,.cons r .nil=>⟨_,rfl,r⟩
theorem Vals.zero:∀ {us:List Value},Vals [] us→us=[]
  | _,.nil=>rfl
theorem Vals.dropLast {xs:List V}{us:List Value}(h:Vals xs us):Vals xs.dropLast us.dropLast:=by
  induction h with
  | nil=>exact .nil
  | cons r t ih =>
    cases t with
    | nil=>exact .nil
    | cons q t'=>exact .cons r ih
theorem erase_last {α:Type}(l:List α):l.eraseIdx (l.length - 1)=l.dropLast:=by
  induction l with
  | nil=>rfl
  | cons a r ih =>
    cases r with
    | nil=>rfl
    | cons b r =>
      have e:(a :: b :: r).length - 1=((b :: r).length - 1) + 1:=by
        have h1:(a :: b :: r).length=r.length + 2:=rfl
        have h2:(b :: r).length=r.length + 1:=rfl
        omega
      rw [e,List.eraseIdx_cons_succ,ih]
      all_goals rfl
section
variable {X:Cx}{pins:List (Addr×Obj)}{σ:St}{H:Hp}{s:Shared}{l b:Addr}{xs ys zs:List V}
theorem Inv.lset {its its':List Value}{n:Nat}{f:Array Value→Array Value}{t':Nat}(I:Inv X pins σ H s) (hH:H l=some (.lst xs))
    (e:s.heap.get? l=some { cls:=.type "list",data:=.seq its.toArray n }) (hf:f its.toArray=its'.toArray) (hv:Vals ys its') (hz:ys.length≤sizeLine) :
    Inv X pins σ (upd H l (.lst ys)) { s with heap:=s.heap.update l (Obj.mapSeq f),toks:=t' }:=by
  have q:=PySem.IsL.update e f
  rw [hf] at q
  refine I.write (x:=l) (e:=l) (by rw [hH];exact trivial) (.inl rfl) (fun b' u hb hu=>(Heap.get?_update_other s.heap (Obj.mapSeq f) (Ne.symm hb)).trans hu) ⟨_,q⟩ ?_
  exact ⟨hz,its',_,hv,q⟩
theorem Inv.lnew {its:List Value}{t':Nat}(I:Inv X pins σ H s) (hv:Vals ys its) (hz:ys.length≤sizeLine) :
    Inv X pins σ (upd H s.heap.objs.size (.lst ys)) { s with heap:=s.heap.push { cls:=.type "list",data:=.seq its.toArray },toks:=t' } :=
  I.laid (fun _ _ q=>Heap.get?_push_of_some _ q) (Nat.le_refl _) ⟨hz,its,0,hv,Heap.get?_push_size _ rfl⟩
theorem Inv.fresh (I:Inv X pins σ H s):H s.heap.objs.size=none:=I.hok.fresh (Nat.le_refl _)
theorem Inv.lstM (I:Inv X pins σ H s) (hH:H l=some (.lst xs)):xs.length≤sizeLine∧∃ (its:List Value) (n:Nat),Vals xs its∧xs.length=its.length∧s.heap.get? l=some { cls:=.type "list",data:=.seq its.toArray n }:=by
  obtain ⟨z,its,n,r,e⟩:=I.hok l _ hH
  exact ⟨z,its,n,r,r.length,e⟩
end
section
variable {X:Cx}
def rAppend:V→List V→Hp→VK→Prop:=fun x vs H Q=>∃ l xs y,x=.ref l∧vs=[y]∧H l=some (.lst xs)∧xs.length < sizeLine∧Q .non (upd H l (.lst (xs ++ [y])))
theorem mt_append:MtM X "list.append" rAppend:=by
  intro pins s σ H x vs v us Q I rx rv h
  obtain ⟨l,xs,y,rfl,rfl,hH,hz,q⟩:=h
  cases rx
  obtain ⟨u,rfl,ru⟩:=rv.one
  obtain ⟨z,its,n,r,hl,e⟩:=I.lstM hH
  refine call_meets F.slot_list_append ⟨_,e,rfl⟩ F.entry_list_append (F.args_list_append_2 _ _) (PySem.list_append l its.toArray n u (by rw [List.size_toArray];omega)) ⟨e,?_⟩
  refine ⟨.non,_,I.lset (its':=its ++ [u]) hH e (by simp) (r.append (.cons ru .nil)) ?_,rfl,q⟩
  rw [List.length_append,List.length_singleton]
  omega
def rPop:V→List V→Hp→VK→Prop:=fun x vs H Q=>∃ l xs y,x=.ref l∧vs=[]∧H l=some (.lst xs)∧xs[xs.length - 1]?=some y∧Q y (upd H l (.lst xs.dropLast))
theorem mt_pop:MtM X "list.pop" rPop:=by
  intro pins s σ H x vs v us Q I rx rv h
  obtain ⟨l,xs,y,rfl,rfl,hH,hy,q⟩:=h
  cases rx
  have hus:=rv.zero
  subst hus
  obtain ⟨z,its,n,r,hl,e⟩:=I.lstM hH
  obtain ⟨u,hu,ru⟩:=r.get hy
  have hy':its.toArray[its.toArray.size - 1]?=some u:=by
    show its.toArray[its.length - 1]?=some u
    rw [← Array.getElem?_toList,← hl]
    exact hu
  refine call_meets F.slot_list_pop ⟨_,e,rfl⟩ F.entry_list_pop (F.args_list_pop_1 _) (MeetsSeq.list_pop_last l its.toArray n u hy' (by rw [List.size_toArray];omega)) ⟨e,?_⟩
  refine ⟨y,_,I.lset (its':=its.dropLast) hH e ?_ r.dropLast ?_,ru,q⟩
  · show its.toArray.eraseIdxIfInBounds (its.toArray.size - 1)=its.dropLast.toArray
    rw [List.size_toArray,List.eraseIdxIfInBounds_toArray,erase_last]
  · rw [List.length_dropLast]
    omega
def rCat:R2:=fun x y H Q=>∃ l b xs zs,x=.ref l∧y=.ref b∧H l=some (.lst xs)∧H b=some (.lst zs)∧xs.length + zs.length≤sizeLine∧∀ p,H p=none→Q (.ref p) (upd H p (.lst (xs ++ zs)))
theorem op_cat:OpR X (binaryOp .Add) rCat:=by
  intro pins s σ H x y v u Q I rx ry h
  obtain ⟨l,b,xs,zs,rfl,rfl,hH,hB,hz,q⟩:=h
  cases rx
  cases ry
  obtain ⟨z,its,n,r,hl,e⟩:=I.lstM hH
  obtain ⟨z2,its2,n2,r2,hl2,e2⟩:=I.lstM hB
  refine PySem.P.add_list e e2 ?_ (by rw [List.size_toArray,List.size_toArray];omega)
  have ea:its.toArray ++ its2.toArray=(its ++ its2).toArray:=by simp
  rw [ea]
  exact ⟨.ref _,_,I.lnew (t':=s.toks) (r.append r2) (by rw [List.length_append];omega),rfl,q _ I.fresh⟩
end
section
variable {prog:Program}{w:World}{A:Around}{E:Value→Shared→Prop}{s:Shared}
set_option maxRecDepth 100000 in
end
section
variable {X:Cx}
end
end L2
namespace Att
open PySem PySem.W PySem.Calls PyProof.Rows
theorem ints_of_wellAll {P:Params}{h:Heap}:∀ (ns:List Int) (vs:List Value),WellAll P h vs (ns.map WData.int)→IntsAre vs ns:=by
  intro ns
  induction ns with
  | nil =>
    intro vs w
    rw [List.map_nil] at w
    cases w
    exact .nil
  | cons n ns ih =>
    intro vs w
    rw [List.map_cons] at w
    cases w with
    | cons a b =>
      cases a
      exact .cons _ _ (ih _ b)
theorem script_of {l:OpenLaw}{n:Nat}(hn:l.most=some n) {P:Params}{h:Heap}{args:List WData}{vals:List Value}
    (hpre:l.row.toRowW.claim.pre args=true) (hwl:WellAll P h vals args) :
    ∃ a vs ns,vals=[Value.ref a]∧args=[WData.list (ns.map WData.int)]∧h.get? a=some { cls:=.type "list",data:=.seq vs.toArray }∧IntsAre vs ns∧ns.length≤n:=by
  have hsh:WShape.hasAll [] args [.list .int]=true:=(pre_splitW hpre).1
  have hc:l.pre.holds [] { args:=args }=true:=(pre_splitW hpre).2
  obtain ⟨d,r,rfl,h1,h2⟩:=hasAllW_cons hsh
  obtain rfl:=hasAllW_nil h2
  obtain ⟨xs,rfl,h3⟩:=hasW_list h1
  obtain ⟨ns,rfl⟩:=items_int h3
  have hlen:ns.length≤n:=by
    unfold OpenLaw.pre at hc
    have h4:(WTm.not (.lt (.lit (.int (n:Int))) (.len (.arg 0)))).holds [] { args:=[.list (ns.map .int)] }=true:=by
      have h4:=(holds_andW hc).1
      rw [hn] at h4
      exact h4
    have h5:=condW_of h4 (w_not (w_lt w_lit (w_len_list (w_arg rfl))))
    rw [List.length_map] at h5
    refine Nat.le_of_not_lt fun q=>?_
    have q':(n:Int) < ((ns.length:Nat):Int):=by omega
    first
      | (rw [decide_eq_true q'] at h5;exact absurd h5 (by decide))
      | (simp at h5;omega)
  cases hwl with
  | cons w1 w2 =>
    cases w2
    cases w1 with
    | list ho hall=>exact ⟨_,_,ns,rfl,rfl,ho,ints_of_wellAll ns _ hall,hlen⟩
theorem post_true (l:OpenLaw) (args:List WData):l.row.toRowW.claim.post args (.bool true) args=true :=
  postW_of (r:=l.row.toRowW) (X:=(true == true))
    (show WShape.has [] (.bool true) .bool=true by first | rfl | decide | simp [WShape.has,WShape.arms,WShape.armsAll])
    (show (WTm.eq .res (.lit (.bool true))).value [] { args:=args,res:=some (.bool true),after:=args }=some (.bool (true == true)) from w_eq_bool (w_res rfl) w_lit) rfl
theorem attach_call {l:OpenLaw}{n:Nat}{q:Program}{loose:List Str}{XP:(Str→Option Value)→Heap→Prop}{YP:World→Heap→Prop}{d:DefRec}
    (hn:l.most=some n) (hdf:d.params.defaults=[])
    (call:∀ (w:World) (s₀ s₁:Shared) (mg mb:Str→Option Value) (fa:Addr) (o:Obj) (pm cd doc:Value) (a:Addr) (vs:List Value) (ns:List Int),
      Ground q loose [] XP w s₀ mg mb s₁.heap→YP w s₁.heap →
      s₁.heap.get? fa=some o→o.data=.func (docDef d.name d.params d.body d.scope pm cd doc)→s₁.heap.CodeRec cd d.name→mg d.name=some (.ref fa) →
      s₁.heap.get? a=some { cls:=.type "list",data:=.seq vs.toArray }→IntsAre vs ns→ns.length≤n→s₁.gens=#[] →
      codeAny (model l.prog w) callerA (.call (.ref fa) ⟨[.ref a],[]⟩) (fun r s'=>r=.ok (.ret (.bool true))∧OldK s₁.heap s'.heap∧s'.os=s₁.os∧AllBare s'.gens) s₁) :
    WalkO q loose XP YP l.row.toRowW d [] (fun f vs=>PySem.call f vs):=by
  intro w s₀ s₁ mg mb G Y fa o pm cd doc dV kV ho hd hcd hD hmg hg args vals as hpre hlay hrd hwl hlo
  obtain rfl:dV=.none:=Dflts.none hD hdf
  obtain rfl:kV=.none:=Dflts.noKw hD
  obtain ⟨a,vs,ns,rfl,rfl,hobj,hints,hlen⟩:=script_of hn hpre hwl
  refine enter_call (codeAny_mono (call w s₀ s₁ mg mb fa o pm cd doc a vs ns G Y ho (fd_plain hd) hcd hmg hobj hints hlen hg) fun r s' hq=>?_)
  obtain ⟨rfl,h2,h3,h4⟩:=hq
  exact ⟨.inl ⟨.bool true,.bool true,[],rfl,fun _=>rfl,.bool true,post_true l _,fun _=>⟨List.Pairwise.nil,fun _ hm=>(nomatch hm)⟩⟩,h2,h3,h4⟩
section
variable {prog:Program}{w:World}{A:Around}{E:Value→Shared→Prop}{s:Shared}{K:Frag}
end
end Att
namespace L2
open PySem PySem.Spec PyProof.Rows
theorem vals_ints:∀ {vs:List Value}{ns:List Int},IntsAre vs ns→Vals (ns.map V.int) vs
  | _,_,.nil=>.nil
  | _,_,.cons n t h=>.cons ⟨t,rfl⟩ (vals_ints h)
def Only (H:Hp):Prop:=∀ b,H b=none∨∃ o xs,H b=some (.frz o (.lst xs))
theorem law_call {P:Program}{w:World}{K:PySem.W.Frag}{mg mb:Str→Option Value}{CX:CXT}{k:Nat}{fa a:Addr}{fd:FuncData}{x:Str}{sp:Sp}{s₁:Shared}{vs:List Value}{ns:List Int}
    (KX:K.In s₁.heap) (hns:s₁.heap.Ns mainGlobals mg) (hb:s₁.heap.Ns builtinsNs mb) (hbb:∀ x:Str,x≠"__name__"→mb x=bootBuiltins x) (hlim:s₁.heap.NoLimit) (hg:s₁.gens=#[])
    (ha:s₁.heap.get? a=some { cls:=.type "list",data:=.seq vs.toArray }) (hi:IntsAre vs ns) (hl:ns.length≤sizeLine) (hr:Room k callerA)
    (F:∀ base:Heap,K.In base→base.Ns mainGlobals mg→FnOk P w K mg base CX k fa fd [x] sp) (hbind:∀ (s:Shared) (u:Value),BindsTo s fd ⟨[u],[]⟩ [(x,u)])
    (hsp:∀ H:Hp,Only H→SqL K H a (ns.map V.int)→sp [.ref a] H (fun v _=>v=.bl true) fun _ _ _=>False)
    (hCX:∀ H e s',CX [] H s₁ (fun _ _ _=>False) e s'→False) :
    codeAny (model P w) callerA (.call (.ref fa) ⟨[.ref a],[]⟩) (fun r s'=>r=.ok (.ret (.bool true))∧OldK s₁.heap s'.heap∧s'.os=s₁.os∧AllBare s'.gens) s₁:=by
  have rv:=vals_ints hi
  have lenV:=hi.length
  have core:∀ H:Hp,Only H→SqL K H a (ns.map V.int)→HOk P w H s₁.heap→(∀ b,H b≠none→b=a)→(H a≠none→K.lookup a=none) →
      codeAny (model P w) callerA (.call (.ref fa) ⟨[.ref a],[]⟩) (fun r s'=>r=.ok (.ret (.bool true))∧OldK s₁.heap s'.heap∧s'.os=s₁.os∧AllBare s'.gens) s₁:=by
    intro H hO hS hok hA hK
    have base_of:∀ {b:Addr} {o:Obj},s₁.heap.get? b=some o→H b=none→(hidT s₁.heap H).get? b=some o:=fun e n=>hidT_get e n
    have noA:∀ {b:Addr} {o:Obj} {es:Array DictEntry} {ep:Nat},s₁.heap.get? b=some o→o.data=.dict es ep→H b=none:=fun {b o es ep} e d=>by
      cases q:H b with
      | none=>rfl
      | some u =>
        have e':b=a:=hA b (by rw [q];simp)
        subst e'
        rw [ha] at e;cases e
        have d':Data.seq vs.toArray _=Data.dict es ep:=d
        cases d'
    have nsK:∀ {b:Addr} {m:Str→Option Value},s₁.heap.Ns b m→(hidT s₁.heap H).Ns b m:=fun {b m} ⟨o,es,ep,e,d,r⟩=>⟨o,es,ep,base_of e (noA e d),d,r⟩
    have hKb:K.In (hidT s₁.heap H):=fun b o e=>base_of (KX b o e) (by
      cases q:H b with
      | none=>rfl
      | some u =>
        have e':b=a:=hA b (by rw [q];simp)
        subst e'
        rw [hK (by rw [q];simp)] at e;cases e)
    have hM:Mod K mg (hidT s₁.heap H):=⟨hKb,nsK hns,⟨mb,nsK hb,hbb⟩,let ⟨mc,h1,h2⟩:=hlim;⟨mc,nsK h1,h2⟩⟩
    have e0:Env0 P w K mg (hidT s₁.heap H) callerA [] s₁ H:=⟨rfl,hM,fun b o e=>of_hidT e,Nat.le_of_eq (hidT_size _ _),trivial,fun b hb=>absurd (show b∈([]:List Addr) from hb) (by simp),hok,.of_eq hg⟩
    refine codeAny_mono ((F _ hKb (nsK hns)).run callerA [] s₁ H ⟨[.ref a],[]⟩ [.ref a] [.ref a] _ _ hr e0 (hbind s₁ (.ref a)) (.cons rfl .nil) (hsp H hO hS)) fun r s' h=>?_
    cases r with
    | error e=>exact (hCX H e s' h).elim
    | ok fl =>
      cases fl with
      | next=>exact False.elim h
      | brk=>exact False.elim h
      | cont=>exact False.elim h
      | ret u =>
        obtain ⟨v,H',os,bare,un,hok',r',q⟩:=h
        have q':v=.bl true:=q
        subst q'
        obtain rfl:u=Value.bool true:=r'
        refine ⟨rfl,OldK.of_keep fun b o e=>?_,os,bare⟩
        cases q:H b with
        | none=>exact un.keep b o e q (by intro z;exact absurd (show b∈([]:List Addr) from z) (by simp)) (by simp)
        | some u =>
          rcases hO b with z | ⟨ob,xs,z⟩
          · rw [q] at z;cases z
          · have z2:=un.frzs b ob _ z
            obtain ⟨e1,_⟩:=hok b _ z
            obtain ⟨e2,_⟩:=hok' b _ z2
            rw [e] at e1;cases e1
            exact e2
  cases hk:K.lookup a with
  | some o =>
    have e:=KX a o hk
    rw [ha] at e
    cases e
    refine core (fun _=>none) (fun _=>.inl rfl) (.inr ⟨_,vs.toArray,_,hk,rfl,rfl,rfl,by rw [List.size_toArray,lenV];exact hl,by simpa using rv⟩) (fun b u z=>by have z':(none:Option HO)=some u:=z;cases z') (fun b z=>absurd rfl z) fun z=>absurd rfl z
  | none =>
    refine core (fun b=>if b=a then some (.frz { cls:=.type "list",data:=.seq vs.toArray } (.lst (ns.map V.int))) else none) (fun b=>?_) (.inl (.inr ⟨{ cls:=.type "list",data:=.seq vs.toArray },if_pos rfl⟩)) (fun b u z=>?_) (fun b z=>?_) fun _=>hk
    · by_cases hb:b=a
      · exact .inr ⟨_,_,if_pos hb⟩
      · exact .inl (if_neg hb)
    · by_cases hb:b=a
      · have z':=(if_pos hb).symm.trans z
        cases z'
        subst hb
        exact ⟨ha,by rw [List.length_map];exact hl,vs,_,rv,ha⟩
      · have z':=(if_neg hb).symm.trans z
        cases z'
    · by_cases hb:b=a
      · exact hb
      · exact absurd (if_neg hb) z
end L2
namespace L2
open PySem PySem.Spec PyProof.Rows
theorem walk_of {l:PySem.W.OpenLaw}{n k:Nat}{q:Program}{loose:List Str}{XP:(Str→Option Value)→Heap→Prop}{YP:World→Heap→Prop}{d:DefRec}{K:Params→PySem.W.Frag}{CX:World→CXT}{sp:World→Sp}{x:Str}
    (hn:l.most=some n) (hn2:n≤sizeLine) (hdf:d.params.defaults=[]) (hr:Room k callerA)
    (hY:∀ (w:World) (h:Heap),YP w h→(K w.params).In h)
    (F:∀ (w:World) (mg:Str→Option Value) (fa:Addr) (h:Heap),(K w.params).In h→h.Ns mainGlobals mg→mg d.name=some (.ref fa) →
      ∃ fd:FuncData,(∀ (s:Shared) (u:Value),BindsTo s fd ⟨[u],[]⟩ [(x,u)]) ∧
        ∀ base:Heap,(K w.params).In base→base.Ns mainGlobals mg→FnOk l.prog w (K w.params) mg base (CX w) k fa fd [x] (sp w))
    (hsp:∀ (w:World) (H:Hp) (a:Addr) (ns:List Int),ns.length≤n→Only H→SqL (K w.params) H a (ns.map V.int)→sp w [.ref a] H (fun v _=>v=.bl true) fun _ _ _=>False)
    (hCX:∀ (w:World) (H:Hp) (s:Shared) (e:Value) (s':Shared),CX w [] H s (fun _ _ _=>False) e s'→False) :
    PySem.W.WalkO q loose XP YP l.row.toRowW d [] (fun f vs=>PySem.call f vs):=by
  refine Att.attach_call hn hdf fun w s₀ s₁ mg mb fa o pm cd doc a vs ns G Y ho hd hcd hmg hobj hints hlen hg=>?_
  have KX:=hY w _ Y
  obtain ⟨fd,hb,hF⟩:=F w mg fa _ KX G.T.g hmg
  exact law_call KX G.T.g G.T.b G.T.builtins G.T.nolimit hg hobj hints (Nat.le_trans hlen hn2) hr hF hb (fun H hO hS=>hsp w H a ns hlen hO hS) fun H e s'=>hCX w H s₁ e s'
end L2
namespace L2
open PySem PySem.Spec PyProof.Rows
def inClass (s:Stmt) (j:Nat):Stmt:=match s with
  | .ClassDef _ _ _ body _ _ _ _ _ _ _=>body.getD j (.Pass ⟨0,0,0,0⟩)
  | _=>.Pass ⟨0,0,0,0⟩
def defArgs (s:Stmt):Arguments:=match s with
  | .FunctionDef _ a _ _ _ _ _ _ _ _=>a
  | _=>{ posonlyargs:=[],args:=[],vararg:=none,kwonlyargs:=[],kw_defaults:=[],kwarg:=none,defaults:=[] }
def defBody (s:Stmt):List Stmt:=match s with
  | .FunctionDef _ _ b _ _ _ _ _ _ _=>b
  | _=>[]
def defScope (s:Stmt):Scope:=match s with
  | .FunctionDef _ _ _ _ _ _ sc _ _ _=>sc
  | _=>{ kind:=.function,names:=[],isGenerator:=false,isCoroutine:=false }
abbrev CX0:CXT:=fun _ _ _ _ _ _=>False
abbrev E0:XK:=fun _ _ _=>False
theorem pass0 {X:Cx}:Passes CX0 X E0:=fun _ _ _ _ _ _ _ h=>h.elim
structure Fun (K:PySem.W.Frag) (x qual:Str) (st:Stmt) (f:Addr) (fd:FuncData):Prop where
  ex:∃ (oc:Value) (od:Option Addr) (kV doc pm:Value) (an:Option Addr) (cdv ct:Value) (osl:Array (Option Value)),
    fd=PySem.W.fnOf x qual (defArgs st) (defBody st) (defScope st) .none kV doc pm an cdv ct∧K.lookup f=some ⟨oc,od,.func fd,osl⟩∧PySem.W.codeIn K cdv qual=true
  kp:PySem.W.keepIn K (.ref f)=true
section
variable {P:Program}{w:World}{K:PySem.W.Frag}{mg:Str→Option Value}{base:Heap}
theorem Fun.ok {x qual:Str}{st:Stmt}{f:Addr}{fd:FuncData}{N ps:List Str}{k:Nat}{sp:Sp}(F:Fun K x qual st f fd) (S:FnScope N ps (defScope st)) (len:∀ vs H Q E,sp vs H Q E→vs.length=ps.length)
    (hbody:∀ (cdv:Value) (A:Around) (outer:List Env) (s:Shared) (H:Hp) (vs:List V) (Q:VK) (E:XK),Room k (A.deeper (envOfC qual (defScope st) s.heap.objs.size f cdv))→sp vs H Q E →
      ∃ t,PSs (cxOf CX0 P w K mg base N qual (defScope st) f cdv A outer s H E).nox (defBody st) t∧t { nx:=fun _ H'=>Q .non H',rt:=Q } (start N vs) H):FnOk P w K mg base CX0 (k + 1) f fd ps sp:=by
  obtain ⟨oc,od,kV,doc,pm,an,cdv,ct,osl,rfl,lk,hcd⟩:=F.ex
  refine fn_of lk hcd S len fun A outer s H vs Q E hr hsp=>?_
  obtain ⟨t,h,q⟩:=hbody cdv A outer s H vs Q E hr hsp
  exact ⟨t,h.nox,q⟩
theorem Fun.binds {x qual:Str}{st:Stmt}{f:Addr}{fd:FuncData}{ps:List Str}(F:Fun K x qual st f fd)
    (h:∀ (kV doc pm:Value) (an:Option Addr) (cdv ct:Value) (us:List Value),us.length=ps.length→bindArgs (PySem.W.fnOf x qual (defArgs st) (defBody st) (defScope st) .none kV doc pm an cdv ct) ⟨us,[]⟩=pure (ps.zip us)):Binds K fd ps []:=by
  obtain ⟨oc,od,kV,doc,pm,an,cdv,ct,osl,rfl,lk,hcd⟩:=F.ex
  exact .all (h kV doc pm an cdv ct)
theorem fun_mk {x qual:Str}{st:Stmt}{f:Addr}{oc:Value}{od an:Option Addr}{osl:Array (Option Value)}{kV doc pm cdv ct:Value}(l:K.lookup f=some ⟨oc,od,.func (PySem.W.fnOf x qual (defArgs st) (defBody st) (defScope st) .none kV doc pm an cdv ct),osl⟩)
    (c:PySem.W.codeIn K cdv qual=true) (k:PySem.W.keepIn K (.ref f)=true):Fun K x qual st f (PySem.W.fnOf x qual (defArgs st) (defBody st) (defScope st) .none kV doc pm an cdv ct):=⟨⟨oc,od,kV,doc,pm,an,cdv,ct,osl,rfl,l,c⟩,k⟩
end
theorem small1000 {n:Nat}(h:n≤1000):n < sizeLine:=Nat.lt_of_le_of_lt h (by decide)
section
variable {X:Cx}
theorem pv (i:Nat) {x:Str}{pos:Pos}(hN:X.N[i]?=some x:=by rfl) (hv:Vis X.env.scope x:=by first | exact Or.inl rfl | exact Or.inr (Or.inl rfl) | exact Or.inr (Or.inr rfl)) (hd:(x == ("__debug__":Str))=false:=by decide)
    (hcd:(x == ("__classdict__":Str))=false:=by decide):PE X (.Name x pos) (tVar i):=pe_var hN hv hd hcd
end
theorem iteF {A B:Prop}(h:B):if false=true then A else B:=by
  rw [if_neg Bool.false_ne_true]
  exact h
theorem iteT {A B:Prop}(h:A):if true=true then A else B:=by
  rw [if_pos rfl]
  exact h
theorem ite2 {c A B:Prop} [Decidable c] (h1:c→A) (h2:¬ c→B):if c then A else B:=by
  by_cases h:c
  · rw [if_pos h]
    exact h1 h
  · rw [if_neg h]
    exact h2 h
theorem iteNS {c A B:Prop} [Decidable c] (hc:c) (h:B):if (!decide c)=true then A else B:=by
  rw [decide_eq_true hc]
  exact iteF h
def Same (H H':Hp):Prop:=∀ b o,H b=some o→H' b=some o
theorem Same.refl (H:Hp):Same H H:=fun _ _ h=>h
theorem Same.trans {H H1 H2:Hp}(a:Same H H1) (b:Same H1 H2):Same H H2:=fun c o h=>b c o (a c o h)
theorem Same.free {H H':Hp}(e:Same H H') {l:Addr}(h:H' l=Option.none):H l=Option.none:=by
  cases q:H l with
  | none=>rfl
  | some o =>
    rw [e l o q] at h
    cases h
theorem Same.seq {K:PySem.W.Frag}{H H':Hp}{a:Addr}{xs:List V}(e:Same H H') (h:SqL K H a xs):SqL K H' a xs:=by
  rcases h with (h | ⟨o,h⟩) | h
  · exact .inl (.inl (e _ _ h))
  · exact .inl (.inr ⟨o,e _ _ h⟩)
  · exact .inr h
end L2
set_option maxHeartbeats 2000000
namespace L2
open PySem PySem.Spec PyProof.Rows
section
variable {κ:Type} [DecidableEq κ]
end
section
variable {P:Program}{w:World}{H:Hp}{h:Heap}{a:Addr}
end
section
variable {X:Cx}{pins:List (Addr×Obj)}{σ:St}{H:Hp}{s:Shared}{a:Addr}{y v:V}{u r:Value}{o:Option V}{A:Around}{E:Value→Shared→Prop}
end
section
variable {X:Cx}{pins:List (Addr×Obj)}{σ:St}{H:Hp}{s:Shared}{a:Addr}{kvs:List (Key×V)}{k:Key}{u:Value}{A:Around}{E:Value→Shared→Prop}
end
section
variable {X:Cx}{o i e value:Expr}{pos pos' tpos:Pos}{td ty tv:TE}
end
section
variable {X:Cx}{pos:Pos}
end
section
variable {X:Cx}{pins:List (Addr×Obj)}{σ:St}{H:Hp}{s:Shared}{a:Addr}{y d:V}{u r:Value}{o:Option V}{A:Around}{E:Value→Shared→Prop}
end
section
variable {X:Cx}{o e f:Expr}{apos cpos:Pos}{td ty tx:TE}
end
section
variable {X:Cx}{pins:List (Addr×Obj)}{σ:St}{H:Hp}{s:Shared}{a:Addr}{kvs:List (Key×V)}{A:Around}{E:Value→Shared→Prop}
end
section
variable {X:Cx}{pins:List (Addr×Obj)}{σ:St}{H:Hp}{s:Shared}{a:Addr}{y:V}{u:Value}{A:Around}{E:Value→Shared→Prop}
end
end L2
namespace L2
open PySem PySem.Spec PyProof.Rows
section
variable {X:Cx}
end
section
variable {κ:Type} [DecidableEq κ]
end
end L2
namespace PySem
open Sem (wp)
open AutoSeq1 (wpAny_loadPart')
section
variable {prog:Program}{w:World}{A:Around}{E:Value→Shared→Prop}{s:Shared}
theorem callType_meetsK {T newId initId:String}{Bn Bi:Builtin}{args:List Value}{kw:List (Str×Value)}{S:Spec}{Q Q₁:Value→Shared→Prop}(ft:TypeCalled T newId initId)
    (hct:checkTypeCall T ⟨args,kw⟩=pure ()) (hcn:checkBuiltinCall newId ⟨.type T :: args,kw⟩=pure ())
    (entryN:entryFor table newId=some Bn) (entryI:entryFor table initId=some Bi) (g:Meets (Bn ⟨.type T :: args,kw⟩) S)
    (h:S A.in1 (wants Q₁ E) s)
    (hnext:∀ obj s₁,Q₁ obj s₁→s₁.TypeIs obj T∧argsOk initId ⟨obj :: args,kw⟩∧∃ Si,Meets (Bi ⟨obj :: args,kw⟩) Si∧Si A.in1 (wants (fun r s₂=>r=.none∧Q obj s₂) E) s₁) :
    wpAny (model prog w) A (call (.type T) args kw) Q E s:=by
  obtain ⟨c,tl,hmro⟩:=ft.mro
  have hmade:=ft.made
  have hsub:=ft.sub
  refine wpAny_call (codeAny_of_tree ?_)
  show wpAny _ _ (callAny (.type T) _) _ _ _
  refine wpAny_pure ⟨Code.quiet_builtin _ (by decide +kernel),codeAny_builtin F.entry_type_call ?_⟩
  rw [Around.under_plain (weight_type_call_type T args kw) (units_type_call_type T args kw)]
  have h1:=ft.notType
  have h2:=ft.canCreate
  repeat (any_goals (first | assumption | wp_step))
  refine codeAny_mono (codeAny_call_builtin ft.plain entryN (wpAny_of_eq hcn (g prog w A.in1 _ s h))) fun r s₁ hr=>?_
  cases r with
  | error e=>exact hr
  | ok fl =>
    cases fl with
    | ret obj =>
      obtain ⟨hT,hok,Si,gi,hsi⟩:=hnext _ _ hr
      have hli:=ft.init.lookup
      have hbi:=ft.init.bind obj
      repeat (any_goals (first | assumption | wp_step))
      refine codeAny_mono (codeAny_call_builtin ft.init.plain entryI (ft.init.check _ _ _ _ _ _ _ _ hT hok (gi prog w A.in1 _ s₁ hsi))) fun r₂ s₂ hr₂=>?_
      cases r₂ with
      | error e=>exact hr₂
      | ok fl₂ =>
        cases fl₂ with
        | ret r =>
          obtain ⟨rfl,hq⟩:=hr₂
          repeat (any_goals (first | assumption | wp_step))
        | _=>exact hr₂.elim
    | _=>exact hr.elim
end
theorem object_init_meetsK {T newId:String}{self:Value}{rest:List Value}{kw:List (Str×Value)}(hl:typeLookup (.type T) "__init__"=pure (some (.builtin "object.__init__")))
    (hm:Bind.madeBy (.type T)=pure (some newId)) (hne:(some newId != some "object.__new__")=true) :
    Meets (Builtin.«object.__init__» ⟨self :: rest,kw⟩) (fun _ R s=>s.TypeIs self T∧R (.ok (.ret .none)) s):=by
  refine Meets.of_wp fun prog w A R s hs=>?_
  obtain ⟨hT,hq⟩:=hs
  cases rest with
  | nil =>
    cases kw with
    | nil=>exact wpAny_pure ⟨_,rfl,hq⟩
    | cons b kw =>
      repeat (any_goals (first | assumption | wp_step))
      exact ⟨_,rfl,hq⟩
  | cons a rest =>
    repeat (any_goals (first | assumption | wp_step))
    exact ⟨_,rfl,hq⟩
abbrev kwS (k:Int) (t:Tok):List (Str×Value):=[("start",.int k t)]
theorem typeCall_enumS (a:Value) (k:Int) (t:Tok):checkTypeCall "enumerate" ⟨[a],kwS k t⟩=pure ():=by kernel_rfl
theorem newCall_enumS (a:Value) (k:Int) (t:Tok):checkBuiltinCall "enumerate.__new__" ⟨[.type "enumerate",a],kwS k t⟩=pure ():=by kernel_rfl
theorem args_initS (o a:Value) (k:Int) (t:Tok):argsOk "object.__init__" ⟨[o,a],kwS k t⟩:=by unfold argsOk;kernel_rfl
theorem meets_enumerate_newS1 (l:Addr) (items:Array Value) (n:Nat) (dct:Option Addr) (sl:Array (Option Value)) (t:Tok) :
    Meets (Builtin.«enumerate.__new__» ⟨[.type "enumerate",.ref l],kwS 1 t⟩) (fun _ R s=>s.heap.get? l=some { cls:=.type "list",dict:=dct,data:=.seq items n,slots:=sl } ∧
      R (.ok (.ret (.ref (s.heap.push { cls:=.type "list_iterator",data:=.fields #[.ref l,.int 0 0] }).objs.size)))
        { s with heap:=(s.heap.push { cls:=.type "list_iterator",data:=.fields #[.ref l,.int 0 0] }).push { cls:=.type "enumerate",data:=.fields #[.none,.bool false,.ref s.heap.objs.size,rawInt 1,.none,.none] } }) :=
  .of_wp fun prog w A R s h=>by
    obtain ⟨hp,g,d,tk,os⟩:=s;obtain ⟨hl,h⟩:=h
    have hsub:=sub_enumerate
    have hL:Heap.IsList (Shared.heap ⟨hp,g,d,tk,os⟩) l items:=⟨_,hl,rfl,n,rfl⟩
    wp_walk using wpAny_loadPart' hl
    refine wpAny_stack_any fun st=>wpAny_pure ?_
    split
    · rename_i c _ _ _ _ _
      cases (c == Value.type "enumerate")
      · wp_walk using wpAny_loadPart' hl,wpAny_pyIter_list hL
        exact ⟨_,rfl,h⟩
      · wp_walk using wpAny_loadPart' hl,wpAny_pyIter_list hL
        exact ⟨_,rfl,h⟩
    · wp_walk using wpAny_loadPart' hl,wpAny_pyIter_list hL
      exact ⟨_,rfl,h⟩
section
variable {prog:Program}{w:World}{A:Around}{E:Value→Shared→Prop}{s:Shared}
theorem call_enumS {l:Addr}{items:Array Value}{t:Tok}{Q:Value→Shared→Prop}(hL:s.heap.IsList l items)
    (h:∀ h',IsEnum h' (s.heap.objs.size + 1) s.heap.objs.size 1 .none→h'.IsListIter s.heap.objs.size l 0→h'.objs.size=s.heap.objs.size + 2 →
      (∀ b o,s.heap.get? b=some o→h'.get? b=some o)→Q (.ref (s.heap.objs.size + 1)) { s with heap:=h' }) :
    wpAny (model prog w) A (call (.type "enumerate") [.ref l] (kwS 1 t)) Q E s:=by
  obtain ⟨⟨c,dct,dt,sl⟩,hl,hc,n,hd⟩:=hL
  have hc:c=.type "list":=hc
  have hd:dt=.seq items n:=hd
  subst hc hd
  have hz:(s.heap.push { cls:=.type "list_iterator",data:=.fields #[.ref l,.int 0 0] }).objs.size=s.heap.objs.size + 1:=Heap.size_push ..
  refine callType_meetsK F.called_enumerate (typeCall_enumS _ _ _) (newCall_enumS _ _ _) F.entry_enumerate_new F.entry_object_init (meets_enumerate_newS1 l items n dct sl t)
    (Q₁:=fun obj s₁=>s₁.TypeIs obj "enumerate"∧Q obj s₁) ⟨hl,?_⟩ fun obj s₁ hq=>⟨hq.1,args_initS _ _ _ _,_,object_init_meetsK F.called_enumerate.init.lookup F.called_enumerate.made (by decide),hq.1,rfl,hq.2⟩
  have he:IsEnum ((s.heap.push { cls:=.type "list_iterator",data:=.fields #[.ref l,.int 0 0] }).push
      { cls:=.type "enumerate",data:=.fields #[.none,.bool false,.ref s.heap.objs.size,rawInt 1,.none,.none] }) (s.heap.objs.size + 1) s.heap.objs.size 1 .none:=by
    have q:=Heap.get?_push_size (s.heap.push { cls:=.type "list_iterator",data:=.fields #[.ref l,.int 0 0] })
      (o:={ cls:=.type "enumerate",data:=.fields #[.none,.bool false,.ref s.heap.objs.size,rawInt 1,.none,.none] }) rfl
    rw [hz] at q
    exact q
  show _∧_
  rw [hz]
  exact ⟨⟨_,he,rfl⟩,h _ he ⟨_,Heap.get?_push_of_some _ (Heap.get?_push_size _ rfl),rfl,rfl⟩ (by rw [Heap.size_push,hz]) fun b o x=>Heap.get?_push_of_some _ (Heap.get?_push_of_some _ x)⟩
theorem next_enumJ {e it l:Addr}{i:Nat}{j:Int}{items:Array Value}{x old:Value}{Q:Option Value→Shared→Prop}
    (he:IsEnum s.heap e it j old) (hit:s.heap.IsListIter it l i) (hl:s.heap.IsList l items) (hx:items[i]?=some x) (hne:e≠it)
    (hQ:∀ h',IsEnumOut h' e it (j + 1) x s.heap.objs.size→h'.IsListIter it l (i + 1) →
      h'.get? s.heap.objs.size=some { cls:=.type "tuple",data:=.seq #[.int j s.toks,x] }→h'.objs.size=s.heap.objs.size + 1 →
      (∀ b o,b≠e→b≠it→s.heap.get? b=some o→h'.get? b=some o)→Q (some (.ref s.heap.objs.size)) { s with heap:=h',toks:=s.toks + 1 }) :
    wpAny (model prog w) A (pyNext (.ref e)) Q E s:=by
  have hT:s.TypeIs (.ref e) "enumerate":=⟨_,he,rfl⟩
  unfold pyNext
  refine wpAny_bind (wpAny_attempt (wpAny_callSpecial?_slot (name:=Str.ofString "__next__") hT F.slot_enumerate_next (wpAny_call_entry F.slot_enumerate_next hT F.entry_enumerate_next ?_ (F.args_enumerate_next_1 _))))
  have lt:e < s.heap.objs.size:=Heap.lt_size he
  obtain ⟨hp,g,d,tk,os⟩:=s
  have he:IsEnum hp e it j old:=he
  have lt:e < hp.objs.size:=lt
  show wpAny _ _ (field (.ref e) 2 >>= _) _ _ _
  refine wpAny_bind (wpAny_field he rfl (x:=.ref it) rfl (wpAny_bind (wpAny_nextOf_list_item hit hl hx fun h1 hit1 sb1=>?_)))
  have sb1:Heap.SameBut it hp h1:=sb1
  have e1:IsEnum h1 e it j old:=(sb1.2 e hne).trans he
  show wpAny _ _ (field (.ref e) 3 >>= _) _ _ ⟨h1,g,d,tk,os⟩
  refine wpAny_bind (wpAny_field e1 rfl (x:=rawInt j) rfl ?_)
  show wpAny _ _ (field (.ref e) 4 >>= _) _ _ ⟨h1,g,d,tk,os⟩
  refine wpAny_bind (wpAny_field e1 rfl (x:=.none) rfl ?_)
  show wpAny _ _ (mkInt j >>= _) _ _ ⟨h1,g,d,tk,os⟩
  refine wpAny_bind (wpAny_mkInt ?_)
  show wpAny _ _ (setField (.ref e) 3 (rawInt (j + 1)) >>= _) _ _ ⟨h1,g,d,tk + 1,os⟩
  refine wpAny_bind (wpAny_setField_rec e1 (by simp) fun h2 e2 sb2=>?_)
  have sb2:Heap.SameBut e h1 h2:=sb2
  have e2:IsEnum h2 e it (j + 1) old:=e2
  show wpAny _ _ (setField (.ref e) 4 .none >>= _) _ _ ⟨h2,g,d,tk + 1,os⟩
  refine wpAny_bind (wpAny_setField_rec e2 (by simp) fun h3 e3 sb3=>?_)
  have sb3:Heap.SameBut e h2 h3:=sb3
  have e3:IsEnum h3 e it (j + 1) old:=e3
  have z3:h3.objs.size=hp.objs.size:=by rw [sb3.1,sb2.1,sb1.1]
  have k3:∀ b o,b≠e→b≠it→hp.get? b=some o→h3.get? b=some o:=fun b o hbe hbi hb=>sb3.extBut b o hbe (sb2.extBut b o hbe (sb1.extBut b o hbi hb))
  have it3:h3.IsListIter it l (i + 1):=(hit1.extBut sb2.extBut (Ne.symm hne)).extBut sb3.extBut (Ne.symm hne)
  show wpAny _ _ (newTuple [.int j tk,x] >>= _) _ _ ⟨h3,g,d,tk + 1,os⟩
  refine wpAny_bind (wpAny_newTuple ?_)
  generalize q4:h3.push { cls:=.type "tuple",data:=.seq #[.int j tk,x] }=h4
  have e4:IsEnum h4 e it (j + 1) old:=by rw [← q4];exact Heap.get?_push_of_some _ e3
  have t4:h4.get? hp.objs.size=some { cls:=.type "tuple",data:=.seq #[.int j tk,x] }:=by rw [← q4,← z3];exact Heap.get?_push_size _ rfl
  have z4:h4.objs.size=hp.objs.size + 1:=by rw [← q4,Heap.size_push,z3]
  have k4:∀ b o,b≠e→b≠it→hp.get? b=some o→h4.get? b=some o:=fun b o hbe hbi hb=>by rw [← q4];exact Heap.get?_push_of_some _ (k3 b o hbe hbi hb)
  have it4:h4.IsListIter it l (i + 1):=by
    obtain ⟨o,ho,r⟩:=it3
    exact ⟨o,by rw [← q4];exact Heap.get?_push_of_some _ ho,r⟩
  show wpAny _ _ (Builtin.SmallTypes.ownedTupleIsFree (.ref e) >>= _) _ _ ⟨h4,g,d,tk + 1,os⟩
  have q4':(({ heap:=h3,gens:=g,drawn:=d,toks:=tk + 1,os:=os }:Shared).heap.push { cls:=.type "tuple",data:=.seq #[.int j tk,x] })=h4:=q4
  rw [z3]
  clear q4 q4' e3 sb3 e2 sb2 e1 sb1 hit1 it3 k3 z3
  refine wpAny_bind ?_
  unfold Builtin.SmallTypes.ownedTupleIsFree
  refine wpAny_bind (wpAny_field e4 rfl (x:=.none) rfl (wpAny_pure ?_))
  simp only [if_true]
  refine wpAny_bind (wpAny_rule (wpAny_bind (wpAny_field e4 rfl (x:=old) rfl (wpAny_bind (wpAny_setField_rec e4 (by simp) fun h5 e5 sb5=>?_)))))
  have sb5:Heap.SameBut e h4 h5:=sb5
  have e5:IsEnum h5 e it (j + 1) x:=e5
  show wpAny _ _ (Builtin.SmallTypes.ownedTupleHandOut (.ref e) (.ref hp.objs.size) >>= _) _ _ ⟨h5,g,d,tk + 1,os⟩
  refine wpAny_bind ?_
  unfold Builtin.SmallTypes.ownedTupleHandOut
  refine wpAny_bind (wpAny_setField_rec e5 (by simp) fun h6 e6 sb6=>?_)
  have sb6:Heap.SameBut e h5 h6:=sb6
  have e6:IsEnumOut h6 e it (j + 1) x hp.objs.size:=e6
  refine wpAny_setField_rec e6 (by simp) fun h7 e7 sb7=>?_
  have sb7:Heap.SameBut e h6 h7:=sb7
  have e7:IsEnumOut h7 e it (j + 1) x hp.objs.size:=e7
  have up:∀ b o,b≠e→h4.get? b=some o→h7.get? b=some o:=fun b o hb q=>sb7.extBut b o hb (sb6.extBut b o hb (sb5.extBut b o hb q))
  refine wpAny_bind (wpAny_letGo (wpAny_pure ⟨_,rfl,wpAny_pure (hQ h7 e7 ?_ (up _ _ (Nat.ne_of_gt lt) t4) (by rw [sb7.1,sb6.1,sb5.1,z4]) fun b o hbe hbi hb=>up b o hbe (k4 b o hbe hbi hb))⟩))
  exact ((it4.extBut sb5.extBut (Ne.symm hne)).extBut sb6.extBut (Ne.symm hne)).extBut sb7.extBut (Ne.symm hne)
theorem done_enumJ {e it l:Addr}{i:Nat}{j:Int}{items:Array Value}{old:Value}{Q:Option Value→Shared→Prop}(hh:A.handled=none)
    (he:IsEnum s.heap e it j old) (hit:s.heap.IsListIter it l i) (hl:s.heap.IsList l items) (hx:items[i]?=none)
    (hQ:∀ h',Heap.ExtBut it s.heap h'→Q none { s with heap:=h' }):wpAny (model prog w) A (pyNext (.ref e)) Q E s:=by
  have hT:s.TypeIs (.ref e) "enumerate":=⟨_,he,rfl⟩
  unfold pyNext
  refine wpAny_bind (wpAny_attempt (wpAny_callSpecial?_slot (name:=Str.ofString "__next__") hT F.slot_enumerate_next (wpAny_call_entry F.slot_enumerate_next hT F.entry_enumerate_next ?_ (F.args_enumerate_next_1 _))))
  show wpAny _ _ (field (.ref e) 2 >>= _) _ _ _
  refine wpAny_bind (wpAny_field he rfl (x:=.ref it) rfl (wpAny_bind (wpAny_nextOf_list_end hh hit hl hx fun h' x eb ⟨o,ho,hc⟩=>?_)))
  exact wpAny_bind (wpAny_isInstance (T:="StopIteration") (b:=true) ⟨o,ho,hc⟩ isSubtype_stop (wpAny_pure (hQ _ eb)))
end
end PySem
namespace L2
open PySem PySem.Spec PyProof.Rows
def closL (cells:List (Str×Addr)) (names:List (Str×NameKind)):List (Str×Addr) :=
  (names.filterMap fun y=>if y.2 == .free then (cells.lookup y.1).map (fun c=>(y.1,c)) else none).reverse
theorem closL_mem {cells:List (Str×Addr)}{names:List (Str×NameKind)}{x:Str}{c:Addr}(h:(x,c)∈closL cells names):(x,NameKind.free)∈names∧cells.lookup x=some c:=by
  unfold closL at h
  rw [List.mem_reverse,List.mem_filterMap] at h
  obtain ⟨⟨y,k⟩,hy,e⟩:=h
  by_cases hk:k=.free
  · subst hk
    simp only [beq_self_eq_true,if_true] at e
    cases q:cells.lookup y with
    | none=>rw [q] at e;cases e
    | some d =>
      rw [q] at e
      cases e
      exact ⟨hy,q⟩
  · have hb:(k == NameKind.free)=false:=by simpa using hk
    simp [hb] at e
theorem lookup_of_mem {α:Type}:∀ {l:List (Str×α)}{x:Str}{c:α},(x,c)∈l→∃ d,l.lookup x=some d
  | (k,v) :: r,x,c,h=>by
    rw [List.lookup_cons]
    cases hb:x == k with
    | true=>exact ⟨v,rfl⟩
    | false =>
      rcases List.mem_cons.mp h with e | h
      · cases e
        simp at hb
      · exact lookup_of_mem h
theorem closL_look {cells:List (Str×Addr)}{names:List (Str×NameKind)}{x:Str}{c:Addr}(h:(closL cells names).lookup x=some c):(x,NameKind.free)∈names∧cells.lookup x=some c :=
  closL_mem (PySem.mem_of_lookup h)
theorem closL_has {cells:List (Str×Addr)}{names:List (Str×NameKind)}{x:Str}{c:Addr}(h:(x,NameKind.free)∈names) (hc:cells.lookup x=some c):(closL cells names).lookup x=some c:=by
  have hm:(x,c)∈closL cells names:=by
    unfold closL
    rw [List.mem_reverse,List.mem_filterMap]
    exact ⟨(x,.free),h,by simp [hc]⟩
  obtain ⟨d,hd⟩:=lookup_of_mem hm
  have:=(closL_look hd).2
  rw [hc] at this
  cases this
  exact hd
theorem closureFor_go {env:Env}(f:Str×NameKind→List (Str×Addr)→Sem (ForInStep (List (Str×Addr))))
    (hf:∀ name kind cs,f (name,kind) cs=if kind == .free then (do let a ← cellOf env name;pure (.yield ((name,a) :: cs))) else pure (.yield cs)) :
    ∀ (names:List (Str×NameKind)) (acc:List (Str×Addr)),(∀ x∈names,x.2=.free→∃ c,env.cells.lookup x.1=some c) →
      forIn names acc f=(pure (closL env.cells names ++ acc):Sem (List (Str×Addr)))
  | [],acc,_=>by rw [List.forIn_nil];rfl
  | (n,k) :: r,acc,h=>by
    rw [List.forIn_cons,hf]
    have hr:∀ x∈r,x.2=.free→∃ c,env.cells.lookup x.1=some c:=fun x hx=>h x (List.mem_cons_of_mem _ hx)
    by_cases hk:k=.free
    · subst hk
      obtain ⟨c,hc⟩:=h (n,.free) List.mem_cons_self rfl
      have e1:cellOf env n=pure c:=by unfold cellOf;rw [show env.cells.lookup n=some c from hc]
      have e2:closL env.cells ((n,NameKind.free) :: r) ++ acc=closL env.cells r ++ ((n,c) :: acc):=by
        unfold closL
        rw [List.filterMap_cons]
        simp only [beq_self_eq_true,if_true]
        rw [show env.cells.lookup n=some c from hc]
        simp
      rw [e2,← closureFor_go f hf r ((n,c) :: acc) hr]
      simp only [beq_self_eq_true,if_true]
      rw [e1]
      rfl
    · have hb:(k == NameKind.free)=false:=by simpa using hk
      have e2:closL env.cells ((n,k) :: r) ++ acc=closL env.cells r ++ acc:=by
        unfold closL
        rw [List.filterMap_cons]
        simp [hb]
      rw [e2,← closureFor_go f hf r acc hr]
      simp only [hb,Bool.false_eq_true,if_false]
      rfl
theorem closureFor_eq {scope:Scope}{env:Env}(h:∀ x∈scope.names,x.2=.free→∃ c,env.cells.lookup x.1=some c):closureFor scope env=pure (closL env.cells scope.names):=by
  unfold closureFor
  dsimp only
  rw [closureFor_go (env:=env) _ ?hf scope.names [] h]
  case hf=>intro name kind cs;rfl
  rw [List.append_nil]
  rfl
theorem cellsFrom_app:∀ (names:List (Str×NameKind)) (n:Nat) (acc:List (Str×Addr)),cellsFrom n names acc=cellsFrom n names [] ++ acc
  | [],_,_=>rfl
  | (x,k) :: r,n,acc=>by
    unfold cellsFrom
    split
    · rw [cellsFrom_app r (n + 1) ((x,n) :: acc),cellsFrom_app r (n + 1) [(x,n)]];simp
    · exact cellsFrom_app r n acc
theorem cellsFrom_mem:∀ {names:List (Str×NameKind)}{n:Nat}{x:Str}{c:Addr},(x,c)∈cellsFrom n names []→(x,NameKind.cell)∈names∧n≤c
  | [],_,_,_,h=>by cases h
  | (y,k) :: r,n,x,c,h=>by
    unfold cellsFrom at h
    split at h
    · rename_i hk
      rw [cellsFrom_app] at h
      rcases List.mem_append.mp h with h | h
      · obtain ⟨h1,h2⟩:=cellsFrom_mem h
        exact ⟨List.mem_cons_of_mem _ h1,by omega⟩
      · have:(x,c)=(y,n):=by simpa using h
        cases this
        have:k=.cell:=by simpa using hk
        subst this
        exact ⟨List.mem_cons_self,Nat.le_refl _⟩
    · obtain ⟨h1,h2⟩:=cellsFrom_mem h
      exact ⟨List.mem_cons_of_mem _ h1,h2⟩
theorem cellsFrom_has:∀ {names:List (Str×NameKind)}{n:Nat}{x:Str},(x,NameKind.cell)∈names→∃ c,(x,c)∈cellsFrom n names []
  | (y,k) :: r,n,x,h=>by
    unfold cellsFrom
    split
    · rw [cellsFrom_app]
      rcases List.mem_cons.mp h with e | h
      · cases e;exact ⟨n,by simp⟩
      · obtain ⟨c,hc⟩:=cellsFrom_has (n:=n + 1) h
        exact ⟨c,List.mem_append_left _ hc⟩
    · rename_i hk
      rcases List.mem_cons.mp h with e | h
      · cases e;simp at hk
      · exact cellsFrom_has h
theorem cellsFrom_lt:∀ {names:List (Str×NameKind)}{h:Heap}{x:Str}{c:Addr},(x,c)∈cellsFrom h.objs.size names []→(pushCells h names).IsCell c none:=fun {names h x c} hm=>by
  have ok:=cellsFrom_ok names h 0 [] ⟨fun _ _ hm=>(nomatch hm),List.Pairwise.nil⟩ (Nat.zero_le _)
  exact (ok.empty x c hm).1
theorem cellsFrom_apart (names:List (Str×NameKind)) (h:Heap):(cellsFrom h.objs.size names []).Pairwise fun x y=>x.2≠y.2 :=
  (cellsFrom_ok names h 0 [] ⟨fun _ _ hm=>(nomatch hm),List.Pairwise.nil⟩ (Nat.zero_le _)).apart
theorem lookup_app {α:Type}(x:Str):∀ (a b:List (Str×α)) ,(a ++ b).lookup x=(a.lookup x).or (b.lookup x)
  | [],b=>by simp
  | (k,v) :: r,b=>by
    show List.lookup x ((k,v) :: (r ++ b))=_
    rw [List.lookup_cons,List.lookup_cons]
    cases hb:x == k with
    | true=>rfl
    | false=>exact lookup_app x r b
theorem wpAny_newCompEnv {M:Model}{A:Around}{E:Value→Shared→Prop}{s:Shared}{scope:Scope}{globals:Addr}{cl:List (Str×Addr)}{qual:Str}{env:Env}{Q:Env→Shared→Prop}
    (hQ:Q { scope,locals:=s.heap.objs.size,globals,cells:=cellsFrom (s.heap.objs.size + 1) scope.names [] ++ cl,qual,func:=none,code:=env.code,frame:=env.frame,builtins:=env.builtins }
      { s with heap:=pushCells (s.heap.push { cls:=.type "dict",data:=.dict #[] }) scope.names }) :
    wpAny M A (newFunctionEnv scope globals cl [] qual none .none (some env)) Q E s:=by
  simp only [newFunctionEnv,Option.isSome_some,if_true]
  refine wpAny_bind (wpAny_alloc ?_)
  refine wpAny_bind (wpAny_layCells _ (fun name kind cells=>by cases hkc:kind == NameKind.cell<;>simp [hkc]) _ _ _ _ ?_)
  rw [show ({ s with heap:=s.heap.push { cls:=.type "dict",data:=.dict #[] } }:Shared).heap.objs.size=s.heap.objs.size + 1 from Heap.size_push ..,cellsFrom_app]
  rw [List.forIn_nil]
  exact wpAny_bind (wpAny_pure (wpAny_pure hQ))
section
variable {prog:Program}{w:World}{A:Around}{R:Result→Shared→Prop}{s:Shared}
theorem compLoop_gen {elt target iter:Expr}{ifs:List Expr}{scope:Scope}{pos:Pos}{it acc:Value}{env:Env}(I:Nat→Shared→Prop)
    (turn:∀ n s,I n s→wpAny (model prog w) A (pyNext it) (fun r s₁=>match r with
      | none=>R (.ok .next) s₁
      | some v=>wpAny (model prog w) A (letOwnedTupleGo target it v) (fun _ s₁'=>wpAny (model prog w) A (assign target env v) (fun _ s₂ =>
          wpAny (model prog w) A (forIn ifs true fun c r=>if r=true then do let ok ← isTrue c env (eval c env);pure (ForInStep.yield ok) else pure (ForInStep.yield r)) (fun ok s₃ =>
            if ok=true then wpAny (model prog w) A (eval elt env) (fun x s₄ =>
              wpAny (model prog w) A (call (.builtin "list.append") [acc,x]) (fun _ s₅=>∃ m,m < n∧I m s₅) (fun _ _=>False) s₄) (fun _ _=>False) s₃
            else ∃ m,m < n∧I m s₃) (fun _ _=>False) s₂) (fun _ _=>False) s₁') (fun _ _=>False) s₁) (fun _ _=>False) s)
    (n:Nat) (h:I n s) :
    codeAny (model prog w) A (.compLoop (.ListComp elt [⟨target,iter,ifs,0⟩] scope pos) 0 it acc env) R s:=by
  refine codeAny_loop rfl I (fun n s hI=>?_) n h
  show wpAny _ A ((compTurn (.ListComp elt [⟨target,iter,ifs,0⟩] scope pos) 0 it acc env).onRaise (fun x=>do noteFrame x env;theTreesLotGoes x)) _ _ s
  refine wpAny_noted ?_
  rw [compTurn_list]
  refine wpAny_bind (wpAny_standAt (wpAny_bind (wpAny_mono (turn n s hI) (fun r s₁ h₁=>?_) fun _ _ h'=>h'.elim)))
  cases r with
  | none=>exact wpAny_pure h₁
  | some v =>
    refine wpAny_bind (wpAny_mono h₁ (fun _ s₁' h₁'=>?_) fun _ _ h'=>h'.elim)
    refine wpAny_bind (wpAny_mono h₁' (fun _ s₂ h₂=>wpAny_bind (wpAny_mono h₂ (fun ok s₃ h₃=>?_) fun _ _ h'=>h'.elim)) fun _ _ h'=>h'.elim)
    cases ok with
    | false=>exact wpAny_pure ⟨rfl,h₃⟩
    | true =>
      exact wpAny_bind (wpAny_bind (wpAny_mono h₃ (fun x s₄ h₄=>wpAny_bind (wpAny_mono h₄ (fun _ s₅ h₅=>wpAny_pure (wpAny_pure ⟨rfl,h₅⟩)) fun _ _ h'=>h'.elim)) fun _ _ h'=>h'.elim))
end
def ownCell (sc:Scope) (x:Str):Bool:=sc.names.lookup x == some .cell
def compCx (X:Cx) (scope:Scope) (N':List Str) (cells:List (Str×Addr)) (C:Addr) (s₀:Shared) (H₀:Hp) (fp:List Addr) (pins:List (Addr×Obj)):Cx :=
  { prog:=X.prog,w:=X.w,K:=X.K,mg:=X.mg,base:=X.base,A:=X.A,N:=N',s₀:=s₀,H₀:=H₀,env:=compEnvC scope cells C X.env,outer:=X.stack,stack:=X.stack,ex:=fp,fn:=ownCell scope,calm:=X.calm,pn:=X.pn ++ pins,xe:=fun _ _=>False }
def capS (cap:List (Option Nat)) (σ:St):St:=cap.map fun o=>o.bind fun i=>(σ[i]?).join
structure CompOk (X:Cx) (scope:Scope) (N':List Str) (cap:List (Option Nat)):Prop where
  kind:scope.kind=.function
  uniq:∀ y∈scope.names,scope.names.lookup y.1=some y.2
  fre:∀ y∈scope.names,y.2=.free→X.env.scope.names.lookup y.1=some .cell∨X.env.scope.names.lookup y.1=some .free
  len:cap.length=N'.length
  cap:∀ (j i:Nat),cap[j]?=some (some i)→∃ x,N'[j]?=some x∧X.N[i]?=some x∧scope.names.lookup x=some .free
theorem relabel_look {scope:Scope}{env:Env}(x:Str):(relabel scope env).names.lookup x=(scope.names.lookup x).map fun k=>if (k == .free && env.scope.kind == .function && env.kindOf x == some .cell)=true then .cell else k:=by
  unfold relabel
  show List.lookup x (scope.names.map fun (n,k)=>if (k == NameKind.free && env.scope.kind == .function && env.kindOf n == some .cell)=true then (n,NameKind.cell) else (n,k))=_
  induction scope.names with
  | nil=>rfl
  | cons y r ih =>
    obtain ⟨n,k⟩:=y
    rw [List.map_cons]
    dsimp only
    by_cases hc:(k == NameKind.free && env.scope.kind == .function && env.kindOf n == some .cell)=true
    · rw [if_pos hc,List.lookup_cons,List.lookup_cons]
      cases hb:x == n with
      | true =>
        have:x=n:=beq_iff_eq.mp hb
        subst this
        simp only [Option.map_some,hc,if_true]
      | false=>exact ih
    · rw [if_neg hc,List.lookup_cons,List.lookup_cons]
      cases hb:x == n with
      | true =>
        have:x=n:=beq_iff_eq.mp hb
        subst this
        simp only [Option.map_some,hc,Bool.false_eq_true,if_false]
      | false=>exact ih
def PIfs (X:Cx) (ifs:List Expr) (t:TT):Prop :=
  ∀ (pins:List (Addr×Obj)) (s:Shared) (σ:St) (H:Hp) (Q:Bool→Hp→Prop),Inv X pins σ H s→t σ H Q →
    wpAny (model X.prog X.w) X.A (forIn ifs true fun c r=>if r=true then do let ok ← isTrue c X.env (eval c X.env);pure (ForInStep.yield ok) else pure (ForInStep.yield r)) (TP X pins σ Q) X.xe s
def tTrue:TT:=fun _ H Q=>Q true H
theorem pifs_nil {X:Cx}:PIfs X [] tTrue:=fun _ _ _ H _ I h=>wpAny_tests_nil ⟨H,I,h⟩
theorem pifs_one {X:Cx}{c:Expr}{t:TT}(hc:PT X c t):PIfs X [c] t:=fun pins s σ H Q I h=>wpAny_tests_one (hc pins s σ H Q I h)
def CompR (cap:List (Option Nat)) (g:TG) (tt:TT) (te:TE) (σ:St) (Q:VK) (J:It) (H1:Hp):Prop:=∃ (n:Nat) (W:Nat→List V→St→Hp→Prop),n≤sizeLine∧W 0 [] (capS cap σ) H1 ∧
  ∀ i ys σ' H,W i ys σ' H→i≤n∧ys.length≤i ∧
    ((J.stop i H∧∀ D,H D=none→Q (.ref D) (upd H D (.lst ys))) ∨
     (J.go i H∧i < n∧∀ x H',J.yld i H x H'→g x σ' H' fun σ2 H2=>tt σ2 H2 fun b H3=>if b=true then te σ2 H3 fun v H4=>W (i + 1) (ys ++ [v]) σ2 H4 else W (i + 1) ys σ2 H3))
def tComp (wi:TI) (cap:List (Option Nat)) (g:TG) (tt:TT) (te:TE):TE:=fun σ H Q=>wi σ H (CompR cap g tt te σ Q)
end L2
namespace L2
open PySem PySem.Spec PyProof.Rows
local macro_rules | `(tactic| walk_at "om") => `(tactic| first | omega | (unfold Addr at *; omega))
section
variable {X:Cx}{pins:List (Addr×Obj)}{σ:St}{H:Hp}{s:Shared}
theorem Inv.frs_lt (I:Inv X pins σ H s) {b:Addr}(hb:b∈frs X.stack):b < s.heap.objs.size:=by
  rcases List.mem_cons.mp (I.stkSub b hb) with e | h
  · rw [e];exact I.lt
  · exact Nat.lt_of_not_le fun z=>I.nofs z h
theorem Inv.cell_lt (I:Inv X pins σ H s) {x:Str}{c:Addr}(h:X.env.cells.lookup x=some c):c < s.heap.objs.size:=let ⟨_,z⟩:=I.cell x c h;z.lt
theorem Inv.pin_lt (I:Inv X pins σ H s) {p:Addr×Obj}(h:p∈X.pn ++ pins):p.1 < s.heap.objs.size:=Heap.lt_size (I.pin p h).1
theorem comp_ok {scope:Scope}{N':List Str}{cap:List (Option Nat)}{fp:List Addr}{h5:Heap}{C:Addr}(I:Inv X pins σ H s) (ok:CompOk X scope N' cap) (f2:∀ b∈fp,FpOk X pins H b) (hlt:∀ b∈fp,b < s.heap.objs.size)
    (hC:s.heap.objs.size≤C) (h5C:h5.objs.size=C + 1) :
    (compCx X scope N' (cellsFrom (C + 1) scope.names [] ++ closL X.env.cells scope.names) C s H fp pins).Ok where
  mod:=I.ok.mod
  kind:=by show (relabel scope X.env).kind=_;exact ok.kind
  glob:=I.ok.glob
  blt:=I.ok.blt
  above:=hC
  inj:=fun x y c hx hy=>by
    have hx:(cellsFrom (C + 1) scope.names [] ++ closL X.env.cells scope.names).lookup x=some c:=hx
    have hy:(cellsFrom (C + 1) scope.names [] ++ closL X.env.cells scope.names).lookup y=some c:=hy
    rw [lookup_app] at hx hy
    have ap:=cellsFrom_apart scope.names h5
    rw [h5C] at ap
    cases ex:(cellsFrom (C + 1) scope.names []).lookup x with
    | some d =>
      rw [ex] at hx;cases hx
      have mx:=PySem.mem_of_lookup ex
      cases ey:(cellsFrom (C + 1) scope.names []).lookup y with
      | some e =>
        rw [ey] at hy;cases hy
        exact name_of_addr ap mx (PySem.mem_of_lookup ey)
      | none =>
        rw [ey] at hy
        have:=I.cell_lt (closL_look hy).2
        have:=(cellsFrom_mem mx).2
        walk_at "om"
    | none =>
      rw [ex] at hx
      have lx:=I.cell_lt (closL_look hx).2
      cases ey:(cellsFrom (C + 1) scope.names []).lookup y with
      | some e =>
        rw [ey] at hy;cases hy
        have:=(cellsFrom_mem (PySem.mem_of_lookup ey)).2
        walk_at "om"
      | none =>
        rw [ey] at hy
        exact I.ok.inj x y c (closL_look hx).2 (closL_look hy).2
  has:=fun x hx=>by
    have hx:(relabel scope X.env).names.lookup x=some .cell∨(relabel scope X.env).names.lookup x=some .free:=hx
    rw [relabel_look] at hx
    show ∃ c,(cellsFrom (C + 1) scope.names [] ++ closL X.env.cells scope.names).lookup x=some c
    rw [lookup_app]
    cases e:scope.names.lookup x with
    | none=>rw [e] at hx;rcases hx with hx | hx<;>cases hx
    | some k =>
      have hm:=PySem.mem_of_lookup e
      by_cases hk:k=.cell
      · subst hk
        obtain ⟨c,hc⟩:=cellsFrom_has (n:=C + 1) hm
        obtain ⟨d,hd⟩:=lookup_of_mem hc
        exact ⟨d,by rw [hd];rfl⟩
      · have hf:k=.free:=by
          rw [e] at hx
          simp only [Option.map_some] at hx
          cases k with
          | free=>rfl
          | cell=>exact absurd rfl hk
          | _=>rcases hx with hx | hx<;>simp at hx
        subst hf
        obtain ⟨c,hc⟩:=I.ok.has x (ok.fre (x,.free) hm rfl)
        cases q:(cellsFrom (C + 1) scope.names []).lookup x with
        | some d=>exact ⟨d,rfl⟩
        | none=>exact ⟨c,by rw [closL_has hm hc];rfl⟩
  cab:=fun x c hf hx=>by
    have hf:ownCell scope x=true:=hf
    have hx:(cellsFrom (C + 1) scope.names [] ++ closL X.env.cells scope.names).lookup x=some c:=hx
    rw [lookup_app] at hx
    unfold ownCell at hf
    have hm:(x,NameKind.cell)∈scope.names:=PySem.mem_of_lookup (by simpa using hf)
    obtain ⟨d,hd⟩:=cellsFrom_has (n:=C + 1) hm
    obtain ⟨d',hd'⟩:=lookup_of_mem hd
    rw [hd'] at hx;cases hx
    have:=(cellsFrom_mem (PySem.mem_of_lookup hd')).2
    show s.heap.objs.size≤c
    walk_at "om"
  hd:=I.ok.hd
  frames:=I.ok.frames
  stk:=.inl rfl
  exf:=fun b hb=>by
    have hb':=hlt b hb
    refine ⟨by show b≠C;walk_at "om",fun x c hx=>?_⟩
    have hx:(cellsFrom (C + 1) scope.names [] ++ closL X.env.cells scope.names).lookup x=some c:=hx
    rw [lookup_app] at hx
    cases ex:(cellsFrom (C + 1) scope.names []).lookup x with
    | some d =>
      rw [ex] at hx;cases hx
      have:=(cellsFrom_mem (PySem.mem_of_lookup ex)).2
      walk_at "om"
    | none =>
      rw [ex] at hx
      exact (f2 b hb).2.2.2.2.1 x c (closL_look hx).2
  bs:=I.bs
  bsz:=Nat.le_trans I.ok.bsz I.sz
  noex:=fun b o e hb=>by
    rcases (f2 b hb).2.2.2.1 with z | z
    · exact I.ok.noex b o e z
    · exact absurd (Nat.lt_of_lt_of_le (Heap.lt_size e) (Nat.le_trans I.ok.bsz z)) (Nat.lt_irrefl _)
  exfs:=fun b hb z=>by
    rcases List.mem_cons.mp (I.stkSub b z) with e | h
    · exact (f2 b hb).2.1 e
    · exact (f2 b hb).2.2.1 h
  funs:=I.stack
  frf:=I.stkFree
theorem comp_start {scope:Scope}{N':List Str}{cap:List (Option Nat)}{fp:List Addr}{h5 h4:Heap}{C D:Addr}{lo:Obj}{tk:Nat}(I:Inv X pins σ H s) (ok:CompOk X scope N' cap) (f2:∀ b∈fp,FpOk X pins H b) (hlt:∀ b∈fp,b < s.heap.objs.size)
    (hD:D=s.heap.objs.size) (hC:C=D + 1) (h5C:h5.objs.size=C + 1) (e4:h4=pushCells h5 scope.names) (hns:h5.Ns C fun _=>none) (hlo:h5.get? D=some lo) (nc:∀ v,lo.data≠.cell v)
    (old:∀ b o,s.heap.get? b=some o→h5.get? b=some o) :
    Inv (compCx X scope N' (cellsFrom (C + 1) scope.names [] ++ closL X.env.cells scope.names) C s H fp pins) [(D,lo)] (capS cap σ) H { s with heap:=h4,toks:=tk }:=by
  have k4:∀ b o,h5.get? b=some o→h4.get? b=some o:=fun b o e=>by rw [e4];exact pushCells_keeps _ _ b o e
  have old4:∀ b o,s.heap.get? b=some o→h4.get? b=some o:=fun b o e=>k4 b o (old b o e)
  have look:∀ x c,(cellsFrom (C + 1) scope.names [] ++ closL X.env.cells scope.names).lookup x=some c→((x,c)∈cellsFrom (C + 1) scope.names []∧C + 1≤c)∨((x,NameKind.free)∈scope.names∧X.env.cells.lookup x=some c):=fun x c hx=>by
    rw [lookup_app] at hx
    cases ex:(cellsFrom (C + 1) scope.names []).lookup x with
    | some d =>
      rw [ex] at hx;cases hx
      exact .inl ⟨PySem.mem_of_lookup ex,(cellsFrom_mem (PySem.mem_of_lookup ex)).2⟩
    | none =>
      rw [ex] at hx
      exact .inr (closL_look hx)
  refine ⟨comp_ok I ok f2 hlt (by walk_at "om") h5C,rfl,I.bare,Un.kept old4,⟨_,hns.keeps k4,fun j x v e1 e2 e3=>?_⟩,fun x c hx=>?_,I.hok.fresh (by show s.heap.objs.size≤C;walk_at "om"),fun x c hx=>?_,fun p hp=>?_,I.hok.kept old4,?_⟩
  · have e2:(capS cap σ)[j]?=some (some v):=e2
    unfold capS at e2
    rw [List.getElem?_map] at e2
    cases q:cap[j]? with
    | none=>rw [q] at e2;cases e2
    | some o =>
      rw [q] at e2
      cases o with
      | none=>cases e2
      | some i =>
        obtain ⟨y,hy1,hy2,hy3⟩:=ok.cap j i q
        have:N'[j]?=some x:=e1
        rw [hy1] at this
        have exy:y=x:=Option.some.inj this
        subst exy
        have hv:σ[i]?=some (some v):=by
          simp only [Option.map_some,Option.bind_some,Option.some.injEq] at e2
          cases r:σ[i]? with
          | none=>rw [r] at e2;cases e2
          | some o=>rw [r] at e2;simp at e2;rw [e2]
        have hm:=PySem.mem_of_lookup hy3
        have hk:=ok.fre _ hm rfl
        obtain ⟨m,_,hl⟩:=I.loc
        obtain ⟨u,ru,lu⟩:=hl i y v hy2 hv (by rcases hk with z | z;exact .inr (.inl z);exact .inr (.inr z))
        refine ⟨u,ru,.inr ⟨?_,?_⟩⟩
        · show (relabel scope X.env).names.lookup y=some .cell∨(relabel scope X.env).names.lookup y=some .free
          rw [relabel_look,hy3]
          simp only [Option.map_some]
          split<;>simp
        · rcases lu with ⟨z,_⟩ | ⟨_,c,hc,hcell⟩
          · have z:X.env.scope.names.lookup y=some .local:=z
            rcases hk with q | q<;>(rw [z] at q;cases q)
          · refine ⟨c,?_,hcell.keeps old4⟩
            show (cellsFrom (C + 1) scope.names [] ++ closL X.env.cells scope.names).lookup y=some c
            rw [lookup_app]
            cases ex:(cellsFrom (C + 1) scope.names []).lookup y with
            | none=>rw [closL_has hm hc];rfl
            | some d =>
              have:=(cellsFrom_mem (PySem.mem_of_lookup ex)).1
              have:=ok.uniq _ this
              rw [hy3] at this;cases this
  · rcases look x c hx with ⟨z,_⟩ | ⟨_,z⟩
    · rw [← h5C] at z
      have:=cellsFrom_lt z
      exact ⟨_,by rw [e4];exact this⟩
    · obtain ⟨v,q⟩:=I.cell x c z
      exact ⟨v,q.keeps old4⟩
  · rcases look x c hx with ⟨_,z⟩ | ⟨_,z⟩
    · exact I.hok.fresh (by walk_at "om")
    · exact I.freeC x c z
  · have hp:p∈(X.pn ++ pins) ++ [(D,lo)]:=hp
    rcases List.mem_append.mp hp with hp | hp
    · obtain ⟨e,n,ne,nf,d⟩:=I.pin p hp
      have:=I.pin_lt hp
      refine ⟨old4 _ _ e,n,by show p.1≠C;walk_at "om",fun z=>?_,d⟩
      rcases List.mem_cons.mp (I.stkSub p.1 z) with q | q
      · exact ne q
      · exact nf q
    · have:p=(D,lo):=by simpa using hp
      subst this
      refine ⟨k4 _ _ hlo,I.hok.fresh (by show s.heap.objs.size≤D;walk_at "om"),by show D≠C;walk_at "om",fun z=>?_,nc⟩
      have:D < s.heap.objs.size:=I.frs_lt z
      walk_at "om"
  · show (capS cap σ).length=N'.length
    unfold capS
    rw [List.length_map]
    exact ok.len
theorem comp_end {scope:Scope}{N':List Str}{fp:List Addr}{cells:List (Str×Addr)}{C D:Addr}{lo:Obj}{σ':St}{H':Hp}{s':Shared}{its:List Value}{k:Nat}{ys:List V}(I:Inv X pins σ H s)
    (I':Inv (compCx X scope N' cells C s H fp pins) [(D,lo)] σ' H' s') (f2:∀ b∈fp,FpOk X pins H b) (hD:s.heap.objs.size≤D) (elo:lo={ cls:=.type "list",data:=.seq its.toArray k }) (hv:Vals ys its) (hl:ys.length≤sizeLine) :
    Inv X pins σ (upd H' D (.lst ys)) s':=by
  obtain ⟨pd,pn,pc,pf,_⟩:=I'.pin (D,lo) (by show _∈(X.pn ++ pins) ++ [(D,lo)];simp)
  have pd:s'.heap.get? D=some lo:=pd
  have pn:H' D=none:=pn
  have neD:∀ b o,s.heap.get? b=some o→b≠D:=fun b o e=>Nat.ne_of_lt (Nat.lt_of_lt_of_le (Heap.lt_size e) hD)
  have B:=I'.base
  refine I.call' (ch:=fp) I'.os ⟨B.keep,B.slot,fun b o e n hx=>?_,B.there,fun b xs e=>?_,fun b o u e=>?_,fun b ps e=>?_⟩ (fun b u e=>?_) I'.bare fun b hb=>⟨(f2 b hb).2.2.2.1,(f2 b hb).2.1,(f2 b hb).2.2.2.2.1,(f2 b hb).2.2.2.2.2⟩
  · rw [upd_ne (neD b o e)];exact B.free b o e n hx
  · have:=B.tups b xs e
    rw [upd_ne (ne_of_none this pn)];exact this
  · have:=B.frzs b o u e
    rw [upd_ne (ne_of_none this pn)];exact this
  · obtain ⟨m,e'⟩:=B.tbls b ps e
    exact ⟨m,by rw [upd_ne (ne_of_none e' pn)];exact e'⟩
  · by_cases hb:b=D
    · subst hb
      rw [upd_same] at e;cases e
      exact ⟨hl,its,k,hv,by rw [pd,elo]⟩
    · rw [upd_ne hb] at e
      exact (I'.hok b u e).stay (fun _ _ _ q=>q) (fun c q=>by rw [upd_ne (ne_of_none q pn)];exact q) fun c xs q=>by rw [upd_ne (ne_of_none q pn)];exact q
end
section
variable {X:Cx}{pins:List (Addr×Obj)}{σ:St}{H2:Hp}{s2:Shared}
theorem comp_run {elt tg iter:Expr}{ifs:List Expr}{scope:Scope}{pos:Pos}{N':List Str}{cap:List (Option Nat)}{g:TG}{tt:TT}{te:TE}{it:Addr}{fp:List Addr}{tn:Nat→Heap→Prop}{J:It}{n:Nat}{W:Nat→List V→St→Hp→Prop}{Q:VK}
    {RR:Value→Addr→Result→Shared→Prop} {E:Value→Shared→Prop}
    (hc:X.calm=true) (ok:CompOk X scope N' cap)
    (hb:∀ cells C s₀ H₀ fp pins,PG (compCx X scope N' cells C s₀ H₀ fp pins) tg g∧PIfs (compCx X scope N' cells C s₀ H₀ fp pins) ifs tt∧PE (compCx X scope N' cells C s₀ H₀ fp pins) elt te)
    (I2:Inv X pins σ H2 s2) (T:Turn X.prog X.w X.K tg J fp it tn) (st2:tn 0 s2.heap) (f2:∀ b∈fp,FpOk X pins H2 b) (hn:n≤sizeLine) (w0:W 0 [] (capS cap σ) H2)
    (turn:∀ i ys σ' H,W i ys σ' H→i≤n∧ys.length≤i ∧
      ((J.stop i H∧∀ D,H D=none→Q (.ref D) (upd H D (.lst ys))) ∨
       (J.go i H∧i < n∧∀ x H',J.yld i H x H'→g x σ' H' fun σ2 H2=>tt σ2 H2 fun b H3=>if b=true then te σ2 H3 fun v H4=>W (i + 1) (ys ++ [v]) σ2 H4 else W (i + 1) ys σ2 H3)))
    (hRR:∀ (D C:Addr) (s':Shared) (H':Hp),Inv X pins σ H' s'→Q (.ref D) H'→(∃ m,s'.heap.Ns C m)→H' C=none→C≠X.env.locals→X.s₀.heap.objs.size≤C→(∀ x c,X.env.cells.lookup x=some c→c≠C)→(∀ p∈X.pn ++ pins,p.1≠C)→RR (.ref D) C (.ok .next) s') :
    wpAny (model X.prog X.w) X.A (newList []) (fun acc s₃=>wpAny (model X.prog X.w) X.A (newFunctionEnv scope X.env.globals (closL X.env.cells scope.names) [] X.env.qual none .none (some X.env)) (fun cenv s₄ =>
      codeAny (model X.prog X.w) X.A (.compStart (.ListComp elt [⟨tg,iter,ifs,0⟩] scope pos) 0 (.ref it) acc { cenv with scope:=relabel scope X.env }) (RR acc cenv.locals) s₄) E s₃) E s2:=by
  refine wpAny_newObj_type (wpAny_newCompEnv ?_)
  dsimp only
  generalize hH3:s2.heap.push { cls:=.type "list",dict:=none,data:=.seq ([]:List Value).toArray }=h3
  have sz3:h3.objs.size=s2.heap.objs.size + 1:=by rw [← hH3,Heap.size_push]
  generalize hH5:h3.push { cls:=.type "dict",data:=.dict #[] }=h5
  have sz5:h5.objs.size=h3.objs.size + 1:=by rw [← hH5,Heap.size_push]
  generalize hH4:pushCells h5 scope.names=h4
  have hns5:h5.Ns h3.objs.size fun _=>none:=by rw [← hH5];exact Heap.Ns.new ..
  have old5:∀ b o,s2.heap.get? b=some o→h5.get? b=some o:=fun b o e=>by rw [← hH5];exact Heap.get?_push_of_some _ (by rw [← hH3];exact Heap.get?_push_of_some _ e)
  have hlo5:h5.get? s2.heap.objs.size=some { cls:=.type "list",data:=.seq ([]:List Value).toArray }:=by rw [← hH5];exact Heap.get?_push_of_some _ (by rw [← hH3];exact Heap.get?_push_size _ rfl)
  have hlt:∀ b∈fp,b < s2.heap.objs.size:=fun b hb=>let ⟨o,e,_⟩:=T.obj _ _ st2 b hb;Heap.lt_size e
  have I0:∀ tk,Inv (compCx X scope N' (cellsFrom (h3.objs.size + 1) scope.names [] ++ closL X.env.cells scope.names) h3.objs.size s2 H2 fp pins) [(s2.heap.objs.size,{ cls:=.type "list",data:=.seq ([]:List Value).toArray })] (capS cap σ) H2 { s2 with heap:=h4,toks:=tk }:=fun tk =>
    comp_start I2 ok f2 hlt rfl sz3 sz5 hH4.symm hns5 hlo5 (fun v z=>by cases z) old5
  have k4:∀ b o,s2.heap.get? b=some o→h4.get? b=some o:=fun b o e=>by rw [← hH4];exact pushCells_keeps _ _ b o (old5 b o e)
  have st4:tn 0 h4:=T.keep _ _ _ st2 fun b _ o e=>k4 b o e
  obtain ⟨pg,pif,pel⟩:=hb (cellsFrom (h3.objs.size + 1) scope.names [] ++ closL X.env.cells scope.names) h3.objs.size s2 H2 fp pins
  generalize hcs:cellsFrom (h3.objs.size + 1) scope.names [] ++ closL X.env.cells scope.names=cs at I0 pg pif pel ⊢
  have stat:∀ {lo:Obj} {σ':St} {H':Hp} {s':Shared},Inv (compCx X scope N' cs h3.objs.size s2 H2 fp pins) [(s2.heap.objs.size,lo)] σ' H' s'→(∀ b∈fp,H' b=none)→∀ b∈fp,FpOk (compCx X scope N' cs h3.objs.size s2 H2 fp pins) [(s2.heap.objs.size,lo)] H' b:=fun {lo σ' H' s'} I' fr b hb=>by
    have q:=f2 b hb
    have lb:=hlt b hb
    refine ⟨fr b hb,by show b≠h3.objs.size;walk_at "om",I'.ok.exfs b hb,.inl hb,(I'.ok.exf b hb).2,fun p hp=>?_⟩
    have hp:p∈(X.pn ++ pins) ++ [(s2.heap.objs.size,lo)]:=hp
    rcases List.mem_append.mp hp with hp | hp
    · exact q.2.2.2.2.2 p hp
    · have:p=(s2.heap.objs.size,lo):=by simpa using hp
      subst this
      show s2.heap.objs.size≠b
      walk_at "om"
  have loop:∀ tk,codeAny (model X.prog X.w) X.A (.compLoop (.ListComp elt [⟨tg,iter,ifs,0⟩] scope pos) 0 (.ref it) (.ref s2.heap.objs.size) (compEnvC scope cs h3.objs.size X.env)) (RR (.ref s2.heap.objs.size) h3.objs.size) { s2 with heap:=h4,toks:=tk }:=fun tk=>by
    refine compLoop_gen (fun k s'=>∃ (i:Nat) (ys:List V) (σ':St) (H':Hp) (its:List Value) (c:Nat),Inv (compCx X scope N' cs h3.objs.size s2 H2 fp pins) [(s2.heap.objs.size,{ cls:=.type "list",data:=.seq its.toArray c })] σ' H' s'∧tn i s'.heap∧(∀ b∈fp,H' b=none) ∧
      Vals ys its∧W i ys σ' H'∧k=n + 1 - i) ?_ (n + 1) ⟨0,[],capS cap σ,H2,[],0,I0 tk,st4,fun b hb=>(f2 b hb).1,.nil,w0,rfl⟩
    rintro k s3 ⟨i,ys,σ3,H3,its,c,I3,st3,fr3,hv3,w3,rfl⟩
    obtain ⟨hi,hy,hcase⟩:=turn i ys σ3 H3 w3
    rcases hcase with ⟨stop,q⟩ | ⟨go,hlt',step⟩
    · refine thn (T.done (compCx X scope N' cs h3.objs.size s2 H2 fp pins) rfl rfl rfl hc i _ s3 σ3 H3 _ I3 (stat I3 fr3) st3 stop) fun r s4 ⟨hr,I4⟩=>?_
      subst hr
      have Ie:=comp_end I2 I4 f2 (Nat.le_refl _) rfl hv3 (by walk_at "om")
      obtain ⟨_,pn,_⟩:=I4.pin (s2.heap.objs.size,_) (by show _∈(X.pn ++ pins) ++ [_];exact List.mem_append_right _ (List.mem_singleton.mpr rfl))
      obtain ⟨m,hm,_⟩:=I4.loc
      refine hRR _ _ s4 _ Ie (q _ pn) ⟨m,hm⟩ ?_ ?_ ?_ ?_ ?_
      · rw [upd_ne (by walk_at "om")];exact I4.free
      · have:=I2.lt;walk_at "om"
      · have:=I2.sz;walk_at "om"
      · intro x c e;have:=I2.cell_lt e;walk_at "om"
      · intro p hp;have:=I2.pin_lt hp;walk_at "om"
    · refine thn (T.item (compCx X scope N' cs h3.objs.size s2 H2 fp pins) rfl rfl rfl hc i _ s3 σ3 H3 _ I3 (stat I3 fr3) st3 go) fun r s4 ⟨u,hr,h4'⟩=>?_
      subst hr
      refine thn h4' fun _ s5 ⟨x,H5,I5,r5,y5,st5,fr5⟩=>?_
      have I5':=I5.pinned (stat I5 fr5) (T.obj _ _ st5)
      refine thn (pg _ s5 σ3 H5 x u _ I5' r5 (step x H5 y5)) fun _ s6 ⟨σ6,H6,I6,q6⟩=>?_
      refine thn (pif _ s6 σ6 H6 _ I6 q6) fun b s7 ⟨H7,I7,q7⟩=>?_
      have back:∀ {σ8:St} {H8:Hp} {s8:Shared} {o:List (Addr×Obj)},Inv (compCx X scope N' cs h3.objs.size s2 H2 fp pins) (o ++ pinsAt fp s5.heap) σ8 H8 s8→tn (i + 1) s8.heap∧∀ b∈fp,H8 b=none:=fun {σ8 H8 s8 o} I8=>by
        have pp:∀ b ob,b∈fp→s5.heap.get? b=some ob→s8.heap.get? b=some ob∧H8 b=none:=fun b ob hb e=>by
          have:=I8.pin (b,ob) (List.mem_append_right _ (List.mem_append_right _ (mem_pinsAt hb e)))
          exact ⟨this.1,this.2.1⟩
        refine ⟨T.keep _ _ _ st5 fun b hb ob e=>(pp b ob hb e).1,fun b hb=>?_⟩
        obtain ⟨ob,e,_⟩:=T.obj _ _ st5 b hb
        exact (pp b ob hb e).2
      cases b with
      | false =>
        simp only [Bool.false_eq_true,if_false]
        simp only [Bool.false_eq_true,if_false] at q7
        obtain ⟨st7,fr7⟩:=back I7
        exact ⟨n + 1 - (i + 1),by walk_at "om",i + 1,ys,σ6,H7,its,c,I7.unpinned,st7,fr7,hv3,q7,rfl⟩
      | true =>
        simp only [if_true]
        simp only [if_true] at q7
        refine thn (pel _ s7 σ6 H7 _ I7 q7) fun y s8 ⟨v,H8,I8,r8,q8⟩=>?_
        obtain ⟨st8,fr8⟩:=back I8
        have I8u:=I8.unpinned
        obtain ⟨pd,pn,pc,pf,_⟩:=I8u.pin (s2.heap.objs.size,{ cls:=.type "list",data:=.seq its.toArray c }) (List.mem_append_right _ (List.mem_singleton.mpr rfl))
        have pd:s8.heap.get? s2.heap.objs.size=some { cls:=.type "list",data:=.seq its.toArray c }:=pd
        have hits:its.length≤sizeLine:=by have:=hv3.length;walk_at "om"
        refine wpAny_list_append_plain (s:=s8) (hsz:=by simpa using hits) ⟨c,pd⟩ fun h9 ⟨c9,pl9⟩ sb9=>?_
        have k9:∀ b o,b≠s2.heap.objs.size→s8.heap.get? b=some o→h9.get? b=some o:=fun b o hb e=>(sb9.2 b hb).trans e
        have I8n:Inv (compCx X scope N' cs h3.objs.size s2 H2 fp pins) [] σ6 H8 s8:=I8u.pins_of (pins':=[]) fun p hp=>(nomatch hp)
        have I9:Inv (compCx X scope N' cs h3.objs.size s2 H2 fp pins) [] σ6 H8 { s8 with heap:=h9,toks:=s8.toks }:=I8n.turned k9 pn (by show s2.heap.objs.size≠h3.objs.size;walk_at "om") (.inr (Nat.le_refl _))
          (fun x c e z=>by
            have e:cs.lookup x=some c:=e
            rw [← hcs,lookup_app] at e
            cases ex:(cellsFrom (h3.objs.size + 1) scope.names []).lookup x with
            | some d =>
              rw [ex] at e;cases e
              have:=(cellsFrom_mem (PySem.mem_of_lookup ex)).2
              walk_at "om"
            | none =>
              rw [ex] at e
              have:=I2.cell_lt (closL_look e).2
              walk_at "om")
          (fun p hp=>by
            have hp:p∈(X.pn ++ pins) ++ []:=hp
            rw [List.append_nil] at hp
            have:=I2.pin_lt hp
            walk_at "om")
        have I9':Inv (compCx X scope N' cs h3.objs.size s2 H2 fp pins) [(s2.heap.objs.size,{ cls:=.type "list",data:=.seq (its ++ [y]).toArray c9 })] σ6 H8 { s8 with heap:=h9,toks:=s8.toks }:=I9.pins_of fun p hp=>by
          have:p=(s2.heap.objs.size,({ cls:=.type "list",data:=.seq (its ++ [y]).toArray c9 }:Obj)):=by simpa using hp
          subst this
          refine ⟨?_,pn,pc,pf,fun v z=>by cases z⟩
          show h9.get? s2.heap.objs.size=_
          rw [pl9]
          simp
        have stf:tn (i + 1) h9:=T.keep _ _ _ st8 fun b hb o e=>k9 b o (by have:=hlt b hb;walk_at "om") e
        exact ⟨n + 1 - (i + 1),by walk_at "om",i + 1,ys ++ [v],σ6,H8,its ++ [y],c9,I9',stf,fr8,Vals.append hv3 (.cons r8 .nil),q8,rfl⟩
  exact codeAny_compStart_list (loop _) (T.self _ 0 _ _ _ st4 (loop _))
end
section
variable {X:Cx}
theorem comp_hnames {scope:Scope}{N':List Str}{cap:List (Option Nat)}(ok:CompOk X scope N' cap):∀ x∈scope.names,x.2=.local→scope.names.lookup x.1=some .local:=fun x hx e=>by rw [ok.uniq x hx,e]
theorem comp_clos {scope:Scope}{N':List Str}{cap:List (Option Nat)}(okX:X.Ok) (ok:CompOk X scope N' cap):closureFor scope X.env=pure (closL X.env.cells scope.names) :=
  closureFor_eq fun x hx e=>okX.has x.1 (ok.fre x hx e)
theorem pe_comp {elt tg iter:Expr}{ifs:List Expr}{scope:Scope}{pos:Pos}{N':List Str}{cap:List (Option Nat)}{wi:TI}{g:TG}{tt:TT}{te:TE}(hc:X.calm=true) (ok:CompOk X scope N' cap) (hi:PI X tg iter wi)
    (hb:∀ cells C s₀ H₀ fp pins,PG (compCx X scope N' cells C s₀ H₀ fp pins) tg g∧PIfs (compCx X scope N' cells C s₀ H₀ fp pins) ifs tt∧PE (compCx X scope N' cells C s₀ H₀ fp pins) elt te)
    (hs:∀ x,foldedSetIterable iter X.env x=pure x:=by intro _;rfl):PE X (.ListComp elt [⟨tg,iter,ifs,0⟩] scope pos) (tComp wi cap g tt te):=by
  intro pins s σ H Q I h
  rw [eval_ListComp]
  refine wpAny_comprehension_free (use:=none) rfl hs (comp_clos I.ok ok) ok.kind (comp_hnames ok) (thn (hi pins s σ H _ I h) fun v s1 h1=>thn h1 fun itv s2 h2=>?_)
  obtain ⟨it,fp,tn,J,H2,e,I2,T,st2,f2,n,W,hn,w0,turn⟩:=h2
  subst e
  refine comp_run (RR:=fun acc C=>compPost (model X.prog X.w) X.A X.xe none (EP X pins σ Q) acc C) hc ok hb I2 T st2 f2 hn w0 turn ?_
  intro D C s' H' I' q hm fr c1 c2 c3 c4
  obtain ⟨m,hm⟩:=hm
  exact ⟨m,hm,fun h' sb=>⟨.ref D,H',I'.turned (t':=s'.toks) (fun b o hb e=>(sb.2 b hb).trans e) fr c1 (.inr c2) c3 c4,rfl,q⟩⟩
end
theorem comp_range {lo:Int}{m:Nat}{cap:List (Option Nat)}{g:TG}{tt:TT}{te:TE}{σ:St}{H:Hp}{Q:VK}(hm:m≤sizeLine) (Pv:Nat→List V→St→Hp→Prop) (h0:Pv 0 [] (capS cap σ) H)
    (hl:∀ i ys σ H,Pv i ys σ H→i≤m∧ys.length≤i)
    (hs:∀ i ys σ H,i < m→Pv i ys σ H→g (.int (lo + i)) σ H fun σ2 H2=>tt σ2 H2 fun b H3=>if b=true then te σ2 H3 fun v H4=>Pv (i + 1) (ys ++ [v]) σ2 H4 else Pv (i + 1) ys σ2 H3)
    (hd:∀ ys σ H,Pv m ys σ H→∀ D,H D=none→Q (.ref D) (upd H D (.lst ys))) :
    CompR cap g tt te σ Q (Itr lo m) H:=by
  refine ⟨m,Pv,hm,h0,fun i ys σ' H p=>⟨(hl i ys σ' H p).1,(hl i ys σ' H p).2,?_⟩⟩
  by_cases hi:i < m
  · refine .inr ⟨hi,hi,fun x H' ⟨e1,e2⟩=>?_⟩
    subst e1 e2
    exact hs i ys σ' H' hi p
  · have:i=m:=by have:=(hl i ys σ' H p).1;walk_at "om"
    subst this
    exact .inl ⟨Nat.le_refl _,hd ys σ' H p⟩
theorem comp_list {K:PySem.W.Frag}{a:Addr}{xs:List V}{cap:List (Option Nat)}{g:TG}{tt:TT}{te:TE}{σ:St}{H:Hp}{Q:VK}(hm:xs.length≤sizeLine) (Pv:Nat→List V→St→Hp→Prop) (h0:Pv 0 [] (capS cap σ) H)
    (hl:∀ i ys σ H,Pv i ys σ H→i≤xs.length∧ys.length≤i∧SqL K H a xs)
    (hs:∀ i x ys σ H,xs[i]?=some x→Pv i ys σ H→g x σ H fun σ2 H2=>tt σ2 H2 fun b H3=>if b=true then te σ2 H3 fun v H4=>Pv (i + 1) (ys ++ [v]) σ2 H4 else Pv (i + 1) ys σ2 H3)
    (hd:∀ ys σ H,Pv xs.length ys σ H→∀ D,H D=none→Q (.ref D) (upd H D (.lst ys))) :
    CompR cap g tt te σ Q (Itl K a) H:=by
  refine ⟨xs.length,Pv,hm,h0,fun i ys σ' H p=>?_⟩
  obtain ⟨h1,h2,h3⟩:=hl i ys σ' H p
  refine ⟨h1,h2,?_⟩
  by_cases hi:i < xs.length
  · obtain ⟨x,hx⟩:∃ x,xs[i]?=some x:=⟨xs[i],List.getElem?_eq_getElem hi⟩
    refine .inr ⟨⟨xs,x,h3,hx⟩,hi,fun x' H' ⟨e1,e2⟩=>?_⟩
    subst e1
    exact hs i x' ys σ' H' (e2 xs h3) p
  · have:i=xs.length:=by walk_at "om"
    subst this
    exact .inl ⟨⟨xs,h3,Nat.le_refl _⟩,hd ys σ' H p⟩
end L2
namespace L2
open PySem PySem.Spec PyProof.Rows
local macro_rules | `(tactic| walk_at "om") => `(tactic| first | omega | (unfold Addr at *; omega))
section
variable {X:Cx}
theorem call_isT:CallR X (.builtin "isinstance") (fun xs H Q=>∃ x n t b,xs=[x,.ty n]∧TyOf X.K H x t∧PySem.W.kitOne X.K t (.type n)=some b∧Q (.bl b) H):=by
  intro pins s σ H xs us Q I r h
  obtain ⟨x,n,t,b,rfl,ty,e,q⟩:=h
  obtain ⟨u,w',rfl,rx,rc⟩:=vals2 r
  cases rc
  exact isinst_ok I rx ty e fun tk=>⟨.bl b,H,I.tok tk,rfl,q⟩
theorem all_range (bs:List Bool):(List.range bs.length).all (fun i=>bs.getD i false)=bs.all id:=by
  induction bs with
  | nil=>rfl
  | cons b r ih =>
    rw [List.length_cons,List.range_succ_eq_map,List.all_cons,List.all_map,List.all_cons,← ih]
    rfl
theorem call_allL (hc:X.calm=true):CallR X (.builtin "all") (fun xs H Q=>∃ (p:Addr) (bs:List Bool),xs=[.ref p]∧SqL X.K H p (bs.map V.bl)∧Q (.bl (bs.all id)) H):=by
  intro pins s σ H xs us Q I r h
  obtain ⟨p,bs,rfl,hq,q⟩:=h
  obtain ⟨u,rfl,rx⟩:=vals1 r
  cases rx
  obtain ⟨its,rv,pl,hz⟩:=I.list hq
  have hl:=pl.isList
  have hlen:=rv.length
  rw [List.length_map] at hlen
  obtain ⟨o,ho,hr⟩:=id hl
  have hne:p≠s.heap.objs.size:=Nat.ne_of_lt (Heap.lt_size ho)
  refine call_all_walk (wpAny_pyIter_list hl ⟨s.heap.objs.size,_,_,_,_,_,fun i=>bs.getD i false,rfl,Walks.list (A:=X.A.in1) (I.ok.hd hc) s.heap.objs.size p hne its.toArray,⟨⟨_,Heap.get?_push_size _ rfl,rfl,rfl⟩,⟨o,Heap.get?_push_of_some _ ho,hr⟩⟩,?_,fun h' tk hk=>?_⟩)
  · intro i v s' Q' E' hv hQ
    have hv:its.toArray[i]?=some v:=hv
    have hv':its[i]?=some v:=by simpa using hv
    have hi:i < bs.length:=by have:=(List.getElem?_eq_some_iff.mp hv').1;walk_at "om"
    obtain ⟨u,hu,ru⟩:=rv.get (i:=i) (x:=.bl bs[i]) (by rw [List.getElem?_map,List.getElem?_eq_getElem hi];rfl)
    rw [hv'] at hu;cases hu
    cases ru
    have e:bs.getD i false=bs[i]:=by rw [List.getD_eq_getElem?_getD,List.getElem?_eq_getElem hi];rfl
    have hQ:Q' (bs.getD i false) s':=hQ
    rw [e] at hQ
    exact wpAny_truthy_bool hQ
  · have e:(List.range its.toArray.size).all (fun i=>bs.getD i false)=bs.all id:=by
      rw [← all_range bs,List.size_toArray,hlen]
    rw [e]
    refine ⟨.bl (bs.all id),H,I.kept fun b ob eb=>hk b ob ?_ (Heap.get?_push_of_some _ eb),rfl,q⟩
    intro z
    have:b=s.heap.objs.size:=by simpa using z
    rw [this] at eb
    exact Nat.lt_irrefl _ (Heap.lt_size eb)
end
inductive Tr where
  | flat (v:V)
  | lst (xs:List Tr)
  | tup (xs:List Tr)
mutual
def eqT:Tr→Tr→Bool
  | .flat a,.flat b=>eqV a b
  | .lst xs,.lst ys=>eqTs xs ys
  | .tup xs,.tup ys=>eqTs xs ys
  | _,_=>false
def eqTs:List Tr→List Tr→Bool
  | [],[]=>true
  | x :: xs,y :: ys=>eqT x y && eqTs xs ys
  | _,_=>false
end
theorem eqV_refl:∀ {v:V},flatV v=true→eqV v v=true
  | .non,_=>rfl
  | .bl b,_=>by simp [eqV]
  | .int i,_=>by simp [eqV]
  | .str x,_=>by simp [eqV]
inductive Holds (K:PySem.W.Frag) (H:Hp):Nat→V→Tr→Prop where
  | flat {n:Nat} {v:V} (h:flatV v=true):Holds K H n v (.flat v)
  | lst {n:Nat} {a:Addr} {xs:List V} {ts:List Tr} (h:SqL K H a xs) (hl:xs.length=ts.length) (he:∀ (i:Nat) x t,xs[i]?=some x→ts[i]?=some t→Holds K H n x t):Holds K H (n + 1) (.ref a) (.lst ts)
  | tup {n:Nat} {a:Addr} {xs:List V} {ts:List Tr} (h:SqT K H a xs) (hl:xs.length=ts.length) (he:∀ (i:Nat) x t,xs[i]?=some x→ts[i]?=some t→Holds K H n x t):Holds K H (n + 1) (.ref a) (.tup ts)
theorem eqTs_len:∀ {xs ys:List Tr},xs.length≠ys.length→eqTs xs ys=false
  | [],[],h=>absurd rfl h
  | [],_ :: _,_=>by simp [eqTs]
  | _ :: _,[],_=>by simp [eqTs]
  | x :: xs,y :: ys,h=>by
    have:=eqTs_len (xs:=xs) (ys:=ys) (fun e=>h (by simp [e]))
    simp [eqTs,this]
theorem eqTs_all:∀ {xs ys:List Tr},xs.length=ys.length→eqTs xs ys=(List.range xs.length).all fun i=>match xs[i]?,ys[i]? with | some x,some y=>eqT x y | _,_=>true
  | [],[],_=>by simp [eqTs]
  | x :: xs,y :: ys,h=>by
    have ih:=eqTs_all (xs:=xs) (ys:=ys) (by simpa using h)
    rw [List.length_cons,List.range_succ_eq_map,List.all_cons,List.all_map]
    simp only [eqTs]
    rw [ih]
    rfl
section
variable {X:Cx}{pins:List (Addr×Obj)}{σ:St}{H:Hp}{s:Shared}
theorem Holds.same (I:Inv X pins σ H s):∀ {n:Nat}{x:V}{t u:Tr},Holds X.K H n x t→∀ {m:Nat},Holds X.K H m x u→eqT t u=true:=by
  intro n x t u h
  induction h generalizing u with
  | flat hv =>
    intro m h'
    cases h' with
    | flat _=>simp only [eqT];exact eqV_refl hv
    | lst=>simp [flatV] at hv
    | tup=>simp [flatV] at hv
  | @lst n a xs ts h hl he ih =>
    intro m h'
    cases h' with
    | flat hv=>simp [flatV] at hv
    | @lst _ _ ys us h2 hl2 he2 =>
      have e:=I.list_inj h h2
      subst e
      simp only [eqT]
      rw [eqTs_all (hl.symm.trans hl2),List.all_eq_true]
      intro i hi
      have hi:i < ts.length:=by simpa using hi
      have hx:xs[i]?=some xs[i]:=List.getElem?_eq_getElem (by walk_at "om")
      have ht:ts[i]?=some ts[i]:=List.getElem?_eq_getElem hi
      have hu:us[i]?=some us[i]:=List.getElem?_eq_getElem (by walk_at "om")
      rw [ht,hu]
      exact ih i _ _ hx ht (he2 i _ _ hx hu)
    | tup h2 =>
      exfalso
      obtain ⟨its,_,p,_⟩:=I.list h
      obtain ⟨its2,_,p2,_⟩:=I.tuple h2
      obtain ⟨o,ho,hc,_⟩:=p.isList
      obtain ⟨o2,ho2,hc2,_⟩:=p2
      rw [ho] at ho2;cases ho2
      rw [hc] at hc2
      injection hc2 with z
      exact absurd z (by decide)
  | @tup n a xs ts h hl he ih =>
    intro m h'
    cases h' with
    | flat hv=>simp [flatV] at hv
    | lst h2 =>
      exfalso
      obtain ⟨its,_,p,_⟩:=I.list h2
      obtain ⟨its2,_,p2,_⟩:=I.tuple h
      obtain ⟨o,ho,hc,_⟩:=p.isList
      obtain ⟨o2,ho2,hc2,_⟩:=p2
      rw [ho] at ho2;cases ho2
      rw [hc] at hc2
      injection hc2 with z
      exact absurd z (by decide)
    | @tup _ _ ys us h2 hl2 he2 =>
      have e:=I.tuple_inj h h2
      subst e
      simp only [eqT]
      rw [eqTs_all (hl.symm.trans hl2),List.all_eq_true]
      intro i hi
      have hi:i < ts.length:=by simpa using hi
      have hx:xs[i]?=some xs[i]:=List.getElem?_eq_getElem (by walk_at "om")
      have ht:ts[i]?=some ts[i]:=List.getElem?_eq_getElem hi
      have hu:us[i]?=some us[i]:=List.getElem?_eq_getElem (by walk_at "om")
      rw [ht,hu]
      exact ih i _ _ hx ht (he2 i _ _ hx hu)
theorem items_eq {A:Around}{n m:Nat}{xs ys:List V}{ts us:List Tr}{its its2:List Value}(rv:Vals xs its) (rv2:Vals ys its2) (hl:xs.length=ts.length) (hl2:ys.length=us.length)
    (he:∀ (i:Nat) x t y u v w',xs[i]?=some x→ts[i]?=some t→ys[i]?=some y→us[i]?=some u→RelV x v→RelV y w'→SeqAt.EqAt A s v w' (eqT t u)) :
    ∀ j (h1:j < its.toArray.size) (h2:j < its2.toArray.size),SeqAt.EqAt A s its.toArray[j] its2.toArray[j] (match ts[j]?,us[j]? with | some x,some y=>eqT x y | _,_=>true):=by
  intro j h1 h2
  have a1:=rv.length
  have a2:=rv2.length
  have h1':j < its.length:=by simpa using h1
  have h2':j < its2.length:=by simpa using h2
  have hx:xs[j]?=some xs[j]:=List.getElem?_eq_getElem (by walk_at "om")
  have hy:ys[j]?=some ys[j]:=List.getElem?_eq_getElem (by walk_at "om")
  have ht:ts[j]?=some ts[j]:=List.getElem?_eq_getElem (by walk_at "om")
  have hu:us[j]?=some us[j]:=List.getElem?_eq_getElem (by walk_at "om")
  obtain ⟨v,ev,r1⟩:=rv.get hx
  obtain ⟨w',ew,r2⟩:=rv2.get hy
  rw [ht,hu]
  have e1:its.toArray[j]=v:=by
    have:its[j]?=some its[j]:=List.getElem?_eq_getElem h1'
    rw [this] at ev
    simpa using ev
  have e2:its2.toArray[j]=w':=by
    have:its2[j]?=some its2[j]:=List.getElem?_eq_getElem h2'
    rw [this] at ew
    simpa using ew
  rw [e1,e2]
  exact he j _ _ _ _ _ _ hx ht hy hu r1 r2
theorem eqAt_T (I:Inv X pins σ H s):∀ {n:Nat}{x:V}{t:Tr},Holds X.K H n x t→∀ {m:Nat}{y:V}{u:Tr}{v w':Value}{A:Around},Holds X.K H m y u→RelV x v→RelV y w'→A.units + n + 1 < cLine→SeqAt.EqAt A s v w' (eqT t u):=by
  intro n x t h
  induction h with
  | @flat n x hv =>
    intro m y u v w' A h' rx ry hu
    cases h' with
    | flat hv2=>simp only [eqT];exact eqAt_V rx ry hv hv2
    | @lst _ a xs ts h =>
      cases ry
      obtain ⟨its,_,p,_⟩:=I.list h
      simp only [eqT]
      cases x with
      | non=>cases rx;exact SeqAt.EqAt.none_list p.isList (by walk_at "om")
      | bl b=>cases rx;exact SeqAt.EqAt.bool_list b p.isList (by walk_at "om")
      | int i=>obtain ⟨t,rfl⟩:=rx;exact SeqAt.EqAt.int_list i t p.isList (by walk_at "om")
      | str x=>obtain ⟨t,rfl⟩:=rx;exact SeqAt.EqAt.str_list x t p.isList (by walk_at "om")
      | _=>simp [flatV] at hv
    | @tup _ a xs ts h =>
      cases ry
      obtain ⟨its,_,p,_⟩:=I.tuple h
      simp only [eqT]
      cases x with
      | non=>cases rx;exact SeqAt.EqAt.none_tuple p (by walk_at "om")
      | bl b=>cases rx;exact SeqAt.EqAt.bool_tuple b p (by walk_at "om")
      | int i=>obtain ⟨t,rfl⟩:=rx;exact SeqAt.EqAt.int_tuple i t p (by walk_at "om")
      | str x=>obtain ⟨t,rfl⟩:=rx;exact SeqAt.EqAt.str_tuple x t p (by walk_at "om")
      | _=>simp [flatV] at hv
  | @lst n a xs ts h hl he ih =>
    intro m y u v w' A h' rx ry hu
    cases rx
    obtain ⟨its,rv,p,_⟩:=I.list h
    cases h' with
    | @flat _ y hv =>
      simp only [eqT]
      cases y with
      | non=>cases ry;exact SeqAt.EqAt.list_none p.isList (by walk_at "om")
      | bl b=>cases ry;exact SeqAt.EqAt.list_bool b p.isList (by walk_at "om")
      | int i=>obtain ⟨t,rfl⟩:=ry;exact SeqAt.EqAt.list_int i t p.isList (by walk_at "om")
      | str x=>obtain ⟨t,rfl⟩:=ry;exact SeqAt.EqAt.list_str x t p.isList (by walk_at "om")
      | _=>simp [flatV] at hv
    | @lst m b ys us h2 hl2 he2 =>
      cases ry
      by_cases hab:a=b
      · subst hab
        rw [Holds.same I (.lst h hl he) (Holds.lst h2 hl2 he2)]
        exact SeqAt.EqAt.same _
      · obtain ⟨its2,rv2,p2,_⟩:=I.list h2
        have a1:=rv.length
        have a2:=rv2.length
        simp only [eqT]
        by_cases hlen:ts.length=us.length
        · rw [eqTs_all hlen]
          have q:=SeqAt.RcAt.lists (A:=A) p.isList p2.isList (by simp;walk_at "om") (by walk_at "om") (items_eq (A:=A.in1) (n:=n) (m:=m) rv rv2 hl hl2 fun i x t y u v w' h1 h2 h3 h4 r1 r2=>ih i x t h1 h2 (he2 i y u h3 h4) r1 r2 (by show A.units + 1 + n + 1 < cLine;walk_at "om"))
          have e:its.toArray.size=ts.length:=by simp;walk_at "om"
          rw [e] at q
          exact .of_refs hab q
        · rw [eqTs_len hlen]
          exact .of_refs hab (SeqAt.RcAt.lists_lengths p.isList p2.isList (by simp;walk_at "om") (by walk_at "om"))
    | @tup m b ys us h2 hl2 he2 =>
      cases ry
      obtain ⟨its2,rv2,p2,_⟩:=I.tuple h2
      simp only [eqT]
      exact SeqAt.EqAt.list_tuple p.isList p2 (by walk_at "om")
  | @tup n a xs ts h hl he ih =>
    intro m y u v w' A h' rx ry hu
    cases rx
    obtain ⟨its,rv,p,_⟩:=I.tuple h
    cases h' with
    | @flat _ y hv =>
      simp only [eqT]
      cases y with
      | non=>cases ry;exact SeqAt.EqAt.tuple_none p (by walk_at "om")
      | bl b=>cases ry;exact SeqAt.EqAt.tuple_bool b p (by walk_at "om")
      | int i=>obtain ⟨t,rfl⟩:=ry;exact SeqAt.EqAt.tuple_int i t p (by walk_at "om")
      | str x=>obtain ⟨t,rfl⟩:=ry;exact SeqAt.EqAt.tuple_str x t p (by walk_at "om")
      | _=>simp [flatV] at hv
    | @lst m b ys us h2 hl2 he2 =>
      cases ry
      obtain ⟨its2,rv2,p2,_⟩:=I.list h2
      simp only [eqT]
      exact SeqAt.EqAt.tuple_list p p2.isList (by walk_at "om")
    | @tup m b ys us h2 hl2 he2 =>
      cases ry
      by_cases hab:a=b
      · subst hab
        rw [Holds.same I (.tup h hl he) (Holds.tup h2 hl2 he2)]
        exact SeqAt.EqAt.same _
      · obtain ⟨its2,rv2,p2,_⟩:=I.tuple h2
        have a1:=rv.length
        have a2:=rv2.length
        simp only [eqT]
        have q:=SeqAt.RcAt.tuples (A:=A) p p2 (by walk_at "om") (items_eq (A:=A.in1) (n:=n) (m:=m) rv rv2 hl hl2 fun i x t y u v w' h1 h2 h3 h4 r1 r2=>ih i x t h1 h2 (he2 i y u h3 h4) r1 r2 (by show A.units + 1 + n + 1 < cLine;walk_at "om"))
        have e:((List.range (min its.toArray.size its2.toArray.size)).all (fun j=>match ts[j]?,us[j]? with | some x,some y=>eqT x y | _,_=>true) && its.toArray.size == its2.toArray.size)=eqTs ts us:=by
          have s1:its.toArray.size=ts.length:=by simp;walk_at "om"
          have s2:its2.toArray.size=us.length:=by simp;walk_at "om"
          rw [s1,s2]
          by_cases hlen:ts.length=us.length
          · rw [eqTs_all hlen,← hlen,Nat.min_self]
            simp
          · rw [eqTs_len hlen]
            simp [hlen]
        rw [e] at q
        exact .of_refs hab q
end
section
variable {X:Cx}
def rEqT (K:PySem.W.Frag) (neg:Bool):R2:=fun x y H Q=>∃ a b n m t u,x=.ref a∧y=.ref b∧n≤50∧m≤50∧Holds K H n x t∧Holds K H m y u∧(∀ z,u≠.tup z)∧(∀ z,t≠.tup z)∧Q (.bl (if neg then !(eqT t u) else eqT t u)) H
theorem op_neT (hu:X.A.units + 60 < cLine):OpR X (compareOp .NotEq) (rEqT X.K true):=by
  intro pins s σ H x y v u Q I rx ry h
  obtain ⟨a,b,n,m,t,u',rfl,rfl,hn,hm,ht,hu',nt,nt',q⟩:=h
  simp only [if_true] at q
  cases rx;cases ry
  cases ht with
  | flat hv=>simp [flatV] at hv
  | tup=>exact absurd rfl (nt' _)
  | @lst n _ xs ts h1 hl he =>
    cases hu' with
    | flat hv=>simp [flatV] at hv
    | tup=>exact absurd rfl (nt _)
    | @lst m _ ys us h2 hl2 he2 =>
      obtain ⟨its,rv,p,_⟩:=I.list h1
      obtain ⟨its2,rv2,p2,_⟩:=I.list h2
      have a1:=rv.length
      have a2:=rv2.length
      simp only [eqT] at q
      by_cases hlen:ts.length=us.length
      · rw [eqTs_all hlen] at q
        have e:its.toArray.size=ts.length:=by simp;walk_at "om"
        rw [← e] at q
        exact SeqAt.RcNeAt.lists p.isList p2.isList (by simp;walk_at "om") (by walk_at "om") (items_eq (A:=X.A.in1) (n:=n) (m:=m) rv rv2 hl hl2 fun i x t y u v w' h1 h2 h3 h4 r1 r2=>eqAt_T I (he i x t h1 h2) (he2 i y u h3 h4) r1 r2 (by show X.A.units + 1 + n + 1 < cLine;walk_at "om")) X.prog X.w X.xe _ ⟨.bl _,H,I,rfl,q⟩
      · rw [eqTs_len hlen] at q
        exact SeqAt.RcNeAt.lists_lengths p.isList p2.isList (by simp;walk_at "om") (by walk_at "om") X.prog X.w X.xe _ ⟨.bl _,H,I,rfl,q⟩
end
def Ite (K:PySem.W.Frag) (a:Addr) (lo:Int):It :=
  ⟨fun i H=>∃ xs x,SqL K H a xs∧xs[i]?=some x,
   fun i H x H'=>∃ p v,H p=none∧x=.ref p∧H'=upd H p (.tup [.int (lo + i),v])∧∀ xs,SqL K H a xs→xs[i]?=some v,
   fun i H=>∃ xs,SqL K H a xs∧xs.length≤i⟩
theorem turn_enum {P:Program}{w:World}{K:PySem.W.Frag}{elts:List Expr}{k0}{tp:Pos}(a e it:Addr) (lo:Int) (hne:e≠it) :
    Turn P w K (.Tuple elts k0 tp) (Ite K a lo) [e,it] e (fun i h=>(∃ old,IsEnum h e it (lo + (i:Nat)) old)∧h.IsListIter it a i) where
  mem:=by simp
  obj:=fun i h st b hb=>by
    obtain ⟨⟨old,he⟩,o,ho,hc,hd⟩:=st
    rcases List.mem_cons.mp hb with z | z
    · subst z
      exact ⟨_,he,fun v q=>by cases q⟩
    · have z:b=it:=by simpa using z
      subst z
      exact ⟨o,ho,fun v q=>by rw [hd] at q;cases q⟩
  keep:=fun i h h' st k=>by
    obtain ⟨⟨old,he⟩,hi⟩:=st
    exact ⟨⟨old,k e (by simp) _ he⟩,hi.at fun o q=>k it (by simp) o q⟩
  item:=by
    intro X hP hw hK hc i pins s σ H E I hf st hg
    subst hP hw hK
    obtain ⟨⟨old,he⟩,hi⟩:=st
    obtain ⟨xs,x,hq,hx⟩:=hg
    obtain ⟨its,rv,p,hz⟩:=I.list hq
    obtain ⟨u,hu,ru⟩:=rv.get hx
    have fe:=hf e (by simp)
    have fi:=hf it (by simp)
    have le:e < s.heap.objs.size:=Heap.lt_size he
    refine next_enumJ he hi p.isList (x:=u) (by simpa using hu) hne fun h1 ho1 hi1 ht1 hz1 hk1=>⟨.ref s.heap.objs.size,rfl,?_⟩
    refine wpAny_letOwnedTupleGo_enum ho1 fun h2 he2 sb2=>?_
    have sb2:Heap.SameBut e h1 h2:=sb2
    have k2:∀ b o,b≠e→b≠it→s.heap.get? b=some o→h2.get? b=some o:=fun b o h1 h2 q=>(sb2.2 b h1).trans (hk1 b o h1 h2 q)
    have ht2:h2.get? s.heap.objs.size=some { cls:=.type "tuple",data:=.seq #[.int (lo + (i:Nat)) s.toks,u] }:=(sb2.2 _ (Nat.ne_of_gt le)).trans ht1
    have nH:H s.heap.objs.size=none:=I.hok.fresh (Nat.le_refl _)
    have I2:Inv X pins σ (upd H s.heap.objs.size (.tup [.int (lo + (i:Nat)),x])) { s with heap:=h2,toks:=s.toks + 1 }:=by
      refine I.call' (ch:=[e,it]) rfl ⟨fun b o q n hb hx=>k2 b o (fun z=>hx (by simp [z])) (fun z=>hx (by simp [z])) q,fun b o q n hb hx=>⟨o.slots,k2 b o (fun z=>hx (by simp [z])) (fun z=>hx (by simp [z])) q⟩,fun b o q n hx=>?_,fun b o q hx=>⟨o,k2 b o (fun z=>hx (by simp [z])) (fun z=>hx (by simp [z])) q⟩,
        fun b xs q=>?_,fun b o u q=>?_,fun b ps q=>⟨#[],?_⟩⟩ (fun b ob q=>?_) I.bare fun b hb=>?_
      · rw [upd_ne (Nat.ne_of_lt (Heap.lt_size q))];exact n
      · rw [upd_ne (ne_of_none q nH)];exact q
      · rw [upd_ne (ne_of_none q nH)];exact q
      · rw [upd_ne (ne_of_none q nH),q];simp
      · by_cases hb:b=s.heap.objs.size
        · subst hb
          rw [upd_same] at q;cases q
          exact ⟨by show 2≤sizeLine;decide,[.int (lo + (i:Nat)) s.toks,u],.cons ⟨_,rfl⟩ (.cons ru .nil),_,ht2,rfl,_,rfl⟩
        · rw [upd_ne hb] at q
          refine (I.hok b ob q).stay (fun c v hc r=>k2 c v ?_ ?_ r) (fun c r=>by rw [upd_ne (ne_of_none r nH)];exact r) fun c ys r=>by rw [upd_ne (ne_of_none r nH)];exact r
          · intro z
            rcases hc with w | w
            · rw [← w,z,fe.1] at q;cases q
            · rw [z,fe.1] at w;cases w
          · intro z
            rcases hc with w | w
            · rw [← w,z,fi.1] at q;cases q
            · rw [z,fi.1] at w;cases w
      · rcases List.mem_cons.mp hb with z | z
        · subst z
          exact ⟨fe.2.2.2.1,fe.2.1,fe.2.2.2.2.1,fe.2.2.2.2.2⟩
        · have z:b=it:=by simpa using z
          subst z
          exact ⟨fi.2.2.2.1,fi.2.1,fi.2.2.2.2.1,fi.2.2.2.2.2⟩
    refine ⟨.ref s.heap.objs.size,_,I2,rfl,⟨_,x,nH,rfl,rfl,fun ys hy=>by rw [I.list_inj hy hq];exact hx⟩,⟨⟨u,?_⟩,hi1.extBut sb2.extBut (Ne.symm hne)⟩,fun b hb=>?_⟩
    · have:lo + ((i + 1:Nat):Int)=lo + (i:Nat) + 1:=by push_cast;walk_at "om"
      rw [this]
      exact he2
    · have lb:b < s.heap.objs.size:=by
        rcases List.mem_cons.mp hb with z | z
        · rw [z];exact le
        · have z:b=it:=by simpa using z
          rw [z]
          obtain ⟨o,ho,_⟩:=hi
          exact Heap.lt_size ho
      rw [upd_ne (Nat.ne_of_lt lb)]
      exact (hf b hb).1
  done:=by
    intro X hP hw hK hc i pins s σ H E I hf st hg
    subst hP hw hK
    obtain ⟨⟨old,he⟩,hi⟩:=st
    obtain ⟨xs,hq,hx⟩:=hg
    obtain ⟨its,rv,p,hz⟩:=I.list hq
    obtain ⟨f0,f1,f2,f3,f4,f5⟩:=hf it (by simp)
    have hl:=rv.length
    exact done_enumJ (I.ok.hd hc) he hi p.isList (by simp;walk_at "om") fun h' eb=>⟨rfl,I.turned (t':=s.toks) (fun b o hb e=>eb b o hb e) f0 f1 f3 f4 f5⟩
  self:=fun _ _ _ _ _ st h=>by
    obtain ⟨⟨old,he⟩,_⟩:=st
    exact wpAny_pyIter_enum he h
def iEnum (K:PySem.W.Frag) (lo:Int) (ta:TA):TI:=fun σ H R=>ta σ H fun vs H1=>∃ a,vs=[.ref a]∧(∃ xs,SqL K H1 a xs)∧R (Ite K a lo) H1
section
variable {X:Cx}{elts:List Expr}{k0}{tp:Pos}
theorem enum_it {pins:List (Addr×Obj)}{σ:St}{H:Hp}{s:Shared}{R:It→Hp→Prop}{a:Addr}{lo:Int}{h':Heap}(I:Inv X pins σ H s) (he:IsEnum h' (s.heap.objs.size + 1) s.heap.objs.size lo .none) (hi:h'.IsListIter s.heap.objs.size a 0)
    (hk:∀ b o,s.heap.get? b=some o→h'.get? b=some o) (q:R (Ite X.K a lo) H):wpAny (model X.prog X.w) X.A (pyIter (.ref (s.heap.objs.size + 1))) (PIE X pins σ (.Tuple elts k0 tp) R) X.xe { s with heap:=h' }:=by
  have I1:Inv X pins σ H { s with heap:=h' }:=I.kept (t':=s.toks) hk
  refine wpAny_pyIter_enum (s:={ s with heap:=h' }) he ?_
  refine ⟨s.heap.objs.size + 1,[s.heap.objs.size + 1,s.heap.objs.size],_,_,H,rfl,I1,turn_enum a _ _ lo (by walk_at "om"),⟨⟨.none,?_⟩,hi⟩,fun b hb=>?_,q⟩
  · have:lo + ((0:Nat):Int)=lo:=by simp
    rw [this];exact he
  · have hb':s.heap.objs.size≤b:=by
      rcases List.mem_cons.mp hb with z | z
      · walk_at "om"
      · have z:b=s.heap.objs.size:=by simpa using z
        walk_at "om"
    exact I.fpOk hb' (I.hok.fresh hb')
theorem pi_enumS {l:Expr}{ta:TA}{p pos kp cp:Pos}{j}(hg:Gl X "enumerate") (hm:X.mg "enumerate"=none) (ha:PA X [l] ta) (hs:starEach [l] X.env=[(false,eval l X.env)]:=by rfl) :
    PI X (.Tuple elts k0 tp) (.Call (.Name "enumerate" p) [l] [⟨some "start",.Constant (.int 1) j cp,kp⟩] pos) (iEnum X.K 1 ta):=by
  intro pins s σ H R I h
  refine wpAny_Call_Name_kw (ld_blt I hg hm boot_enumerate ?_)
  refine PySem.W.callWith_of (P:=fun _=>True) (by rw [hs];rfl) (fun h _=>⟨.machine,.inr (.inl rfl),.now⟩) (evalArgs_kw2 (kws:=[⟨some "start",.Constant (.int 1) j cp,kp⟩]) rfl (thn (ha pos pins s σ H _ I h) fun us s1 ⟨vs,H1,I1,r1,q1⟩=>?_) hs)
  have hk:PK X [⟨some "start",.Constant (.int 1) j cp,kp⟩] (tCons (tC (.int 1)) tNil):=pk_cons pe_int pk_nil
  refine thn (hk pos pins s1 σ H1 (fun zs H2=>zs=[.int 1]∧∃ a,vs=[.ref a]∧(∃ xs,SqL X.K H2 a xs)∧R (Ite X.K a 1) H2) I1 ⟨rfl,q1⟩) fun ws s2 ⟨zs,H2,I2,rz,ez,a,e,⟨xs,hq⟩,q⟩=>?_
  subst e ez
  obtain ⟨u,rfl,rx⟩:=vals1 r1
  cases rx
  obtain ⟨u,rfl,rx⟩:=vals1 rz
  obtain ⟨t,rfl⟩:=rx
  obtain ⟨its,rv,pl,hz⟩:=I2.list hq
  exact ⟨trivial,call_enumS pl.isList fun h' he hi _ hk=>enum_it I2 he hi hk q⟩
end
end L2
namespace L2
open PySem PySem.Spec PyProof.Rows
section
variable {P:Program}{w:World}{K:PySem.W.Frag}{mg:Str→Option Value}{base:Heap}
end
theorem Same.upd {H H':Hp}(s:Same H H') {p:Addr}{o:HO}(h:H' p=Option.none):Same H (upd H' p o):=fun b u e=>by
  rw [upd_ne (ne_of_none (s b u e) h)]
  exact s b u e
theorem Same.upd0 {H:Hp}{p:Addr}{o:HO}(h:H p=Option.none):Same H (L2.upd H p o):=(Same.refl H).upd h
theorem Same.updF {H H':Hp}(s:Same H H') {p:Addr}{o:HO}(h:H p=Option.none):Same H (L2.upd H' p o):=fun b u e=>by
  rw [upd_ne (ne_of_none e h)]
  exact s b u e
theorem small_len {n:Nat}(h:n≤1000):n≤sizeLine:=Nat.le_of_lt (small1000 h)
structure Vol (H:Hp) (v:Addr) (as:List Addr) (rows:List (List Int)):Prop where
  top:H v=some (.lst (as.map V.ref))
  len:as.length=rows.length
  nd:as.Nodup
  row:∀ (i:Nat) a r,as[i]?=some a→rows[i]?=some r→H a=some (.lst (r.map V.int))
theorem Vol.same {H H':Hp}{v:Addr}{as:List Addr}{rows:List (List Int)}(x:Vol H v as rows) (s:Same H H'):Vol H' v as rows :=
  ⟨s _ _ x.top,x.len,x.nd,fun i a r h1 h2=>s _ _ (x.row i a r h1 h2)⟩
theorem iteD {c A B:Prop} [Decidable c] (hc:c) (h:A):if decide c=true then A else B:=by rw [if_pos (decide_eq_true hc)];exact h
theorem iteDF {c A B:Prop} [Decidable c] (hc:¬ c) (h:B):if decide c=true then A else B:=by rw [if_neg (by simp [hc])];exact h
theorem iteNF {c A B:Prop} [Decidable c] (hc:¬ c) (h:A):if (!decide c)=true then A else B:=by rw [if_pos (by simp [hc])];exact h
theorem iteB {b:Bool}{A B:Prop}(hb:b=true) (h:A):if b=true then A else B:=by rw [if_pos hb];exact h
theorem iteBF {b:Bool}{A B:Prop}(hb:b=false) (h:B):if b=true then A else B:=by rw [if_neg (by simp [hb])];exact h
def compB (N:List Str) (outer:List (Str×NameKind)) (sc:Scope) (N':List Str) (cap:List (Option Nat)):Bool :=
  (sc.kind == .function) && sc.names.all (fun y=>sc.names.lookup y.1 == some y.2) && sc.names.all (fun y=>y.2 != .free || (outer.lookup y.1 == some .cell || outer.lookup y.1 == some .free)) && cap.length == N'.length &&
    (List.range cap.length).all fun j=>match cap[j]? with
      | some (some i)=>(match N'[j]?,N[i]? with | some x,some y=>x == y && sc.names.lookup x == some .free | _,_=>false)
      | _=>true
theorem compOk_of {X:Cx}{scope:Scope}{N':List Str}{cap:List (Option Nat)}(h:compB X.N X.env.scope.names scope N' cap=true):CompOk X scope N' cap:=by
  unfold compB at h
  simp only [Bool.and_eq_true] at h
  obtain ⟨⟨⟨⟨h1,h2⟩,h3⟩,h4⟩,h5⟩:=h
  refine ⟨by simpa using h1,fun y hy=>?_,fun y hy e=>?_,by simpa using h4,fun j i e=>?_⟩
  · have:=List.all_eq_true.mp h2 y hy
    simpa using this
  · have:=List.all_eq_true.mp h3 y hy
    rw [e] at this
    simpa using this
  · have hj:j < cap.length:=(List.getElem?_eq_some_iff.mp e).1
    have:=List.all_eq_true.mp h5 j (by simpa using hj)
    rw [e] at this
    simp only at this
    split at this
    · rename_i x y ex ey
      simp only [Bool.and_eq_true,beq_iff_eq] at this
      obtain ⟨q1,q2⟩:=this
      subst q1
      exact ⟨x,ex,ey,q2⟩
    · cases this
theorem for_enum {K:PySem.W.Frag}{a:Addr}{lo:Int}{xs:List V}{g:TG}{tb:TS}{D:Ends}{σ:St}{H:Hp}(Pv:Nat→St→Hp→Prop) (h0:Pv 0 σ H) (hl:∀ i σ H,i≤xs.length→Pv i σ H→SqL K H a xs)
    (hs:∀ i x σ H p,xs[i]?=some x→Pv i σ H→H p=none→g (.ref p) σ (upd H p (.tup [.int (lo + i),x])) fun σ2 H2=>tb { D with nx:=Pv (i + 1),ct:=Pv (i + 1),bk:=D.nx } σ2 H2) (hd:∀ σ H,Pv xs.length σ H→D.nx σ H) :
    ∃ W:Nat→Nat→St→Hp→Prop,(∃ m,W 0 m σ H)∧∀ i m σ H,W i m σ H →
      ((Ite K a lo).stop i H∧D.nx σ H)∨((Ite K a lo).go i H∧∃ N:St→Hp→Prop,(∀ σ' H',N σ' H'→∃ m',m' < m∧W (i + 1) m' σ' H')∧∀ x H',(Ite K a lo).yld i H x H'→g x σ H' fun σ2 H2=>tb { D with nx:=N,ct:=N,bk:=D.nx } σ2 H2):=by
  refine ⟨fun i m σ H=>i≤xs.length∧m=xs.length - i∧Pv i σ H,⟨_,Nat.zero_le _,rfl,h0⟩,fun i m σ H ⟨h1,h2,h3⟩=>?_⟩
  have hq:=hl i σ H h1 h3
  by_cases hi:i < xs.length
  · refine .inr ⟨⟨xs,xs[i],hq,List.getElem?_eq_getElem hi⟩,Pv (i + 1),fun σ' H' p=>⟨xs.length - (i + 1),by omega,by omega,rfl,p⟩,fun x H' ⟨p,v,hp,ex,eH,hv⟩=>?_⟩
    subst ex eH
    exact hs i v σ H p (hv xs hq) h3 hp
  · have:i=xs.length:=by omega
    subst this
    exact .inl ⟨⟨xs,hq,Nat.le_refl _⟩,hd σ H h3⟩
end L2
namespace L2
open PySem PySem.Spec PyProof.Rows
section
variable {X:Cx}{K:PySem.W.Frag}
theorem ix_listK (h:X.K=K):IxR X (rIxL K):=h▸ix_list
theorem call_isTK (h:X.K=K):CallR X (.builtin "isinstance") (fun xs H Q=>∃ x n t b,xs=[x,.ty n]∧TyOf K H x t∧PySem.W.kitOne K t (.type n)=some b∧Q (.bl b) H):=by subst h;exact call_isT
theorem pi_listK {tg l:Expr}{tl:TE}(h:X.K=K) (hl:PE X l tl):PI X tg l (iList K tl):=by subst h;exact pi_list hl
end
end L2
namespace L2
open PySem
theorem dict_mapF (o:Obj) (f:Array Value→Array Value):(Obj.mapFields f o).dict=o.dict:=by
  obtain ⟨c,d,dt,sl⟩:=o
  cases dt<;>rfl
structure Fly (base:Heap) (l:List Env) (e:Addr) (cls:Value) (d:Option Addr) (fl:Value) (h:Heap):Prop where
  st:base.StaysIn h
  en:base.get? e=none
  fr:h.FunFrames base l
  tr:∃ oe vs T oT ts,h.get? e=some oe∧oe.cls=cls∧oe.dict=d∧oe.data=.fields vs∧vs[1]?=some (.ref T)∧base.get? T=none∧T≠e∧h.get? T=some oT∧oT.data=.fields ts∧ts[3]?=some fl
section
variable {M:Model}{A:Around}{E:Value→Shared→Prop}{s:Shared}{base:Heap}{env:Env}{outer l:List Env}{L e:Addr}{cls fl:Value}{d:Option Addr}{Q:Unit→Shared→Prop}
theorem Fly.there {h:Heap}(x:Fly base l e cls d fl h):∃ ob vs,h.get? e=some ob∧ob.cls=cls∧ob.dict=d∧ob.data=.fields vs:=by
  obtain ⟨oe,vs,_,_,_,a,b,c,z,_⟩:=x.tr
  exact ⟨oe,vs,a,b,c,z⟩
theorem entry_ok {oe:Obj}{vs:Array Value}{head:Value}{hn:Bool}(hfr:A.frames=some (env :: outer)) (hl:s.heap.FunFrames base (env :: outer)) (hf:env.frame=some L) (he:s.heap.get? e=some oe) (hb:base.StaysIn s.heap)
    (ne:base.get? e=none) (hd:oe.data=.fields vs) (hz:1 < vs.size) (h:∀ h',Fly base (env :: outer) e oe.cls oe.dict (rawInt L) h'→s.heap.UpToSlots h'→Q () { s with heap:=h' }) :
    wpAny M A (do let a ← frameOf env;let pl ← entryPlaceOf L hn;let b ← EntryCells.newEntry head a .none (rawInt L) .none pl;setField (.ref e) 1 b) Q E s:=by
  have nF:e∉(env :: outer).filterMap (·.frame):=by
    intro z;obtain ⟨_,o,ho,nf⟩:=hl.mem z
    rw [he] at ho;cases ho;exact nf vs hd
  refine wpAny_bind (wpAny_frameOf_fun hfr hl hf fun h1 q1=>wpAny_bind (wpAny_entryPlaceOf fun pl hpl=>?_))
  unfold EntryCells.newEntry newFields
  refine wpAny_bind (wpAny_newObj_type ?_ (hpl.sizeOk5 _ _ _ _ _))
  generalize eo:({ cls:=.type "traceback",dict:=none,data:=.fields ([head,.ref L,.none,rawInt L,.none] ++ (if pl.isEmpty then List.replicate 6 Value.none else pl)).toArray }:Obj)=ob
  have e1:h1.get? e=some oe:=(q1.2.1 e nF).trans he
  have b1:base.StaysIn h1:=fun b o z=>(q1.2.1 b fun y=>by rw [(hl.mem y).1] at z;cases z).trans (hb b o z)
  have e2:(h1.push ob).get? e=some oe:=Heap.get?_push_of_some ob e1
  have nT:h1.objs.size≠e:=Nat.ne_of_gt (Heap.lt_size e1)
  have d3:=Obj.data_mapFields hd (·.setIfInBounds 1 (Value.ref h1.objs.size))
  have e3:=Heap.get?_update_self (Obj.mapFields (·.setIfInBounds 1 (Value.ref h1.objs.size))) e2 (Obj.isFreed_of_fields d3)
  have kp:∀ b o,b≠e→h1.get? b=some o→((h1.push ob).update e (Obj.mapFields (·.setIfInBounds 1 (Value.ref h1.objs.size)))).get? b=some o:=by
    intro b o n z
    rw [Heap.get?_update_other _ _ (Ne.symm n)];exact Heap.get?_push_of_some _ z
  have nR:∀ b o,s.heap.get? b=some o→(∀ ws,o.data≠.fields ws)→b≠e:=by
    intro b o z nf y
    rw [y,he] at z;cases z;exact nf vs hd
  refine wpAny_setField e2 hd hz (h _ ?_ ?_)
  · have t3:((h1.push ob).update e (Obj.mapFields (·.setIfInBounds 1 (Value.ref h1.objs.size)))).get? h1.objs.size=some ob:=by
      rw [Heap.get?_update_other _ _ (Ne.symm nT)];refine Heap.get?_push_size h1 ?_;rw [← eo];rfl
    refine ⟨fun b o z=>kp b o (fun y=>by rw [y,ne] at z;cases z) (b1 b o z),ne,hl.of_keeps fun b o z nf=>?_,?_⟩
    · obtain ⟨sl,y⟩:=q1.2.2 b o z;exact ⟨_,kp b _ (nR b o z nf) y,rfl⟩
    · refine ⟨_,_,h1.objs.size,ob,_,e3,Obj.cls_mapFields _ _,dict_mapF _ _,d3,by simp [hz],b1.fresh,nT,t3,by rw [← eo],?_⟩
      first | (simp;done) | (rcases hpl with rfl | ⟨_,_,_,_,_,_,_,rfl⟩<;>simp)
  · intro b o z nf
    obtain ⟨sl,y⟩:=q1.2.2 b o z;exact ⟨sl,kp b _ (nR b o z nf) y⟩
theorem note_on (hfr:A.frames=some (env :: outer)) (hf:env.frame=some L) (x:Fly base (env :: outer) e cls d .none s.heap)
    (h:∀ h',Fly base (env :: outer) e cls d (rawInt L) h'→s.heap.UpToSlots h'→Q () { s with heap:=h' }):wpAny M A (noteFrame (.ref e) env) Q E s:=by
  obtain ⟨hb,ne,hl,oe,vs,T,oT,ts,he,rfl,rfl,hd,h1,nT,Te,hT,dT,h3⟩:=x
  unfold noteFrame;simp only [hf]
  refine wpAny_bind (wpAny_field he hd h1 ?_)
  rw [if_pos (by simp:(Value.ref T != Value.none)=true)]
  refine wpAny_bind (wpAny_field hT dT h3 ?_)
  rw [if_neg (by simp [rawInt]:¬ ((Value.none == rawInt L)=true))]
  refine wpAny_bind (wpAny_setField hT dT (Array.getElem?_eq_some_iff.mp h3).1 ?_)
  have ot:∀ b,b≠T→(s.heap.update T (Obj.mapFields (·.setIfInBounds 3 Value.none))).get? b=s.heap.get? b:=fun b n=>Heap.get?_update_other _ _ (Ne.symm n)
  have nR:∀ b o,s.heap.get? b=some o→(∀ ws,o.data≠.fields ws)→b≠T:=fun b o z nf y=>by rw [y,hT] at z;cases z;exact nf ts dT
  refine entry_ok (s:={ s with heap:=s.heap.update T (Obj.mapFields (·.setIfInBounds 3 Value.none)) }) hfr (hl.of_keeps fun b o z nf=>⟨o,(ot b (nR b o z nf)).trans z,rfl⟩) hf ((ot e (Ne.symm Te)).trans he) (fun b o z=>(ot b fun y=>by rw [y,nT] at z;cases z).trans (hb b o z)) ne hd
    (Array.getElem?_eq_some_iff.mp h1).1 fun h' f u=>h h' f fun b o z nf=>u b o ((ot b (nR b o z nf)).trans z) nf
theorem land (x:Fly base l e cls d fl s.heap) (h:∀ h',Fly base l e cls d .none h'→s.heap.UpToSlots h'→Q () { s with heap:=h' }):wpAny M A (setFlight (.ref e) none) Q E s:=by
  obtain ⟨hb,ne,hl,oe,vs,T,oT,ts,he,rfl,rfl,hd,h1,nT,Te,hT,dT,h3⟩:=x
  have z3:3 < ts.size:=(Array.getElem?_eq_some_iff.mp h3).1
  have ot:∀ b,b≠T→(s.heap.update T (Obj.mapFields (·.setIfInBounds 3 ((none:Option Addr).elim Value.none fun f=>rawInt f)))).get? b=s.heap.get? b:=fun b n=>Heap.get?_update_other _ _ (Ne.symm n)
  have nR:∀ b o,s.heap.get? b=some o→(∀ ws,o.data≠.fields ws)→b≠T:=fun b o z nf y=>by rw [y,hT] at z;cases z;exact nf ts dT
  unfold setFlight
  refine wpAny_bind (wpAny_field he hd h1 ?_)
  rw [if_pos (by simp:(Value.ref T != Value.none)=true)]
  refine wpAny_setField hT dT z3 (h _ ⟨fun b o z=>(ot b fun y=>by rw [y,nT] at z;cases z).trans (hb b o z),ne,hl.of_keeps fun b o z nf=>⟨o,(ot b (nR b o z nf)).trans z,rfl⟩,?_⟩ fun b o z nf=>⟨o.slots,(ot b (nR b o z nf)).trans z⟩)
  exact ⟨oe,vs,T,_,_,(ot e (Ne.symm Te)).trans he,rfl,rfl,hd,h1,nT,Te,Heap.get?_update_self _ hT (Obj.isFreed_of_fields (Obj.data_mapFields dT _)),Obj.data_mapFields dT _,by simp [z3]⟩
theorem leave_on (hfr:A.frames=some (env :: outer)) (hf:env.frame=some L) (x:Fly base (env :: outer) e cls d .none s.heap) (h:∀ h',Fly base outer e cls d .none h'→s.heap.UpToSlots h'→Q () { s with heap:=h' }) :
    wpAny M A (leaving env (.ref e)) Q E s:=by
  unfold leaving
  refine wpAny_bind (note_on hfr hf x fun h1 f1 u1=>land (s:={ s with heap:=h1 }) f1 fun h2 f2 u2=>h h2 ⟨f2.st,f2.en,f2.fr.2.2,f2.tr⟩ (u1.trans u2))
theorem leave_new {oe:Obj}{vs:Array Value}(hfr:A.frames=some (env :: outer)) (hf:env.frame=some L) (hl:s.heap.FunFrames base (env :: outer)) (he:s.heap.get? e=some oe) (hb:base.StaysIn s.heap) (ne:base.get? e=none)
    (hd:oe.data=.fields vs) (h1:vs[1]?=some .none) (h:∀ h',Fly base outer e oe.cls oe.dict .none h'→s.heap.UpToSlots h'→Q () { s with heap:=h' }):wpAny M A (leaving env (.ref e)) Q E s:=by
  unfold leaving noteFrame
  simp only [hf]
  refine wpAny_bind (wpAny_bind (wpAny_field he hd h1 ?_))
  rw [if_neg (by decide)]
  exact entry_ok hfr hl hf he hb ne hd (Array.getElem?_eq_some_iff.mp h1).1 fun h1 f1 u1=>land (s:={ s with heap:=h1 }) f1 fun h2 f2 u2=>h h2 ⟨f2.st,f2.en,f2.fr.2.2,f2.tr⟩ (u1.trans u2)
end
end L2
namespace L2
open PySem PySem.Spec PyProof.Rows
local macro_rules | `(tactic| walk_at "om") => `(tactic| first | omega | (unfold Addr at *; omega))
structure Fl (X:Cx) (pins:List (Addr×Obj)) (B:Heap):Prop where
  k0:∀ b o,X.s₀.heap.get? b=some o→X.H₀ b=none→b∉X.fs→b∉X.ex→B.get? b=some o
  kt:∀ b o,X.s₀.heap.get? b=some o→b∉X.fs→b∉X.ex→∃ o',B.get? b=some o'
  kp:∀ p∈X.pn ++ pins,B.get? p.1=some p.2
theorem up_cell {h h':Heap}{c:Addr}{v:Option Value}(up:h.UpToSlots h') (z:h.IsCell c v):h'.IsCell c v:=by
  obtain ⟨o,ho,hd⟩:=z
  obtain ⟨sl,q⟩:=up c o ho (fun vs e=>by rw [hd] at e;cases e)
  exact ⟨_,q,hd⟩
theorem ObjOk.there {P:Program}{w:World}{H:Hp}{h:Heap}{a:Addr}{o:HO}(x:ObjOk P w H h a o):∃ ob,h.get? a=some ob:=by
  cases o with
  | lst xs=>obtain ⟨_,_,_,_,e⟩:=x;exact ⟨_,e⟩
  | tup xs=>obtain ⟨_,_,_,ob,e,_⟩:=x;exact ⟨_,e⟩
  | dK kvs=>obtain ⟨_,_,_,_,o,_,_,e,_⟩:=x;exact ⟨_,e⟩
  | dT kvs=>obtain ⟨_,_,_,_,o,_,_,e,_⟩:=x;exact ⟨_,e⟩
  | set S n=>obtain ⟨o,_,_,_,e,_⟩:=x;exact ⟨_,e⟩
  | ins C dx fs=>obtain ⟨_,_,_,e,_⟩:=x;exact ⟨_,e⟩
  | own y=>obtain ⟨_,e⟩:=x;exact ⟨_,e⟩
  | xd fs=>obtain ⟨_,⟨_,_,_,e,_⟩,_⟩:=x;exact ⟨_,e⟩
  | rng lo hi=>obtain ⟨_,_,_,e⟩:=x;exact ⟨_,e⟩
  | frz ob u=>obtain ⟨e,_⟩:=x;exact ⟨_,e⟩
  | tbl ps=>exact ⟨_,(show h.get? a=some _ from x)⟩
  | met f y=>exact ⟨_,(show h.get? a=some _ from x)⟩
  | ext φ=>obtain ⟨_,⟨_,e⟩,_⟩:=x;exact ⟨_,e⟩
section
variable {X:Cx}{pins:List (Addr×Obj)}{σ:St}{H:Hp}{s:Shared}
theorem Inv.flown {h' B:Heap} (I:Inv X pins σ H s) (hB:B.StaysIn h') (up:s.heap.UpToSlots h') (hok:HOk X.prog X.w H B) (F:Fl X pins B):Inv X pins σ H { s with heap:=h' }:=by
  have sl:∀ b o,X.s₀.heap.get? b=some o→X.H₀ b=none→b∈X.fs→b∉X.ex→∃ sl,h'.get? b=some { o with slots:=sl }:=by
    intro b o e n hb hx
    obtain ⟨sl,e1⟩:=I.base.slot b o e n hb hx
    obtain ⟨_,o',ho',nf⟩:=I.ok.funs.mem hb
    rw [e] at ho';cases ho'
    obtain ⟨sl',e2⟩:=up b _ e1 nf
    exact ⟨sl',e2⟩
  refine ⟨I.ok,I.os,I.bare,⟨fun b o e n hb hx=>hB b o (F.k0 b o e n hb hx),sl,I.base.free,fun b o e hx=>?_,I.base.tups,I.base.frzs,I.base.tbls⟩,?_,fun x c e=>?_,I.free,I.freeC,fun p hp=>?_,hok.kept hB,I.len⟩
  · by_cases hb:b∈X.fs
    · obtain ⟨sl',q⟩:=sl b o e (I.ok.frf b hb) hb hx
      exact ⟨_,q⟩
    · obtain ⟨o',q⟩:=F.kt b o e hb hx
      exact ⟨o',hB b o' q⟩
  · obtain ⟨m,hn,hl⟩:=I.loc
    refine ⟨m,up.ns hn,fun i x v e1 e2 e3=>?_⟩
    obtain ⟨u,r,l⟩:=hl i x v e1 e2 e3
    refine ⟨u,r,?_⟩
    rcases l with l | ⟨k,c,e,z⟩
    · exact .inl l
    · exact .inr ⟨k,c,e,up_cell up z⟩
  · obtain ⟨v,z⟩:=I.cell x c e
    exact ⟨v,up_cell up z⟩
  · obtain ⟨_,n,ne,nf,d⟩:=I.pin p hp
    exact ⟨hB _ _ (F.kp p hp),n,ne,nf,d⟩
theorem Inv.oldStk (I:Inv X pins σ H s) {b:Addr}{o:Obj}(e:X.s₀.heap.get? b=some o) (hb:b∉X.fs):b∉frs X.stack:=fun z=>by
  rcases List.mem_cons.mp (I.stkSub b z) with q | q
  · have h1:=Heap.lt_size e
    have h2:=I.ok.above
    rw [q] at h1
    exact absurd (Nat.lt_of_lt_of_le h1 h2) (Nat.lt_irrefl _)
  · exact hb q
def noFr (h:Heap) (l:List Env):Heap:=PySem.W.hideAll h (frs l)
theorem noFr_get {h:Heap}{l:List Env}{b:Addr}{o:Obj}(e:h.get? b=some o) (n:b∉frs l):(noFr h l).get? b=some o:=PySem.W.hideAll_get _ e n
theorem of_noFr {h:Heap}{l:List Env}:(noFr h l).StaysIn h:=fun _ _ e=>PySem.W.of_hideAll (frs l) e
theorem noFr_none {h:Heap}{l:List Env}:∀ b∈frs l,(noFr h l).get? b=none:=fun _ hb=>PySem.W.hideAll_none (frs l) hb
theorem funs_base {h base B:Heap}:∀ {l:List Env},(∀ b∈frs l,B.get? b=none)→h.FunFrames base l→h.FunFrames B l
  | [],_,_=>trivial
  | env :: r,hB,⟨hk,⟨L,o,hf,_,ho,hd⟩,hr⟩=>by
    have e:frs (env :: r)=L :: frs r:=by unfold frs;rw [List.filterMap_cons,hf]
    rw [e] at hB
    exact ⟨hk,⟨L,o,hf,hB L List.mem_cons_self,ho,hd⟩,funs_base (fun b hb=>hB b (List.mem_cons_of_mem _ hb)) hr⟩
theorem Inv.hokB (I:Inv X pins σ H s):HOk X.prog X.w H (noFr s.heap X.stack):=fun a o e=>by
  have nt:∀ b u,H b=some u→b∉frs X.stack:=fun b u q z=>by rw [I.stkFree b z] at q;cases q
  refine (I.hok a o e).stay (fun b u hb q=>noFr_get q ?_) (fun _ q=>q) fun _ _ q=>q
  rcases hb with rfl | hb
  · exact nt _ _ e
  · exact nt _ _ hb
theorem Inv.flB (I:Inv X pins σ H s):Fl X pins (noFr s.heap X.stack) where
  k0:=fun b o e n hb hx=>noFr_get (I.base.keep b o e n hb hx) (I.oldStk e hb)
  kt:=fun b o e hb hx=>let ⟨o',q⟩:=I.base.there b o e hx;⟨o',noFr_get q (I.oldStk e hb)⟩
  kp:=fun p hp=>by
    obtain ⟨e,n,ne,nf,d⟩:=I.pin p hp
    refine noFr_get e fun z=>?_
    rcases List.mem_cons.mp (I.stkSub _ z) with q | q
    · exact ne q
    · exact nf q
def XS (X:Cx) (pins:List (Addr×Obj)) (σ:St) (E:XK) (e:Value) (s':Shared):Prop :=
  ∃ (ea:Addr) (cls:Value) (d:Option Addr) (H':Hp) (B:Heap),e=.ref ea∧Inv X pins σ H' s'∧Fly B X.stack ea cls d .none s'.heap∧HOk X.prog X.w H' B∧Fl X pins B∧E cls d H'
def CX1 (P:Program) (w:World):CXT:=fun outer H s E e s' =>
  ∃ (ea:Addr) (cls:Value) (d:Option Addr) (H':Hp) (B:Heap),e=.ref ea∧s'.os=s.os∧AllBare s'.gens∧Fly B outer ea cls d .none s'.heap∧HOk P w H' B∧Un (frs outer) [] H H' s.heap s'.heap ∧
    (∀ b o,s.heap.get? b=some o→H b=none→b∉frs outer→B.get? b=some o)∧(∀ b o,s.heap.get? b=some o→b∉frs outer→∃ o',B.get? b=some o')∧E cls d H'
theorem xs_of {E:XK}{e:Value}{s':Shared}(I:Inv X pins σ H s) (h:CX1 X.prog X.w X.stack H s E e s'):XS X pins σ E e s':=by
  obtain ⟨ea,cls,d,H',B,rfl,os,bare,fl,hok,un,k0,kt,q⟩:=h
  refine ⟨ea,cls,d,H',B,rfl,I.call' (ch:=[]) os un (hok.kept fl.st) bare (fun b z=>absurd z (by simp)),fl,hok,⟨fun b o e n hb hx=>?_,fun b o e hb hx=>?_,fun p hp=>?_⟩,q⟩
  · exact k0 b o (I.base.keep b o e n hb hx) (I.base.free b o e n hx) (I.oldStk e hb)
  · obtain ⟨o',e'⟩:=I.base.there b o e hx
    exact kt b o' e' (I.oldStk e hb)
  · obtain ⟨e,n,ne,nf,_⟩:=I.pin p hp
    refine k0 _ _ e n fun z=>?_
    rcases List.mem_cons.mp (I.stkSub _ z) with q | q
    · exact ne q
    · exact nf q
def Takes (X:Cx) (E:St→XK):Prop:=∀ (pins:List (Addr×Obj)) (σ:St) (e:Value) (s':Shared),XS X pins σ (E σ) e s'→X.xe e s'
def TakesN (X:Cx) (E:St→XK):Prop:=∀ (pins:List (Addr×Obj)) (σ:St) (H:Hp) (s:Shared) (ea:Addr) (oe:Obj) (vs:Array Value),Inv X pins σ H s→H ea=none →
  (∀ b o,X.s₀.heap.get? b=some o→b∉X.ex→b≠ea)→(∀ p∈X.pn ++ pins,p.1≠ea)→s.heap.get? ea=some oe→oe.data=.fields vs→vs[1]?=some .none→E σ oe.cls oe.dict H→X.xe (.ref ea) s
end
theorem takes_cx {P:Program}{w:World}{K:PySem.W.Frag}{mg:Str→Option Value}{base:Heap}{N:List Str}{qual:Str}{scope:Scope}{f:Addr}{cd:Value}{A:Around}{outer:List Env}{s:Shared}{H:Hp}{E:XK} :
    Takes (cxOf (CX1 P w) P w K mg base N qual scope f cd A outer s H E) (fun _=>E):=by
  intro pins σ e s' h
  obtain ⟨ea,cls,d,H',B,rfl,I,fl,hok,F,q⟩:=h
  refine leave_on I.ok.frames rfl fl fun h' fl' up=>?_
  have J:=I.flown fl'.st up hok F
  exact ⟨ea,cls,d,H',B,rfl,I.os,I.bare,fl',hok,J.base,fun b o e n hb=>F.k0 b o e n hb (by intro z;cases z),fun b o e hb=>F.kt b o e hb (by intro z;cases z),q⟩
theorem takesN_cx {P:Program}{w:World}{K:PySem.W.Frag}{mg:Str→Option Value}{base:Heap}{N:List Str}{qual:Str}{scope:Scope}{f:Addr}{cd:Value}{A:Around}{outer:List Env}{s:Shared}{H:Hp}{E:XK} :
    TakesN (cxOf (CX1 P w) P w K mg base N qual scope f cd A outer s H E) (fun _=>E):=by
  intro pins σ H1 s1 ea oe vs I hn hold hpin he hd h1 q
  let l:=envOfC qual scope s.heap.objs.size f cd :: outer
  let B:Heap:=PySem.W.hideAll (noFr s1.heap l) [ea]
  have bst:B.StaysIn s1.heap:=fun b o e=>of_noFr b o (PySem.W.of_hideAll [ea] e)
  have bget:∀ b o,(noFr s1.heap l).get? b=some o→b≠ea→B.get? b=some o:=fun b o e n=>PySem.W.hideAll_get _ e (by simpa using n)
  have bne:B.get? ea=none:=PySem.W.hideAll_none [ea] (by simp)
  have hokB:HOk P w H1 B:=fun a o e=>by
    have nt:∀ b u,H1 b=some u→b≠ea:=fun b u q z=>by rw [z,hn] at q;cases q
    refine (I.hokB a o e).stay (fun b u hb q=>bget b u q ?_) (fun _ q=>q) fun _ _ q=>q
    rcases hb with rfl | hb
    · exact nt _ _ e
    · exact nt _ _ hb
  have F:Fl (cxOf (CX1 P w) P w K mg base N qual scope f cd A outer s H E) pins B:=by
    refine ⟨fun b o e n hb hx=>bget b o (I.flB.k0 b o e n hb hx) (hold b o e hx),fun b o e hb hx=>?_,fun p hp=>bget _ _ (I.flB.kp p hp) (hpin p hp)⟩
    obtain ⟨o',q'⟩:=I.flB.kt b o e hb hx
    exact ⟨o',bget b o' q' (hold b o e hx)⟩
  have hl:s1.heap.FunFrames B l:=funs_base (fun b hb=>by
    cases z:B.get? b with
    | none=>rfl
    | some o =>
      have:=noFr_none (h:=s1.heap) b hb
      rw [PySem.W.of_hideAll [ea] z] at this
      cases this) I.stack
  refine leave_new (base:=B) I.ok.frames rfl hl he bst bne hd h1 fun h' fl up=>?_
  have J:=I.flown fl.st up hokB F
  exact ⟨ea,oe.cls,oe.dict,H1,B,rfl,I.os,I.bare,fl,hokB,J.base,fun b o e n hb=>F.k0 b o e n hb (by intro z;cases z),fun b o e hb=>F.kt b o e hb (by intro z;cases z),q⟩
def tCallX (sp:Sp) (dvs:List V) (E:St→XK) (t:TA):TE:=fun σ H Q=>t σ H fun vs H1=>sp (vs ++ dvs) H1 Q (E σ)
def tMakeX (C:Addr) (sp:Sp) (dvs:List V) (E:St→XK) (t:TA):TE:=fun σ H Q=>t σ H fun vs H1=>∀ x dx,H1 x=none→H1 dx=none→dx≠x →
  sp (.ref x :: (vs ++ dvs)) (upd (upd H1 dx (.own x)) x (.ins C dx [])) (fun v H2=>v=.non∧Q (.ref x) H2) (E σ)
section
variable {X:Cx}{k:Nat}{f C:Addr}{fd:FuncData}{ps:List Str}{sp:Sp}{dvs:List V}{ds:List Value}{E:St→XK}{x m:Str}{p pos apos:Pos}{e o:Expr}{es:List Expr}{ta:TE}{t:TA}
theorem run_fnX {pins:List (Addr×Obj)}{σ:St}{H:Hp}{s:Shared}{Q:VK}{us:List Value}{vs:List V}(F:FnOk X.prog X.w X.K X.mg X.base (CX1 X.prog X.w) k f fd ps sp) (hr:Room k X.A) (hb:Binds X.K fd ps ds) (hd:Vals dvs ds) (hx:Takes X E)
    (I:Inv X pins σ H s) (r:Vals vs us) (h:sp (vs ++ dvs) H Q (E σ)):wpAny (model X.prog X.w) X.A (call (.ref f) us) (EP X pins σ Q) X.xe s:=by
  have r2:Vals (vs ++ dvs) (us ++ ds):=r.append hd
  have hl:(us ++ ds).length=ps.length:=by rw [← r2.length];exact F.len _ _ _ _ h
  refine wpAny_call (codeAny_mono (F.run X.A X.stack s H ⟨us,[]⟩ (us ++ ds) (vs ++ dvs) Q (E σ) hr I.env0 (hb s us I.kIn hl) r2 h) fun r s' hq=>?_)
  cases r with
  | error e=>exact hx pins σ e s' (xs_of I hq)
  | ok fl =>
    cases fl with
    | ret u=>exact I.after hq
    | next=>exact False.elim hq
    | brk=>exact False.elim hq
    | cont=>exact False.elim hq
theorem pe_callX (F:FnOk X.prog X.w X.K X.mg X.base (CX1 X.prog X.w) k f fd ps sp) (hr:Room k X.A) (hg:Gl X x) (hm:X.mg x=some (.ref f)) (hk:PySem.W.keepIn X.K (.ref f)=true) (hb:Binds X.K fd ps ds) (hd:Vals dvs ds) (hx:Takes X E)
    (ha:PA X (e :: es) t) (hdb:(x == ("__debug__":Str))=false:=by decide) (he:starEach (e :: es) X.env=(false,eval e X.env) :: starEach es X.env:=by rfl) (hpl:(backTo pos (starEach es X.env)).any (·.1)=false:=by rfl) :
    PE X (.Call (.Name x p) (e :: es) [] pos) (tCallX sp dvs E t):=by
  intro pins s σ H Q I h
  refine wpAny_Call_Name_kw (ld_glob I hg hm ?_ hdb)
  refine PySem.W.callWith_K (h₀:=X.base) I.ok.mod.kin hk (thn (ha pos pins s σ H _ I h) fun us s1 ⟨vs,H1,I1,r,q⟩=>⟨I1.kIn,?_⟩) he hpl
  exact run_fnX F hr hb hd hx I1 r q
end
theorem Fun.okX {P:Program}{w:World}{K:PySem.W.Frag}{mg:Str→Option Value}{base:Heap}{x qual:Str}{st:Stmt}{f:Addr}{fd:FuncData}{N ps:List Str}{k:Nat}{sp:Sp}(F:Fun K x qual st f fd) (S:FnScope N ps (defScope st)) (len:∀ vs H Q E,sp vs H Q E→vs.length=ps.length)
    (hbody:∀ (cdv:Value) (A:Around) (outer:List Env) (s:Shared) (H:Hp) (vs:List V) (Q:VK) (E:XK),Room k (A.deeper (envOfC qual (defScope st) s.heap.objs.size f cdv))→sp vs H Q E →
      ∃ t,PSs (cxOf (CX1 P w) P w K mg base N qual (defScope st) f cdv A outer s H E) (defBody st) t∧t { nx:=fun _ H'=>Q .non H',rt:=Q } (start N vs) H):FnOk P w K mg base (CX1 P w) (k + 1) f fd ps sp:=by
  obtain ⟨oc,od,kV,doc,pm,an,cdv,ct,osl,rfl,lk,hcd⟩:=F.ex
  exact fn_of lk hcd S len fun A outer s H vs Q E hr hsp=>hbody cdv A outer s H vs Q E hr hsp
end L2
namespace L2
open PySem PySem.Spec PyProof.Rows
abbrev bmV:List Value:=[.type "ValueError",.type "Exception",.type "BaseException",.type "object"]
theorem exc_obj {K:PySem.W.Frag}{h:Heap}{C:Addr}{bmB:List Value}{newId:String}(X:K.In h) (q:PySem.W.excIn K C bmB newId=true) :
    ∃ bm N nm q bs hdct sn sub ab col dd k0 k1 k2 k3 k5 mN,h.get? C=some (excClassObj nm q C N bs bm hdct sn sub ab col dd k0 k1 k2 k3 k5 newId)∧h.Ns N mN∧mN "__init__"=none∧OwnTail h bmB bm:=by
  unfold PySem.W.excIn at q;split at q
  · rename_i dd cd sl ho;split at q
    · rename_i C' bm k0 k1 k2 k3 n k5 hm hs
      simp only [Bool.and_eq_true,Bool.not_eq_true',beq_iff_eq] at q
      obtain ⟨⟨⟨⟨⟨e1,e2⟩,e3⟩,ht⟩,hk⟩,hi⟩:=q
      subst e1 e2
      obtain ⟨nm,bs,mro,ns,qn,hd,sn,sub,ab,col,del⟩:=cd
      dsimp only at hm e3 hk hi;subst hm e3
      have es:sl=#[k0,k1,k2,k3,some (.builtin n),k5]:=by obtain ⟨l⟩:=sl;simp only at hs;rw [hs]
      subst es
      exact ⟨bm,ns,nm,qn,bs,hd,sn,sub,ab,col,dd,k0,k1,k2,k3,k5,_,X _ _ ho,.of_isNs (PySem.W.isNs_of_in X hk),PySem.W.nsMap_none_of_in X hk hi,PySem.W.tail_of_in X ht⟩
    · cases q
  · cases q
def tRaise (C:Addr) (E:St→XK) (t:TA):TS:=fun _ σ H=>t σ H fun vs H1=>vs.length≤sizeLine∧E σ (.ref C) none H1
section
variable {X:Cx}{C:Addr}{x:Str}{np cpos pos:Pos}{e:Expr}{es:List Expr}{t:TA}{E:St→XK}
end
def excO (ea C:Addr) (d:Option Addr):HO:=.ext fun h=>∃ o vs,h.get? ea=some o∧o.cls=.ref C∧o.dict=d∧o.data=.fields vs
abbrev Cx.tryB (X:Cx) (W:Value→Shared→Prop) (pn:List (Addr×Obj)):Cx:={ X with xe:=W,pn:=pn }
abbrev Cx.suite (X:Cx) (ea:Addr):Cx:={ X with A:=X.A.mark (some (.ref ea)),calm:=false,xe:=fun _ _=>False }
section
variable {X:Cx}{pins:List (Addr×Obj)}{σ:St}{H:Hp}{s:Shared}
theorem Inv.tryB (I:Inv X pins σ H s) (W:Value→Shared→Prop):Inv (X.tryB W (X.pn ++ pins)) [] σ H s :=
  ⟨⟨I.ok.mod,I.ok.kind,I.ok.glob,I.ok.blt,I.ok.above,I.ok.inj,I.ok.has,I.ok.cab,I.ok.hd,I.ok.frames,I.ok.stk,I.ok.exf,I.ok.bs,I.ok.bsz,I.ok.noex,I.ok.exfs,I.ok.funs,I.ok.frf⟩,I.os,I.bare,I.base,I.loc,I.cell,I.free,I.freeC,
    fun p hp=>I.pin p (by simpa using hp),I.hok,I.len⟩
theorem Inv.untryB {W:Value→Shared→Prop}{pins':List (Addr×Obj)}(I:Inv (X.tryB W (X.pn ++ pins)) pins' σ H s):Inv X pins σ H s :=
  ⟨⟨I.ok.mod,I.ok.kind,I.ok.glob,I.ok.blt,I.ok.above,I.ok.inj,I.ok.has,I.ok.cab,I.ok.hd,I.ok.frames,I.ok.stk,I.ok.exf,I.ok.bs,I.ok.bsz,I.ok.noex,I.ok.exfs,I.ok.funs,I.ok.frf⟩,I.os,I.bare,I.base,I.loc,I.cell,I.free,I.freeC,
    fun p hp=>I.pin p (List.mem_append_left _ hp),I.hok,I.len⟩
theorem Inv.suite (I:Inv X pins σ H s) (ea:Addr):Inv (X.suite ea) pins σ H s :=
  ⟨⟨I.ok.mod,I.ok.kind,I.ok.glob,I.ok.blt,I.ok.above,I.ok.inj,I.ok.has,I.ok.cab,(fun z=>(by cases z)),I.ok.frames,I.ok.stk,I.ok.exf,I.ok.bs,I.ok.bsz,I.ok.noex,I.ok.exfs,I.ok.funs,I.ok.frf⟩,I.os,I.bare,I.base,I.loc,I.cell,I.free,I.freeC,I.pin,I.hok,I.len⟩
theorem Inv.unsuite {ea:Addr}(I:Inv (X.suite ea) pins σ H s) (hc:X.calm=true→X.A.handled=none):Inv X pins σ H s :=
  ⟨⟨I.ok.mod,I.ok.kind,I.ok.glob,I.ok.blt,I.ok.above,I.ok.inj,I.ok.has,I.ok.cab,hc,I.ok.frames,I.ok.stk,I.ok.exf,I.ok.bs,I.ok.bsz,I.ok.noex,I.ok.exfs,I.ok.funs,I.ok.frf⟩,I.os,I.bare,I.base,I.loc,I.cell,I.free,I.freeC,I.pin,I.hok,I.len⟩
theorem Inv.caught {B:Heap}{l:List Env}{ea C:Addr}{d:Option Addr}{fl:Value}(I:Inv X pins σ H s) (f:Fly B l ea (.ref C) d fl s.heap) (hok:HOk X.prog X.w H B) (F:Fl X pins B) (hn:H ea=none):Inv X pins σ (upd H ea (excO ea C d)) s:=by
  obtain ⟨ob,vs,ho,hc,hdd,hd⟩:=f.there
  have keep:∀ b u,H b=some u→upd H ea (excO ea C d) b=some u:=fun b u e=>by rw [upd_ne (ne_of_none e hn)];exact e
  have data:∀ b o,s.heap.get? b=some o→(∀ ws,o.data≠.fields ws)→b≠ea:=fun b o e nf z=>by rw [z,ho] at e;cases e;exact nf vs hd
  have new:∀ b o,X.s₀.heap.get? b=some o→b∉X.ex→b≠ea:=fun b o e hx z=>by
    by_cases hb:b∈X.fs
    · obtain ⟨sl,q⟩:=I.base.slot b o e (I.ok.frf b hb) hb hx
      obtain ⟨_,o',e',nf⟩:=I.ok.funs.mem hb
      rw [e] at e';cases e'
      exact data b _ q nf z
    · obtain ⟨o',q⟩:=F.kt b o e hb hx
      rw [z,f.en] at q;cases q
  refine ⟨I.ok,I.os,I.bare,⟨I.base.keep,I.base.slot,fun b o e n hx=>?_,I.base.there,fun b xs e=>keep _ _ (I.base.tups b xs e),fun b o u e=>keep _ _ (I.base.frzs b o u e),fun b ps e=>?_⟩,I.loc,I.cell,?_,fun x c e=>?_,fun p hp=>?_,fun b u e=>?_,I.len⟩
  · rw [upd_ne (new b o e hx)];exact I.base.free b o e n hx
  · obtain ⟨m,q⟩:=I.base.tbls b ps e
    exact ⟨m,keep _ _ q⟩
  · obtain ⟨m,⟨o,es,ep,e,dd,_⟩,_⟩:=I.loc
    rw [upd_ne (data _ o e fun ws z=>by rw [dd] at z;cases z)];exact I.free
  · obtain ⟨v,o,e',dd⟩:=I.cell x c e
    rw [upd_ne (data _ o e' fun ws z=>by rw [dd] at z;cases z)];exact I.freeC x c e
  · obtain ⟨e,n,ne,nf,z⟩:=I.pin p hp
    refine ⟨e,?_,ne,nf,z⟩
    rw [upd_ne (fun y=>by have:=F.kp p hp;rw [y,f.en] at this;cases this)];exact n
  · by_cases hb:b=ea
    · subst hb
      rw [upd_same] at e;cases e
      exact ⟨⟨ob,vs,ho,hc,hdd,hd⟩,⟨ob,ho⟩,fun h1 h2 ⟨o,ws,a1,a2⟩ k=>⟨o,ws,k _ a1,a2⟩⟩
    · rw [upd_ne hb] at e
      exact (I.hok b u e).stay (fun _ _ _ q=>q) (fun c q=>keep _ _ q) fun c xs q=>keep _ _ q
theorem goes_ok {M:Model}{A:Around}{E:Value→Shared→Prop}{i:Nat}{n:Str}{pos:Pos}{Q:Unit→Shared→Prop}(I:Inv X pins σ H s) (hN:X.N.Nodup) (hi:X.N[i]?=some n) (hl:X.env.scope.names.lookup n=some .local)
    (h:∀ s',Inv X pins (σ.set i none) H s'→Q () s'):wpAny M A (do bindName X.env n .none;unbindBehindTheSuite X.env n pos) Q E s:=by
  obtain ⟨m,hn,hm⟩:=id I.loc
  have hp:(X.env.scope.kind == .class || (X.env.scope.kind == .module && X.env.locals != X.env.globals))=false:=by rw [I.ok.kind];rfl
  refine wpAny_nameGoes_keeps hl hn hp fun h' v hn' hs=>?_
  obtain ⟨oL,_,_,hoL,_⟩:=id hn
  have old:∀ b o,X.s₀.heap.get? b=some o→b≠X.env.locals:=fun b o e=>Nat.ne_of_lt (Nat.lt_of_lt_of_le (Heap.lt_size e) I.ok.above)
  refine h _ ⟨I.ok,I.os,I.bare,⟨fun b o e n hb hx=>?_,fun b o e n hb hx=>?_,I.base.free,fun b o e hx=>?_,I.base.tups,I.base.frzs,I.base.tbls⟩,⟨_,hn',fun j y v' e1 e2 e3=>?_⟩,fun y c e=>?_,I.free,I.freeC,fun p hp=>?_,fun b u e=>?_,by simpa using I.len⟩
  · exact (hs.2 b (old b o e)).trans (I.base.keep b o e n hb hx)
  · obtain ⟨sl,e1⟩:=I.base.slot b o e n hb hx
    exact ⟨sl,(hs.2 b (old b o e)).trans e1⟩
  · obtain ⟨o',e1⟩:=I.base.there b o e hx
    exact ⟨o',(hs.2 b (old b o e)).trans e1⟩
  · have hj:j≠i:=fun z=>by
      subst z
      have hjl:j < σ.length:=by rw [I.len];exact (List.getElem?_eq_some_iff.mp hi).1
      rw [List.getElem?_set_self hjl] at e2;cases e2
    rw [List.getElem?_set_ne (Ne.symm hj)] at e2
    obtain ⟨u',r',q⟩:=hm j y v' e1 e2 e3
    refine ⟨u',r',?_⟩
    rcases q with ⟨k,e⟩ | ⟨k,c,e,z⟩
    · refine .inl ⟨k,?_⟩
      have ny:y≠n:=fun e=>hj (nodup_ix hN e1 (e▸hi))
      show (if y=n then v else m y)=some u'
      rw [if_neg ny];exact e
    · exact .inr ⟨k,c,e,z.sameBut hs (I.cne y c e)⟩
  · obtain ⟨w',z⟩:=I.cell y c e
    exact ⟨w',z.sameBut hs (I.cne y c e)⟩
  · obtain ⟨e,n,ne,nf,d⟩:=I.pin p hp
    exact ⟨(hs.2 p.1 ne).trans e,n,ne,nf,d⟩
  · refine (I.hok b u e).stay (fun c w' hc q=>(hs.2 c ?_).trans q) (fun _ q=>q) fun _ _ q=>q
    rintro rfl
    rcases hc with z | z
    · rw [← z,I.free] at e;cases e
    · rw [I.free] at z;cases z
end
def Ends.goes (D:Ends) (i:Nat):Ends:={ nx:=fun σ H=>D.nx (σ.set i none) H,rt:=D.rt,bk:=fun σ H=>D.bk (σ.set i none) H,ct:=fun σ H=>D.ct (σ.set i none) H }
def tCatch (K:PySem.W.Frag) (C:Addr) (i:Nat) (th:TS) (D:Ends):St→XK:=fun σ cls d H=>∃ C',cls=.ref C'∧PySem.W.exmOne K (.ref C') (.ref C)=some true∧∀ ea,H ea=none→th (D.goes i) (σ.set i (some (.ref ea))) (upd H ea (excO ea C' d))
def tTry (K:PySem.W.Frag) (C:Addr) (i:Nat) (tb:(St→XK)→TS) (th to:TS):TS:=fun D σ H=>tb (tCatch K C i th D) { D with nx:=to D } σ H
section
variable {X:Cx}{C:Addr}{x n:Str}{i:Nat}{np hp pos:Pos}{body suite orelse:List Stmt}{b₀:Stmt}{tb:(St→XK)→TS}{th to:TS}
theorem ps_try (hg:Gl X x) (hm:X.mg x=some (.ref C)) (hst:X.stack=X.env :: X.outer) (hfr:X.env.frame=some X.env.locals) (hN:X.N.Nodup) (hi:X.N[i]?=some n) (hl:X.env.scope.names.lookup n=some .local)
    (hb:∀ (W:Value→Shared→Prop) (pn:List (Addr×Obj)) (E:St→XK),Takes (X.tryB W pn) E→PSs (X.tryB W pn) body (tb E)) (hh:∀ ea,PSs (X.suite ea) (b₀ :: suite) th) (ho:PSs X orelse to)
    (hdb:(x == ("__debug__":Str))=false:=by decide) :
    PS X (.Try body [.ExceptHandler (some (.Name x np)) (some n) (b₀ :: suite) hp] orelse [] pos) (tTry X.K C i tb th to):=by
  intro pins s σ H D I h
  have hT:Takes (X.tryB (fun e s₁=>wpAny (model X.prog X.w) X.A (noteFrame e X.env) (fun _ s₂=>wpAny (model X.prog X.w) X.A (setFlight e none) (fun _ s₃=>wpAny (model X.prog X.w) X.A (handleBy e X.env [.ExceptHandler (some (.Name x np)) (some n) (b₀ :: suite) hp]) (SP X pins D) X.xe s₃) X.xe s₂) X.xe s₁) (X.pn ++ pins)) (tCatch X.K C i th D):=by
    intro pins' σ' e s' hx
    obtain ⟨ea,cls,d,H',B,rfl,I1,fl,hok,F1,C',rfl,hmt,q⟩:=hx
    have I2:Inv X pins σ' H' s':=I1.untryB
    have F:Fl X pins B:=⟨F1.k0,F1.kt,fun p hp=>F1.kp p (List.mem_append_left _ hp)⟩
    have fl:Fly B (X.env :: X.outer) ea (.ref C') d .none s'.heap:=hst▸fl
    have fA:X.A.frames=some (X.env :: X.outer):=hst▸I.ok.frames
    refine note_on fA hfr fl fun h1 f1 u1=>?_
    have J1:=I2.flown f1.st u1 hok F
    refine land (s:={ s' with heap:=h1 }) f1 fun h2 f2 u2=>?_
    have J2:=J1.flown f2.st u2 hok F
    have LT:PySem.W.Looks (model X.prog X.w) h2 (typeOf (.ref ea)) (.ref C'):=by
      obtain ⟨ob,_,z,y,_⟩:=f2.there
      rw [← y];exact (PySem.W.Looks.ld z).andThen .now
    have hn:H' ea=none:=by
      cases z:H' ea with
      | none=>rfl
      | some o =>
        obtain ⟨ob,y⟩:=(hok ea o z).there
        rw [f2.en] at y;cases y
    refine wpAny_handleBy_cons (codeAny_handlers_test ?_) (by intro q;cases q)
    refine ld_glob (X:=X.suite ea) (J2.suite ea) hg hm ?_ hdb
    refine (PySem.W.exm_one (K:=X.K) J2.kIn LT hmt).here ?_
    refine codeAny_handlers_suite_as ?_
    refine land (s:={ s' with heap:=h2 }) f2 fun h3 f3 u3=>?_
    have J3:=J2.flown f3.st u3 hok F
    have J4:=(J3.caught f3 hok F hn).suite ea
    refine store_ok (X:=X.suite ea) J4 hN hi (.inl hl) (v:=.ref ea) rfl (fun s4 J5=>?_) (.inr hl)
    refine wpAny_mono (hh ea pins s4 _ _ (D.goes i) J5 (q ea hn)) (fun f s5 z=>?_) fun _ _ z=>False.elim z
    have back:∀ {σ5 H5},Inv (X.suite ea) pins σ5 H5 s5→Inv X pins σ5 H5 s5:=fun J=>J.unsuite I.ok.hd
    cases f with
    | next=>obtain ⟨σ5,H5,J6,z⟩:=z;exact goes_ok (back J6) hN hi hl fun s6 J7=>⟨_,H5,J7,z⟩
    | brk=>obtain ⟨σ5,H5,J6,z⟩:=z;exact goes_ok (back J6) hN hi hl fun s6 J7=>⟨_,H5,J7,z⟩
    | cont=>obtain ⟨σ5,H5,J6,z⟩:=z;exact goes_ok (back J6) hN hi hl fun s6 J7=>⟨_,H5,J7,z⟩
    | ret u=>obtain ⟨v,σ5,H5,J6,r,z⟩:=z;exact goes_ok (back J6) hN hi hl fun s6 J7=>⟨v,_,H5,J7,r,z⟩
  refine wpAny_Try_except (wpAny_mono (hb _ (X.pn ++ pins) _ hT [] s σ H { D with nx:=to D } (I.tryB _) h) (fun f s1 z=>?_) fun _ _ z=>z)
  cases f with
  | next=>obtain ⟨σ1,H1,J,z⟩:=z;exact ho pins s1 σ1 H1 D J.untryB z
  | brk=>obtain ⟨σ1,H1,J,z⟩:=z;exact ⟨σ1,H1,J.untryB,z⟩
  | cont=>obtain ⟨σ1,H1,J,z⟩:=z;exact ⟨σ1,H1,J.untryB,z⟩
  | ret u=>obtain ⟨v,σ1,H1,J,r,z⟩:=z;exact ⟨v,σ1,H1,J.untryB,r,z⟩
end
end L2
namespace L2
open PySem PySem.Spec PyProof.Rows PySem.W
structure ExT (K:Frag) (C:Addr):Prop where
  ga:findIn K (.ref C) "__getattribute__"=some (some (.builtin "BaseException.__getattribute__"))
  gt:findIn K (.ref C) "__getattr__"=some none
  cl:(clsIn K C).isSome=true
  ha:findIn K (.ref C) "__class__"=some (some (.builtin "object.__class__"))
  hn:specialIn K (.builtin "object.__class__") "__get__"=some (some (.builtin "getset_descriptor.__get__"))
  tk:takesIn K (.builtin "object.__class__")=some true
  mO:mroIn K C (.type "object")=some true
  mB:mroIn K C (.type "BaseException")=some true
theorem cls_some {K:Frag}{C:Addr}{b:Value}{r:Bool}(h:mroIn K C b=some r):(clsIn K C).isSome=true:=by
  obtain ⟨cd,a,_⟩:=Option.bind_eq_some_iff.mp h
  rw [a];rfl
theorem findObj_dataO {K:Frag}{C:Addr}{od:Option Obj}{name:Str}{a g:Value}(hc:(clsIn K C).isSome=true) (ha:findIn K (.ref C) name=some (some a)) (hg:specialIn K a "__get__"=some (some g)) (ht:takesIn K a=some true):findObj K C od name=some (.bind g a):=by
  obtain ⟨cd,hc⟩:=Option.isSome_iff_exists.mp hc
  simp [findObj,hc,ha,hg,ht]
section
variable {prog:Program}{w:World}{A:Around}{E:Value→Shared→Prop}{s:Shared}{K:Frag}{x C:Addr}{ox:Obj}{od:Option Obj}{name:Str}
theorem check_ga {M:Model}{v:Value}{Q:Unit→Shared→Prop}(T:ExT K C) (X:K.In s.heap) (I:PySem.W.InstAt s.heap x ox C od) (h:Q () s):wpAny M A (checkBuiltinCall "BaseException.__getattribute__" ⟨[.ref x,v],[]⟩) Q E s:=by
  obtain ⟨hh,gg,d,t,os⟩:=s
  have L0:=I.type (M:=M)
  have LB:=looks_mroIn (M:=M) X T.mB
  have hk:builtinKind "BaseException.__getattribute__"=some .slot:=by decide +kernel
  have hs:splitId "BaseException.__getattribute__"=some ("BaseException","__getattribute__"):=by decide +kernel
  have ha:=F.args_bexc_ga (.ref x) v
  simp only [checkBuiltinCall,hk,hs]
  refine wpAny_bind ?_
  unfold isInstance
  repeat (first | lk | wp_step)
  exact h
theorem exc_ga {tk:Tok}{R:Result→Shared→Prop}{a:Value}{g:String}(T:ExT K C) (X:K.In s.heap) (I:PySem.W.InstAt s.heap x ox C od) (hf:findObj K C od name=some (.bind (.builtin g) a))
    (h:wpAny (model prog w) A.in1 (call (.builtin g) [a,.ref x,.ref C]) (fun v s'=>R (.ok (.ret v)) s') (fun e s'=>R (.error e) s') s) :
    codeAny (model prog w) A (.call (.builtin "BaseException.__getattribute__") ⟨[.ref x,.str name tk],[]⟩) R s:=by
  obtain ⟨hh,gg,d,t,os⟩:=s
  have L0:=I.type (M:=model prog w)
  have L1:=looks_find (M:=model prog w) X I hf
  refine codeAny_call_builtin F.excAttr_ValueError.ga.plain F.entry_bexc_ga (check_ga T X I ?_)
  refine wpAny_bind (wpAny_pure (wpAny_bind (wpAny_pure (wpAny_bind (L0.at (wpAny_bind (L1.at ?_)))))))
  show wpAny _ _ (holding [a] (call (.builtin g) [a,.ref x,.ref C]) >>= ret) _ _ _
  exact wpAny_bind (wpAny_holding (wpAny_mono h (fun v s' z=>wpAny_pure z) fun _ _ z=>z))
theorem exc_class {Q:Option Value→Shared→Prop} (T:ExT K C) (X:K.In s.heap) (I:PySem.W.InstAt s.heap x ox C od) (h:Q (some (.ref C)) { s with toks:=s.toks + 1 }):wpAny (model prog w) A (getAttr? (.ref x) "__class__") Q E s:=by
  have hf:findObj K C od "__class__"=some (.bind (.builtin "getset_descriptor.__get__") (.builtin "object.__class__")):=findObj_dataO T.cl T.ha T.hn T.tk
  obtain ⟨hh,g,d,t,os⟩:=s
  have L0:=I.type (M:=model prog w)
  have L1:=looks_findIn (M:=model prog w) X T.ga
  have L2:=looks_findIn (M:=model prog w) X T.gt
  have f3:=F.excAttr_ValueError.ga.bind (.ref x)
  unfold getAttr? getAttrBy? getAttrBy
  refine wpAny_bind (wpAny_mkText (wpAny_bind (wpAny_attempt (wpAny_holding (wpAny_bind (L0.at (wpAny_bind (L1.at ?_))))))))
  show wpAny _ _ (if (onTheHeap (Value.ref C) && Value.builtin "BaseException.__getattribute__" == Value.builtin "object.__getattribute__")=true then _ else _) _ _ _
  rw [if_neg (by simp [onTheHeap])]
  unfold getAttrByItsOwn
  refine wpAny_bind (show wpAny _ _ (typeLookup (.ref C) "__getattr__") _ _ _ from L2.at ?_)
  refine wpAny_bind (wpAny_attempt (wpAny_holding ?_))
  show wpAny _ _ (boundAndCalled _ _ _) _ _ _
  unfold boundAndCalled
  rw [f3]
  refine wpAny_bind (wpAny_pure ?_)
  refine wpAny_call (exc_ga T X I hf (wpAny_call (class_get X I T.mO ?_)))
  exact wpAny_pure (wpAny_pure h)
theorem kitx_exc (T:ExT K C):KitX K (.ref x) (.ref C) (fun h=>PySem.W.InstAt h x ox C od) where
  ty:=fun _ _ _ I=>I.type
  it:=fun _ _ X _=>by
    obtain ⟨cd,hc⟩:=Option.isSome_iff_exists.mp T.cl
    unfold clsIn at hc
    split at hc
    · rename_i ho
      intro A' Q' E' s' k q
      unfold isType loadHead
      exact wpAny_bind (wpAny_loadPart (k _ _ (X _ _ ho)) (wpAny_pure q))
    · cases hc
  ne:=fun h tp dd its n sl X htp=>by
    obtain ⟨cd,hc⟩:=Option.isSome_iff_exists.mp T.cl
    refine Bool.eq_false_iff.mpr fun q=>?_
    have e:C=tp:=Value.ref.inj (beq_iff_eq.mp q)
    subst e
    unfold clsIn at hc
    split at hc
    · rename_i ho
      have z:=(X _ _ ho).symm.trans htp
      cases z
    · cases hc
  ca:=fun X I k=>exc_class T X I k
end
def DictOf (H:Hp) (d:Option Addr):Prop:=d=none∨∃ dx fs,d=some dx∧H dx=some (.xd fs)
section
variable {X:Cx}{K:Frag}
theorem inst_exc {pins:List (Addr×Obj)}{σ:St}{H:Hp}{s:Shared}{ea C:Addr}{d:Option Addr}(I:Inv X pins σ H s) (he:H ea=some (excO ea C d)) (hd:DictOf H d):∃ ox od,PySem.W.InstAt s.heap ea ox C od:=by
  obtain ⟨⟨o,vs,h1,h2,h3,h4⟩,_⟩:=I.hok ea _ he
  have nc:notCls o=true:=by unfold notCls;rw [h4]
  rcases hd with e | ⟨dx,fs,e,hx⟩
  · exact ⟨o,none,h1,h2,nc,by rw [h3,e];trivial⟩
  · obtain ⟨ob,q⟩:=(I.hok dx _ hx).there
    exact ⟨o,some ob,h1,h2,nc,by rw [h3,e];exact q⟩
def clsV:V→Option Value
  | .ref a=>some (.ref a)
  | .ty n=>some (.type n)
  | _=>none
theorem clsV_rel:∀ {c:V}{cv u:Value},clsV c=some cv→RelV c u→u=cv
  | .ref _,_,_,e,r=>by cases r;cases e;rfl
  | .ty _,_,_,e,r=>by cases r;cases e;rfl
theorem call_isE (h:X.K=K):CallR X (.builtin "isinstance") (fun xs H Q=>∃ (ea C:Addr) (d:Option Addr) (c:V) (cv:Value) (b:Bool),xs=[.ref ea,c]∧H ea=some (excO ea C d)∧DictOf H d∧ExT K C∧clsV c=some cv∧kitOne K (.ref C) cv=some b∧Q (.bl b) H):=by
  subst h
  intro pins s σ H xs us Q I r h
  obtain ⟨ea,C,d,c,cv,b,rfl,he,hd,T,rc,e,q⟩:=h
  obtain ⟨u,w',rfl,rx,rc'⟩:=vals2 r
  cases rx
  obtain ⟨ox,od,J⟩:=inst_exc I he hd
  have ew:=clsV_rel rc rc'
  subst ew
  exact kia_one (kitx_exc T) I.kIn J e (fun z=>nomatch z) fun tk=>⟨.bl b,H,I.tok tk,rfl,q⟩
theorem vals_refs:∀ {Cs:List Addr}{us:List Value},Vals (Cs.map V.ref) us→us=Cs.map Value.ref
  | [],_,.nil=>rfl
  | _ :: _,_,.cons r t=>by cases r;rw [vals_refs t];rfl
theorem call_isET (h:X.K=K):CallR X (.builtin "isinstance") (fun xs H Q=>∃ (ea C:Addr) (d:Option Addr) (tp:Addr) (Cs:List Addr) (b:Bool),xs=[.ref ea,.ref tp]∧H ea=some (excO ea C d)∧DictOf H d∧ExT K C∧SqT K H tp (Cs.map V.ref)∧kitAny K (.ref C) (Cs.map Value.ref)=some b∧Q (.bl b) H):=by
  subst h
  intro pins s σ H xs us Q I r h
  obtain ⟨ea,C,d,tp,Cs,b,rfl,he,hd,T,hs,e,q⟩:=h
  obtain ⟨u,w',rfl,rx,rc⟩:=vals2 r
  cases rx;cases rc
  obtain ⟨ox,od,J⟩:=inst_exc I he hd
  obtain ⟨its,rv,p,_⟩:=I.tuple hs
  obtain ⟨⟨cls,dd,dt,sl⟩,h1,h2,n,h3⟩:=p
  simp only at h2 h3
  subst h2 h3
  have ei:=vals_refs rv
  subst ei
  exact kia_tup (kitx_exc T) I.kIn J h1 e (fun z=>nomatch z) fun tk=>⟨.bl b,H,I.tok tk,rfl,q⟩
end
end L2
namespace L2
open PySem PySem.Spec PyProof.Rows
local macro_rules | `(tactic| walk_at "om") => `(tactic| first | omega | (unfold Addr at *; omega))
section
variable {X:Cx}
end
theorem holds_flatsL {K:PySem.W.Frag}{H:Hp}{n:Nat}{a:Addr}{xs:List V}(h:SqL K H a xs) (hf:xs.all flatV=true):Holds K H (n + 1) (.ref a) (.lst (xs.map .flat)):=by
  refine .lst h (by simp) fun i x t hx ht=>?_
  rw [List.getElem?_map,hx] at ht
  cases ht
  exact .flat (List.all_eq_true.mp hf x (List.mem_of_getElem? hx))
def tOrI (ta tb:TE):TE:=fun σ H Q=>ta σ H fun x H1=>∃ c d:Bool,x=.bl c∧(c=false→tb σ H1 fun y H2=>y=.bl d∧H2=H1)∧Q (.bl (c || d)) H1
def tAndI (ta tb:TE):TE:=fun σ H Q=>ta σ H fun x H1=>∃ c d:Bool,x=.bl c∧(c=true→tb σ H1 fun y H2=>y=.bl d∧H2=H1)∧Q (.bl (c && d)) H1
section
variable {X:Cx}{a b c:Expr}{ta tb tc:TE}{pos:Pos}{rest:List Expr}
theorem pe_orI (ha:PE X a ta) (hb:PE X (.BoolOp .Or (b :: rest) pos) tb):PE X (.BoolOp .Or (a :: b :: rest) pos) (tOrI ta tb):=by
  intro pins s σ H Q I h
  refine BoolOp_or (thn (ha pins s σ H _ I h) fun v s1 ⟨x,H1,I1,r1,q1⟩=>?_)
  obtain ⟨c,d,rfl,h2,q⟩:=q1
  cases r1
  refine wpAny_truthy_bool ?_
  cases c with
  | true=>exact ⟨.bl true,H1,I1,rfl,by simpa using q⟩
  | false=>exact thn (hb pins s1 σ H1 _ I1 (h2 rfl)) fun u s2 ⟨y,H2,I2,r2,ey,eH⟩=>⟨y,H2,I2,r2,by subst ey eH;simpa using q⟩
theorem pe_andI (ha:PE X a ta) (hb:PE X (.BoolOp .And (b :: rest) pos) tb):PE X (.BoolOp .And (a :: b :: rest) pos) (tAndI ta tb):=by
  intro pins s σ H Q I h
  refine BoolOp_and (thn (ha pins s σ H _ I h) fun v s1 ⟨x,H1,I1,r1,q1⟩=>?_)
  obtain ⟨c,d,rfl,h2,q⟩:=q1
  cases r1
  refine wpAny_truthy_bool ?_
  cases c with
  | false=>exact ⟨.bl false,H1,I1,rfl,by simpa using q⟩
  | true=>exact thn (hb pins s1 σ H1 _ I1 (h2 rfl)) fun u s2 ⟨y,H2,I2,r2,ey,eH⟩=>⟨y,H2,I2,r2,by subst ey eH;simpa using q⟩
end
end L2
namespace L2
open PySem PySem.Spec PyProof.Rows PySem.W PySem.Builtin PySem.Builtin.ObjectAttr
def exMro:List Value→Bool
  | .ref _ :: r=>exMro r
  | l=>l == [.type "ValueError",.type "Exception",.type "BaseException",.type "object"]
theorem refuse_val (self:Value):refuseLoop self "__setattr__" [.type "ValueError",.type "Exception",.type "BaseException",.type "object"]=pure ():=by kernel_rfl
theorem refuse_ex (self:Value):∀ {l:List Value},exMro l=true→refuseLoop self "__setattr__" l=pure ()
  | .ref _ :: r,e=>by rw [refuseLoop_ref];exact refuse_ex self (l:=r) e
  | .type n :: r,e=>by rw [beq_iff_eq.mp e];exact refuse_val self
theorem exMro_has:∀ {l:List Value},exMro l=true→l.contains (.type "object")=true∧l.isEmpty=false
  | .ref c :: r,e=>by rw [List.contains_cons,(exMro_has (l:=r) e).1,Bool.or_true];exact ⟨rfl,rfl⟩
  | .type n :: r,e=>by rw [beq_iff_eq.mp e];exact ⟨by decide +kernel,rfl⟩
structure ExS (K:Frag) (C:Addr):Prop where
  cls:∃ cd,clsIn K C=some cd∧exMro cd.mro=true∧cd.hasDict=true
  sa:findIn K (.ref C) "__setattr__"=some (some (.builtin "object.__setattr__"))
section
variable {prog:Program}{w:World}{A:Around}{E:Value→Shared→Prop}{s:Shared}{K:Frag}{x C:Addr}{ox:Obj}{od:Option Obj}{name:Str}{v:Value}
theorem osa_exc {R:Result→Shared→Prop}{tk:Tok}(S:ExS K C) (X:K.In s.heap) (I:PySem.W.InstAt s.heap x ox C od) (ht:findIn K (.ref C) name=some none)
    (h:wpAny (model prog w) A.in1 (storeInOwnDict (.ref x) (.ref C) (.str name tk) name v false)
      (fun fin s'=>match fin with | .done f=>R (.ok f) s' | .again c'=>c'.quiet=true∧codeAny (model prog w) A c' R s') (fun e s'=>R (.error e) s') s) :
    codeAny (model prog w) A (.call (.builtin "object.__setattr__") ⟨[.ref x,.str name tk,v],[]⟩) R s:=by
  have SF:=PySem.F.store_object
  obtain ⟨cd,hc,hm,_⟩:=S.cls
  obtain ⟨h1,h2⟩:=exMro_has hm
  have sub:Looks (model prog w) s.heap (isInstance (.ref x) (.type "object")) true:=I.type.andThen (looks_mroIn X (show mroIn K C (.type "object")=some true by unfold mroIn;rw [hc];show (if cd.mro.isEmpty=true then none else some _)=_;rw [h2,h1];rfl))
  refine codeAny_call_builtin SF.slot.plain SF.entry (@check_slot (model prog w) _ _ s "object.__setattr__" "object" "__setattr__" (.ref x) [.str name tk,v] [] _ SF.kind SF.split sub (SF.args (.ref x) (.str name tk) v) ?_)
  have hmr:Looks (model prog w) s.heap (mroOf (.ref C)) cd.mro:=(looks_clsIn X hc).andThen .now
  rw [osa_eq,refuse_eq]
  refine wpAny_bind (wpAny_bind (I.type.here (wpAny_bind (hmr.here ?_))))
  rw [refuse_ex _ hm]
  exact wpAny_pure (wpAny_bind (I.type.here (wpAny_bind ((looks_findIn X ht).here (wpAny_bind (wpAny_pure h))))))
theorem set_exc {Q:Unit→Shared→Prop}{vs:Array Value}(S:ExS K C) (X:K.In s.heap) (hx:s.heap.get? x=some ⟨.ref C,none,.fields vs,#[]⟩) (ht:findIn K (.ref C) name=some none)
    (h:∀ h',h'.get? x=some ⟨.ref C,some s.heap.objs.size,.fields vs,#[]⟩→h'.Ns1 s.heap.objs.size (fun y=>if y=name then some v else none)→(∀ b o,b≠x→s.heap.get? b=some o→h'.get? b=some o)→Q () { s with heap:=h',toks:=s.toks + 2 }) :
    wpAny (model prog w) A (setAttr (.ref x) name v) Q E s:=by
  have J:PySem.W.InstAt s.heap x ⟨.ref C,none,.fields vs,#[]⟩ C none:=⟨hx,rfl,rfl,trivial⟩
  refine set_plain X J S.sa (osa_exc (s:={ s with toks:=s.toks + 1 }) S X J ht ?_)
  obtain ⟨cd,hc,hm,hd⟩:=S.cls
  refine wpAny_bind (wpAny_pure (wpAny_bind (wpAny_bind (wpAny_loadPart hx (wpAny_bind (Looks.here (s:={ s with toks:=s.toks + 1 }) (looks_clsIn X hc) ?_))))))
  rw [hd]
  show wpAny _ _ (alloc emptyDict >>= fun d=>update x (fun o=>{ o with dict:=some d }) >>= fun _=>dictMade (.ref C) x d) _ _ _
  refine wpAny_bind (wpAny_alloc (wpAny_bind (wpAny_update (o:=⟨.ref C,none,.fields vs,#[]⟩) (Heap.get?_push_of_some _ hx) (wpAny_pure (a:=some s.heap.objs.size) ?_))))
  have nx:s.heap.objs.size≠x:=Nat.ne_of_gt (Heap.lt_size hx)
  have ex:=Heap.get?_update_self (fun o:Obj=>{ o with dict:=some s.heap.objs.size }) (Heap.get?_push_of_some emptyDict hx) rfl
  have eo:∀ b o,b≠x→(s.heap.push emptyDict).get? b=some o→((s.heap.push emptyDict).update x fun o:Obj=>{ o with dict:=some s.heap.objs.size }).get? b=some o:=fun b o n q=>by
    rw [Heap.get?_update_other _ _ (Ne.symm n)];exact q
  have e1:(s.heap.push emptyDict).get? s.heap.objs.size=some emptyDict:=Heap.get?_push_size s.heap rfl
  have n0:(s.heap.push emptyDict).Ns s.heap.objs.size (fun _=>none):=⟨emptyDict,#[],_,e1,rfl,(fun e he=>absurd he (by simp)),fun _=>rfl⟩
  have n1:=(Heap.Ns1.of_empty n0).at (h':=(s.heap.push emptyDict).update x fun o:Obj=>{ o with dict:=some s.heap.objs.size }) fun o q=>eo _ _ nx q
  refine wpAny_bind (wpAny_pure (wpAny_bind ?_))
  refine wpAny_nsSet1 (s:={ s with heap:=(s.heap.push emptyDict).update x fun o:Obj=>{ o with dict:=some s.heap.objs.size },toks:=s.toks + 1 }) n1 fun h' hn2 hs2=>?_
  obtain ⟨oD,esD,epD,hoD,hdD,hcD⟩:=hn2.count (ns:=[name]) (PySem.Within.cons name v (fun y hy=>absurd rfl hy))
  refine wpAny_bind (wpAny_lookBehind hoD (by rw [hdD];exact pastItsLine_dict (Nat.le_trans hcD (by simp))) ?_)
  refine wpAny_pure (h _ ((hs2.2 _ (Ne.symm nx)).trans ex) hn2 fun b o n q=>?_)
  have nb:b≠s.heap.objs.size:=Nat.ne_of_lt (Heap.lt_size q)
  exact (hs2.2 _ nb).trans (eo b o n (Heap.get?_push_of_some _ q))
end
section
variable {prog:Program}{w:World}{A:Around}{E:Value→Shared→Prop}{h:Heap}{g:Array GenState}{d:Drawn}{t:Nat}{os:OsState}{nm q:Str}{C N:Addr}{bs bm bmB:List Value}{hdct:Bool}{sn:List Str}{sub:List Value}{ab:Bool}{col:Option Bool}{dd:Option Addr}{k0 k1 k2 k3 k5:Option Value}{B newId initId:String}
theorem exc_call_init (F:ExcBaseFacts B newId initId bmB) (T:OwnTail h bmB bm) {mN:Str→Option Value}{rest:List Value}{fI:Addr}{oI:Obj}{Q:Value→Shared→Prop}
    (hC:h.get? C=some (excClassObj nm q C N bs bm hdct sn sub ab col dd k0 k1 k2 k3 k5 newId)) (hn:h.Ns N mN) (hi:mN "__init__"=some (.ref fI)) (hfI:h.get? fI=some oI) (hfc:oI.cls=.type "function")
    (hq:∀ h' e,Heap.MadeExcOf h h' e (.ref C) rest→wpAny (model prog w) (A.under (.builtin "type.__call__" ⟨.ref C :: rest,[]⟩)) (call (.ref fI) (.ref e :: rest)) (fun r s'=>r=.none∧Q (.ref e) s') E ⟨h',g,d,t,os⟩)
    (hrest:rest.length≤sizeLine):wpAny (model prog w) A (call (.ref C) rest) Q E ⟨h,g,d,t,os⟩:=by
  have f1:=tc_lookup;have f2:=tc_bind (.ref C)
  have hT:(⟨h,g,d,t,os⟩:Shared).TypeIs (.ref C) "type":=⟨_,hC,rfl⟩
  refine wpAny_call (codeAny_of_tree (show wpAny _ _ (callAny (.ref C) _) _ _ _ from ?_))
  repeat (any_goals (first | assumption | (with_reducible refine wpAny_loadPart_at hC ?_) | wp_step))
  refine ⟨rfl,codeAny_call_builtin_at (Code.quiet_builtin _ (by decide +kernel)) entry_typeCall (wpAny_check_type_call_sub hC ?_)⟩
  repeat (first | (with_reducible refine wpAny_loadPart_at hC ?_) | (with_reducible refine wpAny_madeBy_exc hC ?_) | wp_step)
  refine codeAny_call_builtin_code (Code.quiet_builtin _ F.quiet) (wpAny_check_new_subT F T hC (codeAny_exc_new_subT F T hC ?_ hrest))
  show wpAny _ _ _ _ _ _
  have kp:∀ b o,h.get? b=some o→((h.push { cls:=.type "tuple",data:=.seq rest.toArray }).push { cls:=.ref C,data:=.fields #[.ref h.objs.size,.none,.none,.none,.bool false,.none] }).get? b=some o:=by
    intro b o z;exact Heap.get?_push_of_some _ (Heap.get?_push_of_some _ z)
  have hget:((h.push { cls:=.type "tuple",data:=.seq rest.toArray }).push { cls:=.ref C,data:=.fields #[.ref h.objs.size,.none,.none,.none,.bool false,.none] }).get? (h.objs.size + 1)=some { cls:=.ref C,data:=.fields #[.ref h.objs.size,.none,.none,.none,.bool false,.none] }:=by heap_get
  have htup:((h.push { cls:=.type "tuple",data:=.seq rest.toArray }).push { cls:=.ref C,data:=.fields #[.ref h.objs.size,.none,.none,.none,.bool false,.none] }).get? h.objs.size=some { cls:=.type "tuple",data:=.seq rest.toArray }:=by
    exact Heap.get?_push_of_some _ (Heap.get?_push_at rfl rfl)
  have hcC:(Value.ref C :: bm).contains (.ref C)=true:=by simp
  have hC1:=kp _ _ hC
  unfold isInstance
  repeat (first | (with_reducible refine wpAny_loadPart_at hget ?_) | ((with_reducible refine wpAny_isSubtype_exc hC1 ?_);rw [hcC]) | wp_step)
  refine wpAny_isSubtype_exc hC1 ?_
  rw [hcC]
  repeat wp_step
  show wpAny _ _ (typeLookup (.ref C) _) _ _ _
  refine wpAny_typeLookup_tail hC1 (hn.keeps kp) (T.keeps kp) F.mroIs F.init.lookup ?_
  rw [hi]
  refine wpAny_holding (wpAny_bind ?_)
  unfold bindSpecial
  refine wpAny_bind (wpAny_typeOf (T:="function") ⟨_,kp _ _ hfI,hfc⟩ ?_)
  rw [if_pos (by decide)]
  refine wpAny_pure (wpAny_bind (wpAny_mono (hq _ (h.objs.size + 1) ⟨kp,Heap.get?_none_of_le (Nat.le_succ _),h.objs.size,hget,Heap.get?_none_of_le (Nat.le_refl _),htup⟩) (fun r s' hr=>?_) fun _ _ x=>x))
  obtain ⟨rfl,hQ⟩:=hr
  wp_walk
  exact hQ
theorem base_init {e t0:Addr}{rest:List Value}{Q:Value→Shared→Prop}(F:ExcBaseFacts B newId initId bmB) (T:OwnTail h bmB bm) (hC:h.get? C=some (excClassObj nm q C N bs bm hdct sn sub ab col dd k0 k1 k2 k3 k5 newId))
    (he:h.get? e=some { cls:=.ref C,data:=.fields #[.ref t0,.none,.none,.none,.bool false,.none] }) (hrest:rest.length≤sizeLine)
    (hq:∀ h' t1,h'.get? e=some { cls:=.ref C,data:=.fields #[.ref t1,.none,.none,.none,.bool false,.none] }→(∀ b o,b≠e→h.get? b=some o→h'.get? b=some o)→Q .none ⟨h',g,d,t,os⟩) :
    wpAny (model prog w) A (call (.builtin initId) (.ref e :: rest)) Q E ⟨h,g,d,t,os⟩:=by
  refine wpAny_call (codeAny_call_builtin F.init.plain F.initEntry (wpAny_check_init_subT F T hC he rfl ?_))
  wp_walk
  refine hq _ h.objs.size ?_ fun b o n z=>?_
  · rw [Heap.get?_update_self _ (Heap.get?_push_of_some _ he) rfl];rfl
  · rw [Heap.get?_update_other _ _ (Ne.symm n)];exact Heap.get?_push_of_some _ z
end
end L2
namespace L2
open PySem PySem.Spec PyProof.Rows PySem.W
local macro_rules | `(tactic| walk_at "om") => `(tactic| first | omega | (unfold Addr at *; omega))
theorem ns_of_in {K:Frag}{h:Heap}{N:Addr}{m:Str→Option Value}{n:Str}{v:Value}(X:K.In h) (G:h.Ns N m) (e:nsIn K N n=some (some v)):m n=some v:=by
  obtain ⟨o,es,ep,ho,hd,_,hf⟩:=G
  unfold nsIn at e;split at e
  · rename_i q;have z:=(X _ _ q).symm.trans ho;cases z;cases hd
    split at e
    · rename_i en he;cases e;rw [← hf];unfold nsFind findBy;rw [← Array.find?_toList,he];rfl
    · split at e<;>cases e
  · cases e
structure ExN (K:Frag) (C f:Addr):Prop where
  ex:∃ (nm q:Str) (N:Addr) (bs bm:List Value) (hdct:Bool) (sn:List Str) (sub:List Value) (ab:Bool) (col:Option Bool) (dd:Option Addr) (k0 k1 k2 k3 k5:Option Value),
    K.lookup C=some (excClassObj nm q C N bs bm hdct sn sub ab col dd k0 k1 k2 k3 k5 "ValueError.__new__")∧nsOkIn K N=true∧nsIn K N "__init__"=some (some (.ref f))∧tailIn K bmV bm=true
  fn:isFn K (.ref f)=true
theorem ExN.obj {K:Frag}{C f:Addr}{h:Heap}(T:ExN K C f) (X:K.In h):∃ bm N nm q bs hdct sn sub ab col dd k0 k1 k2 k3 k5 mN,h.get? C=some (excClassObj nm q C N bs bm hdct sn sub ab col dd k0 k1 k2 k3 k5 "ValueError.__new__")∧h.Ns N mN∧mN "__init__"=some (.ref f)∧OwnTail h bmV bm:=by
  obtain ⟨nm,q,N,bs,bm,hdct,sn,sub,ab,col,dd,k0,k1,k2,k3,k5,h1,h2,h3,h4⟩:=T.ex
  have G:h.Ns N (h.nsMap N):=.of_isNs (isNs_of_in X h2)
  exact ⟨bm,N,nm,q,bs,hdct,sn,sub,ab,col,dd,k0,k1,k2,k3,k5,_,X _ _ h1,G,ns_of_in X G h3,tail_of_in X h4⟩
theorem ExN.fun {K:Frag}{C f:Addr}{h:Heap}(T:ExN K C f) (X:K.In h):∃ o,h.get? f=some o∧o.cls=.type "function":=by
  have e:typeIn K (.ref f)=some (.type "function"):=beq_iff_eq.mp T.fn
  obtain ⟨o,h1,h2⟩:=Option.map_eq_some_iff.mp e
  exact ⟨o,X _ _ h1,h2⟩
def excN (e C:Addr):HO:=.ext fun h=>∃ t:Addr,h.get? e=some { cls:=.ref C,data:=.fields #[.ref t,.none,.none,.none,.bool false,.none] }
def excD (e C dx:Addr):HO:=.ext fun h=>∃ t:Addr,h.get? e=some { cls:=.ref C,dict:=some dx,data:=.fields #[.ref t,.none,.none,.none,.bool false,.none] }
theorem upd_eq {H:Hp}{a:Addr}{o:HO}(h:H a=some o):upd H a o=H:=by
  funext b;unfold upd;split
  · rename_i e;rw [e,h]
  · rfl
def drop (H:Hp) (e:Addr):Hp:=fun b=>if b=e then none else H b
theorem drop_same {H:Hp}{e:Addr}:drop H e e=none:=if_pos rfl
theorem drop_ne {H:Hp}{e b:Addr}(h:b≠e):drop H e b=H b:=if_neg h
section
variable {X:Cx}{pins:List (Addr×Obj)}{σ:St}{H:Hp}{s:Shared}
structure NewAt (X:Cx) (pins:List (Addr×Obj)) (H:Hp) (e:Addr):Prop where
  free:H e=none
  old:∀ b o,X.s₀.heap.get? b=some o→b∉X.ex→b≠e
  loc:X.env.locals≠e
  cell:∀ x c,X.env.cells.lookup x=some c→c≠e
  pin:∀ p∈X.pn ++ pins,p.1≠e
theorem Inv.newAt (I:Inv X pins σ H s) {e:Addr}(h:s.heap.get? e=none):NewAt X pins H e:=by
  have ne:∀ b o,s.heap.get? b=some o→b≠e:=fun b o q z=>by rw [z,h] at q;cases q
  refine ⟨?_,fun b o q hx=>?_,?_,fun x c q=>?_,fun p hp=>ne _ _ (I.pin p hp).1⟩
  · cases z:H e with
    | none=>rfl
    | some o=>obtain ⟨ob,y⟩:=(I.hok e o z).there;exact absurd rfl (ne e ob y)
  · obtain ⟨o',y⟩:=I.base.there b o q hx;exact ne b o' y
  · obtain ⟨m,⟨o,_,_,y,_⟩,_⟩:=I.loc;exact ne _ o y
  · obtain ⟨v,o,y,_⟩:=I.cell x c q;exact ne _ o y
theorem Inv.track {e:Addr}{o:HO}(I:Inv X pins σ H s) (n:NewAt X pins H e) (ok:ObjOk X.prog X.w (upd H e o) s.heap e o):Inv X pins σ (upd H e o) s:=by
  have keep:∀ b u,H b=some u→upd H e o b=some u:=fun b u q=>by rw [upd_ne (ne_of_none q n.free)];exact q
  refine ⟨I.ok,I.os,I.bare,⟨I.base.keep,I.base.slot,fun b ob q z hx=>?_,I.base.there,fun b xs q=>keep _ _ (I.base.tups b xs q),fun b ob u q=>keep _ _ (I.base.frzs b ob u q),fun b ps q=>?_⟩,I.loc,I.cell,?_,fun x c q=>?_,fun p hp=>?_,fun b u q=>?_,I.len⟩
  · rw [upd_ne (n.old b ob q hx)];exact I.base.free b ob q z hx
  · obtain ⟨m,y⟩:=I.base.tbls b ps q;exact ⟨m,keep _ _ y⟩
  · rw [upd_ne n.loc];exact I.free
  · rw [upd_ne (n.cell x c q)];exact I.freeC x c q
  · obtain ⟨q,z,a,b,d⟩:=I.pin p hp
    refine ⟨q,?_,a,b,d⟩;rw [upd_ne (n.pin p hp)];exact z
  · by_cases hb:b=e
    · subst hb;rw [upd_same] at q;cases q;exact ok
    · rw [upd_ne hb] at q
      exact (I.hok b u q).stay (fun _ _ _ z=>z) (fun c z=>keep _ _ z) fun c xs z=>keep _ _ z
theorem Inv.drop {e:Addr}{φ:Heap→Prop}(I:Inv X pins σ H s) (he:H e=some (.ext φ)):Inv X pins σ (drop H e) s:=by
  have keep:∀ b u,H b=some u→(∀ ψ,u≠.ext ψ)→L2.drop H e b=some u:=fun b u q nx=>by
    rw [drop_ne (fun z=>by rw [z,he] at q;cases q;exact nx _ rfl)];exact q
  have none':∀ b,H b=none→L2.drop H e b=none:=fun b q=>by
    by_cases z:b=e
    · rw [z];exact drop_same
    · rw [drop_ne z];exact q
  refine ⟨I.ok,I.os,I.bare,⟨I.base.keep,I.base.slot,fun b ob q z hx=>none' _ (I.base.free b ob q z hx),I.base.there,fun b xs q=>keep _ _ (I.base.tups b xs q) (fun _ z=>nomatch z),fun b ob u q=>keep _ _ (I.base.frzs b ob u q) (fun _ z=>nomatch z),fun b ps q=>?_⟩,I.loc,I.cell,none' _ I.free,fun x c q=>none' _ (I.freeC x c q),fun p hp=>?_,fun b u q=>?_,I.len⟩
  · obtain ⟨m,y⟩:=I.base.tbls b ps q;exact ⟨m,keep _ _ y (fun _ z=>nomatch z)⟩
  · obtain ⟨q,z,a,b,d⟩:=I.pin p hp
    exact ⟨q,none' _ z,a,b,d⟩
  · have hb:b≠e:=fun z=>by rw [z,drop_same] at q;cases q
    rw [drop_ne hb] at q
    exact (I.hok b u q).stay (fun _ _ _ z=>z) (fun c z=>keep _ _ z (fun _ y=>nomatch y)) fun c xs z=>keep _ _ z (fun _ y=>nomatch y)
end
def tBInit (K:Frag) (t:TA):TE:=fun σ H Q=>t σ H fun vs H1=>∃ ea C f r,vs=.ref ea :: r∧H1 ea=some (excN ea C)∧ExN K C f∧r.length≤sizeLine∧Q .non H1
section
variable {X:Cx}{V₀:Addr}{x:Str}{p apos pos:Pos}{e:Expr}{es:List Expr}{t:TA}{te:TE}
theorem pe_binit {pl:Sem Bool}(hg:Gl X x) (hm:X.mg x=some (.ref V₀)) (hr:readsIn X.K V₀ (.type "type")=true) (hf:findCls X.K (.ref V₀) (.type "type") "__init__"=some (.val (.builtin "ValueError.__init__")))
    (hs:specialIn X.K (.ref V₀) "__getattribute__"=some (some (.builtin "type.__getattribute__"))) (ha:PA X (e :: es) t) (hdb:(x == ("__debug__":Str))=false:=by decide)
    (hst:starEach (e :: es) X.env=(false,eval e X.env) :: starEach es X.env:=by rfl) (hpl:(backTo pos (starEach es X.env)).any (·.1)=false:=by rfl)
    (ht:eval (.Call (.Attribute (.Name x p) "__init__" apos) (e :: es) [] pos) X.env=(do
      let ov ← eval (.Name x p) X.env
      standAt apos.atName
      let (f,first) ← holding [ov] (getMethod ov "__init__" pl)
      callWith pos f first (backTo pos (starEach (e :: es) X.env)) (backToKw pos (keywordEach [] X.env))):=by rfl) :
    PE X (.Call (.Attribute (.Name x p) "__init__" apos) (e :: es) [] pos) (tBInit X.K t):=by
  intro pins s σ H Q I h
  refine methodCall_KW (pl:=pl) (ld_glob I hg hm (method_cls I.kIn hs (cls_value I.kIn hr hf rfl ?_)) hdb) ht
  refine PyProof.Rows.callWith_builtin1 (thn (ha pos pins _ σ H _ (I.tok _) h) fun us s1 ⟨vs,H1,I1,r1,ea,C,f,r,ev,he,T,hl,q⟩=>?_) hst hpl
  subst ev
  cases r1 with
  | cons ra rr =>
    cases ra
    obtain ⟨⟨t0,h0⟩,_⟩:=I1.hok ea _ he
    obtain ⟨bm,N,nm,qn,bs,hdct,sn,sub,ab,col,dd,k0,k1,k2,k3,k5,mN,hC,hN,hi,TL⟩:=T.obj I1.kIn
    obtain ⟨hh,gg,d,tt,os⟩:=s1
    refine base_init F.excBase_ValueError TL hC h0 (by rw [← rr.length];exact hl) fun h' t1 h1 kp=>?_
    have J:=I1.write (x:=ea) (e:=ea) (o:=excN ea C) (h':=h') (t':=tt) (by rw [he];trivial) (.inl rfl) (fun b u n z=>kp b u n z) ⟨_,h1⟩ ⟨⟨t1,h1⟩,⟨_,h1⟩,fun g1 g2 ⟨t2,z⟩ k=>⟨t2,k _ z⟩⟩
    rw [upd_eq he] at J
    exact ⟨.non,H1,J,rfl,q⟩
def tFStr (te:TE):TE:=fun σ H Q=>te σ H fun x H1=>∃ i:Int,x=.int i∧i.natAbs.log2 < 1920∧∀ z:Str,Q (.str z) H1
theorem pe_fstr3 {a b:Str}{v:Expr}{j1 j2:Nat}{p1 p2 p3:Pos}(he:PE X v te) (ha:a.length≤1000:=by decide) (hb:b.length≤1000:=by decide) :
    PE X (.JoinedStr [.Constant (.str a) j1 p1,.FormattedValue v (-1) none p2,.Constant (.str b) j2 p3] pos) (tFStr te):=by
  intro pins s σ H Q I h
  refine JoinedStr_many (joinParts_cons (Calls.Constant_str ⟨?_,joinParts_cons (FormattedValue_plain (thn (he pins _ σ H _ (I.tok _) h) fun u s1 ⟨x,H1,I1,r1,i,ex,hi,q⟩=>?_))⟩))
  · rw [strLen_append,sizeLine_eq];have:(Str.empty).length=0:=rfl;omega
  · subst ex
    obtain ⟨tk,rfl⟩:=r1
    have hl:=int_text_length_le (k:=1920) (by decide) hi
    have e0:(Str.empty).length=0:=rfl
    refine formatField_int_small hi ⟨?_,joinParts_cons (Calls.Constant_str ⟨?_,joinParts_nil ⟨.str _,H1,I1.tok _,⟨_,rfl⟩,q _⟩ ?_⟩)⟩
    all_goals simp only [strLen_append,PySem.ofString_length,sizeLine_eq]
    all_goals omega
def sFldX (K:Frag) (ta tv:TE) (f:Str):TS:=fun D σ H=>tv σ H fun y H1=>ta σ H1 fun x H2=>∃ a C,x=.ref a∧H2 a=some (excN a C)∧ExS K C∧NoAttr K C f ∧
  ∀ dx,H2 dx=none→dx≠a→D.nx σ (upd (upd H2 a (excD a C dx)) dx (.xd [(f,y)]))
theorem ps_fldX {o value:Expr}{ta tv:TE}{f:Str}{pos':Pos}(ha:PE X o ta) (hv:PE X value tv) (hs:swapsWith value (some (.Attribute o f pos')) pos.line X.env=pure false):PS X (.Assign [.Attribute o f pos'] value pos) (sFldX X.K ta tv f):=by
  intro pins s σ H D I h
  refine plainObj_wpAny_Assign_Attribute (thn (hv pins s σ H _ I h) fun u s1 ⟨y,H1,I1,ry,q⟩=>thn (ha pins s1 σ H1 _ I1 q) fun ov s2 ⟨x,H2,I2,rx,a,C,ex,ea,S,n,q2⟩=>?_) hs
  subst ex
  obtain rfl:ov=Value.ref a:=rx
  obtain ⟨⟨t0,h0⟩,_⟩:=I2.hok a _ ea
  refine set_exc S I2.kIn h0 n fun h' e1 n1 kp=>?_
  have na:s2.heap.objs.size≠a:=Nat.ne_of_gt (Heap.lt_size h0)
  have hf:H2 s2.heap.objs.size=none:=I2.hok.fresh (Nat.le_refl _)
  have J:=I2.write (x:=a) (e:=a) (o:=excD a C s2.heap.objs.size) (h':=h') (t':=s2.toks + 2) (by rw [ea];trivial) (.inl rfl) (fun b u n z=>kp b u n z) ⟨_,e1⟩ ⟨⟨t0,e1⟩,⟨_,e1⟩,fun g1 g2 ⟨t2,z⟩ k=>⟨t2,k _ z⟩⟩
  have N0:=I2.newAt (e:=s2.heap.objs.size) (Heap.get?_none_of_le (Nat.le_refl _))
  have N1:NewAt X pins (upd H2 a (excD a C s2.heap.objs.size)) s2.heap.objs.size:=⟨by rw [upd_ne na];exact hf,N0.old,N0.loc,N0.cell,N0.pin⟩
  refine ⟨σ,_,J.track N1 (o:=.xd [(f,y)]) ⟨_,n1,fun g=>?_⟩,q2 _ hf na⟩
  by_cases z:g=f
  · subst z;simp [List.lookup,RelO,ry]
  · have:(g == f)=false:=by simpa using z
    simp [List.lookup,this,z,RelO]
end
end L2
namespace L2
open PySem PySem.Spec PyProof.Rows PySem.W
section
variable {M:Model}{A:Around}{E:Value→Shared→Prop}{env:Env}{nm q:Str}{C N:Addr}{bs bm:List Value}{hdct:Bool}{sn:List Str}{sub:List Value}{ab:Bool}{col:Option Bool}{dd:Option Addr}{k0 k1 k2 k3 k5:Option Value}{newId:String}
theorem raise_obj {s:Shared}{x:Sem Value}{Q:Flow→Shared→Prop}(hb:bm.contains (.type "BaseException")=true) (hh:A.handled=none)
    (h:wpAny M A x (fun v s1=>∃ (e t:Addr) (d:Option Addr),v=.ref e∧s1.heap.get? C=some (excClassObj nm q C N bs bm hdct sn sub ab col dd k0 k1 k2 k3 k5 newId)∧s1.heap.get? e=some { cls:=.ref C,dict:=d,data:=.fields #[.ref t,.none,.none,.none,.bool false,.none] }∧E (.ref e) s1) E s) :
    wpAny M A (raiseStmt env (some x) none) Q E s:=by
  have hB:(Value.ref C :: bm).contains (.type "BaseException")=true:=by rw [List.contains_cons,hb,Bool.or_true]
  unfold raiseStmt
  refine wpAny_bind (wpAny_mono h (fun v s1 z=>?_) fun _ _ y=>y)
  obtain ⟨e,t,d,rfl,hC,he,hE⟩:=z
  obtain ⟨hp,g,dr,tk,os⟩:=s1
  repeat (first | (with_reducible refine wpAny_loadPart_at he ?_) | (with_reducible refine wpAny_loadPart_at hC ?_) | ((with_reducible refine wpAny_isSubtype_exc hC ?_);rw [hB]) | wp_step)
  exact wpAny_raiseNew_none hh hE
end
def tRaiseI (C:Addr) (sp:Sp) (E:St→XK) (t:TA):TS:=fun _ σ H=>t σ H fun vs H1=>vs.length≤sizeLine∧∀ ea,H1 ea=none→sp (.ref ea :: vs) (upd H1 ea (excN ea C)) (fun v H2=>v=.non∧∃ dx,H2 ea=some (excD ea C dx)∧E σ (.ref C) (some dx) (drop H2 ea)) E0
section
variable {X:Cx}{C f:Addr}{fd:FuncData}{ps:List Str}{sp:Sp}{k:Nat}{x:Str}{np cpos pos:Pos}{e:Expr}{es:List Expr}{t:TA}{E:St→XK}
theorem ps_raiseI (hc:X.calm=true) (T:ExN X.K C f) (Fi:FnOk X.prog X.w X.K X.mg X.base CX0 k f fd ps sp) (hr:Room (k + 1) X.A) (hb:Binds X.K fd ps []) (hg:Gl X x) (hm:X.mg x=some (.ref C)) (hT:TakesN X E) (ha:PA X (e :: es) t)
    (hdb:(x == ("__debug__":Str))=false:=by decide) (he:starEach (e :: es) X.env=(false,eval e X.env) :: starEach es X.env:=by rfl) (hpl:(backTo cpos (starEach es X.env)).any (·.1)=false:=by rfl) :
    PS X (.Raise (some (.Call (.Name x np) (e :: es) [] cpos)) none pos) (tRaiseI C sp E t):=by
  intro pins s σ H D I h
  obtain ⟨bm,N,nm,qn,bs,hdct,sn,sub,ab,col,dd,k0,k1,k2,k3,k5,mN,hC,hN,hi,TL⟩:=T.obj I.ok.mod.kin
  obtain ⟨oI,hfI,hfc⟩:=T.fun I.ok.mod.kin
  have hplain:(backTo cpos (starEach (e :: es) X.env)).any (·.1)=false:=by rw [he];show (false || _)=false;rw [Bool.false_or];exact hpl
  rw [arm_exec_Raise]
  refine wpAny_bind (wpAny_standAt (raise_obj (nm:=nm) (q:=qn) (C:=C) (N:=N) (bs:=bs) (bm:=bm) (k5:=k5) (k0:=k0) (k1:=k1) (k2:=k2) (k3:=k3) (dd:=dd) (col:=col) (ab:=ab) (sub:=sub) (sn:=sn) (hdct:=hdct) (newId:="ValueError.__new__") (TL.hasType F.excBase_ValueError.hasBase) (I.ok.hd hc)
    (wpAny_bind (wpAny_mono (wpAny_Call_ofName (ld_glob I hg hm ?_ hdb)) (fun v s3 h3=>wpAny_bind (wpAny_standAt (wpAny_pure h3))) fun _ _ x=>x))))
  have z:=ha cpos pins s σ H _ I h
  unfold callWith
  refine wpAny_bind (wpAny_holding (wpAny_mono (show wpAny _ _ (evalArgs (.ref C) true (backTo cpos (starEach (e :: es) X.env)) []) (fun a s2=>a.kw=[]∧∃ vs H1,Inv X pins σ H1 s2∧Vals vs a.pos∧(vs.length≤sizeLine∧∀ ea,H1 ea=none→sp (.ref ea :: vs) (upd H1 ea (excN ea C)) (fun v H2=>v=.non∧∃ dx,H2 ea=some (excD ea C dx)∧E σ (.ref C) (some dx) (drop H2 ea)) E0)) X.xe s from ?_) (fun a s2 h2=>wpAny_bind (wpAny_standAt ?_)) fun _ _ x=>x))
  · rw [he] at z ⊢
    exact Calls.evalArgs_plain (thn z fun us s2 ⟨vs,H2,I2,r,q2⟩=>⟨rfl,vs,H2,I2,r,q2⟩)
  obtain ⟨us,kw⟩:=a
  obtain ⟨rfl,vs,H2,I2,r,zl,q2⟩:=h2
  obtain ⟨hp,g,dr,tk,os⟩:=s2
  simp only [hplain]
  refine wpAny_bind (wpAny_keeperOf_exc (I2.bk _ _ hC) ?_)
  have r:Vals vs us:=r
  refine wpAny_bind (exc_call_init F.excBase_ValueError (TL.keeps I2.bk) (I2.bk _ _ hC) (hN.keeps I2.bk) hi (I2.bk _ _ hfI) hfc (fun h' ea hme=>?_) (by show us.length≤sizeLine;rw [← r.length];exact zl))
  have n2:=I2.newAt hme.new
  obtain ⟨t0,ht0,_,_⟩:=hme.there
  have I3:Inv X pins σ (upd H2 ea (excN ea C)) ⟨h',g,dr,tk,os⟩:=(I2.kept (h':=h') (t':=tk) hme.keeps).track n2 ⟨⟨t0,ht0⟩,⟨_,ht0⟩,fun g1 g2 ⟨t2,z⟩ k=>⟨t2,k _ z⟩⟩
  have q3:=q2 ea n2.free
  have hl:=Fi.len _ _ _ _ q3
  have r3:Vals (.ref ea :: vs) (.ref ea :: us):=.cons rfl r
  have hb3:=hb ⟨h',g,dr,tk,os⟩ (.ref ea :: us) I3.kIn (by rw [List.append_nil,← r3.length];exact hl)
  rw [List.append_nil] at hb3
  refine wpAny_call (codeAny_mono (Fi.run _ X.stack _ _ ⟨.ref ea :: us,[]⟩ (.ref ea :: us) (.ref ea :: vs) _ E0 (hr.make C us []) (I3.env0.make C us []) hb3 r3 q3) fun r s' hq=>?_)
  cases r with
  | error e=>exact False.elim hq
  | ok fl =>
    cases fl with
    | next=>exact False.elim hq
    | brk=>exact False.elim hq
    | cont=>exact False.elim hq
    | ret u =>
      obtain ⟨v,H4,I4,rv,ev,dx,hd,qE⟩:=I3.after hq
      subst ev
      obtain rfl:u=Value.none:=rv
      refine ⟨rfl,wpAny_bind (wpAny_holding (wpAny_point (wpAny_pure ?_)))⟩
      obtain ⟨⟨t1,ht1⟩,_⟩:=I4.hok ea _ hd
      exact ⟨ea,t1,some dx,rfl,I4.bk _ _ hC,ht1,hT pins σ (drop H4 ea) s' ea _ _ (I4.drop hd) drop_same n2.old n2.pin ht1 rfl rfl qE⟩
end
section
variable {prog:Program}{w:World}{A:Around}{E:Value→Shared→Prop}{s:Shared}{K:Frag}{x C:Addr}{ox:Obj}{od:Option Obj}{name:Str}{v:Value}
theorem exc_get {expr:Bool} {Q:Value→Shared→Prop} (T:ExT K C) (X:K.In s.heap) (I:PySem.W.InstAt s.heap x ox C od) (hf:findObj K C od name=some (.value v)) (hh:handedIn v=true) (h:Q v { s with toks:=s.toks + 1 }) :
    wpAny (model prog w) A (getAttr (.ref x) name expr) Q E s:=by
  obtain ⟨hp,g,d,t,os⟩:=s
  have L0:=I.type (M:=model prog w)
  have L1:=looks_findIn (M:=model prog w) X T.ga
  have L2:=looks_findIn (M:=model prog w) X T.gt
  have L3:=looks_find (M:=model prog w) X I hf
  have f3:=F.excAttr_ValueError.ga.bind (.ref x)
  unfold getAttr getAttrBy
  refine wpAny_bind (wpAny_mkText (wpAny_holding (wpAny_bind (L0.at (wpAny_bind (L1.at ?_))))))
  show wpAny _ _ (if (onTheHeap (Value.ref C) && Value.builtin "BaseException.__getattribute__" == Value.builtin "object.__getattribute__")=true then _ else _) _ _ _
  rw [if_neg (by simp [onTheHeap])]
  unfold getAttrByItsOwn
  refine wpAny_bind (show wpAny _ _ (typeLookup (.ref C) "__getattr__") _ _ _ from L2.at ?_)
  refine wpAny_bind (wpAny_attempt (wpAny_holding ?_))
  unfold callGetattribute
  rw [if_neg (show ¬ (expr && onTheHeap (Value.builtin "BaseException.__getattribute__"))=true by cases expr<;>decide)]
  unfold boundAndCalled
  rw [f3]
  refine wpAny_bind (wpAny_pure (wpAny_call ?_))
  refine codeAny_call_builtin F.excAttr_ValueError.ga.plain F.entry_bexc_ga (check_ga (s:=⟨hp,g,d,t + 1,os⟩) T X I ?_)
  refine wpAny_bind (wpAny_pure (wpAny_bind (wpAny_pure (wpAny_bind (L0.at (wpAny_bind (L3.at (wpAny_pure ?_))))))))
  show wpAny _ _ (handedOut v) _ _ _
  rw [handedOut_of hh];exact wpAny_pure h
end
def tFldE (K:Frag) (ta:TE) (f:Str):TE:=fun σ H Q=>ta σ H fun x H1=>∃ ea C dx fs v,x=.ref ea∧H1 ea=some (excO ea C (some dx))∧H1 dx=some (.xd fs)∧ExT K C∧hasDictIn K C=true∧NoAttr K C f∧fs.lookup f=some v∧flatV v=true∧Q v H1
theorem pe_fldE {X:Cx}{K:Frag}{e:Expr}{f:Str}{pos:Pos}{ta:TE}(hK:X.K=K) (he:PE X e ta) (hb:attributeBase e f X.env (eval e X.env)=eval e X.env):PE X (.Attribute e f pos) (tFldE K ta f):=by
  subst hK
  intro pins s σ H Q I h
  refine attr_of hb (thn (he pins s σ H _ I h) fun u s1 ⟨x,H1,I1,rx,ea,C,dx,fs,v,ex,e1,e2,T,hd,n,l,fv,q⟩=>?_)
  subst ex
  obtain rfl:u=Value.ref ea:=rx
  obtain ⟨⟨o,vs,h1,h2,h3,h4⟩,_⟩:=I1.hok ea _ e1
  obtain ⟨mA,n1,hr⟩:=I1.hok dx _ e2
  obtain ⟨od,h5,h6⟩:=lookIn_ns n1
  have J:PySem.W.InstAt s1.heap ea o C (some od):=⟨h1,h2,by unfold notCls;rw [h4],by rw [h3];exact h5⟩
  have rl:=hr f
  rw [l] at rl
  cases em:mA f with
  | none=>rw [em] at rl;exact False.elim rl
  | some u =>
    rw [em] at rl
    have rl:RelV v u:=rl
    have hh:handedIn u=true:=by
      cases v with
      | non=>cases rl;rfl
      | bl b=>cases rl;rfl
      | int i=>obtain ⟨t,rfl⟩:=rl;rfl
      | str z=>obtain ⟨t,rfl⟩:=rl;rfl
      | _=>simp [flatV] at fv
    exact exc_get T I1.kIn J (findObj_own hd n rfl (by rw [h6,em])) hh ⟨v,H1,I1.tok _,rl,q⟩
end L2
namespace L2
open PySem PySem.Spec PyProof.Rows PySem.W
theorem ExS.of {K:Frag}{C N:Addr}{nm q:Str}{bs bm:List Value}{hdct:Bool}{sn:List Str}{sub:List Value}{ab:Bool}{col:Option Bool}{dd:Option Addr}{k0 k1 k2 k3 k5:Option Value}{newId:String}
    (l:K.lookup C=some (excClassObj nm q C N bs bm hdct sn sub ab col dd k0 k1 k2 k3 k5 newId)) (em:exMro bm=true) (hd:hdct=true) (sa:findIn K (.ref C) "__setattr__"=some (some (.builtin "object.__setattr__"))):ExS K C :=
  ⟨⟨_,by unfold clsIn;rw [l],em,hd⟩,sa⟩
end L2
namespace L2
open PySem PySem.Spec PyProof.Rows PySem.W
def tCut (t u:TS):TS:=fun D σ H=>∃ R:St→Hp→Prop,t { D with nx:=R } σ H∧∀ σ' H',R σ' H'→u D σ' H'
theorem pss_cut {X:Cx}{st:Stmt}{rest:List Stmt}{t u:TS}(h1:PS X st t) (h2:PSs X rest u):PSs X (st :: rest) (tCut t u):=by
  intro pins s σ H D I ⟨R,h,hR⟩
  refine wpAny_execs_cons (thn (h1 pins s σ H { D with nx:=R } I h) fun f s1 q=>?_)
  cases f with
  | next =>
    obtain ⟨σ',H',I',q⟩:=q
    exact h2 pins s1 σ' H' D I' (hR σ' H' q)
  | ret v=>exact q
  | brk=>exact q
  | cont=>exact q
end L2
namespace L2
open PySem PySem.Spec PyProof.Rows PySem.W
section
variable {X:Cx}
end
section
variable {X:Cx}{pins:List (Addr×Obj)}{σ:St}{H:Hp}{s:Shared}
theorem Inv.poked {ch:List Addr} {h':Heap} (I:Inv X pins σ H s) (k:∀ b o,b∉ch→s.heap.get? b=some o→h'.get? b=some o) (f:∀ b∈ch,FpOk X pins H b):Inv X pins σ H { s with heap:=h' }:=by
  refine I.call' (ch:=ch) rfl ⟨fun b o q _ _ hx=>k b o hx q,fun b o q _ _ hx=>⟨o.slots,k b o hx q⟩,fun b o q n _=>n,fun b o q hx=>⟨o,k b o hx q⟩,fun _ _ q=>q,fun _ _ _ q=>q,fun b ps q=>⟨#[],by rw [q];simp⟩⟩ (fun b ob q=>?_) I.bare fun b hb=>?_
  · refine (I.hok b ob q).stay (fun c v hc r=>k c v (fun z=>?_) r) (fun _ r=>r) fun _ _ r=>r
    have n:=(f c z).1
    rcases hc with w | w
    · rw [← w,n] at q;cases q
    · rw [n] at w;cases w
  · have fb:=f b hb
    exact ⟨fb.2.2.2.1,fb.2.1,fb.2.2.2.2.1,fb.2.2.2.2.2⟩
end
section
variable {X:Cx}{elts:List Expr}{k0}{tp:Pos}
end
end L2
namespace L2
open PySem PySem.Spec PyProof.Rows PySem.W
theorem ndp1 {a:Str}:[a].Nodup:=by simp
theorem ndp2 {a b:Str}(h:a≠b):[a,b].Nodup:=by simp [h]
theorem ndp3 {a b c:Str}(h1:a≠b) (h2:a≠c) (h3:b≠c):[a,b,c].Nodup:=by simp [h1,h2,h3]
structure Rows (H0 H:Hp) (as:List Addr) (rows:List (List Int)):Prop where
  len:as.length=rows.length
  nd:as.Nodup
  new:∀ a∈as,H0 a=none
  row:∀ (i:Nat) a r,as[i]?=some a→rows[i]?=some r→H a=some (.lst (r.map V.int))
  same:Same H0 H
theorem Rows.nil {H:Hp}:Rows H H [] []:=⟨rfl,List.nodup_nil,fun _ h=>(nomatch h),fun i a r h=>by simp at h,Same.refl H⟩
theorem Rows.at {H0 H:Hp}{as:List Addr}{rows:List (List Int)}(x:Rows H0 H as rows) {a:Addr}(h:a∈as):∃ o,H a=some o:=by
  obtain ⟨i,hi,e⟩:=List.getElem_of_mem h
  have h1:as[i]?=some a:=by rw [List.getElem?_eq_getElem hi,e]
  have hr:i < rows.length:=by rw [← x.len];exact hi
  exact ⟨_,x.row i a rows[i] h1 (List.getElem?_eq_getElem hr)⟩
theorem Rows.on {H0 H H':Hp}{as:List Addr}{rows:List (List Int)}(x:Rows H0 H as rows) (s:Same H H'):Rows H0 H' as rows :=
  ⟨x.len,x.nd,x.new,fun i a r h1 h2=>s _ _ (x.row i a r h1 h2),x.same.trans s⟩
theorem Rows.add {H0 H H1:Hp}{as:List Addr}{rows:List (List Int)}{q:Addr}{r:List Int}(x:Rows H0 H as rows) (s:Same H H1) (hq:H q=none) (h1:H1 q=some (.lst (r.map V.int))):Rows H0 H1 (as ++ [q]) (rows ++ [r]):=by
  refine ⟨by simp [x.len],List.nodup_append.mpr ⟨x.nd,by simp,fun a hm b hb=>?_⟩,fun a hm=>?_,fun i a r' e1 e2=>?_,x.same.trans s⟩
  · have:b=q:=by simpa using hb
    subst this
    obtain ⟨o,e⟩:=x.at hm
    exact ne_of_none e hq
  · rcases List.mem_append.mp hm with hm | hm
    · exact x.new a hm
    · have:a=q:=by simpa using hm
      subst this
      exact x.same.free hq
  · by_cases hi:i < as.length
    · rw [List.getElem?_append_left hi] at e1
      rw [List.getElem?_append_left (by rw [← x.len];exact hi)] at e2
      exact s _ _ (x.row i a r' e1 e2)
    · have hl:i < (as ++ [q]).length:=(List.getElem?_eq_some_iff.mp e1).1
      have:i=as.length:=by simp at hl;omega
      subst this
      rw [x.len] at e2
      simp at e1 e2
      subst e1 e2
      exact h1
theorem Rows.vol {H0 H:Hp}{as:List Addr}{rows:List (List Int)}{v:Addr}(x:Rows H0 H as rows) (hv:H v=none):Vol (upd H v (.lst (as.map V.ref))) v as rows :=
  ⟨upd_same,x.len,x.nd,fun i a r e1 e2=>(Same.upd0 hv) _ _ (x.row i a r e1 e2)⟩
theorem Vol.off {H:Hp}{v b:Addr}{as:List Addr}{rows:List (List Int)}{o:HO}(x:Vol H v as rows) (n1:b∉as) (n2:b≠v):Vol (upd H b o) v as rows :=
  ⟨by rw [upd_ne (Ne.symm n2)];exact x.top,x.len,x.nd,fun i a r e1 e2=>by rw [upd_ne (fun z=>n1 (by rw [← z];exact List.mem_of_getElem? e1))];exact x.row i a r e1 e2⟩
end L2
namespace L2
open PySem PySem.Spec PyProof.Rows PySem.W
section
variable {X:Cx}
end
end L2
namespace L2
open PySem PySem.Spec PyProof.Rows PySem.W
section
variable {X:Cx}{CX:CXT}{k:Nat}{D:Addr→Prop}{sp:Addr→Sp}{dvs:List V}{ds:List Value}{E:XK}{m:Str}{pos apos:Pos}{e o:Expr}{es:List Expr}{ta:TE}{t:TA}
end
end L2
namespace PySem
open Sem (wp)
open AutoSeq1 (wpAny_loadPart')
section
variable {prog:Program}{w:World}{A:Around}{E:Value→Shared→Prop}{s:Shared}
end
end PySem
namespace L2
open PySem PySem.Spec PyProof.Rows PySem.W
section
variable {X:Cx}{elts:List Expr}{k0}{tp:Pos}
end
end L2
namespace L2
open PySem PySem.Spec PyProof.Rows PySem.W
section
variable {X:Cx}
end
end L2
namespace L2
open PySem PySem.Spec PyProof.Rows PySem.W
theorem KV.at {kvs:List (Key×V)}{vs:List (Key×Value)}(r:KV kvs vs):∀ {i:Nat}{k:Key}{x:V},kvs[i]?=some (k,x)→∃ u,vs[i]?=some (k,u)∧RelV x u:=by
  induction r with
  | nil=>intro i k x e;simp at e
  | @cons a b l1 l2 h t ih =>
    intro i k x e
    match i with
    | 0 =>
      rw [List.getElem?_cons_zero] at e
      cases e
      obtain ⟨h1,h2⟩:=h
      exact ⟨b.2,by rw [List.getElem?_cons_zero];exact congrArg some (Prod.ext h1.symm rfl),h2⟩
    | i + 1 =>
      rw [List.getElem?_cons_succ] at e
      obtain ⟨u,h1,h2⟩:=ih e
      exact ⟨u,by rw [List.getElem?_cons_succ];exact h1,h2⟩
section
variable {X:Cx}{elts:List Expr}{k0}{tp:Pos}
end
end L2
namespace PySem
open Sem (wp)
open PySem.Spec PyProof.Rows
section
variable {prog:Program}{w:World}{K:Type} [DecidableEq K] {knd:KeyKind prog w K}{A:Around}{E:Value→Shared→Prop}{s:Shared}
end
end PySem
namespace L2
open PySem PySem.Spec PyProof.Rows PySem.W
section
variable {X:Cx}
end
end L2
namespace L2
open PySem PySem.Spec PyProof.Rows
theorem int_ne {a b:Int}(h:¬ a=b):¬ (V.int a=V.int b):=fun z=>h (by injection z)
end L2
namespace L2
open PySem PySem.Spec PyProof.Rows PySem.W
section
variable {X:Cx}
end
section
variable {prog:Program}{w:World}{A:Around}{E:Value→Shared→Prop}
theorem draw_list {it t:Addr}{items:Array Value}(hne:t≠it):∀ (n i:Nat) (s:Shared) (Q:List Value→Shared→Prop),s.heap.IsListIter it t i→s.heap.IsList t items→i + n≤items.size →
    (∀ h',Heap.IsListIter h' it t (i + n)→Heap.SameBut it s.heap h'→Q ((items.toList.drop i).take n) { s with heap:=h' })→wpAny (model prog w) A (draw (.ref it) n) Q E s
  | 0,i,s,Q,hit,_,_,hQ=>by
    show wpAny _ _ (pure []) Q E s
    exact wpAny_pure (by simpa using hQ s.heap hit (Heap.SameBut.refl ..))
  | n + 1,i,s,Q,hit,ht,hle,hQ=>by
    have hlt:i < items.size:=by omega
    show wpAny _ _ (pyNext (.ref it) >>= _) Q E s
    refine wpAny_bind (wpAny_pyNext_list_item hit ht (x:=items[i]) (by simp [hlt]) fun h₁ hit₁ hs₁=>?_)
    refine wpAny_bind (wpAny_holding (draw_list hne n (i + 1) _ _ hit₁ (ht.extBut hs₁.extBut hne) (by omega) fun h₂ hit₂ hs₂=>wpAny_pure ?_))
    have hd:items.toList.drop i=items[i] :: items.toList.drop (i + 1):=by simp [List.drop_eq_getElem_cons,hlt]
    have:=hQ h₂ (by rw [show i + (n + 1)=i + 1 + n by omega];exact hit₂) (hs₁.trans hs₂)
    rw [hd,List.take_succ_cons] at this
    exact this
theorem unpackItems_list {s:Shared}{t:Addr}{items:Array Value}{Q:List Value→Shared→Prop}(hh:A.handled=none) (ht:s.heap.IsList t items)
    (hQ:∀ h',Heap.ExtBut s.heap.objs.size s.heap h'→Q items.toList { s with heap:=h' }):wpAny (model prog w) A (unpackItems (.ref t) items.size none) Q E s:=by
  have hlt:t≠s.heap.objs.size:=by obtain ⟨o,ho,_⟩:=ht;exact Nat.ne_of_lt (Heap.lt_size ho)
  unfold unpackItems
  refine wpAny_bind ?_
  · unfold notIterableAtAll
    refine wpAny_bind (wpAny_specialOf ht.typeIs slot_list_iter.lookup ?_)
    refine wpAny_pure ?_
    simp only [Bool.false_eq_true,if_false]
    refine wpAny_bind (wpAny_holding (wpAny_pyIter_list ht ?_))
    refine wpAny_bind (wpAny_holding (draw_list hlt items.size 0 _ _ ⟨_,Heap.get?_push_size _ rfl,rfl,rfl⟩ (ht.push _) (by omega) fun h₁ hit₁ hs₁=>?_))
    have hall:List.take items.size (List.drop 0 items.toList)=items.toList:=by
      rw [List.drop_zero];exact List.take_of_length_le (by simp)
    rw [hall]
    rw [if_neg (by simp)]
    have ht₁:Heap.IsList h₁ t items:=(ht.push _).extBut hs₁.extBut hlt
    refine wpAny_bind (wpAny_holding (wpAny_pyNext_list_end hh hit₁ ht₁ (by simp) fun h₂ he₂=>?_))
    simp only [Option.isSome_none,Bool.false_eq_true,if_false]
    refine wpAny_pure (hQ h₂ fun b o hb e=>he₂ b o hb (hs₁.extBut b o hb (Heap.get?_push_of_some _ e)))
theorem assign_Tuple_list {s:Shared}{env:Env}{elts:List Expr}{x1}{pos:Pos}{t:Addr}{items:Array Value}{Q:Unit→Shared→Prop}(hh:A.handled=none) (ht:s.heap.IsList t items)
    (hn:(assignEach elts env).length=items.size) (hstar:(assignEach elts env).findIdx? (·.1)=none)
    (h:∀ h',Heap.ExtBut s.heap.objs.size s.heap h'→wpAny (model prog w) A (assignInOrder ((assignEach elts env).map (·.2)) items.toList) Q E { s with heap:=h' }) :
    wpAny (model prog w) A (assign (.Tuple elts x1 pos) env (.ref t)) Q E s:=by
  rw [assign_Tuple]
  refine wpAny_bind (wpAny_standAt ?_)
  unfold unpack
  rw [hn,hstar]
  exact wpAny_bind (wpAny_holding (unpackItems_list hh ht h))
end
section
variable {X:Cx}{pos:Pos}
def gTupL (K:PySem.W.Frag) (n:Nat) (t:TGs):TG:=fun v σ H Q=>∃ a xs,v=.ref a∧SqL K H a xs∧xs.length=n∧t xs σ H Q
theorem pg_tupL {es:List Expr}{k:Nat}{t:TGs}{n:Nat}(hc:X.calm=true) (h:PGs X es t)
    (hn:(assignEach es X.env).length=n:=by rfl) (hst:(assignEach es X.env).findIdx? (·.1)=none:=by rfl):PG X (.Tuple es k pos) (gTupL X.K n t):=by
  intro pins s σ H v u Q I r hw
  obtain ⟨a,xs,e1,hq,hl,hw⟩:=hw
  subst e1
  cases r
  obtain ⟨its,rv,ht,hz⟩:=I.list hq
  refine assign_Tuple_list (I.ok.hd hc) ht.isList (by simp [hn,← hl,rv.length]) hst fun h' hx=>?_
  have I1:Inv X pins σ H { s with heap:=h' }:=I.kept (t':=s.toks) fun b o e=>hx b o (Nat.ne_of_lt (Heap.lt_size e)) e
  exact h pins _ σ H xs _ Q I1 (by simpa using rv) hw
end
end L2
namespace L2
open PySem PySem.Spec PyProof.Rows PySem.W
section
variable {X:Cx}{tg:Expr}
end
end L2
namespace L2
open PySem PySem.Spec PyProof.Rows PySem.W
variable {X:Cx}
end L2
namespace L2
open PySem PySem.Spec PyProof.Rows PySem.W
section
variable {X:Cx}
end
end L2
namespace L2
open PySem PySem.Spec PyProof.Rows PySem.W
def Its (x:Str):It:=⟨fun i _=>i < x.cps.toList.length,fun i H v H'=>H'=H∧∃ c,x.cps.toList[i]?=some c∧v=.str ⟨#[c]⟩,fun i _=>x.cps.toList.length≤i⟩
theorem turn_strA {P:Program}{w:World}{K:PySem.W.Frag}{tg:Expr}(it:Addr) (x:Str) (t:Tok):Turn P w K tg (Its x) [it] it (fun i h=>h.IsStrIter it "str_ascii_iterator" x t i) where
  mem:=by simp
  obj:=fun i h st c hc=>by
    obtain ⟨o,h1,_,h3⟩:=st
    have hc:c=it:=by simpa using hc
    subst hc
    exact ⟨o,h1,fun v q=>by rw [h3] at q;cases q⟩
  keep:=fun i h h' st k=>by
    obtain ⟨o,h1,h2⟩:=st
    exact ⟨o,k it (by simp) _ h1,h2⟩
  item:=by
    intro X hP hw hK hc i pins s σ H E I hf st hg
    subst hP hw hK
    have hx:x.cps.toList[i]?=some x.cps.toList[i]:=List.getElem?_eq_getElem hg
    refine wpAny_pyNext_ascii_item st (by rw [← Array.getElem?_toList];exact hx) fun h' hit' sb=>⟨_,rfl,?_⟩
    obtain ⟨o,g1,g2,g3⟩:=id hit'
    refine go_of (s:={ s with heap:=h',toks:=s.toks + 1 }) g1 g2 g3 (by decide) ?_
    have k2:∀ c o,c∉[it]→s.heap.get? c=some o→h'.get? c=some o:=fun c o hc q=>by
      have hc:¬ c=it:=by simpa using hc
      exact (sb.2 c hc).trans q
    exact ⟨.str ⟨#[x.cps.toList[i]]⟩,H,(I.poked k2 fun c hc=>hf c (by simpa using hc)).tok _,⟨_,rfl⟩,⟨rfl,_,hx,rfl⟩,hit',fun c hc=>(hf c hc).1⟩
  done:=by
    intro X hP hw hK hc i pins s σ H E I hf st hg
    subst hP hw hK
    exact wpAny_pyNext_ascii_end (I.ok.hd hc) st (by rw [← Array.getElem?_toList];exact List.getElem?_eq_none hg) fun g hk=>⟨rfl,I.poked (ch:=[it]) (fun c o hc q=>hk c o (by simpa using hc) q) fun c hc=>hf c (by simpa using hc)⟩
  self:=fun _ _ _ _ _ st h=>wpAny_pyIter_striter_ascii st h
theorem turn_strW {P:Program}{w:World}{K:PySem.W.Frag}{tg:Expr}(it:Addr) (x:Str) (t:Tok):Turn P w K tg (Its x) [it] it (fun i h=>h.IsStrIter it "str_iterator" x t i) where
  mem:=by simp
  obj:=fun i h st c hc=>by
    obtain ⟨o,h1,_,h3⟩:=st
    have hc:c=it:=by simpa using hc
    subst hc
    exact ⟨o,h1,fun v q=>by rw [h3] at q;cases q⟩
  keep:=fun i h h' st k=>by
    obtain ⟨o,h1,h2⟩:=st
    exact ⟨o,k it (by simp) _ h1,h2⟩
  item:=by
    intro X hP hw hK hc i pins s σ H E I hf st hg
    subst hP hw hK
    have hx:x.cps.toList[i]?=some x.cps.toList[i]:=List.getElem?_eq_getElem hg
    refine wpAny_pyNext_wide_item st (by rw [← Array.getElem?_toList];exact hx) fun h' hit' sb=>⟨_,rfl,?_⟩
    obtain ⟨o,g1,g2,g3⟩:=id hit'
    refine go_of (s:={ s with heap:=h',toks:=s.toks + 1 }) g1 g2 g3 (by decide) ?_
    have k2:∀ c o,c∉[it]→s.heap.get? c=some o→h'.get? c=some o:=fun c o hc q=>by
      have hc:¬ c=it:=by simpa using hc
      exact (sb.2 c hc).trans q
    exact ⟨.str ⟨#[x.cps.toList[i]]⟩,H,(I.poked k2 fun c hc=>hf c (by simpa using hc)).tok _,⟨_,rfl⟩,⟨rfl,_,hx,rfl⟩,hit',fun c hc=>(hf c hc).1⟩
  done:=by
    intro X hP hw hK hc i pins s σ H E I hf st hg
    subst hP hw hK
    exact wpAny_pyNext_wide_end (I.ok.hd hc) st (by rw [← Array.getElem?_toList];exact List.getElem?_eq_none hg) fun g hk=>⟨rfl,I.poked (ch:=[it]) (fun c o hc q=>hk c o (by simpa using hc) q) fun c hc=>hf c (by simpa using hc)⟩
  self:=fun _ _ _ _ _ st h=>wpAny_pyIter_striter_wide st h
def iText (tl:TE):TI:=fun σ H R=>tl σ H fun x H1=>∃ z,x=.str z∧R (Its z) H1
section
variable {X:Cx}{tg:Expr}
theorem pi_text {l:Expr}{tl:TE}(hl:PE X l tl):PI X tg l (iText tl):=by
  intro pins s σ H R I h
  refine thn (hl pins s σ H _ I h) fun v s1 ⟨x,H1,I1,r1,z,ex,q⟩=>?_
  subst ex
  obtain ⟨t,rfl⟩:=r1
  have fp:∀ b∈[s1.heap.objs.size],FpOk X pins H1 b:=fun b hb=>by
    have e:b=s1.heap.objs.size:=by simpa using hb
    subst e
    exact I1.fpOk (Nat.le_refl _) (I1.hok.fresh (Nat.le_refl _))
  cases ha:z.cps.all (· < 128)
  · refine wpAny_pyIter_wide ha ?_
    exact ⟨s1.heap.objs.size,[s1.heap.objs.size],_,_,H1,rfl,I1.kept (t':=s1.toks) fun b o e=>Heap.get?_push_of_some _ e,turn_strW _ z t,⟨_,Heap.get?_push_size _ rfl,rfl,rfl⟩,fp,q⟩
  · refine wpAny_pyIter_ascii ha ?_
    exact ⟨s1.heap.objs.size,[s1.heap.objs.size],_,_,H1,rfl,I1.kept (t':=s1.toks) fun b o e=>Heap.get?_push_of_some _ e,turn_strA _ z t,⟨_,Heap.get?_push_size _ rfl,rfl,rfl⟩,fp,q⟩
end
theorem comp_text {x:Str}{cap:List (Option Nat)}{g:TG}{tt:TT}{te:TE}{σ:St}{H:Hp}{Q:VK}(hm:x.cps.toList.length≤sizeLine) (Pv:Nat→List V→St→Hp→Prop) (h0:Pv 0 [] (capS cap σ) H)
    (hl:∀ i ys σ H,Pv i ys σ H→i≤x.cps.toList.length∧ys.length≤i)
    (hs:∀ i c ys σ H,x.cps.toList[i]?=some c→Pv i ys σ H→g (.str ⟨#[c]⟩) σ H fun σ2 H2=>tt σ2 H2 fun b H3=>if b=true then te σ2 H3 fun v H4=>Pv (i + 1) (ys ++ [v]) σ2 H4 else Pv (i + 1) ys σ2 H3)
    (hd:∀ ys σ H,Pv x.cps.toList.length ys σ H→∀ D,H D=none→Q (.ref D) (upd H D (.lst ys))) :
    CompR cap g tt te σ Q (Its x) H:=by
  refine ⟨x.cps.toList.length,Pv,hm,h0,fun i ys σ' H p=>?_⟩
  obtain ⟨h1,h2⟩:=hl i ys σ' H p
  refine ⟨h1,h2,?_⟩
  by_cases hi:i < x.cps.toList.length
  · refine .inr ⟨hi,hi,fun v H' ⟨eH,c,hc,ev⟩=>?_⟩
    subst eH ev
    exact hs i c ys σ' _ hc p
  · have e:i=x.cps.toList.length:=by omega
    subst e
    exact .inl ⟨Nat.le_refl _,fun D hD=>hd ys σ' H p D hD⟩
def rSlS:V→Option Int→Option Int→Hp→VK→Prop:=fun x lo hi H Q=>∃ z,x=.str z∧z.length≤sizeLine∧Q (.str (Txt.slice z lo hi)) H
section
variable {X:Cx}
theorem sl_str:SlR X rSlS:=by
  intro pins s σ H x v vl vu lo hi sl Q I rx hs pl pu h
  obtain ⟨z,rfl,hz,q⟩:=h
  obtain ⟨t,rfl⟩:=rx
  refine ⟨"str",_,F.slot_str_getitem.lookup,typeIs_str _ _ _,?_⟩
  cases pl with
  | none =>
    cases pu with
    | none=>exact wpAny_getItem_str_slice (l:=none) (u:=none) (st:=none) hs rfl (post_val_or_str ⟨Nat.le_trans (Txt.slice_le z _ _) hz,fun t' k=>⟨.str (Txt.slice z none none),H,I.tok k,⟨_,rfl⟩,q⟩⟩)
    | int j uj=>exact wpAny_getItem_str_slice (l:=none) (u:=some (j,uj)) (st:=none) hs rfl (post_val_or_str ⟨Nat.le_trans (Txt.slice_le z _ _) hz,fun t' k=>⟨.str (Txt.slice z none (some j)),H,I.tok k,⟨_,rfl⟩,q⟩⟩)
  | int i ui =>
    cases pu with
    | none=>exact wpAny_getItem_str_slice (l:=some (i,ui)) (u:=none) (st:=none) hs rfl (post_val_or_str ⟨Nat.le_trans (Txt.slice_le z _ _) hz,fun t' k=>⟨.str (Txt.slice z (some i) none),H,I.tok k,⟨_,rfl⟩,q⟩⟩)
    | int j uj=>exact wpAny_getItem_str_slice (l:=some (i,ui)) (u:=some (j,uj)) (st:=none) hs rfl (post_val_or_str ⟨Nat.le_trans (Txt.slice_le z _ _) hz,fun t' k=>⟨.str (Txt.slice z (some i) (some j)),H,I.tok k,⟨_,rfl⟩,q⟩⟩)
theorem vals_strs (ys:List Str):∀ {us:List Value},Vals (ys.map V.str) us→∃ l:List (Str×Tok),us=PySem.strValues l∧l.map (·.1)=ys:=by
  induction ys with
  | nil =>
    intro us r
    rw [List.map_nil] at r
    cases r
    exact ⟨[],rfl,rfl⟩
  | cons y ys ih =>
    intro us r
    rw [List.map_cons] at r
    cases r with
    | cons r1 r2 =>
      obtain ⟨t,rfl⟩:=r1
      obtain ⟨l,rfl,rfl⟩:=ih r2
      exact ⟨(y,t) :: l,rfl,rfl⟩
theorem strs_vals:∀ (l:List (Str×Tok)),Vals ((l.map (·.1)).map V.str) (PySem.strValues l)
  | []=>.nil
  | (y,t) :: l=>.cons ⟨t,rfl⟩ (strs_vals l)
theorem mt_startswith:MtR X "str.startswith" (fun x xs H Q=>∃ z y,x=.str z∧xs=[.str y]∧Q (.bl (Txt.startswith z y)) H):=by
  intro pins s σ H x xs v us Q I rx rs h
  obtain ⟨z,y,rfl,rfl,q⟩:=h
  obtain ⟨t,rfl⟩:=rx
  obtain ⟨u,rfl,t',rfl⟩:=vals1 rs
  exact SC.startswith ⟨.bl (Txt.startswith z y),H,I,rfl,q⟩
theorem mt_join:MtR X "str.join" (fun x xs H Q=>∃ sep p ys,x=.str sep∧xs=[.ref p]∧SqL X.K H p (ys.map V.str)∧JoinOk sep ys=true∧Q (.str (Str.join sep ys)) H):=by
  intro pins s σ H x xs v us Q I rx rs h
  obtain ⟨sep,p,ys,rfl,rfl,hq,hok,q⟩:=h
  obtain ⟨t,rfl⟩:=rx
  obtain ⟨u,rfl,ru⟩:=vals1 rs
  cases ru
  obtain ⟨its,rv,pl,hz⟩:=I.list hq
  obtain ⟨l,rfl,rfl⟩:=vals_strs ys rv
  refine SC.join pl.isList rfl hok fun t' k=>?_
  have e:Txt.join sep (l.map (·.1))=Str.join sep (l.map (·.1)):=StrLaws.glued_eq_join sep _
  rw [e]
  exact ⟨.str (Str.join sep (l.map (·.1))),H,I.tok k,⟨_,rfl⟩,q⟩
theorem mt_joinK {K:PySem.W.Frag}(h:X.K=K):MtR X "str.join" (fun x xs H Q=>∃ sep p ys,x=.str sep∧xs=[.ref p]∧SqL K H p (ys.map V.str)∧JoinOk sep ys=true∧Q (.str (Str.join sep ys)) H):=by subst h;exact mt_join
theorem pe_bmK {K:PySem.W.Frag}{o e:Expr}{es:List Expr}{to:TE}{t:TA}{name:Str}{apos cpos:Pos}{T id:String}{r:V→List V→Hp→VK→Prop}(h:X.K=K) (pa:PlainAttrs T) (slot:Slot T name id) (hty:typeOf (.builtin id)=pure (.type "method_descriptor")) (hm:MtR X id r) (ho:PE X o to) (ha:PA X (e :: es) t)
    (hbase:attributeBase o name X.env (eval o X.env)=eval o X.env:=by rfl)
    (hfew:((backTo cpos (starEach (e :: es) X.env)).all (fun x=>!x.1) && (backToKw cpos (keywordEach [] X.env)).all (fun x=>x.1.isSome)
      && decide ((e :: es).length + ([]:List Keyword).length + (if ([]:List Keyword).isEmpty then 0 else 1) < 30))=true:=by rfl)
    (hline:(apos.endLine == cpos.line)=true:=by rfl) (hs:starEach (e :: es) X.env=(false,eval e X.env) :: starEach es X.env:=by rfl) (hplain:(backTo cpos (starEach es X.env)).any (·.1)=false:=by rfl) :
    PE X (.Call (.Attribute o name apos) (e :: es) [] cpos) (tBM K T r to t):=by subst h;exact pe_bm pa slot hty hm ho ha hbase hfew hline hs hplain
theorem joinOk_of {sep:Str}{ys:List Str}{B:Nat}(hB:∀ y∈ys,y.length≤B) (h:ys.length * B + ys.length * sep.length≤16777216):JoinOk sep ys=true:=by
  unfold JoinOk
  rw [StrLaws.joinFits hB h]
  rfl
theorem split_le (x:Str) (c:Nat):(Txt.split x ⟨#[c]⟩).length≤x.length + 2:=by
  unfold Txt.split
  split
  · show 1≤_;omega
  · split
    · show 1≤_;omega
    · rw [len_partsBetween]
      have:=StrLaws.occ_length_le x ⟨#[c]⟩ 0 x.length (x.length + 1)
      omega
theorem mt_split:MtR X "str.split" (fun x xs H Q=>∃ z y c,x=.str z∧xs=[.str y]∧y=⟨#[c]⟩∧z.length + 2≤sizeLine∧∀ l,H l=none→Q (.ref l) (upd H l (.lst ((Txt.split z ⟨#[c]⟩).map V.str)))):=by
  intro pins s σ H x xs v us Q I rx rs h
  obtain ⟨z,y,c,rfl,rfl,rfl,hz,q⟩:=h
  obtain ⟨t,rfl⟩:=rx
  obtain ⟨u,rfl,t',rfl⟩:=vals1 rs
  have hp:(Builtin.Str.partsBetween z (Builtin.Str.occurrences z ⟨#[c]⟩ 0 z.length (z.length + 1)) (⟨#[c]⟩:Str).length).length≤sizeLine:=by
    rw [len_partsBetween]
    have:=StrLaws.occ_length_le z ⟨#[c]⟩ 0 z.length (z.length + 1)
    omega
  have fin:∀ (l:List (Str×Tok)) (k:Nat),l.map (·.1)=Txt.split z ⟨#[c]⟩→EP X pins σ Q (.ref s.heap.objs.size) { s with heap:=s.heap.push { cls:=.type "list",data:=.seq (PySem.strValues l).toArray },toks:=k }:=fun l k e=>by
    refine ⟨.ref s.heap.objs.size,_,I.lnew (ys:=(Txt.split z ⟨#[c]⟩).map V.str) (t':=k) (by rw [← e];exact strs_vals l) ?_,rfl,q _ I.fresh⟩
    rw [List.length_map]
    exact Nat.le_trans (split_le z c) hz
  have hy:((⟨#[c]⟩:Str).length == 0)=false:=rfl
  cases h1:(decide (z.length < (⟨#[c]⟩:Str).length) || decide (Builtin.Str.strKind z < Builtin.Str.strKind ⟨#[c]⟩))
  · cases hf:(Builtin.Str.occurrences z ⟨#[c]⟩ 0 z.length (z.length + 1)).isEmpty
    · refine call_meets F.slot_str_split (typeIs_str _ _ _) F.entry_str_split (F.args_str_split_2 _ _) (meets_str_split_sep z ⟨#[c]⟩ t t' h1 hy hf (by omega) hp) ?_
      show wants _ _ _ { s with toks:=_,heap:=s.heap.push { cls:=.type "list",data:=.seq (strsFrom s.toks (Builtin.Str.partsBetween z (Builtin.Str.occurrences z ⟨#[c]⟩ 0 z.length (z.length + 1)) (⟨#[c]⟩:Str).length)).toArray } }
      rw [strsFrom_eq]
      exact fin (numbered s.toks _) _ ((numbered_texts _ _).trans ((if_neg (ne_true_of_eq_false h1)).trans (if_neg (ne_true_of_eq_false hf))).symm)
    · exact call_meets F.slot_str_split (typeIs_str _ _ _) F.entry_str_split (F.args_str_split_2 _ _) (meets_str_split_not_found z ⟨#[c]⟩ t t' h1 hy hf)
        (fin [(z,t)] s.toks ((if_neg (ne_true_of_eq_false h1)).trans (if_pos hf)).symm)
  · exact call_meets F.slot_str_split (typeIs_str _ _ _) F.entry_str_split (F.args_str_split_2 _ _) (meets_str_split_cannot_occur z ⟨#[c]⟩ t t' h1)
      (fin [(z,t)] s.toks (if_pos h1).symm)
theorem call_intText:CallR X (.type "int") (fun xs H Q=>∃ z n,xs=[.str z]∧z.length≤640∧PySem.intText? z=some n∧Q (.int n) H):=by
  intro pins s σ H xs us Q I rs h
  obtain ⟨z,n,rfl,hz,hn,q⟩:=h
  obtain ⟨u,rfl,t,rfl⟩:=vals1 rs
  exact KIN.call_text hn hz ⟨.int n,H,I.tok _,⟨_,rfl⟩,q⟩
end
theorem starts_one (x:Str) (c:Nat):Txt.startswith x ⟨#[c]⟩=decide (x.cps.toList.head?=some c):=by
  obtain ⟨⟨l⟩⟩:=x
  unfold Txt.startswith Builtin.Str.subAt
  cases l with
  | nil=>rfl
  | cons d r =>
    have e:(⟨(⟨d :: r⟩:Array Nat)⟩:Str).cps.extract 0 (0 + (⟨#[c]⟩:Str).length)=#[d]:=by
      show (⟨d :: r⟩:Array Nat).extract 0 1=#[d]
      simp
    rw [e]
    show (decide (0 + 1≤(⟨d :: r⟩:Array Nat).size) && (#[d] == #[c]))=decide (some d=some c)
    rw [decide_eq_true (by simp),Bool.true_and]
    by_cases h:d=c
    · subst h;simp
    · rw [decide_eq_false (by simpa using h)]
      simpa using h
theorem slice_one {x:Str}(h:1≤x.length):(Txt.slice x (some 1) none).cps.toList=x.cps.toList.drop 1:=by
  rw [PyProof.Rows.slice_from_eq (x:=x) (i:=1) (b:=(x.length:Int)) (by decide) (by omega) rfl]
  show ((x.cps.toList.drop 1).take ((x.length:Int) - 1).toNat)=_
  refine List.take_of_length_le ?_
  have:x.cps.toList.length=x.length:=Array.length_toList
  rw [List.length_drop]
  omega
theorem cut_from (xs:List V) (k:Nat):cutV xs (some (k:Int)) none=xs.drop k:=by
  unfold cutV
  rw [HT.sIx_nat,HT.sIx_none]
  by_cases h:k≤xs.length
  · rw [Nat.min_eq_left h]
    exact List.take_of_length_le (by rw [List.length_drop];omega)
  · rw [Nat.min_eq_right (by omega),List.drop_of_length_le (Nat.le_refl _),List.drop_of_length_le (by omega)]
    simp
theorem cut_at (xs:List V) (k n:Nat):cutV xs (some (k:Int)) (some (n:Int))=(xs.take n).drop k:=by
  unfold cutV
  rw [HT.sIx_nat,HT.sIx_nat]
  apply List.ext_getElem?
  intro i
  rw [List.getElem?_take,List.getElem?_drop,List.getElem?_drop,List.getElem?_take]
  by_cases h1:k≤xs.length
  · have hm:min k xs.length=k:=Nat.min_eq_left h1
    rw [hm]
    by_cases h2:k + i < n
    · rw [if_pos h2]
      by_cases h3:k + i < xs.length
      · rw [if_pos (by omega)]
      · rw [List.getElem?_eq_none (by omega)];simp
    · rw [if_neg h2,if_neg (by omega)]
  · have hm:min k xs.length=xs.length:=Nat.min_eq_right (by omega)
    rw [hm]
    rw [List.getElem?_eq_none (l:=xs) (i:=k + i) (by omega),List.getElem?_eq_none (l:=xs) (i:=xs.length + i) (by omega)]
    simp
theorem join_codes (c:Nat) (x y:Str) (r:List Str):(Str.join ⟨#[c]⟩ (x :: y :: r)).cps.toList=x.cps.toList ++ c :: (Str.join ⟨#[c]⟩ (y :: r)).cps.toList:=by
  show (x ++ ⟨#[c]⟩ ++ Str.join ⟨#[c]⟩ (y :: r)).cps.toList=_
  rw [Str.cps_append,Str.cps_append]
  simp
theorem str_ext {x y:Str}(h:x.cps.toList=y.cps.toList):x=y:=PyProof.Rows.ext_toList h
theorem split_ne (x:Str) (c:Nat):Txt.split x ⟨#[c]⟩≠[]:=by
  unfold Txt.split
  split
  · simp
  · split
    · simp
    · intro z
      have:=len_partsBetween x (Builtin.Str.occurrences x ⟨#[c]⟩ 0 x.length (x.length + 1)) (⟨#[c]⟩:Str).length
      rw [z] at this
      simp at this
open PySem.NumText
def figs:List Nat→List Nat
  | 45 :: r=>r
  | l=>l
def dig (c:Nat):Bool:=decide (48≤c) && decide (c≤57)
def isW (l:List Nat):Bool:=decide (1≤(figs l).length) && decide ((figs l).length≤40) && (figs l).all dig && (decide (l=[48]) || !decide ((figs l).head?=some 48))
def numV:List Nat→Int
  | 45 :: r=>-((digitsVal r:Nat):Int)
  | l=>((digitsVal l:Nat):Int)
theorem figs_pos {l:List Nat}(h:l.head?≠some 45):figs l=l:=by
  unfold figs
  split
  · exact absurd rfl h
  · rfl
theorem numV_pos {l:List Nat}(h:l.head?≠some 45):numV l=((digitsVal l:Nat):Int):=by
  unfold numV
  split
  · exact absurd rfl h
  · rfl
theorem all_dig {l:List Nat}(h:l.all dig=true):AllDigits l:=fun c hc=>by
  have:=List.all_eq_true.mp h c hc
  unfold dig at this
  rw [Bool.and_eq_true] at this
  exact ⟨of_decide_eq_true this.1,of_decide_eq_true this.2⟩
theorem dig_all {l:List Nat}(h:AllDigits l):l.all dig=true:=List.all_eq_true.mpr fun c hc=>by
  unfold dig
  rw [Bool.and_eq_true]
  exact ⟨decide_eq_true (h c hc).1,decide_eq_true (h c hc).2⟩
theorem isW_cases {l:List Nat}(h:isW l=true):(l.head?≠some 45∧AllDigits l∧l≠[]∧l.length≤40∧(l.length=1∨∃ c r,l=c :: r∧49≤c))∨(∃ r,l=45 :: r∧AllDigits r∧r≠[]∧r.length≤40∧∃ c q,r=c :: q∧49≤c):=by
  unfold isW at h
  rw [Bool.and_eq_true,Bool.and_eq_true,Bool.and_eq_true,Bool.or_eq_true] at h
  obtain ⟨⟨⟨h1,h2⟩,h3⟩,h4⟩:=h
  have h1:=of_decide_eq_true h1
  have h2:=of_decide_eq_true h2
  have h3:=all_dig h3
  by_cases hm:l.head?=some 45
  · obtain ⟨r,rfl⟩:∃ r,l=45 :: r:=by
      cases l with
      | nil=>cases hm
      | cons c r=>cases hm;exact ⟨r,rfl⟩
    have h1:1≤r.length:=h1
    have h2:r.length≤40:=h2
    have h3:AllDigits r:=h3
    refine .inr ⟨r,rfl,h3,fun z=>by rw [z] at h1;simp at h1,h2,?_⟩
    cases r with
    | nil=>simp at h1
    | cons c q =>
      refine ⟨c,q,rfl,?_⟩
      have hc:=h3.head
      rcases h4 with h4 | h4
      · exact absurd (of_decide_eq_true h4) (by simp)
      · have:¬ c=48:=fun z=>by
          subst z
          have h4:(!decide (some 48=some 48))=true:=h4
          simp at h4
        omega
  · rw [figs_pos hm] at h1 h2 h3 h4
    refine .inl ⟨hm,h3,fun z=>by rw [z] at h1;simp at h1,h2,?_⟩
    rcases h4 with h4 | h4
    · exact .inl (by rw [of_decide_eq_true h4];rfl)
    · cases l with
      | nil=>simp at h1
      | cons c q =>
        refine .inr ⟨c,q,rfl,?_⟩
        have hc:=h3.head
        have:¬ c=48:=fun z=>by
          subst z
          simp at h4
        omega
theorem len_codes (x:Str):x.cps.toList.length=x.length:=Array.length_toList
theorem int_of_w {x:Str}(h:isW x.cps.toList=true):PySem.intText? x=some (numV x.cps.toList)∧x.length≤41:=by
  have hl:=len_codes x
  rcases isW_cases h with ⟨hm,hd,hn,h40,_⟩ | ⟨r,e,hd,hn,h40,_⟩
  · exact ⟨by rw [intText_digits hd hn (by omega),numV_pos hm],by omega⟩
  · have:x.length=r.length + 1:=by rw [← hl,e];rfl
    exact ⟨by rw [intText_neg e hd hn (by omega),e];rfl,by omega⟩
theorem ofNat_back:∀ c:Nat,c < 58→(Char.ofNat c).toNat=c:=by decide
theorem digits_back {l:List Nat}(hd:AllDigits l):(l.map Char.ofNat).map Char.toNat=l:=by
  rw [List.map_map]
  refine (List.map_congr_left fun c hc=>?_).trans (List.map_id l)
  exact ofNat_back c (by have:=hd c hc;omega)
theorem signs_neg (m:Nat):(Str.ofString (toString (Int.negSucc m))).cps.toList=45 :: (Nat.toDigits 10 (m + 1)).map Char.toNat:=by
  rw [signs_ofString]
  show ("-" ++ Nat.repr (m + 1):String).toList.map Char.toNat=_
  rw [String.toList_append,List.map_append,Nat.toList_repr]
  rfl
theorem back_of {l:List Nat}(hd:AllDigits l) (hn:l≠[]) (hh:l.length=1∨∃ c r,l=c :: r∧49≤c):(Nat.toDigits 10 (digitsVal l)).map Char.toNat=l:=by
  cases l with
  | nil=>exact absurd rfl hn
  | cons c q =>
    rw [toDigits_digitsVal q.length (c :: q) rfl hd (by
      rcases hh with hh | hh
      · exact .inl (by simpa using hh)
      · exact .inr hh),digits_back hd]
theorem str_of_w {x:Str}(h:isW x.cps.toList=true):Str.ofString (toString (numV x.cps.toList))=x:=by
  apply str_ext
  rcases isW_cases h with ⟨hm,hd,hn,h40,hh⟩ | ⟨r,e,hd,hn,h40,c,q,er,hc⟩
  · rw [numV_pos hm,KIN.signs_num,back_of hd hn hh]
  · rw [e]
    have hp:0 < digitsVal r:=by rw [er];exact digitsVal_pos hc
    obtain ⟨m,em⟩:∃ m,digitsVal r=m + 1:=⟨digitsVal r - 1,by omega⟩
    show (Str.ofString (toString (-((digitsVal r:Nat):Int)))).cps.toList=_
    rw [em]
    show (Str.ofString (toString (Int.negSucc m))).cps.toList=_
    rw [signs_neg,← em,back_of hd hn (.inr ⟨c,q,er,hc⟩)]
theorem num_codes {m:Nat}(h:m < 10 ^ 40):∃ l,(Nat.toDigits 10 m).map Char.toNat=l∧AllDigits l∧l≠[]∧l.length≤40∧digitsVal l=m∧(l=[48]∨l.head?≠some 48):=by
  have hd:AllDigits ((Nat.toDigits 10 m).map Char.toNat):=fun c hc=>by
    obtain ⟨ch,hch,e⟩:=List.mem_map.mp hc
    have r:=digit_range (Nat.isDigit_of_mem_toDigits (by decide) (by decide) hch)
    rw [← e]
    exact r
  have hv:=KIN.val_back m
  have h1:=toDigits_len_ge 10 m
  have h40:=PyProof.Rows.digits10_le (k:=40) (by decide) h
  have ha:=toDigits_all _ hd
  rw [hv] at ha
  refine ⟨_,rfl,hd,fun z=>?_,by rw [List.length_map];exact h40,hv,?_⟩
  · rw [List.map_eq_nil_iff.mp z] at h1
    exact absurd h1 (by decide)
  · generalize hcs:(Nat.toDigits 10 m).map Char.toNat=cs at *
    have hl:cs.length=(Nat.toDigits 10 m).length:=by rw [← hcs,List.length_map]
    cases cs with
    | nil=>exact .inr (by simp)
    | cons c r =>
      by_cases e:c=48
      · subst e
        refine .inl ?_
        rw [List.dropWhile_cons,if_pos (by rfl)] at ha
        have hk:(r.dropWhile (· == 48)).length≤r.length:=by
          have:=(List.dropWhile_sublist (fun x:Nat=>x == 48) (l:=r)).length_le
          exact this
        cases hr:r.dropWhile (· == 48) with
        | nil =>
          rw [hr] at ha
          rw [ha] at hl
          have:r=[]:=by
            cases r with
            | nil=>rfl
            | cons _ _=>simp at hl
          rw [this]
        | cons d q =>
          rw [hr] at ha hk
          rw [ha,List.length_map] at hl
          simp at hl hk
          omega
      · exact .inr (by simpa using e)
theorem w_of_int {n:Int}(h:n.natAbs < 10 ^ 40):isW (Str.ofString (toString n)).cps.toList=true∧numV (Str.ofString (toString n)).cps.toList=n:=by
  cases n with
  | ofNat m =>
    obtain ⟨l,e,hd,hn,h40,hv,hh⟩:=num_codes (m:=m) h
    have e2:(Str.ofString (toString (Int.ofNat m))).cps.toList=l:=(KIN.signs_num m).trans e
    rw [e2]
    have hm:l.head?≠some 45:=fun z=>by
      cases l with
      | nil=>cases z
      | cons c r=>cases z;have:=hd.head;omega
    refine ⟨?_,by rw [numV_pos hm,hv];rfl⟩
    unfold isW
    rw [figs_pos hm,dig_all hd,decide_eq_true (show 1≤l.length from List.length_pos_iff.mpr hn),decide_eq_true h40]
    rcases hh with hh | hh
    · rw [decide_eq_true hh];rfl
    · rw [decide_eq_false hh];simp
  | negSucc m =>
    obtain ⟨l,e,hd,hn,h40,hv,hh⟩:=num_codes (m:=m + 1) h
    have e2:(Str.ofString (toString (Int.negSucc m))).cps.toList=45 :: l:=(signs_neg m).trans (by rw [e])
    rw [e2]
    refine ⟨?_,by show -((digitsVal l:Nat):Int)=_;rw [hv];rfl⟩
    have hh2:l.head?≠some 48:=by
      rcases hh with hh | hh
      · subst hh
        have hv:digitsVal [48]=m + 1:=hv
        exact absurd hv (by show ¬ (0=m + 1);omega)
      · exact hh
    unfold isW
    show (decide (1≤l.length) && decide (l.length≤40) && l.all dig && (decide (45 :: l=[48]) || !decide (l.head?=some 48)))=true
    rw [dig_all hd,decide_eq_true (show 1≤l.length from List.length_pos_iff.mpr hn),decide_eq_true h40,decide_eq_false hh2]
    simp
theorem w_len {n:Int}(h:n.natAbs < 10 ^ 40):(Str.ofString (toString n)).length≤41:=(int_of_w (w_of_int h).1).2
theorem log_lt {n:Int}(h:n.natAbs < 10 ^ 40):n.natAbs.log2 < 1920:=by
  by_cases z:n.natAbs=0
  · rw [z];decide
  · exact (Nat.log2_lt z).mpr (Nat.lt_of_lt_of_le h (by
      have:(10:Nat) ^ 40≤2 ^ 136:=by decide
      exact Nat.le_trans this (Nat.pow_le_pow_right (by decide) (by decide))))
end L2
namespace L2
open PySem PyProof.Rows
abbrev calmed (A:Around):Around:={ A with handled:=none }
abbrev Cx.wild (X:Cx):Cx:={ X with calm:=false }
structure FnOkU (P:Program) (w:World) (K:PySem.W.Frag) (mg:Str→Option Value) (base:Heap) (k:Nat) (f:Addr) (fd:FuncData) (ps:List Str) (sp:Sp):Prop where
  len:∀ vs H Q E,sp vs H Q E→vs.length=ps.length
  run:∀ (A:Around) (outer:List Env) (s:Shared) (H:Hp) (args:Args) (us:List Value) (vs:List V) (Q:VK) (E:XK),Room k (calmed A)→Env0 P w K mg base A outer s H→BindsTo s fd args (ps.zip us)→Vals vs us→sp vs H Q E →
    codeAny (model P w) A (.call (.ref f) args) (CR CX0 outer P w H s Q E) s
theorem Env0.mark {P:Program}{w:World}{K:PySem.W.Frag}{mg:Str→Option Value}{base:Heap}{A:Around}{outer:List Env}{s:Shared}{H:Hp}(e:Env0 P w K mg base A outer s H):Env0 P w K mg base (calmed A) outer s H :=
  ⟨e.frames,e.mod,e.bs,e.bsz,e.funs,e.frf,e.hok,e.bare⟩
theorem fn_ofU {P:Program}{w:World}{K:PySem.W.Frag}{mg:Str→Option Value}{base:Heap}{k:Nat}{f:Addr}{name qual:Str}{params:Arguments}{body:List Stmt}{scope:Scope}{dV kV doc pm cdv ct oc:Value}{an od:Option Addr}
    {osl:Array (Option Value)} {N ps:List Str} {sp:Sp} (lk:K.lookup f=some ⟨oc,od,.func (PySem.W.fnOf name qual params body scope dV kV doc pm an cdv ct),osl⟩) (hcd:PySem.W.codeIn K cdv qual=true) (S:FnScope N ps scope)
    (len:∀ vs H Q E,sp vs H Q E→vs.length=ps.length)
    (hbody:∀ (A:Around) (outer:List Env) (s:Shared) (H:Hp) (vs:List V) (Q:VK) (E:XK),Room k ((calmed A).deeper (envOfC qual scope s.heap.objs.size f cdv))→sp vs H Q E →
      ∃ t,PSs (cxOf CX0 P w K mg base N qual scope f cdv A outer s H E).wild.nox body t∧t { nx:=fun _ H'=>Q .non H',rt:=Q } (start N vs) H) :
    FnOkU P w K mg base (k + 1) f (PySem.W.fnOf name qual params body scope dV kV doc pm an cdv ct) ps sp:=by
  refine ⟨len,fun A outer s H args us vs Q E hr e0 hb r hsp=>?_⟩
  have hl:=len _ _ _ _ hsp
  have KX:K.In s.heap:=e0.mod.kin.keeps fun b o e=>(e0.bs b o e).1
  have lim:s.heap.NoLimit:=e0.mod.nolimit.keeps fun b o e=>(e0.bs b o e).1
  have hkind:∀ y∈ps.zip us,scope.names.lookup y.1=some .local∨(scope.names.lookup y.1=some .cell∧((cellsFrom (s.heap.objs.size + 1) scope.names []).lookup y.1).isSome=true):=fun ⟨n,v⟩ hy=>by
    rcases S.par n (List.of_mem_zip hy).1 with q | q
    · exact .inl q
    · exact .inr ⟨q,PySem.W.cellsFrom_some _ _ _ (.inl q)⟩
  have hdp:A.depth < recursionLimit:=hr.depth
  refine codeAny_call_function hdp (KX _ _ lk) rfl S.co S.gen rfl (PySem.W.codeRec_of KX hcd) (hb _ _ _ _ ?_)
  refine wpAny_newFunctionEnv_cells S.kind hkind fun env he s1 x=>?_
  subst he
  refine ⟨lim.keeps x.toInCall.keep,codeAny_func ?_⟩
  obtain ⟨t,ht,hq⟩:=hbody A outer s H vs Q E (hr.deeper _) hsp
  have ht:=ht.nox
  have I0:Inv (cxOf CX0 P w K mg base N qual scope f cdv (calmed A) outer s H E) [] (start N vs) H s1:=inv_start S rfl e0.mark hl r x
  have I:Inv (cxOf CX0 P w K mg base N qual scope f cdv A outer s H E).wild [] (start N vs) H s1 :=
    ⟨⟨I0.ok.mod,I0.ok.kind,I0.ok.glob,I0.ok.blt,I0.ok.above,I0.ok.inj,I0.ok.has,I0.ok.cab,(fun z=>(by cases z)),I0.ok.frames,I0.ok.stk,I0.ok.exf,I0.ok.bs,I0.ok.bsz,I0.ok.noex,I0.ok.exfs,I0.ok.funs,I0.ok.frf⟩,I0.os,I0.bare,I0.base,I0.loc,I0.cell,I0.free,I0.freeC,I0.pin,I0.hok,I0.len⟩
  refine wpAny_mono (ht [] s1 (start N vs) H _ I hq) (fun fl s' hs=>?_) fun e s' hs=>hs
  have fin:∀ {σ':St} {H':Hp} {v:V} {u:Value},Inv (cxOf CX0 P w K mg base N qual scope f cdv A outer s H E).wild [] σ' H' s'→RelV v u→Q v H'→CE outer P w H s Q u s' :=
    fun {σ' H' v u} J rv q=>⟨v,H',J.os,J.bare,J.base,J.hok,rv,q⟩
  cases fl with
  | ret u =>
    obtain ⟨v,σ',H',J,rv,q⟩:=hs
    exact fin J rv q
  | next =>
    obtain ⟨σ',H',J,q⟩:=hs
    exact fin (v:=V.non) (u:=Value.none) J rfl q
  | brk =>
    obtain ⟨_,_,_,q⟩:=hs
    exact False.elim q
  | cont =>
    obtain ⟨_,_,_,q⟩:=hs
    exact False.elim q
theorem Fun.okU {P:Program}{w:World}{K:PySem.W.Frag}{mg:Str→Option Value}{base:Heap}{x qual:Str}{st:Stmt}{f:Addr}{fd:FuncData}{N ps:List Str}{k:Nat}{sp:Sp}(F:Fun K x qual st f fd) (S:FnScope N ps (defScope st)) (len:∀ vs H Q E,sp vs H Q E→vs.length=ps.length)
    (hbody:∀ (cdv:Value) (A:Around) (outer:List Env) (s:Shared) (H:Hp) (vs:List V) (Q:VK) (E:XK),Room k ((calmed A).deeper (envOfC qual (defScope st) s.heap.objs.size f cdv))→sp vs H Q E →
      ∃ t,PSs (cxOf CX0 P w K mg base N qual (defScope st) f cdv A outer s H E).wild.nox (defBody st) t∧t { nx:=fun _ H'=>Q .non H',rt:=Q } (start N vs) H):FnOkU P w K mg base (k + 1) f fd ps sp:=by
  obtain ⟨oc,od,kV,doc,pm,an,cdv,ct,osl,rfl,lk,hcd⟩:=F.ex
  exact fn_ofU lk hcd S len fun A outer s H vs Q E hr hsp=>hbody cdv A outer s H vs Q E hr hsp
section
variable {X:Cx}{k:Nat}{f:Addr}{fd:FuncData}{ps:List Str}{sp:Sp}{ds:List Value}{dvs:List V}{E:XK}
end
theorem Room.mark {k:Nat}{A:Around}{v:Option Value}(r:Room k A):Room k (calmed (A.mark v)):=⟨rfl,r.dp,r.un⟩
end L2
namespace L2
open PySem
structure FlyC (c:Option Value) (base:Heap) (l:List Env) (e:Addr) (cls:Value) (d:Option Addr) (fl:Value) (h:Heap):Prop where
  st:base.StaysIn h
  en:base.get? e=none
  fr:h.FunFrames base l
  tr:∃ oe vs T oT ts,h.get? e=some oe∧oe.cls=cls∧oe.dict=d∧oe.data=.fields vs∧vs[1]?=some (.ref T)∧vs[2]?=c∧base.get? T=none∧T≠e∧h.get? T=some oT∧oT.data=.fields ts∧ts[3]?=some fl
section
variable {M:Model}{A:Around}{E:Value→Shared→Prop}{s:Shared}{base:Heap}{env:Env}{outer l:List Env}{L e:Addr}{cls fl:Value}{d:Option Addr}{c:Option Value}{Q:Unit→Shared→Prop}
theorem FlyC.there {h:Heap}(x:FlyC c base l e cls d fl h):∃ ob vs,h.get? e=some ob∧ob.cls=cls∧ob.dict=d∧ob.data=.fields vs:=by
  obtain ⟨oe,vs,_,_,_,a,b,c,z,_⟩:=x.tr
  exact ⟨oe,vs,a,b,c,z⟩
theorem entry_okC {oe:Obj}{vs:Array Value}{head:Value}{hn:Bool}(hfr:A.frames=some (env :: outer)) (hl:s.heap.FunFrames base (env :: outer)) (hf:env.frame=some L) (he:s.heap.get? e=some oe) (hb:base.StaysIn s.heap)
    (ne:base.get? e=none) (hd:oe.data=.fields vs) (hz:1 < vs.size) (h:∀ h',FlyC vs[2]? base (env :: outer) e oe.cls oe.dict (rawInt L) h'→s.heap.UpToSlots h'→Q () { s with heap:=h' }) :
    wpAny M A (do let a ← frameOf env;let pl ← entryPlaceOf L hn;let b ← EntryCells.newEntry head a .none (rawInt L) .none pl;setField (.ref e) 1 b) Q E s:=by
  have nF:e∉(env :: outer).filterMap (·.frame):=by
    intro z;obtain ⟨_,o,ho,nf⟩:=hl.mem z
    rw [he] at ho;cases ho;exact nf vs hd
  refine wpAny_bind (wpAny_frameOf_fun hfr hl hf fun h1 q1=>wpAny_bind (wpAny_entryPlaceOf fun pl hpl=>?_))
  unfold EntryCells.newEntry newFields
  refine wpAny_bind (wpAny_newObj_type ?_ (hpl.sizeOk5 _ _ _ _ _))
  generalize eo:({ cls:=.type "traceback",dict:=none,data:=.fields ([head,.ref L,.none,rawInt L,.none] ++ (if pl.isEmpty then List.replicate 6 Value.none else pl)).toArray }:Obj)=ob
  have e1:h1.get? e=some oe:=(q1.2.1 e nF).trans he
  have b1:base.StaysIn h1:=fun b o z=>(q1.2.1 b fun y=>by rw [(hl.mem y).1] at z;cases z).trans (hb b o z)
  have e2:(h1.push ob).get? e=some oe:=Heap.get?_push_of_some ob e1
  have nT:h1.objs.size≠e:=Nat.ne_of_gt (Heap.lt_size e1)
  have d3:=Obj.data_mapFields hd (·.setIfInBounds 1 (Value.ref h1.objs.size))
  have e3:=Heap.get?_update_self (Obj.mapFields (·.setIfInBounds 1 (Value.ref h1.objs.size))) e2 (Obj.isFreed_of_fields d3)
  have kp:∀ b o,b≠e→h1.get? b=some o→((h1.push ob).update e (Obj.mapFields (·.setIfInBounds 1 (Value.ref h1.objs.size)))).get? b=some o:=by
    intro b o n z
    rw [Heap.get?_update_other _ _ (Ne.symm n)];exact Heap.get?_push_of_some _ z
  have nR:∀ b o,s.heap.get? b=some o→(∀ ws,o.data≠.fields ws)→b≠e:=by
    intro b o z nf y
    rw [y,he] at z;cases z;exact nf vs hd
  refine wpAny_setField e2 hd hz (h _ ?_ ?_)
  · have t3:((h1.push ob).update e (Obj.mapFields (·.setIfInBounds 1 (Value.ref h1.objs.size)))).get? h1.objs.size=some ob:=by
      rw [Heap.get?_update_other _ _ (Ne.symm nT)];refine Heap.get?_push_size h1 ?_;rw [← eo];rfl
    refine ⟨fun b o z=>kp b o (fun y=>by rw [y,ne] at z;cases z) (b1 b o z),ne,hl.of_keeps fun b o z nf=>?_,?_⟩
    · obtain ⟨sl,y⟩:=q1.2.2 b o z;exact ⟨_,kp b _ (nR b o z nf) y,rfl⟩
    · refine ⟨_,_,h1.objs.size,ob,_,e3,Obj.cls_mapFields _ _,dict_mapF _ _,d3,by simp [hz],by simp,b1.fresh,nT,t3,by rw [← eo],?_⟩
      first | (simp;done) | (rcases hpl with rfl | ⟨_,_,_,_,_,_,_,rfl⟩<;>simp)
  · intro b o z nf
    obtain ⟨sl,y⟩:=q1.2.2 b o z;exact ⟨sl,kp b _ (nR b o z nf) y⟩
theorem note_onC (hfr:A.frames=some (env :: outer)) (hf:env.frame=some L) (x:FlyC c base (env :: outer) e cls d .none s.heap)
    (h:∀ h',FlyC c base (env :: outer) e cls d (rawInt L) h'→s.heap.UpToSlots h'→Q () { s with heap:=h' }):wpAny M A (noteFrame (.ref e) env) Q E s:=by
  obtain ⟨hb,ne,hl,oe,vs,T,oT,ts,he,rfl,rfl,hd,h1,rfl,nT,Te,hT,dT,h3⟩:=x
  unfold noteFrame;simp only [hf]
  refine wpAny_bind (wpAny_field he hd h1 ?_)
  rw [if_pos (by simp:(Value.ref T != Value.none)=true)]
  refine wpAny_bind (wpAny_field hT dT h3 ?_)
  rw [if_neg (by simp [rawInt]:¬ ((Value.none == rawInt L)=true))]
  refine wpAny_bind (wpAny_setField hT dT (Array.getElem?_eq_some_iff.mp h3).1 ?_)
  have ot:∀ b,b≠T→(s.heap.update T (Obj.mapFields (·.setIfInBounds 3 Value.none))).get? b=s.heap.get? b:=fun b n=>Heap.get?_update_other _ _ (Ne.symm n)
  have nR:∀ b o,s.heap.get? b=some o→(∀ ws,o.data≠.fields ws)→b≠T:=fun b o z nf y=>by rw [y,hT] at z;cases z;exact nf ts dT
  refine entry_okC (s:={ s with heap:=s.heap.update T (Obj.mapFields (·.setIfInBounds 3 Value.none)) }) hfr (hl.of_keeps fun b o z nf=>⟨o,(ot b (nR b o z nf)).trans z,rfl⟩) hf ((ot e (Ne.symm Te)).trans he) (fun b o z=>(ot b fun y=>by rw [y,nT] at z;cases z).trans (hb b o z)) ne hd
    (Array.getElem?_eq_some_iff.mp h1).1 fun h' f u=>h h' f fun b o z nf=>u b o ((ot b (nR b o z nf)).trans z) nf
theorem landC (x:FlyC c base l e cls d fl s.heap) (h:∀ h',FlyC c base l e cls d .none h'→s.heap.UpToSlots h'→Q () { s with heap:=h' }):wpAny M A (setFlight (.ref e) none) Q E s:=by
  obtain ⟨hb,ne,hl,oe,vs,T,oT,ts,he,rfl,rfl,hd,h1,rfl,nT,Te,hT,dT,h3⟩:=x
  have z3:3 < ts.size:=(Array.getElem?_eq_some_iff.mp h3).1
  have ot:∀ b,b≠T→(s.heap.update T (Obj.mapFields (·.setIfInBounds 3 ((none:Option Addr).elim Value.none fun f=>rawInt f)))).get? b=s.heap.get? b:=fun b n=>Heap.get?_update_other _ _ (Ne.symm n)
  have nR:∀ b o,s.heap.get? b=some o→(∀ ws,o.data≠.fields ws)→b≠T:=fun b o z nf y=>by rw [y,hT] at z;cases z;exact nf ts dT
  unfold setFlight
  refine wpAny_bind (wpAny_field he hd h1 ?_)
  rw [if_pos (by simp:(Value.ref T != Value.none)=true)]
  refine wpAny_setField hT dT z3 (h _ ⟨fun b o z=>(ot b fun y=>by rw [y,nT] at z;cases z).trans (hb b o z),ne,hl.of_keeps fun b o z nf=>⟨o,(ot b (nR b o z nf)).trans z,rfl⟩,?_⟩ fun b o z nf=>⟨o.slots,(ot b (nR b o z nf)).trans z⟩)
  exact ⟨oe,vs,T,_,_,(ot e (Ne.symm Te)).trans he,rfl,rfl,hd,h1,rfl,nT,Te,Heap.get?_update_self _ hT (Obj.isFreed_of_fields (Obj.data_mapFields dT _)),Obj.data_mapFields dT _,by simp [z3]⟩
theorem leave_newC {oe:Obj}{vs:Array Value}(hfr:A.frames=some (env :: outer)) (hf:env.frame=some L) (hl:s.heap.FunFrames base (env :: outer)) (he:s.heap.get? e=some oe) (hb:base.StaysIn s.heap) (ne:base.get? e=none)
    (hd:oe.data=.fields vs) (h1:vs[1]?=some .none) (h:∀ h',FlyC vs[2]? base outer e oe.cls oe.dict .none h'→s.heap.UpToSlots h'→Q () { s with heap:=h' }):wpAny M A (leaving env (.ref e)) Q E s:=by
  unfold leaving noteFrame
  simp only [hf]
  refine wpAny_bind (wpAny_bind (wpAny_field he hd h1 ?_))
  rw [if_neg (by decide)]
  exact entry_okC hfr hl hf he hb ne hd (Array.getElem?_eq_some_iff.mp h1).1 fun h1 f1 u1=>landC (s:={ s with heap:=h1 }) f1 fun h2 f2 u2=>h h2 ⟨f2.st,f2.en,f2.fr.2.2,f2.tr⟩ (u1.trans u2)
end
theorem FlyC.fly {c:Option Value}{base:Heap}{l:List Env}{e:Addr}{cls fl:Value}{d:Option Addr}{h:Heap}(x:FlyC c base l e cls d fl h):Fly base l e cls d fl h:=by
  obtain ⟨a,b,f,oe,vs,T,oT,ts,he,e1,e2,hd,h1,_,r⟩:=x
  exact ⟨a,b,f,oe,vs,T,oT,ts,he,e1,e2,hd,h1,r⟩
end L2
namespace L2
open PySem PySem.Spec PyProof.Rows PySem.W
local macro_rules | `(tactic| walk_at "om") => `(tactic| first | omega | (unfold Addr at *; omega))
section
variable {X:Cx}{pins:List (Addr×Obj)}{σ:St}{H:Hp}{s:Shared}
def XS2 (X:Cx) (pins:List (Addr×Obj)) (σ:St) (E:XK) (e:Value) (s':Shared):Prop :=
  ∃ (ea:Addr) (cls:Value) (d:Option Addr) (H':Hp) (B:Heap),e=.ref ea∧Inv X pins σ H' s'∧FlyC (some .none) B X.stack ea cls d .none s'.heap∧HOk X.prog X.w H' B∧Fl X pins B∧E cls d H'
def CX2 (P:Program) (w:World):CXT:=fun outer H s E e s' =>
  ∃ (ea:Addr) (cls:Value) (d:Option Addr) (H':Hp) (B:Heap),e=.ref ea∧s'.os=s.os∧AllBare s'.gens∧FlyC (some .none) B outer ea cls d .none s'.heap∧HOk P w H' B∧Un (frs outer) [] H H' s.heap s'.heap ∧
    (∀ b o,s.heap.get? b=some o→H b=none→b∉frs outer→B.get? b=some o)∧(∀ b o,s.heap.get? b=some o→b∉frs outer→∃ o',B.get? b=some o')∧E cls d H'
theorem xs_of2 {E:XK}{e:Value}{s':Shared}(I:Inv X pins σ H s) (h:CX2 X.prog X.w X.stack H s E e s'):XS2 X pins σ E e s':=by
  obtain ⟨ea,cls,d,H',B,rfl,os,bare,fl,hok,un,k0,kt,q⟩:=h
  refine ⟨ea,cls,d,H',B,rfl,I.call' (ch:=[]) os un (hok.kept fl.st) bare (fun b z=>absurd z (by simp)),fl,hok,⟨fun b o e n hb hx=>?_,fun b o e hb hx=>?_,fun p hp=>?_⟩,q⟩
  · exact k0 b o (I.base.keep b o e n hb hx) (I.base.free b o e n hx) (I.oldStk e hb)
  · obtain ⟨o',e'⟩:=I.base.there b o e hx
    exact kt b o' e' (I.oldStk e hb)
  · obtain ⟨e,n,ne,nf,_⟩:=I.pin p hp
    refine k0 _ _ e n fun z=>?_
    rcases List.mem_cons.mp (I.stkSub _ z) with q | q
    · exact ne q
    · exact nf q
def Takes2 (X:Cx) (E:St→XK):Prop:=∀ (pins:List (Addr×Obj)) (σ:St) (e:Value) (s':Shared),XS2 X pins σ (E σ) e s'→X.xe e s'
def TakesN2 (X:Cx) (E:St→XK):Prop:=∀ (pins:List (Addr×Obj)) (σ:St) (H:Hp) (s:Shared) (ea:Addr) (oe:Obj) (vs:Array Value),Inv X pins σ H s→H ea=none →
  (∀ b o,X.s₀.heap.get? b=some o→b∉X.ex→b≠ea)→(∀ p∈X.pn ++ pins,p.1≠ea)→s.heap.get? ea=some oe→oe.data=.fields vs→vs[1]?=some .none→vs[2]?=some .none→E σ oe.cls oe.dict H→X.xe (.ref ea) s
end
theorem takesN_cx2 {P:Program}{w:World}{K:PySem.W.Frag}{mg:Str→Option Value}{base:Heap}{N:List Str}{qual:Str}{scope:Scope}{f:Addr}{cd:Value}{A:Around}{outer:List Env}{s:Shared}{H:Hp}{E:XK} :
    TakesN2 (cxOf (CX2 P w) P w K mg base N qual scope f cd A outer s H E) (fun _=>E):=by
  intro pins σ H1 s1 ea oe vs I hn hold hpin he hd h1 h2 q
  let l:=envOfC qual scope s.heap.objs.size f cd :: outer
  let B:Heap:=PySem.W.hideAll (noFr s1.heap l) [ea]
  have bst:B.StaysIn s1.heap:=fun b o e=>of_noFr b o (PySem.W.of_hideAll [ea] e)
  have bget:∀ b o,(noFr s1.heap l).get? b=some o→b≠ea→B.get? b=some o:=fun b o e n=>PySem.W.hideAll_get _ e (by simpa using n)
  have bne:B.get? ea=none:=PySem.W.hideAll_none [ea] (by simp)
  have hokB:HOk P w H1 B:=fun a o e=>by
    have nt:∀ b u,H1 b=some u→b≠ea:=fun b u q z=>by rw [z,hn] at q;cases q
    refine (I.hokB a o e).stay (fun b u hb q=>bget b u q ?_) (fun _ q=>q) fun _ _ q=>q
    rcases hb with rfl | hb
    · exact nt _ _ e
    · exact nt _ _ hb
  have F:Fl (cxOf (CX2 P w) P w K mg base N qual scope f cd A outer s H E) pins B:=by
    refine ⟨fun b o e n hb hx=>bget b o (I.flB.k0 b o e n hb hx) (hold b o e hx),fun b o e hb hx=>?_,fun p hp=>bget _ _ (I.flB.kp p hp) (hpin p hp)⟩
    obtain ⟨o',q'⟩:=I.flB.kt b o e hb hx
    exact ⟨o',bget b o' q' (hold b o e hx)⟩
  have hl:s1.heap.FunFrames B l:=funs_base (fun b hb=>by
    cases z:B.get? b with
    | none=>rfl
    | some o =>
      have:=noFr_none (h:=s1.heap) b hb
      rw [PySem.W.of_hideAll [ea] z] at this
      cases this) I.stack
  refine leave_newC (base:=B) I.ok.frames rfl hl he bst bne hd h1 fun h' fl up=>?_
  rw [h2] at fl
  have J:=I.flown fl.st up hokB F
  exact ⟨ea,oe.cls,oe.dict,H1,B,rfl,I.os,I.bare,fl,hokB,J.base,fun b o e n hb=>F.k0 b o e n hb (by intro z;cases z),fun b o e hb=>F.kt b o e hb (by intro z;cases z),q⟩
section
variable {X:Cx}{k:Nat}{f C:Addr}{fd:FuncData}{ps:List Str}{sp:Sp}{dvs:List V}{ds:List Value}{E:St→XK}{x m:Str}{p pos apos:Pos}{e o:Expr}{es:List Expr}{ta:TE}{t:TA}
theorem run_makeX2 {pins:List (Addr×Obj)}{σ:St}{H:Hp}{s:Shared}{Q:VK}{us:List Value}{vs:List V}(M:Mk X.K C f) (F:FnOk X.prog X.w X.K X.mg X.base (CX2 X.prog X.w) k f fd ps sp) (hr:Room (k + 1) X.A) (hb:Binds X.K fd ps ds) (hd:Vals dvs ds)
    (hx:Takes2 X E) (I:Inv X pins σ H s) (r:Vals vs us)
    (h:∀ x dx,H x=none→H dx=none→dx≠x→sp (.ref x :: (vs ++ dvs)) (upd (upd H dx (.own x)) x (.ins C dx [])) (fun v H2=>v=.non∧Q (.ref x) H2) (E σ)) :
    wpAny (model X.prog X.w) X.A (call (.ref C) us) (EP X pins σ Q) X.xe s:=by
  have hq:=h (s.heap.objs.size + 1) s.heap.objs.size (I.hok.fresh (Nat.le_succ _)) (I.hok.fresh (Nat.le_refl _)) (Nat.ne_of_lt (Nat.lt_succ_self _))
  have I2:=Inv.made (C:=C) I
  have r2:Vals (V.ref (s.heap.objs.size + 1) :: (vs ++ dvs)) (Value.ref (s.heap.objs.size + 1) :: (us ++ ds)):=.cons rfl (r.append hd)
  have hl:(Value.ref (s.heap.objs.size + 1) :: us ++ ds).length=ps.length:=by
    have e:=r2.length
    rw [F.len _ _ _ _ hq] at e
    exact e.symm
  refine wpAny_call (make_map (f:=f) I.kIn M.makes M.init (beq_iff_eq.mp M.fn) (codeAny_mono (F.run _ X.stack _ _ ⟨Value.ref (s.heap.objs.size + 1) :: us,[]⟩ (Value.ref (s.heap.objs.size + 1) :: (us ++ ds)) _ _ (E σ) (hr.make C us [])
    (I2.env0.make C us []) (hb _ (Value.ref (s.heap.objs.size + 1) :: us) I2.kIn hl) r2 hq) fun r s' hq'=>?_))
  cases r with
  | error e=>exact hx pins σ e s' (xs_of2 I2 hq')
  | ok fl =>
    cases fl with
    | ret u =>
      obtain ⟨v,H',I3,rv,ev,q3⟩:=I2.after hq'
      subst ev
      exact ⟨rv,⟨V.ref (s.heap.objs.size + 1),H',I3,rfl,q3⟩⟩
    | next=>exact False.elim hq'
    | brk=>exact False.elim hq'
    | cont=>exact False.elim hq'
theorem pe_makeX2 (M:Mk X.K C f) (F:FnOk X.prog X.w X.K X.mg X.base (CX2 X.prog X.w) k f fd ps sp) (hr:Room (k + 1) X.A) (hg:Gl X x) (hm:X.mg x=some (.ref C)) (hb:Binds X.K fd ps ds) (hd:Vals dvs ds) (hx:Takes2 X E)
    (ha:PA X (e :: es) t) (hdb:(x == ("__debug__":Str))=false:=by decide) (he:starEach (e :: es) X.env=(false,eval e X.env) :: starEach es X.env:=by rfl) (hpl:(backTo pos (starEach es X.env)).any (·.1)=false:=by rfl) :
    PE X (.Call (.Name x p) (e :: es) [] pos) (tMakeX C sp dvs E t):=by
  intro pins s σ H Q I h
  refine wpAny_Call_Name_kw (ld_glob I hg hm ?_ hdb)
  refine PySem.W.callWith_K (h₀:=X.base) I.ok.mod.kin M.kp (thn (ha pos pins s σ H _ I h) fun us s1 ⟨vs,H1,I1,r,q⟩=>⟨I1.kIn,?_⟩) he hpl
  exact run_makeX2 M F hr hb hd hx I1 r q
end
theorem Fun.okX2 {P:Program}{w:World}{K:PySem.W.Frag}{mg:Str→Option Value}{base:Heap}{x qual:Str}{st:Stmt}{f:Addr}{fd:FuncData}{N ps:List Str}{k:Nat}{sp:Sp}(F:Fun K x qual st f fd) (S:FnScope N ps (defScope st)) (len:∀ vs H Q E,sp vs H Q E→vs.length=ps.length)
    (hbody:∀ (cdv:Value) (A:Around) (outer:List Env) (s:Shared) (H:Hp) (vs:List V) (Q:VK) (E:XK),Room k (A.deeper (envOfC qual (defScope st) s.heap.objs.size f cdv))→sp vs H Q E →
      ∃ t,PSs (cxOf (CX2 P w) P w K mg base N qual (defScope st) f cdv A outer s H E) (defBody st) t∧t { nx:=fun _ H'=>Q .non H',rt:=Q } (start N vs) H):FnOk P w K mg base (CX2 P w) (k + 1) f fd ps sp:=by
  obtain ⟨oc,od,kV,doc,pm,an,cdv,ct,osl,rfl,lk,hcd⟩:=F.ex
  exact fn_of lk hcd S len fun A outer s H vs Q E hr hsp=>hbody cdv A outer s H vs Q E hr hsp
section
variable {X:Cx}{C:Addr}{x:Str}{np cpos pos:Pos}{e:Expr}{es:List Expr}{t:TA}{E:St→XK}
theorem made_takes2 {pins:List (Addr×Obj)}{σ:St}{H:Hp}{s:Shared}{h':Heap}{ea:Addr}{cls:Value}{args:List Value}(hT:TakesN2 X E) (I:Inv X pins σ H s) (hm:Heap.MadeExcOf s.heap h' ea cls args) (q:E σ cls none H) :
    X.xe (.ref ea) { s with heap:=h' }:=by
  obtain ⟨t,he,_,_⟩:=hm.there
  have new:∀ b o,s.heap.get? b=some o→b≠ea:=fun b o z y=>by rw [y,hm.new] at z;cases z
  refine hT pins σ H { s with heap:=h' } ea _ _ (I.kept hm.keeps) ?_ (fun b o z=>?_) (fun p hp=>new _ _ (I.pin p hp).1) he rfl rfl rfl q
  · cases z:H ea with
    | none=>rfl
    | some o =>
      obtain ⟨ob,y⟩:=(I.hok ea o z).there
      exact absurd rfl (new ea ob y)
  · intro hx y
    subst y
    obtain ⟨o',y⟩:=I.base.there b o z hx
    exact new b o' y rfl
theorem ps_raise2 (hc:X.calm=true) (ex:PySem.W.excIn X.K C bmV "ValueError.__new__"=true) (hg:Gl X x) (hm:X.mg x=some (.ref C)) (hT:TakesN2 X E) (ha:PA X (e :: es) t)
    (hdb:(x == ("__debug__":Str))=false:=by decide) (he:starEach (e :: es) X.env=(false,eval e X.env) :: starEach es X.env:=by rfl) (hpl:(backTo cpos (starEach es X.env)).any (·.1)=false:=by rfl) :
    PS X (.Raise (some (.Call (.Name x np) (e :: es) [] cpos)) none pos) (tRaise C E t):=by
  intro pins s σ H D I h
  obtain ⟨tl,N,nm,q,bs,hdct,sn,sub,ab,col,dd,k0,k1,k2,k3,k5,mN,hC,hN,hni,T⟩:=exc_obj I.ok.mod.kin ex
  refine wpAny_Raise_call_subT (nm:=nm) (q:=q) (k5:=k5) (k0:=k0) (k1:=k1) (k2:=k2) (k3:=k3) (dd:=dd) (col:=col) (ab:=ab) (sub:=sub) (sn:=sn) (hdct:=hdct) (bs:=bs) (C:=C) (N:=N) (bm:=tl) F.excBase_ValueError (mN:=mN) (T.hasType F.excBase_ValueError.hasBase) (I.ok.hd hc) ?_ hni (ld_glob I hg hm ⟨rfl,?_⟩ hdb)
  · rw [he];show (false || _)=false;rw [Bool.false_or];exact hpl
  · have z:=ha cpos pins s σ H _ I h
    rw [he] at z ⊢
    exact Calls.evalArgs_plain (thn z fun us s2 ⟨vs,H2,I2,r,zl,q2⟩=>⟨rfl,by rw [← r.length];exact zl,I2.bk _ _ hC,hN.keeps I2.bk,T.keeps I2.bk,fun h' ea hme=>made_takes2 hT I2 hme q2⟩)
end
end L2
namespace L2
open PySem PySem.Spec PyProof.Rows PySem.W
theorem entry_unchain:entryFor table "proto.unchain"=some Builtin.«proto.unchain»:=entryFor_of_tree (by kernel_rfl)
section
variable {prog:Program}{w:World}{A:Around}{E:Value→Shared→Prop}{env:Env}{nm q:Str}{C N:Addr}{bs bm:List Value}{hdct:Bool}{sn:List Str}{sub:List Value}{ab:Bool}{col:Option Bool}{dd:Option Addr}{k0 k1 k2 k3 k5:Option Value}{newId:String}
theorem unchain_none {s:Shared}{e a:Addr}{oa:Obj}{va:Array Value}{Q:Value→Shared→Prop}(ha:s.heap.get? a=some oa) (hd:oa.data=.fields va) (h2:va[2]?=some .none) (h:Q .none s) :
    wpAny (model prog w) A (runValue (.builtin "proto.unchain" ⟨[.ref e,.ref a,.ref a,.bool false],[]⟩)) Q E s:=by
  refine wpAny_runValue (codeAny_builtin entry_unchain ?_)
  unfold Builtin.«proto.unchain»
  refine wpAny_bind (wpAny_field ha hd h2 ?_)
  rw [if_pos (by decide)]
  exact wpAny_pure h
theorem raiseNew_some {α:Type}{s:Shared}{e a:Addr}{oe oa:Obj}{va vs:Array Value}{Q:α→Shared→Prop}(hh:A.handled=some (.ref a)) (na:e≠a) (ha:s.heap.get? a=some oa) (hd:oa.data=.fields va) (h2:va[2]?=some .none)
    (he:s.heap.get? e=some oe) (hde:oe.data=.fields vs) (hz:2 < vs.size) (h:E (.ref e) { s with heap:=s.heap.update e (Obj.mapFields (·.setIfInBounds 2 (.ref a))) }):wpAny (model prog w) A (raiseNew (.ref e):Sem α) Q E s:=by
  unfold raiseNew
  refine wpAny_bind (wpAny_handled ?_)
  rw [hh]
  have hne:(Value.ref a != Value.ref e)=true:=by simpa using Ne.symm na
  dsimp only
  rw [if_pos hne]
  exact wpAny_bind (wpAny_holding (unchain_none ha hd h2 (wpAny_bind (wpAny_setField (x:=.ref a) he hde hz (wpAny_throw h)))))
theorem raise_objR {s:Shared}{x c:Sem Value}{a:Addr}{Q:Flow→Shared→Prop}(hb:bm.contains (.type "BaseException")=true) (hh:A.handled=some (.ref a)) (hc:∀ s' (Q':Value→Shared→Prop),Q' Value.none s'→wpAny (model prog w) A c Q' E s')
    (h:wpAny (model prog w) A x (fun v s1=>∃ (e t:Addr) (d:Option Addr),v=.ref e∧e≠a∧s1.heap.get? C=some (excClassObj nm q C N bs bm hdct sn sub ab col dd k0 k1 k2 k3 k5 newId)∧s1.heap.get? e=some { cls:=.ref C,dict:=d,data:=.fields #[.ref t,.none,.none,.none,.bool false,.none] } ∧
      (∃ oa va,s1.heap.get? a=some oa∧oa.data=.fields va∧va[2]?=some .none)∧∀ h',(∀ b,b≠e→h'.get? b=s1.heap.get? b)→h'.get? e=some { cls:=.ref C,dict:=d,data:=.fields #[.ref t,.none,.ref a,.none,.bool true,.none] }→E (.ref e) { s1 with heap:=h' }) E s) :
    wpAny (model prog w) A (raiseStmt env (some x) (some c)) Q E s:=by
  have hB:(Value.ref C :: bm).contains (.type "BaseException")=true:=by rw [List.contains_cons,hb,Bool.or_true]
  unfold raiseStmt
  refine wpAny_bind (wpAny_mono h (fun v s1 z=>?_) fun _ _ y=>y)
  obtain ⟨e,t,d,rfl,na,hC,he,⟨oa,va,ha,hda,h2⟩,hE⟩:=z
  obtain ⟨hp,g,dr,tk,os⟩:=s1
  refine wpAny_bind (wpAny_holding (hc _ _ (wpAny_bind (wpAny_pure ?_))))
  repeat (first | (with_reducible refine wpAny_loadPart_at he ?_) | (with_reducible refine wpAny_loadPart_at hC ?_) | ((with_reducible refine wpAny_isSubtype_exc hC ?_);rw [hB]) | wp_step)
  have nC:C≠e:=fun z=>by rw [z] at hC;have z2:=hC.symm.trans he;cases z2
  have he3:(hp.update e (Obj.mapFields fun x=>x.setIfInBounds 3 Value.none)).get? e=some { cls:=.ref C,dict:=d,data:=.fields #[.ref t,.none,.none,.none,.bool false,.none] }:=Heap.get?_update_self _ he rfl
  have he4:((hp.update e (Obj.mapFields fun x=>x.setIfInBounds 3 Value.none)).update e (Obj.mapFields fun x=>x.setIfInBounds 4 (Value.bool true))).get? e=some { cls:=.ref C,dict:=d,data:=.fields #[.ref t,.none,.none,.none,.bool true,.none] }:=Heap.get?_update_self _ he3 rfl
  have ot:∀ b,b≠e→((hp.update e (Obj.mapFields fun x=>x.setIfInBounds 3 Value.none)).update e (Obj.mapFields fun x=>x.setIfInBounds 4 (Value.bool true))).get? b=hp.get? b:=fun b n=>by
    rw [Heap.get?_update_other _ _ (Ne.symm n),Heap.get?_update_other _ _ (Ne.symm n)]
  generalize (hp.update e (Obj.mapFields fun x=>x.setIfInBounds 3 Value.none)).update e (Obj.mapFields fun x=>x.setIfInBounds 4 (Value.bool true))=h4 at he4 ot ⊢
  have hC4:h4.get? C=some (excClassObj nm q C N bs bm hdct sn sub ab col dd k0 k1 k2 k3 k5 newId):=(ot C nC).trans hC
  have ha4:h4.get? a=some oa:=(ot a (Ne.symm na)).trans ha
  refine wpAny_loadPart_at hC4 (wpAny_pure ?_)
  rw [if_pos (by rfl)]
  refine wpAny_pure ?_
  unfold setFlight
  refine wpAny_bind (wpAny_bind (wpAny_field (i:=1) (x:=.none) he4 rfl rfl ?_))
  rw [if_neg (by decide)]
  refine wpAny_pure (raiseNew_some hh na ha4 hda h2 he4 rfl (by show 2 < 6;decide) (hE _ (fun b n=>?_) ?_))
  · rw [Heap.get?_update_other _ _ (Ne.symm n)];exact ot b n
  · exact Heap.get?_update_self _ he4 rfl
end
theorem land_at {M:Model} {A:Around} {E:Value→Shared→Prop} {s:Shared} {base:Heap} {l:List Env} {e:Addr} {cls fl:Value} {d:Option Addr} {Q:Unit→Shared→Prop} (o:Option Addr) (x:Fly base l e cls d fl s.heap) (h:∀ h',Fly base l e cls d (o.elim Value.none fun f=>rawInt f) h'→s.heap.UpToSlots h'→Q () { s with heap:=h' }):wpAny M A (setFlight (.ref e) o) Q E s:=by
  obtain ⟨hb,ne,hl,oe,vs,T,oT,ts,he,rfl,rfl,hd,h1,nT,Te,hT,dT,h3⟩:=x
  have z3:3 < ts.size:=(Array.getElem?_eq_some_iff.mp h3).1
  have ot:∀ b,b≠T→(s.heap.update T (Obj.mapFields (·.setIfInBounds 3 (o.elim Value.none fun f=>rawInt f)))).get? b=s.heap.get? b:=fun b n=>Heap.get?_update_other _ _ (Ne.symm n)
  have nR:∀ b o,s.heap.get? b=some o→(∀ ws,o.data≠.fields ws)→b≠T:=fun b o z nf y=>by rw [y,hT] at z;cases z;exact nf ts dT
  unfold setFlight
  refine wpAny_bind (wpAny_field he hd h1 ?_)
  rw [if_pos (by simp:(Value.ref T != Value.none)=true)]
  refine wpAny_setField hT dT z3 (h _ ⟨fun b o z=>(ot b fun y=>by rw [y,nT] at z;cases z).trans (hb b o z),ne,hl.of_keeps fun b o z nf=>⟨o,(ot b (nR b o z nf)).trans z,rfl⟩,?_⟩ fun b o z nf=>⟨o.slots,(ot b (nR b o z nf)).trans z⟩)
  exact ⟨oe,vs,T,_,_,(ot e (Ne.symm Te)).trans he,rfl,rfl,hd,h1,nT,Te,Heap.get?_update_self _ hT (Obj.isFreed_of_fields (Obj.data_mapFields dT _)),Obj.data_mapFields dT _,by simp [z3]⟩
def excO2 (ea C:Addr) (d:Option Addr):HO:=.ext fun h=>∃ o vs,h.get? ea=some o∧o.cls=.ref C∧o.dict=d∧o.data=.fields vs∧vs[2]?=some .none
abbrev Cx.suiteW (X:Cx) (ea:Addr) (W:Value→Shared→Prop):Cx:={ X with A:=X.A.mark (some (.ref ea)),calm:=false,xe:=W }
section
variable {X:Cx}{pins:List (Addr×Obj)}{σ:St}{H:Hp}{s:Shared}
theorem Inv.suiteW (I:Inv X pins σ H s) (ea:Addr) (W:Value→Shared→Prop):Inv (X.suiteW ea W) pins σ H s :=
  ⟨⟨I.ok.mod,I.ok.kind,I.ok.glob,I.ok.blt,I.ok.above,I.ok.inj,I.ok.has,I.ok.cab,(fun z=>(by cases z)),I.ok.frames,I.ok.stk,I.ok.exf,I.ok.bs,I.ok.bsz,I.ok.noex,I.ok.exfs,I.ok.funs,I.ok.frf⟩,I.os,I.bare,I.base,I.loc,I.cell,I.free,I.freeC,I.pin,I.hok,I.len⟩
theorem Inv.unsuiteW {ea:Addr}{W:Value→Shared→Prop}(I:Inv (X.suiteW ea W) pins σ H s) (hc:X.calm=true→X.A.handled=none):Inv X pins σ H s :=
  ⟨⟨I.ok.mod,I.ok.kind,I.ok.glob,I.ok.blt,I.ok.above,I.ok.inj,I.ok.has,I.ok.cab,hc,I.ok.frames,I.ok.stk,I.ok.exf,I.ok.bs,I.ok.bsz,I.ok.noex,I.ok.exfs,I.ok.funs,I.ok.frf⟩,I.os,I.bare,I.base,I.loc,I.cell,I.free,I.freeC,I.pin,I.hok,I.len⟩
theorem Inv.caught2 {B:Heap}{l:List Env}{ea C:Addr}{d:Option Addr}{fl:Value}(I:Inv X pins σ H s) (f:FlyC (some .none) B l ea (.ref C) d fl s.heap) (hok:HOk X.prog X.w H B) (F:Fl X pins B) (hn:H ea=none):Inv X pins σ (upd H ea (excO2 ea C d)) s:=by
  have J:=I.caught f.fly hok F hn
  obtain ⟨ob,vs,T,oT,ts,ho,hc,hdd,hd,h1,h2,_⟩:=f.tr
  have W:=J.write (x:=ea) (e:=ea) (o:=excO2 ea C d) (h':=s.heap) (t':=s.toks) (by rw [upd_same];trivial) (.inl rfl) (fun b u n z=>z) ⟨_,ho⟩ ⟨⟨ob,vs,ho,hc,hdd,hd,h2⟩,⟨_,ho⟩,fun g1 g2 ⟨o,ws,a1,a2⟩ k=>⟨o,ws,k _ a1,a2⟩⟩
  have e:upd (upd H ea (excO ea C d)) ea (excO2 ea C d)=upd H ea (excO2 ea C d):=by
    funext b;unfold upd;split<;>rfl
  rw [e] at W
  exact W
end
def tRaiseR (D:Addr) (sp:Sp) (ea C':Addr) (d:Option Addr) (E:St→XK) (t:TA):TS:=fun _ σ H=>t σ H fun vs H1=>vs.length≤sizeLine∧H1 ea=some (excO2 ea C' d)∧∀ na,H1 na=none→sp (.ref na :: vs) (upd H1 na (excN na D)) (fun v H2=>v=.non∧∃ dx,H2 na=some (excD na D dx)∧H2 ea=some (excO2 ea C' d)∧E σ (.ref D) (some dx) (drop H2 na)) E0
section
variable {X:Cx}{C f ea C':Addr}{d:Option Addr}{fd:FuncData}{ps:List Str}{sp:Sp}{k:Nat}{x:Str}{np cpos pos npos:Pos}{j:Nat}{e:Expr}{es:List Expr}{t:TA}{E:St→XK}
theorem ps_raiseR (hh:X.A.handled=some (.ref ea)) (T:ExN X.K C f) (Fi:FnOkU X.prog X.w X.K X.mg X.base k f fd ps sp) (hr:Room (k + 1) (calmed X.A)) (hb:Binds X.K fd ps []) (hg:Gl X x) (hm:X.mg x=some (.ref C)) (hT:TakesN X E) (ha:PA X (e :: es) t)
    (hdb:(x == ("__debug__":Str))=false:=by decide) (he:starEach (e :: es) X.env=(false,eval e X.env) :: starEach es X.env:=by rfl) (hpl:(backTo cpos (starEach es X.env)).any (·.1)=false:=by rfl) :
    PS X (.Raise (some (.Call (.Name x np) (e :: es) [] cpos)) (some (.Constant .none j npos)) pos) (tRaiseR C sp ea C' d E t):=by
  intro pins s σ H D I h
  obtain ⟨bm,N,nm,qn,bs,hdct,sn,sub,ab,col,dd,k0,k1,k2,k3,k5,mN,hC,hN,hi,TL⟩:=T.obj I.ok.mod.kin
  obtain ⟨oI,hfI,hfc⟩:=T.fun I.ok.mod.kin
  have hplain:(backTo cpos (starEach (e :: es) X.env)).any (·.1)=false:=by rw [he];show (false || _)=false;rw [Bool.false_or];exact hpl
  rw [arm_exec_Raise]
  refine wpAny_bind (wpAny_standAt (raise_objR (nm:=nm) (q:=qn) (C:=C) (N:=N) (bs:=bs) (bm:=bm) (k5:=k5) (k0:=k0) (k1:=k1) (k2:=k2) (k3:=k3) (dd:=dd) (col:=col) (ab:=ab) (sub:=sub) (sn:=sn) (hdct:=hdct) (newId:="ValueError.__new__") (TL.hasType F.excBase_ValueError.hasBase) hh
    (fun s' Q' h=>wpAny_bind (Constant_none (wpAny_bind (wpAny_standAt (wpAny_pure h)))))
    (wpAny_bind (wpAny_mono (wpAny_Call_ofName (ld_glob I hg hm ?_ hdb)) (fun v s3 h3=>wpAny_bind (wpAny_standAt (wpAny_pure h3))) fun _ _ x=>x))))
  have z:=ha cpos pins s σ H _ I h
  unfold callWith
  refine wpAny_bind (wpAny_holding (wpAny_mono (show wpAny _ _ (evalArgs (.ref C) true (backTo cpos (starEach (e :: es) X.env)) []) (fun a s2=>a.kw=[]∧∃ vs H1,Inv X pins σ H1 s2∧Vals vs a.pos∧(vs.length≤sizeLine∧H1 ea=some (excO2 ea C' d)∧∀ na,H1 na=none→sp (.ref na :: vs) (upd H1 na (excN na C)) (fun v H2=>v=.non∧∃ dx,H2 na=some (excD na C dx)∧H2 ea=some (excO2 ea C' d)∧E σ (.ref C) (some dx) (drop H2 na)) E0)) X.xe s from ?_) (fun a s2 h2=>wpAny_bind (wpAny_standAt ?_)) fun _ _ x=>x))
  · rw [he] at z ⊢
    exact Calls.evalArgs_plain (thn z fun us s2 ⟨vs,H2,I2,r,q2⟩=>⟨rfl,vs,H2,I2,r,q2⟩)
  obtain ⟨us,kw⟩:=a
  obtain ⟨rfl,vs,H2,I2,r,zl,hea2,q2⟩:=h2
  obtain ⟨hp,g,dr,tk,os⟩:=s2
  simp only [hplain]
  refine wpAny_bind (wpAny_keeperOf_exc (I2.bk _ _ hC) ?_)
  have r:Vals vs us:=r
  refine wpAny_bind (exc_call_init F.excBase_ValueError (TL.keeps I2.bk) (I2.bk _ _ hC) (hN.keeps I2.bk) hi (I2.bk _ _ hfI) hfc (fun h' na hme=>?_) (by show us.length≤sizeLine;rw [← r.length];exact zl))
  have n2:=I2.newAt hme.new
  obtain ⟨t0,ht0,_,_⟩:=hme.there
  have I3:Inv X pins σ (upd H2 na (excN na C)) ⟨h',g,dr,tk,os⟩:=(I2.kept (h':=h') (t':=tk) hme.keeps).track n2 ⟨⟨t0,ht0⟩,⟨_,ht0⟩,fun g1 g2 ⟨t2,z⟩ k=>⟨t2,k _ z⟩⟩
  have q3:=q2 na n2.free
  have hl:=Fi.len _ _ _ _ q3
  have r3:Vals (.ref na :: vs) (.ref na :: us):=.cons rfl r
  have hb3:=hb ⟨h',g,dr,tk,os⟩ (.ref na :: us) I3.kIn (by rw [List.append_nil,← r3.length];exact hl)
  rw [List.append_nil] at hb3
  refine wpAny_call (codeAny_mono (Fi.run _ X.stack _ _ ⟨.ref na :: us,[]⟩ (.ref na :: us) (.ref na :: vs) _ E0 (hr.make C us []) (I3.env0.make C us []) hb3 r3 q3) fun r s' hq=>?_)
  cases r with
  | error e=>exact False.elim hq
  | ok fl =>
    cases fl with
    | next=>exact False.elim hq
    | brk=>exact False.elim hq
    | cont=>exact False.elim hq
    | ret u =>
      obtain ⟨v,H4,I4,rv,ev,dx,hd,hea,qE⟩:=I3.after hq
      subst ev
      obtain rfl:u=Value.none:=rv
      refine ⟨rfl,wpAny_bind (wpAny_holding (wpAny_point (wpAny_pure ?_)))⟩
      obtain ⟨⟨t1,ht1⟩,_⟩:=I4.hok na _ hd
      obtain ⟨⟨oa,va,a1,_,_,a4,a5⟩,_⟩:=I4.hok ea _ hea
      have ne:na≠ea:=fun z=>by
        have:=n2.free
        rw [z,hea2] at this
        cases this
      obtain ⟨hp4,g4,dr4,tk4,os4⟩:=s'
      refine ⟨na,t1,some dx,rfl,ne,I4.bk _ _ hC,ht1,⟨oa,va,a1,a4,a5⟩,fun h5 kp hn5=>?_⟩
      have W:=I4.write (x:=na) (e:=na) (o:=.ext fun h=>∃ o,h.get? na=some o) (h':=h5) (t':=tk4) (by rw [hd];trivial) (.inl rfl) (fun b u n z=>(kp b n).trans z) ⟨_,hn5⟩ ⟨⟨_,hn5⟩,⟨_,hn5⟩,fun g1 g2 ⟨t2,z⟩ k=>⟨t2,k _ z⟩⟩
      have W2:=W.drop upd_same
      have e5:drop (upd H4 na (.ext fun h=>∃ o,h.get? na=some o)) na=drop H4 na:=by
        funext b;unfold drop upd;split<;>rfl
      rw [e5] at W2
      exact hT pins σ (drop H4 na) _ na _ _ W2 drop_same n2.old n2.pin hn5 rfl rfl qE
end
theorem takesN_suite {P:Program}{w:World}{K:PySem.W.Frag}{mg:Str→Option Value}{base:Heap}{N:List Str}{qual:Str}{scope:Scope}{f:Addr}{cd:Value}{A:Around}{outer:List Env}{s:Shared}{H:Hp}{E:XK}{ea:Addr}(hA:A.handled=none) :
    TakesN ((cxOf (CX1 P w) P w K mg base N qual scope f cd A outer s H E).suiteW ea (notedBy (model P w) ((cxOf (CX1 P w) P w K mg base N qual scope f cd A outer s H E).A.mark (some (.ref ea))) (cxOf (CX1 P w) P w K mg base N qual scope f cd A outer s H E).env (cameBackBy (model P w) (cxOf (CX1 P w) P w K mg base N qual scope f cd A outer s H E).A (cxOf (CX1 P w) P w K mg base N qual scope f cd A outer s H E).env (cxOf (CX1 P w) P w K mg base N qual scope f cd A outer s H E).xe))) (fun _=>E):=by
  intro pins σ H1 s1 na oe vs I0 hn hold hpin he hd h1 q
  have I:Inv (cxOf (CX1 P w) P w K mg base N qual scope f cd A outer s H E) pins σ H1 s1:=I0.unsuiteW fun _=>hA
  let l:=envOfC qual scope s.heap.objs.size f cd :: outer
  let B:Heap:=PySem.W.hideAll (noFr s1.heap l) [na]
  have bst:B.StaysIn s1.heap:=fun b o e=>of_noFr b o (PySem.W.of_hideAll [na] e)
  have bget:∀ b o,(noFr s1.heap l).get? b=some o→b≠na→B.get? b=some o:=fun b o e n=>PySem.W.hideAll_get _ e (by simpa using n)
  have bne:B.get? na=none:=PySem.W.hideAll_none [na] (by simp)
  have hokB:HOk P w H1 B:=fun a o e=>by
    have nt:∀ b u,H1 b=some u→b≠na:=fun b u q z=>by rw [z,hn] at q;cases q
    refine (I.hokB a o e).stay (fun b u hb q=>bget b u q ?_) (fun _ q=>q) fun _ _ q=>q
    rcases hb with rfl | hb
    · exact nt _ _ e
    · exact nt _ _ hb
  have F:Fl (cxOf (CX1 P w) P w K mg base N qual scope f cd A outer s H E) pins B:=by
    refine ⟨fun b o e n hb hx=>bget b o (I.flB.k0 b o e n hb hx) (hold b o e hx),fun b o e hb hx=>?_,fun p hp=>bget _ _ (I.flB.kp p hp) (hpin p hp)⟩
    obtain ⟨o',q'⟩:=I.flB.kt b o e hb hx
    exact ⟨o',bget b o' q' (hold b o e hx)⟩
  have hl:s1.heap.FunFrames B l:=funs_base (fun b hb=>by
    cases z:B.get? b with
    | none=>rfl
    | some o =>
      have:=noFr_none (h:=s1.heap) b hb
      rw [PySem.W.of_hideAll [na] z] at this
      cases this) I.stack
  have hfr:(envOfC qual scope s.heap.objs.size f cd).frame=some (envOfC qual scope s.heap.objs.size f cd).locals:=rfl
  show notedBy _ _ _ _ _ _
  unfold notedBy noteFrame
  simp only [show (cxOf (CX1 P w) P w K mg base N qual scope f cd A outer s H E).env.frame=some (envOfC qual scope s.heap.objs.size f cd).locals from rfl]
  refine wpAny_bind (wpAny_field he hd h1 ?_)
  rw [if_neg (by decide)]
  refine entry_ok (base:=B) (outer:=outer) (env:=envOfC qual scope s.heap.objs.size f cd) I.ok.frames hl hfr he bst bne hd (Array.getElem?_eq_some_iff.mp h1).1 fun h1 f1 u1=>?_
  unfold cameBackBy
  obtain ⟨_,_,_,oe1,vs1,T1,oT1,ts1,he1,_,_,hd1,hv1,_⟩:=id f1
  refine wpAny_bind (wpAny_field (s:={ s1 with heap:=h1 }) he1 hd1 hv1 ?_)
  rw [if_neg (by simp)]
  refine land_at (s:={ s1 with heap:=h1 }) (some (envOfC qual scope s.heap.objs.size f cd).locals) f1 fun h2 f2 u2=>?_
  have f2:Fly B (envOfC qual scope s.heap.objs.size f cd :: outer) na oe.cls oe.dict (rawInt (envOfC qual scope s.heap.objs.size f cd).locals) h2:=f2
  show wpAny _ _ (leaving _ _) _ _ _
  unfold leaving
  obtain ⟨_,_,_,oe2,vs2,T2,oT2,ts2,he2,_,_,hd2,hv2,_,_,hT2,dT2,hf2⟩:=id f2
  refine wpAny_bind (wpAny_noteFrame_inFlight (s:={ s1 with heap:=h2 }) hfr he2 hd2 hv2 hT2 dT2 hf2 ?_)
  refine land (s:={ s1 with heap:=h2 }) f2 fun h3 f3 u3=>?_
  have J:=I.flown f3.st ((u1.trans u2).trans u3) hokB F
  exact ⟨na,oe.cls,oe.dict,H1,B,rfl,I.os,I.bare,⟨f3.st,f3.en,f3.fr.2.2,f3.tr⟩,hokB,J.base,fun b o e n hb=>F.k0 b o e n hb (by intro z;cases z),fun b o e hb=>F.kt b o e hb (by intro z;cases z),q⟩
def tTryR (K:PySem.W.Frag) (C D:Addr) (sp:Sp) (E:St→XK) (tb:(St→XK)→TS) (t:TA):TS:=fun Dn σ H=>tb (fun σ' cls d H'=>∃ C',cls=.ref C'∧PySem.W.exmOne K (.ref C') (.ref C)=some true∧∀ ea,H' ea=none→tRaiseR D sp ea C' d E t Dn σ' (upd H' ea (excO2 ea C' d))) Dn σ H
section
variable {X:Cx}{C D f:Addr}{fd:FuncData}{ps:List Str}{sp:Sp}{k j:Nat}{x y:Str}{np hp pos yp cpos npos rpos:Pos}{body:List Stmt}{e:Expr}{es:List Expr}{t:TA}{E:St→XK}{tb:(St→XK)→TS}
theorem ps_tryR (hg:Gl X x) (hm:X.mg x=some (.ref C)) (hst:X.stack=X.env :: X.outer) (hfr:X.env.frame=some X.env.locals)
    (hb:∀ (W:Value→Shared→Prop) (pn:List (Addr×Obj)) (E:St→XK),Takes2 (X.tryB W pn) E→PSs (X.tryB W pn) body (tb E))
    (T:ExN X.K D f) (Fi:FnOkU X.prog X.w X.K X.mg X.base k f fd ps sp) (hr:Room (k + 1) X.A) (hbn:Binds X.K fd ps []) (hgy:Gl X y) (hmy:X.mg y=some (.ref D))
    (hT:∀ ea,TakesN (X.suiteW ea (notedBy (model X.prog X.w) (X.A.mark (some (.ref ea))) X.env (cameBackBy (model X.prog X.w) X.A X.env X.xe))) E)
    (ha:∀ ea W,PA (X.suiteW ea W) (e :: es) t)
    (hdb:(x == ("__debug__":Str))=false:=by decide) (hdy:(y == ("__debug__":Str))=false:=by decide) (he:starEach (e :: es) X.env=(false,eval e X.env) :: starEach es X.env:=by rfl) (hpl:(backTo cpos (starEach es X.env)).any (·.1)=false:=by rfl) :
    PS X (.Try body [.ExceptHandler (some (.Name x np)) none [.Raise (some (.Call (.Name y yp) (e :: es) [] cpos)) (some (.Constant .none j npos)) rpos] hp] [] [] pos) (tTryR X.K C D sp E tb t):=by
  intro pins s σ H D0 I h
  have hT2:Takes2 (X.tryB (fun e' s₁=>wpAny (model X.prog X.w) X.A (noteFrame e' X.env) (fun _ s₂=>wpAny (model X.prog X.w) X.A (setFlight e' none) (fun _ s₃=>wpAny (model X.prog X.w) X.A (handleBy e' X.env [.ExceptHandler (some (.Name x np)) none [.Raise (some (.Call (.Name y yp) (e :: es) [] cpos)) (some (.Constant .none j npos)) rpos] hp]) (SP X pins D0) X.xe s₃) X.xe s₂) X.xe s₁) (X.pn ++ pins)) (fun σ' cls d H'=>∃ C',cls=.ref C'∧PySem.W.exmOne X.K (.ref C') (.ref C)=some true∧∀ ea,H' ea=none→tRaiseR D sp ea C' d E t D0 σ' (upd H' ea (excO2 ea C' d))):=by
    intro pins' σ' e' s' hx
    obtain ⟨ea,cls,d,H',B,rfl,I1,fl,hok,F1,C',rfl,hmt,q⟩:=hx
    have I2:Inv X pins σ' H' s':=I1.untryB
    have F:Fl X pins B:=⟨F1.k0,F1.kt,fun p hp=>F1.kp p (List.mem_append_left _ hp)⟩
    have fl:FlyC (some .none) B (X.env :: X.outer) ea (.ref C') d .none s'.heap:=hst▸fl
    have fA:X.A.frames=some (X.env :: X.outer):=hst▸I.ok.frames
    refine note_onC fA hfr fl fun h1 f1 u1=>?_
    have J1:=I2.flown f1.st u1 hok F
    refine landC (s:={ s' with heap:=h1 }) f1 fun h2 f2 u2=>?_
    have J2:=J1.flown f2.st u2 hok F
    have LT:PySem.W.Looks (model X.prog X.w) h2 (typeOf (.ref ea)) (.ref C'):=by
      obtain ⟨ob,_,z,y,_⟩:=f2.there
      rw [← y];exact (PySem.W.Looks.ld z).andThen .now
    have hn:H' ea=none:=by
      cases z:H' ea with
      | none=>rfl
      | some o =>
        obtain ⟨ob,y⟩:=(hok ea o z).there
        rw [f2.en] at y;cases y
    refine wpAny_handleBy_cons (codeAny_handlers_test ?_) (by intro q;cases q)
    refine ld_glob (X:=X.suite ea) (J2.suite ea) hg hm ?_ hdb
    refine (PySem.W.exm_one (K:=X.K) J2.kIn LT hmt).here ?_
    refine codeAny_handlers_suite ?_
    refine landC (s:={ s' with heap:=h2 }) f2 fun h3 f3 u3=>?_
    have J3:=J2.flown f3.st u3 hok F
    have J4:=(J3.caught2 f3 hok F hn).suiteW ea (notedBy (model X.prog X.w) (X.A.mark (some (.ref ea))) X.env (cameBackBy (model X.prog X.w) X.A X.env X.xe))
    refine wpAny_mono (pss_one (ps_raiseR (X:=X.suiteW ea (notedBy (model X.prog X.w) (X.A.mark (some (.ref ea))) X.env (cameBackBy (model X.prog X.w) X.A X.env X.xe))) rfl T Fi hr.mark hbn hgy hmy (hT ea) (ha ea _) hdy he hpl) pins _ σ' _ D0 J4 (q ea hn)) (fun f s5 z=>?_) fun _ _ z=>z
    have back:∀ {σ5 H5},Inv (X.suiteW ea (notedBy (model X.prog X.w) (X.A.mark (some (.ref ea))) X.env (cameBackBy (model X.prog X.w) X.A X.env X.xe))) pins σ5 H5 s5→Inv X pins σ5 H5 s5:=fun J=>J.unsuiteW I.ok.hd
    cases f with
    | next=>obtain ⟨σ5,H5,J6,z⟩:=z;exact ⟨σ5,H5,back J6,z⟩
    | brk=>obtain ⟨σ5,H5,J6,z⟩:=z;exact ⟨σ5,H5,back J6,z⟩
    | cont=>obtain ⟨σ5,H5,J6,z⟩:=z;exact ⟨σ5,H5,back J6,z⟩
    | ret u=>obtain ⟨v,σ5,H5,J6,r,z⟩:=z;exact ⟨v,σ5,H5,back J6,r,z⟩
  refine wpAny_Try_except (wpAny_mono (hb _ (X.pn ++ pins) _ hT2 [] s σ H D0 (I.tryB _) h) (fun f s1 z=>?_) fun _ _ z=>z)
  cases f with
  | next=>obtain ⟨σ1,H1,J,z⟩:=z;exact wpAny_pure ⟨σ1,H1,J.untryB,z⟩
  | brk=>obtain ⟨σ1,H1,J,z⟩:=z;exact ⟨σ1,H1,J.untryB,z⟩
  | cont=>obtain ⟨σ1,H1,J,z⟩:=z;exact ⟨σ1,H1,J.untryB,z⟩
  | ret u=>obtain ⟨v,σ1,H1,J,r,z⟩:=z;exact ⟨v,σ1,H1,J.untryB,r,z⟩
end
end L2
namespace K05
open PySem L2 PyProof.Rows PySem.W
def top (i:Nat):Stmt:=PySem.Challenge.pw_volumemend_k05_no_text.main.body.getD i (.Pass ⟨0,0,0,0⟩)
abbrev s_NoText_init:Stmt:=inClass (top 5) 0
abbrev s_Layout_init:Stmt:=inClass (top 11) 0
abbrev s_Layout_many:Stmt:=inClass (top 11) 1
abbrev s_Layout_record_at:Stmt:=inClass (top 11) 2
abbrev s_Layout_names_at:Stmt:=inClass (top 11) 3
abbrev s_Layout_data_at:Stmt:=inClass (top 11) 4
abbrev s_is_written:Stmt:=top 16
abbrev s_numbers_of:Stmt:=top 17
abbrev s_read_layout:Stmt:=top 18
abbrev s_read_rows:Stmt:=top 19
abbrev s_read_volume:Stmt:=top 20
abbrev s_l_cell:Stmt:=top 22
abbrev s_l_mixed:Stmt:=top 23
abbrev s_l_number:Stmt:=top 24
abbrev s_l_any:Stmt:=top 25
abbrev s_l_rows:Stmt:=top 26
abbrev s_l_signs:Stmt:=top 27
abbrev s_l_word:Stmt:=top 28
abbrev s_l_head:Stmt:=top 29
abbrev s_l_spoiled:Stmt:=top 30
abbrev s_l_is_number:Stmt:=top 31
abbrev s_l_sizes:Stmt:=top 32
abbrev s_l_due:Stmt:=top 33
abbrev s_l_text:Stmt:=top 34
abbrev s_l_right:Stmt:=top 35
abbrev s_law:Stmt:=top 36
theorem sc_NoText_init:FnScope ["self","at"] ["self","at"] (defScope s_NoText_init):=⟨rfl,rfl,rfl,by decide +kernel,rfl,by decide +kernel,by decide +kernel⟩
theorem sc_Layout_init:FnScope ["self","files","slots","data"] ["self","files","slots","data"] (defScope s_Layout_init):=⟨rfl,rfl,rfl,by decide +kernel,rfl,by decide +kernel,by decide +kernel⟩
theorem sc_Layout_many:FnScope ["self"] ["self"] (defScope s_Layout_many):=⟨rfl,rfl,rfl,by decide +kernel,rfl,by decide +kernel,by decide +kernel⟩
theorem sc_Layout_record_at:FnScope ["self","f"] ["self","f"] (defScope s_Layout_record_at):=⟨rfl,rfl,rfl,by decide +kernel,rfl,by decide +kernel,by decide +kernel⟩
theorem sc_Layout_names_at:FnScope ["self","e"] ["self","e"] (defScope s_Layout_names_at):=⟨rfl,rfl,rfl,by decide +kernel,rfl,by decide +kernel,by decide +kernel⟩
theorem sc_Layout_data_at:FnScope ["self","i"] ["self","i"] (defScope s_Layout_data_at):=⟨rfl,rfl,rfl,by decide +kernel,rfl,by decide +kernel,by decide +kernel⟩
theorem sc_is_written:FnScope ["word","figures"] ["word"] (defScope s_is_written):=⟨rfl,rfl,rfl,by decide +kernel,rfl,by decide +kernel,by decide +kernel⟩
theorem sc_numbers_of:FnScope ["words","many"] ["words","many"] (defScope s_numbers_of):=⟨rfl,rfl,rfl,by decide +kernel,rfl,by decide +kernel,by decide +kernel⟩
theorem sc_read_layout:FnScope ["row","words","numbers"] ["row"] (defScope s_read_layout):=⟨rfl,rfl,rfl,by decide +kernel,rfl,by decide +kernel,by decide +kernel⟩
theorem sc_read_rows:FnScope ["rows","volume","at","row","numbers"] ["rows"] (defScope s_read_rows):=⟨rfl,rfl,rfl,by decide +kernel,rfl,by decide +kernel,by decide +kernel⟩
theorem sc_read_volume:FnScope ["text","rows","behind","layout","due","volume"] ["text"] (defScope s_read_volume):=⟨rfl,rfl,rfl,by decide +kernel,rfl,by decide +kernel,by decide +kernel⟩
theorem sc_l_cell:FnScope ["_law_script","_law_k"] ["_law_script","_law_k"] (defScope s_l_cell):=⟨rfl,rfl,rfl,by decide +kernel,rfl,by decide +kernel,by decide +kernel⟩
theorem sc_l_mixed:FnScope ["_law_cell_here","_law_k","_law_number_here"] ["_law_cell_here","_law_k"] (defScope s_l_mixed):=⟨rfl,rfl,rfl,by decide +kernel,rfl,by decide +kernel,by decide +kernel⟩
theorem sc_l_number:FnScope ["_law_cell_here","_law_k","_law_number_here"] ["_law_cell_here","_law_k"] (defScope s_l_number):=⟨rfl,rfl,rfl,by decide +kernel,rfl,by decide +kernel,by decide +kernel⟩
theorem sc_l_any:FnScope ["_law_layout","_law_cell_here","_law_many"] ["_law_layout","_law_cell_here"] (defScope s_l_any):=⟨rfl,rfl,rfl,by decide +kernel,rfl,by decide +kernel,by decide +kernel⟩
theorem sc_l_rows:FnScope ["_law_script","_law_layout","_law_rows_here","_law_row"] ["_law_script"] (defScope s_l_rows):=⟨rfl,rfl,rfl,by decide +kernel,rfl,by decide +kernel,by decide +kernel⟩
theorem sc_l_signs:FnScope ["_law_row","_law_cell_here","_law_sign","_law_at"] ["_law_row","_law_cell_here"] (defScope s_l_signs):=⟨rfl,rfl,rfl,by decide +kernel,rfl,by decide +kernel,by decide +kernel⟩
theorem sc_l_word:FnScope ["_law_row","_law_cell_here","_law_words","_law_at","_law_some"] ["_law_row","_law_cell_here"] (defScope s_l_word):=⟨rfl,rfl,rfl,by decide +kernel,rfl,by decide +kernel,by decide +kernel⟩
theorem sc_l_head:FnScope ["_law_cell_here","_law_some"] ["_law_cell_here"] (defScope s_l_head):=⟨rfl,rfl,rfl,by decide +kernel,rfl,by decide +kernel,by decide +kernel⟩
theorem sc_l_spoiled:FnScope ["_law_rows_here","_law_cell_here","_law_at","_law_more","_law_way"] ["_law_rows_here","_law_cell_here"] (defScope s_l_spoiled):=⟨rfl,rfl,rfl,by decide +kernel,rfl,by decide +kernel,by decide +kernel⟩
theorem sc_l_is_number:FnScope ["_law_word_here","_law_figures"] ["_law_word_here"] (defScope s_l_is_number):=⟨rfl,rfl,rfl,by decide +kernel,rfl,by decide +kernel,by decide +kernel⟩
theorem sc_l_sizes:FnScope ["_law_row","_law_words","_law_files","_law_slots","_law_data"] ["_law_row"] (defScope s_l_sizes):=⟨rfl,rfl,rfl,by decide +kernel,rfl,by decide +kernel,by decide +kernel⟩
theorem sc_l_due:FnScope ["_law_text_here","_law_rows_here","_law_ends","_law_many","_law_k","_law_words"] ["_law_text_here"] (defScope s_l_due):=⟨rfl,rfl,rfl,by decide +kernel,rfl,by decide +kernel,by decide +kernel⟩
theorem sc_l_text:FnScope ["_law_layout","_law_volume","_law_rows_here"] ["_law_layout","_law_volume"] (defScope s_l_text):=⟨rfl,rfl,rfl,by decide +kernel,rfl,by decide +kernel,by decide +kernel⟩
theorem sc_l_right:FnScope ["_law_text_here","_law_due_here","_law_found","e","_law_others"] ["_law_text_here"] (defScope s_l_right):=⟨rfl,rfl,rfl,by decide +kernel,rfl,by decide +kernel,by decide +kernel⟩
theorem sc_law:FnScope ["_law_script","_law_rows_here","_law_cell_here","_law_k","_law_text_here"] ["_law_script"] (defScope s_law):=⟨rfl,rfl,rfl,by decide +kernel,rfl,by decide +kernel,by decide +kernel⟩
set_option genInjectivity false in
set_option genSizeOfSpec false in
structure Tx (K:PySem.W.Frag) (mg:Str→Option Value) where
  C_Layout:Addr
  cl_Layout:Cls K C_Layout
  g_Layout:mg "Layout"=some (.ref C_Layout)
  n_Layout_files:NoAttr K C_Layout "files"
  n_Layout_slots:NoAttr K C_Layout "slots"
  n_Layout_data:NoAttr K C_Layout "data"
  C_VolumeError:Addr
  g_VolumeError:mg "VolumeError"=some (.ref C_VolumeError)
  C_NoLayout:Addr
  g_NoLayout:mg "NoLayout"=some (.ref C_NoLayout)
  C_NoVolume:Addr
  g_NoVolume:mg "NoVolume"=some (.ref C_NoVolume)
  C_NoText:Addr
  g_NoText:mg "NoText"=some (.ref C_NoText)
  C_NoPath:Addr
  g_NoPath:mg "NoPath"=some (.ref C_NoPath)
  C_TooFar:Addr
  g_TooFar:mg "TooFar"=some (.ref C_TooFar)
  f_NoText_init:Addr
  fd_NoText_init:FuncData
  F_NoText_init:Fun K "__init__" "NoText.__init__" s_NoText_init f_NoText_init fd_NoText_init
  b_NoText_init:Binds K fd_NoText_init ["self","at"] []
  f_Layout_init:Addr
  fd_Layout_init:FuncData
  F_Layout_init:Fun K "__init__" "Layout.__init__" s_Layout_init f_Layout_init fd_Layout_init
  b_Layout_init:Binds K fd_Layout_init ["self","files","slots","data"] []
  mk_Layout:Mk K C_Layout f_Layout_init
  f_Layout_many:Addr
  fd_Layout_many:FuncData
  F_Layout_many:Fun K "many" "Layout.many" s_Layout_many f_Layout_many fd_Layout_many
  b_Layout_many:Binds K fd_Layout_many ["self"] []
  m_Layout_many:Meth K C_Layout "many" f_Layout_many
  f_Layout_record_at:Addr
  fd_Layout_record_at:FuncData
  F_Layout_record_at:Fun K "record_at" "Layout.record_at" s_Layout_record_at f_Layout_record_at fd_Layout_record_at
  b_Layout_record_at:Binds K fd_Layout_record_at ["self","f"] []
  m_Layout_record_at:Meth K C_Layout "record_at" f_Layout_record_at
  f_Layout_names_at:Addr
  fd_Layout_names_at:FuncData
  F_Layout_names_at:Fun K "names_at" "Layout.names_at" s_Layout_names_at f_Layout_names_at fd_Layout_names_at
  b_Layout_names_at:Binds K fd_Layout_names_at ["self","e"] []
  m_Layout_names_at:Meth K C_Layout "names_at" f_Layout_names_at
  f_Layout_data_at:Addr
  fd_Layout_data_at:FuncData
  F_Layout_data_at:Fun K "data_at" "Layout.data_at" s_Layout_data_at f_Layout_data_at fd_Layout_data_at
  b_Layout_data_at:Binds K fd_Layout_data_at ["self","i"] []
  m_Layout_data_at:Meth K C_Layout "data_at" f_Layout_data_at
  f_is_written:Addr
  fd_is_written:FuncData
  F_is_written:Fun K "is_written" "is_written" s_is_written f_is_written fd_is_written
  b_is_written:Binds K fd_is_written ["word"] []
  g_is_written:mg "is_written"=some (.ref f_is_written)
  f_numbers_of:Addr
  fd_numbers_of:FuncData
  F_numbers_of:Fun K "numbers_of" "numbers_of" s_numbers_of f_numbers_of fd_numbers_of
  b_numbers_of:Binds K fd_numbers_of ["words","many"] []
  g_numbers_of:mg "numbers_of"=some (.ref f_numbers_of)
  f_read_layout:Addr
  fd_read_layout:FuncData
  F_read_layout:Fun K "read_layout" "read_layout" s_read_layout f_read_layout fd_read_layout
  b_read_layout:Binds K fd_read_layout ["row"] []
  g_read_layout:mg "read_layout"=some (.ref f_read_layout)
  f_read_rows:Addr
  fd_read_rows:FuncData
  F_read_rows:Fun K "read_rows" "read_rows" s_read_rows f_read_rows fd_read_rows
  b_read_rows:Binds K fd_read_rows ["rows"] []
  g_read_rows:mg "read_rows"=some (.ref f_read_rows)
  f_read_volume:Addr
  fd_read_volume:FuncData
  F_read_volume:Fun K "read_volume" "read_volume" s_read_volume f_read_volume fd_read_volume
  b_read_volume:Binds K fd_read_volume ["text"] []
  g_read_volume:mg "read_volume"=some (.ref f_read_volume)
  f_l_cell:Addr
  fd_l_cell:FuncData
  F_l_cell:Fun K "_law_cell" "_law_cell" s_l_cell f_l_cell fd_l_cell
  b_l_cell:Binds K fd_l_cell ["_law_script","_law_k"] []
  g_l_cell:mg "_law_cell"=some (.ref f_l_cell)
  f_l_mixed:Addr
  fd_l_mixed:FuncData
  F_l_mixed:Fun K "_law_mixed" "_law_mixed" s_l_mixed f_l_mixed fd_l_mixed
  b_l_mixed:Binds K fd_l_mixed ["_law_cell_here","_law_k"] []
  g_l_mixed:mg "_law_mixed"=some (.ref f_l_mixed)
  f_l_number:Addr
  fd_l_number:FuncData
  F_l_number:Fun K "_law_number" "_law_number" s_l_number f_l_number fd_l_number
  b_l_number:Binds K fd_l_number ["_law_cell_here","_law_k"] []
  g_l_number:mg "_law_number"=some (.ref f_l_number)
  f_l_any:Addr
  fd_l_any:FuncData
  F_l_any:Fun K "_law_any" "_law_any" s_l_any f_l_any fd_l_any
  b_l_any:Binds K fd_l_any ["_law_layout","_law_cell_here"] []
  g_l_any:mg "_law_any"=some (.ref f_l_any)
  f_l_rows:Addr
  fd_l_rows:FuncData
  F_l_rows:Fun K "_law_rows" "_law_rows" s_l_rows f_l_rows fd_l_rows
  b_l_rows:Binds K fd_l_rows ["_law_script"] []
  g_l_rows:mg "_law_rows"=some (.ref f_l_rows)
  f_l_signs:Addr
  fd_l_signs:FuncData
  F_l_signs:Fun K "_law_signs" "_law_signs" s_l_signs f_l_signs fd_l_signs
  b_l_signs:Binds K fd_l_signs ["_law_row","_law_cell_here"] []
  g_l_signs:mg "_law_signs"=some (.ref f_l_signs)
  f_l_word:Addr
  fd_l_word:FuncData
  F_l_word:Fun K "_law_word" "_law_word" s_l_word f_l_word fd_l_word
  b_l_word:Binds K fd_l_word ["_law_row","_law_cell_here"] []
  g_l_word:mg "_law_word"=some (.ref f_l_word)
  f_l_head:Addr
  fd_l_head:FuncData
  F_l_head:Fun K "_law_head" "_law_head" s_l_head f_l_head fd_l_head
  b_l_head:Binds K fd_l_head ["_law_cell_here"] []
  g_l_head:mg "_law_head"=some (.ref f_l_head)
  f_l_spoiled:Addr
  fd_l_spoiled:FuncData
  F_l_spoiled:Fun K "_law_spoiled" "_law_spoiled" s_l_spoiled f_l_spoiled fd_l_spoiled
  b_l_spoiled:Binds K fd_l_spoiled ["_law_rows_here","_law_cell_here"] []
  g_l_spoiled:mg "_law_spoiled"=some (.ref f_l_spoiled)
  f_l_is_number:Addr
  fd_l_is_number:FuncData
  F_l_is_number:Fun K "_law_is_number" "_law_is_number" s_l_is_number f_l_is_number fd_l_is_number
  b_l_is_number:Binds K fd_l_is_number ["_law_word_here"] []
  g_l_is_number:mg "_law_is_number"=some (.ref f_l_is_number)
  f_l_sizes:Addr
  fd_l_sizes:FuncData
  F_l_sizes:Fun K "_law_sizes" "_law_sizes" s_l_sizes f_l_sizes fd_l_sizes
  b_l_sizes:Binds K fd_l_sizes ["_law_row"] []
  g_l_sizes:mg "_law_sizes"=some (.ref f_l_sizes)
  f_l_due:Addr
  fd_l_due:FuncData
  F_l_due:Fun K "_law_due" "_law_due" s_l_due f_l_due fd_l_due
  b_l_due:Binds K fd_l_due ["_law_text_here"] []
  g_l_due:mg "_law_due"=some (.ref f_l_due)
  f_l_text:Addr
  fd_l_text:FuncData
  F_l_text:Fun K "_law_text" "_law_text" s_l_text f_l_text fd_l_text
  b_l_text:Binds K fd_l_text ["_law_layout","_law_volume"] []
  g_l_text:mg "_law_text"=some (.ref f_l_text)
  f_l_right:Addr
  fd_l_right:FuncData
  F_l_right:Fun K "_law_right" "_law_right" s_l_right f_l_right fd_l_right
  b_l_right:Binds K fd_l_right ["_law_text_here"] []
  g_l_right:mg "_law_right"=some (.ref f_l_right)
  f_law:Addr
  fd_law:FuncData
  F_law:Fun K "law" "law" s_law f_law fd_law
  b_law:Binds K fd_law ["_law_script"] []
  g_law:mg "law"=some (.ref f_law)
  t_WIDE:Tok
  g_WIDE:mg "WIDE"=some (.int 8 t_WIDE)
  t_RECORDS_AT:Tok
  g_RECORDS_AT:mg "RECORDS_AT"=some (.int 10 t_RECORDS_AT)
  t_LONGEST:Tok
  g_LONGEST:mg "LONGEST"=some (.int 40 t_LONGEST)
  t_WORD:Tok
  g_WORD:mg "WORD"=some (.str (Str.ofString "volume") t_WORD)
  t_FIGURES:Tok
  g_FIGURES:mg "FIGURES"=some (.str (Str.ofString "0123456789") t_FIGURES)
  xn_NoText:ExN K C_NoText f_NoText_init
  xs_NoText:ExS K C_NoText
  xh_NoText:PySem.W.hasDictIn K C_NoText=true
  n_NoText_at:NoAttr K C_NoText "at"
  ex_NoLayout:PySem.W.excIn K C_NoLayout bmV "ValueError.__new__"=true
  xt_NoText:ExT K C_NoText
  o_Layout:PySem.W.mroIn K C_Layout (.type "object")=some true
  k11:PySem.W.kitOne K (.ref C_Layout) (.ref C_Layout)=some true
  ha_Layout:PySem.W.findIn K (.ref C_Layout) "__class__"=some (some (.builtin "object.__class__"))
  hn_class:PySem.W.specialIn K (.builtin "object.__class__") "__get__"=some (some (.builtin "getset_descriptor.__get__"))
  tk_class:PySem.W.takesIn K (.builtin "object.__class__")=some true
  k_match:PySem.W.exmOne K (.ref C_NoText) (.ref C_VolumeError)=some true
  k_match2:PySem.W.exmOne K (.ref C_NoLayout) (.ref C_NoLayout)=some true
  k_self:PySem.W.kitOne K (.ref C_NoText) (.ref C_NoText)=some true
  k_none:PySem.W.kitAny K (.ref C_NoText) [.ref C_NoLayout,.ref C_NoPath,.ref C_NoVolume,.ref C_TooFar]=some false
  v_reads:PySem.W.readsIn K C_VolumeError (.type "type")=true
  v_init:PySem.W.findCls K (.ref C_VolumeError) (.type "type") "__init__"=some (.val (.builtin "ValueError.__init__"))
  v_ga:PySem.W.specialIn K (.ref C_VolumeError) "__getattribute__"=some (some (.builtin "type.__getattribute__"))
  z_len:mg "len"=none
  z_range:mg "range"=none
  z_isinstance:mg "isinstance"=none
  z_list:mg "list"=none
  z_tuple:mg "tuple"=none
  z_bool:mg "bool"=none
  z_str:mg "str"=none
  z_int:mg "int"=none
  z_all:mg "all"=none
  z_enumerate:mg "enumerate"=none
  z_min:mg "min"=none
def lay (F E B:Int):List (Str×V):=putF "data" (.int B) (putF "slots" (.int E) (putF "files" (.int F) []))
theorem fs:¬ (("files":Str)="slots"):=by decide +kernel
theorem fd:¬ (("files":Str)="data"):=by decide +kernel
theorem sd:¬ (("slots":Str)="data"):=by decide +kernel
theorem lay_files (F E B:Int):(lay F E B).lookup ("files":Str)=some (.int F):=by
  unfold lay
  rw [lookup_putF,if_neg fd,lookup_putF,if_neg fs,lookup_putF,if_pos rfl]
theorem lay_slots (F E B:Int):(lay F E B).lookup ("slots":Str)=some (.int E):=by
  unfold lay
  rw [lookup_putF,if_neg sd,lookup_putF,if_pos rfl]
theorem lay_data (F E B:Int):(lay F E B).lookup ("data":Str)=some (.int B):=by
  unfold lay
  rw [lookup_putF,if_pos rfl]
theorem lay_no (F E B:Int) {m:Str}(h1:¬ m="files") (h2:¬ m="slots") (h3:¬ m="data"):(lay F E B).lookup m=none:=by
  unfold lay
  rw [lookup_putF,if_neg h3,lookup_putF,if_neg h2,lookup_putF,if_neg h1]
  rfl
def Lay (C:Addr) (H:Hp) (p:Addr) (F E B:Int):Prop:=∃ dx,H p=some (.ins C dx (lay F E B))
structure LayOk (F E B:Int):Prop where
  f1:2≤F
  f2:F≤12
  e1:1≤E
  e2:E≤8
  b1:2≤B
  b2:B≤40
def spInit (C N:Addr):Sp:=fun vs H Q X=>∃ (p dx:Addr) (F E B:Int),vs=[.ref p,.int F,.int E,.int B]∧H p=some (.ins C dx []) ∧
  (LayOk F E B→∀ H':Hp,H' p=some (.ins C dx (lay F E B))→(∀ b o,H b=some o→b≠p→H' b=some o)→Q .non H')∧(¬ LayOk F E B→X (.ref N) none H)
def spAt (C:Addr) (g:Int→Int→Int→Int→Int):Sp:=fun vs H Q _=>∃ (p:Addr) (F E B n:Int),vs=[.ref p,.int n]∧Lay C H p F E B∧Q (.int (g F E B n)) H
def mixN (c k:Int):Int:=(c + 7919 * k + 1) * 48271 % 2147483647
def mix (c k:Int):Int:=mixN c k * (mixN c k / 1009 + 69621) % 2147483647
theorem mix_lo (c k:Int):0≤mix c k:=Int.emod_nonneg _ (by decide)
theorem mix_hi (c k:Int):mix c k < 2147483647:=Int.emod_lt_of_pos _ (by decide)
def spCell (K:PySem.W.Frag):Sp:=fun vs H Q _=>∃ (a:Addr) (ns:List Int) (k:Nat),vs=[.ref a,.int k]∧SqL K H a (ns.map V.int)∧ns.length≤63∧Q (.int (ns.getD k 0)) H
def spMixed:Sp:=fun vs H Q _=>∃ c k:Int,vs=[.int c,.int k]∧Q (.int (mix c k)) H
def spMany (C:Addr):Sp:=fun vs H Q _=>∃ (p:Addr) (F E B:Int),vs=[.ref p]∧Lay C H p F E B∧Q (.int (10 + F + E + B)) H
def Sm (n:Int):Prop:=n.natAbs < 10 ^ 40
theorem bnd_pos (x:Int):Sm (x % 10 ^ 40):=by
  have h1:=Int.emod_nonneg x (show (10:Int) ^ 40≠0 by decide)
  have h2:=Int.emod_lt_of_pos x (show (0:Int) < 10 ^ 40 by decide)
  show (x % 10 ^ 40).natAbs < 10 ^ 40
  generalize x % 10 ^ 40=y at h1 h2
  omega
theorem bnd_neg (x:Int):Sm (0 - x % 10 ^ 40):=by
  have h:=bnd_pos x
  have h:(x % 10 ^ 40).natAbs < 10 ^ 40:=h
  show (0 - x % 10 ^ 40).natAbs < 10 ^ 40
  generalize x % 10 ^ 40=y at h
  omega
theorem bnd_12 (x:Int):Sm (x % 10 ^ 12):=by
  have h1:=Int.emod_nonneg x (show (10:Int) ^ 12≠0 by decide)
  have h2:=Int.emod_lt_of_pos x (show (0:Int) < 10 ^ 12 by decide)
  show (x % 10 ^ 12).natAbs < 10 ^ 40
  have:(10:Int) ^ 12=1000000000000:=by decide
  have:(10:Nat) ^ 40=10000000000000000000000000000000000000000:=by decide
  generalize x % 10 ^ 12=y at h1 h2
  omega
theorem bnd_50 (x:Int):Sm (x % 50):=by
  show (x % 50).natAbs < 10 ^ 40
  have:(10:Nat) ^ 40=10000000000000000000000000000000000000000:=by decide
  omega
def spNumber:Sp:=fun vs H Q _=>∃ c k:Int,vs=[.int c,.int k]∧∀ i:Int,Sm i→Q (.int i) H
def Sms (rows:List (List Int)):Prop:=∀ r∈rows,r.length=8∧∀ n∈r,Sm n
def spAny (C:Addr):Sp:=fun vs H Q _=>∃ (p:Addr) (F E B c:Int),vs=[.ref p,.int c]∧Lay C H p F E B∧LayOk F E B∧∀ (v:Addr) (as:List Addr) (rows:List (List Int)) (H':Hp),Same H H'→H v=none→(∀ b∈as,H b=none)→Vol H' v as rows→(rows.length:Int)=10 + F + E + B→Sms rows→Q (.ref v) H'
theorem takes02 {X:Cx}:Takes2 X (fun _=>E0):=fun _ _ _ _ ⟨_,_,_,_,_,_,_,_,_,_,q⟩=>q.elim
theorem op_mul_str {X:Cx}:OpR X (binaryOp .Mult) (fun x y H Q=>∃ i n,x=.str i∧y=.int n∧i.length=1∧1 < n∧n≤1000∧∀ r:Str,r.length≤1000→Q (.str r) H):=by
  intro pins s σ H x y v u Q I rx ry h
  obtain ⟨i,n,rfl,rfl,hl,h1,h2,q⟩:=h
  obtain ⟨t,rfl⟩:=rx
  obtain ⟨t',rfl⟩:=ry
  have e1:¬ n < 1:=by omega
  have e2:(n == 1 || i.length == 0)=false:=by
    rw [hl]
    have:(n == 1)=false:=by simpa using (show ¬ n=1 by omega)
    rw [this];rfl
  have hz:(⟨(List.replicate n.toNat i.cps).foldl (· ++ ·) #[]⟩:Str).length≤1000:=by
    have key:∀ (k:Nat) (acc:Array Nat),((List.replicate k i.cps).foldl (· ++ ·) acc).size=acc.size + k * i.length:=by
      intro k
      induction k with
      | zero=>intro acc;simp
      | succ k ih =>
        intro acc
        rw [List.replicate_succ,List.foldl_cons,ih,Array.size_append,Nat.succ_mul]
        have:i.cps.size=i.length:=rfl
        omega
    show ((List.replicate n.toNat i.cps).foldl (· ++ ·) #[]).size≤1000
    rw [key,hl]
    simp
    omega
  refine P.mul_str ?_ (fun _ _=>?_) (fun _ _=>?_) ?_
  · rw [decide_eq_false (by omega),decide_eq_false (by omega)];rfl
  · rw [hl]
    have:(1:Int)≤(2 ^ 63 - 1) / n:=(Int.le_ediv_iff_mul_le (by omega)).mpr (by omega)
    omega
  · rw [hl]
    unfold PySem.Builtin.Str.tooLong
    exact decide_eq_false (by rw [sizeLine_eq];omega)
  · rw [if_neg e1,if_neg (by rw [e2];decide)]
    have z:=post_val_or_str (s:=s) (c:=False) (y:=i) (z:=⟨(List.replicate n.toNat i.cps).foldl (· ++ ·) #[]⟩) (t:=t) (Q:=EP X pins σ Q) ⟨by rw [if_neg id];exact Nat.le_trans hz (by decide),fun t' k=>by rw [if_neg id];exact ⟨.str _,H,I.tok _,⟨_,rfl⟩,q _ hz⟩⟩
    rw [if_neg id] at z
    exact z
section
variable {P:Program}{w:World}{K:PySem.W.Frag}{mg:Str→Option Value}{base:Heap}
theorem ok_init (T:Tx K mg):FnOk P w K mg base (CX2 P w) 1 T.f_Layout_init T.fd_Layout_init ["self","files","slots","data"] (spInit T.C_Layout T.C_NoLayout):=by
  refine T.F_Layout_init.okX2 sc_Layout_init (fun vs H Q E h=>?_) (fun cdv A outer s H vs Q X hr h=>?_)
  · obtain ⟨p,dx,F,E,B,rfl,_⟩:=h
    rfl
  · obtain ⟨p,dx,F,E,B,rfl,hp,k,kx⟩:=h
    refine ⟨_,pss_cons (ps_if (pt_not (pt_chain op_le op_le pe_int (pv 1) pe_int)) (pss_one (ps_raise2 rfl T.ex_NoLayout rfl T.g_NoLayout takesN_cx2 (pa_cons pe_str pa_nil))) pss_nil)
      (pss_cons (ps_if (pt_not (pt_chain op_le op_le pe_int (pv 2) pe_int)) (pss_one (ps_raise2 rfl T.ex_NoLayout rfl T.g_NoLayout takesN_cx2 (pa_cons pe_str pa_nil))) pss_nil)
      (pss_cons (ps_if (pt_not (pt_chain op_le op_le pe_int (pv 3) pe_int)) (pss_one (ps_raise2 rfl T.ex_NoLayout rfl T.g_NoLayout takesN_cx2 (pa_cons pe_str pa_nil))) pss_nil)
      (pss_cons (ps_fld (pv 0) (pv 1) rfl) (pss_cons (ps_fld (pv 0) (pv 2) rfl) (pss_one (ps_fld (pv 0) (pv 3) rfl)))))),?_⟩
    have no:¬ LayOk F E B→[V.str "x"].length≤sizeLine∧X (.ref T.C_NoLayout) none H:=fun h=>⟨by decide,kx h⟩
    refine ⟨_,rfl,_,_,rfl,rfl,_,rfl,ite2 (fun f1=>?_) (fun f1=>⟨_,rfl,iteT (no fun ok=>f1 (by simpa using ok.f1))⟩)⟩
    refine ⟨_,_,rfl,rfl,_,rfl,ite2 (fun f2=>no fun ok=>by simp [ok.f2] at f2) (fun f2=>?_)⟩
    refine ⟨_,rfl,_,_,rfl,rfl,_,rfl,ite2 (fun e1=>?_) (fun e1=>⟨_,rfl,iteT (no fun ok=>e1 (by simpa using ok.e1))⟩)⟩
    refine ⟨_,_,rfl,rfl,_,rfl,ite2 (fun e2=>no fun ok=>by simp [ok.e2] at e2) (fun e2=>?_)⟩
    refine ⟨_,rfl,_,_,rfl,rfl,_,rfl,ite2 (fun b1=>?_) (fun b1=>⟨_,rfl,iteT (no fun ok=>b1 (by simpa using ok.b1))⟩)⟩
    refine ⟨_,_,rfl,rfl,_,rfl,ite2 (fun b2=>no fun ok=>by simp [ok.b2] at b2) (fun b2=>?_)⟩
    have ok:LayOk F E B:=⟨by simpa using f1,by simpa using f2,by simpa using e1,by simpa using e2,by simpa using b1,by simpa using b2⟩
    refine ⟨_,rfl,_,rfl,p,T.C_Layout,dx,_,rfl,hp,T.cl_Layout,T.n_Layout_files,(by show 0 < 1000;decide),?_⟩
    refine ⟨_,rfl,_,rfl,p,T.C_Layout,dx,_,rfl,upd_same,T.cl_Layout,T.n_Layout_slots,Nat.lt_of_le_of_lt (length_putF _ _ _) (by decide),?_⟩
    refine ⟨_,rfl,_,rfl,p,T.C_Layout,dx,_,rfl,upd_same,T.cl_Layout,T.n_Layout_data,Nat.lt_of_le_of_lt (length_putF _ _ _) (Nat.lt_of_le_of_lt (Nat.add_le_add_right (length_putF _ _ _) 1) (by decide)),?_⟩
    refine k ok _ upd_same fun b o e hb=>?_
    rw [upd_ne hb,upd_ne hb,upd_ne hb]
    exact e
theorem ok_record_at (T:Tx K mg):FnOk P w K mg base CX0 1 T.f_Layout_record_at T.fd_Layout_record_at ["self","f"] (spAt T.C_Layout fun _ _ _ n=>10 + n):=by
  refine T.F_Layout_record_at.ok sc_Layout_record_at (fun vs H Q E h=>?_) (fun cdv A outer s H vs Q E hr h=>?_)
  · obtain ⟨p,F,E,B,n,rfl,_⟩:=h
    rfl
  · obtain ⟨p,F,E,B,n,rfl,hp,k⟩:=h
    refine ⟨_,pss_one (ps_ret (pe_op op_add (pe_glob (v:=.int 10) rfl T.g_RECORDS_AT ⟨_,rfl⟩) (pv 1))),?_⟩
    exact ⟨_,rfl,_,_,rfl,rfl,k⟩
theorem ok_names_at (T:Tx K mg):FnOk P w K mg base CX0 2 T.f_Layout_names_at T.fd_Layout_names_at ["self","e"] (spAt T.C_Layout fun F _ _ n=>10 + F + n):=by
  refine T.F_Layout_names_at.ok sc_Layout_names_at (fun vs H Q E h=>?_) (fun cdv A outer s H vs Q E hr h=>?_)
  · obtain ⟨p,F,E,B,n,rfl,_⟩:=h
    rfl
  · obtain ⟨p,F,E,B,n,rfl,⟨dx,hp⟩,k⟩:=h
    refine ⟨_,pss_one (ps_ret (pe_op op_add (pe_meth (pv 0) T.cl_Layout T.m_Layout_record_at (ok_record_at T) hr T.b_Layout_record_at .nil pass0 (pa_cons (pe_fld (pv 0) rfl) pa_nil)) (pv 1))),?_⟩
    exact ⟨_,rfl,p,dx,_,rfl,hp,lay_no _ _ _ (by decide +kernel) (by decide +kernel) (by decide +kernel),_,rfl,p,T.C_Layout,dx,_,_,rfl,hp,T.cl_Layout,T.n_Layout_files,lay_files _ _ _,p,F,E,B,F,rfl,⟨dx,hp⟩,_,rfl,_,_,rfl,rfl,k⟩
theorem ok_data_at (T:Tx K mg):FnOk P w K mg base CX0 3 T.f_Layout_data_at T.fd_Layout_data_at ["self","i"] (spAt T.C_Layout fun F E _ n=>10 + F + E + n):=by
  refine T.F_Layout_data_at.ok sc_Layout_data_at (fun vs H Q E h=>?_) (fun cdv A outer s H vs Q E hr h=>?_)
  · obtain ⟨p,F,E,B,n,rfl,_⟩:=h
    rfl
  · obtain ⟨p,F,E,B,n,rfl,⟨dx,hp⟩,k⟩:=h
    refine ⟨_,pss_one (ps_ret (pe_op op_add (pe_meth (pv 0) T.cl_Layout T.m_Layout_names_at (ok_names_at T) hr T.b_Layout_names_at .nil pass0 (pa_cons (pe_fld (pv 0) rfl) pa_nil)) (pv 1))),?_⟩
    exact ⟨_,rfl,p,dx,_,rfl,hp,lay_no _ _ _ (by decide +kernel) (by decide +kernel) (by decide +kernel),_,rfl,p,T.C_Layout,dx,_,_,rfl,hp,T.cl_Layout,T.n_Layout_slots,lay_slots _ _ _,p,F,E,B,E,rfl,⟨dx,hp⟩,_,rfl,_,_,rfl,rfl,k⟩
theorem ok_cell (T:Tx K mg):FnOk P w K mg base CX0 1 T.f_l_cell T.fd_l_cell ["_law_script","_law_k"] (spCell K):=by
  refine T.F_l_cell.ok sc_l_cell (fun vs H Q E h=>?_) (fun cdv A outer s H vs Q E hr h=>?_)
  · obtain ⟨a,ns,k,rfl,_⟩:=h
    rfl
  · obtain ⟨a,ns,k,rfl,hS,hl,q⟩:=h
    refine ⟨_,pss_cons (ps_if (pt_cmpR op_lt (pv 1) (pe_callB call_len_seq rfl T.z_len PySem.boot_len (pa_cons (pv 0) pa_nil)) (nomark _)) (pss_one (ps_ret (pe_ix ix_list (pv 0) (pv 1) (fun _ _=>rfl)))) pss_nil) (pss_one (ps_ret pe_int)),?_⟩
    refine ⟨_,rfl,_,rfl,a,_,rfl,.inl hS,_,_,rfl,rfl,_,rfl,ite2 (fun h=>?_) (fun h=>?_)⟩
    rotate_left
    · have hk:ns.length≤k:=by
        have:=of_decide_eq_false (Bool.eq_false_iff.mpr h)
        rw [List.length_map] at this
        omega
      rw [List.getD_eq_getElem?_getD,List.getElem?_eq_none hk] at q
      exact q
    have hk:k < ns.length:=by
      have:=of_decide_eq_true h
      rw [List.length_map] at this
      omega
    rw [List.getD_eq_getElem?_getD,List.getElem?_eq_getElem hk] at q
    exact ⟨_,rfl,_,rfl,a,_,k,.int ns[k],rfl,rfl,hS,atI_nat (by rw [List.getElem?_map,List.getElem?_eq_getElem hk];rfl),q⟩
theorem ok_mixed (T:Tx K mg):FnOk P w K mg base CX0 1 T.f_l_mixed T.fd_l_mixed ["_law_cell_here","_law_k"] spMixed:=by
  refine T.F_l_mixed.ok sc_l_mixed (fun vs H Q E h=>?_) (fun cdv A outer s H vs Q E hr h=>?_)
  · obtain ⟨c,k,rfl,_⟩:=h
    rfl
  · obtain ⟨c,k,rfl,q⟩:=h
    refine ⟨_,pss_cons (ps_set (i:=2) sc_l_mixed.nd rfl (Or.inl rfl) (pe_op op_mod (pe_op op_mul (pe_op op_add (pe_op op_add (pv 0) (pe_op op_mul pe_int (pv 1))) pe_int) pe_int) pe_int))
      (pss_one (ps_ret (pe_op op_mod (pe_op op_mul (pv 2) (pe_op op_add (pe_op op_fdiv (pv 2) pe_int) pe_int)) pe_int))),?_⟩
    refine ⟨_,rfl,_,rfl,_,_,rfl,rfl,.inl ⟨by decide,by decide⟩,_,_,rfl,rfl,_,_,rfl,rfl,_,_,rfl,rfl,.inr ⟨by decide,by decide⟩,_,_,rfl,rfl,(by show (0:Int) < 2147483647;decide),?_⟩
    have h0:0≤mixN c k:=Int.emod_nonneg _ (by decide)
    have h1:mixN c k < 2147483647:=Int.emod_lt_of_pos _ (by decide)
    exact ⟨_,rfl,_,rfl,_,_,rfl,rfl,⟨by decide,by decide⟩,_,_,rfl,rfl,_,_,rfl,rfl,.inl (show _ < mixN c k∧mixN c k < _ from ⟨by omega,by omega⟩),_,_,rfl,rfl,(by show (0:Int) < 2147483647;decide),q⟩
theorem ok_many (T:Tx K mg):FnOk P w K mg base CX0 4 T.f_Layout_many T.fd_Layout_many ["self"] (spMany T.C_Layout):=by
  refine T.F_Layout_many.ok sc_Layout_many (fun vs H Q E h=>?_) (fun cdv A outer s H vs Q E hr h=>?_)
  · obtain ⟨p,F,E,B,rfl,_⟩:=h
    rfl
  · obtain ⟨p,F,E,B,rfl,⟨dx,hp⟩,k⟩:=h
    refine ⟨_,pss_one (ps_ret (pe_meth (pv 0) T.cl_Layout T.m_Layout_data_at (ok_data_at T) hr T.b_Layout_data_at .nil pass0 (pa_cons (pe_fld (pv 0) rfl) pa_nil))),?_⟩
    exact ⟨_,rfl,p,dx,_,rfl,hp,lay_no _ _ _ (by decide +kernel) (by decide +kernel) (by decide +kernel),_,rfl,p,T.C_Layout,dx,_,_,rfl,hp,T.cl_Layout,T.n_Layout_data,lay_data _ _ _,p,F,E,B,B,rfl,⟨dx,hp⟩,k⟩
theorem ok_number (T:Tx K mg):FnOk P w K mg base CX0 2 T.f_l_number T.fd_l_number ["_law_cell_here","_law_k"] spNumber:=by
  refine T.F_l_number.ok sc_l_number (fun vs H Q E h=>?_) (fun cdv A outer s H vs Q E hr h=>?_)
  · obtain ⟨c,k,rfl,_⟩:=h
    rfl
  · obtain ⟨c,k,rfl,q⟩:=h
    refine ⟨_,pss_cons (ps_set (i:=2) sc_l_number.nd rfl (Or.inl rfl) (pe_call (ok_mixed T) hr rfl T.g_l_mixed T.F_l_mixed.kp T.b_l_mixed .nil pass0 (pa_cons (pv 0) (pa_cons (pv 1) pa_nil))))
      (pss_cons (ps_if (pt_cmpR op_eq (pe_op op_mod (pv 2) pe_int) pe_int (nomark _)) (pss_one (ps_ret (pe_op op_sub pe_int (pe_op op_mod (pe_op op_mul (pe_op op_mul (pe_op op_mul (pe_op op_mul (pe_op op_fdiv (pv 2) pe_int) (pv 2)) (pv 2)) (pe_call (ok_mixed T) hr rfl T.g_l_mixed T.F_l_mixed.kp T.b_l_mixed .nil pass0 (pa_cons (pv 0) (pa_cons (pe_op op_add (pv 1) pe_int) pa_nil)))) (pv 2)) (pe_op op_pow pe_int pe_int))))) pss_nil)
      (pss_cons (ps_if (pt_cmpR op_eq (pe_op op_mod (pv 2) pe_int) pe_int (nomark _)) (pss_one (ps_ret (pe_op op_mod (pe_op op_mul (pe_op op_mul (pe_op op_mul (pe_op op_mul (pe_op op_fdiv (pv 2) pe_int) (pv 2)) (pv 2)) (pe_call (ok_mixed T) hr rfl T.g_l_mixed T.F_l_mixed.kp T.b_l_mixed .nil pass0 (pa_cons (pv 0) (pa_cons (pe_op op_add (pv 1) pe_int) pa_nil)))) (pv 2)) (pe_op op_pow pe_int pe_int)))) pss_nil)
      (pss_cons (ps_if (pt_cmpR op_lt (pe_op op_mod (pv 2) pe_int) pe_int (nomark _)) (pss_one (ps_ret (pe_op op_mod (pe_op op_mul (pe_op op_fdiv (pv 2) pe_int) (pv 2)) (pe_op op_pow pe_int pe_int)))) pss_nil)
      (pss_one (ps_ret (pe_op op_mod (pe_op op_fdiv (pv 2) pe_int) pe_int)))))),?_⟩
    refine ⟨_,rfl,_,rfl,c,k,rfl,?_⟩
    have h0:=mix_lo c k;have h1:=mix_hi c k
    generalize mix c k=N at h0 h1 ⊢
    have hN:-(2 ^ 64) < N∧N < 2 ^ 64:=⟨by omega,by omega⟩
    refine ⟨_,rfl,_,_,rfl,rfl,(by show (0:Int) < 8;decide),rfl,_,rfl,ite2 (fun _=>?_) (fun _=>?_)⟩
    · refine ⟨_,rfl,_,_,rfl,rfl,⟨by decide,by decide⟩,_,rfl,_,_,rfl,rfl,.inr hN,_,rfl,_,_,rfl,rfl,.inr hN,_,rfl,_,rfl,_,_,rfl,rfl,c,_,rfl,?_⟩
      have g0:=mix_lo c (k + 50021);have g1:=mix_hi c (k + 50021)
      generalize mix c (k + 50021)=M at g0 g1 ⊢
      have hM:-(2 ^ 64) < M∧M < 2 ^ 64:=⟨by omega,by omega⟩
      exact ⟨_,_,rfl,rfl,.inr hM,_,rfl,_,_,rfl,rfl,.inr hN,_,_,rfl,rfl,⟨by decide,by decide,by decide⟩,_,_,rfl,rfl,(by show (0:Int) < 10 ^ 40;decide),_,_,rfl,rfl,q _ (bnd_neg _)⟩
    refine ⟨_,rfl,_,_,rfl,rfl,(by show (0:Int) < 8;decide),rfl,_,rfl,ite2 (fun _=>?_) (fun _=>?_)⟩
    · refine ⟨_,rfl,_,_,rfl,rfl,⟨by decide,by decide⟩,_,rfl,_,_,rfl,rfl,.inr hN,_,rfl,_,_,rfl,rfl,.inr hN,_,rfl,_,rfl,_,_,rfl,rfl,c,_,rfl,?_⟩
      have g0:=mix_lo c (k + 50021);have g1:=mix_hi c (k + 50021)
      generalize mix c (k + 50021)=M at g0 g1 ⊢
      have hM:-(2 ^ 64) < M∧M < 2 ^ 64:=⟨by omega,by omega⟩
      exact ⟨_,_,rfl,rfl,.inr hM,_,rfl,_,_,rfl,rfl,.inr hN,_,_,rfl,rfl,⟨by decide,by decide,by decide⟩,_,_,rfl,rfl,(by show (0:Int) < 10 ^ 40;decide),q _ (bnd_pos _)⟩
    refine ⟨_,rfl,_,_,rfl,rfl,(by show (0:Int) < 8;decide),_,_,rfl,rfl,_,rfl,ite2 (fun _=>?_) (fun _=>?_)⟩
    · exact ⟨_,rfl,_,_,rfl,rfl,⟨by decide,by decide⟩,_,rfl,_,_,rfl,rfl,.inr hN,_,_,rfl,rfl,⟨by decide,by decide,by decide⟩,_,_,rfl,rfl,(by show (0:Int) < 10 ^ 12;decide),q _ (bnd_12 _)⟩
    exact ⟨_,rfl,_,_,rfl,rfl,⟨by decide,by decide⟩,_,_,rfl,rfl,(by show (0:Int) < 50;decide),q _ (bnd_50 _)⟩
theorem ok_any (T:Tx K mg):FnOk P w K mg base CX0 3 T.f_l_any T.fd_l_any ["_law_layout","_law_cell_here"] (spAny T.C_Layout):=by
  refine T.F_l_any.ok sc_l_any (fun vs H Q E h=>?_) (fun cdv A outer s H vs Q E hr h=>?_)
  · obtain ⟨p,F,E,B,c,rfl,_⟩:=h
    rfl
  · obtain ⟨p,F,E,B,c,rfl,⟨dx,hp⟩,ok,k⟩:=h
    have hr2:Room 2 _:=hr.mono (by decide)
    refine ⟨_,pss_cons (ps_set (i:=2) sc_l_any.nd rfl (Or.inl rfl) (pe_op op_add (pe_op op_add (pe_op op_add pe_int (pe_fld (pv 0) rfl)) (pe_fld (pv 0) rfl)) (pe_fld (pv 0) rfl)))
      (pss_one (ps_ret (pe_comp (N':=["_law_block","_law_cell_here"]) (cap:=[none,some 1]) rfl (compOk_of (by kernel_rfl)) (pi_range1 rfl T.z_range (pa_cons (pv 2) pa_nil))
        (fun cells C s₀ H₀ fp pins=>⟨pg_name (i:=0) (ndp2 (by decide +kernel)) rfl (Or.inr rfl) (.inl rfl),pifs_nil,
          pe_comp (N':=["_law_place","_law_block","_law_cell_here"]) (cap:=[none,some 0,some 1]) rfl (compOk_of (by kernel_rfl)) (pi_range1 rfl T.z_range (pa_cons pe_int pa_nil))
            (fun cells C s₀ H₀ fp pins=>⟨pg_name (i:=0) (ndp3 (by decide +kernel) (by decide +kernel) (by decide +kernel)) rfl (Or.inl rfl) (.inr rfl),pifs_nil,
              pe_call (ok_number T) hr2 rfl T.g_l_number T.F_l_number.kp T.b_l_number .nil pass0 (pa_cons (pv 2) (pa_cons (pe_op op_add (pe_op op_mul pe_int (pv 1)) (pv 0)) pa_nil))⟩)⟩)))),?_⟩
    have f1:=ok.f1;have f2:=ok.f2;have e1:=ok.e1;have e2:=ok.e2;have b1:=ok.b1;have b2:=ok.b2
    have hN:(10 + F + E + B).toNat≤1000:=by omega
    refine ⟨_,rfl,p,T.C_Layout,dx,_,_,rfl,hp,T.cl_Layout,T.n_Layout_files,lay_files _ _ _,_,_,rfl,rfl,_,rfl,p,T.C_Layout,dx,_,_,rfl,hp,T.cl_Layout,T.n_Layout_slots,lay_slots _ _ _,_,_,rfl,rfl,_,rfl,p,T.C_Layout,dx,_,_,rfl,hp,T.cl_Layout,T.n_Layout_data,lay_data _ _ _,_,_,rfl,rfl,?_⟩
    refine ⟨_,rfl,(10 + F + E + B),rfl,by omega,by omega,?_⟩
    refine comp_range (cap:=[none,some 1]) (σ:=[some (.ref p),some (.int c),some (.int (10 + F + E + B))]) (small_len hN) (fun i ys σ H'=>∃ (as:List Addr) (rows:List (List Int)),ys=as.map V.ref∧as.length=i∧i≤(10 + F + E + B).toNat∧(∃ s0,σ=[s0,some (.int c)])∧Rows H H' as rows∧Sms rows)
      (by exact ⟨[],[],rfl,rfl,Nat.zero_le _,⟨none,rfl⟩,Rows.nil,fun _ h=>(nomatch h)⟩) (fun i ys σ H' ⟨as,rows,h1,h2,h3,_⟩=>⟨h3,by rw [h1];simp [h2]⟩) ?_ ?_
    · rintro i ys σ H' hi ⟨as,rows,rfl,h2,h3,⟨s0,rfl⟩,hR,h8⟩
      refine ⟨(8:Int),rfl,by decide,by decide,?_⟩
      refine comp_range (cap:=[none,some 0,some 1]) (σ:=[some (.int (0 + i)),some (.int c)]) (small_len (n:=8) (by decide)) (fun j zs σ' H2=>∃ ns:List Int,zs=ns.map V.int∧ns.length=j∧(∀ n∈ns,Sm n)∧j≤8∧(∃ s0,σ'=[s0,some (.int (0 + i)),some (.int c)])∧H2=H')
        (by exact ⟨[],rfl,rfl,fun _ h=>(nomatch h),Nat.zero_le _,⟨none,rfl⟩,rfl⟩) (fun j zs σ' H2 ⟨ns,h1,h2,_,h3,_⟩=>⟨h3,by rw [h1];simp [h2]⟩) ?_ ?_
      · rintro j zs σ' H2 hj ⟨ns,rfl,g2,g4,g3,⟨s0',rfl⟩,rfl⟩
        refine ⟨_,rfl,_,rfl,_,_,rfl,rfl,.inl ⟨by decide,by decide⟩,_,rfl,_,_,rfl,rfl,c,_,rfl,fun z hz=>⟨ns ++ [z],by simp,by simp [g2],fun n hn=>(by rcases List.mem_append.mp hn with hn | hn;exact g4 n hn;rw [List.mem_singleton.mp hn];exact hz),hj,⟨_,rfl⟩,rfl⟩⟩
      · rintro zs σ' H2 ⟨ns,rfl,g2,g4,g3,⟨s0',rfl⟩,rfl⟩ D hD
        refine ⟨as ++ [D],rows ++ [ns],by simp,by simp [h2],hi,⟨_,rfl⟩,hR.add (Same.upd0 hD) hD upd_same,fun r hr=>?_⟩
        rcases List.mem_append.mp hr with hr | hr
        · exact h8 r hr
        · have:r=ns:=by simpa using hr
          rw [this];exact ⟨g2,g4⟩
    · rintro ys σ H' ⟨as,rows,rfl,h2,h3,⟨s0,rfl⟩,hR,h8⟩ v hv
      exact k v as rows _ (hR.same.upd hv) (hR.same.free hv) hR.new (hR.vol hv) (by have:=hR.len;omega) h8
end
end K05
namespace K05
open PySem L2 PyProof.Rows PySem.W
section
variable {P:Program}{w:World}{K:PySem.W.Frag}{mg:Str→Option Value}{base:Heap}
abbrev num (n:Int):Str:=Str.ofString (toString n)
def wr (ns:List Int):Str:=Str.join ⟨#[32]⟩ (ns.map num)
theorem lit_sp:(Str.ofString " ":Str)=⟨#[32]⟩:=by decide +kernel
theorem lit_nl:(Str.ofString "\n":Str)=⟨#[10]⟩:=by decide +kernel
theorem lit_mi:(Str.ofString "-":Str)=⟨#[45]⟩:=by decide +kernel
theorem lit_0:(Str.ofString "0":Str)=⟨#[48]⟩:=by decide +kernel
theorem lit_e:(Str.ofString "":Str)=⟨#[]⟩:=by decide +kernel
theorem lit_fig:(Str.ofString "0123456789":Str).cps.toList=[48,49,50,51,52,53,54,55,56,57]:=by decide +kernel
theorem lit_vol:(Str.ofString "volume":Str).cps.toList=[118,111,108,117,109,101]:=by decide +kernel
theorem lit_vols:(Str.ofString "volume ":Str).cps.toList=[118,111,108,117,109,101,32]:=by decide +kernel
theorem fig_in (c:Nat):(!(Builtin.Str.occurrences (Str.ofString "0123456789") ⟨#[c]⟩ 0 (Str.ofString "0123456789").length 1).isEmpty)=dig c:=by
  rw [StrLaws.found_one,lit_fig]
  unfold dig
  by_cases h:48≤c∧c≤57
  · rw [decide_eq_true h.1,decide_eq_true h.2]
    refine decide_eq_true ?_
    obtain ⟨d,hd,rfl⟩:∃ d,d < 10∧c=48 + d:=⟨c - 48,by omega,by omega⟩
    revert d
    decide
  · rw [decide_eq_false (fun z=>h ?_)]
    · by_cases h1:48≤c
      · rw [decide_eq_true h1,decide_eq_false (fun z=>h ⟨h1,z⟩)];rfl
      · rw [decide_eq_false h1];rfl
    · simp at z
      omega
theorem join_e_codes:∀ ps:List Str,(Str.join ⟨#[]⟩ ps).cps.toList=ps.flatMap fun p=>p.cps.toList
  | []=>rfl
  | [p]=>by simp [Str.join]
  | p :: q :: r=>by
    show (p ++ ⟨#[]⟩ ++ Str.join ⟨#[]⟩ (q :: r)).cps.toList=_
    rw [Str.cps_append,Str.cps_append,List.flatMap_cons,← join_e_codes (q :: r)]
    simp
theorem join_nl:∀ ls:List Str,Str.join ⟨#[]⟩ (ls.map fun p=>p ++ ⟨#[10]⟩)=Str.join ⟨#[10]⟩ (ls ++ [⟨#[]⟩])
  | []=>rfl
  | l :: ls=>by
    apply str_ext
    have ih:=congrArg (fun s:Str=>s.cps.toList) (join_nl ls)
    have ih:(Str.join ⟨#[]⟩ (ls.map fun p=>p ++ ⟨#[10]⟩)).cps.toList=(Str.join ⟨#[10]⟩ (ls ++ [⟨#[]⟩])).cps.toList:=ih
    rw [List.map_cons,join_e_codes,List.flatMap_cons,← join_e_codes,ih]
    cases ls with
    | nil =>
      show (l ++ ⟨#[10]⟩).cps.toList ++ _=(Str.join ⟨#[10]⟩ [l,⟨#[]⟩]).cps.toList
      rw [join_codes,Str.cps_append]
      simp [Str.join]
    | cons m ls =>
      show (l ++ ⟨#[10]⟩).cps.toList ++ _=(Str.join ⟨#[10]⟩ (l :: m :: (ls ++ [⟨#[]⟩]))).cps.toList
      rw [join_codes,Str.cps_append]
      simp
theorem num_len {n:Int}(h:Sm n):(num n).length≤41:=w_len h
theorem wr_len {ns:List Int}(h:∀ n∈ns,Sm n):(wr ns).length≤ns.length * 42:=by
  have h1:=StrLaws.join_length_le ⟨#[32]⟩ (ns.map num)
  have h2:=StrLaws.sumLen_le (B:=41) (ns.map num) (fun y hy=>by
    obtain ⟨n,hn,rfl⟩:=List.mem_map.mp hy
    exact num_len (h n hn))
  rw [List.length_map] at h1 h2
  have h3:(⟨#[32]⟩:Str).length=1:=rfl
  rw [h3] at h1
  show (Str.join ⟨#[32]⟩ (ns.map num)).length≤_
  omega
def volS:Str:=Str.ofString "volume"
def first (F E B:Int):Str:=volS ++ ⟨#[32]⟩ ++ wr [F,E,B]
def lines (F E B:Int) (rows:List (List Int)):List Str:=first F E B :: rows.map wr
def txt (F E B:Int) (rows:List (List Int)):Str:=Str.join ⟨#[]⟩ ((lines F E B rows).map fun p=>p ++ ⟨#[10]⟩)
theorem sm_small {n:Int}(h1:-1000≤n) (h2:n≤1000):Sm n:=by
  show n.natAbs < 10 ^ 40
  have:(10:Nat) ^ 40=10000000000000000000000000000000000000000:=by decide
  omega
theorem lay_sm {F E B:Int}(ok:LayOk F E B):∀ n∈[F,E,B],Sm n:=fun n hn=>by
  have:=ok.f1;have:=ok.f2;have:=ok.e1;have:=ok.e2;have:=ok.b1;have:=ok.b2
  simp at hn
  rcases hn with rfl | rfl | rfl<;>exact sm_small (by omega) (by omega)
theorem first_len {F E B:Int}(ok:LayOk F E B):(first F E B).length≤133:=by
  have h:=wr_len (lay_sm ok)
  unfold first
  rw [Str.length_append,Str.length_append]
  have:volS.length=6:=by rw [← len_codes,show volS.cps.toList=_ from lit_vol];rfl
  have:(⟨#[32]⟩:Str).length=1:=rfl
  have:[F,E,B].length=3:=rfl
  omega
theorem row_len {rows:List (List Int)}(h:Sms rows) {r:List Int}(hr:r∈rows):(wr r).length≤336:=by
  have:=wr_len (h r hr).2
  rw [(h r hr).1] at this
  omega
theorem lines_len {F E B:Int}{rows:List (List Int)}(ok:LayOk F E B) (h:Sms rows):∀ p∈lines F E B rows,p.length≤336:=fun p hp=>by
  unfold lines at hp
  rcases List.mem_cons.mp hp with rfl | hp
  · have:=first_len ok;omega
  · obtain ⟨r,hr,rfl⟩:=List.mem_map.mp hp
    exact row_len h hr
end
end K05
namespace K05
open PySem L2 PyProof.Rows PySem.W
section
variable {P:Program}{w:World}{K:PySem.W.Frag}{mg:Str→Option Value}{base:Heap}
theorem comp_strs {K:PySem.W.Frag}{a:Addr}{ns:List Int}{σ:L2.St}{H:Hp}{Q:VK}(hS:SqL K H a (ns.map V.int)) (hn:ns.length≤1000) (hs:∀ n∈ns,Sm n)
    (k:∀ D,H D=none→Q (.ref D) (upd H D (.lst ((ns.map num).map V.str)))) :
    CompR [none] (gName 0) tTrue (tCB (fun xs H Q=>∃ i:Int,xs=[.int i]∧i.natAbs.log2 < 1920∧Q (.str (Str.ofString (toString i))) H) (tCons (tVar 0) tNil)) σ Q (Itl K a) H:=by
  refine comp_list (cap:=[none]) (K:=K) (a:=a) (xs:=ns.map V.int) (small_len (by rw [List.length_map];exact hn)) (fun i ys σ H'=>i≤ns.length∧ys=((ns.take i).map num).map V.str∧σ.length=1∧H'=H)
    (by exact ⟨Nat.zero_le _,rfl,rfl,rfl⟩) (fun i ys σ H' ⟨h1,h2,_,h4⟩=>⟨by rw [List.length_map];exact h1,by rw [h2,List.length_map,List.length_map,List.length_take];omega,by rw [h4];exact hS⟩) ?_ ?_
  · rintro i x ys σ H' hx ⟨h1,rfl,h3,rfl⟩
    rw [List.getElem?_map] at hx
    cases en:ns[i]? with
    | none=>rw [en] at hx;cases hx
    | some n =>
      rw [en] at hx
      cases hx
      have hi:i < ns.length:=(List.getElem?_eq_some_iff.mp en).1
      match σ,h3 with
      | [z0],_=>exact ⟨_,rfl,n,rfl,log_lt (hs n (List.mem_of_getElem? en)),hi,by rw [List.take_add_one,en,List.map_append,List.map_append];rfl,rfl,rfl⟩
  · rintro ys σ H' ⟨h1,rfl,h3,rfl⟩ D hD
    rw [List.length_map,List.take_length]
    exact k D hD
theorem comp_nl {K:PySem.W.Frag}{a:Addr}{ls:List Str}{σ:L2.St}{H:Hp}{Q:VK}(hS:SqL K H a (ls.map V.str)) (hn:ls.length≤1000) (hs:∀ p∈ls,p.length≤1000)
    (k:∀ D,H D=none→Q (.ref D) (upd H D (.lst ((ls.map fun p=>p ++ ⟨#[10]⟩).map V.str)))) :
    CompR [none] (gName 0) tTrue (tOp (fun x y H Q=>∃ i j,x=.str i∧y=.str j∧i.length + j.length≤sizeLine∧Q (.str (i ++ j)) H) (tVar 0) (tC (.str (Str.ofString "\n")))) σ Q (Itl K a) H:=by
  refine comp_list (cap:=[none]) (K:=K) (a:=a) (xs:=ls.map V.str) (small_len (by rw [List.length_map];exact hn)) (fun i ys σ H'=>i≤ls.length∧ys=((ls.take i).map fun p=>p ++ ⟨#[10]⟩).map V.str∧σ.length=1∧H'=H)
    (by exact ⟨Nat.zero_le _,rfl,rfl,rfl⟩) (fun i ys σ H' ⟨h1,h2,_,h4⟩=>⟨by rw [List.length_map];exact h1,by rw [h2,List.length_map,List.length_map,List.length_take];omega,by rw [h4];exact hS⟩) ?_ ?_
  · rintro i x ys σ H' hx ⟨h1,rfl,h3,rfl⟩
    rw [List.getElem?_map] at hx
    cases en:ls[i]? with
    | none=>rw [en] at hx;cases hx
    | some n =>
      rw [en] at hx
      cases hx
      have hi:i < ls.length:=(List.getElem?_eq_some_iff.mp en).1
      have hz:n.length + (Str.ofString "\n").length≤sizeLine:=by
        have:=hs n (List.mem_of_getElem? en)
        rw [lit_nl]
        have:(⟨#[10]⟩:Str).length=1:=rfl
        exact Nat.le_trans (show _≤1001 by omega) (by decide)
      match σ,h3 with
      | [z0],_=>exact ⟨_,rfl,n,_,rfl,rfl,hz,hi,by rw [List.take_add_one,en,lit_nl];simp,rfl,rfl⟩
  · rintro ys σ H' ⟨h1,rfl,h3,rfl⟩ D hD
    rw [List.length_map,List.take_length]
    exact k D hD
theorem wr_ok {ns:List Int}(hn:ns.length≤1000) (hs:∀ n∈ns,Sm n):JoinOk (Str.ofString " ") (ns.map num)=true:=by
  refine joinOk_of (B:=41) (fun y hy=>?_) ?_
  · obtain ⟨n,hn,rfl⟩:=List.mem_map.mp hy
    exact num_len (hs n hn)
  · have h1:(⟨#[32]⟩:Str).length=1:=rfl
    rw [lit_sp,List.length_map,h1]
    omega
theorem txt_ok {F E B:Int}{rows:List (List Int)}(ok:LayOk F E B) (hn:rows.length≤100) (hs:Sms rows):JoinOk (Str.ofString "") ((lines F E B rows).map fun p=>p ++ ⟨#[10]⟩)=true:=by
  refine joinOk_of (B:=337) (fun y hy=>?_) ?_
  · obtain ⟨p,hp,rfl⟩:=List.mem_map.mp hy
    have:=lines_len ok hs p hp
    rw [Str.length_append]
    have:(⟨#[10]⟩:Str).length=1:=rfl
    omega
  · have h0:(⟨#[]⟩:Str).length=0:=rfl
    rw [lit_e,List.length_map,h0]
    have:(lines F E B rows).length=rows.length + 1:=by unfold lines;rw [List.length_cons,List.length_map]
    omega
theorem figs_len (l:List Nat):(figs l).length≤l.length:=by
  unfold figs
  split
  · simp
  · exact Nat.le_refl _
def spIsW:Sp:=fun vs H Q _=>∃ z:Str,vs=[.str z]∧z.length≤1000000∧∀ H',Same H H'→Q (.bl (isW z.cps.toList)) H'
theorem ok_iswritten (T:Tx K mg):FnOk P w K mg base CX0 1 T.f_is_written T.fd_is_written ["word"] spIsW:=by
  refine T.F_is_written.ok sc_is_written (fun vs H Q E h=>?_) (fun cdv A outer s H vs Q E hr h=>?_)
  · obtain ⟨z,rfl,_⟩:=h
    rfl
  · obtain ⟨z,rfl,hz,k⟩:=h
    refine ⟨_,pss_cut (ps_set (i:=1) sc_is_written.nd rfl (Or.inl rfl) (pe_ifExp (pt_val (pe_bm PySem.F.plainAttrs_str PySem.F.slot_str_startswith PySem.F.type_str_startswith mt_startswith (pv 0) (pa_cons pe_str pa_nil))) (pe_slice sl_str (pv 0) (po_some pe_int) po_none) (pv 0)))
      (pss_cons (ps_if (pt_not (pt_chain op_le op_le pe_int (pe_callB call_len_str rfl T.z_len PySem.boot_len (pa_cons (pv 1) pa_nil)) (pe_glob (v:=.int 40) rfl T.g_LONGEST ⟨_,rfl⟩))) (pss_one (ps_ret pe_bl)) pss_nil)
      (pss_cons (ps_if (pt_not (pt_val (pe_callB (call_allL rfl) rfl T.z_all boot_all (pa_cons (pe_comp (N':=["sign"]) (cap:=[none]) rfl (compOk_of (by kernel_rfl)) (pi_text (pv 1)) (fun cells C s₀ H₀ fp pins=>⟨pg_name (i:=0) ndp1 rfl (Or.inl rfl) (.inr rfl),pifs_nil,pe_cmpR op_in_str (pv 0) (pe_glob (v:=.str (Str.ofString "0123456789")) rfl T.g_FIGURES ⟨_,rfl⟩) rfl⟩)) pa_nil)))) (pss_one (ps_ret pe_bl)) pss_nil)
      (pss_one (ps_ret (pe_orI (pe_cmpR op_eq (pv 0) pe_str (nomark _)) (pe_one (pe_not (pe_bm PySem.F.plainAttrs_str PySem.F.slot_str_startswith PySem.F.type_str_startswith mt_startswith (pv 1) (pa_cons pe_str pa_nil))))))))),?_⟩
    have big:(1000000:Nat)≤sizeLine:=by decide
    have lz:=len_codes z
    refine ⟨fun σ H'=>∃ y:Str,y.cps.toList=figs z.cps.toList∧σ=[some (.str z),some (.str y)]∧H'=H,?_,?_⟩
    · refine ⟨_,rfl,rfl,z,_,rfl,rfl,_,rfl,?_⟩
      rw [lit_mi,starts_one]
      by_cases hm:z.cps.toList.head?=some 45
      · refine iteB (decide_eq_true hm) ⟨_,rfl,_,rfl,z,rfl,by omega,_,?_,rfl,rfl⟩
        have:1≤z.length:=by
          rw [← lz]
          cases hc:z.cps.toList with
          | nil=>rw [hc] at hm;cases hm
          | cons _ _=>simp
        rw [slice_one this]
        cases hc:z.cps.toList with
        | nil=>rw [hc] at hm;cases hm
        | cons c r=>rw [hc] at hm;cases hm;rfl
      · exact iteBF (decide_eq_false hm) ⟨_,rfl,z,(figs_pos hm).symm,rfl,rfl⟩
    rintro σ H' ⟨y,hy,rfl,rfl⟩
    have ly:=len_codes y
    have lf:(figs z.cps.toList).length≤z.length:=by rw [← lz];exact figs_len _
    have yz:y.length≤1000000:=by rw [← ly,hy];omega
    have fin:∀ b,isW z.cps.toList=b→∀ H1,Same H' H1→Q (.bl b) H1:=fun b e H1 s1=>by rw [← e];exact k H1 s1
    refine ⟨_,rfl,y,rfl,by omega,_,_,rfl,rfl,_,rfl,?_⟩
    by_cases h1:(1:Int)≤(y.length:Int)
    rotate_left
    · refine iteBF (decide_eq_false h1) ⟨_,rfl,iteT (fin false ?_ _ (Same.refl _))⟩
      unfold isW
      rw [← hy,ly,decide_eq_false (show ¬ 1≤y.length by omega)]
      rfl
    refine iteB (decide_eq_true h1) ⟨_,_,rfl,rfl,_,rfl,?_⟩
    by_cases h2:(y.length:Int)≤40
    rotate_left
    · refine ite2 (fun z=>?_) (fun z=>?_)
      · refine fin false ?_ _ (Same.refl _)
        unfold isW
        rw [← hy,ly,decide_eq_false (show ¬ y.length≤40 by omega)]
        simp
      · exact absurd (by rw [decide_eq_false h2];rfl) z
    refine ite2 (fun z=>absurd z (by rw [decide_eq_true h2];decide)) (fun _=>?_)
    refine ⟨_,rfl,y,rfl,?_⟩
    refine comp_text (cap:=[none]) (x:=y) (by rw [ly];omega) (fun i ys σ H1=>i≤y.cps.toList.length∧ys=((y.cps.toList.take i).map dig).map V.bl∧σ.length=1∧H1=H')
      (by exact ⟨Nat.zero_le _,rfl,rfl,rfl⟩) (fun i ys σ H1 ⟨g1,g2,_,_⟩=>⟨g1,by rw [g2,List.length_map,List.length_map,List.length_take];omega⟩) ?_ ?_
    · rintro i c ys σ H1 hc ⟨g1,rfl,g3,rfl⟩
      have hi:i < y.cps.toList.length:=(List.getElem?_eq_some_iff.mp hc).1
      match σ,g3 with
      | [z0],_ =>
        refine ⟨_,rfl,_,_,rfl,rfl,hi,?_,rfl,rfl⟩
        rw [fig_in,List.take_add_one,hc]
        simp
    rintro ys σ H1 ⟨g1,rfl,g3,rfl⟩ D hD
    rw [List.take_length]
    refine ⟨D,y.cps.toList.map dig,rfl,SqL.of upd_same,_,rfl,?_⟩
    have ea:(y.cps.toList.map dig).all id=y.cps.toList.all dig:=by rw [List.all_map];rfl
    rw [ea]
    have sD:=Same.upd0 (o:=.lst ((y.cps.toList.map dig).map V.bl)) hD
    cases h3:y.cps.toList.all dig
    · refine iteT (fin false ?_ _ sD)
      unfold isW
      rw [← hy,h3]
      simp
    refine iteF ?_
    refine ⟨_,rfl,rfl,decide (z.cps.toList=[48]),!decide (y.cps.toList.head?=some 48),?_,(fun _=>⟨_,rfl,rfl,y,_,rfl,rfl,_,rfl,?_,rfl⟩),fin _ ?_ _ sD⟩
    · congr 1
      have:(z == Str.ofString "0")=decide (z.cps.toList=[48]):=by
        by_cases e:z.cps.toList=[48]
        · rw [decide_eq_true e]
          have:z=Str.ofString "0":=str_ext (by rw [e,lit_0])
          rw [this]
          exact beq_self_eq_true _
        · rw [decide_eq_false e]
          refine beq_eq_false_iff_ne.mpr fun q=>e ?_
          rw [q,lit_0]
      first | exact this | (rw [← this];rfl) | (simp only [eqV,dec_str];exact this)
    · rw [lit_0,starts_one]
    · unfold isW
      rw [← hy,h3,ly,decide_eq_true (show 1≤y.length by omega),decide_eq_true (show y.length≤40 by omega)]
      rfl
def spNums (K:PySem.W.Frag):Sp:=fun vs H Q _=>∃ (a:Addr) (ws:List Str) (m:Int),vs=[.ref a,.int m]∧SqL K H a (ws.map V.str)∧ws.length≤1000000∧(∀ x∈ws,x.length≤1000000) ∧
  (((ws.length:Int)=m∧(ws.all fun x=>isW x.cps.toList)=true)→∀ (l:Addr) (H':Hp),Same H H'→H l=none→H' l=some (.lst ((ws.map fun x=>numV x.cps.toList).map V.int))→Q (.ref l) H') ∧
  (¬ ((ws.length:Int)=m∧(ws.all fun x=>isW x.cps.toList)=true)→∀ H',Same H H'→Q .non H')
theorem ok_numbers (T:Tx K mg):FnOk P w K mg base CX0 2 T.f_numbers_of T.fd_numbers_of ["words","many"] (spNums K):=by
  refine T.F_numbers_of.ok sc_numbers_of (fun vs H Q E h=>?_) (fun cdv A outer s H vs Q E hr h=>?_)
  · obtain ⟨a,ws,m,rfl,_⟩:=h
    rfl
  · obtain ⟨a,ws,m,rfl,hS,hn,hl,k1,k0⟩:=h
    refine ⟨_,pss_cons (ps_if (PW.pt (pw_or (pt_cmpR op_ne (pe_callB call_len_seq rfl T.z_len PySem.boot_len (pa_cons (pv 0) pa_nil)) (pv 1) (nomark _)) (pw_or1 (pt_not (pt_val (pe_callB (call_allL rfl) rfl T.z_all boot_all (pa_cons (pe_comp (N':=["word"]) (cap:=[none]) rfl (compOk_of (by kernel_rfl)) (pi_list (pv 0))
        (fun cells C s₀ H₀ fp pins=>⟨pg_name (i:=0) ndp1 rfl (Or.inl rfl) (.inr rfl),pifs_nil,pe_call (ok_iswritten T) hr rfl T.g_is_written T.F_is_written.kp T.b_is_written .nil pass0 (pa_cons (pv 0) pa_nil)⟩)) pa_nil))))))) (pss_one (ps_ret pe_non)) pss_nil)
      (pss_one (ps_ret (pe_comp (N':=["word"]) (cap:=[none]) rfl (compOk_of (by kernel_rfl)) (pi_list (pv 0))
        (fun cells C s₀ H₀ fp pins=>⟨pg_name (i:=0) ndp1 rfl (Or.inl rfl) (.inr rfl),pifs_nil,pe_callTy call_intText rfl T.z_int (by kernel_rfl) (pa_cons (pv 0) pa_nil)⟩)))),?_⟩
    have big:(1000000:Nat)≤sizeLine:=by decide
    refine ⟨_,rfl,a,_,rfl,.inl hS,_,rfl,rfl,_,rfl,?_⟩
    rw [List.length_map]
    by_cases hm:(ws.length:Int)=m
    rotate_left
    · exact iteNF (int_ne hm) (k0 (fun z=>hm z.1) _ (Same.refl _))
    refine iteNS (by rw [hm]) ?_
    refine ⟨_,rfl,a,rfl,⟨_,hS⟩,?_⟩
    refine comp_list (cap:=[none]) (K:=K) (a:=a) (xs:=ws.map V.str) (by rw [List.length_map];omega) (fun i ys σ H'=>i≤ws.length∧ys=((ws.take i).map fun x=>isW x.cps.toList).map V.bl∧σ.length=1∧Same H H')
      (by exact ⟨Nat.zero_le _,rfl,rfl,Same.refl _⟩) (fun i ys σ H' ⟨h1,h2,_,h4⟩=>⟨by rw [List.length_map];exact h1,by rw [h2,List.length_map,List.length_map,List.length_take];omega,h4.seq hS⟩) ?_ ?_
    · rintro i x ys σ H' hx ⟨h1,rfl,h3,sH⟩
      rw [List.getElem?_map] at hx
      cases en:ws[i]? with
      | none=>rw [en] at hx;cases hx
      | some n =>
        rw [en] at hx
        cases hx
        have hi:i < ws.length:=(List.getElem?_eq_some_iff.mp en).1
        match σ,h3 with
        | [z0],_=>exact ⟨_,rfl,n,rfl,hl n (List.mem_of_getElem? en),fun H2 s2=>⟨hi,by rw [List.take_add_one,en];simp,rfl,sH.trans s2⟩⟩
    rintro ys σ H1 ⟨h1,rfl,h3,s1⟩ D hD
    rw [List.length_map,List.take_length]
    refine ⟨D,ws.map fun x=>isW x.cps.toList,rfl,SqL.of upd_same,_,rfl,?_⟩
    have ea:(ws.map fun x=>isW x.cps.toList).all id=ws.all fun x=>isW x.cps.toList:=by rw [List.all_map];rfl
    rw [ea]
    have s2:=s1.upd (o:=.lst ((ws.map fun x=>isW x.cps.toList).map V.bl)) hD
    cases ha:ws.all fun x=>isW x.cps.toList
    · exact iteT (k0 (fun z=>by rw [ha] at z;exact absurd z.2 (by decide)) _ s2)
    refine iteF ?_
    generalize upd H1 D (.lst ((ws.map fun x=>isW x.cps.toList).map V.bl))=H2 at s2 ⊢
    refine ⟨_,rfl,a,rfl,⟨_,s2.seq hS⟩,?_⟩
    refine comp_list (cap:=[none]) (K:=K) (a:=a) (xs:=ws.map V.str) (by rw [List.length_map];omega) (fun i ys σ H'=>i≤ws.length∧ys=((ws.take i).map fun x=>numV x.cps.toList).map V.int∧σ.length=1∧H'=H2)
      (by exact ⟨Nat.zero_le _,rfl,rfl,rfl⟩) (fun i ys σ H' ⟨h1,h2,_,h4⟩=>⟨by rw [List.length_map];exact h1,by rw [h2,List.length_map,List.length_map,List.length_take];omega,by rw [h4];exact s2.seq hS⟩) ?_ ?_
    · rintro i x ys σ H' hx ⟨h1,rfl,h3,rfl⟩
      rw [List.getElem?_map] at hx
      cases en:ws[i]? with
      | none=>rw [en] at hx;cases hx
      | some n =>
        rw [en] at hx
        cases hx
        have hi:i < ws.length:=(List.getElem?_eq_some_iff.mp en).1
        have hw:=int_of_w (List.all_eq_true.mp ha n (List.mem_of_getElem? en))
        match σ,h3 with
        | [z0],_=>exact ⟨_,rfl,n,_,rfl,by omega,hw.1,hi,by rw [List.take_add_one,en];simp,rfl,rfl⟩
    rintro ys σ H3 ⟨h1,rfl,h3,rfl⟩ l hl'
    rw [List.length_map,List.take_length]
    exact k1 ⟨hm,ha⟩ l _ (s2.upd hl') (s2.free hl') upd_same
end
end K05
namespace K05
open PySem L2 PyProof.Rows PySem.W
section
variable {P:Program}{w:World}{K:PySem.W.Frag}{mg:Str→Option Value}{base:Heap}
def spXInit (C:Addr):Sp:=fun vs H Q _=>∃ (e:Addr) (k:Int),vs=[.ref e,.int k]∧H e=some (excN e C)∧k.natAbs.log2 < 1920∧∀ dx,H dx=none→dx≠e→Q .non (upd (upd H e (excD e C dx)) dx (.xd [("at",.int k)]))
theorem ok_xinit (T:Tx K mg):FnOk P w K mg base CX0 1 T.f_NoText_init T.fd_NoText_init ["self","at"] (spXInit T.C_NoText):=by
  refine T.F_NoText_init.ok sc_NoText_init (fun vs H Q E h=>?_) (fun cdv A outer s H vs Q E hr h=>?_)
  · obtain ⟨e,k,rfl,_⟩:=h
    rfl
  · obtain ⟨e,k,rfl,he,hk,q⟩:=h
    refine ⟨_,pss_cons (ps_expr (pe_binit rfl T.g_VolumeError T.v_reads T.v_init T.v_ga (pa_cons (pv 0) (pa_cons (pe_fstr3 (pv 1)) pa_nil)))) (pss_one (ps_fldX (pv 0) (pv 1) rfl)),?_⟩
    refine ⟨_,rfl,_,rfl,k,rfl,hk,fun z=>⟨e,T.C_NoText,T.f_NoText_init,_,rfl,he,T.xn_NoText,(by show 1≤sizeLine;decide),?_⟩⟩
    exact ⟨_,rfl,_,rfl,e,T.C_NoText,rfl,he,T.xs_NoText,T.n_NoText_at,fun dx h1 h2=>q dx h1 h2⟩
theorem ok_xinitU (T:Tx K mg):FnOkU P w K mg base 1 T.f_NoText_init T.fd_NoText_init ["self","at"] (spXInit T.C_NoText):=by
  refine T.F_NoText_init.okU sc_NoText_init (fun vs H Q E h=>?_) (fun cdv A outer s H vs Q E hr h=>?_)
  · obtain ⟨e,k,rfl,_⟩:=h
    rfl
  · obtain ⟨e,k,rfl,he,hk,q⟩:=h
    refine ⟨_,pss_cons (ps_expr (pe_binit rfl T.g_VolumeError T.v_reads T.v_init T.v_ga (pa_cons (pv 0) (pa_cons (pe_fstr3 (pv 1)) pa_nil)))) (pss_one (ps_fldX (pv 0) (pv 1) rfl)),?_⟩
    refine ⟨_,rfl,_,rfl,k,rfl,hk,fun z=>⟨e,T.C_NoText,T.f_NoText_init,_,rfl,he,T.xn_NoText,(by show 1≤sizeLine;decide),?_⟩⟩
    exact ⟨_,rfl,_,rfl,e,T.C_NoText,rfl,he,T.xs_NoText,T.n_NoText_at,fun dx h1 h2=>q dx h1 h2⟩
theorem raised {H H1:Hp}{ea dx:Addr}{n d x:HO}(s:Same H H1) (he:H1 ea=none) (hd:upd H1 ea n dx=none) (ne:dx≠ea):Same H (drop (upd (upd (upd H1 ea n) ea d) dx x) ea):=fun b o e=>by
  have e1:=s b o e
  have b1:b≠ea:=ne_of_none e1 he
  have e2:upd H1 ea n b=some o:=by rw [upd_ne b1];exact e1
  have b2:b≠dx:=ne_of_none e2 hd
  rw [drop_ne b1,upd_ne b2,upd_ne b1]
  exact e2
theorem raiseAt {C:Addr}{k:Int}{H H1:Hp}{E:XK}(s:Same H H1) (hk:k.natAbs.log2 < 1920) (kx:∀ dx H',Same H H'→H' dx=some (.xd [("at",.int k)])→E (.ref C) (some dx) H') :
    [V.int k].length≤sizeLine∧∀ ea,H1 ea=none→spXInit C (.ref ea :: [.int k]) (upd H1 ea (excN ea C)) (fun v H2=>v=.non∧∃ dx,H2 ea=some (excD ea C dx)∧E (.ref C) (some dx) (drop H2 ea)) E0 :=
  ⟨(by show 1≤sizeLine;decide),fun ea hea=>⟨ea,k,rfl,upd_same,hk,fun d hd ne=>⟨rfl,d,by rw [upd_ne (Ne.symm ne),upd_same],kx d _ (raised s hea hd ne) (by rw [drop_ne ne,upd_same])⟩⟩⟩
theorem raiseIn {C ea C':Addr}{o:Option Addr}{k:Int}{H H1:Hp}{E:XK}(s:Same H H1) (hea:H1 ea=none) (hk:k.natAbs.log2 < 1920) (kx:∀ dx H',Same H H'→H' dx=some (.xd [("at",.int k)])→E (.ref C) (some dx) H') :
    [V.int k].length≤sizeLine∧upd H1 ea (excO2 ea C' o) ea=some (excO2 ea C' o)∧∀ na,upd H1 ea (excO2 ea C' o) na=none→spXInit C (.ref na :: [.int k]) (upd (upd H1 ea (excO2 ea C' o)) na (excN na C)) (fun v H2=>v=.non∧∃ dx,H2 na=some (excD na C dx)∧H2 ea=some (excO2 ea C' o)∧E (.ref C) (some dx) (drop H2 na)) E0:=by
  refine ⟨(by show 1≤sizeLine;decide),upd_same,fun na hna=>⟨na,k,rfl,upd_same,hk,fun d hd ne=>⟨rfl,d,by rw [upd_ne (Ne.symm ne),upd_same],?_,kx d _ (raised (s.upd hea) hna hd ne) (by rw [drop_ne ne,upd_same])⟩⟩⟩
  have n1:ea≠na:=fun z=>by rw [← z,upd_same] at hna;cases hna
  have e1:upd (upd H1 ea (excO2 ea C' o)) na (excN na C) ea=some (excO2 ea C' o):=by rw [upd_ne n1,upd_same]
  have n2:ea≠d:=fun z=>by rw [← z,e1] at hd;cases hd
  rw [upd_ne n2,upd_ne n1]
  exact e1
abbrev wds (r:Str):List Str:=Txt.split r ⟨#[32]⟩
abbrev rws (t:Str):List Str:=Txt.split t ⟨#[10]⟩
abbrev nv (x:Str):Int:=numV x.cps.toList
abbrev iw (x:Str):Bool:=isW x.cps.toList
def rowOk (r:Str):Bool:=decide ((wds r).length=8) && (wds r).all iw
def rowV (r:Str):List Int:=(wds r).map nv
def layB (F E B:Int):Bool:=decide (2≤F∧F≤12∧1≤E∧E≤8∧2≤B∧B≤40)
theorem layB_ok {F E B:Int}:layB F E B=true↔LayOk F E B:=by
  unfold layB
  rw [decide_eq_true_eq]
  exact ⟨fun ⟨a,b,c,d,e,f⟩=>⟨a,b,c,d,e,f⟩,fun h=>⟨h.f1,h.f2,h.e1,h.e2,h.b1,h.b2⟩⟩
def layO (r:Str):Option (Int×Int×Int):=match wds r with
  | [v,a,b,c]=>if (decide (v=volS) && (iw a && (iw b && iw c)) && layB (nv a) (nv b) (nv c))=true then some (nv a,nv b,nv c) else none
  | _=>none
theorem layO_some {r:Str}{F E B:Int}:layO r=some (F,E,B)↔∃ a b c,wds r=[volS,a,b,c]∧iw a=true∧iw b=true∧iw c=true∧nv a=F∧nv b=E∧nv c=B∧LayOk F E B:=by
  constructor
  · intro h
    unfold layO at h
    split at h
    · rename_i v a b c e
      split at h
      · rename_i t
        rw [Bool.and_eq_true,Bool.and_eq_true,Bool.and_eq_true,Bool.and_eq_true] at t
        obtain ⟨⟨t1,t2,t3,t4⟩,t5⟩:=t
        have t1:=of_decide_eq_true t1
        subst t1
        injection h with h
        injection h with h1 h2
        injection h2 with h2 h3
        subst h1 h2 h3
        exact ⟨a,b,c,e,t2,t3,t4,rfl,rfl,rfl,layB_ok.mp t5⟩
      · cases h
    · cases h
  · rintro ⟨a,b,c,e,t2,t3,t4,rfl,rfl,rfl,ok⟩
    unfold layO
    rw [e]
    show (if (decide (volS=volS) && (iw a && (iw b && iw c)) && layB (nv a) (nv b) (nv c))=true then some (nv a,nv b,nv c) else none)=_
    rw [decide_eq_true rfl,t2,t3,t4,layB_ok.mpr ok]
    rfl
theorem layO_none {r:Str}(h:∀ a b c,wds r=[volS,a,b,c]→iw a=true→iw b=true→iw c=true→¬ LayOk (nv a) (nv b) (nv c)):layO r=none:=by
  cases e:layO r with
  | none=>rfl
  | some x =>
    obtain ⟨F,E,B⟩:=x
    obtain ⟨a,b,c,e1,e2,e3,e4,rfl,rfl,rfl,ok⟩:=layO_some.mp e
    exact absurd ok (h a b c e1 e2 e3 e4)
theorem part_len {c:Nat}:∀ {ps:List Str}{p:Str},p∈ps→p.length≤(Str.join ⟨#[c]⟩ ps).length
  | [],_,h=>nomatch h
  | [q],p,h=>by
    rw [List.mem_singleton.mp h]
    exact Nat.le_refl _
  | q :: q' :: r,p,h=>by
    have e:(Str.join ⟨#[c]⟩ (q :: q' :: r)).length=q.length + (1 + (Str.join ⟨#[c]⟩ (q' :: r)).length):=by
      rw [← len_codes,join_codes,List.length_append,List.length_cons,len_codes,len_codes]
      omega
    rw [e]
    rcases List.mem_cons.mp h with rfl | h
    · omega
    · have:=part_len (c:=c) h
      omega
theorem parts_len {c:Nat}:∀ {ps:List Str},ps.length≤(Str.join ⟨#[c]⟩ ps).length + 1
  | []=>by simp
  | [q]=>by simp
  | q :: q' :: r=>by
    have e:(Str.join ⟨#[c]⟩ (q :: q' :: r)).length=q.length + (1 + (Str.join ⟨#[c]⟩ (q' :: r)).length):=by
      rw [← len_codes,join_codes,List.length_append,List.length_cons,len_codes,len_codes]
      omega
    rw [e]
    have:=parts_len (c:=c) (ps:=q' :: r)
    rw [List.length_cons]
    omega
theorem split_len {x p:Str}{c:Nat}(h:p∈Txt.split x ⟨#[c]⟩):p.length≤x.length:=by
  have:=part_len (c:=c) h
  rw [StrLaws.join_split] at this
  exact this
theorem splits_len {x:Str}{c:Nat}:(Txt.split x ⟨#[c]⟩).length≤x.length + 1:=by
  have:=parts_len (c:=c) (ps:=Txt.split x ⟨#[c]⟩)
  rw [StrLaws.join_split] at this
  exact this
def spRL (C N:Addr):Sp:=fun vs H Q X=>∃ r:Str,vs=[.str r]∧r.length≤500000∧(∀ F E B,layO r=some (F,E,B)→∀ (p:Addr) (H':Hp),Lay C H' p F E B→Same H H'→Q (.ref p) H') ∧
  (layO r=none→∀ dx H',Same H H'→H' dx=some (.xd [("at",.int 0)])→X (.ref N) (some dx) H')
theorem ok_rlayout (T:Tx K mg):FnOk P w K mg base (CX1 P w) 3 T.f_read_layout T.fd_read_layout ["row"] (spRL T.C_Layout T.C_NoText):=by
  refine T.F_read_layout.okX sc_read_layout (fun vs H Q E h=>?_) (fun cdv A outer s H vs Q X hr h=>?_)
  · obtain ⟨r,rfl,_⟩:=h
    rfl
  · obtain ⟨r,rfl,hz,k,kx⟩:=h
    refine ⟨_,pss_cons (ps_set (i:=1) sc_read_layout.nd rfl (Or.inl rfl) (pe_bm PySem.F.plainAttrs_str PySem.F.slot_str_split PySem.F.type_str_split mt_split (pv 0) (pa_cons pe_str pa_nil)))
      (pss_cut (ps_set (i:=2) sc_read_layout.nd rfl (Or.inl rfl) (pe_call (ok_numbers T) hr rfl T.g_numbers_of T.F_numbers_of.kp T.b_numbers_of .nil pass0 (pa_cons (pe_slice sl_list (pv 1) (po_some pe_int) po_none) (pa_cons pe_int pa_nil))))
      (pss_cons (ps_if (PW.pt (pw_or (pt_cmpR op_ne (pe_ix ix_list (pv 1) pe_int (fun _ _=>rfl)) (pe_glob (v:=.str (Str.ofString "volume")) rfl T.g_WORD ⟨_,rfl⟩) (nomark _)) (pw_or1 (pt_cmpR op_isN (pv 2) pe_non (nomark _)))))
        (pss_one (ps_raiseI rfl T.xn_NoText (ok_xinit T) hr T.b_NoText_init rfl T.g_NoText takesN_cx (pa_cons pe_int pa_nil))) pss_nil)
      (pss_one (ps_tryR rfl T.g_NoLayout rfl rfl (fun W pn E2 hT=>pss_one (ps_ret (pe_makeX2 T.mk_Layout (ok_init T) hr rfl T.g_Layout T.b_Layout_init .nil hT (pa_cons (pe_ix (ix_listK (K:=K) rfl) (pv 2) pe_int (fun _ _=>rfl)) (pa_cons (pe_ix (ix_listK (K:=K) rfl) (pv 2) pe_int (fun _ _=>rfl)) (pa_cons (pe_ix (ix_listK (K:=K) rfl) (pv 2) pe_int (fun _ _=>rfl)) pa_nil))))))
        T.xn_NoText (ok_xinitU T) hr T.b_NoText_init rfl T.g_NoText (fun ea=>takesN_suite hr.hd) (fun ea W=>pa_cons pe_int pa_nil))))),?_⟩
    have big:(1000000:Nat)≤sizeLine:=by decide
    have hwl:(wds r).length≤500001:=Nat.le_trans splits_len (by omega)
    refine ⟨_,rfl,rfl,r,_,32,rfl,rfl,lit_sp,Nat.le_trans (show _≤1000000 by omega) (by decide),fun l1 f1=>?_⟩
    have hl1:upd H l1 (.lst ((wds r).map V.str)) l1=some (.lst ((wds r).map V.str)):=upd_same
    have s1:=Same.upd0 (o:=.lst ((wds r).map V.str)) f1
    generalize upd H l1 (.lst ((wds r).map V.str))=H1 at hl1 s1 ⊢
    refine ⟨fun σ H'=>∃ x2:V,σ=[some (.str r),some (.ref l1),some x2]∧Same H1 H'∧((((wds r).drop 1).length=3∧(((wds r).drop 1).all iw)=true∧∃ l3,x2=.ref l3∧H' l3=some (.lst ((((wds r).drop 1).map nv).map V.int)))∨(x2=.non∧¬ (((wds r).drop 1).length=3∧(((wds r).drop 1).all iw)=true))),?_,?_⟩
    · refine ⟨_,rfl,_,rfl,l1,_,rfl,SqL.of hl1,fun l2 f2=>?_⟩
      have ec:cutV ((wds r).map V.str) (some 1) none=((wds r).drop 1).map V.str:=(cut_from _ 1).trans (by rw [List.map_drop])
      rw [ec]
      have s2:=Same.upd0 (o:=.lst (((wds r).drop 1).map V.str)) f2
      refine ⟨l2,(wds r).drop 1,3,rfl,SqL.of upd_same,?_,fun x hx=>?_,fun h l3 H3 s3 f3 h3=>?_,fun h H3 s3=>?_⟩
      · rw [List.length_drop];omega
      · exact Nat.le_trans (split_len (List.mem_of_mem_drop hx)) (by omega)
      · exact ⟨_,rfl,s2.trans s3,.inl ⟨by have:=h.1;omega,h.2,l3,rfl,h3⟩⟩
      · exact ⟨_,rfl,s2.trans s3,.inr ⟨rfl,fun z=>h ⟨by rw [z.1];rfl,z.2⟩⟩⟩
    rintro σ H2 ⟨x2,rfl,s2,hx⟩
    have S2:=s1.trans s2
    have hl2:=s2 _ _ hl1
    obtain ⟨w0,ws,ew⟩:∃ w0 ws,wds r=w0 :: ws:=by
      cases e:wds r with
      | nil=>exact absurd e (split_ne r 32)
      | cons a b=>exact ⟨a,b,rfl⟩
    have hl0:(0:Int).natAbs.log2 < 1920:=by decide
    rw [ew] at hl2 hx
    have er:layO r=none→[V.int 0].length≤sizeLine∧_:=fun e=>raiseAt (C:=T.C_NoText) (k:=0) (E:=X) S2 hl0 fun dx H'=>kx e dx H'
    refine ⟨_,rfl,l1,_,0,.str w0,rfl,rfl,SqL.of hl2,atI_nat (j:=0) rfl,rfl,_,rfl,?_⟩
    by_cases hv:w0=volS
    rotate_left
    · refine iteNF (fun z=>hv (by injection z)) (er (layO_none fun a b c e=>?_))
      rw [ew] at e
      injection e with e
      exact absurd e hv
    refine iteNS (by rw [hv];rfl) ⟨_,rfl,rfl,_,rfl,?_⟩
    rcases hx with ⟨h3,ha,l3,rfl,hl3⟩ | ⟨rfl,hno⟩
    rotate_left
    · refine iteB (decide_eq_true rfl) (er (layO_none fun a b c e h1 h2 h3=>?_))
      rw [ew] at e
      injection e with _ e
      exact absurd ⟨by rw [List.drop_one,List.tail_cons,e];rfl,by rw [List.drop_one,List.tail_cons,e];simp [h1,h2,h3]⟩ hno
    refine iteBF (decide_eq_false (fun z=>by cases z)) ?_
    rw [List.drop_one,List.tail_cons] at h3 ha hl3
    match ws,h3 with
    | [a,b,c],_ =>
    have ha:iw a=true∧iw b=true∧iw c=true:=by simpa using ha
    have hl3:H2 l3=some (.lst [.int (nv a),.int (nv b),.int (nv c)]):=hl3
    rw [hv] at ew
    refine ⟨_,rfl,l3,_,0,.int (nv a),rfl,rfl,SqL.of hl3,atI_nat (j:=0) rfl,_,rfl,l3,_,1,.int (nv b),rfl,rfl,SqL.of hl3,atI_nat (j:=1) rfl,_,rfl,l3,_,2,.int (nv c),rfl,rfl,SqL.of hl3,atI_nat (j:=2) rfl,?_⟩
    refine fun x dx nx ndx ne=>⟨x,dx,nv a,nv b,nv c,rfl,upd_same,fun ok H' e1 kp=>⟨rfl,k _ _ _ (layO_some.mpr ⟨a,b,c,ew,ha.1,ha.2.1,ha.2.2,rfl,rfl,rfl,ok⟩) x H' ⟨dx,e1⟩ fun b o e=>kp b o ?_ (ne_of_none (S2 _ _ e) nx)⟩,fun no=>⟨T.C_NoLayout,rfl,T.k_match2,fun ea hea=>?_⟩⟩
    · have e:=S2 _ _ e
      rw [upd_ne (ne_of_none e nx),upd_ne (ne_of_none e ndx)]
      exact e
    · refine raiseIn ((S2.upd ndx).upd ?_) hea hl0 fun dx' H'=>kx (layO_none fun a' b' c' e _ _ _=>?_) dx' H'
      · rw [upd_ne (Ne.symm ne)];exact nx
      · rw [ew] at e
        injection e with _ e
        injection e with e1 e
        injection e with e2 e
        injection e with e3 _
        rw [← e1,← e2,← e3]
        exact no
end
end K05
namespace K05
open PySem L2 PyProof.Rows PySem.W
section
variable {P:Program}{w:World}{K:PySem.W.Frag}{mg:Str→Option Value}{base:Heap}
abbrev eS:Str:=⟨#[]⟩
def dueF (rows:List Str):Option Nat :=
  if rows.length=1 then some 0 else
  match layO (rows.getD 0 eS) with
  | none=>some 0
  | some (F,E,B) =>
    match ((List.range (min (rows.length - 1) ((10 + F + E + B).toNat + 1))).drop 1).find? (fun k=>!rowOk (rows.getD k eS)) with
    | some k=>some k
    | none=>if rows.length - 1=(10 + F + E + B).toNat + 1∧rows.getD (rows.length - 1) eS=eS then none else some (min (rows.length - 1) ((10 + F + E + B).toNat + 1))
section
variable {rows:List Str}{F E B:Int}
theorem due_one (h:rows.length=1):dueF rows=some 0:=by unfold dueF;rw [if_pos h]
theorem due_lay (h:layO (rows.getD 0 eS)=none):dueF rows=some 0:=by
  unfold dueF
  split
  · rfl
  · rw [h]
theorem mem_from {n k:Nat}:k∈(List.range n).drop 1↔1≤k∧k < n:=by
  rw [List.mem_iff_getElem?]
  constructor
  · rintro ⟨i,e⟩
    rw [List.getElem?_drop] at e
    have h:=List.getElem?_eq_some_iff.mp e
    obtain ⟨h1,h2⟩:=h
    rw [List.length_range] at h1
    rw [List.getElem_range] at h2
    omega
  · rintro ⟨h1,h2⟩
    refine ⟨k - 1,?_⟩
    rw [List.getElem?_drop,show 1 + (k - 1)=k by omega,List.getElem?_eq_getElem (by rw [List.length_range];exact h2),List.getElem_range]
theorem find_from {p:Nat→Bool}{n k:Nat}(h1:1≤k) (h2:k < n) (hk:p k=true) (hj:∀ j,1≤j→j < k→p j=false):((List.range n).drop 1).find? p=some k:=by
  cases e:((List.range n).drop 1).find? p with
  | none =>
    have:=List.find?_eq_none.mp e k (mem_from.mpr ⟨h1,h2⟩)
    exact absurd hk this
  | some j =>
    have hp:=List.find?_some e
    have hm:=mem_from.mp (List.mem_of_find?_eq_some e)
    by_cases c:j < k
    · rw [hj j hm.1 c] at hp;cases hp
    by_cases c2:j=k
    · rw [c2]
    exfalso
    rw [List.find?_eq_some_iff_getElem] at e
    obtain ⟨_,i,hi,ei,ea⟩:=e
    rw [List.length_drop,List.length_range] at hi
    have ei:1 + i=j:=by
      rw [List.getElem_drop,List.getElem_range] at ei
      exact ei
    have:=ea (k - 1) (by omega)
    rw [List.getElem_drop,List.getElem_range,show 1 + (k - 1)=k by omega,hk] at this
    cases this
theorem due_bad (h0:rows.length≠1) (hl:layO (rows.getD 0 eS)=some (F,E,B)) {k:Nat}(h1:1≤k) (h2:k < min (rows.length - 1) ((10 + F + E + B).toNat + 1)) (hk:rowOk (rows.getD k eS)=false) (hj:∀ j,1≤j→j < k→rowOk (rows.getD j eS)=true):dueF rows=some k:=by
  unfold dueF
  rw [if_neg h0,hl]
  show (match ((List.range (min (rows.length - 1) ((10 + F + E + B).toNat + 1))).drop 1).find? (fun k=>!rowOk (rows.getD k eS)) with | some k=>some k | none=>_)=_
  rw [find_from h1 h2 (by rw [hk];rfl) fun j a b=>by rw [hj j a b];rfl]
theorem due_all (h0:rows.length≠1) (hl:layO (rows.getD 0 eS)=some (F,E,B)) (hj:∀ j,1≤j→j < min (rows.length - 1) ((10 + F + E + B).toNat + 1)→rowOk (rows.getD j eS)=true) :
    dueF rows=if rows.length - 1=(10 + F + E + B).toNat + 1∧rows.getD (rows.length - 1) eS=eS then none else some (min (rows.length - 1) ((10 + F + E + B).toNat + 1)):=by
  have e:((List.range (min (rows.length - 1) ((10 + F + E + B).toNat + 1))).drop 1).find? (fun k=>!rowOk (rows.getD k eS))=none:=by
    rw [List.find?_eq_none]
    intro k hk hz
    have hm:=mem_from.mp hk
    rw [hj k hm.1 hm.2] at hz
    cases hz
  unfold dueF
  rw [if_neg h0,hl]
  show (match ((List.range (min (rows.length - 1) ((10 + F + E + B).toNat + 1))).drop 1).find? (fun k=>!rowOk (rows.getD k eS)) with | some k=>some k | none=>_)=_
  rw [e]
end
theorem Rows.off {H0 H:Hp}{as:List Addr}{rows:List (List Int)}{v:Addr}{o:HO}(x:Rows H0 H as rows) (h0:H0 v=none) (nv:v∉as):Rows H0 (upd H v o) as rows :=
  ⟨x.len,x.nd,x.new,fun i a r e1 e2=>by
    rw [upd_ne (fun z=>nv (by rw [← z];exact List.mem_of_getElem? e1))]
    exact x.row i a r e1 e2,x.same.updF h0⟩
theorem log_nat {n:Int}(h:n.natAbs≤1000000):n.natAbs.log2 < 1920:=log_lt (by
  have:(10:Nat) ^ 40=10000000000000000000000000000000000000000:=by decide
  omega)
def spRR (K:PySem.W.Frag) (N:Addr):Sp:=fun vs H Q X=>∃ (a:Addr) (ls:List Str),vs=[.ref a]∧SqL K H a (ls.map V.str)∧ls.length≤500000∧(∀ p∈ls,p.length≤500000) ∧
  ((∀ p∈ls,rowOk p=true)→∀ (v:Addr) (as:List Addr) (H':Hp),Same H H'→H v=none→(∀ b∈as,H b=none)→Vol H' v as (ls.map rowV)→Q (.ref v) H') ∧
  (∀ (i:Nat) p,ls[i]?=some p→rowOk p=false→(∀ (j:Nat) q,j < i→ls[j]?=some q→rowOk q=true)→∀ dx H',Same H H'→H' dx=some (.xd [("at",.int (1 + (i:Int)))])→X (.ref N) (some dx) H')
theorem ok_rrows (T:Tx K mg):FnOk P w K mg base (CX1 P w) 3 T.f_read_rows T.fd_read_rows ["rows"] (spRR K T.C_NoText):=by
  refine T.F_read_rows.okX sc_read_rows (fun vs H Q E h=>?_) (fun cdv A outer s H vs Q X hr h=>?_)
  · obtain ⟨a,ls,rfl,_⟩:=h
    rfl
  · obtain ⟨a,ls,rfl,hS,hn,hl,k,kx⟩:=h
    have big:(1000000:Nat)≤sizeLine:=by decide
    refine ⟨_,pss_cons (ps_set (i:=1) sc_read_rows.nd rfl (Or.inl rfl) (pe_lst pa_nil))
      (pss_cons (ps_for PassesOwn.leaving rfl (pi_enumS rfl T.z_enumerate (pa_cons (pv 0) pa_nil)) (pg_tup rfl (pgs_cons (pg_name (i:=2) sc_read_rows.nd rfl (Or.inl rfl)) (pgs_cons (pg_name (i:=3) sc_read_rows.nd rfl (Or.inl rfl)) pgs_nil)))
        (pss_cut (ps_set (i:=4) sc_read_rows.nd rfl (Or.inl rfl) (pe_call (ok_numbers T) hr rfl T.g_numbers_of T.F_numbers_of.kp T.b_numbers_of .nil pass0 (pa_cons (pe_bm PySem.F.plainAttrs_str PySem.F.slot_str_split PySem.F.type_str_split mt_split (pv 3) (pa_cons pe_str pa_nil)) (pa_cons (pe_glob (v:=.int 8) rfl T.g_WIDE ⟨_,rfl⟩) pa_nil))))
        (pss_cons (ps_if (pt_cmpR op_isN (pv 4) pe_non (nomark _)) (pss_one (ps_raiseI rfl T.xn_NoText (ok_xinit T) hr T.b_NoText_init rfl T.g_NoText takesN_cx (pa_cons (pv 2) pa_nil))) pss_nil)
        (pss_one (ps_expr (pe_bm PySem.F.plainAttrs_list PySem.F.slot_list_append PySem.F.type_list_append mt_append (pv 1) (pa_cons (pv 4) pa_nil)))))))
      (pss_one (ps_ret (pv 1)))),?_⟩
    refine ⟨(by show 0≤sizeLine;decide),fun v fv=>?_⟩
    have s1:=Same.upd0 (o:=.lst []) fv
    refine ⟨_,rfl,a,rfl,⟨_,s1.seq hS⟩,for_enum (K:=K) (a:=a) (lo:=1) (xs:=ls.map V.str) (fun i σ H'=>∃ (s2 s3 s4:Option V) (as:List Addr),σ=[some (.ref a),some (.ref v),s2,s3,s4]∧i≤ls.length∧(∀ (j:Nat) q,j < i→ls[j]?=some q→rowOk q=true)∧Rows H H' as ((ls.take i).map rowV)∧v∉as∧H' v=some (.lst (as.map V.ref)))
      ⟨none,none,none,[],rfl,Nat.zero_le _,fun j q h=>absurd h (by omega),by rw [List.take_zero];exact Rows.nil.on s1,by simp,upd_same⟩ (fun i σ H' _ ⟨_,_,_,_,_,_,_,hR,_,_⟩=>hR.same.seq hS) ?_ ?_⟩
    · rintro i x σ H' q hx ⟨s2,s3,s4,as,rfl,hi,all,hR,nv',hv⟩ fq
      rw [List.getElem?_map] at hx
      cases er:ls[i]? with
      | none=>rw [er] at hx;cases hx
      | some r =>
        rw [er] at hx
        cases hx
        have hi:i < ls.length:=(List.getElem?_eq_some_iff.mp er).1
        have hm:=hl r (List.mem_of_getElem? er)
        have hwl:(wds r).length≤500001:=Nat.le_trans splits_len (by omega)
        refine ⟨q,_,rfl,SqT.of upd_same,rfl,_,_,rfl,_,_,rfl,rfl,?_⟩
        have R2:=hR.on (Same.upd0 (o:=.tup [.int (1 + (i:Int)),.str r]) fq)
        have hv2:=(Same.upd0 (o:=.tup [.int (1 + (i:Int)),.str r]) fq) _ _ hv
        generalize upd H' q (.tup [.int (1 + (i:Int)),.str r])=H2 at R2 hv2 ⊢
        refine ⟨fun σ H3=>∃ x4:V,σ=[some (.ref a),some (.ref v),some (.int (1 + (i:Int))),some (.str r),some x4]∧Same H2 H3∧((rowOk r=true∧∃ l2,x4=.ref l2∧H2 l2=none∧H3 l2=some (.lst ((rowV r).map V.int)))∨(rowOk r=false∧x4=.non)),?_,?_⟩
        · refine ⟨_,rfl,rfl,r,_,32,rfl,rfl,lit_sp,Nat.le_trans (show _≤1000000 by omega) (by decide),fun l1 f1=>?_⟩
          have s3':=Same.upd0 (o:=.lst ((wds r).map V.str)) f1
          refine ⟨l1,wds r,8,rfl,SqL.of upd_same,by omega,fun x hx=>Nat.le_trans (split_len hx) (by omega),fun h l2 H4 s4' f2 h2=>?_,fun h H4 s4'=>?_⟩
          · refine ⟨_,rfl,s3'.trans s4',.inl ⟨?_,l2,rfl,s3'.free f2,h2⟩⟩
            unfold rowOk
            rw [decide_eq_true (by have:=h.1;omega)]
            exact h.2
          · refine ⟨_,rfl,s3'.trans s4',.inr ⟨?_,rfl⟩⟩
            cases e:rowOk r
            · rfl
            · unfold rowOk at e
              rw [Bool.and_eq_true] at e
              exact absurd ⟨by have:=of_decide_eq_true e.1;omega,e.2⟩ h
        rintro σ H3 ⟨x4,rfl,s3',hx⟩
        have S3:=R2.same.trans s3'
        refine ⟨_,rfl,rfl,_,rfl,?_⟩
        rcases hx with ⟨ho,l2,rfl,f2,h2⟩ | ⟨ho,rfl⟩
        rotate_left
        · exact iteB (decide_eq_true rfl) ⟨_,rfl,raiseAt (C:=T.C_NoText) (E:=X) S3 (log_nat (by omega)) fun dx H'=>kx i r er ho all dx H'⟩
        refine iteBF (decide_eq_false (fun z=>by cases z)) ?_
        have hv4:=s3' _ _ hv2
        have nl2:v≠l2:=fun z=>by rw [← z] at f2;rw [hv2] at f2;cases f2
        have R4:=R2.add s3' f2 h2
        have la:as.length=i:=by rw [hR.len,List.length_map,List.length_take];omega
        refine ⟨_,rfl,.inl ⟨rfl,_,SqL.of hv4⟩,_,rfl,v,_,_,rfl,rfl,hv4,(by rw [List.length_map,la];exact Nat.lt_of_le_of_lt (show i≤500000 by omega) (by decide)),?_⟩
        refine ⟨_,_,_,as ++ [l2],rfl,hi,fun j q' hj eq=>?_,?_,?_,by rw [upd_same,List.map_append];rfl⟩
        · by_cases z:j < i
          · exact all j q' z eq
          · have:j=i:=by omega
            subst this
            rw [er] at eq
            cases eq
            exact ho
        · rw [List.take_add_one,er,List.map_append]
          exact Rows.off R4 fv (fun z=>by rcases List.mem_append.mp z with z | z;exact nv' z;exact nl2 (List.mem_singleton.mp z))
        · intro z
          rcases List.mem_append.mp z with z | z
          · exact nv' z
          · exact nl2 (List.mem_singleton.mp z)
    rintro σ H' ⟨s2,s3,s4,as,rfl,hi,all,hR,nv',hv⟩
    rw [List.length_map] at all
    rw [List.length_map,List.take_length] at hR
    refine ⟨_,rfl,k (fun p hp=>?_) v as H' hR.same fv hR.new ⟨hv,hR.len,hR.nd,hR.row⟩⟩
    obtain ⟨j,hj⟩:=List.mem_iff_getElem?.mp hp
    exact all j p (List.getElem?_eq_some_iff.mp hj).1 hj
def spRV (C N:Addr):Sp:=fun vs H Q X=>∃ t:Str,vs=[.str t]∧t.length≤400000 ∧
  (∀ k,dueF (rws t)=some k→∀ dx H',Same H H'→H' dx=some (.xd [("at",.int (k:Int))])→X (.ref N) (some dx) H') ∧
  (dueF (rws t)=none→∀ F E B,layO ((rws t).getD 0 eS)=some (F,E,B)→(((rws t).dropLast.drop 1).length:Int)=10 + F + E + B→(∀ p∈(rws t).dropLast.drop 1,rowOk p=true)→(rws t).getLast?=some eS →
    ∀ (tt p v:Addr) (as:List Addr) (H':Hp),Same H H'→Lay C H' p F E B→Vol H' v as (((rws t).dropLast.drop 1).map rowV)→H' tt=some (.tup [.ref p,.ref v])→Q (.ref tt) H')
theorem getD_app {init:List Str}{b:Str}{j:Nat}(h:j < init.length):(init ++ [b]).getD j eS=init.getD j eS:=by
  rw [List.getD_eq_getElem?_getD,List.getD_eq_getElem?_getD,List.getElem?_append_left h]
theorem ok_rvolume (T:Tx K mg):FnOk P w K mg base (CX1 P w) 5 T.f_read_volume T.fd_read_volume ["text"] (spRV T.C_Layout T.C_NoText):=by
  refine T.F_read_volume.okX sc_read_volume (fun vs H Q E h=>?_) (fun cdv A outer s H vs Q X hr h=>?_)
  · obtain ⟨t,rfl,_⟩:=h
    rfl
  · obtain ⟨t,rfl,hz,kx,k⟩:=h
    have r3:Room 3 _:=hr.mono (by decide)
    have r2:Room 2 _:=hr.mono (by decide)
    have big:(1000000:Nat)≤sizeLine:=by decide
    refine ⟨_,pss_cons (ps_set (i:=1) sc_read_volume.nd rfl (Or.inl rfl) (pe_bm PySem.F.plainAttrs_str PySem.F.slot_str_split PySem.F.type_str_split mt_split (pv 0) (pa_cons pe_str pa_nil)))
      (pss_cons (ps_set (i:=2) sc_read_volume.nd rfl (Or.inl rfl) (pe_bm0 PySem.F.plainAttrs_list PySem.F.slot_list_pop PySem.F.type_list_pop mt_pop (pv 1)))
      (pss_cons (ps_if (pt_cmpR op_eq (pe_callB call_len_seq rfl T.z_len PySem.boot_len (pa_cons (pv 1) pa_nil)) pe_int (nomark _)) (pss_one (ps_raiseI rfl T.xn_NoText (ok_xinit T) r2 T.b_NoText_init rfl T.g_NoText takesN_cx (pa_cons pe_int pa_nil))) pss_nil)
      (pss_cons (ps_set (i:=3) sc_read_volume.nd rfl (Or.inl rfl) (pe_callX (ok_rlayout T) r3 rfl T.g_read_layout T.F_read_layout.kp T.b_read_layout .nil takes_cx (pa_cons (pe_ix ix_list (pv 1) pe_int (fun _ _=>rfl)) pa_nil)))
      (pss_cons (ps_set (i:=4) sc_read_volume.nd rfl (Or.inl rfl) (pe_op op_add pe_int (pe_meth0 (pv 3) T.cl_Layout T.m_Layout_many (ok_many T) hr T.b_Layout_many .nil pass0)))
      (pss_cons (ps_set (i:=5) sc_read_volume.nd rfl (Or.inl rfl) (pe_callX (ok_rrows T) r3 rfl T.g_read_rows T.F_read_rows.kp T.b_read_rows .nil takes_cx (pa_cons (pe_slice sl_list (pv 1) (po_some pe_int) (po_some (pv 4))) pa_nil)))
      (pss_cons (ps_if (PW.pt (pw_or (pt_cmpR op_ne (pe_callB call_len_seq rfl T.z_len PySem.boot_len (pa_cons (pv 1) pa_nil)) (pv 4) (nomark _)) (pw_or1 (pt_cmpR op_ne (pv 2) pe_str (nomark _)))))
        (pss_one (ps_raiseI rfl T.xn_NoText (ok_xinit T) r2 T.b_NoText_init rfl T.g_NoText takesN_cx (pa_cons (pe_callB (call_min2 rfl) rfl T.z_min (by kernel_rfl) (pa_cons (pe_callB call_len_seq rfl T.z_len PySem.boot_len (pa_cons (pv 1) pa_nil)) (pa_cons (pv 4) pa_nil))) pa_nil))) pss_nil)
      (pss_one (ps_ret (pe_tup (pa_cons (pv 3) (pa_cons (pv 5) pa_nil))))))))))),?_⟩
    have hrl:(rws t).length≤400001:=Nat.le_trans splits_len (by omega)
    refine ⟨_,rfl,rfl,t,_,10,rfl,rfl,lit_nl,Nat.le_trans (show _≤500000 by omega) (by decide),fun l1 f1=>?_⟩
    have hp:∀ p∈rws t,p.length≤400000:=fun p hp=>Nat.le_trans (split_len hp) hz
    obtain ⟨init,b,ei⟩:∃ init b,rws t=init ++ [b]:=⟨_,_,(List.dropLast_concat_getLast (split_ne t 10)).symm⟩
    have ed:(rws t).dropLast=init:=by rw [ei,List.dropLast_concat]
    have eg:(rws t).getLast?=some b:=by rw [ei,List.getLast?_concat]
    rw [ed,eg] at k
    change ∃ _,_
    rw [show Txt.split t ⟨#[10]⟩=init ++ [b] from ei]
    rw [ei] at k kx hp hrl
    clear ed eg ei
    have li:(init ++ [b]).length=init.length + 1:=by simp
    rw [li] at hrl
    have el:(init ++ [b]).map V.str=init.map V.str ++ [V.str b]:=by rw [List.map_append];rfl
    rw [el]
    have hl1:upd H l1 (.lst (init.map V.str ++ [V.str b])) l1=some (.lst (init.map V.str ++ [V.str b])):=upd_same
    have s1:=Same.upd0 (o:=.lst (init.map V.str ++ [V.str b])) f1
    generalize upd H l1 (.lst (init.map V.str ++ [V.str b]))=H1 at hl1 s1 ⊢
    refine ⟨_,rfl,.inl ⟨rfl,_,SqL.of hl1⟩,l1,_,V.str b,rfl,rfl,hl1,(by simp),?_⟩
    rw [List.dropLast_concat]
    have hl2:upd H1 l1 (.lst (init.map V.str)) l1=some (.lst (init.map V.str)):=upd_same
    have S2:Same H (upd H1 l1 (.lst (init.map V.str))):=s1.updF f1
    generalize upd H1 l1 (.lst (init.map V.str))=H2 at hl2 S2 ⊢
    refine ⟨_,rfl,l1,_,rfl,.inl (SqL.of hl2),rfl,_,rfl,?_⟩
    rw [List.length_map]
    cases init with
    | nil=>exact iteD rfl (raiseAt (C:=T.C_NoText) (k:=0) (E:=X) S2 (by decide) fun dx H'=>kx 0 (due_one rfl) dx H')
    | cons r0 rest =>
    have h1:¬ ((r0 :: rest) ++ [b]).length=1:=by simp
    refine iteDF (int_ne (by simp;omega)) ?_
    refine ⟨_,rfl,l1,_,0,.str r0,rfl,rfl,SqL.of hl2,atI_nat (j:=0) rfl,r0,rfl,Nat.le_trans (hp r0 (by simp)) (by decide),fun F E B eL p H3 hlay s3=>?_,fun eL dx H' s' h'=>kx 0 (due_lay eL) dx H' (S2.trans s') h'⟩
    obtain ⟨_,_,_,_,_,_,_,_,_,_,ok⟩:=layO_some.mp eL
    have:=ok.f1;have:=ok.f2;have:=ok.e1;have:=ok.e2;have:=ok.b1;have:=ok.b2
    obtain ⟨dx,hpp⟩:=hlay
    obtain ⟨m,em⟩:=Int.eq_ofNat_of_zero_le (show 0≤10 + F + E + B by omega)
    have em2:(10 + F + E + B).toNat=m:=by omega
    refine ⟨_,rfl,p,dx,_,rfl,hpp,lay_no _ _ _ (by decide +kernel) (by decide +kernel) (by decide +kernel),p,F,E,B,rfl,⟨dx,hpp⟩,_,_,rfl,rfl,?_⟩
    have hl3:=s3 _ _ hl2
    refine ⟨_,rfl,_,rfl,_,rfl,_,rfl,l1,_,rfl,SqL.of hl3,fun l4 f4=>?_⟩
    have ed:(1 + (10 + F + E + B):Int)=((m + 1:Nat):Int):=by omega
    have ec:cutV ((r0 :: rest).map V.str) (some 1) (some (1 + (10 + F + E + B)))=(rest.take m).map V.str:=by
      rw [ed]
      refine (cut_at _ 1 _).trans ?_
      rw [← List.map_take,← List.map_drop]
      rfl
    rw [ec]
    have s4:=Same.upd0 (o:=.lst ((rest.take m).map V.str)) f4
    have S4:=(S2.trans s3).trans s4
    have at_:∀ j q,(rest.take m)[j]?=some q→j < m∧((r0 :: rest) ++ [b]).getD (j + 1) eS=q∧j < rest.length:=fun j q e=>by
      rw [List.getElem?_take] at e
      split at e
      · have hj:=(List.getElem?_eq_some_iff.mp e).1
        refine ⟨by assumption,?_,hj⟩
        rw [getD_app (by rw [List.length_cons];omega),List.getD_eq_getElem?_getD,List.getElem?_cons_succ,e]
        rfl
      · cases e
    have hn:((r0 :: rest) ++ [b]).length - 1=rest.length + 1:=by simp
    refine ⟨l4,rest.take m,rfl,SqL.of upd_same,by rw [List.length_take];rw [List.length_cons] at hrl;omega,fun q hq=>Nat.le_trans (hp q (by have:=List.mem_of_mem_take hq;simp [this])) (by decide),fun all v as H5 s5 fv fas hV=>?_,fun i q ei ho hall dx' H' s' h'=>?_⟩
    rotate_left
    · have hi:=at_ i q ei
      refine kx (i + 1) (due_bad h1 eL (by omega) ?_ (by rw [hi.2.1];exact ho) fun j a c=>?_) dx' H' (S4.trans s') (by rw [h',show 1 + (i:Int)=((i + 1:Nat):Int) by omega])
      · rw [hn,em2];omega
      · have:(rest.take m)[j - 1]?=some ((rest.take m)[j - 1]'(by rw [List.length_take];omega)):=List.getElem?_eq_getElem _
        have h2:=at_ _ _ this
        rw [show j - 1 + 1=j by omega] at h2
        rw [h2.2.1]
        exact hall (j - 1) _ (by omega) this
    have S5:=S4.trans s5
    have hl5:=s5 _ _ (s4 _ _ hl3)
    have hall:∀ j,1≤j→j < min (((r0 :: rest) ++ [b]).length - 1) ((10 + F + E + B).toNat + 1)→rowOk (((r0 :: rest) ++ [b]).getD j eS)=true:=fun j a c=>by
      rw [hn,em2] at c
      have:(rest.take m)[j - 1]?=some ((rest.take m)[j - 1]'(by rw [List.length_take];omega)):=List.getElem?_eq_getElem _
      have h2:=at_ _ _ this
      rw [show j - 1 + 1=j by omega] at h2
      rw [h2.2.1]
      exact all _ (List.mem_of_getElem? this)
    have da:=due_all h1 eL hall
    rw [hn,em2] at da
    have gl:((r0 :: rest) ++ [b]).getD (rest.length + 1) eS=b:=by
      rw [List.getD_eq_getElem?_getD,List.getElem?_append_right (by simp)]
      simp
    rw [gl] at da
    have rz:¬ (rest.length + 1=m + 1∧b=eS)→[V.int (if (1 + (10 + F + E + B):Int) < (((r0 :: rest).map V.str).length:Int) then 1 + (10 + F + E + B) else (((r0 :: rest).map V.str).length:Int))].length≤sizeLine∧_:=fun h=>by
      refine raiseAt (C:=T.C_NoText) (E:=X) S5 (log_nat ?_) fun dx' H' s' h'=>kx (min (rest.length + 1) (m + 1)) (by rw [da,if_neg h]) dx' H' s' ?_
      · rw [List.length_map,List.length_cons,ed]
        rw [List.length_cons] at hrl
        split<;>omega
      · rw [h',List.length_map,List.length_cons,ed]
        congr 3
        congr 1
        congr 1
        split<;>omega
    refine ⟨_,rfl,l1,_,rfl,.inl (SqL.of hl5),_,rfl,rfl,_,rfl,?_⟩
    by_cases hmn:rest.length + 1=m + 1
    rotate_left
    · refine iteNF (fun z=>hmn ?_) ⟨_,rfl,l1,_,rfl,.inl (SqL.of hl5),_,rfl,_,_,rfl,rz fun z=>hmn z.1⟩
      injection z with z
      rw [List.length_map,List.length_cons,ed] at z
      omega
    refine iteNS ?_ ?_
    · rw [List.length_map,List.length_cons,hmn]
      show V.int _=V.int (1 + (10 + F + E + B))
      rw [ed]
    refine ⟨_,rfl,rfl,_,rfl,?_⟩
    by_cases hb:b=eS
    rotate_left
    · refine iteNF (fun z=>hb ?_) ⟨_,rfl,l1,_,rfl,.inl (SqL.of hl5),_,rfl,_,_,rfl,rz fun z=>hb z.2⟩
      exact (V.str.inj z).trans lit_e
    refine iteNS (by rw [hb];exact congrArg V.str lit_e.symm) ?_
    refine ⟨_,rfl,_,rfl,(by show 2≤sizeLine;decide),fun tt ft=>?_⟩
    have et:rest.take m=rest:=List.take_of_length_le (by omega)
    rw [et] at hV all
    exact k (by rw [da,if_pos ⟨hmn,hb⟩]) F E B eL (by show ((rest.length:Nat):Int)=_;omega) all (by rw [hb]) tt p v as _ (S5.upd ft) ⟨dx,(Same.upd0 ft) _ _ (s5 _ _ (s4 _ _ hpp))⟩ (hV.same (Same.upd0 ft)) upd_same
end
end K05
namespace K05
open PySem L2 PyProof.Rows PySem.W
section
variable {P:Program}{w:World}{K:PySem.W.Frag}{mg:Str→Option Value}{base:Heap}
theorem slice_to1 (z:Str):(Txt.slice z none (some 1)).cps.toList=z.cps.toList.take 1:=by
  by_cases h:1≤z.length
  · have e:=PyProof.Rows.slice_closes_to (x:=z) (j:=1) ⟨by decide,by rw [len_codes];omega⟩
    rw [beq_iff_eq.mp e]
    rfl
  · have h0:z.cps.toList=[]:=List.length_eq_zero_iff.mp (by rw [len_codes];omega)
    have h1:=Txt.slice_le z none (some 1)
    have:(Txt.slice z none (some 1)).cps.toList=[]:=List.length_eq_zero_iff.mp (by rw [len_codes];omega)
    rw [this,h0]
    rfl
theorem to1_is (z:Str):V.str (Txt.slice z none (some 1))=V.str (Str.ofString "-")↔z.cps.toList.head?=some 45:=by
  constructor
  · intro e
    have e:=congrArg (fun s:Str=>s.cps.toList) (V.str.inj e)
    have e:(Txt.slice z none (some 1)).cps.toList=(Str.ofString "-").cps.toList:=e
    rw [slice_to1,lit_mi] at e
    cases hc:z.cps.toList with
    | nil=>rw [hc] at e;cases e
    | cons c r =>
      rw [hc] at e
      have e:[c]=[45]:=e
      injection e with e
      rw [e]
      rfl
  · intro e
    refine congrArg V.str (str_ext ?_)
    rw [slice_to1,lit_mi]
    cases hc:z.cps.toList with
    | nil=>rw [hc] at e;cases e
    | cons c r=>rw [hc] at e;cases e;rfl
theorem emp_is (z:Str):V.str z=V.str (Str.ofString "")↔z.cps.toList=[]:=by
  constructor
  · intro e
    rw [V.str.inj e,lit_e]
  · intro e
    exact congrArg V.str (str_ext (by rw [e,lit_e]))
theorem zer_is (z:Str):V.str z=V.str (Str.ofString "0")↔z.cps.toList=[48]:=by
  constructor
  · intro e
    rw [V.str.inj e,lit_0]
  · intro e
    exact congrArg V.str (str_ext (by rw [e,lit_0]))
theorem eq_nil (ys:List V):eqT (.lst (ys.map .flat)) (.lst [])=ys.isEmpty:=by
  cases ys with
  | nil=>rfl
  | cons _ _=>rfl
theorem ok_isnum (T:Tx K mg):FnOk P w K mg base CX0 1 T.f_l_is_number T.fd_l_is_number ["_law_word_here"] spIsW:=by
  refine T.F_l_is_number.ok sc_l_is_number (fun vs H Q E h=>?_) (fun cdv A outer s H vs Q E hr h=>?_)
  · obtain ⟨z,rfl,_⟩:=h
    rfl
  · obtain ⟨z,rfl,hz,k⟩:=h
    have hu:_ + 60 < cLine:=Nat.lt_of_le_of_lt (Nat.add_le_add_left (by decide:60≤64) _) hr.units
    refine ⟨_,pss_cons (ps_set (i:=1) sc_l_is_number.nd rfl (Or.inl rfl) (pv 0))
      (pss_cut (ps_if (pt_cmpR op_eq (pe_slice sl_str (pv 0) po_none (po_some pe_int)) pe_str (nomark _)) (pss_one (ps_set (i:=1) sc_l_is_number.nd rfl (Or.inl rfl) (pe_slice sl_str (pv 0) (po_some pe_int) po_none))) pss_nil)
      (pss_cons (ps_if (PW.pt (pw_or (pt_cmpR op_eq (pv 1) pe_str (nomark _)) (pw_or (pt_cmpR op_gt (pe_callB call_len_str rfl T.z_len PySem.boot_len (pa_cons (pv 1) pa_nil)) pe_int (nomark _))
          (pw_or1 (pt_cmpR (op_neT hu) (pe_comp (N':=["_law_sign"]) (cap:=[none]) rfl (compOk_of (by kernel_rfl)) (pi_text (pv 1)) (fun cells C s₀ H₀ fp pins=>⟨pg_name (i:=0) ndp1 rfl (Or.inl rfl) (.inr rfl),pifs_one (pt_cmpR op_notin_str (pv 0) pe_str rfl),pv 0⟩)) (pe_lst pa_nil) (nomark _)))))) (pss_one (ps_ret pe_bl)) pss_nil)
      (pss_one (ps_ret (pe_orI (pe_cmpR op_eq (pv 0) pe_str (nomark _)) (pe_one (pe_cmpR op_ne (pe_ix ix_str (pv 1) pe_int (fun _ _=>rfl)) pe_str (nomark _)))))))),?_⟩
    have big:(1000000:Nat)≤sizeLine:=by decide
    have lz:=len_codes z
    refine ⟨_,rfl,fun σ H'=>∃ y:Str,y.cps.toList=figs z.cps.toList∧σ=[some (.str z),some (.str y)]∧H'=H,?_,?_⟩
    · refine ⟨_,rfl,_,rfl,z,rfl,by omega,rfl,_,rfl,?_⟩
      by_cases hm:z.cps.toList.head?=some 45
      · refine iteD ((to1_is z).mpr hm) ⟨_,rfl,_,rfl,z,rfl,by omega,_,?_,rfl,rfl⟩
        have:1≤z.length:=by
          rw [← lz]
          cases hc:z.cps.toList with
          | nil=>rw [hc] at hm;cases hm
          | cons _ _=>simp
        rw [slice_one this]
        cases hc:z.cps.toList with
        | nil=>rw [hc] at hm;cases hm
        | cons c r=>rw [hc] at hm;cases hm;rfl
      · exact iteDF (fun e=>hm ((to1_is z).mp e)) ⟨z,(figs_pos hm).symm,rfl,rfl⟩
    rintro σ H' ⟨y,hy,rfl,rfl⟩
    have ly:=len_codes y
    have lf:(figs z.cps.toList).length≤z.length:=by rw [← lz];exact figs_len _
    have yz:y.length≤1000000:=by rw [← ly,hy];omega
    have fin:∀ b,isW z.cps.toList=b→∀ H1,Same H' H1→Q (.bl b) H1:=fun b e H1 s1=>by rw [← e];exact k H1 s1
    refine ⟨_,rfl,rfl,_,rfl,?_⟩
    by_cases h1:y.cps.toList=[]
    · refine iteD ((emp_is y).mpr h1) (fin false ?_ _ (Same.refl _))
      unfold isW
      rw [← hy,h1]
      rfl
    have h1':1≤y.length:=by rw [← ly];exact List.length_pos_iff.mpr h1
    refine iteDF (fun e=>h1 ((emp_is y).mp e)) ?_
    refine ⟨_,rfl,y,rfl,by omega,_,_,rfl,rfl,_,rfl,?_⟩
    by_cases h2:(y.length:Int) > 40
    · refine iteD h2 (fin false ?_ _ (Same.refl _))
      unfold isW
      rw [← hy,ly,decide_eq_false (show ¬ y.length≤40 by omega)]
      simp
    refine iteDF h2 ?_
    refine ⟨_,rfl,y,rfl,?_⟩
    refine comp_text (cap:=[none]) (x:=y) (by rw [ly];omega) (fun i ys σ H1=>i≤y.cps.toList.length∧ys=((y.cps.toList.take i).filter fun c=>!dig c).map (fun c=>V.str ⟨#[c]⟩)∧σ.length=1∧H1=H')
      (by exact ⟨Nat.zero_le _,rfl,rfl,rfl⟩) (fun i ys σ H1 ⟨g1,g2,_,_⟩=>⟨g1,by rw [g2,List.length_map];exact Nat.le_trans (List.length_filter_le ..) (by rw [List.length_take];omega)⟩) ?_ ?_
    · rintro i c ys σ H1 hc ⟨g1,rfl,g3,rfl⟩
      have hi:i < y.cps.toList.length:=(List.getElem?_eq_some_iff.mp hc).1
      match σ,g3 with
      | [z0],_ =>
        refine ⟨_,rfl,_,_,rfl,rfl,_,rfl,?_⟩
        rw [fig_in,List.take_add_one,hc]
        cases hd:dig c
        · refine iteT ⟨_,rfl,hi,?_,rfl,rfl⟩
          simp [hd]
        · refine iteF ⟨hi,?_,rfl,rfl⟩
          simp [hd]
    rintro ys σ H1 ⟨g1,rfl,g3,rfl⟩ D hD
    rw [List.take_length]
    have hfl:∀ l:List Nat,(l.map fun c=>V.str ⟨#[c]⟩).all flatV=true:=fun l=>by simp [flatV]
    refine ⟨(by show 0≤sizeLine;decide),fun z2 fz2=>?_⟩
    refine ⟨D,z2,1,1,_,.lst [],rfl,rfl,by decide,by decide,holds_flatsL (SqL.of ((Same.upd0 fz2) _ _ upd_same)) (hfl _),holds_flatsL (xs:=[]) (SqL.of upd_same) rfl,(fun _ h=>nomatch h),(fun _ h=>nomatch h),_,rfl,?_⟩
    have sD:=(Same.upd0 (o:=.lst ((y.cps.toList.filter fun c=>!dig c).map fun c=>V.str ⟨#[c]⟩)) hD).upd (o:=.lst []) fz2
    rw [eq_nil]
    cases h3:y.cps.toList.all dig
    · refine iteB ?_ (fin false ?_ _ sD)
      · have:y.cps.toList.filter (fun c=>!dig c)≠[]:=fun e=>by
          rw [List.filter_eq_nil_iff] at e
          have:y.cps.toList.all dig=true:=List.all_eq_true.mpr fun c hc=>by
            cases q:dig c
            · exact absurd (by rw [q];rfl) (e c hc)
            · rfl
          rw [h3] at this
          cases this
        cases q:y.cps.toList.filter fun c=>!dig c with
        | nil=>exact absurd q this
        | cons _ _=>rfl
      · unfold isW
        rw [← hy,h3]
        simp
    refine iteBF ?_ ?_
    · have:y.cps.toList.filter (fun c=>!dig c)=[]:=by
        rw [List.filter_eq_nil_iff]
        intro c hc
        rw [List.all_eq_true.mp h3 c hc]
        decide
      rw [this]
      rfl
    obtain ⟨c0,r0,e0⟩:∃ c0 r0,y.cps.toList=c0 :: r0:=by
      cases e:y.cps.toList with
      | nil=>exact absurd e h1
      | cons a b=>exact ⟨a,b,rfl⟩
    refine ⟨_,rfl,rfl,decide (z.cps.toList=[48]),!decide (y.cps.toList.head?=some 48),?_,(fun _=>⟨_,rfl,y,0,c0,rfl,rfl,by omega,?_,rfl,?_,rfl⟩),fin _ ?_ _ sD⟩
    · congr 1
      exact decide_eq_decide.mpr (zer_is z)
    · rw [e0];exact atI_nat (j:=0) rfl
    · congr 1
      congr 1
      refine decide_eq_decide.mpr ?_
      rw [e0]
      exact (zer_is ⟨#[c0]⟩).trans (by simp)
    · unfold isW
      rw [← hy,h3,ly,decide_eq_true h1',decide_eq_true (show y.length≤40 by omega)]
      rfl
end
end K05
namespace K05
open PySem L2 PyProof.Rows PySem.W
section
variable {P:Program}{w:World}{K:PySem.W.Frag}{mg:Str→Option Value}{base:Heap}
def spSizes:Sp:=fun vs H Q _=>∃ r:Str,vs=[.str r]∧r.length≤500000∧(∀ F E B,layO r=some (F,E,B)→∀ H',Same H H'→Q (.int (10 + F + E + B)) H')∧(layO r=none→∀ H',Same H H'→Q .non H')
theorem strs_flat (ws:List Str):(ws.map V.str).all flatV=true:=by simp [flatV]
theorem bad_nil {ws:List Str}:((ws.filter fun x=>!iw x).map V.str).isEmpty=ws.all iw:=by
  cases h:ws.all iw
  · have:ws.filter (fun x=>!iw x)≠[]:=fun e=>by
      rw [List.filter_eq_nil_iff] at e
      have:ws.all iw=true:=List.all_eq_true.mpr fun c hc=>by
        cases q:iw c
        · exact absurd (by rw [q];rfl) (e c hc)
        · rfl
      rw [h] at this
      cases this
    cases q:ws.filter fun x=>!iw x with
    | nil=>exact absurd q this
    | cons _ _=>rfl
  · have:ws.filter (fun x=>!iw x)=[]:=by
      rw [List.filter_eq_nil_iff]
      intro c hc
      rw [List.all_eq_true.mp h c hc]
      decide
    rw [this]
    rfl
theorem four_of {α:Type}:∀ {l:List α},l.length=4→∃ w a b c,l=[w,a,b,c]
  | [x,y,z,u],_=>⟨x,y,z,u,rfl⟩
theorem ok_sizes (T:Tx K mg):FnOk P w K mg base CX0 2 T.f_l_sizes T.fd_l_sizes ["_law_row"] spSizes:=by
  refine T.F_l_sizes.ok sc_l_sizes (fun vs H Q E h=>?_) (fun cdv A outer s H vs Q E hr h=>?_)
  · obtain ⟨r,rfl,_⟩:=h
    rfl
  · obtain ⟨r,rfl,hz,k,k0⟩:=h
    have hu:_ + 60 < cLine:=Nat.lt_of_le_of_lt (Nat.add_le_add_left (by decide:60≤64) _) hr.units
    refine ⟨_,@pss_cons _ _ _ _ _ (ps_set (i:=1) sc_l_sizes.nd rfl (Or.inl rfl) (pe_bm PySem.F.plainAttrs_str PySem.F.slot_str_split PySem.F.type_str_split mt_split (pv 0) (pa_cons pe_str pa_nil)))
      (@pss_cons _ _ _ _ _ (ps_if (PW.pt (pw_or (pt_cmpR op_ne (pe_callB call_len_seq rfl T.z_len PySem.boot_len (pa_cons (pv 1) pa_nil)) pe_int (nomark _)) (pw_or (pt_cmpR op_ne (pe_ix ix_list (pv 1) pe_int (fun _ _=>rfl)) pe_str (nomark _))
        (pw_or1 (pt_cmpR (op_neT hu) (pe_comp (N':=["_law_one"]) (cap:=[none]) rfl (compOk_of (by kernel_rfl)) (pi_list (pe_slice sl_list (pv 1) (po_some pe_int) po_none)) (fun cells C s₀ H₀ fp pins=>⟨pg_name (i:=0) ndp1 rfl (Or.inl rfl) (.inr rfl),pifs_one (pt_not (pt_val (pe_call (ok_isnum T) hr rfl T.g_l_is_number T.F_l_is_number.kp T.b_l_is_number .nil pass0 (pa_cons (pv 0) pa_nil)))),pv 0⟩)) (pe_lst pa_nil) (nomark _)))))) (pss_one (ps_ret pe_non)) pss_nil)
      (@pss_cons _ _ _ _ _ (ps_asg (pe_comp (N':=["_law_word_here"]) (cap:=[none]) rfl (compOk_of (by kernel_rfl)) (pi_list (pe_slice sl_list (pv 1) (po_some pe_int) po_none)) (fun cells C s₀ H₀ fp pins=>⟨pg_name (i:=0) ndp1 rfl (Or.inl rfl) (.inr rfl),pifs_nil,pe_callTy call_intText rfl T.z_int (by kernel_rfl) (pa_cons (pv 0) pa_nil)⟩)) (pg_tupL rfl (pgs_cons (pg_name (i:=2) sc_l_sizes.nd rfl (Or.inl rfl)) (pgs_cons (pg_name (i:=3) sc_l_sizes.nd rfl (Or.inl rfl)) (pgs_cons (pg_name (i:=4) sc_l_sizes.nd rfl (Or.inl rfl)) pgs_nil)))))
      (@pss_cons _ _ _ _ _ (ps_if (PW.pt (pw_and (pt_chain op_le op_le pe_int (pv 2) pe_int) (pw_and (pt_chain op_le op_le pe_int (pv 3) pe_int) (pw_and1 (pt_chain op_le op_le pe_int (pv 4) pe_int))))) (pss_one (ps_ret (pe_op op_add (pe_op op_add (pe_op op_add pe_int (pv 2)) (pv 3)) (pv 4)))) pss_nil)
      (@pss_one _ _ _ (ps_ret pe_non))))),?_⟩
    have big:(1000000:Nat)≤sizeLine:=by decide
    have hwl:(wds r).length≤500001:=Nat.le_trans splits_len (by omega)
    refine ⟨_,rfl,rfl,r,_,32,rfl,rfl,lit_sp,Nat.le_trans (show _≤1000000 by omega) (by decide),fun l1 f1=>?_⟩
    have hl1:upd H l1 (.lst ((wds r).map V.str)) l1=some (.lst ((wds r).map V.str)):=upd_same
    have s1:=Same.upd0 (o:=.lst ((wds r).map V.str)) f1
    generalize upd H l1 (.lst ((wds r).map V.str))=H1 at hl1 s1 ⊢
    have no:∀ H',Same H H'→(∀ a b c,wds r=[volS,a,b,c]→iw a=true→iw b=true→iw c=true→¬ LayOk (nv a) (nv b) (nv c))→Q .non H':=fun H' s' h=>k0 (layO_none h) H' s'
    refine ⟨_,rfl,l1,_,rfl,.inl (SqL.of hl1),rfl,_,rfl,?_⟩
    rw [List.length_map]
    by_cases h4:(wds r).length=4
    rotate_left
    · refine iteNF (int_ne (by omega)) (no _ s1 fun a b c e=>?_)
      rw [e] at h4
      exact absurd rfl h4
    refine iteNS (by rw [h4];rfl) ?_
    obtain ⟨w0,a,b,c,ew⟩:=four_of h4
    have hwp:∀ x∈wds r,x.length≤500000:=fun x hx=>Nat.le_trans (split_len hx) hz
    rw [ew] at hl1 hwp
    refine ⟨_,rfl,l1,_,0,.str w0,rfl,rfl,SqL.of hl1,atI_nat (j:=0) rfl,rfl,_,rfl,?_⟩
    by_cases hv:w0=volS
    rotate_left
    · refine iteNF (fun z=>hv (V.str.inj z)) (no _ s1 fun a' b' c' e=>?_)
      rw [ew] at e
      injection e with e
      exact absurd e hv
    refine iteNS (by rw [hv];rfl) ?_
    refine ⟨_,rfl,_,rfl,l1,_,rfl,SqL.of hl1,fun l2 f2=>?_⟩
    have ec:cutV ([w0,a,b,c].map V.str) (some 1) none=[a,b,c].map V.str:=cut_from _ 1
    rw [ec]
    have hl2:upd H1 l2 (.lst ([a,b,c].map V.str)) l2=some (.lst ([a,b,c].map V.str)):=upd_same
    have s2:=Same.upd0 (o:=.lst ([a,b,c].map V.str)) f2
    generalize upd H1 l2 (.lst ([a,b,c].map V.str))=H2 at hl2 s2 ⊢
    have hl12:=s2 _ _ hl1
    refine ⟨l2,rfl,⟨_,SqL.of hl2⟩,?_⟩
    refine comp_list (cap:=[none]) (K:=K) (a:=l2) (xs:=[a,b,c].map V.str) (small_len (by show 3≤1000;decide)) (fun i ys σ H'=>i≤3∧ys=(([a,b,c].take i).filter fun x=>!iw x).map V.str∧σ.length=1∧Same H2 H')
      (by exact ⟨Nat.zero_le _,rfl,rfl,Same.refl _⟩) (fun i ys σ H' ⟨h1,h2,_,h4⟩=>⟨h1,by rw [h2,List.length_map];exact Nat.le_trans (List.length_filter_le ..) (by rw [List.length_take];omega),h4.seq (SqL.of hl2)⟩) ?_ ?_
    · rintro i x ys σ H' hx ⟨h1,rfl,h3,sH⟩
      rw [List.getElem?_map] at hx
      cases en:[a,b,c][i]? with
      | none=>rw [en] at hx;cases hx
      | some n =>
        rw [en] at hx
        cases hx
        have hi:i < 3:=(List.getElem?_eq_some_iff.mp en).1
        have hm:n∈[w0,a,b,c]:=List.mem_cons_of_mem _ (List.mem_of_getElem? en)
        match σ,h3 with
        | [z0],_ =>
          refine ⟨_,rfl,n,rfl,Nat.le_trans (hwp n hm) (by decide),fun H3 s3=>?_⟩
          refine ⟨_,rfl,?_⟩
          rw [List.take_add_one,en]
          cases hn:isW n.cps.toList
          · exact iteT ⟨_,rfl,hi,by simp [hn],rfl,sH.trans s3⟩
          · exact iteF ⟨hi,by simp [hn],rfl,sH.trans s3⟩
    rintro ys σ H3 ⟨h1,rfl,h3,s3⟩ D hD
    have e3:[a,b,c].take ([a,b,c].map V.str).length=[a,b,c]:=rfl
    rw [e3]
    refine ⟨(by show 0≤sizeLine;decide),fun z2 fz2=>?_⟩
    refine ⟨D,z2,1,1,_,.lst [],rfl,rfl,by decide,by decide,holds_flatsL (SqL.of ((Same.upd0 fz2) _ _ upd_same)) (strs_flat _),holds_flatsL (xs:=[]) (SqL.of upd_same) rfl,(fun _ h=>nomatch h),(fun _ h=>nomatch h),_,rfl,?_⟩
    have sD:=(s3.upd (o:=.lst (([a,b,c].filter fun x=>!iw x).map V.str)) hD).upd (o:=.lst []) fz2
    rw [eq_nil,bad_nil]
    generalize upd (upd H3 D (.lst (([a,b,c].filter fun x=>!iw x).map V.str))) z2 (.lst [])=H4 at sD ⊢
    have S4:=s1.trans (s2.trans sD)
    have hl14:=sD _ _ hl12
    cases ha:[a,b,c].all iw
    · refine iteT (no _ S4 fun a' b' c' e x1 x2 x3=>?_)
      rw [ew] at e
      injection e with _ e
      rw [e] at ha
      simp [x1,x2,x3] at ha
    refine iteF ?_
    have ha3:iw a=true∧iw b=true∧iw c=true:=by simpa using ha
    refine ⟨_,rfl,_,rfl,l1,_,rfl,SqL.of hl14,fun l5 f5=>?_⟩
    rw [ec]
    have hl5:upd H4 l5 (.lst ([a,b,c].map V.str)) l5=some (.lst ([a,b,c].map V.str)):=upd_same
    have s5:=Same.upd0 (o:=.lst ([a,b,c].map V.str)) f5
    generalize upd H4 l5 (.lst ([a,b,c].map V.str))=H5 at hl5 s5 ⊢
    refine ⟨l5,rfl,⟨_,SqL.of hl5⟩,?_⟩
    refine comp_list (cap:=[none]) (K:=K) (a:=l5) (xs:=[a,b,c].map V.str) (small_len (by show 3≤1000;decide)) (fun i ys σ H'=>i≤3∧ys=(([a,b,c].take i).map nv).map V.int∧σ.length=1∧H'=H5)
      (by exact ⟨Nat.zero_le _,rfl,rfl,rfl⟩) (fun i ys σ H' ⟨h1,h2,_,h4⟩=>⟨h1,by rw [h2,List.length_map,List.length_map,List.length_take];omega,by rw [h4];exact SqL.of hl5⟩) ?_ ?_
    · rintro i x ys σ H' hx ⟨h1,rfl,h3,rfl⟩
      rw [List.getElem?_map] at hx
      cases en:[a,b,c][i]? with
      | none=>rw [en] at hx;cases hx
      | some n =>
        rw [en] at hx
        cases hx
        have hi:i < 3:=(List.getElem?_eq_some_iff.mp en).1
        have hw:=int_of_w (List.all_eq_true.mp ha n (List.mem_of_getElem? en))
        match σ,h3 with
        | [z0],_=>exact ⟨_,rfl,n,_,rfl,by omega,hw.1,hi,by rw [List.take_add_one,en];simp,rfl,rfl⟩
    rintro ys σ H6 ⟨h1,rfl,h3,rfl⟩ l6 f6
    have s6:=S4.trans (s5.upd (o:=.lst ([.int (nv a),.int (nv b),.int (nv c)])) f6)
    refine ⟨l6,[.int (nv a),.int (nv b),.int (nv c)],rfl,SqL.of upd_same,rfl,_,_,rfl,_,_,rfl,_,_,rfl,rfl,?_⟩
    have e6:(([a,b,c].take ([a,b,c].map V.str).length).map nv).map V.int=[.int (nv a),.int (nv b),.int (nv c)]:=rfl
    rw [e6]
    rw [hv] at ew
    have no2:¬ LayOk (nv a) (nv b) (nv c)→Q .non _:=fun h=>no _ s6 fun a' b' c' e _ _ _=>by
      rw [ew] at e
      injection e with _ e
      injection e with e1 e
      injection e with e2 e
      injection e with e3 _
      rw [← e1,← e2,← e3]
      exact h
    refine ⟨_,rfl,_,_,rfl,rfl,_,rfl,ite2 (fun f1=>?_) (fun f1=>⟨_,rfl,iteF (iteF (no2 fun ok=>f1 (by simpa using ok.f1)))⟩)⟩
    refine ⟨_,_,rfl,rfl,_,rfl,ite2 (fun f2=>?_) (fun f2=>iteF (no2 fun ok=>f2 (by simpa using ok.f2)))⟩
    refine ⟨_,rfl,_,_,rfl,rfl,_,rfl,ite2 (fun e1=>?_) (fun e1=>⟨_,rfl,iteF (iteF (no2 fun ok=>e1 (by simpa using ok.e1)))⟩)⟩
    refine ⟨_,_,rfl,rfl,_,rfl,ite2 (fun e2=>?_) (fun e2=>iteF (no2 fun ok=>e2 (by simpa using ok.e2)))⟩
    refine ⟨_,rfl,_,_,rfl,rfl,_,rfl,ite2 (fun b1=>?_) (fun b1=>⟨_,rfl,iteF (no2 fun ok=>b1 (by simpa using ok.b1))⟩)⟩
    refine ⟨_,_,rfl,rfl,_,rfl,ite2 (fun b2=>?_) (fun b2=>no2 fun ok=>b2 (by simpa using ok.b2))⟩
    have ok:LayOk (nv a) (nv b) (nv c):=⟨by simpa using f1,by simpa using f2,by simpa using e1,by simpa using e2,by simpa using b1,by simpa using b2⟩
    exact ⟨_,rfl,_,_,rfl,rfl,_,rfl,_,_,rfl,rfl,_,rfl,_,_,rfl,rfl,k _ _ _ (layO_some.mpr ⟨a,b,c,ew,ha3.1,ha3.2.1,ha3.2.2,rfl,rfl,rfl,ok⟩) _ s6⟩
end
end K05
namespace K05
open PySem L2 PyProof.Rows PySem.W
section
variable {P:Program}{w:World}{K:PySem.W.Frag}{mg:Str→Option Value}{base:Heap}
def dueV:Option Nat→V
  | none=>.non
  | some k=>.int (k:Int)
def spDue:Sp:=fun vs H Q _=>∃ t:Str,vs=[.str t]∧t.length≤400000∧∀ H',Same H H'→Q (dueV (dueF (rws t))) H'
theorem ok_due (T:Tx K mg):FnOk P w K mg base CX0 3 T.f_l_due T.fd_l_due ["_law_text_here"] spDue:=by
  refine T.F_l_due.ok sc_l_due (fun vs H Q E h=>?_) (fun cdv A outer s H vs Q E hr h=>?_)
  · obtain ⟨t,rfl,_⟩:=h
    rfl
  · obtain ⟨t,rfl,hz,k⟩:=h
    have hu:_ + 60 < cLine:=Nat.lt_of_le_of_lt (Nat.add_le_add_left (by decide:60≤64) _) hr.units
    have r1:Room 1 _:=hr.mono (by decide)
    refine ⟨_,@pss_cons _ _ _ _ _ (ps_set (i:=1) sc_l_due.nd rfl (Or.inl rfl) (pe_bm PySem.F.plainAttrs_str PySem.F.slot_str_split PySem.F.type_str_split mt_split (pv 0) (pa_cons pe_str pa_nil)))
      (@pss_cons _ _ _ _ _ (ps_set (i:=2) sc_l_due.nd rfl (Or.inl rfl) (pe_op op_sub (pe_callB call_len_seq rfl T.z_len PySem.boot_len (pa_cons (pv 1) pa_nil)) pe_int))
      (@pss_cons _ _ _ _ _ (ps_if (PW.pt (pw_or (pt_cmpR op_eq (pv 2) pe_int (nomark _)) (pw_or1 (pt_cmpR op_isN (pe_call (ok_sizes T) hr rfl T.g_l_sizes T.F_l_sizes.kp T.b_l_sizes .nil pass0 (pa_cons (pe_ix ix_list (pv 1) pe_int (fun _ _=>rfl)) pa_nil)) pe_non (nomark _))))) (pss_one (ps_ret pe_int)) pss_nil)
      (@pss_cons _ _ _ _ _ (ps_set (i:=3) sc_l_due.nd rfl (Or.inl rfl) (pe_call (ok_sizes T) hr rfl T.g_l_sizes T.F_l_sizes.kp T.b_l_sizes .nil pass0 (pa_cons (pe_ix ix_list (pv 1) pe_int (fun _ _=>rfl)) pa_nil)))
      (@pss_cons _ _ _ _ _ (ps_for PassesOwn.never rfl (pi_range2 rfl T.z_range (pa_cons pe_int (pa_cons (pv 2) pa_nil))) (pg_name (i:=4) sc_l_due.nd rfl (Or.inl rfl))
        (@pss_cons _ _ _ _ _ (ps_set (i:=5) sc_l_due.nd rfl (Or.inl rfl) (pe_bm PySem.F.plainAttrs_str PySem.F.slot_str_split PySem.F.type_str_split mt_split (pe_ix ix_list (pv 1) (pv 4) (fun _ _=>rfl)) (pa_cons pe_str pa_nil)))
        (@pss_one _ _ _ (ps_if (PW.pt (pw_or (pt_cmpR op_gt (pv 4) (pv 3) (nomark _)) (pw_or (pt_cmpR op_ne (pe_callB call_len_seq rfl T.z_len PySem.boot_len (pa_cons (pv 5) pa_nil)) pe_int (nomark _))
          (pw_or1 (pt_cmpR (op_neT hu) (pe_comp (N':=["_law_one"]) (cap:=[none]) rfl (compOk_of (by kernel_rfl)) (pi_list (pv 5)) (fun cells C s₀ H₀ fp pins=>⟨pg_name (i:=0) ndp1 rfl (Or.inl rfl) (.inr rfl),pifs_one (pt_not (pt_val (pe_call (ok_isnum T) r1 rfl T.g_l_is_number T.F_l_is_number.kp T.b_l_is_number .nil pass0 (pa_cons (pv 0) pa_nil)))),pv 0⟩)) (pe_lst pa_nil) (nomark _)))))) (pss_one (ps_ret (pv 4))) pss_nil))))
      (@pss_cons _ _ _ _ _ (ps_if (PW.pt (pw_or (pt_cmpR op_lt (pv 2) (pe_op op_add (pv 3) pe_int) (nomark _)) (pw_or1 (pt_cmpR op_ne (pe_ix ix_list (pv 1) (pe_un un_neg pe_int) (fun _ _=>rfl)) pe_str (nomark _))))) (pss_one (ps_ret (pv 2))) pss_nil)
      (@pss_one _ _ _ (ps_ret pe_non))))))),?_⟩
    have big:(1000000:Nat)≤sizeLine:=by decide
    have hrl:(rws t).length≤400001:=Nat.le_trans splits_len (by omega)
    refine ⟨_,rfl,rfl,t,_,10,rfl,rfl,lit_nl,Nat.le_trans (show _≤500000 by omega) (by decide),fun l1 f1=>?_⟩
    have hp:∀ p∈rws t,p.length≤400000:=fun p hp=>Nat.le_trans (split_len hp) hz
    obtain ⟨n,hn⟩:∃ n,(rws t).length=n + 1:=by
      have:=List.length_pos_iff.mpr (split_ne t 10)
      exact ⟨(Txt.split t ⟨#[10]⟩).length - 1,by show (Txt.split t ⟨#[10]⟩).length=_;omega⟩
    obtain ⟨init,b,ei⟩:∃ init b,rws t=init ++ [b]:=⟨_,_,(List.dropLast_concat_getLast (split_ne t 10)).symm⟩
    change ∃ _,_
    show ∃ _,_
    generalize hR:Txt.split t ⟨#[10]⟩=R
    have k:∀ o,dueF R=o→∀ H',Same H H'→Q (dueV o) H':=fun o e H' s'=>by rw [← e,← hR];exact k H' s'
    have hn:R.length=n + 1:=by rw [← hR];exact hn
    have hp:∀ p∈R,p.length≤400000:=by rw [← hR];exact hp
    have ei:R=init ++ [b]:=by rw [← hR];exact ei
    have hrl:R.length≤400001:=by rw [← hR];exact hrl
    have gb:R.getD n eS=b:=by
      have li:init.length=n:=by
        have:=congrArg List.length ei
        rw [hn,List.length_append] at this
        simp at this
        omega
      rw [ei,List.getD_eq_getElem?_getD,List.getElem?_append_right (by omega),li]
      simp
    clear hR
    have hl1:upd H l1 (.lst (R.map V.str)) l1=some (.lst (R.map V.str)):=upd_same
    have s1:=Same.upd0 (o:=.lst (R.map V.str)) f1
    generalize upd H l1 (.lst (R.map V.str))=H1 at hl1 s1 ⊢
    have en:((R.map V.str).length:Int) - 1=(n:Int):=by rw [List.length_map,hn];omega
    refine ⟨_,rfl,l1,_,rfl,.inl (SqL.of hl1),_,_,rfl,rfl,?_⟩
    dsimp only
    rw [en]
    obtain ⟨r0,rest,eR⟩:∃ r0 rest,R=r0 :: rest:=by
      cases e:R with
      | nil=>rw [e] at hn;cases hn
      | cons a b=>exact ⟨a,b,rfl⟩
    have g0:R.getD 0 eS=r0:=by rw [eR];rfl
    have at0:atI (R.map V.str) ((0:Nat):Int)=some (.str r0):=atI_nat (j:=0) (by rw [eR];rfl)
    refine ⟨_,rfl,rfl,_,rfl,?_⟩
    by_cases h0:n=0
    · exact iteD (by rw [h0];rfl) (k _ (due_one (by rw [hn,h0])) _ s1)
    refine iteDF (int_ne (by omega)) ?_
    have h1:R.length≠1:=by omega
    have hr0:r0.length≤400000:=hp r0 (by rw [eR];simp)
    cases eL:layO r0 with
    | none=>exact ⟨_,rfl,l1,_,0,.str r0,rfl,rfl,SqL.of hl1,at0,r0,rfl,Nat.le_trans hr0 (by decide),(fun F E B e=>by rw [eL] at e;cases e),fun _ H2 s2=>⟨rfl,_,rfl,iteB (decide_eq_true rfl) (k _ (due_lay (by rw [g0];exact eL)) _ (s1.trans s2))⟩⟩
    | some x =>
    obtain ⟨F,E,B⟩:=x
    have eL':layO (R.getD 0 eS)=some (F,E,B):=by rw [g0];exact eL
    obtain ⟨_,_,_,_,_,_,_,_,_,_,ok⟩:=layO_some.mp eL
    have:=ok.f1;have:=ok.f2;have:=ok.e1;have:=ok.e2;have:=ok.b1;have:=ok.b2
    obtain ⟨m,em⟩:=Int.eq_ofNat_of_zero_le (show 0≤10 + F + E + B by omega)
    have em2:(10 + F + E + B).toNat=m:=by omega
    refine ⟨_,rfl,l1,_,0,.str r0,rfl,rfl,SqL.of hl1,at0,r0,rfl,Nat.le_trans hr0 (by decide),(fun F' E' B' e H2 s2=>?_),fun z=>by rw [eL] at z;cases z⟩
    rw [eL] at e
    obtain ⟨rfl,rfl,rfl⟩:F=F'∧E=E'∧B=B':=by
      injection e with e
      injection e with e1 e
      injection e with e2 e
      exact ⟨e1,e2,e⟩
    refine ⟨rfl,_,rfl,iteBF (decide_eq_false (fun z=>by cases z)) ?_⟩
    refine ⟨_,rfl,l1,_,0,.str r0,rfl,rfl,SqL.of (s2 _ _ hl1),at0,r0,rfl,Nat.le_trans hr0 (by decide),(fun F' E' B' e' H3 s3=>?_),fun z=>by rw [eL] at z;cases z⟩
    rw [eL] at e'
    obtain ⟨rfl,rfl,rfl⟩:F=F'∧E=E'∧B=B':=by
      injection e' with e
      injection e with e1 e
      injection e with e2 e
      exact ⟨e1,e2,e⟩
    rw [em]
    have S3:=s1.trans (s2.trans s3)
    have hl3:=s3 _ _ (s2 _ _ hl1)
    refine ⟨_,rfl,1,(n:Int),rfl,⟨by decide,by decide,by omega,by omega⟩,?_⟩
    rw [show ((n:Int) - 1).toNat=n - 1 by omega]
    have da:=fun hj=>due_all h1 eL' hj
    rw [hn,em2,Nat.add_sub_cancel,gb] at da
    refine for_range (lo:=1) (n:=n - 1) (fun i σ H'=>∃ x4 x5,σ=[some (.str t),some (.ref l1),some (.int (n:Int)),some (.int (m:Int)),x4,x5]∧Same H3 H'∧i≤m∧∀ j,1≤j→j < 1 + i→rowOk (R.getD j eS)=true)
      ⟨_,_,rfl,Same.refl _,Nat.zero_le _,fun j a c=>by omega⟩ ?_ ?_
    · rintro i σ H4 hi ⟨x4,x5,rfl,s4,him,all⟩
      have hk:i + 1 < R.length:=by omega
      have er:R[i + 1]?=some R[i + 1]:=List.getElem?_eq_getElem hk
      have gk:R.getD (i + 1) eS=R[i + 1]:=by rw [List.getD_eq_getElem?_getD,er];rfl
      have hrk:R[i + 1].length≤400000:=hp _ (List.getElem_mem hk)
      generalize R[i + 1]=r at er gk hrk
      have ek:(1:Int) + (i:Int)=((i + 1:Nat):Int):=by omega
      rw [ek]
      refine ⟨_,rfl,_,rfl,l1,_,_,.str r,rfl,rfl,SqL.of (s4 _ _ hl3),atI_nat (j:=i + 1) (by rw [List.getElem?_map,er];rfl),rfl,r,_,32,rfl,rfl,lit_sp,Nat.le_trans (show _≤500000 by omega) (by decide),fun l5 f5=>?_⟩
      have hwl:(wds r).length≤500001:=Nat.le_trans splits_len (by omega)
      have hl5:upd H4 l5 (.lst ((wds r).map V.str)) l5=some (.lst ((wds r).map V.str)):=upd_same
      have s5:=s4.upd (o:=.lst ((wds r).map V.str)) f5
      generalize upd H4 l5 (.lst ((wds r).map V.str))=H5 at hl5 s5 ⊢
      have S5:=S3.trans s5
      refine ⟨_,rfl,_,rfl,_,_,rfl,rfl,_,rfl,?_⟩
      by_cases hkm:((i + 1:Nat):Int) > (m:Int)
      · refine iteD hkm (iteT ⟨_,rfl,k (some (i + 1)) ?_ _ S5⟩)
        have hmi:i=m:=by omega
        rw [da fun j a c=>all j a (by omega),if_neg (by omega)]
        congr 1
        omega
      refine iteDF hkm ?_
      refine ⟨_,rfl,l5,_,rfl,.inl (SqL.of hl5),rfl,_,rfl,?_⟩
      rw [List.length_map]
      have bad:rowOk r=false→∀ H',Same H H'→Q (.int ((i + 1:Nat):Int)) H':=fun h=>k (some (i + 1)) (due_bad h1 eL' (by omega) (by rw [hn,em2];omega) (by rw [gk];exact h) fun j a c=>all j a (by omega))
      by_cases h8:(wds r).length=8
      rotate_left
      · refine iteNF (int_ne (by omega)) (iteT ⟨_,rfl,bad ?_ _ S5⟩)
        unfold rowOk
        rw [decide_eq_false h8]
        rfl
      refine iteNS (by rw [h8];rfl) ?_
      refine ⟨_,rfl,l5,rfl,⟨_,SqL.of hl5⟩,?_⟩
      refine comp_list (cap:=[none]) (K:=K) (a:=l5) (xs:=(wds r).map V.str) (by rw [List.length_map];omega) (fun i ys σ H'=>i≤(wds r).length∧ys=(((wds r).take i).filter fun x=>!iw x).map V.str∧σ.length=1∧Same H5 H')
        (by exact ⟨Nat.zero_le _,rfl,rfl,Same.refl _⟩) (fun i ys σ H' ⟨h1,h2,_,h4⟩=>⟨by rw [List.length_map];exact h1,by rw [h2,List.length_map];exact Nat.le_trans (List.length_filter_le ..) (by rw [List.length_take];omega),h4.seq (SqL.of hl5)⟩) ?_ ?_
      · rintro i x ys σ H' hx ⟨h1,rfl,h3,sH⟩
        rw [List.getElem?_map] at hx
        cases en:(wds r)[i]? with
        | none=>rw [en] at hx;cases hx
        | some q =>
          rw [en] at hx
          cases hx
          have hi:i < (wds r).length:=(List.getElem?_eq_some_iff.mp en).1
          have hm:=split_len (List.mem_of_getElem? en)
          match σ,h3 with
          | [z0],_ =>
            refine ⟨_,rfl,q,rfl,by omega,fun H3 s3=>?_⟩
            refine ⟨_,rfl,?_⟩
            rw [List.take_add_one,en]
            cases hn:isW q.cps.toList
            · exact iteT ⟨_,rfl,hi,by simp [hn],rfl,sH.trans s3⟩
            · exact iteF ⟨hi,by simp [hn],rfl,sH.trans s3⟩
      rintro ys σ H6 ⟨h1',rfl,h3',s6⟩ D hD
      rw [List.length_map,List.take_length]
      refine ⟨(by show 0≤sizeLine;decide),fun z2 fz2=>?_⟩
      refine ⟨D,z2,1,1,_,.lst [],rfl,rfl,by decide,by decide,holds_flatsL (SqL.of ((Same.upd0 fz2) _ _ upd_same)) (strs_flat _),holds_flatsL (xs:=[]) (SqL.of upd_same) rfl,(fun _ h=>nomatch h),(fun _ h=>nomatch h),_,rfl,?_⟩
      have sD:=s5.trans ((s6.upd (o:=.lst (((wds r).filter fun x=>!iw x).map V.str)) hD).upd (o:=.lst []) fz2)
      rw [eq_nil,bad_nil]
      cases ha:(wds r).all iw
      · refine iteT ⟨_,rfl,bad ?_ _ (S3.trans sD)⟩
        unfold rowOk
        rw [ha,Bool.and_false]
      · refine iteF ⟨_,_,rfl,sD,by omega,fun j a c=>?_⟩
        by_cases z:j < 1 + i
        · exact all j a z
        · have:j=i + 1:=by omega
          subst this
          rw [gk]
          unfold rowOk
          rw [ha,decide_eq_true h8]
          rfl
    rintro σ H4 ⟨x4,x5,rfl,s4,him,all⟩
    have S4:=S3.trans s4
    have da:=da fun j a c=>all j a (by omega)
    refine ⟨_,rfl,_,rfl,_,_,rfl,rfl,_,_,rfl,rfl,_,rfl,?_⟩
    by_cases hnm:(n:Int) < (m:Int) + 1
    · refine iteD hnm (iteT ⟨_,rfl,k (some n) ?_ _ S4⟩)
      rw [da,if_neg (by omega)]
      congr 1
      omega
    refine iteDF hnm ?_
    have hnm:n=m + 1:=by omega
    refine ⟨_,rfl,_,rfl,l1,_,_,.str b,rfl,rfl,SqL.of (s4 _ _ hl3),(by rw [ei,List.map_append];exact atI_last _ _),rfl,_,rfl,?_⟩
    by_cases hb:b=eS
    · refine iteNS (by rw [hb];exact congrArg V.str lit_e.symm) (k none ?_ _ S4)
      rw [da,if_pos ⟨hnm,hb⟩]
    · refine iteNF (fun z=>hb ((V.str.inj z).trans lit_e)) ⟨_,rfl,k (some n) ?_ _ S4⟩
      rw [da,if_neg (fun z=>hb z.2)]
      congr 1
      omega
end
end K05
namespace K05
open PySem L2 PyProof.Rows PySem.W
section
variable {P:Program}{w:World}{K:PySem.W.Frag}{mg:Str→Option Value}{base:Heap}
def spLText (C:Addr):Sp:=fun vs H Q _=>∃ (p v:Addr) (F E B:Int) (as:List Addr) (rows:List (List Int)),vs=[.ref p,.ref v]∧Lay C H p F E B∧LayOk F E B∧Vol H v as rows∧rows.length≤100∧Sms rows∧∀ H',Same H H'→Q (.str (txt F E B rows)) H'
theorem first_is (F E B:Int):Str.ofString "volume " ++ num F ++ Str.ofString " " ++ num E ++ Str.ofString " " ++ num B=first F E B:=by
  apply str_ext
  have e:first F E B=volS ++ ⟨#[32]⟩ ++ (num F ++ ⟨#[32]⟩ ++ (num E ++ ⟨#[32]⟩ ++ num B)):=rfl
  rw [e]
  simp only [Str.cps_append,Array.toList_append,lit_vols,lit_sp]
  have:volS.cps.toList=[118,111,108,117,109,101]:=lit_vol
  rw [this]
  simp
theorem ok_ltext (T:Tx K mg):FnOk P w K mg base CX0 1 T.f_l_text T.fd_l_text ["_law_layout","_law_volume"] (spLText T.C_Layout):=by
  refine T.F_l_text.ok sc_l_text (fun vs H Q E h=>?_) (fun cdv A outer s H vs Q E hr h=>?_)
  · obtain ⟨p,v,F,E,B,as,rows,rfl,_⟩:=h
    rfl
  · obtain ⟨p,v,F,E,B,as,rows,rfl,⟨dx,hp⟩,ok,hV,hn,hs,k⟩:=h
    refine ⟨_,pss_cut (ps_set (i:=2) sc_l_text.nd rfl (Or.inl rfl) (pe_lst (pa_cons (pe_op op_add_str (pe_op op_add_str (pe_op op_add_str (pe_op op_add_str (pe_op op_add_str pe_str (pe_callTy call_str_int rfl T.z_str (by kernel_rfl) (pa_cons (pe_fld (pv 0) rfl) pa_nil))) pe_str) (pe_callTy call_str_int rfl T.z_str (by kernel_rfl) (pa_cons (pe_fld (pv 0) rfl) pa_nil))) pe_str) (pe_callTy call_str_int rfl T.z_str (by kernel_rfl) (pa_cons (pe_fld (pv 0) rfl) pa_nil))) pa_nil)))
      (pss_cons (ps_set (i:=2) sc_l_text.nd rfl (Or.inl rfl) (pe_op op_cat (pv 2) (pe_comp (N':=["_law_row"]) (cap:=[none]) rfl (compOk_of (by kernel_rfl)) (pi_list (pv 1))
        (fun cells C s₀ H₀ fp pins=>⟨pg_name (i:=0) ndp1 rfl (Or.inl rfl) (.inr rfl),pifs_nil,pe_bmK (K:=K) rfl PySem.F.plainAttrs_str PySem.F.slot_str_join PySem.F.type_str_join (mt_joinK (K:=K) rfl) pe_str (pa_cons (pe_comp (N':=["_law_number_here"]) (cap:=[none]) rfl (compOk_of (by kernel_rfl)) (pi_listK (K:=K) rfl (pv 0))
          (fun cells C s₀ H₀ fp pins=>⟨pg_name (i:=0) ndp1 rfl (Or.inl rfl) (.inr rfl),pifs_nil,pe_callTy call_str_int rfl T.z_str (by kernel_rfl) (pa_cons (pv 0) pa_nil)⟩)) pa_nil)⟩))))
      (pss_one (ps_ret (pe_bm PySem.F.plainAttrs_str PySem.F.slot_str_join PySem.F.type_str_join mt_join pe_str (pa_cons (pe_comp (N':=["_law_row"]) (cap:=[none]) rfl (compOk_of (by kernel_rfl)) (pi_list (pv 2))
        (fun cells C s₀ H₀ fp pins=>⟨pg_name (i:=0) ndp1 rfl (Or.inl rfl) (.inr rfl),pifs_nil,pe_op op_add_str (pv 0) pe_str⟩)) pa_nil))))),?_⟩
    have sF:=lay_sm ok F (by simp)
    have sE:=lay_sm ok E (by simp)
    have sB:=lay_sm ok B (by simp)
    have lF:=num_len sF;have lE:=num_len sE;have lB:=num_len sB
    have lv:(Str.ofString "volume ").length=7:=by rw [← len_codes,lit_vols];rfl
    have ls:(Str.ofString " ").length=1:=by rw [lit_sp];rfl
    have big:(1000:Nat)≤sizeLine:=by decide
    refine ⟨fun σ H'=>∃ l1,σ=[some (.ref p),some (.ref v),some (.ref l1)]∧Same H H'∧H' l1=some (.lst [.str (first F E B)]),?_,?_⟩
    · refine ⟨_,rfl,p,T.C_Layout,dx,_,_,rfl,hp,T.cl_Layout,T.n_Layout_files,lay_files _ _ _,F,rfl,log_lt sF,_,_,rfl,rfl,(by show _ + (num F).length≤_;omega),?_⟩
      refine ⟨_,_,rfl,rfl,(by rw [Str.length_append];show _ + (num F).length + _≤_;omega),?_⟩
      refine ⟨_,rfl,p,T.C_Layout,dx,_,_,rfl,hp,T.cl_Layout,T.n_Layout_slots,lay_slots _ _ _,E,rfl,log_lt sE,_,_,rfl,rfl,(by rw [Str.length_append,Str.length_append];show _ + (num F).length + _ + (num E).length≤_;omega),?_⟩
      refine ⟨_,_,rfl,rfl,(by rw [Str.length_append,Str.length_append,Str.length_append];show _ + (num F).length + _ + (num E).length + _≤_;omega),?_⟩
      refine ⟨_,rfl,p,T.C_Layout,dx,_,_,rfl,hp,T.cl_Layout,T.n_Layout_data,lay_data _ _ _,B,rfl,log_lt sB,_,_,rfl,rfl,(by rw [Str.length_append,Str.length_append,Str.length_append,Str.length_append];show _ + (num F).length + _ + (num E).length + _ + (num B).length≤_;omega),?_⟩
      refine ⟨(by show 1≤sizeLine;decide),fun l1 f1=>⟨l1,rfl,Same.upd0 f1,?_⟩⟩
      rw [upd_same]
      exact congrArg (fun z=>some (HO.lst [V.str z])) (first_is F E B)
    rintro σ H2 ⟨l1,rfl,S2,hl1⟩
    have hV2:=hV.same S2
    refine ⟨_,rfl,_,rfl,v,rfl,⟨_,SqL.of hV2.top⟩,?_⟩
    refine comp_list (cap:=[none]) (K:=K) (a:=v) (xs:=as.map V.ref) (small_len (by rw [List.length_map,hV.len];omega)) (fun i ys σ H'=>i≤rows.length∧ys=((rows.take i).map wr).map V.str∧σ.length=1∧Same H2 H')
      (by exact ⟨Nat.zero_le _,rfl,rfl,Same.refl _⟩) (fun i ys σ H' ⟨h1,h2,_,h4⟩=>⟨by rw [List.length_map,hV.len];exact h1,by rw [h2,List.length_map,List.length_map,List.length_take];omega,SqL.of (h4 _ _ hV2.top)⟩) ?_ ?_
    · rintro i x ys σ H' hx ⟨h1,rfl,h3,sH⟩
      rw [List.getElem?_map] at hx
      cases ea:as[i]? with
      | none=>rw [ea] at hx;cases hx
      | some a =>
        rw [ea] at hx
        cases hx
        have hi:i < rows.length:=by rw [← hV.len];exact (List.getElem?_eq_some_iff.mp ea).1
        have er:rows[i]?=some rows[i]:=List.getElem?_eq_getElem hi
        have hm:=List.mem_of_getElem? er
        have ha:=sH _ _ (hV2.row i a _ ea er)
        have h8:rows[i].length≤1000:=by rw [(hs _ hm).1];decide
        match σ,h3 with
        | [z0],_ =>
          refine ⟨rfl,_,rfl,a,rfl,⟨_,SqL.of ha⟩,comp_strs (SqL.of ha) h8 (hs _ hm).2 fun D hD=>?_⟩
          refine ⟨_,D,_,rfl,rfl,SqL.of upd_same,wr_ok h8 (hs _ hm).2,hi,?_,rfl,sH.upd hD⟩
          rw [lit_sp,List.take_add_one,er,List.map_append,List.map_append]
          rfl
    rintro ys σ H3 ⟨h1,rfl,h3,s3⟩ D hD
    rw [List.length_map,hV.len,List.take_length]
    refine ⟨l1,D,_,_,rfl,rfl,(s3.upd hD) _ _ hl1,upd_same,?_,fun rl frl=>?_⟩
    · rw [List.length_map,List.length_map]
      exact Nat.le_trans (show _≤101 by simp;omega) (by decide)
    have S4:=(S2.trans (s3.upd (o:=.lst ((rows.map wr).map V.str)) hD)).upd (o:=.lst ([.str (first F E B)] ++ (rows.map wr).map V.str)) frl
    refine ⟨rfl,_,rfl,rl,rfl,⟨_,SqL.of upd_same⟩,comp_nl (ls:=lines F E B rows) (SqL.of upd_same) ?_ (fun p hp=>Nat.le_trans (lines_len ok hs p hp) (by decide)) fun D2 hD2=>?_⟩
    · unfold lines
      rw [List.length_cons,List.length_map]
      omega
    have hj:=txt_ok ok hn hs
    refine ⟨_,D2,_,rfl,rfl,SqL.of upd_same,hj,?_⟩
    rw [lit_e]
    exact k _ (S4.upd hD2)
theorem val_lt:∀ (n:Nat) (l:List Nat),l.length=n→PySem.NumText.AllDigits l→PySem.NumText.digitsVal l < 10 ^ n
  | 0,l,h,_=>by
    rw [List.length_eq_zero_iff.mp h]
    decide
  | n + 1,l,h,hd=>by
    have hne:l≠[]:=fun z=>by rw [z] at h;cases h
    have e:=List.dropLast_concat_getLast hne
    have hl:l.dropLast.length=n:=by rw [List.length_dropLast,h];rfl
    have ih:=val_lt n l.dropLast hl fun c hc=>hd c ((List.dropLast_sublist l).subset hc)
    have hc:=hd _ (List.getLast_mem hne)
    rw [← e,PySem.NumText.digitsVal_snoc,Nat.pow_succ]
    omega
theorem nv_sm {x:Str}(h:iw x=true):Sm (nv x):=by
  rcases isW_cases h with ⟨hm,hd,hn,h40,_⟩ | ⟨r,e,hd,hn,h40,_⟩
  · show (numV x.cps.toList).natAbs < 10 ^ 40
    rw [numV_pos hm]
    exact Nat.lt_of_lt_of_le (val_lt _ _ rfl hd) (Nat.pow_le_pow_right (by decide) h40)
  · show (numV x.cps.toList).natAbs < 10 ^ 40
    rw [e]
    show (-((PySem.NumText.digitsVal r:Nat):Int)).natAbs < 10 ^ 40
    rw [Int.natAbs_neg]
    exact Nat.lt_of_lt_of_le (val_lt _ _ rfl hd) (Nat.pow_le_pow_right (by decide) h40)
theorem nums_back {ws:List Str}(h:ws.all iw=true):(ws.map nv).map num=ws:=by
  rw [List.map_map]
  refine (List.map_congr_left fun x hx=>?_).trans (List.map_id ws)
  exact str_of_w (List.all_eq_true.mp h x hx)
theorem row_back {r:Str}(h:rowOk r=true):wr (rowV r)=r∧(rowV r).length=8∧∀ n∈rowV r,Sm n:=by
  unfold rowOk at h
  rw [Bool.and_eq_true] at h
  refine ⟨?_,?_,fun n hn=>?_⟩
  · unfold wr rowV
    rw [nums_back h.2]
    exact StrLaws.join_split _ _
  · unfold rowV
    rw [List.length_map]
    exact of_decide_eq_true h.1
  · unfold rowV at hn
    obtain ⟨x,hx,rfl⟩:=List.mem_map.mp hn
    exact nv_sm (List.all_eq_true.mp h.2 x hx)
theorem first_back {r:Str}{F E B:Int}(h:layO r=some (F,E,B)):first F E B=r:=by
  obtain ⟨a,b,c,e,h1,h2,h3,rfl,rfl,rfl,_⟩:=layO_some.mp h
  have e1:first (nv a) (nv b) (nv c)=Str.join ⟨#[32]⟩ [volS,num (nv a),num (nv b),num (nv c)]:=rfl
  rw [e1,show num (nv a)=a from str_of_w h1,show num (nv b)=b from str_of_w h2,show num (nv c)=c from str_of_w h3,← e]
  exact StrLaws.join_split _ _
theorem txt_back {t:Str}{F E B:Int}(hl:layO ((rws t).getD 0 eS)=some (F,E,B)) (hr:∀ p∈(rws t).dropLast.drop 1,rowOk p=true) (hb:(rws t).getLast?=some eS) (h1:1 < (rws t).length):txt F E B (((rws t).dropLast.drop 1).map rowV)=t:=by
  have hj:Str.join ⟨#[10]⟩ (rws t)=t:=StrLaws.join_split _ _
  have hne:rws t≠[]:=split_ne t 10
  have e:rws t=(rws t).dropLast ++ [eS]:=by
    have e:=(List.dropLast_concat_getLast hne).symm
    have:(rws t).getLast hne=eS:=by
      rw [List.getLast?_eq_some_getLast hne] at hb
      injection hb
    rw [this] at e
    exact e
  unfold txt
  rw [join_nl]
  refine Eq.trans ?_ hj
  congr 1
  generalize rws t=R at *
  obtain ⟨r0,rest,er⟩:∃ r0 rest,R.dropLast=r0 :: rest:=by
    cases q:R.dropLast with
    | nil=>rw [q] at e;rw [e] at h1;simp at h1
    | cons a b=>exact ⟨a,b,rfl⟩
  have g0:R.getD 0 eS=r0:=by rw [e,er];rfl
  rw [g0] at hl
  rw [er,List.drop_one,List.tail_cons] at hr ⊢
  rw [er] at e
  rw [e]
  congr 1
  unfold lines
  rw [first_back hl,List.map_map]
  congr 1
  refine (List.map_congr_left fun p hp=>?_).trans (List.map_id rest)
  exact (row_back (hr p hp)).1
end
end K05
namespace K05
open PySem L2 PyProof.Rows PySem.W
section
variable {P:Program}{w:World}{K:PySem.W.Frag}{mg:Str→Option Value}{base:Heap}
def spRight:Sp:=fun vs H Q _=>∃ t:Str,vs=[.str t]∧t.length≤400000∧∀ H',Same H H'→Q (.bl true) H'
theorem due_none {rows:List Str}(h:dueF rows=none):1 < rows.length:=by
  by_cases h1:rows.length=1
  · rw [due_one h1] at h;cases h
  by_cases h0:rows.length=0
  · have e:rows=[]:=List.length_eq_zero_iff.mp h0
    subst e
    have:dueF []=some 0:=due_lay (by decide +kernel)
    rw [this] at h
    cases h
  omega
theorem ok_right (T:Tx K mg):FnOk P w K mg base CX0 6 T.f_l_right T.fd_l_right ["_law_text_here"] spRight:=by
  refine T.F_l_right.ok sc_l_right (fun vs H Q E h=>?_) (fun cdv A outer s H vs Q E hr h=>?_)
  · obtain ⟨t,rfl,_⟩:=h
    rfl
  · obtain ⟨t,rfl,hz,k⟩:=h
    have r1:Room 1 _:=hr.mono (by decide)
    have r3:Room 3 _:=hr.mono (by decide)
    refine ⟨_,pss_cons (ps_set (i:=1) sc_l_right.nd rfl (Or.inl rfl) (pe_call (ok_due T) r3 rfl T.g_l_due T.F_l_due.kp T.b_l_due .nil pass0 (pa_cons (pv 0) pa_nil)))
      (pss_cons (ps_try (i:=3) (C:=T.C_VolumeError) rfl T.g_VolumeError rfl rfl sc_l_right.nd rfl rfl
        (fun W pn X hT=>pss_one (ps_set (i:=2) sc_l_right.nd rfl (Or.inl rfl) (pe_callX (ok_rvolume T) hr rfl T.g_read_volume T.F_read_volume.kp T.b_read_volume .nil hT (pa_cons (pv 0) pa_nil))))
        (fun ea=>pss_cons (ps_set (i:=4) sc_l_right.nd rfl (Or.inl rfl) (pe_callB (call_isET (K:=K) rfl) rfl T.z_isinstance (by kernel_rfl) (pa_cons (pv 3) (pa_cons (pe_tup (pa_cons (pe_glob (v:=.ref T.C_NoLayout) rfl T.g_NoLayout rfl) (pa_cons (pe_glob (v:=.ref T.C_NoPath) rfl T.g_NoPath rfl) (pa_cons (pe_glob (v:=.ref T.C_NoVolume) rfl T.g_NoVolume rfl) (pa_cons (pe_glob (v:=.ref T.C_TooFar) rfl T.g_TooFar rfl) pa_nil))))) pa_nil))))
          (pss_one (ps_ret (pe_andI (pe_callB (call_isE (K:=K) rfl) rfl T.z_isinstance (by kernel_rfl) (pa_cons (pv 3) (pa_cons (pe_glob (v:=.ref T.C_NoText) rfl T.g_NoText rfl) pa_nil)))
            (pe_andI (pe_not (pv 4)) (pe_andI (pe_not (pe_callB (call_isTK (K:=K) rfl) rfl T.z_isinstance (by kernel_rfl) (pa_cons (pe_fldE (K:=K) rfl (pv 3) rfl) (pa_cons (pe_bltn (v:=.ty "bool") rfl T.z_bool (by kernel_rfl) rfl) pa_nil))))
              (pe_one (pe_cmpR op_eq (pe_fldE (K:=K) rfl (pv 3) rfl) (pv 1) (nomark _)))))))))
        pss_nil)
      (pss_one (ps_ret (pe_and (pe_cmpR op_isN (pv 1) pe_non (nomark _)) (pe_one (pe_cmpR op_eq (pe_call (ok_ltext T) r1 rfl T.g_l_text T.F_l_text.kp T.b_l_text .nil pass0 (pa_cons (pe_ix ix_tup (pv 2) pe_int (fun _ _=>rfl)) (pa_cons (pe_ix ix_tup (pv 2) pe_int (fun _ _=>rfl)) pa_nil))) (pv 0) (nomark _))))))),?_⟩
    refine ⟨_,rfl,t,rfl,hz,fun H1 s1=>?_⟩
    refine ⟨_,rfl,t,rfl,hz,fun kk ek dx H2 s2 hdx=>⟨T.C_NoText,rfl,T.k_match,fun ea hea=>?_⟩,fun en F E B eL hlen hrow hlast tt p v as H2 s2 hlay hV htt=>?_⟩
    · refine ⟨_,rfl,(by show 4≤sizeLine;decide),fun tp htp=>?_⟩
      have nd:dx≠ea:=ne_of_none hdx hea
      have ee:upd H2 ea (excO ea T.C_NoText (some dx)) ea=some (excO ea T.C_NoText (some dx)):=upd_same
      have ed:upd H2 ea (excO ea T.C_NoText (some dx)) dx=some (.xd [("at",.int (kk:Int))]):=by rw [upd_ne nd];exact hdx
      have ee2:upd (upd H2 ea (excO ea T.C_NoText (some dx))) tp (.tup [.ref T.C_NoLayout,.ref T.C_NoPath,.ref T.C_NoVolume,.ref T.C_TooFar]) ea=some (excO ea T.C_NoText (some dx)):=(Same.upd0 htp) _ _ ee
      have ed2:upd (upd H2 ea (excO ea T.C_NoText (some dx))) tp (.tup [.ref T.C_NoLayout,.ref T.C_NoPath,.ref T.C_NoVolume,.ref T.C_TooFar]) dx=some (.xd [("at",.int (kk:Int))]):=(Same.upd0 htp) _ _ ed
      have eD:DictOf (upd (upd H2 ea (excO ea T.C_NoText (some dx))) tp (.tup [.ref T.C_NoLayout,.ref T.C_NoPath,.ref T.C_NoVolume,.ref T.C_TooFar])) (some dx):=.inr ⟨dx,_,rfl,ed2⟩
      refine ⟨ea,T.C_NoText,some dx,tp,[T.C_NoLayout,T.C_NoPath,T.C_NoVolume,T.C_TooFar],false,rfl,ee2,eD,T.xt_NoText,SqT.of upd_same,T.k_none,?_⟩
      have fin:=k _ ((s1.trans s2).trans ((Same.upd0 (o:=excO ea T.C_NoText (some dx)) hea).upd (o:=.tup [.ref T.C_NoLayout,.ref T.C_NoPath,.ref T.C_NoVolume,.ref T.C_TooFar]) htp))
      refine ⟨_,rfl,ea,T.C_NoText,some dx,_,_,true,rfl,ee2,eD,T.xt_NoText,rfl,T.k_self,true,true,rfl,(fun _=>⟨_,rfl,false,rfl,true,true,rfl,(fun _=>⟨_,rfl,ea,T.C_NoText,dx,_,.int (kk:Int),rfl,ee2,ed2,T.xt_NoText,T.xh_NoText,T.n_NoText_at,rfl,rfl,_,_,_,false,rfl,TyOf.int _,rfl,false,rfl,true,true,rfl,(fun _=>⟨_,rfl,ea,T.C_NoText,dx,_,.int (kk:Int),rfl,ee2,ed2,T.xt_NoText,T.xh_NoText,T.n_NoText_at,rfl,rfl,_,rfl,(by rw [ek];rfl),(by rw [ek];exact congrArg V.bl (decide_eq_true rfl)),rfl⟩),rfl,rfl⟩),rfl,rfl⟩),fin⟩
    · obtain ⟨_,_,_,_,_,_,_,_,_,_,ok⟩:=layO_some.mp eL
      have:=ok.f1;have:=ok.f2;have:=ok.e1;have:=ok.e2;have:=ok.b1;have:=ok.b2
      have hsm:Sms (((rws t).dropLast.drop 1).map rowV):=fun r hr=>by
        obtain ⟨p,hp,rfl⟩:=List.mem_map.mp hr
        exact ⟨(row_back (hrow p hp)).2.1,(row_back (hrow p hp)).2.2⟩
      have tb:=txt_back eL hrow hlast (due_none en)
      refine ⟨_,rfl,rfl,true,?_,iteT ?_⟩
      · rw [en];exact congrArg V.bl (decide_eq_true rfl)
      refine ⟨_,rfl,tt,_,0,.ref p,rfl,rfl,SqT.of htt,atI_nat (j:=0) rfl,_,rfl,tt,_,1,.ref v,rfl,rfl,SqT.of htt,atI_nat (j:=1) rfl,p,v,F,E,B,as,_,rfl,hlay,ok,hV,by rw [List.length_map];omega,hsm,fun H3 s3=>?_⟩
      rw [tb]
      refine ⟨_,rfl,rfl,?_⟩
      have:=k H3 ((s1.trans s2).trans s3)
      rw [show decide (V.str t=V.str t)=true from decide_eq_true rfl]
      exact this
end
end K05
namespace K05
open PySem L2 PyProof.Rows PySem.W
section
variable {P:Program}{w:World}{K:PySem.W.Frag}{mg:Str→Option Value}{base:Heap}
def strOf:Expr→Option Str
  | .Constant (.str x) _ _=>some x
  | _=>none
def strsOf:List Expr→Option (List Str)
  | []=>some []
  | e :: es=>(strOf e).bind fun n=>(strsOf es).map (n :: ·)
def tStrsA (ns:List Str):TA:=fun _ H Q=>Q (ns.map V.str) H
def tStrs (ns:List Str):TE:=fun _ H Q=>ns.length≤sizeLine∧∀ p,H p=none→Q (.ref p) (upd H p (.lst (ns.map V.str)))
theorem pe_strOf {X:Cx}{e:Expr}{n:Str}(h:strOf e=some n):PE X e (tC (.str n)):=by
  unfold strOf at h
  split at h
  · cases h
    exact pe_str
  · cases h
theorem star_strOf {X:Cx}{e:Expr}{n:Str}{es:List Expr}(h:strOf e=some n):starEach (e :: es) X.env=(false,eval e X.env) :: starEach es X.env:=by
  unfold strOf at h
  split at h
  · rfl
  · cases h
theorem pa_strs {X:Cx}:∀ {es:List Expr}{ns:List Str},strsOf es=some ns→PA X es (tStrsA ns)
  | [],ns,h=>by
    cases h
    exact pa_nil
  | e :: es,ns,h=>by
    unfold strsOf at h
    cases hn:strOf e with
    | none=>rw [hn] at h;cases h
    | some n =>
      cases hs:strsOf es with
      | none=>rw [hn,hs] at h;cases h
      | some ms =>
        rw [hn,hs] at h
        cases h
        intro pos pins s σ H Q I hq
        exact pa_cons (pe_strOf hn) (pa_strs hs) (star_strOf hn) pos pins s σ H Q I hq
theorem pe_strs {X:Cx}{es:List Expr}{ns:List Str}{pos:Pos}(h:strsOf es=some ns):PE X (.List es pos) (tStrs ns):=by
  intro pins s σ H Q I hq
  refine pe_lst (pa_strs h) pins s σ H Q I ?_
  obtain ⟨h1,h2⟩:=hq
  exact ⟨by rw [List.length_map];exact h1,h2⟩
theorem at_strs {ss:List Str}{i:Int}(h0:0≤i) (h1:i < (ss.length:Int)):∃ y∈ss,atI (ss.map V.str) i=some (.str y):=by
  obtain ⟨n,rfl⟩:=Int.eq_ofNat_of_zero_le h0
  have hn:n < ss.length:=by omega
  exact ⟨ss[n],List.getElem_mem hn,atI_nat (by rw [List.getElem?_map,List.getElem?_eq_getElem hn];rfl)⟩
def spSigns:Sp:=fun vs H Q _=>∃ (r:Str) (c:Int),vs=[.str r,.int c]∧r.length≤5000∧∀ r':Str,r'.length≤2 * r.length + 1→Q (.str r') H
theorem lit_signs:(Str.ofString "0159- +,x\t\n 00-.").cps.toList.length=16:=by decide +kernel
theorem ok_signs (T:Tx K mg):FnOk P w K mg base CX0 1 T.f_l_signs T.fd_l_signs ["_law_row","_law_cell_here"] spSigns:=by
  refine T.F_l_signs.ok sc_l_signs (fun vs H Q E h=>?_) (fun cdv A outer s H vs Q E hr h=>?_)
  · obtain ⟨r,c,rfl,_⟩:=h
    rfl
  · obtain ⟨r,c,rfl,hz,k⟩:=h
    refine ⟨_,pss_cons (ps_set (i:=2) sc_l_signs.nd rfl (Or.inl rfl) (pe_ix ix_str pe_str (pe_op op_mod (pe_op op_fdiv (pv 1) pe_int) pe_int) (fun _ _=>rfl)))
      (pss_cons (ps_set (i:=3) sc_l_signs.nd rfl (Or.inl rfl) (pe_op op_mod (pe_op op_fdiv (pv 1) pe_int) (pe_op op_add (pe_callB call_len_str rfl T.z_len PySem.boot_len (pa_cons (pv 0) pa_nil)) pe_int)))
      (pss_cons (ps_if (pt_cmpR op_eq (pe_op op_mod (pv 1) pe_int) pe_int (nomark _)) (pss_one (ps_ret (pe_op op_add_str (pe_op op_add_str (pe_slice sl_str (pv 0) po_none (po_some (pv 3))) (pv 2)) (pe_slice sl_str (pv 0) (po_some (pv 3)) po_none)))) pss_nil)
      (pss_cons (ps_if (pt_cmpR op_eq (pe_op op_mod (pv 1) pe_int) pe_int (nomark _)) (pss_one (ps_ret (pe_op op_add_str (pe_op op_add_str (pe_slice sl_str (pv 0) po_none (po_some (pv 3))) (pv 2)) (pe_slice sl_str (pv 0) (po_some (pe_op op_add (pv 3) pe_int)) po_none)))) pss_nil)
      (pss_cons (ps_if (pt_cmpR op_eq (pe_op op_mod (pv 1) pe_int) pe_int (nomark _)) (pss_one (ps_ret (pe_op op_add_str (pe_slice sl_str (pv 0) po_none (po_some (pv 3))) (pe_slice sl_str (pv 0) (po_some (pe_op op_add (pv 3) pe_int)) po_none)))) pss_nil)
      (pss_one (ps_ret (pe_op op_add_str (pv 0) (pv 2)))))))),?_⟩
    have big:(1000000:Nat)≤sizeLine:=by decide
    have i0:0≤c / 4 % 16:=Int.emod_nonneg _ (by decide)
    have i1:c / 4 % 16 < 16:=Int.emod_lt_of_pos _ (by decide)
    obtain ⟨n,en⟩:=Int.eq_ofNat_of_zero_le i0
    have hn:n < (Str.ofString "0159- +,x\t\n 00-.").cps.toList.length:=by rw [lit_signs];omega
    have l16:(Str.ofString "0159- +,x\t\n 00-.").length=16:=by rw [← len_codes];exact lit_signs
    obtain ⟨sg,hsg⟩:∃ sg,atI (Str.ofString "0159- +,x\t\n 00-.").cps.toList (c / 4 % 16)=some sg:=⟨_,by rw [en];exact atI_nat (List.getElem?_eq_getElem hn)⟩
    refine ⟨_,rfl,_,_,rfl,rfl,⟨by decide,by decide⟩,_,_,rfl,rfl,(by show (0:Int) < 16;decide),_,_,sg,rfl,rfl,by omega,hsg,?_⟩
    have ls:(⟨#[sg]⟩:Str).length=1:=rfl
    refine ⟨_,rfl,_,_,rfl,rfl,⟨by decide,by decide⟩,_,rfl,r,rfl,by omega,_,_,rfl,rfl,_,_,rfl,rfl,(by show (0:Int) < (r.length:Int) + 1;omega),?_⟩
    have t1:=Txt.slice_le r none (some (c / 64 % ((r.length:Int) + 1)))
    have t2:=Txt.slice_le r (some (c / 64 % ((r.length:Int) + 1))) none
    have t3:=Txt.slice_le r (some (c / 64 % ((r.length:Int) + 1) + 1)) none
    refine ⟨_,rfl,_,_,rfl,rfl,(by show (0:Int) < 4;decide),rfl,_,rfl,ite2 (fun _=>?_) (fun _=>?_)⟩
    · refine ⟨_,rfl,_,rfl,_,rfl,r,rfl,by omega,_,rfl,_,_,rfl,rfl,(by rw [ls];omega),_,rfl,_,rfl,_,rfl,r,rfl,by omega,_,_,rfl,rfl,(by rw [Str.length_append,ls];omega),k _ (by rw [Str.length_append,Str.length_append,ls];omega)⟩
    refine ⟨_,rfl,_,_,rfl,rfl,(by show (0:Int) < 4;decide),rfl,_,rfl,ite2 (fun _=>?_) (fun _=>?_)⟩
    · refine ⟨_,rfl,_,rfl,_,rfl,r,rfl,by omega,_,rfl,_,_,rfl,rfl,(by rw [ls];omega),_,rfl,_,rfl,_,_,rfl,rfl,_,rfl,r,rfl,by omega,_,_,rfl,rfl,(by rw [Str.length_append,ls];omega),k _ (by rw [Str.length_append,Str.length_append,ls];omega)⟩
    refine ⟨_,rfl,_,_,rfl,rfl,(by show (0:Int) < 4;decide),rfl,_,rfl,ite2 (fun _=>?_) (fun _=>?_)⟩
    · refine ⟨_,rfl,_,rfl,_,rfl,r,rfl,by omega,_,rfl,_,rfl,_,_,rfl,rfl,_,rfl,r,rfl,by omega,_,_,rfl,rfl,(by omega),k _ (by rw [Str.length_append];omega)⟩
    exact ⟨_,rfl,_,rfl,_,_,rfl,rfl,(by rw [ls];omega),k _ (by rw [Str.length_append,ls];omega)⟩
theorem join_set {c:Nat}(x:Str):∀ (ws:List Str) (i:Nat),(Str.join ⟨#[c]⟩ (ws.set i x)).length≤(Str.join ⟨#[c]⟩ ws).length + x.length
  | [],_=>by simp
  | [q],i=>by
    cases i with
    | zero=>show x.length≤q.length + x.length;omega
    | succ i=>show q.length≤q.length + x.length;omega
  | q :: q' :: r,i=>by
    have e:∀ (a b:Str) (r:List Str),(Str.join ⟨#[c]⟩ (a :: b :: r)).length=a.length + (1 + (Str.join ⟨#[c]⟩ (b :: r)).length):=fun a b r=>by
      rw [← len_codes,join_codes,List.length_append,List.length_cons,len_codes,len_codes]
      omega
    cases i with
    | zero =>
      show (Str.join ⟨#[c]⟩ (x :: q' :: r)).length≤_
      rw [e,e]
      omega
    | succ i =>
      have ih:=join_set (c:=c) x (q' :: r) i
      cases hs:(q' :: r).set i x with
      | nil=>exact absurd (congrArg List.length hs) (by simp)
      | cons a b =>
        rw [hs] at ih
        show (Str.join ⟨#[c]⟩ (q :: (q' :: r).set i x)).length≤_
        rw [hs,e,e]
        omega
def spWord:Sp:=fun vs H Q _=>∃ (r:Str) (c:Int),vs=[.str r,.int c]∧r.length≤2000∧∀ (r':Str) H',Same H H'→r'.length≤2 * r.length + 1100→Q (.str r') H'
theorem ok_word (T:Tx K mg):FnOk P w K mg base CX0 1 T.f_l_word T.fd_l_word ["_law_row","_law_cell_here"] spWord:=by
  refine T.F_l_word.ok sc_l_word (fun vs H Q E h=>?_) (fun cdv A outer s H vs Q E hr h=>?_)
  · obtain ⟨r,c,rfl,_⟩:=h
    rfl
  · obtain ⟨r,c,rfl,hz,k⟩:=h
    refine ⟨_,@pss_cons _ _ _ _ _ (ps_set (i:=2) sc_l_word.nd rfl (Or.inl rfl) (pe_bm PySem.F.plainAttrs_str PySem.F.slot_str_split PySem.F.type_str_split mt_split (pv 0) (pa_cons pe_str pa_nil)))
      (@pss_cons _ _ _ _ _ (ps_set (i:=3) sc_l_word.nd rfl (Or.inl rfl) (pe_op op_mod (pe_op op_fdiv (pv 1) pe_int) (pe_callB call_len_seq rfl T.z_len PySem.boot_len (pa_cons (pv 2) pa_nil))))
      (@pss_cut _ _ _ _ _ (@ps_set _ _ 4 _ _ _ _ sc_l_word.nd rfl (Or.inl rfl) (@pe_lst _ _ _ _ (@pa_cons _ _ _ _ _ (pe_op op_add_str pe_str (pe_ix ix_list (pv 2) (pv 3) (fun _ _=>rfl))) (@pa_cons _ _ _ _ _ pe_str (@pa_cons _ _ _ _ _ pe_str (@pa_cons _ _ _ _ _ (pe_op op_add_str pe_str (pe_op op_mul_str pe_str pe_int)) (@pa_cons _ _ _ _ _ (pe_op op_add_str pe_str (pe_op op_mul_str pe_str pe_int)) (@pa_cons _ _ _ _ _ pe_str (@pa_cons _ _ _ _ _ pe_str (@pa_cons _ _ _ _ _ (pe_op op_add_str (pe_ix ix_list (pv 2) (pv 3) (fun _ _=>rfl)) pe_str) pa_nil rfl) rfl) rfl) rfl) rfl) rfl) rfl) rfl)) rfl (Or.inl rfl))
      (@pss_cons _ _ _ _ _ (ps_asg (pe_ix ix_list (pv 4) (pe_op op_mod (pv 1) pe_int) (fun _ _=>rfl)) (pg_sub (pv 2) (pv 3) set_list))
      (@pss_one _ _ _ (ps_ret (pe_bm PySem.F.plainAttrs_str PySem.F.slot_str_join PySem.F.type_str_join mt_join pe_str (pa_cons (pv 2) pa_nil))))))),?_⟩
    have big:(1000000:Nat)≤sizeLine:=by decide
    have hwl:(wds r).length≤2001:=Nat.le_trans splits_len (by omega)
    have hw1:0 < (wds r).length:=List.length_pos_iff.mpr (split_ne r 32)
    have hwp:∀ x∈wds r,x.length≤r.length:=fun x hx=>split_len hx
    have hj:Str.join ⟨#[32]⟩ (wds r)=r:=StrLaws.join_split _ _
    refine ⟨_,rfl,rfl,r,_,32,rfl,rfl,lit_sp,Nat.le_trans (show _≤10000 by omega) (by decide),fun l1 f1=>?_⟩
    change ∃ _,_
    generalize hW:Txt.split r ⟨#[32]⟩=ws
    rw [show wds r=ws from hW] at hwl hw1 hwp hj
    clear hW
    have hl1:upd H l1 (.lst (ws.map V.str)) l1=some (.lst (ws.map V.str)):=upd_same
    have s1:=Same.upd0 (o:=.lst (ws.map V.str)) f1
    generalize upd H l1 (.lst (ws.map V.str))=H1 at hl1 s1 ⊢
    refine ⟨_,rfl,_,_,rfl,rfl,⟨by decide,by decide⟩,_,rfl,l1,_,rfl,.inl (SqL.of hl1),_,_,rfl,rfl,(by rw [List.length_map];omega),?_⟩
    have a0:0≤c / 8 % ((ws.map V.str).length:Int):=Int.emod_nonneg _ (by rw [List.length_map];omega)
    have a1:c / 8 % ((ws.map V.str).length:Int) < (ws.length:Int):=by
      have:=Int.emod_lt_of_pos (c / 8) (show (0:Int) < ((ws.map V.str).length:Int) by rw [List.length_map];omega)
      rw [List.length_map] at this ⊢
      exact this
    obtain ⟨w0,hw0,hat⟩:=at_strs a0 a1
    obtain ⟨n,en⟩:=Int.eq_ofNat_of_zero_le a0
    have l0:=hwp w0 hw0
    have lA:(Str.ofString "0").length=1:=by rw [lit_0];rfl
    have lB:(Str.ofString "1").length=1:=by decide +kernel
    have lC:(Str.ofString "-").length=1:=by rw [lit_mi];rfl
    have lD:(Str.ofString "9").length=1:=by decide +kernel
    have lE:(Str.ofString " ").length=1:=by rw [lit_sp];rfl
    have lF:(Str.ofString "+1").length=2:=by decide +kernel
    have lG:(Str.ofString "-0").length=2:=by decide +kernel
    have lH:(Str.ofString "").length=0:=by rw [lit_e];rfl
    have lI:(Str.ofString "1_0").length=3:=by decide +kernel
    refine ⟨fun σ H'=>∃ (l4:Addr) (ss:List Str),σ=[some (.str r),some (.int c),some (.ref l1),some (.int (c / 8 % ((ws.map V.str).length:Int))),some (.ref l4)]∧Same H1 H'∧H' l4=some (.lst (ss.map V.str))∧ss.length=8∧∀ x∈ss,x.length≤r.length + 1001,?_,?_⟩
    · refine ⟨_,rfl,_,rfl,l1,_,_,.str w0,rfl,rfl,SqL.of hl1,hat,_,_,rfl,rfl,by omega,?_⟩
      refine ⟨_,40,rfl,rfl,lA,by decide,by decide,fun r4 h4=>⟨_,_,rfl,rfl,by omega,?_⟩⟩
      refine ⟨_,41,rfl,rfl,lD,by decide,by decide,fun r5 h5=>⟨_,_,rfl,rfl,by omega,?_⟩⟩
      refine ⟨_,rfl,_,rfl,l1,_,_,.str w0,rfl,rfl,SqL.of hl1,hat,_,_,rfl,rfl,by omega,?_⟩
      refine ⟨(by show 8≤sizeLine;decide),fun l4 f4=>⟨l4,[Str.ofString "0" ++ w0,Str.ofString "+1",Str.ofString "-0",Str.ofString "1" ++ r4,Str.ofString "-" ++ r5,Str.ofString "",Str.ofString "1_0",w0 ++ Str.ofString " "],rfl,Same.upd0 f4,upd_same,rfl,fun x hx=>?_⟩⟩
      simp only [List.mem_cons,List.not_mem_nil,or_false] at hx
      rcases hx with rfl | rfl | rfl | rfl | rfl | rfl | rfl | rfl
      · rw [Str.length_append];omega
      · omega
      · omega
      · rw [Str.length_append];omega
      · rw [Str.length_append];omega
      · omega
      · omega
      · rw [Str.length_append];omega
    rintro σ H2 ⟨l4,ss,rfl,s2,hl4,h8,hss⟩
    obtain ⟨y,hy,haty⟩:=at_strs (ss:=ss) (i:=c % 8) (by omega) (by rw [h8];omega)
    have hn:n < ws.length:=by omega
    refine ⟨_,rfl,_,rfl,_,_,rfl,rfl,(by show (0:Int) < 8;decide),l4,_,_,.str y,rfl,rfl,SqL.of hl4,haty,_,rfl,_,rfl,l1,_,_,n,rfl,rfl,s2 _ _ hl1,?_,?_⟩
    · rw [en]
      unfold ixN
      rw [if_pos (by omega),if_pos (by rw [List.length_map];omega)]
      simp
    have hy1:=hss y hy
    have hsm:(ws.map V.str).set n (.str y)=(ws.set n y).map V.str:=by rw [List.map_set]
    have hl5:upd H2 l1 (.lst ((ws.map V.str).set n (.str y))) l1=some (.lst ((ws.set n y).map V.str)):=by rw [upd_same,hsm]
    have S5:Same H (upd H2 l1 (.lst ((ws.map V.str).set n (.str y)))):=(s1.trans s2).updF f1
    generalize upd H2 l1 (.lst ((ws.map V.str).set n (.str y)))=H5 at hl5 S5 ⊢
    refine ⟨rfl,_,rfl,_,l1,ws.set n y,rfl,rfl,SqL.of hl5,?_,?_⟩
    · refine joinOk_of (B:=r.length + 1001) (fun x hx=>?_) ?_
      · rcases List.mem_or_eq_of_mem_set hx with hx | rfl
        · exact Nat.le_trans (hwp x hx) (by omega)
        · exact hy1
      · rw [List.length_set,lE]
        have:ws.length * (r.length + 1001)≤2001 * 3001:=Nat.mul_le_mul hwl (by omega)
        omega
    · rw [lit_sp]
      have:=join_set (c:=32) y ws n
      rw [hj] at this
      exact k _ _ S5 (by omega)
def spHead:Sp:=fun vs H Q _=>∃ c:Int,vs=[.int c]∧∀ (r':Str) H',Same H H'→r'.length≤100→Q (.str r') H'
theorem ok_head (T:Tx K mg):FnOk P w K mg base CX0 1 T.f_l_head T.fd_l_head ["_law_cell_here"] spHead:=by
  refine T.F_l_head.ok sc_l_head (fun vs H Q E h=>?_) (fun cdv A outer s H vs Q E hr h=>?_)
  · obtain ⟨c,rfl,_⟩:=h
    rfl
  · obtain ⟨c,rfl,k⟩:=h
    refine ⟨_,@pss_cons _ _ _ _ _ (@ps_set _ _ 1 _ _ _ _ sc_l_head.nd rfl (Or.inl rfl) (@pe_strs _ _ ["volume 1 1 2","volume 13 1 2","volume 2 0 2","volume 2 9 2","volume 2 1 1","volume 2 1 41"] _ rfl) rfl (Or.inl rfl))
      (@pss_cons _ _ _ _ _ (@ps_set _ _ 1 _ _ _ _ sc_l_head.nd rfl (Or.inl rfl) (pe_op op_cat (pv 1) (@pe_strs _ _ ["Volume 2 1 2","volume 2 1","volume 2 1 2 2","volume -2 1 2","","volume 02 1 2"] _ rfl)) rfl (Or.inl rfl))
      (@pss_one _ _ _ (ps_ret (pe_ix ix_list (pv 1) (pe_op op_mod (pv 0) pe_int) (fun _ _=>rfl))))),?_⟩
    refine ⟨(by show 6≤sizeLine;decide),fun l1 f1=>?_⟩
    have s1:=Same.upd0 (o:=.lst ((["volume 1 1 2","volume 13 1 2","volume 2 0 2","volume 2 9 2","volume 2 1 1","volume 2 1 41"]:List Str).map V.str)) f1
    refine ⟨_,rfl,(by show 6≤sizeLine;decide),fun l2 f2=>?_⟩
    have s2:=s1.upd (o:=.lst ((["Volume 2 1 2","volume 2 1","volume 2 1 2 2","volume -2 1 2","","volume 02 1 2"]:List Str).map V.str)) f2
    refine ⟨l1,l2,_,_,rfl,rfl,(Same.upd0 f2) _ _ upd_same,upd_same,(by show 12≤sizeLine;decide),fun l3 f3=>?_⟩
    obtain ⟨y,hy,haty⟩:=at_strs (ss:=["volume 1 1 2","volume 13 1 2","volume 2 0 2","volume 2 9 2","volume 2 1 1","volume 2 1 41","Volume 2 1 2","volume 2 1","volume 2 1 2 2","volume -2 1 2","","volume 02 1 2"]) (i:=c % 12) (by omega) (by show c % 12 < 12;omega)
    refine ⟨_,rfl,_,rfl,_,_,rfl,rfl,(by show (0:Int) < 12;decide),l3,_,_,.str y,rfl,rfl,SqL.of upd_same,haty,k _ _ (s2.upd f3) ?_⟩
    have all:(["volume 1 1 2","volume 13 1 2","volume 2 0 2","volume 2 9 2","volume 2 1 1","volume 2 1 41","Volume 2 1 2","volume 2 1","volume 2 1 2 2","volume -2 1 2","","volume 02 1 2"]:List Str).all (fun z=>decide (z.length≤100))=true:=by decide +kernel
    exact of_decide_eq_true (List.all_eq_true.mp all y hy)
end
end K05
namespace K05
open PySem L2 PyProof.Rows PySem.W
section
variable {P:Program}{w:World}{K:PySem.W.Frag}{mg:Str→Option Value}{base:Heap}
def spRows (K:PySem.W.Frag):Sp:=fun vs H Q _=>∃ (a:Addr) (ns:List Int),vs=[.ref a]∧SqL K H a (ns.map V.int)∧ns.length≤63 ∧
  ∀ (l:Addr) (ls:List Str) (H':Hp),Same H H'→H' l=some (.lst (ls.map V.str))→16≤ls.length→ls.length≤18→(∀ p∈ls,p.length≤400)→Q (.ref l) H'
theorem ok_rows (T:Tx K mg):FnOk P w K mg base CX0 4 T.f_l_rows T.fd_l_rows ["_law_script"] (spRows K):=by
  refine T.F_l_rows.ok sc_l_rows (fun vs H Q E h=>?_) (fun cdv A outer s H vs Q E hr h=>?_)
  · obtain ⟨a,ns,rfl,_⟩:=h
    rfl
  · obtain ⟨a,ns,rfl,hS,hl,k⟩:=h
    have r1:Room 1 _:=hr.mono (by decide)
    have r2:Room 2 _:=hr.mono (by decide)
    refine ⟨_,@pss_cut _ _ _ _ _ (ps_set (i:=1) sc_l_rows.nd rfl (Or.inl rfl) (pe_makeX2 T.mk_Layout (ok_init T) r2 rfl T.g_Layout T.b_Layout_init .nil takes02 (pa_cons (pe_op op_add pe_int (pe_op op_mod (pe_call (ok_cell T) r1 rfl T.g_l_cell T.F_l_cell.kp T.b_l_cell .nil pass0 (pa_cons (pv 0) (pa_cons pe_int pa_nil))) pe_int)) (pa_cons pe_int (pa_cons (pe_op op_add pe_int (pe_op op_mod (pe_op op_fdiv (pe_call (ok_cell T) r1 rfl T.g_l_cell T.F_l_cell.kp T.b_l_cell .nil pass0 (pa_cons (pv 0) (pa_cons pe_int pa_nil))) pe_int) pe_int)) pa_nil)))))
      (@pss_cut _ _ _ _ _ (ps_set (i:=2) sc_l_rows.nd rfl (Or.inl rfl) (pe_lst (pa_cons (pe_op op_add_str (pe_op op_add_str (pe_op op_add_str pe_str (pe_callTy call_str_int rfl T.z_str (by kernel_rfl) (pa_cons (pe_fld (pv 1) rfl) pa_nil))) pe_str) (pe_callTy call_str_int rfl T.z_str (by kernel_rfl) (pa_cons (pe_fld (pv 1) rfl) pa_nil))) pa_nil)))
      (@pss_cons _ _ _ _ _ (ps_for PassesOwn.never rfl (pi_list (pe_call (ok_any T) hr rfl T.g_l_any T.F_l_any.kp T.b_l_any .nil pass0 (pa_cons (pv 1) (pa_cons (pe_call (ok_cell T) r1 rfl T.g_l_cell T.F_l_cell.kp T.b_l_cell .nil pass0 (pa_cons (pv 0) (pa_cons pe_int pa_nil))) pa_nil)))) (pg_name (i:=3) sc_l_rows.nd rfl (Or.inl rfl))
        (@pss_one _ _ _ (ps_expr (pe_bm PySem.F.plainAttrs_list PySem.F.slot_list_append PySem.F.type_list_append mt_append (pv 2) (pa_cons (pe_bm PySem.F.plainAttrs_str PySem.F.slot_str_join PySem.F.type_str_join mt_join pe_str (pa_cons (pe_comp (N':=["_law_number_here"]) (cap:=[none]) rfl (compOk_of (by kernel_rfl)) (pi_list (pv 3))
          (fun cells C s₀ H₀ fp pins=>⟨pg_name (i:=0) ndp1 rfl (Or.inl rfl) (.inr rfl),pifs_nil,pe_callTy call_str_int rfl T.z_str (by kernel_rfl) (pa_cons (pv 0) pa_nil)⟩)) pa_nil)) pa_nil)))))
      (@pss_one _ _ _ (ps_ret (pv 2))))),?_⟩
    have big:(1000000:Nat)≤sizeLine:=by decide
    have lv:(Str.ofString "volume ").length=7:=by rw [← len_codes,lit_vols];rfl
    have l3:(Str.ofString " 1 ").length=3:=by decide +kernel
    refine ⟨fun σ H'=>∃ (p:Addr) (F B:Int),σ=[some (.ref a),some (.ref p),none,none]∧Same H H'∧Lay T.C_Layout H' p F 1 B∧2≤F∧F≤3∧2≤B∧B≤3,?_,?_⟩
    · refine ⟨_,rfl,a,ns,0,rfl,hS,hl,_,_,rfl,rfl,(by show (0:Int) < 2;decide),_,_,rfl,rfl,?_⟩
      refine ⟨_,rfl,a,ns,0,rfl,hS,hl,_,_,rfl,rfl,⟨by decide,by decide⟩,_,_,rfl,rfl,(by show (0:Int) < 2;decide),_,_,rfl,rfl,?_⟩
      have ok:LayOk (2 + ns.getD 0 0 % 2) 1 (2 + ns.getD 0 0 / 2 % 2):=⟨by omega,by omega,by omega,by omega,by omega,by omega⟩
      refine fun x dx nx ndx ne=>⟨x,dx,_,_,_,rfl,upd_same,fun _ H' e1 kp=>⟨rfl,x,_,_,rfl,fun b o e=>kp b o ?_ (ne_of_none e nx),⟨dx,e1⟩,by omega,by omega,by omega,by omega⟩,fun no=>absurd ok no⟩
      rw [upd_ne (ne_of_none e nx),upd_ne (ne_of_none e ndx)]
      exact e
    rintro σ H1 ⟨p,F,B,rfl,s1,⟨dx,hp⟩,f1,f2,b1,b2⟩
    have ok:LayOk F 1 B:=⟨by omega,by omega,by decide,by decide,by omega,by omega⟩
    have sF:=lay_sm ok F (by simp)
    have sB:=lay_sm ok B (by simp)
    have lF:=num_len sF;have lB:=num_len sB
    refine ⟨fun σ H'=>∃ (l1:Addr) (r0:Str),σ=[some (.ref a),some (.ref p),some (.ref l1),none]∧Same H1 H'∧H1 l1=none∧H' l1=some (.lst [.str r0])∧r0.length≤400,?_,?_⟩
    · refine ⟨_,rfl,p,T.C_Layout,dx,_,_,rfl,hp,T.cl_Layout,T.n_Layout_files,lay_files _ _ _,F,rfl,log_lt sF,_,_,rfl,rfl,(by show _ + (num F).length≤_;omega),?_⟩
      refine ⟨_,_,rfl,rfl,(by rw [Str.length_append];show _ + (num F).length + _≤_;omega),?_⟩
      refine ⟨_,rfl,p,T.C_Layout,dx,_,_,rfl,hp,T.cl_Layout,T.n_Layout_data,lay_data _ _ _,B,rfl,log_lt sB,_,_,rfl,rfl,(by rw [Str.length_append,Str.length_append];show _ + (num F).length + _ + (num B).length≤_;omega),?_⟩
      exact ⟨(by show 1≤sizeLine;decide),fun l1 fl1=>⟨l1,_,rfl,Same.upd0 fl1,fl1,upd_same,by rw [Str.length_append,Str.length_append,Str.length_append];show _ + (num F).length + _ + (num B).length≤_;omega⟩⟩
    rintro σ H2 ⟨l1,r0,rfl,s2,fl1,hl1,hr0⟩
    have S2:=s1.trans s2
    refine ⟨_,rfl,_,rfl,a,ns,1,rfl,S2.seq hS,hl,p,F,1,B,_,rfl,⟨dx,s2 _ _ hp⟩,ok,fun v as rows H3 s3 fv fas hV hlen hs=>?_⟩
    have nv1:l1≠v:=fun z=>by rw [← z,hl1] at fv;cases fv
    have na1:l1∉as:=fun z=>by have:=fas l1 z;rw [hl1] at this;cases this
    have S3:=S2.trans s3
    have f1H:H l1=none:=s1.free fl1
    refine ⟨v,rfl,⟨_,SqL.of hV.top⟩,for_list (K:=K) (a:=v) (xs:=as.map V.ref) (fun i σ H'=>∃ (x3:Option V) (ls:List Str),σ=[some (.ref a),some (.ref p),some (.ref l1),x3]∧Same H H'∧Vol H' v as rows∧H' l1=some (.lst (ls.map V.str))∧ls.length=i + 1∧i≤as.length∧∀ q∈ls,q.length≤400)
      ⟨none,[r0],rfl,S3,hV,s3 _ _ hl1,rfl,Nat.zero_le _,fun q hq=>by rw [List.mem_singleton.mp hq];exact hr0⟩ (fun i σ H' _ ⟨_,_,_,_,hV',_⟩=>SqL.of hV'.top) ?_ ?_⟩
    · rintro i x σ H4 hx ⟨x3,ls,rfl,s4,hV4,hl4,hlen4,hi4,hls⟩
      rw [List.getElem?_map] at hx
      cases ea:as[i]? with
      | none=>rw [ea] at hx;cases hx
      | some b =>
        rw [ea] at hx
        cases hx
        have hi':i < as.length:=(List.getElem?_eq_some_iff.mp ea).1
        have hi:i < rows.length:=by rw [← hV.len];exact hi'
        have er:rows[i]?=some rows[i]:=List.getElem?_eq_getElem hi
        have hm:=List.mem_of_getElem? er
        have hb:=hV4.row i b _ ea er
        have h8:rows[i].length≤1000:=by rw [(hs _ hm).1];decide
        refine ⟨_,rfl,.inl ⟨rfl,_,SqL.of hl4⟩,rfl,_,rfl,b,rfl,⟨_,SqL.of hb⟩,comp_strs (SqL.of hb) h8 (hs _ hm).2 fun D hD=>?_⟩
        have hl5:=(Same.upd0 (o:=.lst ((rows[i].map num).map V.str)) hD) _ _ hl4
        refine ⟨_,D,_,rfl,rfl,SqL.of upd_same,wr_ok h8 (hs _ hm).2,l1,_,_,rfl,rfl,hl5,?_,?_⟩
        · rw [List.length_map,hlen4]
          have:=hV.len
          exact Nat.lt_of_le_of_lt (show _≤100 by omega) (by decide)
        refine ⟨_,ls ++ [wr rows[i]],rfl,(s4.upd hD).updF f1H,(hV4.same (Same.upd0 hD)).off na1 nv1,?_,by rw [List.length_append,hlen4];rfl,hi',fun q hq=>?_⟩
        · rw [upd_same,List.map_append,lit_sp]
          rfl
        · rcases List.mem_append.mp hq with hq | hq
          · exact hls q hq
          · rw [List.mem_singleton.mp hq]
            exact Nat.le_trans (row_len hs hm) (by decide)
    rintro σ H4 ⟨x3,ls,rfl,s4,hV4,hl4,hlen4,hi4,hls⟩
    rw [List.length_map,hV.len] at hlen4
    exact ⟨_,rfl,k l1 ls H4 s4 hl4 (by omega) (by omega) hls⟩
def spSpoiled:Sp:=fun vs H Q _=>∃ (l:Addr) (c:Int) (ls:List Str) (b:Nat),vs=[.ref l,.int c]∧H l=some (.lst (ls.map V.str))∧2≤ls.length∧ls.length≤30∧b≤2000∧(∀ p∈ls,p.length≤b) ∧
  ∀ (l':Addr) (ls':List Str) (H':Hp),Same H H'→H' l'=some (.lst (ls'.map V.str))→ls.length≤ls'.length + 1→ls'.length≤ls.length + 1→(∀ p∈ls',p.length≤2 * b + 1100)→Q (.ref l') H'
theorem cut_fr2 (ls:List Str) (n:Nat):cutV (ls.map V.str) (some (n:Int)) none=(ls.drop n).map V.str:=(cut_from _ n).trans (by rw [List.map_drop])
theorem cut_to2 (ls:List Str) (n:Nat):cutV (ls.map V.str) none (some (n:Int))=(ls.take n).map V.str:=by
  unfold cutV
  rw [HT.sIx_none,HT.sIx_nat]
  show ((ls.map V.str).drop 0).take _=_
  rw [List.drop_zero,List.map_take,Nat.sub_zero]
  by_cases h:n≤(ls.map V.str).length
  · rw [Nat.min_eq_left h]
  · rw [Nat.min_eq_right (by omega),List.take_length,List.take_of_length_le (by omega)]
theorem ok_spoiled (T:Tx K mg):FnOk P w K mg base CX0 2 T.f_l_spoiled T.fd_l_spoiled ["_law_rows_here","_law_cell_here"] spSpoiled:=by
  refine T.F_l_spoiled.ok sc_l_spoiled (fun vs H Q E h=>?_) (fun cdv A outer s H vs Q E hr h=>?_)
  · obtain ⟨l,c,ls,b,rfl,_⟩:=h
    rfl
  · obtain ⟨l,c,ls,b,rfl,hl0,hlo,hhi,hb,hp,k⟩:=h
    refine ⟨_,pss_cons (ps_set (i:=2) sc_l_spoiled.nd rfl (Or.inl rfl) (pe_op op_mod (pe_op op_fdiv (pv 1) pe_int) (pe_callB call_len_seq rfl T.z_len PySem.boot_len (pa_cons (pv 0) pa_nil))))
      (pss_cons (ps_set (i:=3) sc_l_spoiled.nd rfl (Or.inl rfl) (pe_op op_fdiv (pv 1) pe_int))
      (pss_cut (ps_set (i:=4) sc_l_spoiled.nd rfl (Or.inl rfl) (pe_op op_mod (pv 1) pe_int))
      (pss_cons (ps_if (pt_cmpR op_eq (pv 4) pe_int (nomark _)) (pss_one (ps_ret (pe_op op_cat (pe_op op_cat (pe_slice sl_list (pv 0) po_none (po_some (pv 2))) (pe_lst (pa_cons (pe_call (ok_signs T) hr rfl T.g_l_signs T.F_l_signs.kp T.b_l_signs .nil pass0 (pa_cons (pe_ix ix_list (pv 0) (pv 2) (fun _ _=>rfl)) (pa_cons (pv 3) pa_nil))) pa_nil))) (pe_slice sl_list (pv 0) (po_some (pe_op op_add (pv 2) pe_int)) po_none)))) pss_nil)
      (pss_cons (ps_if (pt_cmpR op_eq (pv 4) pe_int (nomark _)) (pss_one (ps_ret (pe_op op_cat (pe_op op_cat (pe_slice sl_list (pv 0) po_none (po_some (pv 2))) (pe_lst (pa_cons (pe_call (ok_word T) hr rfl T.g_l_word T.F_l_word.kp T.b_l_word .nil pass0 (pa_cons (pe_ix ix_list (pv 0) (pv 2) (fun _ _=>rfl)) (pa_cons (pv 3) pa_nil))) pa_nil))) (pe_slice sl_list (pv 0) (po_some (pe_op op_add (pv 2) pe_int)) po_none)))) pss_nil)
      (pss_cons (ps_if (pt_cmpR op_eq (pv 4) pe_int (nomark _)) (pss_one (ps_ret (pe_op op_cat (pe_slice sl_list (pv 0) po_none (po_some (pv 2))) (pe_slice sl_list (pv 0) (po_some (pe_op op_add (pv 2) pe_int)) po_none)))) pss_nil)
      (pss_cons (ps_if (pt_cmpR op_eq (pv 4) pe_int (nomark _)) (pss_one (ps_ret (pe_op op_cat (pe_slice sl_list (pv 0) po_none (po_some (pe_op op_add (pv 2) pe_int))) (pe_slice sl_list (pv 0) (po_some (pv 2)) po_none)))) pss_nil)
      (pss_cons (ps_if (pt_cmpR op_eq (pv 4) pe_int (nomark _)) (pss_one (ps_ret (pe_op op_cat (pe_op op_cat (pe_slice sl_list (pv 0) po_none (po_some (pv 2))) (pe_lst (pa_cons pe_str pa_nil))) (pe_slice sl_list (pv 0) (po_some (pv 2)) po_none)))) pss_nil)
      (pss_cons (ps_if (pt_cmpR op_eq (pv 4) pe_int (nomark _)) (pss_one (ps_ret (pe_op op_cat (pv 0) (pe_lst (pa_cons (pe_ix ix_list (pv 0) (pe_un un_neg pe_int) (fun _ _=>rfl)) pa_nil))))) pss_nil)
      (pss_cons (ps_if (pt_cmpR op_eq (pv 4) pe_int (nomark _)) (pss_one (ps_ret (pe_op op_cat (pe_lst (pa_cons (pe_call (ok_head T) hr rfl T.g_l_head T.F_l_head.kp T.b_l_head .nil pass0 (pa_cons (pv 3) pa_nil)) pa_nil)) (pe_slice sl_list (pv 0) (po_some pe_int) po_none)))) pss_nil)
      (pss_one (ps_ret (pv 0)))))))))))),?_⟩
    have big:(1000000:Nat)≤sizeLine:=by decide
    have e0:(ls.map V.str).length=ls.length:=List.length_map ..
    refine ⟨_,rfl,_,_,rfl,rfl,⟨by decide,by decide⟩,_,rfl,l,_,rfl,.inl (SqL.of hl0),_,_,rfl,rfl,(by rw [e0];omega),?_⟩
    refine ⟨_,rfl,_,_,rfl,rfl,⟨by decide,by decide⟩,?_⟩
    refine ⟨fun σ H'=>∃ (n:Nat) (m:Int) (w:Int),n < ls.length∧σ=[some (.ref l),some (.int c),some (.int (n:Int)),some (.int m),some (.int w)]∧H'=H,?_,?_⟩
    · have a0:0≤c / 8 % ((ls.map V.str).length:Int):=Int.emod_nonneg _ (by rw [e0];omega)
      have a1:=Int.emod_lt_of_pos (c / 8) (show (0:Int) < ((ls.map V.str).length:Int) by rw [e0];omega)
      obtain ⟨n,en⟩:=Int.eq_ofNat_of_zero_le a0
      refine ⟨_,rfl,_,_,rfl,rfl,(by show (0:Int) < 8;decide),n,c / 512,c % 8,by rw [e0] at a1 en;omega,?_,rfl⟩
      show [some (V.ref l),some (V.int c),some (V.int (c / 8 % ((ls.map V.str).length:Int))),some (V.int (c / 512)),some (V.int (c % 8))]=_
      rw [en]
    rintro σ H' ⟨n,m,w',hn,rfl,rfl⟩
    have en:ls[n]?=some ls[n]:=List.getElem?_eq_getElem hn
    have hrn:=hp _ (List.getElem_mem hn)
    have hat:atI (ls.map V.str) (n:Int)=some (.str ls[n]):=atI_nat (by rw [List.getElem?_map,en];rfl)
    generalize ls[n]=rn at en hrn hat
    have n1:(n:Int) + 1=((n + 1:Nat):Int):=by omega
    have c1:=cut_to2 ls n
    have c2:=cut_fr2 ls (n + 1)
    have c3:=cut_to2 ls (n + 1)
    have c4:=cut_fr2 ls n
    have c5:=cut_fr2 ls 1
    have mt:∀ (j:Nat) p,p∈ls.take j→p.length≤b:=fun j p h=>hp p (List.mem_of_mem_take h)
    have md:∀ (j:Nat) p,p∈ls.drop j→p.length≤b:=fun j p h=>hp p (List.mem_of_mem_drop h)
    have szs:∀ k:Nat,k≤1000→k≤sizeLine:=fun k h=>by omega
    have fin3:∀ (x:Str) (A B:List Str) (l':Addr) (H1:Hp),Same H' H1→H1 l'=some (.lst (A.map V.str ++ [V.str x] ++ B.map V.str))→(∀ p∈A,p.length≤b)→(∀ p∈B,p.length≤b)→x.length≤2 * b + 1100→ls.length≤A.length + 1 + B.length + 1→A.length + 1 + B.length≤ls.length + 1→Q (.ref l') H1:=fun x A B l' H1 s1 e hA hB hx h1 h2=>by
      refine k l' (A ++ [x] ++ B) H1 s1 (by rw [e,List.map_append,List.map_append];rfl) (by simp;omega) (by simp;omega) fun p hp=>?_
      rcases List.mem_append.mp hp with h | h
      · rcases List.mem_append.mp h with h | h
        · have:=hA p h;omega
        · rw [List.mem_singleton.mp h];exact hx
      · have:=hB p h;omega
    have fin2:∀ (A B:List Str) (l':Addr) (H1:Hp),Same H' H1→H1 l'=some (.lst (A.map V.str ++ B.map V.str))→(∀ p∈A,p.length≤2 * b + 1100)→(∀ p∈B,p.length≤2 * b + 1100)→ls.length≤A.length + B.length + 1→A.length + B.length≤ls.length + 1→Q (.ref l') H1:=fun A B l' H1 s1 e hA hB h1 h2=>by
      refine k l' (A ++ B) H1 s1 (by rw [e,List.map_append]) (by simp;omega) (by simp;omega) fun p hp=>?_
      rcases List.mem_append.mp hp with h | h
      · exact hA p h
      · exact hB p h
    refine ⟨_,rfl,rfl,_,rfl,ite2 (fun _=>?_) (fun _=>?_)⟩
    · refine ⟨_,rfl,_,rfl,_,rfl,l,_,rfl,SqL.of hl0,fun x1 g1=>?_⟩
      rw [c1]
      have t1:=Same.upd0 (o:=.lst ((ls.take n).map V.str)) g1
      refine ⟨_,rfl,_,rfl,l,_,_,.str rn,rfl,rfl,SqL.of (t1 _ _ hl0),hat,_,rfl,rn,m,rfl,by omega,fun r' hr'=>?_⟩
      refine ⟨(by show 1≤sizeLine;decide),fun x2 g2=>?_⟩
      have t2:=Same.upd0 (o:=.lst [.str r']) g2
      refine ⟨x1,x2,_,_,rfl,rfl,t2 _ _ upd_same,upd_same,szs _ (by simp;omega),fun x3 g3=>?_⟩
      have t3:=Same.upd0 (o:=.lst ((ls.take n).map V.str ++ [.str r'])) g3
      have T3:=t1.trans (t2.trans t3)
      refine ⟨_,rfl,_,rfl,_,_,rfl,rfl,_,rfl,l,_,rfl,SqL.of (T3 _ _ hl0),fun x4 g4=>?_⟩
      dsimp only
      rw [n1,c2]
      have t4:=Same.upd0 (o:=.lst ((ls.drop (n + 1)).map V.str)) g4
      refine ⟨x3,x4,_,_,rfl,rfl,t4 _ _ upd_same,upd_same,szs _ (by simp;omega),fun x5 g5=>?_⟩
      exact fin3 r' _ _ x5 _ ((T3.trans t4).upd g5) upd_same (mt n) (md _) (by omega) (by rw [List.length_take,List.length_drop];omega) (by rw [List.length_take,List.length_drop];omega)
    refine ⟨_,rfl,rfl,_,rfl,ite2 (fun _=>?_) (fun _=>?_)⟩
    · refine ⟨_,rfl,_,rfl,_,rfl,l,_,rfl,SqL.of hl0,fun x1 g1=>?_⟩
      rw [c1]
      have t1:=Same.upd0 (o:=.lst ((ls.take n).map V.str)) g1
      have hx1:upd H' x1 (.lst ((ls.take n).map V.str)) x1=some (.lst ((ls.take n).map V.str)):=upd_same
      refine ⟨_,rfl,_,rfl,l,_,_,.str rn,rfl,rfl,SqL.of (t1 _ _ hl0),hat,_,rfl,rn,m,rfl,by omega,fun r' H2 u2 hr'=>?_⟩
      refine ⟨(by show 1≤sizeLine;decide),fun x2 g2=>?_⟩
      have t2:=u2.upd (o:=.lst [.str r']) g2
      refine ⟨x1,x2,_,_,rfl,rfl,t2 _ _ hx1,upd_same,szs _ (by simp;omega),fun x3 g3=>?_⟩
      have t3:=Same.upd0 (o:=.lst ((ls.take n).map V.str ++ [.str r'])) g3
      have T3:=t1.trans (t2.trans t3)
      refine ⟨_,rfl,_,rfl,_,_,rfl,rfl,_,rfl,l,_,rfl,SqL.of (T3 _ _ hl0),fun x4 g4=>?_⟩
      dsimp only
      rw [n1,c2]
      have t4:=Same.upd0 (o:=.lst ((ls.drop (n + 1)).map V.str)) g4
      refine ⟨x3,x4,_,_,rfl,rfl,t4 _ _ upd_same,upd_same,szs _ (by simp;omega),fun x5 g5=>?_⟩
      exact fin3 r' _ _ x5 _ ((T3.trans t4).upd g5) upd_same (mt n) (md _) (by omega) (by rw [List.length_take,List.length_drop];omega) (by rw [List.length_take,List.length_drop];omega)
    refine ⟨_,rfl,rfl,_,rfl,ite2 (fun _=>?_) (fun _=>?_)⟩
    · refine ⟨_,rfl,_,rfl,_,rfl,l,_,rfl,SqL.of hl0,fun x1 g1=>?_⟩
      rw [c1]
      have t1:=Same.upd0 (o:=.lst ((ls.take n).map V.str)) g1
      refine ⟨_,rfl,_,rfl,_,_,rfl,rfl,_,rfl,l,_,rfl,SqL.of (t1 _ _ hl0),fun x4 g4=>?_⟩
      dsimp only
      rw [n1,c2]
      have t4:=Same.upd0 (o:=.lst ((ls.drop (n + 1)).map V.str)) g4
      refine ⟨x1,x4,_,_,rfl,rfl,t4 _ _ upd_same,upd_same,szs _ (by simp;omega),fun x5 g5=>?_⟩
      exact fin2 _ _ x5 _ ((t1.trans t4).upd g5) upd_same (fun p h=>by have:=mt n p h;omega) (fun p h=>by have:=md _ p h;omega) (by rw [List.length_take,List.length_drop];omega) (by rw [List.length_take,List.length_drop];omega)
    refine ⟨_,rfl,rfl,_,rfl,ite2 (fun _=>?_) (fun _=>?_)⟩
    · refine ⟨_,rfl,_,rfl,_,_,rfl,rfl,_,rfl,l,_,rfl,SqL.of hl0,fun x1 g1=>?_⟩
      dsimp only at g1 ⊢
      rw [n1,c3]
      have t1:=Same.upd0 (o:=.lst ((ls.take (n + 1)).map V.str)) g1
      refine ⟨_,rfl,_,rfl,_,rfl,l,_,rfl,SqL.of (t1 _ _ hl0),fun x4 g4=>?_⟩
      rw [c4]
      have t4:=Same.upd0 (o:=.lst ((ls.drop n).map V.str)) g4
      refine ⟨x1,x4,_,_,rfl,rfl,t4 _ _ upd_same,upd_same,szs _ (by simp;omega),fun x5 g5=>?_⟩
      exact fin2 _ _ x5 _ ((t1.trans t4).upd g5) upd_same (fun p h=>by have:=mt _ p h;omega) (fun p h=>by have:=md _ p h;omega) (by rw [List.length_take,List.length_drop];omega) (by rw [List.length_take,List.length_drop];omega)
    refine ⟨_,rfl,rfl,_,rfl,ite2 (fun _=>?_) (fun _=>?_)⟩
    · refine ⟨_,rfl,_,rfl,_,rfl,l,_,rfl,SqL.of hl0,fun x1 g1=>?_⟩
      rw [c1]
      have t1:=Same.upd0 (o:=.lst ((ls.take n).map V.str)) g1
      refine ⟨(by show 1≤sizeLine;decide),fun x2 g2=>?_⟩
      have t2:=Same.upd0 (o:=.lst [.str (Str.ofString "")]) g2
      refine ⟨x1,x2,_,_,rfl,rfl,t2 _ _ upd_same,upd_same,szs _ (by simp;omega),fun x3 g3=>?_⟩
      have t3:=Same.upd0 (o:=.lst ((ls.take n).map V.str ++ [.str (Str.ofString "")])) g3
      have T3:=t1.trans (t2.trans t3)
      refine ⟨_,rfl,_,rfl,_,rfl,l,_,rfl,SqL.of (T3 _ _ hl0),fun x4 g4=>?_⟩
      rw [c4]
      have t4:=Same.upd0 (o:=.lst ((ls.drop n).map V.str)) g4
      refine ⟨x3,x4,_,_,rfl,rfl,t4 _ _ upd_same,upd_same,szs _ (by simp;omega),fun x5 g5=>?_⟩
      exact fin3 (Str.ofString "") _ _ x5 _ ((T3.trans t4).upd g5) upd_same (mt n) (md _) (by rw [lit_e];show 0≤_;omega) (by rw [List.length_take,List.length_drop];omega) (by rw [List.length_take,List.length_drop];omega)
    refine ⟨_,rfl,rfl,_,rfl,ite2 (fun _=>?_) (fun _=>?_)⟩
    · have hne:ls≠[]:=fun z=>by rw [z] at hlo;simp at hlo
      have el:=(List.dropLast_concat_getLast hne).symm
      have hla:=hp _ (List.getLast_mem hne)
      refine ⟨_,rfl,_,rfl,_,rfl,l,_,_,.str (ls.getLast hne),rfl,rfl,SqL.of hl0,?_,(by show 1≤sizeLine;decide),fun x2 g2=>?_⟩
      · have:ls.map V.str=ls.dropLast.map V.str ++ [V.str (ls.getLast hne)]:=by
          rw [show [V.str (ls.getLast hne)]=[ls.getLast hne].map V.str from rfl,← List.map_append,← el]
        rw [this]
        exact atI_last _ _
      have t2:=Same.upd0 (o:=.lst [.str (ls.getLast hne)]) g2
      refine ⟨l,x2,_,_,rfl,rfl,t2 _ _ hl0,upd_same,szs _ (by simp;omega),fun x5 g5=>?_⟩
      exact fin2 ls [ls.getLast hne] x5 _ (t2.upd g5) upd_same (fun p h=>by have:=hp p h;omega) (fun p h=>by rw [List.mem_singleton.mp h];omega) (by simp;omega) (by simp)
    refine ⟨_,rfl,rfl,_,rfl,ite2 (fun _=>?_) (fun _=>?_)⟩
    · refine ⟨_,rfl,m,rfl,fun r' H2 u2 hr'=>?_⟩
      refine ⟨(by show 1≤sizeLine;decide),fun x2 g2=>?_⟩
      have t2:=u2.upd (o:=.lst [.str r']) g2
      refine ⟨_,rfl,_,rfl,l,_,rfl,SqL.of (t2 _ _ hl0),fun x4 g4=>?_⟩
      have c5':cutV (ls.map V.str) (some 1) none=(ls.drop 1).map V.str:=c5
      rw [c5']
      have t4:=Same.upd0 (o:=.lst ((ls.drop 1).map V.str)) g4
      refine ⟨x2,x4,_,_,rfl,rfl,t4 _ _ upd_same,upd_same,szs _ (by simp;omega),fun x5 g5=>?_⟩
      exact fin2 [r'] _ x5 _ ((t2.trans t4).upd g5) upd_same (fun p h=>by rw [List.mem_singleton.mp h];omega) (fun p h=>by have:=md _ p h;omega) (by rw [List.length_drop];simp;omega) (by rw [List.length_drop];simp;omega)
    exact ⟨_,rfl,k l ls _ (Same.refl _) hl0 (by omega) (by omega) fun p h=>by have:=hp p h;omega⟩
def spLaw (K:PySem.W.Frag):Sp:=fun vs H Q _=>∃ (a:Addr) (ns:List Int),vs=[.ref a]∧SqL K H a (ns.map V.int)∧ns.length≤63∧∀ H',Q (.bl true) H'
theorem ok_law (T:Tx K mg):FnOk P w K mg base CX0 10 T.f_law T.fd_law ["_law_script"] (spLaw K):=by
  refine T.F_law.ok sc_law (fun vs H Q E h=>?_) (fun cdv A outer s H vs Q E hr h=>?_)
  · obtain ⟨a,ns,rfl,_⟩:=h
    rfl
  · obtain ⟨a,ns,rfl,hS,hl,k⟩:=h
    have r1:Room 1 _:=hr.mono (by decide)
    have r2:Room 2 _:=hr.mono (by decide)
    have r4:Room 4 _:=hr.mono (by decide)
    have r6:Room 6 _:=hr.mono (by decide)
    refine ⟨_,@pss_cons _ _ _ _ _ (ps_set (i:=1) sc_law.nd rfl (Or.inl rfl) (pe_call (ok_rows T) r4 rfl T.g_l_rows T.F_l_rows.kp T.b_l_rows .nil pass0 (pa_cons (pv 0) pa_nil)))
      (@pss_cons _ _ _ _ _ (ps_set (i:=2) sc_law.nd rfl (Or.inl rfl) (pe_call (ok_cell T) r1 rfl T.g_l_cell T.F_l_cell.kp T.b_l_cell .nil pass0 (pa_cons (pv 0) (pa_cons pe_int pa_nil))))
      (@pss_cut _ _ _ _ _ (ps_for PassesOwn.never rfl (pi_range1 rfl T.z_range (pa_cons (pe_op op_mod (pv 2) pe_int) pa_nil)) (pg_name (i:=3) sc_law.nd rfl (Or.inl rfl))
        (@pss_one _ _ _ (ps_set (i:=1) sc_law.nd rfl (Or.inl rfl) (pe_call (ok_spoiled T) r2 rfl T.g_l_spoiled T.F_l_spoiled.kp T.b_l_spoiled .nil pass0 (pa_cons (pv 1) (pa_cons (pe_op op_add (pe_op op_mul (pe_call (ok_mixed T) r1 rfl T.g_l_mixed T.F_l_mixed.kp T.b_l_mixed .nil pass0 (pa_cons (pv 2) (pa_cons (pe_op op_add pe_int (pv 3)) pa_nil))) pe_int) (pe_op op_mod (pe_call (ok_cell T) r1 rfl T.g_l_cell T.F_l_cell.kp T.b_l_cell .nil pass0 (pa_cons (pv 0) (pa_cons (pe_op op_add pe_int (pv 3)) pa_nil))) pe_int)) pa_nil))))))
      (@pss_cut _ _ _ _ _ (ps_set (i:=4) sc_law.nd rfl (Or.inl rfl) (pe_bm PySem.F.plainAttrs_str PySem.F.slot_str_join PySem.F.type_str_join mt_join pe_str (pa_cons (pe_comp (N':=["_law_row"]) (cap:=[none]) rfl (compOk_of (by kernel_rfl)) (pi_list (pv 1))
        (fun cells C s₀ H₀ fp pins=>⟨pg_name (i:=0) ndp1 rfl (Or.inl rfl) (.inr rfl),pifs_nil,pe_op op_add_str (pv 0) pe_str⟩)) pa_nil)))
      (@pss_cut _ _ _ _ _ (ps_if (pt_cmpR op_eq (pe_op op_mod (pe_op op_fdiv (pv 2) pe_int) pe_int) pe_int (nomark _)) (pss_one (ps_set (i:=4) sc_law.nd rfl (Or.inl rfl) (pe_slice sl_str (pv 4) po_none (po_some (pe_un un_neg pe_int))))) pss_nil)
      (@pss_cut _ _ _ _ _ (ps_if (pt_cmpR op_eq (pe_op op_mod (pe_op op_fdiv (pv 2) pe_int) pe_int) pe_int (nomark _)) (pss_one (ps_set (i:=4) sc_law.nd rfl (Or.inl rfl) (pe_op op_add_str (pv 4) pe_str))) pss_nil)
      (@pss_cut _ _ _ _ _ (ps_if (pt_cmpR op_eq (pe_op op_mod (pe_op op_fdiv (pv 2) pe_int) pe_int) pe_int (nomark _)) (pss_one (ps_set (i:=4) sc_law.nd rfl (Or.inl rfl) (pe_slice sl_str pe_str po_none (po_some (pe_op op_mod (pe_op op_fdiv (pv 2) pe_int) pe_int))))) pss_nil)
      (@pss_one _ _ _ (ps_ret (pe_call (ok_right T) r6 rfl T.g_l_right T.F_l_right.kp T.b_l_right .nil pass0 (pa_cons (pv 4) pa_nil)))))))))),?_⟩
    have big:(1000000:Nat)≤sizeLine:=by decide
    refine ⟨_,rfl,a,ns,rfl,hS,hl,fun l ls H1 s1 hl1 h16 h18 hp=>?_⟩
    refine ⟨_,rfl,a,ns,2,rfl,s1.seq hS,hl,?_⟩
    generalize ns.getD 2 0=c
    refine ⟨fun σ H'=>∃ (l:Addr) (ls:List Str) (x3:Option V),σ=[some (.ref a),some (.ref l),some (.int c),x3,none]∧H' l=some (.lst (ls.map V.str))∧1≤ls.length∧ls.length≤20∧∀ p∈ls,p.length≤4900,?_,?_⟩
    · have c0:0≤c % 3:=Int.emod_nonneg _ (by decide)
      have c1:c % 3 < 3:=Int.emod_lt_of_pos _ (by decide)
      refine ⟨_,rfl,_,_,rfl,rfl,(by show (0:Int) < 3;decide),c % 3,rfl,by omega,by omega,?_⟩
      obtain ⟨m,em⟩:=Int.eq_ofNat_of_zero_le c0
      rw [em,Int.toNat_natCast]
      have hm:m≤2:=by omega
      refine for_range (lo:=0) (n:=m) (fun i σ H'=>∃ (l:Addr) (ls:List Str) (x3:Option V),i≤2∧σ=[some (.ref a),some (.ref l),some (.int c),x3,none]∧Same H H'∧H' l=some (.lst (ls.map V.str))∧16≤ls.length + i∧ls.length≤18 + i∧∀ p∈ls,p.length≤400 + (if i=0 then 0 else if i=1 then 1500 else 4500))
        ⟨l,ls,none,by omega,rfl,s1,hl1,by omega,by omega,fun p h=>by have:=hp p h;simp;omega⟩ ?_ ?_
      · rintro i σ H2 hi ⟨l2,ls2,x3,hi2,rfl,s2,hl2,g1,g2,gp⟩
        have e3:(3:Int) + (0 + (i:Int))=((3 + i:Nat):Int):=by omega
        have gp':∀ p∈ls2,p.length≤400 + 1500 * i:=fun p h=>by
          have:=gp p h
          match i,hi with
          | 0,_=>simpa using this
          | 1,_=>simpa using this
          | n + 2,h=>omega
        refine ⟨_,rfl,_,rfl,_,rfl,_,_,rfl,rfl,c,_,rfl,?_⟩
        have q0:=mix_lo c (3 + (0 + (i:Int)))
        have q1:=mix_hi c (3 + (0 + (i:Int)))
        generalize mix c (3 + (0 + (i:Int)))=mx at q0 q1
        refine ⟨_,_,rfl,rfl,.inl ⟨by omega,by omega⟩,_,rfl,_,rfl,_,_,rfl,rfl,a,ns,3 + i,?_,s2.seq hS,hl,?_⟩
        · show [V.ref a,V.int (3 + (0 + (i:Int)))]=_
          rw [e3]
        refine ⟨_,_,rfl,rfl,(by show (0:Int) < 4096;decide),_,_,rfl,rfl,?_⟩
        refine ⟨l2,_,ls2,400 + 1500 * i,rfl,hl2,by omega,by omega,by omega,gp',fun l3 ls3 H3 s3 hl3 u1 u2 u3=>?_⟩
        refine ⟨l3,ls3,_,by omega,rfl,s2.trans s3,hl3,by omega,by omega,fun p h=>?_⟩
        have:=u3 p h
        match i,hi with
        | 0,_=>simp;omega
        | 1,_=>simp;omega
        | n + 2,h=>omega
      · rintro σ H2 ⟨l2,ls2,x3,hi2,rfl,s2,hl2,g1,g2,gp⟩
        refine ⟨l2,ls2,x3,rfl,hl2,by omega,by omega,fun p h=>?_⟩
        have:=gp p h
        split at this
        · omega
        · split at this<;>omega
    rintro σ H2 ⟨l2,ls2,x3,rfl,hl2,g1,g2,gp⟩
    have lN:(Str.ofString "\n").length=1:=by rw [lit_nl];rfl
    have lE:(Str.ofString " ").length=1:=by rw [lit_sp];rfl
    refine ⟨fun σ H'=>∃ t:Str,σ=[some (.ref a),some (.ref l2),some (.int c),x3,some (.str t)]∧t.length≤200000,?_,?_⟩
    · refine ⟨rfl,_,rfl,l2,rfl,⟨_,SqL.of hl2⟩,?_⟩
      refine comp_list (cap:=[none]) (K:=K) (a:=l2) (xs:=ls2.map V.str) (small_len (by rw [List.length_map];omega)) (fun i ys σ H'=>i≤ls2.length∧ys=((ls2.take i).map fun p=>p ++ ⟨#[10]⟩).map V.str∧σ.length=1∧H'=H2)
        (by exact ⟨Nat.zero_le _,rfl,rfl,rfl⟩) (fun i ys σ H' ⟨h1,h2,_,h4⟩=>⟨by rw [List.length_map];exact h1,by rw [h2,List.length_map,List.length_map,List.length_take];omega,by rw [h4];exact SqL.of hl2⟩) ?_ ?_
      · rintro i x ys σ H' hx ⟨h1,rfl,h3,rfl⟩
        rw [List.getElem?_map] at hx
        cases en:ls2[i]? with
        | none=>rw [en] at hx;cases hx
        | some n =>
          rw [en] at hx
          cases hx
          have hi:i < ls2.length:=(List.getElem?_eq_some_iff.mp en).1
          have hz:n.length + (Str.ofString "\n").length≤sizeLine:=by
            have:=gp n (List.mem_of_getElem? en)
            omega
          match σ,h3 with
          | [z0],_=>exact ⟨_,rfl,n,_,rfl,rfl,hz,hi,by rw [List.take_add_one,en,lit_nl];simp,rfl,rfl⟩
      rintro ys σ H' ⟨h1,rfl,h3,rfl⟩ D hD
      rw [List.length_map,List.take_length]
      have hB:∀ y∈ls2.map (fun p=>p ++ (⟨#[10]⟩:Str)),y.length≤4901:=fun y hy=>by
        obtain ⟨p,hp,rfl⟩:=List.mem_map.mp hy
        have:=gp p hp
        rw [Str.length_append]
        have:(⟨#[10]⟩:Str).length=1:=rfl
        omega
      have h0:(⟨#[]⟩:Str).length=0:=rfl
      refine ⟨_,D,_,rfl,rfl,SqL.of upd_same,?_,_,rfl,?_⟩
      · refine joinOk_of (B:=4901) hB ?_
        rw [lit_e,List.length_map,h0]
        omega
      · rw [lit_e]
        have h1:=StrLaws.join_length_le ⟨#[]⟩ (ls2.map fun p=>p ++ (⟨#[10]⟩:Str))
        have h2:=StrLaws.sumLen_le (B:=4901) (ls2.map fun p=>p ++ (⟨#[10]⟩:Str)) hB
        rw [List.length_map] at h1 h2
        rw [h0] at h1
        omega
    rintro σ H3 ⟨t,rfl,ht⟩
    refine ⟨fun σ H'=>∃ t:Str,σ=[some (.ref a),some (.ref l2),some (.int c),x3,some (.str t)]∧t.length≤200001,?_,?_⟩
    · refine ⟨_,rfl,_,_,rfl,rfl,⟨by decide,by decide⟩,_,_,rfl,rfl,(by show (0:Int) < 8;decide),rfl,_,rfl,ite2 (fun _=>?_) (fun _=>⟨t,rfl,by omega⟩)⟩
      exact ⟨_,rfl,_,rfl,_,rfl,t,rfl,by omega,_,rfl,Nat.le_trans (Txt.slice_le ..) (by omega)⟩
    rintro σ H4 ⟨t4,rfl,ht4⟩
    refine ⟨fun σ H'=>∃ t:Str,σ=[some (.ref a),some (.ref l2),some (.int c),x3,some (.str t)]∧t.length≤200002,?_,?_⟩
    · refine ⟨_,rfl,_,_,rfl,rfl,⟨by decide,by decide⟩,_,_,rfl,rfl,(by show (0:Int) < 8;decide),rfl,_,rfl,ite2 (fun _=>?_) (fun _=>⟨t4,rfl,by omega⟩)⟩
      exact ⟨_,rfl,_,_,rfl,rfl,by omega,_,rfl,by rw [Str.length_append];omega⟩
    rintro σ H5 ⟨t5,rfl,ht5⟩
    refine ⟨fun σ H'=>∃ t:Str,σ=[some (.ref a),some (.ref l2),some (.int c),x3,some (.str t)]∧t.length≤200003,?_,?_⟩
    · refine ⟨_,rfl,_,_,rfl,rfl,⟨by decide,by decide⟩,_,_,rfl,rfl,(by show (0:Int) < 32;decide),rfl,_,rfl,ite2 (fun _=>?_) (fun _=>⟨t5,rfl,by omega⟩)⟩
      exact ⟨_,rfl,_,_,rfl,rfl,⟨by decide,by decide⟩,_,_,rfl,rfl,(by show (0:Int) < 2;decide),_,rfl,_,rfl,by omega,_,rfl,Nat.le_trans (Txt.slice_le ..) (by omega)⟩
    rintro σ H6 ⟨t6,rfl,ht6⟩
    exact ⟨_,rfl,t6,rfl,by omega,fun H7 _=>k H7⟩
end
end K05
namespace K05
open PySem L2 PyProof.Rows PySem.W
theorem all_mk {l:PySem.W.OpenLaw}{w:World}{K:PySem.W.Frag}{h:Heap}{mg:Str→Option Value}{fa:Addr}(X:K.In h) (G:h.Ns mainGlobals mg) (hfa:mg "law"=some (.ref fa))
    {C_Layout:Addr}
    {C_VolumeError:Addr}
    {C_NoLayout:Addr}
    {C_NoVolume:Addr}
    {C_NoText:Addr}
    {C_NoPath:Addr}
    {C_TooFar:Addr}
    {f_NoText_init:Addr} {od_NoText_init an_NoText_init:Option Addr} {sl_NoText_init:Array (Option Value)} {oc_NoText_init kV_NoText_init dc_NoText_init pm_NoText_init cd_NoText_init ct_NoText_init:Value}
    {f_Layout_init:Addr} {od_Layout_init an_Layout_init:Option Addr} {sl_Layout_init:Array (Option Value)} {oc_Layout_init kV_Layout_init dc_Layout_init pm_Layout_init cd_Layout_init ct_Layout_init:Value}
    {f_Layout_many:Addr} {od_Layout_many an_Layout_many:Option Addr} {sl_Layout_many:Array (Option Value)} {oc_Layout_many kV_Layout_many dc_Layout_many pm_Layout_many cd_Layout_many ct_Layout_many:Value}
    {f_Layout_record_at:Addr} {od_Layout_record_at an_Layout_record_at:Option Addr} {sl_Layout_record_at:Array (Option Value)} {oc_Layout_record_at kV_Layout_record_at dc_Layout_record_at pm_Layout_record_at cd_Layout_record_at ct_Layout_record_at:Value}
    {f_Layout_names_at:Addr} {od_Layout_names_at an_Layout_names_at:Option Addr} {sl_Layout_names_at:Array (Option Value)} {oc_Layout_names_at kV_Layout_names_at dc_Layout_names_at pm_Layout_names_at cd_Layout_names_at ct_Layout_names_at:Value}
    {f_Layout_data_at:Addr} {od_Layout_data_at an_Layout_data_at:Option Addr} {sl_Layout_data_at:Array (Option Value)} {oc_Layout_data_at kV_Layout_data_at dc_Layout_data_at pm_Layout_data_at cd_Layout_data_at ct_Layout_data_at:Value}
    {f_is_written:Addr} {od_is_written an_is_written:Option Addr} {sl_is_written:Array (Option Value)} {oc_is_written kV_is_written dc_is_written pm_is_written cd_is_written ct_is_written:Value}
    {f_numbers_of:Addr} {od_numbers_of an_numbers_of:Option Addr} {sl_numbers_of:Array (Option Value)} {oc_numbers_of kV_numbers_of dc_numbers_of pm_numbers_of cd_numbers_of ct_numbers_of:Value}
    {f_read_layout:Addr} {od_read_layout an_read_layout:Option Addr} {sl_read_layout:Array (Option Value)} {oc_read_layout kV_read_layout dc_read_layout pm_read_layout cd_read_layout ct_read_layout:Value}
    {f_read_rows:Addr} {od_read_rows an_read_rows:Option Addr} {sl_read_rows:Array (Option Value)} {oc_read_rows kV_read_rows dc_read_rows pm_read_rows cd_read_rows ct_read_rows:Value}
    {f_read_volume:Addr} {od_read_volume an_read_volume:Option Addr} {sl_read_volume:Array (Option Value)} {oc_read_volume kV_read_volume dc_read_volume pm_read_volume cd_read_volume ct_read_volume:Value}
    {f_l_cell:Addr} {od_l_cell an_l_cell:Option Addr} {sl_l_cell:Array (Option Value)} {oc_l_cell kV_l_cell dc_l_cell pm_l_cell cd_l_cell ct_l_cell:Value}
    {f_l_mixed:Addr} {od_l_mixed an_l_mixed:Option Addr} {sl_l_mixed:Array (Option Value)} {oc_l_mixed kV_l_mixed dc_l_mixed pm_l_mixed cd_l_mixed ct_l_mixed:Value}
    {f_l_number:Addr} {od_l_number an_l_number:Option Addr} {sl_l_number:Array (Option Value)} {oc_l_number kV_l_number dc_l_number pm_l_number cd_l_number ct_l_number:Value}
    {f_l_any:Addr} {od_l_any an_l_any:Option Addr} {sl_l_any:Array (Option Value)} {oc_l_any kV_l_any dc_l_any pm_l_any cd_l_any ct_l_any:Value}
    {f_l_rows:Addr} {od_l_rows an_l_rows:Option Addr} {sl_l_rows:Array (Option Value)} {oc_l_rows kV_l_rows dc_l_rows pm_l_rows cd_l_rows ct_l_rows:Value}
    {f_l_signs:Addr} {od_l_signs an_l_signs:Option Addr} {sl_l_signs:Array (Option Value)} {oc_l_signs kV_l_signs dc_l_signs pm_l_signs cd_l_signs ct_l_signs:Value}
    {f_l_word:Addr} {od_l_word an_l_word:Option Addr} {sl_l_word:Array (Option Value)} {oc_l_word kV_l_word dc_l_word pm_l_word cd_l_word ct_l_word:Value}
    {f_l_head:Addr} {od_l_head an_l_head:Option Addr} {sl_l_head:Array (Option Value)} {oc_l_head kV_l_head dc_l_head pm_l_head cd_l_head ct_l_head:Value}
    {f_l_spoiled:Addr} {od_l_spoiled an_l_spoiled:Option Addr} {sl_l_spoiled:Array (Option Value)} {oc_l_spoiled kV_l_spoiled dc_l_spoiled pm_l_spoiled cd_l_spoiled ct_l_spoiled:Value}
    {f_l_is_number:Addr} {od_l_is_number an_l_is_number:Option Addr} {sl_l_is_number:Array (Option Value)} {oc_l_is_number kV_l_is_number dc_l_is_number pm_l_is_number cd_l_is_number ct_l_is_number:Value}
    {f_l_sizes:Addr} {od_l_sizes an_l_sizes:Option Addr} {sl_l_sizes:Array (Option Value)} {oc_l_sizes kV_l_sizes dc_l_sizes pm_l_sizes cd_l_sizes ct_l_sizes:Value}
    {f_l_due:Addr} {od_l_due an_l_due:Option Addr} {sl_l_due:Array (Option Value)} {oc_l_due kV_l_due dc_l_due pm_l_due cd_l_due ct_l_due:Value}
    {f_l_text:Addr} {od_l_text an_l_text:Option Addr} {sl_l_text:Array (Option Value)} {oc_l_text kV_l_text dc_l_text pm_l_text cd_l_text ct_l_text:Value}
    {f_l_right:Addr} {od_l_right an_l_right:Option Addr} {sl_l_right:Array (Option Value)} {oc_l_right kV_l_right dc_l_right pm_l_right cd_l_right ct_l_right:Value}
    {f_law:Addr} {od_law an_law:Option Addr} {sl_law:Array (Option Value)} {oc_law kV_law dc_law pm_law cd_law ct_law:Value}
    {t_WIDE:Tok}
    {t_RECORDS_AT:Tok}
    {t_LONGEST:Tok}
    {t_WORD:Tok}
    {t_FIGURES:Tok}
    {nm_NoText q_NoText:Str} {N_NoText:Addr} {bs_NoText bm_NoText:List Value} {hd_NoText:Bool} {sn_NoText:List Str} {sub_NoText:List Value} {ab_NoText:Bool} {col_NoText:Option Bool} {dd_NoText:Option Addr} {k0_NoText k1_NoText k2_NoText k3_NoText k5_NoText:Option Value}
    (aC_Layout:PySem.W.nsIn K mainGlobals "Layout"=some (some (.ref C_Layout)))
    (pg_Layout:PySem.W.plainGet K C_Layout Str.empty=true)
    (hd_Layout:PySem.W.hasDictIn K C_Layout=true)
    (po_Layout:PySem.W.plainOver K C_Layout=true)
    (sa_Layout:PySem.W.findIn K (.ref C_Layout) "__setattr__"=some (some (.builtin "object.__setattr__")))
    (n_Layout_files:PySem.W.findIn K (.ref C_Layout) "files"=some none)
    (n_Layout_slots:PySem.W.findIn K (.ref C_Layout) "slots"=some none)
    (n_Layout_data:PySem.W.findIn K (.ref C_Layout) "data"=some none)
    (aC_VolumeError:PySem.W.nsIn K mainGlobals "VolumeError"=some (some (.ref C_VolumeError)))
    (aC_NoLayout:PySem.W.nsIn K mainGlobals "NoLayout"=some (some (.ref C_NoLayout)))
    (aC_NoVolume:PySem.W.nsIn K mainGlobals "NoVolume"=some (some (.ref C_NoVolume)))
    (aC_NoText:PySem.W.nsIn K mainGlobals "NoText"=some (some (.ref C_NoText)))
    (aC_NoPath:PySem.W.nsIn K mainGlobals "NoPath"=some (some (.ref C_NoPath)))
    (aC_TooFar:PySem.W.nsIn K mainGlobals "TooFar"=some (some (.ref C_TooFar)))
    (a_NoText_init:PySem.W.findIn K (.ref C_NoText) "__init__"=some (some (.ref f_NoText_init)))
    (i_NoText_init:PySem.W.isFn K (.ref f_NoText_init)=true)
    (l_NoText_init:K.lookup f_NoText_init=some ⟨oc_NoText_init,od_NoText_init,.func (PySem.W.fnOf "__init__" "NoText.__init__" (defArgs s_NoText_init) (defBody s_NoText_init) (defScope s_NoText_init) .none kV_NoText_init dc_NoText_init pm_NoText_init an_NoText_init cd_NoText_init ct_NoText_init),sl_NoText_init⟩)
    (c_NoText_init:PySem.W.codeIn K cd_NoText_init "NoText.__init__"=true)
    (k_NoText_init:PySem.W.keepIn K (.ref f_NoText_init)=true)
    (a_Layout_init:PySem.W.findIn K (.ref C_Layout) "__init__"=some (some (.ref f_Layout_init)))
    (i_Layout_init:PySem.W.isFn K (.ref f_Layout_init)=true)
    (l_Layout_init:K.lookup f_Layout_init=some ⟨oc_Layout_init,od_Layout_init,.func (PySem.W.fnOf "__init__" "Layout.__init__" (defArgs s_Layout_init) (defBody s_Layout_init) (defScope s_Layout_init) .none kV_Layout_init dc_Layout_init pm_Layout_init an_Layout_init cd_Layout_init ct_Layout_init),sl_Layout_init⟩)
    (c_Layout_init:PySem.W.codeIn K cd_Layout_init "Layout.__init__"=true)
    (k_Layout_init:PySem.W.keepIn K (.ref f_Layout_init)=true)
    (mk_Layout:PySem.W.makesIn K C_Layout=true)
    (kc_Layout:PySem.W.keepIn K (.ref C_Layout)=true)
    (a_Layout_many:PySem.W.findIn K (.ref C_Layout) "many"=some (some (.ref f_Layout_many)))
    (i_Layout_many:PySem.W.isFn K (.ref f_Layout_many)=true)
    (l_Layout_many:K.lookup f_Layout_many=some ⟨oc_Layout_many,od_Layout_many,.func (PySem.W.fnOf "many" "Layout.many" (defArgs s_Layout_many) (defBody s_Layout_many) (defScope s_Layout_many) .none kV_Layout_many dc_Layout_many pm_Layout_many an_Layout_many cd_Layout_many ct_Layout_many),sl_Layout_many⟩)
    (c_Layout_many:PySem.W.codeIn K cd_Layout_many "Layout.many"=true)
    (k_Layout_many:PySem.W.keepIn K (.ref f_Layout_many)=true)
    (a_Layout_record_at:PySem.W.findIn K (.ref C_Layout) "record_at"=some (some (.ref f_Layout_record_at)))
    (i_Layout_record_at:PySem.W.isFn K (.ref f_Layout_record_at)=true)
    (l_Layout_record_at:K.lookup f_Layout_record_at=some ⟨oc_Layout_record_at,od_Layout_record_at,.func (PySem.W.fnOf "record_at" "Layout.record_at" (defArgs s_Layout_record_at) (defBody s_Layout_record_at) (defScope s_Layout_record_at) .none kV_Layout_record_at dc_Layout_record_at pm_Layout_record_at an_Layout_record_at cd_Layout_record_at ct_Layout_record_at),sl_Layout_record_at⟩)
    (c_Layout_record_at:PySem.W.codeIn K cd_Layout_record_at "Layout.record_at"=true)
    (k_Layout_record_at:PySem.W.keepIn K (.ref f_Layout_record_at)=true)
    (a_Layout_names_at:PySem.W.findIn K (.ref C_Layout) "names_at"=some (some (.ref f_Layout_names_at)))
    (i_Layout_names_at:PySem.W.isFn K (.ref f_Layout_names_at)=true)
    (l_Layout_names_at:K.lookup f_Layout_names_at=some ⟨oc_Layout_names_at,od_Layout_names_at,.func (PySem.W.fnOf "names_at" "Layout.names_at" (defArgs s_Layout_names_at) (defBody s_Layout_names_at) (defScope s_Layout_names_at) .none kV_Layout_names_at dc_Layout_names_at pm_Layout_names_at an_Layout_names_at cd_Layout_names_at ct_Layout_names_at),sl_Layout_names_at⟩)
    (c_Layout_names_at:PySem.W.codeIn K cd_Layout_names_at "Layout.names_at"=true)
    (k_Layout_names_at:PySem.W.keepIn K (.ref f_Layout_names_at)=true)
    (a_Layout_data_at:PySem.W.findIn K (.ref C_Layout) "data_at"=some (some (.ref f_Layout_data_at)))
    (i_Layout_data_at:PySem.W.isFn K (.ref f_Layout_data_at)=true)
    (l_Layout_data_at:K.lookup f_Layout_data_at=some ⟨oc_Layout_data_at,od_Layout_data_at,.func (PySem.W.fnOf "data_at" "Layout.data_at" (defArgs s_Layout_data_at) (defBody s_Layout_data_at) (defScope s_Layout_data_at) .none kV_Layout_data_at dc_Layout_data_at pm_Layout_data_at an_Layout_data_at cd_Layout_data_at ct_Layout_data_at),sl_Layout_data_at⟩)
    (c_Layout_data_at:PySem.W.codeIn K cd_Layout_data_at "Layout.data_at"=true)
    (k_Layout_data_at:PySem.W.keepIn K (.ref f_Layout_data_at)=true)
    (a_is_written:PySem.W.nsIn K mainGlobals "is_written"=some (some (.ref f_is_written)))
    (l_is_written:K.lookup f_is_written=some ⟨oc_is_written,od_is_written,.func (PySem.W.fnOf "is_written" "is_written" (defArgs s_is_written) (defBody s_is_written) (defScope s_is_written) .none kV_is_written dc_is_written pm_is_written an_is_written cd_is_written ct_is_written),sl_is_written⟩)
    (c_is_written:PySem.W.codeIn K cd_is_written "is_written"=true)
    (k_is_written:PySem.W.keepIn K (.ref f_is_written)=true)
    (a_numbers_of:PySem.W.nsIn K mainGlobals "numbers_of"=some (some (.ref f_numbers_of)))
    (l_numbers_of:K.lookup f_numbers_of=some ⟨oc_numbers_of,od_numbers_of,.func (PySem.W.fnOf "numbers_of" "numbers_of" (defArgs s_numbers_of) (defBody s_numbers_of) (defScope s_numbers_of) .none kV_numbers_of dc_numbers_of pm_numbers_of an_numbers_of cd_numbers_of ct_numbers_of),sl_numbers_of⟩)
    (c_numbers_of:PySem.W.codeIn K cd_numbers_of "numbers_of"=true)
    (k_numbers_of:PySem.W.keepIn K (.ref f_numbers_of)=true)
    (a_read_layout:PySem.W.nsIn K mainGlobals "read_layout"=some (some (.ref f_read_layout)))
    (l_read_layout:K.lookup f_read_layout=some ⟨oc_read_layout,od_read_layout,.func (PySem.W.fnOf "read_layout" "read_layout" (defArgs s_read_layout) (defBody s_read_layout) (defScope s_read_layout) .none kV_read_layout dc_read_layout pm_read_layout an_read_layout cd_read_layout ct_read_layout),sl_read_layout⟩)
    (c_read_layout:PySem.W.codeIn K cd_read_layout "read_layout"=true)
    (k_read_layout:PySem.W.keepIn K (.ref f_read_layout)=true)
    (a_read_rows:PySem.W.nsIn K mainGlobals "read_rows"=some (some (.ref f_read_rows)))
    (l_read_rows:K.lookup f_read_rows=some ⟨oc_read_rows,od_read_rows,.func (PySem.W.fnOf "read_rows" "read_rows" (defArgs s_read_rows) (defBody s_read_rows) (defScope s_read_rows) .none kV_read_rows dc_read_rows pm_read_rows an_read_rows cd_read_rows ct_read_rows),sl_read_rows⟩)
    (c_read_rows:PySem.W.codeIn K cd_read_rows "read_rows"=true)
    (k_read_rows:PySem.W.keepIn K (.ref f_read_rows)=true)
    (a_read_volume:PySem.W.nsIn K mainGlobals "read_volume"=some (some (.ref f_read_volume)))
    (l_read_volume:K.lookup f_read_volume=some ⟨oc_read_volume,od_read_volume,.func (PySem.W.fnOf "read_volume" "read_volume" (defArgs s_read_volume) (defBody s_read_volume) (defScope s_read_volume) .none kV_read_volume dc_read_volume pm_read_volume an_read_volume cd_read_volume ct_read_volume),sl_read_volume⟩)
    (c_read_volume:PySem.W.codeIn K cd_read_volume "read_volume"=true)
    (k_read_volume:PySem.W.keepIn K (.ref f_read_volume)=true)
    (a_l_cell:PySem.W.nsIn K mainGlobals "_law_cell"=some (some (.ref f_l_cell)))
    (l_l_cell:K.lookup f_l_cell=some ⟨oc_l_cell,od_l_cell,.func (PySem.W.fnOf "_law_cell" "_law_cell" (defArgs s_l_cell) (defBody s_l_cell) (defScope s_l_cell) .none kV_l_cell dc_l_cell pm_l_cell an_l_cell cd_l_cell ct_l_cell),sl_l_cell⟩)
    (c_l_cell:PySem.W.codeIn K cd_l_cell "_law_cell"=true)
    (k_l_cell:PySem.W.keepIn K (.ref f_l_cell)=true)
    (a_l_mixed:PySem.W.nsIn K mainGlobals "_law_mixed"=some (some (.ref f_l_mixed)))
    (l_l_mixed:K.lookup f_l_mixed=some ⟨oc_l_mixed,od_l_mixed,.func (PySem.W.fnOf "_law_mixed" "_law_mixed" (defArgs s_l_mixed) (defBody s_l_mixed) (defScope s_l_mixed) .none kV_l_mixed dc_l_mixed pm_l_mixed an_l_mixed cd_l_mixed ct_l_mixed),sl_l_mixed⟩)
    (c_l_mixed:PySem.W.codeIn K cd_l_mixed "_law_mixed"=true)
    (k_l_mixed:PySem.W.keepIn K (.ref f_l_mixed)=true)
    (a_l_number:PySem.W.nsIn K mainGlobals "_law_number"=some (some (.ref f_l_number)))
    (l_l_number:K.lookup f_l_number=some ⟨oc_l_number,od_l_number,.func (PySem.W.fnOf "_law_number" "_law_number" (defArgs s_l_number) (defBody s_l_number) (defScope s_l_number) .none kV_l_number dc_l_number pm_l_number an_l_number cd_l_number ct_l_number),sl_l_number⟩)
    (c_l_number:PySem.W.codeIn K cd_l_number "_law_number"=true)
    (k_l_number:PySem.W.keepIn K (.ref f_l_number)=true)
    (a_l_any:PySem.W.nsIn K mainGlobals "_law_any"=some (some (.ref f_l_any)))
    (l_l_any:K.lookup f_l_any=some ⟨oc_l_any,od_l_any,.func (PySem.W.fnOf "_law_any" "_law_any" (defArgs s_l_any) (defBody s_l_any) (defScope s_l_any) .none kV_l_any dc_l_any pm_l_any an_l_any cd_l_any ct_l_any),sl_l_any⟩)
    (c_l_any:PySem.W.codeIn K cd_l_any "_law_any"=true)
    (k_l_any:PySem.W.keepIn K (.ref f_l_any)=true)
    (a_l_rows:PySem.W.nsIn K mainGlobals "_law_rows"=some (some (.ref f_l_rows)))
    (l_l_rows:K.lookup f_l_rows=some ⟨oc_l_rows,od_l_rows,.func (PySem.W.fnOf "_law_rows" "_law_rows" (defArgs s_l_rows) (defBody s_l_rows) (defScope s_l_rows) .none kV_l_rows dc_l_rows pm_l_rows an_l_rows cd_l_rows ct_l_rows),sl_l_rows⟩)
    (c_l_rows:PySem.W.codeIn K cd_l_rows "_law_rows"=true)
    (k_l_rows:PySem.W.keepIn K (.ref f_l_rows)=true)
    (a_l_signs:PySem.W.nsIn K mainGlobals "_law_signs"=some (some (.ref f_l_signs)))
    (l_l_signs:K.lookup f_l_signs=some ⟨oc_l_signs,od_l_signs,.func (PySem.W.fnOf "_law_signs" "_law_signs" (defArgs s_l_signs) (defBody s_l_signs) (defScope s_l_signs) .none kV_l_signs dc_l_signs pm_l_signs an_l_signs cd_l_signs ct_l_signs),sl_l_signs⟩)
    (c_l_signs:PySem.W.codeIn K cd_l_signs "_law_signs"=true)
    (k_l_signs:PySem.W.keepIn K (.ref f_l_signs)=true)
    (a_l_word:PySem.W.nsIn K mainGlobals "_law_word"=some (some (.ref f_l_word)))
    (l_l_word:K.lookup f_l_word=some ⟨oc_l_word,od_l_word,.func (PySem.W.fnOf "_law_word" "_law_word" (defArgs s_l_word) (defBody s_l_word) (defScope s_l_word) .none kV_l_word dc_l_word pm_l_word an_l_word cd_l_word ct_l_word),sl_l_word⟩)
    (c_l_word:PySem.W.codeIn K cd_l_word "_law_word"=true)
    (k_l_word:PySem.W.keepIn K (.ref f_l_word)=true)
    (a_l_head:PySem.W.nsIn K mainGlobals "_law_head"=some (some (.ref f_l_head)))
    (l_l_head:K.lookup f_l_head=some ⟨oc_l_head,od_l_head,.func (PySem.W.fnOf "_law_head" "_law_head" (defArgs s_l_head) (defBody s_l_head) (defScope s_l_head) .none kV_l_head dc_l_head pm_l_head an_l_head cd_l_head ct_l_head),sl_l_head⟩)
    (c_l_head:PySem.W.codeIn K cd_l_head "_law_head"=true)
    (k_l_head:PySem.W.keepIn K (.ref f_l_head)=true)
    (a_l_spoiled:PySem.W.nsIn K mainGlobals "_law_spoiled"=some (some (.ref f_l_spoiled)))
    (l_l_spoiled:K.lookup f_l_spoiled=some ⟨oc_l_spoiled,od_l_spoiled,.func (PySem.W.fnOf "_law_spoiled" "_law_spoiled" (defArgs s_l_spoiled) (defBody s_l_spoiled) (defScope s_l_spoiled) .none kV_l_spoiled dc_l_spoiled pm_l_spoiled an_l_spoiled cd_l_spoiled ct_l_spoiled),sl_l_spoiled⟩)
    (c_l_spoiled:PySem.W.codeIn K cd_l_spoiled "_law_spoiled"=true)
    (k_l_spoiled:PySem.W.keepIn K (.ref f_l_spoiled)=true)
    (a_l_is_number:PySem.W.nsIn K mainGlobals "_law_is_number"=some (some (.ref f_l_is_number)))
    (l_l_is_number:K.lookup f_l_is_number=some ⟨oc_l_is_number,od_l_is_number,.func (PySem.W.fnOf "_law_is_number" "_law_is_number" (defArgs s_l_is_number) (defBody s_l_is_number) (defScope s_l_is_number) .none kV_l_is_number dc_l_is_number pm_l_is_number an_l_is_number cd_l_is_number ct_l_is_number),sl_l_is_number⟩)
    (c_l_is_number:PySem.W.codeIn K cd_l_is_number "_law_is_number"=true)
    (k_l_is_number:PySem.W.keepIn K (.ref f_l_is_number)=true)
    (a_l_sizes:PySem.W.nsIn K mainGlobals "_law_sizes"=some (some (.ref f_l_sizes)))
    (l_l_sizes:K.lookup f_l_sizes=some ⟨oc_l_sizes,od_l_sizes,.func (PySem.W.fnOf "_law_sizes" "_law_sizes" (defArgs s_l_sizes) (defBody s_l_sizes) (defScope s_l_sizes) .none kV_l_sizes dc_l_sizes pm_l_sizes an_l_sizes cd_l_sizes ct_l_sizes),sl_l_sizes⟩)
    (c_l_sizes:PySem.W.codeIn K cd_l_sizes "_law_sizes"=true)
    (k_l_sizes:PySem.W.keepIn K (.ref f_l_sizes)=true)
    (a_l_due:PySem.W.nsIn K mainGlobals "_law_due"=some (some (.ref f_l_due)))
    (l_l_due:K.lookup f_l_due=some ⟨oc_l_due,od_l_due,.func (PySem.W.fnOf "_law_due" "_law_due" (defArgs s_l_due) (defBody s_l_due) (defScope s_l_due) .none kV_l_due dc_l_due pm_l_due an_l_due cd_l_due ct_l_due),sl_l_due⟩)
    (c_l_due:PySem.W.codeIn K cd_l_due "_law_due"=true)
    (k_l_due:PySem.W.keepIn K (.ref f_l_due)=true)
    (a_l_text:PySem.W.nsIn K mainGlobals "_law_text"=some (some (.ref f_l_text)))
    (l_l_text:K.lookup f_l_text=some ⟨oc_l_text,od_l_text,.func (PySem.W.fnOf "_law_text" "_law_text" (defArgs s_l_text) (defBody s_l_text) (defScope s_l_text) .none kV_l_text dc_l_text pm_l_text an_l_text cd_l_text ct_l_text),sl_l_text⟩)
    (c_l_text:PySem.W.codeIn K cd_l_text "_law_text"=true)
    (k_l_text:PySem.W.keepIn K (.ref f_l_text)=true)
    (a_l_right:PySem.W.nsIn K mainGlobals "_law_right"=some (some (.ref f_l_right)))
    (l_l_right:K.lookup f_l_right=some ⟨oc_l_right,od_l_right,.func (PySem.W.fnOf "_law_right" "_law_right" (defArgs s_l_right) (defBody s_l_right) (defScope s_l_right) .none kV_l_right dc_l_right pm_l_right an_l_right cd_l_right ct_l_right),sl_l_right⟩)
    (c_l_right:PySem.W.codeIn K cd_l_right "_law_right"=true)
    (k_l_right:PySem.W.keepIn K (.ref f_l_right)=true)
    (a_law:PySem.W.nsIn K mainGlobals "law"=some (some (.ref f_law)))
    (l_law:K.lookup f_law=some ⟨oc_law,od_law,.func (PySem.W.fnOf "law" "law" (defArgs s_law) (defBody s_law) (defScope s_law) .none kV_law dc_law pm_law an_law cd_law ct_law),sl_law⟩)
    (c_law:PySem.W.codeIn K cd_law "law"=true)
    (k_law:PySem.W.keepIn K (.ref f_law)=true)
    (a_WIDE:PySem.W.nsIn K mainGlobals "WIDE"=some (some (.int 8 t_WIDE)))
    (a_RECORDS_AT:PySem.W.nsIn K mainGlobals "RECORDS_AT"=some (some (.int 10 t_RECORDS_AT)))
    (a_LONGEST:PySem.W.nsIn K mainGlobals "LONGEST"=some (some (.int 40 t_LONGEST)))
    (a_WORD:PySem.W.nsIn K mainGlobals "WORD"=some (some (.str (Str.ofString "volume") t_WORD)))
    (a_FIGURES:PySem.W.nsIn K mainGlobals "FIGURES"=some (some (.str (Str.ofString "0123456789") t_FIGURES)))
    (lC_NoText:K.lookup C_NoText=some (excClassObj nm_NoText q_NoText C_NoText N_NoText bs_NoText bm_NoText hd_NoText sn_NoText sub_NoText ab_NoText col_NoText dd_NoText k0_NoText k1_NoText k2_NoText k3_NoText k5_NoText "ValueError.__new__"))
    (no_NoText:PySem.W.nsOkIn K N_NoText=true)
    (ni_NoText:PySem.W.nsIn K N_NoText "__init__"=some (some (.ref f_NoText_init)))
    (tl_NoText:PySem.W.tailIn K [.type "ValueError",.type "Exception",.type "BaseException",.type "object"] bm_NoText=true)
    (em_NoText:exMro bm_NoText=true)
    (eh_NoText:hd_NoText=true)
    (sa_NoText:PySem.W.findIn K (.ref C_NoText) "__setattr__"=some (some (.builtin "object.__setattr__")))
    (xh_NoText:PySem.W.hasDictIn K C_NoText=true)
    (n_NoText_at:PySem.W.findIn K (.ref C_NoText) "at"=some none)
    (ex_NoLayout:PySem.W.excIn K C_NoLayout [.type "ValueError",.type "Exception",.type "BaseException",.type "object"] "ValueError.__new__"=true)
    (xt_ga_NoText:PySem.W.findIn K (.ref C_NoText) "__getattribute__"=some (some (.builtin "BaseException.__getattribute__")))
    (xt_gt_NoText:PySem.W.findIn K (.ref C_NoText) "__getattr__"=some none)
    (xt_ha_NoText:PySem.W.findIn K (.ref C_NoText) "__class__"=some (some (.builtin "object.__class__")))
    (xt_mO_NoText:PySem.W.mroIn K C_NoText (.type "object")=some true)
    (xt_mB_NoText:PySem.W.mroIn K C_NoText (.type "BaseException")=some true)
    (xt_hn_NoText:PySem.W.specialIn K (.builtin "object.__class__") "__get__"=some (some (.builtin "getset_descriptor.__get__")))
    (xt_tk_NoText:PySem.W.takesIn K (.builtin "object.__class__")=some true)
    (fa_o_Layout:PySem.W.mroIn K C_Layout (.type "object")=some true)
    (fa_k11:PySem.W.kitOne K (.ref C_Layout) (.ref C_Layout)=some true)
    (fa_ha_Layout:PySem.W.findIn K (.ref C_Layout) "__class__"=some (some (.builtin "object.__class__")))
    (fa_hn_class:PySem.W.specialIn K (.builtin "object.__class__") "__get__"=some (some (.builtin "getset_descriptor.__get__")))
    (fa_tk_class:PySem.W.takesIn K (.builtin "object.__class__")=some true)
    (fa_k_match:PySem.W.exmOne K (.ref C_NoText) (.ref C_VolumeError)=some true)
    (fa_k_match2:PySem.W.exmOne K (.ref C_NoLayout) (.ref C_NoLayout)=some true)
    (fa_k_self:PySem.W.kitOne K (.ref C_NoText) (.ref C_NoText)=some true)
    (fa_k_none:PySem.W.kitAny K (.ref C_NoText) [.ref C_NoLayout,.ref C_NoPath,.ref C_NoVolume,.ref C_TooFar]=some false)
    (fa_v_reads:PySem.W.readsIn K C_VolumeError (.type "type")=true)
    (fa_v_init:PySem.W.findCls K (.ref C_VolumeError) (.type "type") "__init__"=some (.val (.builtin "ValueError.__init__")))
    (fa_v_ga:PySem.W.specialIn K (.ref C_VolumeError) "__getattribute__"=some (some (.builtin "type.__getattribute__")))
    (z_len:PySem.W.nsIn K mainGlobals "len"=some none)
    (z_range:PySem.W.nsIn K mainGlobals "range"=some none)
    (z_isinstance:PySem.W.nsIn K mainGlobals "isinstance"=some none)
    (z_list:PySem.W.nsIn K mainGlobals "list"=some none)
    (z_tuple:PySem.W.nsIn K mainGlobals "tuple"=some none)
    (z_bool:PySem.W.nsIn K mainGlobals "bool"=some none)
    (z_str:PySem.W.nsIn K mainGlobals "str"=some none)
    (z_int:PySem.W.nsIn K mainGlobals "int"=some none)
    (z_all:PySem.W.nsIn K mainGlobals "all"=some none)
    (z_enumerate:PySem.W.nsIn K mainGlobals "enumerate"=some none)
    (z_min:PySem.W.nsIn K mainGlobals "min"=some none)
    : ∃ fd:FuncData,(∀ (s:Shared) (v:Value),BindsTo s fd ⟨[v],[]⟩ [("_law_script",v)])∧∀ base:Heap,K.In base→base.Ns mainGlobals mg→FnOk l.prog w K mg base CX0 10 fa fd ["_law_script"] (spLaw K):=by
  have e:f_law=fa:=by
    have z:=(PySem.W.mg_of X G a_law).symm.trans hfa
    injection z with z
    injection z
  subst e
  let T:Tx K mg:={
    C_Layout:=C_Layout,
    cl_Layout:=⟨pg_Layout,hd_Layout,po_Layout,sa_Layout⟩,
    g_Layout:=PySem.W.mg_of X G aC_Layout,
    n_Layout_files:=n_Layout_files,
    n_Layout_slots:=n_Layout_slots,
    n_Layout_data:=n_Layout_data,
    C_VolumeError:=C_VolumeError,
    g_VolumeError:=PySem.W.mg_of X G aC_VolumeError,
    C_NoLayout:=C_NoLayout,
    g_NoLayout:=PySem.W.mg_of X G aC_NoLayout,
    C_NoVolume:=C_NoVolume,
    g_NoVolume:=PySem.W.mg_of X G aC_NoVolume,
    C_NoText:=C_NoText,
    g_NoText:=PySem.W.mg_of X G aC_NoText,
    C_NoPath:=C_NoPath,
    g_NoPath:=PySem.W.mg_of X G aC_NoPath,
    C_TooFar:=C_TooFar,
    g_TooFar:=PySem.W.mg_of X G aC_TooFar,
    f_NoText_init:=f_NoText_init,
    fd_NoText_init:=PySem.W.fnOf "__init__" "NoText.__init__" (defArgs s_NoText_init) (defBody s_NoText_init) (defScope s_NoText_init) .none kV_NoText_init dc_NoText_init pm_NoText_init an_NoText_init cd_NoText_init ct_NoText_init,
    F_NoText_init:=fun_mk (st:=s_NoText_init) l_NoText_init c_NoText_init k_NoText_init,
    b_NoText_init:=(fun_mk (st:=s_NoText_init) l_NoText_init c_NoText_init k_NoText_init).binds (ps:=["self","at"]) fun _ _ _ _ _ _ us hl=>match us,hl with | [_,_],_=>rfl,
    f_Layout_init:=f_Layout_init,
    fd_Layout_init:=PySem.W.fnOf "__init__" "Layout.__init__" (defArgs s_Layout_init) (defBody s_Layout_init) (defScope s_Layout_init) .none kV_Layout_init dc_Layout_init pm_Layout_init an_Layout_init cd_Layout_init ct_Layout_init,
    F_Layout_init:=fun_mk (st:=s_Layout_init) l_Layout_init c_Layout_init k_Layout_init,
    b_Layout_init:=(fun_mk (st:=s_Layout_init) l_Layout_init c_Layout_init k_Layout_init).binds (ps:=["self","files","slots","data"]) fun _ _ _ _ _ _ us hl=>match us,hl with | [_,_,_,_],_=>rfl,
    mk_Layout:=⟨mk_Layout,a_Layout_init,i_Layout_init,kc_Layout⟩,
    f_Layout_many:=f_Layout_many,
    fd_Layout_many:=PySem.W.fnOf "many" "Layout.many" (defArgs s_Layout_many) (defBody s_Layout_many) (defScope s_Layout_many) .none kV_Layout_many dc_Layout_many pm_Layout_many an_Layout_many cd_Layout_many ct_Layout_many,
    F_Layout_many:=fun_mk (st:=s_Layout_many) l_Layout_many c_Layout_many k_Layout_many,
    b_Layout_many:=(fun_mk (st:=s_Layout_many) l_Layout_many c_Layout_many k_Layout_many).binds (ps:=["self"]) fun _ _ _ _ _ _ us hl=>match us,hl with | [_],_=>rfl,
    m_Layout_many:=⟨a_Layout_many,i_Layout_many,k_Layout_many⟩,
    f_Layout_record_at:=f_Layout_record_at,
    fd_Layout_record_at:=PySem.W.fnOf "record_at" "Layout.record_at" (defArgs s_Layout_record_at) (defBody s_Layout_record_at) (defScope s_Layout_record_at) .none kV_Layout_record_at dc_Layout_record_at pm_Layout_record_at an_Layout_record_at cd_Layout_record_at ct_Layout_record_at,
    F_Layout_record_at:=fun_mk (st:=s_Layout_record_at) l_Layout_record_at c_Layout_record_at k_Layout_record_at,
    b_Layout_record_at:=(fun_mk (st:=s_Layout_record_at) l_Layout_record_at c_Layout_record_at k_Layout_record_at).binds (ps:=["self","f"]) fun _ _ _ _ _ _ us hl=>match us,hl with | [_,_],_=>rfl,
    m_Layout_record_at:=⟨a_Layout_record_at,i_Layout_record_at,k_Layout_record_at⟩,
    f_Layout_names_at:=f_Layout_names_at,
    fd_Layout_names_at:=PySem.W.fnOf "names_at" "Layout.names_at" (defArgs s_Layout_names_at) (defBody s_Layout_names_at) (defScope s_Layout_names_at) .none kV_Layout_names_at dc_Layout_names_at pm_Layout_names_at an_Layout_names_at cd_Layout_names_at ct_Layout_names_at,
    F_Layout_names_at:=fun_mk (st:=s_Layout_names_at) l_Layout_names_at c_Layout_names_at k_Layout_names_at,
    b_Layout_names_at:=(fun_mk (st:=s_Layout_names_at) l_Layout_names_at c_Layout_names_at k_Layout_names_at).binds (ps:=["self","e"]) fun _ _ _ _ _ _ us hl=>match us,hl with | [_,_],_=>rfl,
    m_Layout_names_at:=⟨a_Layout_names_at,i_Layout_names_at,k_Layout_names_at⟩,
    f_Layout_data_at:=f_Layout_data_at,
    fd_Layout_data_at:=PySem.W.fnOf "data_at" "Layout.data_at" (defArgs s_Layout_data_at) (defBody s_Layout_data_at) (defScope s_Layout_data_at) .none kV_Layout_data_at dc_Layout_data_at pm_Layout_data_at an_Layout_data_at cd_Layout_data_at ct_Layout_data_at,
    F_Layout_data_at:=fun_mk (st:=s_Layout_data_at) l_Layout_data_at c_Layout_data_at k_Layout_data_at,
    b_Layout_data_at:=(fun_mk (st:=s_Layout_data_at) l_Layout_data_at c_Layout_data_at k_Layout_data_at).binds (ps:=["self","i"]) fun _ _ _ _ _ _ us hl=>match us,hl with | [_,_],_=>rfl,
    m_Layout_data_at:=⟨a_Layout_data_at,i_Layout_data_at,k_Layout_data_at⟩,
    f_is_written:=f_is_written,
    fd_is_written:=PySem.W.fnOf "is_written" "is_written" (defArgs s_is_written) (defBody s_is_written) (defScope s_is_written) .none kV_is_written dc_is_written pm_is_written an_is_written cd_is_written ct_is_written,
    F_is_written:=fun_mk (st:=s_is_written) l_is_written c_is_written k_is_written,
    b_is_written:=(fun_mk (st:=s_is_written) l_is_written c_is_written k_is_written).binds (ps:=["word"]) fun _ _ _ _ _ _ us hl=>match us,hl with | [_],_=>rfl,
    g_is_written:=PySem.W.mg_of X G a_is_written,
    f_numbers_of:=f_numbers_of,
    fd_numbers_of:=PySem.W.fnOf "numbers_of" "numbers_of" (defArgs s_numbers_of) (defBody s_numbers_of) (defScope s_numbers_of) .none kV_numbers_of dc_numbers_of pm_numbers_of an_numbers_of cd_numbers_of ct_numbers_of,
    F_numbers_of:=fun_mk (st:=s_numbers_of) l_numbers_of c_numbers_of k_numbers_of,
    b_numbers_of:=(fun_mk (st:=s_numbers_of) l_numbers_of c_numbers_of k_numbers_of).binds (ps:=["words","many"]) fun _ _ _ _ _ _ us hl=>match us,hl with | [_,_],_=>rfl,
    g_numbers_of:=PySem.W.mg_of X G a_numbers_of,
    f_read_layout:=f_read_layout,
    fd_read_layout:=PySem.W.fnOf "read_layout" "read_layout" (defArgs s_read_layout) (defBody s_read_layout) (defScope s_read_layout) .none kV_read_layout dc_read_layout pm_read_layout an_read_layout cd_read_layout ct_read_layout,
    F_read_layout:=fun_mk (st:=s_read_layout) l_read_layout c_read_layout k_read_layout,
    b_read_layout:=(fun_mk (st:=s_read_layout) l_read_layout c_read_layout k_read_layout).binds (ps:=["row"]) fun _ _ _ _ _ _ us hl=>match us,hl with | [_],_=>rfl,
    g_read_layout:=PySem.W.mg_of X G a_read_layout,
    f_read_rows:=f_read_rows,
    fd_read_rows:=PySem.W.fnOf "read_rows" "read_rows" (defArgs s_read_rows) (defBody s_read_rows) (defScope s_read_rows) .none kV_read_rows dc_read_rows pm_read_rows an_read_rows cd_read_rows ct_read_rows,
    F_read_rows:=fun_mk (st:=s_read_rows) l_read_rows c_read_rows k_read_rows,
    b_read_rows:=(fun_mk (st:=s_read_rows) l_read_rows c_read_rows k_read_rows).binds (ps:=["rows"]) fun _ _ _ _ _ _ us hl=>match us,hl with | [_],_=>rfl,
    g_read_rows:=PySem.W.mg_of X G a_read_rows,
    f_read_volume:=f_read_volume,
    fd_read_volume:=PySem.W.fnOf "read_volume" "read_volume" (defArgs s_read_volume) (defBody s_read_volume) (defScope s_read_volume) .none kV_read_volume dc_read_volume pm_read_volume an_read_volume cd_read_volume ct_read_volume,
    F_read_volume:=fun_mk (st:=s_read_volume) l_read_volume c_read_volume k_read_volume,
    b_read_volume:=(fun_mk (st:=s_read_volume) l_read_volume c_read_volume k_read_volume).binds (ps:=["text"]) fun _ _ _ _ _ _ us hl=>match us,hl with | [_],_=>rfl,
    g_read_volume:=PySem.W.mg_of X G a_read_volume,
    f_l_cell:=f_l_cell,
    fd_l_cell:=PySem.W.fnOf "_law_cell" "_law_cell" (defArgs s_l_cell) (defBody s_l_cell) (defScope s_l_cell) .none kV_l_cell dc_l_cell pm_l_cell an_l_cell cd_l_cell ct_l_cell,
    F_l_cell:=fun_mk (st:=s_l_cell) l_l_cell c_l_cell k_l_cell,
    b_l_cell:=(fun_mk (st:=s_l_cell) l_l_cell c_l_cell k_l_cell).binds (ps:=["_law_script","_law_k"]) fun _ _ _ _ _ _ us hl=>match us,hl with | [_,_],_=>rfl,
    g_l_cell:=PySem.W.mg_of X G a_l_cell,
    f_l_mixed:=f_l_mixed,
    fd_l_mixed:=PySem.W.fnOf "_law_mixed" "_law_mixed" (defArgs s_l_mixed) (defBody s_l_mixed) (defScope s_l_mixed) .none kV_l_mixed dc_l_mixed pm_l_mixed an_l_mixed cd_l_mixed ct_l_mixed,
    F_l_mixed:=fun_mk (st:=s_l_mixed) l_l_mixed c_l_mixed k_l_mixed,
    b_l_mixed:=(fun_mk (st:=s_l_mixed) l_l_mixed c_l_mixed k_l_mixed).binds (ps:=["_law_cell_here","_law_k"]) fun _ _ _ _ _ _ us hl=>match us,hl with | [_,_],_=>rfl,
    g_l_mixed:=PySem.W.mg_of X G a_l_mixed,
    f_l_number:=f_l_number,
    fd_l_number:=PySem.W.fnOf "_law_number" "_law_number" (defArgs s_l_number) (defBody s_l_number) (defScope s_l_number) .none kV_l_number dc_l_number pm_l_number an_l_number cd_l_number ct_l_number,
    F_l_number:=fun_mk (st:=s_l_number) l_l_number c_l_number k_l_number,
    b_l_number:=(fun_mk (st:=s_l_number) l_l_number c_l_number k_l_number).binds (ps:=["_law_cell_here","_law_k"]) fun _ _ _ _ _ _ us hl=>match us,hl with | [_,_],_=>rfl,
    g_l_number:=PySem.W.mg_of X G a_l_number,
    f_l_any:=f_l_any,
    fd_l_any:=PySem.W.fnOf "_law_any" "_law_any" (defArgs s_l_any) (defBody s_l_any) (defScope s_l_any) .none kV_l_any dc_l_any pm_l_any an_l_any cd_l_any ct_l_any,
    F_l_any:=fun_mk (st:=s_l_any) l_l_any c_l_any k_l_any,
    b_l_any:=(fun_mk (st:=s_l_any) l_l_any c_l_any k_l_any).binds (ps:=["_law_layout","_law_cell_here"]) fun _ _ _ _ _ _ us hl=>match us,hl with | [_,_],_=>rfl,
    g_l_any:=PySem.W.mg_of X G a_l_any,
    f_l_rows:=f_l_rows,
    fd_l_rows:=PySem.W.fnOf "_law_rows" "_law_rows" (defArgs s_l_rows) (defBody s_l_rows) (defScope s_l_rows) .none kV_l_rows dc_l_rows pm_l_rows an_l_rows cd_l_rows ct_l_rows,
    F_l_rows:=fun_mk (st:=s_l_rows) l_l_rows c_l_rows k_l_rows,
    b_l_rows:=(fun_mk (st:=s_l_rows) l_l_rows c_l_rows k_l_rows).binds (ps:=["_law_script"]) fun _ _ _ _ _ _ us hl=>match us,hl with | [_],_=>rfl,
    g_l_rows:=PySem.W.mg_of X G a_l_rows,
    f_l_signs:=f_l_signs,
    fd_l_signs:=PySem.W.fnOf "_law_signs" "_law_signs" (defArgs s_l_signs) (defBody s_l_signs) (defScope s_l_signs) .none kV_l_signs dc_l_signs pm_l_signs an_l_signs cd_l_signs ct_l_signs,
    F_l_signs:=fun_mk (st:=s_l_signs) l_l_signs c_l_signs k_l_signs,
    b_l_signs:=(fun_mk (st:=s_l_signs) l_l_signs c_l_signs k_l_signs).binds (ps:=["_law_row","_law_cell_here"]) fun _ _ _ _ _ _ us hl=>match us,hl with | [_,_],_=>rfl,
    g_l_signs:=PySem.W.mg_of X G a_l_signs,
    f_l_word:=f_l_word,
    fd_l_word:=PySem.W.fnOf "_law_word" "_law_word" (defArgs s_l_word) (defBody s_l_word) (defScope s_l_word) .none kV_l_word dc_l_word pm_l_word an_l_word cd_l_word ct_l_word,
    F_l_word:=fun_mk (st:=s_l_word) l_l_word c_l_word k_l_word,
    b_l_word:=(fun_mk (st:=s_l_word) l_l_word c_l_word k_l_word).binds (ps:=["_law_row","_law_cell_here"]) fun _ _ _ _ _ _ us hl=>match us,hl with | [_,_],_=>rfl,
    g_l_word:=PySem.W.mg_of X G a_l_word,
    f_l_head:=f_l_head,
    fd_l_head:=PySem.W.fnOf "_law_head" "_law_head" (defArgs s_l_head) (defBody s_l_head) (defScope s_l_head) .none kV_l_head dc_l_head pm_l_head an_l_head cd_l_head ct_l_head,
    F_l_head:=fun_mk (st:=s_l_head) l_l_head c_l_head k_l_head,
    b_l_head:=(fun_mk (st:=s_l_head) l_l_head c_l_head k_l_head).binds (ps:=["_law_cell_here"]) fun _ _ _ _ _ _ us hl=>match us,hl with | [_],_=>rfl,
    g_l_head:=PySem.W.mg_of X G a_l_head,
    f_l_spoiled:=f_l_spoiled,
    fd_l_spoiled:=PySem.W.fnOf "_law_spoiled" "_law_spoiled" (defArgs s_l_spoiled) (defBody s_l_spoiled) (defScope s_l_spoiled) .none kV_l_spoiled dc_l_spoiled pm_l_spoiled an_l_spoiled cd_l_spoiled ct_l_spoiled,
    F_l_spoiled:=fun_mk (st:=s_l_spoiled) l_l_spoiled c_l_spoiled k_l_spoiled,
    b_l_spoiled:=(fun_mk (st:=s_l_spoiled) l_l_spoiled c_l_spoiled k_l_spoiled).binds (ps:=["_law_rows_here","_law_cell_here"]) fun _ _ _ _ _ _ us hl=>match us,hl with | [_,_],_=>rfl,
    g_l_spoiled:=PySem.W.mg_of X G a_l_spoiled,
    f_l_is_number:=f_l_is_number,
    fd_l_is_number:=PySem.W.fnOf "_law_is_number" "_law_is_number" (defArgs s_l_is_number) (defBody s_l_is_number) (defScope s_l_is_number) .none kV_l_is_number dc_l_is_number pm_l_is_number an_l_is_number cd_l_is_number ct_l_is_number,
    F_l_is_number:=fun_mk (st:=s_l_is_number) l_l_is_number c_l_is_number k_l_is_number,
    b_l_is_number:=(fun_mk (st:=s_l_is_number) l_l_is_number c_l_is_number k_l_is_number).binds (ps:=["_law_word_here"]) fun _ _ _ _ _ _ us hl=>match us,hl with | [_],_=>rfl,
    g_l_is_number:=PySem.W.mg_of X G a_l_is_number,
    f_l_sizes:=f_l_sizes,
    fd_l_sizes:=PySem.W.fnOf "_law_sizes" "_law_sizes" (defArgs s_l_sizes) (defBody s_l_sizes) (defScope s_l_sizes) .none kV_l_sizes dc_l_sizes pm_l_sizes an_l_sizes cd_l_sizes ct_l_sizes,
    F_l_sizes:=fun_mk (st:=s_l_sizes) l_l_sizes c_l_sizes k_l_sizes,
    b_l_sizes:=(fun_mk (st:=s_l_sizes) l_l_sizes c_l_sizes k_l_sizes).binds (ps:=["_law_row"]) fun _ _ _ _ _ _ us hl=>match us,hl with | [_],_=>rfl,
    g_l_sizes:=PySem.W.mg_of X G a_l_sizes,
    f_l_due:=f_l_due,
    fd_l_due:=PySem.W.fnOf "_law_due" "_law_due" (defArgs s_l_due) (defBody s_l_due) (defScope s_l_due) .none kV_l_due dc_l_due pm_l_due an_l_due cd_l_due ct_l_due,
    F_l_due:=fun_mk (st:=s_l_due) l_l_due c_l_due k_l_due,
    b_l_due:=(fun_mk (st:=s_l_due) l_l_due c_l_due k_l_due).binds (ps:=["_law_text_here"]) fun _ _ _ _ _ _ us hl=>match us,hl with | [_],_=>rfl,
    g_l_due:=PySem.W.mg_of X G a_l_due,
    f_l_text:=f_l_text,
    fd_l_text:=PySem.W.fnOf "_law_text" "_law_text" (defArgs s_l_text) (defBody s_l_text) (defScope s_l_text) .none kV_l_text dc_l_text pm_l_text an_l_text cd_l_text ct_l_text,
    F_l_text:=fun_mk (st:=s_l_text) l_l_text c_l_text k_l_text,
    b_l_text:=(fun_mk (st:=s_l_text) l_l_text c_l_text k_l_text).binds (ps:=["_law_layout","_law_volume"]) fun _ _ _ _ _ _ us hl=>match us,hl with | [_,_],_=>rfl,
    g_l_text:=PySem.W.mg_of X G a_l_text,
    f_l_right:=f_l_right,
    fd_l_right:=PySem.W.fnOf "_law_right" "_law_right" (defArgs s_l_right) (defBody s_l_right) (defScope s_l_right) .none kV_l_right dc_l_right pm_l_right an_l_right cd_l_right ct_l_right,
    F_l_right:=fun_mk (st:=s_l_right) l_l_right c_l_right k_l_right,
    b_l_right:=(fun_mk (st:=s_l_right) l_l_right c_l_right k_l_right).binds (ps:=["_law_text_here"]) fun _ _ _ _ _ _ us hl=>match us,hl with | [_],_=>rfl,
    g_l_right:=PySem.W.mg_of X G a_l_right,
    f_law:=f_law,
    fd_law:=PySem.W.fnOf "law" "law" (defArgs s_law) (defBody s_law) (defScope s_law) .none kV_law dc_law pm_law an_law cd_law ct_law,
    F_law:=fun_mk (st:=s_law) l_law c_law k_law,
    b_law:=(fun_mk (st:=s_law) l_law c_law k_law).binds (ps:=["_law_script"]) fun _ _ _ _ _ _ us hl=>match us,hl with | [_],_=>rfl,
    g_law:=PySem.W.mg_of X G a_law,
    t_WIDE:=t_WIDE,
    g_WIDE:=PySem.W.mg_of X G a_WIDE,
    t_RECORDS_AT:=t_RECORDS_AT,
    g_RECORDS_AT:=PySem.W.mg_of X G a_RECORDS_AT,
    t_LONGEST:=t_LONGEST,
    g_LONGEST:=PySem.W.mg_of X G a_LONGEST,
    t_WORD:=t_WORD,
    g_WORD:=PySem.W.mg_of X G a_WORD,
    t_FIGURES:=t_FIGURES,
    g_FIGURES:=PySem.W.mg_of X G a_FIGURES,
    xn_NoText:=⟨⟨_,_,_,_,_,_,_,_,_,_,_,_,_,_,_,_,lC_NoText,no_NoText,ni_NoText,tl_NoText⟩,i_NoText_init⟩,
    xs_NoText:=ExS.of lC_NoText em_NoText eh_NoText sa_NoText,
    xh_NoText:=xh_NoText,
    n_NoText_at:=n_NoText_at,
    ex_NoLayout:=ex_NoLayout,
    xt_NoText:=⟨xt_ga_NoText,xt_gt_NoText,cls_some xt_mO_NoText,xt_ha_NoText,xt_hn_NoText,xt_tk_NoText,xt_mO_NoText,xt_mB_NoText⟩,
    o_Layout:=fa_o_Layout,
    k11:=fa_k11,
    ha_Layout:=fa_ha_Layout,
    hn_class:=fa_hn_class,
    tk_class:=fa_tk_class,
    k_match:=fa_k_match,
    k_match2:=fa_k_match2,
    k_self:=fa_k_self,
    k_none:=fa_k_none,
    v_reads:=fa_v_reads,
    v_init:=fa_v_init,
    v_ga:=fa_v_ga,
    z_len:=PySem.W.mg_none_of X G z_len,
    z_range:=PySem.W.mg_none_of X G z_range,
    z_isinstance:=PySem.W.mg_none_of X G z_isinstance,
    z_list:=PySem.W.mg_none_of X G z_list,
    z_tuple:=PySem.W.mg_none_of X G z_tuple,
    z_bool:=PySem.W.mg_none_of X G z_bool,
    z_str:=PySem.W.mg_none_of X G z_str,
    z_int:=PySem.W.mg_none_of X G z_int,
    z_all:=PySem.W.mg_none_of X G z_all,
    z_enumerate:=PySem.W.mg_none_of X G z_enumerate,
    z_min:=PySem.W.mg_none_of X G z_min }
  exact ⟨T.fd_law,fun s v=>.of_eq rfl,fun base _ _=>ok_law T⟩
theorem walk {l:PySem.W.OpenLaw}{q:Program}{loose:List Str}{XP:(Str→Option Value)→Heap→Prop}{YP:World→Heap→Prop}{d:DefRec}{K:Params→PySem.W.Frag}(hn:l.most=some 63) (hdf:d.params.defaults=[])
    (hY:∀ (w:World) (h:Heap),YP w h→(K w.params).In h)
    (F:∀ (w:World) (mg:Str→Option Value) (fa:Addr) (h:Heap),(K w.params).In h→h.Ns mainGlobals mg→mg d.name=some (.ref fa) →
      ∃ fd:FuncData,(∀ (s:Shared) (u:Value),BindsTo s fd ⟨[u],[]⟩ [("_law_script",u)])∧∀ base:Heap,(K w.params).In base→base.Ns mainGlobals mg→FnOk l.prog w (K w.params) mg base CX0 10 fa fd ["_law_script"] (spLaw (K w.params))) :
    PySem.W.WalkO q loose XP YP l.row.toRowW d [] (fun f vs=>PySem.call f vs) :=
  L2.walk_of (n:=63) (k:=10) (x:="_law_script") (CX:=fun _=>CX0) (sp:=fun w=>spLaw (K w.params)) hn (by decide) hdf ⟨rfl,by decide,by decide⟩ hY F (fun _ _ a ns hl _ hS=>⟨a,ns,rfl,hS,hl,fun _=>rfl⟩) fun _ _ _ _ _ z=>z
end K05
namespace PySem.W.Fast
theorem tw16696651391992915160:True:=trivial
theorem tw11968355667030900325:True:=trivial
theorem tw7487969464461812116:True:=trivial
theorem tw3797966406740139263:True:=trivial
theorem tw10748111214704968977:True:=trivial
theorem tw15930998696928707028:True:=trivial
theorem tw1781927027614312764:True:=trivial
theorem tw2462640805909956428:True:=trivial
theorem tw9638019315036215159:True:=trivial
theorem tw12706624158205123296:True:=trivial
theorem tw15099136001660924292:True:=trivial
theorem tw15379986228527113018:True:=trivial
theorem tw8774834333141005002:True:=trivial
theorem tw14938827921900187115:True:=trivial
theorem tw3247780259416447432:True:=trivial
theorem tw9538309740458713865:True:=trivial
theorem tw15766573768312301867:True:=trivial
theorem tw12326434664008301730:True:=trivial
theorem tw11364705767075103430:True:=trivial
theorem tw1401941926181183903:True:=trivial
theorem tw17613874361195900186:True:=trivial
theorem tw15105520227669858660:True:=trivial
theorem tw8074987068820391439:True:=trivial
theorem tw5607869538755167604:True:=trivial
theorem tw15343991797020363366:True:=trivial
theorem tw4600334880187229999:True:=trivial
theorem tw13183921905400462845:True:=trivial
theorem tw16349514806061962189:True:=trivial
theorem tw11687371830511506326:True:=trivial
theorem tw7820725793483074265:True:=trivial
theorem tw12347930391106986436:True:=trivial
theorem tw8660075893377171512:True:=trivial
theorem tw18080742459615444843:True:=trivial
theorem tw2056465795425246793:True:=trivial
theorem tw10298076240026074819:True:=trivial
theorem tw9534406860185708870:True:=trivial
theorem tw9164037457224604047:True:=trivial
theorem tw8849557940368754172:True:=trivial
theorem tw18157383388133144491:True:=trivial
theorem tw1032283565203245837:True:=trivial
theorem tw4530000457529731723:True:=trivial
theorem tw4713877002735414016:True:=trivial
theorem tw15501441972105012996:True:=trivial
theorem tw15463613123540324332:True:=trivial
theorem tw7277070860523216604:True:=trivial
theorem tw10414236216061554452:True:=trivial
theorem tw13080477636063402156:True:=trivial
theorem tw1516633902780109164:True:=trivial
theorem tw16913771155779586735:True:=trivial
theorem tw13950628691836150985:True:=trivial
theorem tw7359340798223346730:True:=trivial
theorem tw7058672852702501778:True:=trivial
theorem tw7789101010176103742:True:=trivial
theorem tw9926524235006408164:True:=trivial
theorem tw7063720031514232369:True:=trivial
theorem tw6587366338905846396:True:=trivial
theorem tw4129993893032313621:True:=trivial
theorem tw6541662000780310196:True:=trivial
theorem tw9531186755987106877:True:=trivial
theorem tw8939083867710506980:True:=trivial
theorem tw8222252642723364419:True:=trivial
theorem tw8040319247185693583:True:=trivial
theorem tw3314309865404170455:True:=trivial
theorem tw4539023708569738521:True:=trivial
theorem tw4651103857028566423:True:=trivial
theorem tw7302869158995707677:True:=trivial
theorem tw16541824737502664620:True:=trivial
theorem tw1993404265608270838:True:=trivial
theorem tw13747642195745274042:True:=trivial
theorem tw2287053502249338434:True:=trivial
theorem tw4545611173292238003:True:=trivial
theorem tw12568391051004900936:True:=trivial
theorem tw4960584296462238214:True:=trivial
theorem tw6432126763195814672:True:=trivial
theorem tw18123823569692879175:True:=trivial
theorem tw31579765058020622:True:=trivial
theorem tw17330410628578706449:True:=trivial
theorem tw14497087590340109852:True:=trivial
theorem tw834022641277658723:True:=trivial
theorem tw17907358900494932731:True:=trivial
theorem tw10033418899800774165:True:=trivial
theorem tw13919984219598387402:True:=trivial
theorem tw6951658630199215688:True:=trivial
theorem tw12220236736759045560:True:=trivial
theorem tw8286706074705784051:True:=trivial
theorem tw14090050858463602283:True:=trivial
theorem tw2337560279843083016:True:=trivial
theorem tw5786888333578621963:True:=trivial
theorem tw1596528156000796261:True:=trivial
theorem tw16009178238486673822:True:=trivial
theorem tw14511922749401583038:True:=trivial
theorem tw10993993467405910946:True:=trivial
theorem tw12930441464154471997:True:=trivial
theorem tw16503254973914584450:True:=trivial
theorem tw8637047799489992222:True:=trivial
theorem tw4799157791018672032:True:=trivial
theorem tw6547620840634883611:True:=trivial
theorem tw15931692135059805637:True:=trivial
theorem tw14015927802238756011:True:=trivial
theorem tw5950765359945404087:True:=trivial
theorem tw10537395065327624690:True:=trivial
theorem tw2352402883715309563:True:=trivial
theorem tw14187652168633541661:True:=trivial
theorem tw29137286814328535:True:=trivial
theorem tw2808718455010963202:True:=trivial
theorem tw16007783141534117917:True:=trivial
theorem tw10821880458495110333:True:=trivial
theorem tw13128578577560009854:True:=trivial
theorem tw8926188885750704672:True:=trivial
theorem tw16048362818150547887:True:=trivial
theorem tw4472432123976022512:True:=trivial
theorem tw5420429137769694519:True:=trivial
theorem tw9648384398947735613:True:=trivial
theorem tw6891420280257627564:True:=trivial
theorem tw15009993877181424053:True:=trivial
theorem tw3306059004664185328:True:=trivial
theorem tw15433171410821175672:True:=trivial
theorem tw15346997400778987404:True:=trivial
theorem tw7511591714473935970:True:=trivial
theorem tw5433330178712151780:True:=trivial
theorem tw7033288405304208108:True:=trivial
theorem tw7148067241738156732:True:=trivial
theorem tw7326839001527508023:True:=trivial
theorem tw4479236872412651526:True:=trivial
theorem tw13357107352360144885:True:=trivial
theorem tw12102517384190611737:True:=trivial
theorem tw18304353504901359902:True:=trivial
theorem tw4012376536719401205:True:=trivial
theorem tw222815765844906621:True:=trivial
theorem tw5510709665320559940:True:=trivial
theorem tw8172957251369253755:True:=trivial
theorem tw12439223551996647390:True:=trivial
theorem tw10335464429048419064:True:=trivial
theorem tw2846144034935742588:True:=trivial
theorem tw941007129798159803:True:=trivial
theorem tw3492623448430734192:True:=trivial
theorem tw12283685068819525272:True:=trivial
theorem tw18423116118419022211:True:=trivial
theorem tw5673749081650566248:True:=trivial
theorem tw11414125101110450435:True:=trivial
theorem tw13387758461879900610:True:=trivial
theorem tw2539685835179266135:True:=trivial
theorem tw14672599544340257510:True:=trivial
theorem tw8909557024275465631:True:=trivial
theorem tw12306500669843308317:True:=trivial
theorem tw4828811320024891371:True:=trivial
theorem tw1717530970673002291:True:=trivial
theorem tw8537286311480789553:True:=trivial
theorem tw9524157254426403377:True:=trivial
theorem tw10582184610809058709:True:=trivial
theorem tw3732656156988013073:True:=trivial
theorem tw9096947178435091468:True:=trivial
theorem tw15952284199955519602:True:=trivial
theorem tw303786486304909595:True:=trivial
theorem tw6755894547052916139:True:=trivial
theorem tw9318545434287309772:True:=trivial
theorem tw4283770636781432690:True:=trivial
theorem tw10452879054500365235:True:=trivial
theorem tw5346359386680437697:True:=trivial
theorem tw13181476165242925029:True:=trivial
theorem tw2460020911470886909:True:=trivial
theorem tw6527707569014861916:True:=trivial
theorem tw18345032281407546991:True:=trivial
theorem tw3550893398051693599:True:=trivial
theorem tw1451222498973293885:True:=trivial
theorem tw15663592256652283712:True:=trivial
theorem tw837497162950600669:True:=trivial
theorem tw772127607660646816:True:=trivial
theorem tw5136833556042424477:True:=trivial
theorem tw12960117492812193018:True:=trivial
theorem tw12653562695951570301:True:=trivial
theorem tw15076139858889665380:True:=trivial
theorem tw3565100859480345772:True:=trivial
theorem tw6298034497635898528:True:=trivial
theorem tw16547518130522154172:True:=trivial
theorem tw12851104245645460954:True:=trivial
theorem tw8153303292627396133:True:=trivial
theorem tw3689989424031034816:True:=trivial
theorem tw3241444370387273572:True:=trivial
theorem tw332784761527564889:True:=trivial
theorem tw11358432684572466165:True:=trivial
theorem tw16427034046407788008:True:=trivial
theorem tw17154524144026639519:True:=trivial
theorem tw16229981502599948148:True:=trivial
theorem tw1071928868444712181:True:=trivial
theorem tw7959272078284566032:True:=trivial
theorem tw7574497689494309858:True:=trivial
theorem tw6648641055435021739:True:=trivial
theorem tw17021456000399949861:True:=trivial
theorem tw6554095592548912437:True:=trivial
theorem tw10924854200446903093:True:=trivial
theorem tw4339662931636616339:True:=trivial
theorem tw8042925648915280161:True:=trivial
theorem tw12720439002480869056:True:=trivial
theorem tw10235661129235931737:True:=trivial
theorem tw4117472575923131176:True:=trivial
theorem tw7939312234015326118:True:=trivial
theorem tw7659378832082052273:True:=trivial
theorem tw12671424878274406632:True:=trivial
theorem tw11967362979541033195:True:=trivial
theorem tw11052749887297217555:True:=trivial
theorem tw7743009008429184136:True:=trivial
theorem tw3019188078037471695:True:=trivial
theorem tw3650638454165444293:True:=trivial
theorem tw9126155458306230550:True:=trivial
theorem tw1087456544303800058:True:=trivial
theorem tw1046914199009632465:True:=trivial
theorem tw10097240449209049646:True:=trivial
theorem tw7891719645808152174:True:=trivial
theorem tw2203774706058832118:True:=trivial
theorem tw17804600465949181275:True:=trivial
theorem tw1936707019360741782:True:=trivial
theorem tw6402024669031631966:True:=trivial
theorem tw12883673930789242531:True:=trivial
theorem tw15674625407196733010:True:=trivial
theorem tw17158438851708137648:True:=trivial
theorem tw721825194227867974:True:=trivial
theorem tw9294312696520530535:True:=trivial
theorem tw11415456976422417789:True:=trivial
theorem tw15591629833631764734:True:=trivial
theorem tw12510348409246047227:True:=trivial
theorem tw10449144657491240672:True:=trivial
theorem tw10667531854343979201:True:=trivial
theorem tw4952390763891133528:True:=trivial
theorem tw18432798839911988572:True:=trivial
theorem tw10775197137135125815:True:=trivial
theorem tw6885082966564341126:True:=trivial
theorem tw1328765720158130930:True:=trivial
theorem tw5576841815417807204:True:=trivial
theorem tw16363324070874998292:True:=trivial
theorem tw5272348906922240005:True:=trivial
theorem tw16727668087099652744:True:=trivial
theorem tw9052433229053471558:True:=trivial
theorem tw15871623423293965099:True:=trivial
theorem tw13908195733038183871:True:=trivial
theorem tw13881969348390620858:True:=trivial
theorem tw2982241902836485489:True:=trivial
theorem tw3697658693234459171:True:=trivial
theorem tw3116675257944862528:True:=trivial
theorem tw14207488618773933615:True:=trivial
theorem tw16238129340501748411:True:=trivial
theorem tw8648016312115678395:True:=trivial
theorem tw16014558632386491458:True:=trivial
theorem tw11218182304874889009:True:=trivial
theorem tw17030747234373978552:True:=trivial
theorem tw1528740950488271654:True:=trivial
theorem tw9330892780581884118:True:=trivial
theorem tw9542446266904272018:True:=trivial
theorem tw12833208313856832209:True:=trivial
theorem tw8529636828315617675:True:=trivial
theorem tw240579416427696335:True:=trivial
theorem tw17218521197838841805:True:=trivial
theorem tw523566495532914127:True:=trivial
theorem tw10974418332708679971:True:=trivial
theorem tw14205904621680170353:True:=trivial
theorem tw13645976316353971563:True:=trivial
theorem tw1516563514228387124:True:=trivial
theorem tw12467441750346884973:True:=trivial
theorem tw6849887894377428154:True:=trivial
theorem tw3881387051921113308:True:=trivial
theorem tw9412476231682315325:True:=trivial
theorem tw4285513185154228291:True:=trivial
theorem tw12204328462598604999:True:=trivial
theorem tw6538160306367787636:True:=trivial
theorem tw10273125812500923329:True:=trivial
theorem tw9283829063869697639:True:=trivial
theorem tw16533387189199272255:True:=trivial
theorem tw1710942116158017973:True:=trivial
theorem tw8070895227312075037:True:=trivial
theorem tw13197949027832615988:True:=trivial
theorem tw13678452618540426026:True:=trivial
theorem tw15132776734965049359:True:=trivial
theorem tw11949557743993813000:True:=trivial
theorem tw13841425577986445918:True:=trivial
theorem tw308964421519699225:True:=trivial
theorem tw13041901816121324232:True:=trivial
theorem tw6508523478545178968:True:=trivial
theorem tw13930309681189528441:True:=trivial
theorem tw3102156499709706113:True:=trivial
theorem tw1152629130337584279:True:=trivial
theorem tw13603978793886551502:True:=trivial
theorem tw18224854164061746149:True:=trivial
theorem tw14289746881863623046:True:=trivial
theorem tw5656109215512645500:True:=trivial
theorem tw12031897255323264998:True:=trivial
end PySem.W.Fast
open PySem PySem.W PyProof.Rows
set_option maxRecDepth 100000 in
set_option maxHeartbeats 0 in
theorem PySem.Challenge.cw_volumemend_k05_no_text_holds : PySem.Challenge.rw_volumemend_k05_no_text.Holds := by
  w_on; o_law; k_head; (case hw => w_witness2)
  k_fill
  refine K05.walk (l := PySem.Challenge.rw_volumemend_k05_no_text) rfl rfl (fun w h Y => PySem.W.kIn_of Y) ?F
  case F =>
    intro w mg fa h KX G hmg
    refine' K05.all_mk KX G hmg ?aC_Layout ?pg_Layout ?hd_Layout ?po_Layout ?sa_Layout ?n_Layout_files ?n_Layout_slots ?n_Layout_data ?aC_VolumeError ?aC_NoLayout ?aC_NoVolume ?aC_NoText ?aC_NoPath ?aC_TooFar ?a_NoText_init ?i_NoText_init ?l_NoText_init ?c_NoText_init ?k_NoText_init ?a_Layout_init ?i_Layout_init ?l_Layout_init ?c_Layout_init ?k_Layout_init ?mk_Layout ?kc_Layout ?a_Layout_many ?i_Layout_many ?l_Layout_many ?c_Layout_many ?k_Layout_many ?a_Layout_record_at ?i_Layout_record_at ?l_Layout_record_at ?c_Layout_record_at ?k_Layout_record_at ?a_Layout_names_at ?i_Layout_names_at ?l_Layout_names_at ?c_Layout_names_at ?k_Layout_names_at ?a_Layout_data_at ?i_Layout_data_at ?l_Layout_data_at ?c_Layout_data_at ?k_Layout_data_at ?a_is_written ?l_is_written ?c_is_written ?k_is_written ?a_numbers_of ?l_numbers_of ?c_numbers_of ?k_numbers_of ?a_read_layout ?l_read_layout ?c_read_layout ?k_read_layout ?a_read_rows ?l_read_rows ?c_read_rows ?k_read_rows ?a_read_volume ?l_read_volume ?c_read_volume ?k_read_volume ?a_l_cell ?l_l_cell ?c_l_cell ?k_l_cell ?a_l_mixed ?l_l_mixed ?c_l_mixed ?k_l_mixed ?a_l_number ?l_l_number ?c_l_number ?k_l_number ?a_l_any ?l_l_any ?c_l_any ?k_l_any ?a_l_rows ?l_l_rows ?c_l_rows ?k_l_rows ?a_l_signs ?l_l_signs ?c_l_signs ?k_l_signs ?a_l_word ?l_l_word ?c_l_word ?k_l_word ?a_l_head ?l_l_head ?c_l_head ?k_l_head ?a_l_spoiled ?l_l_spoiled ?c_l_spoiled ?k_l_spoiled ?a_l_is_number ?l_l_is_number ?c_l_is_number ?k_l_is_number ?a_l_sizes ?l_l_sizes ?c_l_sizes ?k_l_sizes ?a_l_due ?l_l_due ?c_l_due ?k_l_due ?a_l_text ?l_l_text ?c_l_text ?k_l_text ?a_l_right ?l_l_right ?c_l_right ?k_l_right ?a_law ?l_law ?c_law ?k_law ?a_WIDE ?a_RECORDS_AT ?a_LONGEST ?a_WORD ?a_FIGURES ?lC_NoText ?no_NoText ?ni_NoText ?tl_NoText ?em_NoText ?eh_NoText ?sa_NoText ?xh_NoText ?n_NoText_at ?ex_NoLayout ?xt_ga_NoText ?xt_gt_NoText ?xt_ha_NoText ?xt_mO_NoText ?xt_mB_NoText ?xt_hn_NoText ?xt_tk_NoText ?fa_o_Layout ?fa_k11 ?fa_ha_Layout ?fa_hn_class ?fa_tk_class ?fa_k_match ?fa_k_match2 ?fa_k_self ?fa_k_none ?fa_v_reads ?fa_v_init ?fa_v_ga ?z_len ?z_range ?z_isinstance ?z_list ?z_tuple ?z_bool ?z_str ?z_int ?z_all ?z_enumerate ?z_min
    (case aC_Layout => k_is)
    (case pg_Layout => k_is)
    (case hd_Layout => k_is)
    (case po_Layout => k_is)
    (case sa_Layout => k_is)
    (case n_Layout_files => k_is)
    (case n_Layout_slots => k_is)
    (case n_Layout_data => k_is)
    (case aC_VolumeError => k_is)
    (case aC_NoLayout => k_is)
    (case aC_NoVolume => k_is)
    (case aC_NoText => k_is)
    (case aC_NoPath => k_is)
    (case aC_TooFar => k_is)
    (case a_NoText_init => k_is)
    (case i_NoText_init => k_is)
    (case l_NoText_init => k_is)
    (case c_NoText_init => k_is)
    (case k_NoText_init => k_is)
    (case a_Layout_init => k_is)
    (case i_Layout_init => k_is)
    (case l_Layout_init => k_is)
    (case c_Layout_init => k_is)
    (case k_Layout_init => k_is)
    (case mk_Layout => k_is)
    (case kc_Layout => k_is)
    (case a_Layout_many => k_is)
    (case i_Layout_many => k_is)
    (case l_Layout_many => k_is)
    (case c_Layout_many => k_is)
    (case k_Layout_many => k_is)
    (case a_Layout_record_at => k_is)
    (case i_Layout_record_at => k_is)
    (case l_Layout_record_at => k_is)
    (case c_Layout_record_at => k_is)
    (case k_Layout_record_at => k_is)
    (case a_Layout_names_at => k_is)
    (case i_Layout_names_at => k_is)
    (case l_Layout_names_at => k_is)
    (case c_Layout_names_at => k_is)
    (case k_Layout_names_at => k_is)
    (case a_Layout_data_at => k_is)
    (case i_Layout_data_at => k_is)
    (case l_Layout_data_at => k_is)
    (case c_Layout_data_at => k_is)
    (case k_Layout_data_at => k_is)
    (case a_is_written => k_is)
    (case l_is_written => k_is)
    (case c_is_written => k_is)
    (case k_is_written => k_is)
    (case a_numbers_of => k_is)
    (case l_numbers_of => k_is)
    (case c_numbers_of => k_is)
    (case k_numbers_of => k_is)
    (case a_read_layout => k_is)
    (case l_read_layout => k_is)
    (case c_read_layout => k_is)
    (case k_read_layout => k_is)
    (case a_read_rows => k_is)
    (case l_read_rows => k_is)
    (case c_read_rows => k_is)
    (case k_read_rows => k_is)
    (case a_read_volume => k_is)
    (case l_read_volume => k_is)
    (case c_read_volume => k_is)
    (case k_read_volume => k_is)
    (case a_l_cell => k_is)
    (case l_l_cell => k_is)
    (case c_l_cell => k_is)
    (case k_l_cell => k_is)
    (case a_l_mixed => k_is)
    (case l_l_mixed => k_is)
    (case c_l_mixed => k_is)
    (case k_l_mixed => k_is)
    (case a_l_number => k_is)
    (case l_l_number => k_is)
    (case c_l_number => k_is)
    (case k_l_number => k_is)
    (case a_l_any => k_is)
    (case l_l_any => k_is)
    (case c_l_any => k_is)
    (case k_l_any => k_is)
    (case a_l_rows => k_is)
    (case l_l_rows => k_is)
    (case c_l_rows => k_is)
    (case k_l_rows => k_is)
    (case a_l_signs => k_is)
    (case l_l_signs => k_is)
    (case c_l_signs => k_is)
    (case k_l_signs => k_is)
    (case a_l_word => k_is)
    (case l_l_word => k_is)
    (case c_l_word => k_is)
    (case k_l_word => k_is)
    (case a_l_head => k_is)
    (case l_l_head => k_is)
    (case c_l_head => k_is)
    (case k_l_head => k_is)
    (case a_l_spoiled => k_is)
    (case l_l_spoiled => k_is)
    (case c_l_spoiled => k_is)
    (case k_l_spoiled => k_is)
    (case a_l_is_number => k_is)
    (case l_l_is_number => k_is)
    (case c_l_is_number => k_is)
    (case k_l_is_number => k_is)
    (case a_l_sizes => k_is)
    (case l_l_sizes => k_is)
    (case c_l_sizes => k_is)
    (case k_l_sizes => k_is)
    (case a_l_due => k_is)
    (case l_l_due => k_is)
    (case c_l_due => k_is)
    (case k_l_due => k_is)
    (case a_l_text => k_is)
    (case l_l_text => k_is)
    (case c_l_text => k_is)
    (case k_l_text => k_is)
    (case a_l_right => k_is)
    (case l_l_right => k_is)
    (case c_l_right => k_is)
    (case k_l_right => k_is)
    (case a_law => k_is)
    (case l_law => k_is)
    (case c_law => k_is)
    (case k_law => k_is)
    (case a_WIDE => k_is)
    (case a_RECORDS_AT => k_is)
    (case a_LONGEST => k_is)
    (case a_WORD => k_is)
    (case a_FIGURES => k_is)
    (case lC_NoText => k_is)
    (case no_NoText => kernel_rfl)
    (case ni_NoText => k_is)
    (case tl_NoText => kernel_rfl)
    (case em_NoText => kernel_rfl)
    (case eh_NoText => rfl)
    (case sa_NoText => k_is)
    (case xh_NoText => k_is)
    (case n_NoText_at => k_is)
    (case ex_NoLayout => k_exc)
    (case xt_ga_NoText => k_is)
    (case xt_gt_NoText => k_is)
    (case xt_ha_NoText => k_is)
    (case xt_mO_NoText => k_is)
    (case xt_mB_NoText => k_is)
    (case xt_hn_NoText => k_is)
    (case xt_tk_NoText => k_is)
    (case fa_o_Layout => k_is)
    (case fa_k11 => kit_is)
    (case fa_ha_Layout => k_is)
    (case fa_hn_class => k_is)
    (case fa_tk_class => k_is)
    (case fa_k_match => kts_exm)
    (case fa_k_match2 => kts_exm)
    (case fa_k_self => kit_is)
    (case fa_k_none => kit_is)
    (case fa_v_reads => k_is)
    (case fa_v_init => k_is)
    (case fa_v_ga => k_is)
    (case z_len => k_is)
    (case z_range => k_is)
    (case z_isinstance => k_is)
    (case z_list => k_is)
    (case z_tuple => k_is)
    (case z_bool => k_is)
    (case z_str => k_is)
    (case z_int => k_is)
    (case z_all => k_is)
    (case z_enumerate => k_is)
    (case z_min => k_is)
