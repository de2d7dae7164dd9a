import PyProof.Rows.All
import Wide.All
import OpenK.AllK
import Wide.FinOn
import Lean
import PyProof.EqAt
import PyProof.EqKinds
import PyProof.TupleCall
import PyProof.P3Eq
import PyProof.P3In
import PyProof.NeData
import KE.KSortTup
import KE.LcSums
import PyProof.Rows.TupAdd
import KE.KTryMore
import OpenK.KOwn
import PyProof.NsDelKeeps
import PyProof.ExcArgsOwn
import KE.KIsAll
import KE.KDictList
import KE.KLam
import KE.KMinKey
import KE.KNest
import KE.KNestM
import KE.KRevIter
import PyProof.Draws
import PyProof.EnumMake
import PyProof.FactsAll.tuple
import PyProof.ListMulRoad
import PyProof.ListRange
import PyProof.Rows.MinMaxN
import PyProof.Rows.SetFrom
import PyProof.Rows.SumAny
import PyProof.SliceList
import PyProof.TupleKey
import PyProof.TupleOfSeq
import PyProof.WalkInts
import PyProof.WalksMore
import PyProof.ZipIter
import PySem.Challenge.RW_noticed_k20_whole_nearest
set_option Elab.async false
set_option linter.all false
set_option maxRecDepth 100000
namespace L2
open PySem PySem.Spec PyProof.Rows
noncomputable abbrev Key:=Sum Int Str
noncomputable def keyIs:Key→Value→Bool
 | .inl k,v=>Value.isInt k v
 | .inr x,v=>Value.isStrOf x v
noncomputable def keyH (w:World):Key→Int
 | .inl k=>hashInt k
 | .inr x=>hashStr w x
theorem keyIs_shape:∀ {k:Key} {v:Value},keyIs k v=true→(∃ i t,k=Sum.inl i∧v=Value.int i t)∨(∃ x t,k=Sum.inr x∧v=Value.str x t)
 | .inl i,v,h=>by
  obtain ⟨t,e⟩:=Value.isInt_shape (k:=i) (v:=v) h
  exact .inl ⟨i,t,rfl,e⟩
 | .inr x,v,h=>by
  obtain ⟨t,e⟩:=Value.isStrOf_shape (x:=x) (v:=v) h
  exact .inr ⟨x,t,rfl,e⟩
theorem key_ll (a b:Int):decide ((Sum.inl a:Key)=Sum.inl b)=(a==b):=by
 by_cases e:a=b
 ·subst e;simp
 ·have h:¬(Sum.inl a:Key)=Sum.inl b:=fun q=>e (Sum.inl.inj q)
  rw [decide_eq_false h]
  exact (beq_eq_false_iff_ne.mpr e).symm
theorem key_rr (a b:Str):decide ((Sum.inr a:Key)=Sum.inr b)=decide (a=b):=by
 by_cases e:a=b
 ·subst e;simp
 ·have h:¬(Sum.inr a:Key)=Sum.inr b:=fun q=>e (Sum.inr.inj q)
  rw [decide_eq_false h,decide_eq_false e]
theorem key_lr (a:Int) (b:Str):decide ((Sum.inl a:Key)=Sum.inr b)=false:=decide_eq_false (fun q=>nomatch q)
theorem key_rl (a:Str) (b:Int):decide ((Sum.inr a:Key)=Sum.inl b)=false:=decide_eq_false (fun q=>nomatch q)
noncomputable def mixKind (prog:Program) (w:World):PySem.KeyKind prog w Key where
 is:=keyIs
 hash:=keyH w
 inj:=fun v a b ha hb=>by
  rcases keyIs_shape ha with ⟨i,t,rfl,rfl⟩ | ⟨x,t,rfl,rfl⟩
  ·rcases keyIs_shape hb with ⟨j,u,rfl,e⟩ | ⟨y,u,rfl,e⟩
   ·injection e with e1 _;rw [e1]
   ·exact nomatch e
  ·rcases keyIs_shape hb with ⟨j,u,rfl,e⟩ | ⟨y,u,rfl,e⟩
   ·exact nomatch e
   ·injection e with e1 _;rw [e1]
 byValue:=fun k v h=>by
  rcases keyIs_shape h with ⟨i,t,rfl,rfl⟩ | ⟨x,t,rfl,rfl⟩ <;> rfl
 pyHash:=fun hv h=>by
  rcases keyIs_shape hv with ⟨i,t,rfl,rfl⟩ | ⟨x,t,rfl,rfl⟩
  ·exact wpAny_pyHash_int h
  ·exact wpAny_pyHash_str h
 eqBool:=fun hu hv h=>by
  rcases keyIs_shape hu with ⟨i,t,rfl,rfl⟩ | ⟨x,t,rfl,rfl⟩
  ·rcases keyIs_shape hv with ⟨j,u,rfl,rfl⟩ | ⟨y,u,rfl,rfl⟩
   ·rw [key_ll] at h;exact wpAny_eqBool_int h
   ·rw [key_lr] at h;exact SeqAt.EqAt.int_str i t y u _ _ _ _ h
  ·rcases keyIs_shape hv with ⟨j,u,rfl,rfl⟩ | ⟨y,u,rfl,rfl⟩
   ·rw [key_rl] at h;exact SeqAt.EqAt.str_int x t j u _ _ _ _ h
   ·rw [key_rr] at h;exact wpAny_eqBool_str h
 «strs»:=fun k x t v h=>by
  rcases keyIs_shape h with ⟨i,u,rfl,e⟩ | ⟨y,u,rfl,e⟩
  ·exact nomatch e
  ·injection e with e1 _
   subst e1
   cases v <;> rfl
end L2
namespace L2
open PySem PySem.Spec PyProof.Rows
inductive V where
 | non | bl (b:Bool) | int (i:Int) | str (x:Str) | byt (b:Array UInt8) | flt (b:UInt64) | ref (a:Addr) | ty (n:String)
 deriving DecidableEq
noncomputable def RelV:V→Value→Prop
 | .non,u=>u=Value.none
 | .bl b,u=>u=Value.bool b
 | .int i,u=>∃ t,u=Value.int i t
 | .str x,u=>∃ t,u=Value.str x t
 | .byt b,u=>∃ t,u=Value.bytes b t
 | .flt b,u=>∃ t,u=Value.float b t
 | .ref a,u=>u=Value.ref a
 | .ty n,u=>u=Value.type n
noncomputable abbrev Vals:List V→List Value→Prop:=Paired RelV
theorem Vals.length {xs:List V} {us:List Value} (r:Vals xs us):xs.length=us.length:=Paired.length r
theorem Vals.get:∀ {xs:List V} {us:List Value} {i:Nat} {x:V},Vals xs us→xs[i]? =some x→∃ u,us[i]? =some u∧RelV x u
 | _,_,_,_,.nil,e=>by simp at e
 | _,_,0,_,.cons r _,e=>by simp at e;subst e;exact ⟨_,rfl,r⟩
 | _,_,i + 1,x,.cons _ t,e=>by
  obtain ⟨u,h1,h2⟩:=Vals.get (i:=i) (x:=x) t (by simpa using e)
  exact ⟨u,by simpa using h1,h2⟩
theorem Vals.set {x:V} {u:Value} (r:RelV x u):∀ {xs:List V} {us:List Value} (i:Nat),Vals xs us→Vals (xs.set i x) (us.set i u)
 | _,_,_,.nil=>.nil
 | _,_,0,.cons _ t=>.cons r t
 | _,_,i + 1,.cons q t=>.cons q (Vals.set r i t)
theorem Vals.append:∀ {xs ys:List V} {us ws:List Value},Vals xs us→Vals ys ws→Vals (xs++ys) (us++ws)
 | _,_,_,_,.nil,s=>s
 | _,_,_,_,.cons r t,s=>.cons r (Vals.append t s)
theorem Vals.take:∀ {xs:List V} {us:List Value} (n:Nat),Vals xs us→Vals (xs.take n) (us.take n)
 | _,_,0,_=>.nil
 | _,_,_ + 1,.nil=>.nil
 | _,_,n + 1,.cons r t=>.cons r (Vals.take n t)
theorem Vals.drop:∀ {xs:List V} {us:List Value} (n:Nat),Vals xs us→Vals (xs.drop n) (us.drop n)
 | _,_,0,r=>r
 | _,_,_ + 1,.nil=>.nil
 | _,_,n + 1,.cons _ t=>Vals.drop n t
theorem Vals.none_of:∀ {xs:List V} {us:List Value} {i:Nat},Vals xs us→xs[i]? =none→us[i]? =none:=fun {xs us i} r e=>by
 have h1:=r.length
 have h2:xs.length≤i:=List.getElem?_eq_none_iff.mp e
 exact List.getElem?_eq_none_iff.mpr (by lia)
noncomputable def RelO:Option V→Option Value→Prop
 | some v,some u=>RelV v u
 | none,none=>True
 | _,_=>False
noncomputable def KV {κ:Type}:List (κ×V)→List (κ×Value)→Prop:=Paired fun (p:κ×V) (q:κ×Value)=>p.1=q.1∧RelV p.2 q.2
noncomputable def kV:Key→V
 | .inl i=>.int i
 | .inr x=>.str x
inductive HO where
 | lst (xs:List V)
 | tup (xs:List V)
 | dK (kvs:List (Key×V)) | dT (kvs:List (List Key×V))
 | set (S:Int→Bool) (n:Nat)
 | ins (C dx:Addr) (fs:List (Str×V))
 | own (x:Addr)
 | xd (fs:List (Str×V))
 | met (f x:Addr)
 | rng (lo hi:Int)
 | frz (o:Obj) (u:HO)
 | tbl (ps:Array Value)
 | ext (φ:Heap→Prop)
noncomputable abbrev Hp:=Addr→Option HO
noncomputable def upd (H:Hp) (a:Addr) (o:HO):Hp:=fun b=>if b=a then some o else H b
theorem upd_same {H:Hp} {a:Addr} {o:HO}:upd H a o a=some o:=by unfold upd;rw [if_pos rfl]
theorem upd_ne {H:Hp} {a b:Addr} {o:HO} (h:b≠a):upd H a o b=H b:=by unfold upd;rw [if_neg h]
theorem ne_of {H:Hp} {a b:Addr} {o u:HO} (h:H a=some o) (h':H b=some u) (d:o≠u):a≠b:=by
 intro e;subst e;rw [h] at h';exact d (Option.some.inj h')
theorem ne_of_none {H:Hp} {a b:Addr} {o:HO} (h:H a=some o) (h':H b=none):a≠b:=by
 intro e;subst e;rw [h] at h';cases h'
noncomputable def IsTupN (h:Heap) (a:Addr) (items:Array Value):Prop:=IsTup h a items∧∃ o,h.get? a=some o∧o.dict=none
theorem IsTupN.new (h:Heap) (items:Array Value):IsTupN (h.push { cls:=.type "tuple",data:=.seq items }) h.objs.size items:=⟨IsTup.new h items,_,Heap.get?_push_size _ rfl,rfl⟩
section
variable (P:Program) (w:World)
noncomputable def ObjOk (H:Hp) (h:Heap) (a:Addr):HO→Prop
 | .lst xs=>xs.length≤sizeLine∧∃ (its:List Value) (n:Nat),Vals xs its∧h.get? a=some { cls:=.type "list",data:=.seq its.toArray n }
 | .tup xs=>xs.length≤sizeLine∧∃ its:List Value,Vals xs its∧IsTupN h a its.toArray
 | .dK kvs=>kvs.length≤sizeLine∧(a==sysModules)=false∧∃ vs,KV kvs vs∧h.DictOf (mixKind P w) a vs
 | .dT kvs=>kvs.length≤sizeLine∧(a==sysModules)=false∧∃ xs:List (List Key×Addr×Value),
   Paired (fun (p:List Key×V) (q:List Key×Addr×Value)=>p.1=q.1∧H q.2.1=some (.tup (p.1.map kV))∧RelV p.2 q.2.2) kvs xs∧
   ∃ o es ep,h.get? a=some o∧o.ExactDict∧o.data=.dict es ep∧es.toList=xs.map (entryOfKey (tupleKind (mixKind P w)))∧(xs.map (·.1)).Nodup
 | .set S n=>h.SetOf (intKind P w) a S n
 | .ins C dx fs=>H dx=some (.own a)∧fs.length≤1000∧dx≠a∧h.get? a=some (PySem.W.instObj C dx)∧
   ∃ mA,h.Ns1 dx mA∧(∀ f,RelO (fs.lookup f) (mA f))∧PySem.Within mA (fs.map (·.1))
 | .own _=>∃ o,h.get? a=some o
 | .xd fs=>∃ mA,h.Ns1 a mA∧∀ f,RelO (fs.lookup f) (mA f)
 | .rng lo hi=>∃ t u v,h.get? a=some { cls:=.type "range",data:=.fields #[.int lo t,.int hi u,.int 1 v] }
 | .frz o u=>h.get? a=some o∧ObjOk H h a u
 | .tbl ps=>h.get? a=some { cls:=.none,data:=.fields ps }
 | .met f x=>h.get? a=some (PySem.W.methodObj (.ref f) (.ref x))
 | .ext φ=>φ h∧(∃ o,h.get? a=some o)∧∀ h1 h2:Heap,φ h1→(∀ o,h1.get? a=some o→h2.get? a=some o)→φ h2
noncomputable def HOk (H:Hp) (h:Heap):Prop:=∀ a o,H a=some o→ObjOk P w H h a o
end
section
variable {P:Program} {w:World} {H H':Hp} {h h':Heap} {a:Addr} {o:HO}
theorem ObjOk.lt (x:ObjOk P w H h a o):a < h.objs.size:=by
 cases o with
 | lst xs=>obtain ⟨_,_,_,_,e⟩:=x;exact Heap.lt_size e
 | tup xs=>obtain ⟨_,_,_,p⟩:=x;exact p.1.lt
 | dK kvs=>obtain ⟨_,_,_,_,o,_,_,e,_⟩:=x;exact Heap.lt_size e
 | dT kvs=>obtain ⟨_,_,_,_,o,_,_,e,_⟩:=x;exact Heap.lt_size e
 | set S n=>obtain ⟨o,_,_,_,e,_⟩:=x;exact Heap.lt_size e
 | ins C dx fs=>obtain ⟨_,_,_,e,_⟩:=x;exact Heap.lt_size e
 | own y=>obtain ⟨_,e⟩:=x;exact Heap.lt_size e
 | xd fs=>obtain ⟨_,⟨_,_,_,e,_⟩,_⟩:=x;exact Heap.lt_size e
 | rng lo hi=>obtain ⟨_,_,_,e⟩:=x;exact Heap.lt_size e
 | frz ob u=>obtain ⟨e,_⟩:=x;exact Heap.lt_size e
 | tbl ps=>exact Heap.lt_size (show h.get? a=some _ from x)
 | met f y=>exact Heap.lt_size (show h.get? a=some _ from x)
 | ext φ=>obtain ⟨_,⟨_,e⟩,_⟩:=x;exact Heap.lt_size e
theorem Paired.mapP {α β:Type} {F G:α→β→Prop}:∀ {l₁:List α} {l₂:List β},Paired F l₁ l₂→(∀ a b,F a b→G a b)→Paired G l₁ l₂
 | _,_,.nil,_=>.nil
 | _,_,.cons r t,f=>.cons (f _ _ r) (Paired.mapP t f)
theorem ObjOk.stay (x:ObjOk P w H h a o) (k:∀ b u,(b=a∨H b=some (.own a))→h.get? b=some u→h'.get? b=some u)
  (ho:∀ b,H b=some (.own a)→H' b=some (.own a)) (ht:∀ b xs,H b=some (.tup xs)→H' b=some (.tup xs)):ObjOk P w H' h' a o:=by
 induction o with
 | lst xs=>obtain ⟨z,its,n,r,e⟩:=x;exact ⟨z,its,n,r,k _ _ (.inl rfl) e⟩
 | tup xs=>obtain ⟨z,its,r,⟨ob,e,c⟩,ob2,e2,c2⟩:=x;exact ⟨z,its,r,⟨ob,k _ _ (.inl rfl) e,c⟩,ob2,k _ _ (.inl rfl) e2,c2⟩
 | dK kvs=>obtain ⟨z,y,vs,r,ob,es,ep,e,c⟩:=x;exact ⟨z,y,vs,r,ob,es,ep,k _ _ (.inl rfl) e,c⟩
 | dT kvs=>
  obtain ⟨z,y,xs,r,ob,es,ep,e,c⟩:=x
  exact ⟨z,y,xs,Paired.mapP r fun p q z=>⟨z.1,ht _ _ z.2.1,z.2.2⟩,ob,es,ep,k _ _ (.inl rfl) e,c⟩
 | set S n=>obtain ⟨ob,es,ep,t,e,c⟩:=x;exact ⟨ob,es,ep,t,k _ _ (.inl rfl) e,c⟩
 | ins C dx fs=>
  obtain ⟨d,z,ne,e,mA,⟨od,es,ep,e2,c⟩,r⟩:=x
  exact ⟨ho _ d,z,ne,k _ _ (.inl rfl) e,mA,⟨od,es,ep,k _ _ (.inr d) e2,c⟩,r⟩
 | own y=>obtain ⟨ob,e⟩:=x;exact ⟨ob,k _ _ (.inl rfl) e⟩
 | xd fs=>obtain ⟨mA,⟨od,es,ep,e,c⟩,r⟩:=x;exact ⟨mA,⟨od,es,ep,k _ _ (.inl rfl) e,c⟩,r⟩
 | rng lo hi=>obtain ⟨t,u,v,e⟩:=x;exact ⟨t,u,v,k _ _ (.inl rfl) e⟩
 | frz ob u ih=>obtain ⟨e,q⟩:=x;exact ⟨k _ _ (.inl rfl) e,ih q⟩
 | tbl ps=>
  have e:h.get? a=some { cls:=.none,data:=.fields ps }:=x
  show h'.get? a=some { cls:=.none,data:=.fields ps }
  exact k a _ (.inl rfl) e
 | met f y=>
  have e:h.get? a=some (PySem.W.methodObj (.ref f) (.ref y)):=x
  show h'.get? a=some (PySem.W.methodObj (.ref f) (.ref y))
  exact k a _ (.inl rfl) e
 | ext φ=>obtain ⟨p,⟨o,e⟩,st⟩:=x;exact ⟨st _ _ p fun o q=>k _ _ (.inl rfl) q,⟨o,k _ _ (.inl rfl) e⟩,st⟩
theorem HOk.lt (x:HOk P w H h) (e:H a=some o):a < h.objs.size:=(x a o e).lt
theorem HOk.fresh (x:HOk P w H h) (e:h.objs.size≤a):H a=none:=by
 cases q:H a with
 | none=>rfl
 | some u=>exact absurd (Nat.lt_of_lt_of_le (x.lt q) e) (Nat.lt_irrefl _)
theorem HOk.kept (x:HOk P w H h) (k:∀ b u,h.get? b=some u→h'.get? b=some u):HOk P w H h':=fun a o e=>
 (x a o e).stay (fun b u _ q=>k b u q) (fun _ q=>q) fun _ _ q=>q
theorem HOk.laid (x:HOk P w H h) (k:∀ b u,h.get? b=some u→h'.get? b=some u) (hp:h.objs.size≤a) (new:ObjOk P w (upd H a o) h' a o):HOk P w (upd H a o) h':=fun b u e=>by
 have hn:=x.fresh hp
 by_cases hb:b=a
 ·subst hb;rw [upd_same] at e;cases e;exact new
 ·rw [upd_ne hb] at e
  exact (x b u e).stay (fun c v _ q=>k c v q) (fun c q=>by rw [upd_ne (ne_of_none q hn)];exact q) fun c xs q=>by rw [upd_ne (ne_of_none q hn)];exact q
end
noncomputable def Rd (H:Hp) (a:Addr) (u:HO):Prop:=H a=some u∨∃ o,H a=some (.frz o u)
theorem Rd.of {H:Hp} {a:Addr} {u:HO} (h:H a=some u):Rd H a u:=.inl h
theorem Rd.ok {P:Program} {w:World} {H:Hp} {h:Heap} {a:Addr} {u:HO} (r:Rd H a u) (x:HOk P w H h):ObjOk P w H h a u:=by
 rcases r with r | ⟨o,r⟩
 ·exact x a u r
 ·obtain ⟨_,q⟩:=x a _ r
  exact q
noncomputable def Mut:Option HO→Prop
 | some (.lst _)=>True
 | some (.dK _)=>True
 | some (.dT _)=>True
 | some (.set _ _)=>True
 | some (.ins _ _ _)=>True
 | some (.ext _)=>True
 | _=>False
section
variable {P:Program} {w:World} {H:Hp} {h h':Heap} {x e:Addr} {o':HO}
theorem HOk.write (ok:HOk P w H h) (mu:Mut (H x)) (he:e=x∨H e=some (.own x)) (k:∀ b u,b≠e→h.get? b=some u→h'.get? b=some u) (heo:∃ u,h'.get? e=some u)
  (new:ObjOk P w (upd H x o') h' x o'):HOk P w (upd H x o') h':=fun b u q=>by
 have nown:∀ c y,H c=some (.own y)→c≠x:=fun c y r z=>by subst z;rw [r] at mu;exact mu
 have ntup:∀ c xs,H c=some (.tup xs)→c≠x:=fun c xs r z=>by subst z;rw [r] at mu;exact mu
 by_cases hb:b=x
 ·subst hb;rw [upd_same] at q;cases q;exact new
 ·rw [upd_ne hb] at q
  by_cases hbe:b=e
  ·have q':H b=some (.own x):=by
    rcases he with z | z
    ·exact absurd (hbe.trans z) hb
    ·rw [hbe];exact z
   rw [q] at q';cases q'
   obtain ⟨v,hv⟩:=heo
   exact ⟨v,by rw [hbe];exact hv⟩
  ·refine (ok b u q).stay (fun c v hc r=>k c v ?_ r) (fun c r=>by rw [upd_ne (nown c b r)];exact r) fun c xs r=>by rw [upd_ne (ntup c xs r)];exact r
   rcases hc with rfl | hc
   ·exact hbe
   ·rintro rfl
    rcases he with z | z
    ·exact nown c b hc z
    ·rw [hc] at z;cases z;exact hb rfl
end
structure Un (fs ex:List Addr) (H H':Hp) (h h':Heap):Prop where
 keep:∀ b o,h.get? b=some o→H b=none→b∉fs→b∉ex→h'.get? b=some o
 slot:∀ b o,h.get? b=some o→H b=none→b∈fs→b∉ex→∃ sl,h'.get? b=some { o with slots:=sl }
 free:∀ b o,h.get? b=some o→H b=none→b∉ex→H' b=none
 there:∀ b o,h.get? b=some o→b∉ex→∃ o',h'.get? b=some o'
 tups:∀ b xs,H b=some (.tup xs)→H' b=some (.tup xs)
 frzs:∀ b o u,H b=some (.frz o u)→H' b=some (.frz o u)
 tbls:∀ b ps,H b=some (.tbl ps)→∃ more,H' b=some (.tbl (ps++more))
section
variable {fs fs' ex ex':List Addr} {H H1 H2:Hp} {h h1 h2 h':Heap} {a x e:Addr} {o:HO}
theorem Un.any (u:Un fs ex H H1 h h1) {b:Addr} {ob:Obj} (q:h.get? b=some ob) (n:H b=none) (hx:b∉ex):∃ sl,h1.get? b=some { ob with slots:=sl }:=by
 by_cases hb:b∈fs
 ·exact u.slot b ob q n hb hx
 ·exact ⟨ob.slots,u.keep b ob q n hb hx⟩
theorem Un.trans (a:Un fs ex H H1 h h1) (b:Un fs ex H1 H2 h1 h2):Un fs ex H H2 h h2 where
 keep:=fun c ob q n hc hx=>b.keep c ob (a.keep c ob q n hc hx) (a.free c ob q n hx) hc hx
 slot:=fun c ob q n hc hx=>by
  obtain ⟨sl,e1⟩:=a.slot c ob q n hc hx
  obtain ⟨sl',e2⟩:=b.slot c _ e1 (a.free c ob q n hx) hc hx
  exact ⟨sl',e2⟩
 free:=fun c ob q n hx=>by
  obtain ⟨o',e1⟩:=a.there c ob q hx
  exact b.free c o' e1 (a.free c ob q n hx) hx
 there:=fun c ob q hx=>by
  obtain ⟨o',e1⟩:=a.there c ob q hx
  exact b.there c o' e1 hx
 tups:=fun c xs q=>b.tups c xs (a.tups c xs q)
 frzs:=fun c ob xs q=>b.frzs c ob xs (a.frzs c ob xs q)
 tbls:=fun c ps q=>by
  obtain ⟨m1,e1⟩:=a.tbls c ps q
  obtain ⟨m2,e2⟩:=b.tbls c _ e1
  exact ⟨m1++m2,by rw [e2,Array.append_assoc]⟩
theorem Un.kept (k:∀ b u,h.get? b=some u→h'.get? b=some u):Un fs ex H H h h':=
 ⟨fun b ob q _ _ _=>k b ob q,fun b ob q _ _ _=>⟨ob.slots,k b ob q⟩,fun _ _ _ n _=>n,fun b ob q _=>⟨ob,k b ob q⟩,fun _ _ q=>q,fun _ _ _ q=>q,fun _ ps q=>⟨#[],by rw [q];simp⟩⟩
theorem Un.refl:Un fs ex H H h h:=Un.kept fun _ _ q=>q
theorem Un.laid (k:∀ b u,h.get? b=some u→h'.get? b=some u) (hp:h.objs.size≤a) (hn:H a=none):Un fs ex H (upd H a o) h h' where
 keep:=fun b u q _ _ _=>k b u q
 slot:=fun b u q _ _ _=>⟨u.slots,k b u q⟩
 free:=fun b u q n _=>by rw [upd_ne (Nat.ne_of_lt (Nat.lt_of_lt_of_le (Heap.lt_size q) hp))];exact n
 there:=fun b u q _=>⟨u,k b u q⟩
 tups:=fun b xs q=>by rw [upd_ne (ne_of_none q hn)];exact q
 frzs:=fun b u xs q=>by rw [upd_ne (ne_of_none q hn)];exact q
 tbls:=fun b ps q=>⟨#[],by rw [upd_ne (ne_of_none q hn),q];simp⟩
theorem Un.write (mu:Mut (H x)) (he:e=x∨H e=some (.own x)) (k:∀ b u,b≠e→h.get? b=some u→h'.get? b=some u) (heo:∃ u,h'.get? e=some u):Un fs ex H (upd H x o) h h':=by
 have hx:∀ b,H b=none→b≠x:=fun b n z=>by subst z;rw [n] at mu;exact mu
 have hb:∀ b,H b=none→b≠e:=fun b n z=>by
  subst z
  rcases he with r | r
  ·exact hx b n r
  ·rw [n] at r;cases r
 have hm:∀ b u,H b=some u→¬Mut (some u)→b≠x:=fun b u q nm z=>by subst z;rw [q] at mu;exact nm mu
 refine ⟨fun b u q n _ _=>k b u (hb b n) q,fun b u q n _ _=>⟨u.slots,k b u (hb b n) q⟩,fun b u q n _=>by rw [upd_ne (hx b n)];exact n,fun b u q _=>?_,
  fun b xs q=>by rw [upd_ne (hm b _ q fun z=>z)];exact q,fun b u xs q=>by rw [upd_ne (hm b _ q fun z=>z)];exact q,fun b ps q=>⟨#[],by rw [upd_ne (hm b _ q fun z=>z),q];simp⟩⟩
 by_cases hbe:b=e
 ·subst hbe;exact heo
 ·exact ⟨u,k b u hbe q⟩
theorem Un.mono (u:Un fs ex H H1 h h1) (hs:∀ b∈fs,b∈fs') (hx:∀ b∈ex,b∈ex'):Un fs' ex' H H1 h h1:=
 ⟨fun b ob q n hb he=>u.keep b ob q n (fun z=>hb (hs b z)) fun z=>he (hx b z),fun _ _ q n _ he=>u.any q n fun z=>he (hx _ z),fun b ob q n he=>u.free b ob q n fun z=>he (hx b z),fun b ob q he=>u.there b ob q fun z=>he (hx b z),u.tups,u.frzs,u.tbls⟩
end
noncomputable def trk (h:Heap) (H:Hp):List Addr:=(List.range h.objs.size).filter fun a=>(H a).isSome
noncomputable def hidT (h:Heap) (H:Hp):Heap:=PySem.W.hideAll h (trk h H)
theorem hidT_size (h:Heap) (H:Hp):(hidT h H).objs.size=h.objs.size:=PySem.W.hideAll_size _ _
theorem hidT_get {h:Heap} {H:Hp} {b:Addr} {o:Obj} (e:h.get? b=some o) (n:H b=none):(hidT h H).get? b=some o:=
 PySem.W.hideAll_get _ e fun hm=>by
  have q:(H b).isSome=true:=(List.mem_filter.mp hm).2
  rw [n] at q;simp at q
theorem of_hidT {h:Heap} {H:Hp} {b:Addr} {o:Obj} (e:(hidT h H).get? b=some o):h.get? b=some o∧H b=none:=by
 have e':h.get? b=some o:=PySem.W.of_hideAll (trk h H) e
 refine ⟨e',?_⟩
 cases q:H b with
 | none=>rfl
 | some x=>
  have hm:b∈trk h H:=List.mem_filter.mpr ⟨List.mem_range.mpr (Heap.lt_size e'),by simp [q]⟩
  have z:(hidT h H).get? b=none:=PySem.W.hideAll_none (trk h H) hm
  rw [z] at e;cases e
noncomputable def allNews (g h:Heap) (L:Addr):List (Addr×Obj):=(List.range h.objs.size).filterMap fun a=>if a=L∨(g.get? a).isSome=true then none else (h.get? a).map fun o=>(a,o)
theorem mem_allNews {g h:Heap} {L a:Addr} {o:Obj} (h1:a≠L) (h2:g.get? a=none) (h3:h.get? a=some o):(a,o)∈allNews g h L:=
 List.mem_filterMap.mpr ⟨a,List.mem_range.mpr (Heap.lt_size h3),by simp [h1,h2,h3]⟩
theorem of_mem_allNews {g h:Heap} {L:Addr} {p:Addr×Obj} (hp:p∈allNews g h L):p.1≠L∧g.get? p.1=none∧h.get? p.1=some p.2:=by
 obtain ⟨b,_,e⟩:=List.mem_filterMap.mp hp
 split at e
 ·cases e
 ·rename_i hn
  cases q:h.get? b with
  | none=>rw [q] at e;simp at e
  | some u=>
   rw [q] at e
   simp only [Option.map_some,Option.some.injEq] at e
   subst e
   refine ⟨fun z=>hn (.inl z),?_,q⟩
   show g.get? b=none
   cases r:g.get? b with
   | none=>rfl
   | some v=>exact (hn (.inr (by simp [r]))).elim
noncomputable def rest (g h:Heap) (L d:Addr):List (Addr×Obj):=(allNews g h L).filter fun p=>decide (p.1≠d)
theorem news_all {g h:Heap} {L:Addr}:News g L h (allNews g h L):=fun p hp=>let ⟨a,b,c⟩:=of_mem_allNews hp;⟨c,a,b⟩
end L2
namespace L2
open PySem PySem.Spec PyProof.Rows
structure Mod (K:PySem.W.Frag) (mg:Str→Option Value) (base:Heap):Prop where
 kin:K.In base
 glob:base.Ns mainGlobals mg
 blt:∃ mb,base.Ns builtinsNs mb∧∀ x:Str,x≠"__name__"→mb x=bootBuiltins x
 nolimit:base.NoLimit
structure Cx where
 prog:Program
 w:World
 K:PySem.W.Frag
 mg:Str→Option Value
 base:Heap
 A:Around
 N:List Str
 s₀:Shared
 H₀:Hp
 env:Env
 outer:List Env
 stack:List Env
 ex:List Addr
 fn:Str→Bool
 calm:Bool
 pn:List (Addr×Obj)
 xe:Value→Shared→Prop
noncomputable def frs (l:List Env):List Addr:=l.filterMap (·.frame)
noncomputable abbrev Cx.fs (X:Cx):List Addr:=frs X.outer
noncomputable def Vis (sc:Scope) (x:Str):Prop:=sc.names.lookup x=some .local∨sc.names.lookup x=some .cell∨sc.names.lookup x=some .free
noncomputable def Loc (sc:Scope) (x:Str):Prop:=sc.names.lookup x=some .local∨sc.names.lookup x=some .cell
noncomputable def Look (env:Env) (h:Heap) (m:Str→Option Value) (x:Str) (u:Value):Prop:=
 (env.kindOf x=some .local∧m x=some u)∨((env.kindOf x=some .cell∨env.kindOf x=some .free)∧∃ c,env.cells.lookup x=some c∧h.IsCell c (some u))
structure Cx.Ok (X:Cx):Prop where
 mod:Mod X.K X.mg X.base
 kind:X.env.scope.kind=.function
 glob:X.env.globals=mainGlobals
 blt:X.env.builtins=builtinsNs
 above:X.s₀.heap.objs.size≤X.env.locals
 inj:∀ x y c,X.env.cells.lookup x=some c→X.env.cells.lookup y=some c→x=y
 has:∀ x,(X.env.kindOf x=some .cell∨X.env.kindOf x=some .free)→∃ c,X.env.cells.lookup x=some c
 cab:∀ x c,X.fn x=true→X.env.cells.lookup x=some c→X.s₀.heap.objs.size≤c
 hd:X.calm=true→X.A.handled=none
 frames:X.A.frames=some X.stack
 stk:X.stack=X.outer∨(X.stack=X.env::X.outer∧X.env.frame=some X.env.locals)
 exf:∀ b∈X.ex,b≠X.env.locals∧∀ x c,X.env.cells.lookup x=some c→c≠b
 bs:∀ b o,X.base.get? b=some o→X.s₀.heap.get? b=some o∧X.H₀ b=none
 bsz:X.base.objs.size≤X.s₀.heap.objs.size
 noex:∀ b o,X.base.get? b=some o→b∉X.ex
 exfs:∀ b∈X.ex,b∉X.fs
 funs:X.s₀.heap.FunFrames X.base X.outer
 frf:∀ b∈X.fs,X.H₀ b=none
structure Inv (X:Cx) (pins:List (Addr×Obj)) (σ:List (Option V)) (H:Hp) (s:Shared):Prop where
 ok:X.Ok
 os:s.os=X.s₀.os
 bare:AllBare s.gens
 base:Un X.fs X.ex X.H₀ H X.s₀.heap s.heap
 loc:∃ m,s.heap.Ns X.env.locals m∧∀ (i:Nat) (x:Str) (v:V),X.N[i]? =some x→σ[i]? =some (some v)→Vis X.env.scope x→∃ u,RelV v u∧Look X.env s.heap m x u
 cell:∀ x c,X.env.cells.lookup x=some c→∃ v,s.heap.IsCell c v
 free:H X.env.locals=none
 freeC:∀ x c,X.env.cells.lookup x=some c→H c=none
 pin:∀ p∈X.pn++pins,s.heap.get? p.1=some p.2∧H p.1=none∧p.1≠X.env.locals∧p.1∉X.fs∧∀ v,p.2.data≠.cell v
 hok:HOk X.prog X.w H s.heap
 len:σ.length=X.N.length
section
variable {X:Cx} {pins:List (Addr×Obj)} {σ:List (Option V)} {H H':Hp} {s:Shared} {h':Heap}
theorem Cx.Ok.nofr (ok:X.Ok) {b:Addr} {o:Obj} (e:X.base.get? b=some o):b∉X.fs:=fun hb=>by
 have:=(ok.funs.mem hb).1
 rw [e] at this;cases this
theorem Inv.bs (I:Inv X pins σ H s):∀ b o,X.base.get? b=some o→s.heap.get? b=some o∧H b=none:=fun b o e=>
 ⟨I.base.keep b o (I.ok.bs b o e).1 (I.ok.bs b o e).2 (I.ok.nofr e) (I.ok.noex b o e),I.base.free b o (I.ok.bs b o e).1 (I.ok.bs b o e).2 (I.ok.noex b o e)⟩
theorem Inv.bk (I:Inv X pins σ H s):∀ b o,X.base.get? b=some o→s.heap.get? b=some o:=fun b o e=>(I.bs b o e).1
theorem Inv.mod (I:Inv X pins σ H s):Mod X.K X.mg X.base:=I.ok.mod
theorem Inv.kIn (I:Inv X pins σ H s):X.K.In s.heap:=I.ok.mod.kin.keeps I.bk
theorem Inv.nolimit (I:Inv X pins σ H s):s.heap.NoLimit:=I.ok.mod.nolimit.keeps I.bk
theorem Inv.fr (I:Inv X pins σ H s):∃ m,Fr X.base X.env.locals s.heap m:=
 let ⟨m,hn,_⟩:=I.loc
 ⟨m,hn,I.bk,Nat.le_trans I.ok.bsz I.ok.above⟩
theorem Inv.lt (I:Inv X pins σ H s):X.env.locals < s.heap.objs.size:=let ⟨_,hn,_⟩:=I.loc;hn.lt
theorem Inv.sz (I:Inv X pins σ H s):X.s₀.heap.objs.size≤s.heap.objs.size:=Nat.le_trans I.ok.above (Nat.le_of_lt I.lt)
theorem Inv.nofs (I:Inv X pins σ H s) {a:Addr} (h:s.heap.objs.size≤a):a∉X.fs:=fun hb=>by
 obtain ⟨_,o,ho,_⟩:=I.ok.funs.mem hb
 exact absurd (Nat.lt_of_lt_of_le (Heap.lt_size ho) (Nat.le_trans I.sz h)) (Nat.lt_irrefl _)
theorem Inv.cne (I:Inv X pins σ H s):∀ x c,X.env.cells.lookup x=some c→c≠X.env.locals:=fun x c e z=>by
 obtain ⟨v,o,ho,hd⟩:=I.cell x c e
 obtain ⟨m,⟨o',es,ep,ho',hd',_⟩,_⟩:=I.loc
 rw [z,ho'] at ho;cases ho;rw [hd'] at hd;cases hd
theorem Inv.funs (I:Inv X pins σ H s):s.heap.FunFrames X.base X.outer:=by
 have all:∀ (l:List Env),(∀ b∈frs l,b∈X.fs)→X.s₀.heap.FunFrames X.base l→s.heap.FunFrames X.base l:=by
  intro l
  induction l with
  | nil=>intro _ _;trivial
  | cons env r ih=>
   intro hs hl
   obtain ⟨hk,⟨L,o,hf,hn,ho,hd⟩,hr⟩:=hl
   have hL:L∈X.fs:=hs L (by unfold frs;rw [List.filterMap_cons,hf];exact List.mem_cons_self)
   obtain ⟨sl,e⟩:=I.base.slot L o ho (I.ok.frf L hL) hL fun z=>I.ok.exfs L z hL
   exact ⟨hk,⟨L,_,hf,hn,e,hd⟩,ih (fun b hb=>hs b (by unfold frs;rw [List.filterMap_cons,hf];exact List.mem_cons_of_mem _ hb)) hr⟩
 exact all X.outer (fun _ hb=>hb) I.ok.funs
theorem Inv.stack (I:Inv X pins σ H s):s.heap.FunFrames X.base X.stack:=by
 rcases I.ok.stk with e | ⟨e,hf⟩
 ·rw [e];exact I.funs
 ·rw [e]
  obtain ⟨m,hn,_⟩:=I.loc
  refine .cons (by rw [I.ok.kind];decide) hf hn ?_ I.funs
  exact Heap.get?_none_of_le (Nat.le_trans I.ok.bsz I.ok.above)
theorem Inv.stkSub (I:Inv X pins σ H s):∀ b∈frs X.stack,b∈X.env.locals::X.fs:=fun b hb=>by
 rcases I.ok.stk with e | ⟨e,hf⟩
 ·rw [e] at hb;exact List.mem_cons_of_mem _ hb
 ·rw [e] at hb
  unfold frs at hb
  rw [List.filterMap_cons,hf] at hb
  exact hb
theorem Inv.stkFree (I:Inv X pins σ H s):∀ b∈frs X.stack,H b=none:=fun b hb=>by
 rcases List.mem_cons.mp (I.stkSub b hb) with e | hb
 ·rw [e];exact I.free
 ·obtain ⟨_,o,ho,_⟩:=I.ok.funs.mem hb
  exact I.base.free b o ho (I.ok.frf b hb) fun z=>I.ok.exfs b z hb
theorem Inv.step {g':Array GenState} {t':Nat} {d':Drawn} {ch:List Addr} (I:Inv X pins σ H s)
  (hch:∀ b∈ch,(b∈X.ex∨X.s₀.heap.objs.size≤b)∧b≠X.env.locals∧(∀ x c,X.env.cells.lookup x=some c→c≠b)∧∀ p∈X.pn++pins,p.1≠b)
  (keep:∀ b o,b≠X.env.locals→b∉X.fs→b∉ch→s.heap.get? b=some o→H b=none→h'.get? b=some o)
  (slot:∀ b o,b≠X.env.locals→b∈X.fs→b∉ch→s.heap.get? b=some o→H b=none→∃ sl,h'.get? b=some { o with slots:=sl }) (free:∀ b o,b∉ch→s.heap.get? b=some o→H b=none→H' b=none)
  (there:∀ b o,b∉ch→s.heap.get? b=some o→∃ o',h'.get? b=some o')
  (tups:∀ b xs,H b=some (.tup xs)→H' b=some (.tup xs)) (frzs:∀ b o u,H b=some (.frz o u)→H' b=some (.frz o u)) (tbls:∀ b ps,H b=some (.tbl ps)→∃ more,H' b=some (.tbl (ps++more)))
  (ns:∀ m,s.heap.Ns X.env.locals m→h'.Ns X.env.locals m) (hok:HOk X.prog X.w H' h') (hg:AllBare g'):
  Inv X pins σ H' { s with heap:=h',gens:=g',drawn:=d',toks:=t' }:=by
 have neL:∀ b o,X.s₀.heap.get? b=some o→b≠X.env.locals:=fun b o e=>Nat.ne_of_lt (Nat.lt_of_lt_of_le (Heap.lt_size e) I.ok.above)
 have neC:∀ b o,X.s₀.heap.get? b=some o→b∉X.ex→b∉ch:=fun b o e hx hb=>by
  rcases (hch b hb).1 with z | z
  ·exact hx z
  ·exact absurd (Nat.lt_of_lt_of_le (Heap.lt_size e) z) (Nat.lt_irrefl _)
 have cellK:∀ x c,X.env.cells.lookup x=some c→∀ v,s.heap.IsCell c v→h'.IsCell c v:=fun x c e v ⟨o,ho,hd⟩=>by
  have nch:c∉ch:=fun z=>(hch c z).2.2.1 x c e rfl
  by_cases hc:c∈X.fs
  ·obtain ⟨sl,q⟩:=slot c o (I.cne x c e) hc nch ho (I.freeC x c e)
   exact ⟨_,q,hd⟩
  ·exact ⟨o,keep c o (I.cne x c e) hc nch ho (I.freeC x c e),hd⟩
 refine ⟨I.ok,I.os,hg,⟨fun b o e n hb hx=>?_,fun b o e n hb hx=>?_,fun b o e n hx=>?_,fun b o e hx=>?_,fun b xs e=>tups b xs (I.base.tups b xs e),fun b o xs e=>frzs b o xs (I.base.frzs b o xs e),fun b ps e=>?_⟩,?_,fun x c e=>?_,?_,fun x c e=>?_,fun p hp=>?_,hok,I.len⟩
 ·exact keep b o (neL b o e) hb (neC b o e hx) (I.base.keep b o e n hb hx) (I.base.free b o e n hx)
 ·obtain ⟨sl,e1⟩:=I.base.slot b o e n hb hx
  obtain ⟨sl',e2⟩:=slot b _ (neL b o e) hb (neC b o e hx) e1 (I.base.free b o e n hx)
  exact ⟨sl',e2⟩
 ·obtain ⟨o',e1⟩:=I.base.there b o e hx
  exact free b o' (neC b o e hx) e1 (I.base.free b o e n hx)
 ·obtain ⟨o',e1⟩:=I.base.there b o e hx
  exact there b o' (neC b o e hx) e1
 ·obtain ⟨m1,e1⟩:=I.base.tbls b ps e
  obtain ⟨m2,e2⟩:=tbls b _ e1
  exact ⟨m1++m2,by rw [e2,Array.append_assoc]⟩
 ·obtain ⟨m,hn,hl⟩:=I.loc
  refine ⟨m,ns m hn,fun i x v e1 e2 e3=>?_⟩
  obtain ⟨u,r,l⟩:=hl i x v e1 e2 e3
  refine ⟨u,r,?_⟩
  rcases l with l | ⟨k,c,e,z⟩
  ·exact .inl l
  ·exact .inr ⟨k,c,e,cellK x c e _ z⟩
 ·obtain ⟨v,z⟩:=I.cell x c e
  exact ⟨v,cellK x c e v z⟩
 ·obtain ⟨m,⟨o,_,_,ho,_⟩,_⟩:=I.loc
  exact free _ o (fun z=>(hch _ z).2.1 rfl) ho I.free
 ·obtain ⟨v,o,ho,hd⟩:=I.cell x c e
  exact free c o (fun z=>(hch c z).2.2.1 x c e rfl) ho (I.freeC x c e)
 ·obtain ⟨e,n,ne,nf,d⟩:=I.pin p hp
  have nch:p.1∉ch:=fun z=>(hch p.1 z).2.2.2 p hp rfl
  exact ⟨keep p.1 p.2 ne nf nch e n,free p.1 p.2 nch e n,ne,nf,d⟩
theorem Inv.un {t':Nat} (I:Inv X pins σ H s) (u:Un X.fs [] H H' s.heap h') (hok:HOk X.prog X.w H' h'):Inv X pins σ H' { s with heap:=h',toks:=t' }:=by
 obtain ⟨m,⟨o,es,ep,ho,r⟩,_⟩:=id I.loc
 obtain ⟨sl,hL⟩:=u.any ho I.free (by simp)
 exact I.step (g':=s.gens) (d':=s.drawn) (ch:=[]) (fun _ z=>nomatch z) (fun b o _ hb _ e n=>u.keep b o e n hb (by simp)) (fun b o _ hb _ e n=>u.slot b o e n hb (by simp)) (fun b o _ e n=>u.free b o e n (by simp)) (fun b o _ e=>u.there b o e (by simp)) u.tups u.frzs u.tbls (fun m' hm=>by
  obtain ⟨o',es',ep',ho',r'⟩:=hm
  rw [ho] at ho';cases ho'
  exact ⟨_,es',ep',hL,r'⟩) hok I.bare
theorem Inv.call {g':Array GenState} {t':Nat} {d':Drawn} {ch:List Addr} (I:Inv X pins σ H s) (u:Un (frs X.stack) ch H H' s.heap h') (hok:HOk X.prog X.w H' h') (hg:AllBare g')
  (hch:∀ b∈ch,(b∈X.ex∨X.s₀.heap.objs.size≤b)∧b≠X.env.locals∧(∀ x c,X.env.cells.lookup x=some c→c≠b)∧∀ p∈X.pn++pins,p.1≠b):
  Inv X pins σ H' { s with heap:=h',gens:=g',drawn:=d',toks:=t' }:=by
 obtain ⟨m,⟨o,es,ep,ho,r⟩,_⟩:=id I.loc
 obtain ⟨sl,hL⟩:=u.any ho I.free fun z=>(hch _ z).2.1 rfl
 exact I.step (ch:=ch) hch (fun b o hL hb hc e n=>u.keep b o e n (fun z=>(List.mem_cons.mp (I.stkSub b z)).elim hL hb) hc) (fun b o _ _ hc e n=>u.any e n hc) (fun b o hc e n=>u.free b o e n hc) (fun b o hc e=>u.there b o e hc) u.tups u.frzs u.tbls (fun m' hm=>by
  obtain ⟨o',es',ep',ho',r'⟩:=hm
  rw [ho] at ho';cases ho'
  exact ⟨_,es',ep',hL,r'⟩) hok hg
theorem Inv.turned {t':Nat} {it:Addr} (I:Inv X pins σ H s) (k:∀ b o,b≠it→s.heap.get? b=some o→h'.get? b=some o) (hn:H it=none) (hL:it≠X.env.locals)
  (h1:it∈X.ex∨X.s₀.heap.objs.size≤it) (h2:∀ x c,X.env.cells.lookup x=some c→c≠it) (h3:∀ p∈X.pn++pins,p.1≠it):Inv X pins σ H { s with heap:=h',toks:=t' }:=by
 have nit:∀ b u,H b=some u→b≠it:=fun b u e z=>by rw [z,hn] at e;cases e
 refine I.step (g':=s.gens) (d':=s.drawn) (ch:=[it]) (fun b hb=>?_) (fun b o _ _ hc e _=>k b o (fun z=>hc (by simp [z])) e) (fun b o _ _ hc e _=>⟨o.slots,k b o (fun z=>hc (by simp [z])) e⟩) (fun _ _ _ _ n=>n)
  (fun b o hc e=>⟨o,k b o (fun z=>hc (by simp [z])) e⟩) (fun _ _ e=>e) (fun _ _ _ e=>e) (fun b ps e=>⟨#[],by rw [e];simp⟩) (fun m hm=>?_) (fun b u e=>?_) I.bare
 ·have e:b=it:=by simpa using hb
  subst e
  exact ⟨h1,hL,h2,h3⟩
 ·obtain ⟨o,es,ep,ho,r⟩:=hm
  exact ⟨o,es,ep,k _ o (Ne.symm hL) ho,r⟩
 ·refine (I.hok b u e).stay (fun c v hc q=>k c v ?_ q) (fun _ q=>q) fun _ _ q=>q
  rcases hc with z | z
  ·rw [z];exact nit b u e
  ·exact nit c _ z
theorem Inv.tok (I:Inv X pins σ H s) (t:Nat):Inv X pins σ H { s with toks:=t }:=I.un (h':=s.heap) (t':=t) Un.refl I.hok
theorem Inv.kept {t':Nat} (I:Inv X pins σ H s) (k:∀ b u,s.heap.get? b=some u→h'.get? b=some u):Inv X pins σ H { s with heap:=h',toks:=t' }:=I.un (Un.kept k) (I.hok.kept k)
theorem Inv.laid {a:Addr} {o:HO} {t':Nat} (I:Inv X pins σ H s) (k:∀ b u,s.heap.get? b=some u→h'.get? b=some u) (hp:s.heap.objs.size≤a) (new:ObjOk X.prog X.w (upd H a o) h' a o):
  Inv X pins σ (upd H a o) { s with heap:=h',toks:=t' }:=I.un (Un.laid k hp (I.hok.fresh hp)) (I.hok.laid k hp new)
theorem Inv.write {x e:Addr} {o:HO} {t':Nat} (I:Inv X pins σ H s) (mu:Mut (H x)) (he:e=x∨H e=some (.own x)) (k:∀ b u,b≠e→s.heap.get? b=some u→h'.get? b=some u) (heo:∃ u,h'.get? e=some u)
  (new:ObjOk X.prog X.w (upd H x o) h' x o):Inv X pins σ (upd H x o) { s with heap:=h',toks:=t' }:=I.un (Un.write mu he k heo) (I.hok.write mu he k heo new)
theorem Inv.weak {σ':List (Option V)} (I:Inv X pins σ H s) (hl:σ'.length=σ.length) (w:∀ (i:Nat) v,σ'[i]? =some (some v)→σ[i]? =some (some v)):Inv X pins σ' H s:=
 ⟨I.ok,I.os,I.bare,I.base,let ⟨m,hn,hl'⟩:=I.loc;⟨m,hn,fun i x v e1 e2 e3=>hl' i x v e1 (w i v e2) e3⟩,I.cell,I.free,I.freeC,I.pin,I.hok,hl.trans I.len⟩
theorem Inv.pins_of {pins':List (Addr×Obj)} (I:Inv X pins σ H s) (h:∀ p∈pins',s.heap.get? p.1=some p.2∧H p.1=none∧p.1≠X.env.locals∧p.1∉X.fs∧∀ v,p.2.data≠.cell v):Inv X pins' σ H s:=
 ⟨I.ok,I.os,I.bare,I.base,I.loc,I.cell,I.free,I.freeC,fun p hp=>(List.mem_append.mp hp).elim (fun z=>I.pin p (List.mem_append_left _ z)) (h p),I.hok,I.len⟩
theorem nodup_ix {N:List Str} (hN:N.Nodup) {i j:Nat} {x:Str} (a:N[i]? =some x) (b:N[j]? =some x):i=j:=by
 obtain ⟨h1,e1⟩:=List.getElem?_eq_some_iff.mp a
 obtain ⟨h2,e2⟩:=List.getElem?_eq_some_iff.mp b
 exact (List.getElem_inj hN).mp (e1.trans e2.symm)
theorem store_ok2 {M:Model} {A:Around} {E:Value→Shared→Prop} {i:Nat} {x:Str} {v:V} {u:Value} {Q:Unit→Shared→Prop} (I:Inv X pins σ H s) (hN:X.N.Nodup) (hi:X.N[i]? =some x) (hx:Loc X.env.scope x) (r:RelV v u)
  (h:∀ s',Inv X pins (σ.set i (some v)) H s'→(∃ a,Heap.SameBut a s.heap s'.heap∧(a=X.env.locals∨X.env.cells.lookup x=some a))→Q () s') (hf:X.fn x=true∨X.env.scope.names.lookup x=some .local:=by first | exact .inl rfl | exact .inr rfl | assumption):wpAny M A (storeName X.env x u) Q E s:=by
 obtain ⟨m,hn,hl⟩:=id I.loc
 have hcls:(X.env.scope.kind==.class||(X.env.scope.kind==.module&&X.env.locals != X.env.globals))=false:=by rw [I.ok.kind];rfl
 have hiσ:i < σ.length:=by rw [I.len];exact (List.getElem?_eq_some_iff.mp hi).1
 have cne:=I.cne
 have tracked:∀ {a:Addr} {h':Heap},(∃ o,s.heap.get? a=some o∧H a=none)→Heap.SameBut a s.heap h'→HOk X.prog X.w H h':=fun {a h'} ha hs b ob e=>by
  obtain ⟨_,_,hfree⟩:=ha
  refine (I.hok b ob e).stay (fun c w' hc q=>(hs.2 c ?_).trans q) (fun _ q=>q) fun _ _ q=>q
  rintro rfl
  rcases hc with rfl | hc
  ·rw [hfree] at e;cases e
  ·rw [hfree] at hc;cases hc
 rcases hx with hk | hk
 ·refine wpAny_storeName_local hk hn (fun h' hn' hs=>?_) hcls
  obtain ⟨oL,_,_,hoL,_⟩:=id hn
  refine h _ ⟨I.ok,I.os,I.bare,⟨fun b o e n hb hx=>?_,fun b o e n hb hx=>?_,I.base.free,fun b o e hx=>?_,I.base.tups,I.base.frzs,I.base.tbls⟩,⟨_,hn',fun j y v' e1 e2 e3=>?_⟩,fun y c e=>?_,I.free,I.freeC,fun p hp=>?_,tracked ⟨oL,hoL,I.free⟩ hs,by simpa using I.len⟩ ⟨_,hs,.inl rfl⟩
  ·exact (hs.2 b (Nat.ne_of_lt (Nat.lt_of_lt_of_le (Heap.lt_size e) I.ok.above))).trans (I.base.keep b o e n hb hx)
  ·obtain ⟨sl,e1⟩:=I.base.slot b o e n hb hx
   exact ⟨sl,(hs.2 b (Nat.ne_of_lt (Nat.lt_of_lt_of_le (Heap.lt_size e) I.ok.above))).trans e1⟩
  ·obtain ⟨o',e1⟩:=I.base.there b o e hx
   exact ⟨o',(hs.2 b (Nat.ne_of_lt (Nat.lt_of_lt_of_le (Heap.lt_size e) I.ok.above))).trans e1⟩
  ·by_cases hj:j=i
   ·subst hj
    rw [hi] at e1;cases e1
    rw [List.getElem?_set_self hiσ] at e2
    cases e2
    exact ⟨u,r,.inl ⟨hk,by simp⟩⟩
   ·rw [List.getElem?_set_ne (Ne.symm hj)] at e2
    obtain ⟨u',r',q⟩:=hl j y v' e1 e2 e3
    refine ⟨u',r',?_⟩
    rcases q with ⟨k,e⟩ | ⟨k,c,e,z⟩
    ·refine .inl ⟨k,?_⟩
     have:y≠x:=fun e=>hj (nodup_ix hN e1 (e▸hi))
     simp [this,e]
    ·exact .inr ⟨k,c,e,z.sameBut hs (cne y c e)⟩
  ·obtain ⟨w',z⟩:=I.cell y c e
   exact ⟨w',z.sameBut hs (cne y c e)⟩
  ·obtain ⟨e,n,ne,nf,d⟩:=I.pin p hp
   exact ⟨(hs.2 p.1 ne).trans e,n,ne,nf,d⟩
 ·have hfn:X.fn x=true:=by
   rcases hf with z | z
   ·exact z
   ·rw [z] at hk;cases hk
  obtain ⟨c,hc⟩:=I.ok.has x (.inl hk)
  obtain ⟨w',z⟩:=I.cell x c hc
  refine wpAny_storeName_cell I.ok.kind hk hc z (fun h' hc' hs=>?_)
  obtain ⟨oc,hoc,hocd⟩:=id z
  refine h { s with heap:=h' } ⟨I.ok,I.os,I.bare,⟨fun b o e n hb hx=>?_,fun b o e n hb hx=>?_,I.base.free,fun b o e hx=>?_,I.base.tups,I.base.frzs,I.base.tbls⟩,⟨m,hn.sameBut hs (Ne.symm (cne x c hc)),fun j y v' e1 e2 e3=>?_⟩,fun y c' e=>?_,I.free,I.freeC,fun p hp=>?_,tracked ⟨oc,hoc,I.freeC x c hc⟩ hs,by simpa using I.len⟩ ⟨c,hs,.inr hc⟩
  ·exact (hs.2 b (Nat.ne_of_lt (Nat.lt_of_lt_of_le (Heap.lt_size e) (I.ok.cab x c hfn hc)))).trans (I.base.keep b o e n hb hx)
  ·obtain ⟨sl,e1⟩:=I.base.slot b o e n hb hx
   exact ⟨sl,(hs.2 b (Nat.ne_of_lt (Nat.lt_of_lt_of_le (Heap.lt_size e) (I.ok.cab x c hfn hc)))).trans e1⟩
  ·obtain ⟨o',e1⟩:=I.base.there b o e hx
   exact ⟨o',(hs.2 b (Nat.ne_of_lt (Nat.lt_of_lt_of_le (Heap.lt_size e) (I.ok.cab x c hfn hc)))).trans e1⟩
  ·by_cases hj:j=i
   ·subst hj
    rw [hi] at e1;cases e1
    rw [List.getElem?_set_self hiσ] at e2
    cases e2
    exact ⟨u,r,.inr ⟨.inl hk,c,hc,hc'⟩⟩
   ·rw [List.getElem?_set_ne (Ne.symm hj)] at e2
    obtain ⟨u',r',q⟩:=hl j y v' e1 e2 e3
    refine ⟨u',r',?_⟩
    rcases q with q | ⟨k,c',e,z'⟩
    ·exact .inl q
    ·refine .inr ⟨k,c',e,z'.sameBut hs ?_⟩
     rintro rfl
     exact hj (nodup_ix hN e1 (I.ok.inj _ _ _ e hc▸hi))
  ·by_cases hcc:c'=c
   ·subst hcc;exact ⟨_,hc'⟩
   ·obtain ⟨w2,z2⟩:=I.cell y c' e
    exact ⟨w2,z2.sameBut hs hcc⟩
  ·obtain ⟨e,n,ne,nf,d⟩:=I.pin p hp
   refine ⟨(hs.2 p.1 ?_).trans e,n,ne,nf,d⟩
   intro q
   rw [q,hoc] at e
   have q':oc=p.2:=Option.some.inj e
   exact d w' (by rw [←q'];exact hocd)
theorem store_ok {M:Model} {A:Around} {E:Value→Shared→Prop} {i:Nat} {x:Str} {v:V} {u:Value} {Q:Unit→Shared→Prop} (I:Inv X pins σ H s) (hN:X.N.Nodup) (hi:X.N[i]? =some x) (hx:Loc X.env.scope x) (r:RelV v u)
  (h:∀ s',Inv X pins (σ.set i (some v)) H s'→Q () s') (hf:X.fn x=true∨X.env.scope.names.lookup x=some .local:=by first | exact .inl rfl | exact .inr rfl | assumption):wpAny M A (storeName X.env x u) Q E s:=
 store_ok2 I hN hi hx r (fun s' I' _=>h s' I') hf
theorem Inv.call' {s':Shared} {ch:List Addr} (I:Inv X pins σ H s) (ho:s'.os=s.os) (u:Un (frs X.stack) ch H H' s.heap s'.heap) (hok:HOk X.prog X.w H' s'.heap) (hg:AllBare s'.gens)
  (hch:∀ b∈ch,(b∈X.ex∨X.s₀.heap.objs.size≤b)∧b≠X.env.locals∧(∀ x c,X.env.cells.lookup x=some c→c≠b)∧∀ p∈X.pn++pins,p.1≠b):Inv X pins σ H' s':=by
 obtain ⟨h',g',d',t',o'⟩:=s'
 have e:o'=s.os:=ho
 subst e
 exact I.call (g':=g') (t':=t') (d':=d') u hok hg hch
end
noncomputable abbrev XK:=Value→Option Addr→Hp→Prop
noncomputable abbrev St:=List (Option V)
noncomputable abbrev VK:=V→Hp→Prop
noncomputable abbrev TE:=St→Hp→VK→Prop
noncomputable abbrev TT:=St→Hp→(Bool→Hp→Prop)→Prop
noncomputable abbrev TA:=St→Hp→(List V→Hp→Prop)→Prop
structure Ends where
 nx:St→Hp→Prop
 rt:VK
 bk:St→Hp→Prop:=fun _ _=>False
 ct:St→Hp→Prop:=fun _ _=>False
noncomputable abbrev TS:=Ends→St→Hp→Prop
noncomputable def EP (X:Cx) (pins:List (Addr×Obj)) (σ:St) (Q:VK) (u:Value) (s':Shared):Prop:=∃ v H',Inv X pins σ H' s'∧RelV v u∧Q v H'
noncomputable def TP (X:Cx) (pins:List (Addr×Obj)) (σ:St) (Q:Bool→Hp→Prop) (b:Bool) (s':Shared):Prop:=∃ H',Inv X pins σ H' s'∧Q b H'
noncomputable def AP (X:Cx) (pins:List (Addr×Obj)) (σ:St) (Q:List V→Hp→Prop) (us:List Value) (s':Shared):Prop:=∃ vs H',Inv X pins σ H' s'∧Vals vs us∧Q vs H'
noncomputable def SP (X:Cx) (pins:List (Addr×Obj)) (D:Ends) (f:Flow) (s':Shared):Prop:=
 match f with
 | .next=>∃ σ' H',Inv X pins σ' H' s'∧D.nx σ' H'
 | .brk=>∃ σ' H',Inv X pins σ' H' s'∧D.bk σ' H'
 | .cont=>∃ σ' H',Inv X pins σ' H' s'∧D.ct σ' H'
 | .ret u=>∃ v σ' H',Inv X pins σ' H' s'∧RelV v u∧D.rt v H'
noncomputable def PE (X:Cx) (e:Expr) (t:TE):Prop:=
 ∀ (pins:List (Addr×Obj)) (s:Shared) (σ:St) (H:Hp) (Q:VK),Inv X pins σ H s→t σ H Q→wpAny (model X.prog X.w) X.A (eval e X.env) (EP X pins σ Q) X.xe s
noncomputable def PT (X:Cx) (e:Expr) (t:TT):Prop:=
 ∀ (pins:List (Addr×Obj)) (s:Shared) (σ:St) (H:Hp) (Q:Bool→Hp→Prop),Inv X pins σ H s→t σ H Q→wpAny (model X.prog X.w) X.A (isTrue e X.env (eval e X.env)) (TP X pins σ Q) X.xe s
noncomputable def PW (X:Cx) (e:Expr) (t:TT):Prop:=
 ∀ (whole:Sem Value) (pins:List (Addr×Obj)) (s:Shared) (σ:St) (H:Hp) (Q:Bool→Hp→Prop),Inv X pins σ H s→t σ H Q→wpAny (model X.prog X.w) X.A (isTrue e X.env whole) (TP X pins σ Q) X.xe s
theorem PW.pt {X:Cx} {e:Expr} {t:TT} (h:PW X e t):PT X e t:=h _
noncomputable def PA (X:Cx) (es:List Expr) (t:TA):Prop:=
 ∀ (pos:Pos) (pins:List (Addr×Obj)) (s:Shared) (σ:St) (H:Hp) (Q:List V→Hp→Prop),Inv X pins σ H s→t σ H Q→wpAny (model X.prog X.w) X.A (spliced (backTo pos (starEach es X.env))) (AP X pins σ Q) X.xe s
noncomputable def PS (X:Cx) (st:Stmt) (t:TS):Prop:=
 ∀ (pins:List (Addr×Obj)) (s:Shared) (σ:St) (H:Hp) (D:Ends),Inv X pins σ H s→t D σ H→wpAny (model X.prog X.w) X.A (exec st X.env) (SP X pins D) X.xe s
noncomputable def PSs (X:Cx) (st:List Stmt) (t:TS):Prop:=
 ∀ (pins:List (Addr×Obj)) (s:Shared) (σ:St) (H:Hp) (D:Ends),Inv X pins σ H s→t D σ H→wpAny (model X.prog X.w) X.A (execs st X.env) (SP X pins D) X.xe s
theorem thn {α:Type} {t:Sem α} {Q Q':α→Shared→Prop} {M:Model} {A:Around} {E:Value→Shared→Prop} {s:Shared} (h:wpAny M A t Q E s) (hQ:∀ a s,Q a s→Q' a s):wpAny M A t Q' E s:=wpAny_mono h hQ fun _ _ x=>x
end L2
namespace L2
open PySem PySem.Spec PyProof.Rows
section
variable {X:Cx}
noncomputable def tVar (i:Nat):TE:=fun σ H Q=>∃ v,σ[i]? =some (some v)∧Q v H
noncomputable def tC (v:V):TE:=fun _ H Q=>Q v H
theorem pe_var {i:Nat} {x:Str} {pos:Pos} (hN:X.N[i]? =some x) (hv:Vis X.env.scope x) (hd:(x==("__debug__":Str))=false:=by decide) (hcd:(x==("__classdict__":Str))=false:=by decide):PE X (.Name x pos) (tVar i):=by
 intro pins s σ H Q I h
 obtain ⟨v,e,h⟩:=h
 obtain ⟨m,hn,hl⟩:=I.loc
 obtain ⟨u,r,l⟩:=hl i x v hN e hv
 have fin:EP X pins σ Q u s:=⟨v,H,I,r,h⟩
 rcases l with ⟨hk,hm⟩ | ⟨hk,c,hc,hcell⟩
 ·exact wpAny_Name (wpAny_loadName_local I.ok.kind hk hn hm fin) hd
 ·rcases hk with hk | hk
  ·exact wpAny_Name (wpAny_loadName_cell I.ok.kind hk hc hcell fin) hd
  ·exact wpAny_Name (wpAny_loadName_free I.ok.kind hk hc hcell fin hcd) hd
theorem pe_int {i j pos}:PE X (.Constant (.int i) j pos) (tC (.int i)):=fun _ _ _ H _ I h=>wpAny_Constant_int ⟨.int i,H,I.tok _,⟨_,rfl⟩,h⟩
theorem pe_bl {b j pos}:PE X (.Constant (.bool b) j pos) (tC (.bl b)):=fun _ _ _ H _ I h=>Constant_bool ⟨.bl b,H,I,rfl,h⟩
theorem pe_non {j pos}:PE X (.Constant .none j pos) (tC .non):=fun _ _ _ H _ I h=>Constant_none ⟨.non,H,I,rfl,h⟩
theorem pe_str {x j pos}:PE X (.Constant (.str x) j pos) (tC (.str x)):=fun _ _ _ H _ I h=>Calls.Constant_str ⟨.str x,H,I.tok _,⟨_,rfl⟩,h⟩
noncomputable def Gl (X:Cx) (x:Str):Prop:=X.env.kindOf x=some .globalImplicit
theorem ld_glob {E:Value→Shared→Prop} {pins:List (Addr×Obj)} {s:Shared} {σ:St} {H:Hp} {x:Str} {u:Value} {pos:Pos} {Q:Value→Shared→Prop} (I:Inv X pins σ H s) (hg:Gl X x) (hm:X.mg x=some u) (h:Q u s)
  (hd:(x==("__debug__":Str))=false:=by decide):wpAny (model X.prog X.w) X.A (eval (.Name x pos) X.env) Q E s:=
 Calls.Name_function_global I.ok.kind hg (Calls.loadGlobal_global (by rw [I.ok.glob];exact I.mod.glob.keeps I.bk) hm h) hd
theorem ld_blt {E:Value→Shared→Prop} {pins:List (Addr×Obj)} {s:Shared} {σ:St} {H:Hp} {x:Str} {u:Value} {pos:Pos} {Q:Value→Shared→Prop} (I:Inv X pins σ H s) (hg:Gl X x) (hm:X.mg x=none) (hv:bootBuiltins x=some u) (h:Q u s)
  (hn:x≠"__name__":=by decide) (hd:(x==("__debug__":Str))=false:=by decide):wpAny (model X.prog X.w) X.A (eval (.Name x pos) X.env) Q E s:=by
 obtain ⟨mb,h1,h2⟩:=I.mod.blt
 exact Calls.Name_function_global I.ok.kind hg (Calls.loadGlobal_builtin (by rw [I.ok.glob];exact I.mod.glob.keeps I.bk) hm (by rw [I.ok.blt];exact h1.keeps I.bk) ((h2 x hn).trans hv) h) hd
theorem pe_glob {x:Str} {v:V} {u:Value} {pos:Pos} (hg:Gl X x) (hm:X.mg x=some u) (r:RelV v u) (hd:(x==("__debug__":Str))=false:=by decide):PE X (.Name x pos) (tC v):=
 fun _ _ _ H _ I h=>ld_glob I hg hm ⟨v,H,I,r,h⟩ hd
theorem pe_bltn {x:Str} {v:V} {u:Value} {pos:Pos} (hg:Gl X x) (hm:X.mg x=none) (hv:bootBuiltins x=some u) (r:RelV v u) (hn:x≠"__name__":=by decide) (hd:(x==("__debug__":Str))=false:=by decide):PE X (.Name x pos) (tC v):=
 fun _ _ _ H _ I h=>ld_blt I hg hm hv ⟨v,H,I,r,h⟩ hn hd
variable {a b:Expr} {ta tb:TE} {pos:Pos}
noncomputable def tB (t:TE):TT:=fun σ H Q=>t σ H fun x H1=>∃ c,x=.bl c∧Q c H1
theorem pt_val {e:Expr} {t:TE} (h:PE X e t) (he:∀ whole,isTrue e X.env whole=(do let v ←whole;standAt e.pos;holding [v] (truthy v)):=by intro _;rfl):PT X e (tB t):=by
 intro pins s σ H Q I hw
 refine isTrue_plain (thn (h pins s σ H _ I hw) fun v s1 ⟨x,H1,I1,r1,q1⟩=>?_) (he _)
 obtain ⟨d,rfl,q⟩:=q1
 cases r1
 exact wpAny_truthy_bool ⟨H1,I1,q⟩
variable {tA tB':TT} {rest:List Expr}
noncomputable def tAnd (t u:TT):TT:=fun σ H Q=>t σ H fun c H1=>if c=true then u σ H1 Q else Q false H1
noncomputable def tOr (t u:TT):TT:=fun σ H Q=>t σ H fun c H1=>if c=true then Q true H1 else u σ H1 Q
noncomputable def tNot (t:TT):TT:=fun σ H Q=>t σ H fun c H1=>Q (!c) H1
theorem pw_and1 (ha:PT X a tA):PW X (.BoolOp .And [a] pos) tA:=by
 intro wh pins s σ H Q I h
 refine isTrue_and (thn (ha pins s σ H Q I h) fun c s1 e=>?_)
 cases c with
 | true=>exact isTrue_and_nil e
 | false=>exact e
theorem pw_or1 (ha:PT X a tA):PW X (.BoolOp .Or [a] pos) tA:=by
 intro wh pins s σ H Q I h
 refine isTrue_or (thn (ha pins s σ H Q I h) fun c s1 e=>?_)
 cases c with
 | false=>exact isTrue_or_nil e
 | true=>exact e
theorem pw_and (ha:PT X a tA) (hb:PW X (.BoolOp .And (b::rest) pos) tB'):PW X (.BoolOp .And (a::b::rest) pos) (tAnd tA tB'):=by
 intro wh pins s σ H Q I h
 refine isTrue_and (thn (ha pins s σ H _ I h) fun c s1 ⟨H1,I1,q1⟩=>?_)
 cases c with
 | true=>exact hb wh pins s1 σ H1 Q I1 q1
 | false=>exact ⟨H1,I1,q1⟩
theorem pw_or (ha:PT X a tA) (hb:PW X (.BoolOp .Or (b::rest) pos) tB'):PW X (.BoolOp .Or (a::b::rest) pos) (tOr tA tB'):=by
 intro wh pins s σ H Q I h
 refine isTrue_or (thn (ha pins s σ H _ I h) fun c s1 ⟨H1,I1,q1⟩=>?_)
 cases c with
 | true=>exact ⟨H1,I1,q1⟩
 | false=>exact hb wh pins s1 σ H1 Q I1 q1
theorem pt_not (ha:PT X a tA):PT X (.UnaryOp .Not a pos) (tNot tA):=by
 intro pins s σ H Q I h
 exact isTrue_not (ha pins s σ H (fun c H1=>Q (!c) H1) I h)
noncomputable def tAndV (ta tb:TE):TE:=fun σ H Q=>ta σ H fun x H1=>∃ c,x=.bl c∧if c=true then tb σ H1 Q else Q (.bl false) H1
noncomputable def tOrV (ta tb:TE):TE:=fun σ H Q=>ta σ H fun x H1=>∃ c,x=.bl c∧if c=true then Q (.bl true) H1 else tb σ H1 Q
noncomputable def tNotV (ta:TE):TE:=fun σ H Q=>ta σ H fun x H1=>∃ c,x=.bl c∧Q (.bl (!c)) H1
theorem pe_one {op} {t:TE} (h:PE X a t):PE X (.BoolOp op [a] pos) t:=fun pins s σ H Q I hw=>BoolOp_one (h pins s σ H Q I hw)
theorem pe_and (ha:PE X a ta) (hb:PE X (.BoolOp .And (b::rest) pos) tb):PE X (.BoolOp .And (a::b::rest) pos) (tAndV ta tb):=by
 intro pins s σ H Q I h
 refine BoolOp_and (thn (ha pins s σ H _ I h) fun v s1 ⟨x,H1,I1,r1,q1⟩=>?_)
 obtain ⟨c,rfl,q1⟩:=q1
 cases r1
 refine wpAny_truthy_bool ?_
 cases c with
 | true=>exact hb pins s1 σ H1 Q I1 q1
 | false=>exact ⟨.bl false,H1,I1,rfl,q1⟩
noncomputable def tIf (t:TT) (ta tb:TE):TE:=fun σ H Q=>t σ H fun c H1=>if c=true then ta σ H1 Q else tb σ H1 Q
theorem pe_ifExp {c:Expr} (hc:PT X c tA) (ha:PE X a ta) (hb:PE X b tb):PE X (.IfExp c a b pos) (tIf tA ta tb):=by
 intro pins s σ H Q I h
 refine wpAny_IfExp (thn (hc pins s σ H _ I h) fun d s1 ⟨H1,I1,q1⟩=>?_)
 cases d with
 | true=>exact ha pins s1 σ H1 Q I1 q1
 | false=>exact hb pins s1 σ H1 Q I1 q1
end
end L2
namespace L2
open PySem PySem.Spec PyProof.Rows
noncomputable def SqL (K:PySem.W.Frag) (H:Hp) (a:Addr) (xs:List V):Prop:=
 Rd H a (.lst xs)∨
  ∃ (o:Obj) (its:Array Value) (n:Nat),K.lookup a=some o∧o.cls=.type "list"∧o.dict=none∧o.data=.seq its n∧its.size≤sizeLine∧Vals xs its.toList
noncomputable def SqT (K:PySem.W.Frag) (H:Hp) (a:Addr) (xs:List V):Prop:=
 Rd H a (.tup xs)∨
  ∃ (o:Obj) (its:Array Value) (n:Nat),K.lookup a=some o∧o.cls=.type "tuple"∧o.data=.seq its n∧its.size≤sizeLine∧Vals xs its.toList
noncomputable def absV:Value→Option V
 | .none=>some .non
 | .bool b=>some (.bl b)
 | .int i _=>some (.int i)
 | .str x _=>some (.str x)
 | .bytes b _=>some (.byt b)
 | .float b _=>some (.flt b)
 | .ref a=>some (.ref a)
 | .type n=>some (.ty n)
 | _=>none
theorem RelV.abs {x:V} {u:Value} (r:RelV x u):absV u=some x:=by
 cases x with
 | non=>cases r;rfl
 | bl _=>cases r;rfl
 | int _=>obtain ⟨t,rfl⟩:=r;rfl
 | str _=>obtain ⟨t,rfl⟩:=r;rfl
 | byt _=>obtain ⟨t,rfl⟩:=r;rfl
 | flt _=>obtain ⟨t,rfl⟩:=r;rfl
 | ref _=>cases r;rfl
 | ty _=>cases r;rfl
theorem RelV.inj {x y:V} {u:Value} (r:RelV x u) (q:RelV y u):x=y:=Option.some.inj (r.abs.symm.trans q.abs)
theorem Vals.inj:∀ {xs ys:List V} {us:List Value},Vals xs us→Vals ys us→xs=ys
 | _,_,_,.nil,.nil=>rfl
 | _,_,_,.cons r t,.cons r' t'=>by rw [r.inj r',Vals.inj t t']
section
variable {X:Cx} {pins:List (Addr×Obj)} {σ:St} {H:Hp} {s:Shared} {a:Addr} {xs ys:List V}
theorem SqL.of {K:PySem.W.Frag} (h:H a=some (.lst xs)):SqL K H a xs:=.inl (.inl h)
theorem SqT.of {K:PySem.W.Frag} (h:H a=some (.tup xs)):SqT K H a xs:=.inl (.inl h)
theorem Inv.list (I:Inv X pins σ H s) (h:SqL X.K H a xs):∃ its:List Value,Vals xs its∧PlainL s.heap a its.toArray∧xs.length≤sizeLine:=by
 rcases h with h | ⟨o,its,n,hk,hc,hd,hs,hz,r⟩
 ·obtain ⟨z,its,n,r,e⟩:=h.ok I.hok
  exact ⟨its,r,⟨_,n,e,rfl,rfl,rfl⟩,z⟩
 ·refine ⟨its.toList,r,⟨o,n,I.kIn a o hk,hc,hd,by simpa using hs⟩,?_⟩
  have e:=r.length
  simp only [Array.length_toList] at e
  lia
theorem Inv.tuple (I:Inv X pins σ H s) (h:SqT X.K H a xs):∃ its:List Value,Vals xs its∧IsTup s.heap a its.toArray∧xs.length≤sizeLine:=by
 rcases h with h | ⟨o,its,n,hk,hc,hs,hz,r⟩
 ·obtain ⟨z,its,r,p⟩:=h.ok I.hok
  exact ⟨its,r,p.1,z⟩
 ·refine ⟨its.toList,r,⟨o,I.kIn a o hk,hc,n,by simpa using hs⟩,?_⟩
  have e:=r.length
  simp only [Array.length_toList] at e
  lia
theorem Inv.list_inj (I:Inv X pins σ H s) (h:SqL X.K H a xs) (h':SqL X.K H a ys):xs=ys:=by
 obtain ⟨its,r,⟨o,n,e,_,_,d⟩,_⟩:=I.list h
 obtain ⟨its',r',⟨o',n',e',_,_,d'⟩,_⟩:=I.list h'
 rw [e] at e';cases e'
 rw [d] at d'
 injection d' with d1 _
 have:its=its':=by simpa using congrArg Array.toList d1
 subst this
 exact r.inj r'
theorem Inv.tuple_inj (I:Inv X pins σ H s) (h:SqT X.K H a xs) (h':SqT X.K H a ys):xs=ys:=by
 obtain ⟨its,r,⟨o,e,_,n,d⟩,_⟩:=I.tuple h
 obtain ⟨its',r',⟨o',e',_,n',d'⟩,_⟩:=I.tuple h'
 rw [e] at e';cases e'
 rw [d] at d'
 injection d' with d1 _
 have:its=its':=by simpa using congrArg Array.toList d1
 subst this
 exact r.inj r'
end
noncomputable abbrev Cx.wish (X:Cx) (E:Value→Shared→Prop):Cx:={ X with xe:=E }
noncomputable abbrev Cx.nox (X:Cx):Cx:=X.wish fun _ _=>False
theorem Cx.Ok.wish {X:Cx} (ok:X.Ok) (E:Value→Shared→Prop):(X.wish E).Ok:=
 ⟨ok.mod,ok.kind,ok.glob,ok.blt,ok.above,ok.inj,ok.has,ok.cab,ok.hd,ok.frames,ok.stk,ok.exf,ok.bs,ok.bsz,ok.noex,ok.exfs,ok.funs,ok.frf⟩
theorem Cx.Ok.unwish {X:Cx} {E:Value→Shared→Prop} (ok:(X.wish E).Ok):X.Ok:=
 ⟨ok.mod,ok.kind,ok.glob,ok.blt,ok.above,ok.inj,ok.has,ok.cab,ok.hd,ok.frames,ok.stk,ok.exf,ok.bs,ok.bsz,ok.noex,ok.exfs,ok.funs,ok.frf⟩
section
variable {X:Cx} {pins:List (Addr×Obj)} {σ:St} {H:Hp} {s:Shared} {E:Value→Shared→Prop}
theorem Inv.wish (I:Inv X pins σ H s) (E:Value→Shared→Prop):Inv (X.wish E) pins σ H s:=⟨I.ok.wish E,I.os,I.bare,I.base,I.loc,I.cell,I.free,I.freeC,I.pin,I.hok,I.len⟩
theorem Inv.unwish (I:Inv (X.wish E) pins σ H s):Inv X pins σ H s:=⟨I.ok.unwish,I.os,I.bare,I.base,I.loc,I.cell,I.free,I.freeC,I.pin,I.hok,I.len⟩
theorem SP.unwish {D:Ends} {f:Flow} {s':Shared} (h:SP (X.wish E) pins D f s'):SP X pins D f s':=by
 cases f with
 | next=>obtain ⟨σ',H',I,q⟩:=h;exact ⟨σ',H',I.unwish,q⟩
 | brk=>obtain ⟨σ',H',I,q⟩:=h;exact ⟨σ',H',I.unwish,q⟩
 | cont=>obtain ⟨σ',H',I,q⟩:=h;exact ⟨σ',H',I.unwish,q⟩
 | ret u=>obtain ⟨v,σ',H',I,r,q⟩:=h;exact ⟨v,σ',H',I.unwish,r,q⟩
theorem PE.nox {e:Expr} {t:TE} (h:PE X.nox e t):PE X e t:=fun pins s σ H Q I hw=>
 wpAny_mono (h pins s σ H Q (I.wish _) hw) (fun _ _ ⟨v,H',I',r,q⟩=>⟨v,H',I'.unwish,r,q⟩) fun _ _ z=>False.elim z
theorem PT.nox {e:Expr} {t:TT} (h:PT X.nox e t):PT X e t:=fun pins s σ H Q I hw=>
 wpAny_mono (h pins s σ H Q (I.wish _) hw) (fun _ _ ⟨H',I',q⟩=>⟨H',I'.unwish,q⟩) fun _ _ z=>False.elim z
theorem PSs.nox {st:List Stmt} {t:TS} (h:PSs X.nox st t):PSs X st t:=fun pins s σ H D I hw=>
 wpAny_mono (h pins s σ H D (I.wish _) hw) (fun _ _ q=>q.unwish) fun _ _ z=>False.elim z
end
section
variable {X:Cx} {st:Stmt} {rest:List Stmt} {t u:TS} {e:Expr} {te:TE} {pos:Pos}
noncomputable def tNext:TS:=fun D σ H=>D.nx σ H
noncomputable def tSeq (t u:TS):TS:=fun D σ H=>t { D with nx:=u D } σ H
theorem pss_nil:PSs X [] tNext:=fun _ _ σ H _ I h=>wpAny_execs_nil ⟨σ,H,I,h⟩
theorem pss_cons (h1:PS X st t) (h2:PSs X rest u):PSs X (st::rest) (tSeq t u):=by
 intro pins s σ H D I h
 refine wpAny_execs_cons (thn (h1 pins s σ H { D with nx:=u D } I h) fun f s1 q=>?_)
 cases f with
 | next=>
  obtain ⟨σ',H',I',q⟩:=q
  exact h2 pins s1 σ' H' D I' q
 | ret v=>exact q
 | brk=>exact q
 | cont=>exact q
theorem pss_one (h1:PS X st t):PSs X [st] t:=by
 intro pins s σ H D I h
 refine wpAny_execs_cons (thn (h1 pins s σ H D I h) fun f s1 q=>?_)
 cases f with
 | next=>exact wpAny_execs_nil q
 | ret v=>exact q
 | brk=>exact q
 | cont=>exact q
theorem Inv.quiet {pins:List (Addr×Obj)} {σ:St} {H:Hp} {s:Shared} (I:Inv X pins σ H s):interactive X.env=false:=by simp [interactive,I.ok.kind]
noncomputable def tDrop (te:TE):TS:=fun D σ H=>te σ H fun _ H1=>D.nx σ H1
theorem ps_expr (he:PE X e te) (hs:swapsWith e none pos.line X.env=pure false:=by rfl):PS X (.Expr e pos) (tDrop te):=by
 intro pins s σ H D I h
 exact wpAny_Expr_any (thn (he pins s σ H _ I h) fun v s1 ⟨x,H1,I1,r1,q1⟩=>⟨σ,H1,I1,q1⟩) I.quiet hs
noncomputable def tRet (te:TE):TS:=fun D σ H=>te σ H D.rt
theorem ps_ret (he:PE X e te):PS X (.Return (some e) pos) (tRet te):=by
 intro pins s σ H D I h
 exact wpAny_Return_some (thn (he pins s σ H _ I h) fun v s1 ⟨x,H1,I1,r1,q1⟩=>⟨x,σ,H1,I1,r1,q1⟩)
noncomputable def tIfS (c:TT) (t u:TS):TS:=fun D σ H=>c σ H fun b H1=>if b=true then t D σ H1 else u D σ H1
theorem ps_if {c:Expr} {a b:List Stmt} {tc:TT} (hc:PT X c tc) (ha:PSs X a t) (hb:PSs X b u):PS X (.If c a b pos) (tIfS tc t u):=by
 intro pins s σ H D I h
 refine wpAny_If (thn (hc pins s σ H _ I h) fun d s1 ⟨H1,I1,q1⟩=>?_)
 cases d with
 | true=>exact ha pins s1 σ H1 D I1 q1
 | false=>exact hb pins s1 σ H1 D I1 q1
noncomputable def tNever:TS:=fun _ _ _=>False
theorem ps_never:PS X st tNever:=fun _ _ _ _ _ _ h=>h.elim
end
noncomputable abbrev TG:=V→St→Hp→(St→Hp→Prop)→Prop
noncomputable abbrev TGs:=List V→St→Hp→(St→Hp→Prop)→Prop
noncomputable def PG (X:Cx) (target:Expr) (t:TG):Prop:=
 ∀ (pins:List (Addr×Obj)) (s:Shared) (σ:St) (H:Hp) (v:V) (u:Value) (Q:St→Hp→Prop),Inv X pins σ H s→RelV v u→t v σ H Q→
  wpAny (model X.prog X.w) X.A (assign target X.env u) (fun _ s'=>∃ σ' H',Inv X pins σ' H' s'∧Q σ' H') X.xe s
noncomputable def PGs (X:Cx) (ts:List Expr) (t:TGs):Prop:=
 ∀ (pins:List (Addr×Obj)) (s:Shared) (σ:St) (H:Hp) (vs:List V) (us:List Value) (Q:St→Hp→Prop),Inv X pins σ H s→Vals vs us→t vs σ H Q→
  wpAny (model X.prog X.w) X.A (assignInOrder ((assignEach ts X.env).map (·.2)) us) (fun _ s'=>∃ σ' H',Inv X pins σ' H' s'∧Q σ' H') X.xe s
noncomputable abbrev TSet:=V→V→V→Hp→(Hp→Prop)→Prop
section
variable {X:Cx} {pos:Pos}
noncomputable def gName (i:Nat):TG:=fun v σ H Q=>Q (σ.set i (some v)) H
theorem pg_name {i:Nat} {x:Str} (hN:X.N.Nodup) (hi:X.N[i]? =some x) (hx:Loc X.env.scope x) (hf:X.fn x=true∨X.env.scope.names.lookup x=some .local:=by first | exact .inl rfl | exact .inr rfl | assumption):PG X (.Name x pos) (gName i):=by
 intro pins s σ H v u Q I r h
 exact wpAny_assign_Name (store_ok I hN hi hx r (fun s' I'=>⟨_,H,I',h⟩) hf)
noncomputable def gNil:TGs:=fun vs σ H Q=>vs=[]∧Q σ H
noncomputable def gCons (t:TG) (u:TGs):TGs:=fun vs σ H Q=>∃ v r,vs=v::r∧t v σ H fun σ' H'=>u r σ' H' Q
theorem pgs_nil:PGs X [] gNil:=by
 intro pins s σ H vs us Q I r h
 obtain ⟨e,h⟩:=h
 subst e
 cases r
 exact assignInOrder_nil ⟨σ,H,I,h⟩
theorem pgs_cons {e:Expr} {es:List Expr} {t:TG} {u:TGs} (h1:PG X e t) (h2:PGs X es u)
  (hs:(assignEach (e::es) X.env).map (·.2)=assign e X.env::(assignEach es X.env).map (·.2):=by rfl):PGs X (e::es) (gCons t u):=by
 intro pins s σ H vs us Q I r h
 obtain ⟨v,vr,e1,h⟩:=h
 subst e1
 cases r with
 | cons r rr=>
  rw [hs]
  refine assignInOrder_cons (thn (h1 pins s σ H _ _ _ I r h) fun _ s1 ⟨σ1,H1,I1,q1⟩=>?_)
  exact h2 pins s1 σ1 H1 _ _ Q I1 rr q1
noncomputable def gTup (K:PySem.W.Frag) (n:Nat) (t:TGs):TG:=fun v σ H Q=>∃ a xs,v=.ref a∧SqT K H a xs∧xs.length=n∧t xs σ H Q
theorem pg_tup {es:List Expr} {k:Nat} {t:TGs} {n:Nat} (hc:X.calm=true) (h:PGs X es t)
  (hn:(assignEach es X.env).length=n:=by rfl) (hst:(assignEach es X.env).findIdx? (·.1)=none:=by rfl):PG X (.Tuple es k pos) (gTup X.K n t):=by
 intro pins s σ H v u Q I r hw
 obtain ⟨a,xs,e1,hq,hl,hw⟩:=hw
 subst e1
 cases r
 obtain ⟨its,rv,ht,hz⟩:=I.tuple hq
 refine assign_Tuple_tuple (I.ok.hd hc) ht (by simp [hn,←hl,rv.length]) hst fun h' hx=>?_
 have I1:Inv X pins σ H { s with heap:=h' }:=I.kept (t':=s.toks) fun b o e=>hx b o (Nat.ne_of_lt (Heap.lt_size e)) e
 exact h pins _ σ H xs _ Q I1 (by simpa using rv) hw
noncomputable def gSub (to ti:TE) (t:TSet):TG:=fun v σ H Q=>to σ H fun o H1=>ti σ H1 fun i H2=>t o i v H2 fun H3=>Q σ H3
noncomputable def tAsg (te:TE) (g:TG):TS:=fun D σ H=>te σ H fun x H1=>g x σ H1 D.nx
theorem ps_asg {tg e:Expr} {te:TE} {g:TG} (he:PE X e te) (hg:PG X tg g) (hs:swapsWithSole [tg] e pos.line X.env=pure false:=by rfl) (hw:swappedStores [tg] e X.env=pure none:=by rfl)
  (h1:(assignEach [tg] X.env).map (·.2)=[assign tg X.env]:=by rfl):PS X (.Assign [tg] e pos) (tAsg te g):=by
 intro pins s σ H D I h
 refine wpAny_Assign_stores (thn (he pins s σ H _ I h) fun v s1 ⟨x,H1,I1,r1,q1⟩=>?_) hs hw
 rw [h1]
 exact thn (hg pins s1 σ H1 x v _ I1 r1 q1) fun _ s2 q=>q
theorem ps_set {i:Nat} {x:Str} {e:Expr} {te:TE} {pos':Pos} (hN:X.N.Nodup) (hi:X.N[i]? =some x) (hx:Loc X.env.scope x) (he:PE X e te) (hs:swapsWith e (some (.Name x pos')) pos.line X.env=pure false:=by rfl) (hf:X.fn x=true∨X.env.scope.names.lookup x=some .local:=by first | exact .inl rfl | exact .inr rfl | assumption):
  PS X (.Assign [.Name x pos'] e pos) (tAsg te (gName i)):=by
 intro pins s σ H D I h
 refine wpAny_Assign_Name (thn (he pins s σ H _ I h) fun v s1 ⟨y,H1,I1,r1,q1⟩=>?_) hs
 exact store_ok I1 hN hi hx r1 (fun s2 I2=>⟨_,H1,I2,q1⟩) hf
end
section
variable {X:Cx} {pos:Pos}
noncomputable def tWhile (c:TT) (tb:TS):TS:=fun D σ H=>∃ W:Nat→St→Hp→Prop,(∃ m,W m σ H)∧∀ m σ H,W m σ H→
 c σ H fun b H1=>if b=true then ∃ N:St→Hp→Prop,(∀ σ' H',N σ' H'→∃ m',m' < m∧W m' σ' H')∧tb { D with nx:=N,ct:=N,bk:=D.nx } σ H1 else D.nx σ H1
end
structure It where
 go:Nat→Hp→Prop
 yld:Nat→Hp→V→Hp→Prop
 stop:Nat→Hp→Prop
noncomputable def FpOk (X:Cx) (pins:List (Addr×Obj)) (H:Hp) (b:Addr):Prop:=
 H b=none∧b≠X.env.locals∧b∉X.fs∧(b∈X.ex∨X.s₀.heap.objs.size≤b)∧(∀ x c,X.env.cells.lookup x=some c→c≠b)∧∀ p∈X.pn++pins,p.1≠b
theorem Inv.fpOk {X:Cx} {pins:List (Addr×Obj)} {σ:St} {H H':Hp} {s:Shared} {b:Addr} (I:Inv X pins σ H s) (hb:s.heap.objs.size≤b) (hn:H' b=none):FpOk X pins H' b:=by
 refine ⟨hn,Nat.ne_of_gt (Nat.lt_of_lt_of_le I.lt hb),I.nofs hb,.inr (Nat.le_trans I.sz hb),fun x c e z=>?_,fun p hp z=>?_⟩
 ·obtain ⟨v,q⟩:=I.cell x c e
  exact absurd (Nat.lt_of_lt_of_le q.lt (by rw [z];exact hb)) (Nat.lt_irrefl _)
 ·exact absurd (Nat.lt_of_lt_of_le (Heap.lt_size (I.pin p hp).1) (by rw [z];exact hb)) (Nat.lt_irrefl _)
structure Turn (P:Program) (w:World) (K:PySem.W.Frag) (tg:Expr) (J:It) (fp:List Addr) (it:Addr) (tn:Nat→Heap→Prop):Prop where
 mem:it∈fp
 obj:∀ i h,tn i h→∀ b∈fp,∃ o,h.get? b=some o∧∀ v,o.data≠.cell v
 keep:∀ i h h',tn i h→(∀ b∈fp,∀ o,h.get? b=some o→h'.get? b=some o)→tn i h'
 item:∀ (X:Cx),X.prog=P→X.w=w→X.K=K→X.calm=true→∀ (i:Nat) (pins:List (Addr×Obj)) (s:Shared) (σ:St) (H:Hp) (E:Value→Shared→Prop),Inv X pins σ H s→(∀ b∈fp,FpOk X pins H b)→tn i s.heap→J.go i H→
  wpAny (model P w) X.A (pyNext (.ref it)) (fun r s1=>∃ u,r=some u∧
   wpAny (model P w) X.A (letOwnedTupleGo tg (.ref it) u) (fun _ s2=>∃ x H',Inv X pins σ H' s2∧RelV x u∧J.yld i H x H'∧tn (i + 1) s2.heap∧∀ b∈fp,H' b=none) E s1) E s
 done:∀ (X:Cx),X.prog=P→X.w=w→X.K=K→X.calm=true→∀ (i:Nat) (pins:List (Addr×Obj)) (s:Shared) (σ:St) (H:Hp) (E:Value→Shared→Prop),Inv X pins σ H s→(∀ b∈fp,FpOk X pins H b)→tn i s.heap→J.stop i H→
  wpAny (model P w) X.A (pyNext (.ref it)) (fun r s1=>r=none∧Inv X pins σ H s1) E s
 self:∀ (A:Around) (i:Nat) (s:Shared) (Q:Value→Shared→Prop) (E:Value→Shared→Prop),tn i s.heap→Q (.ref it) s→wpAny (model P w) A (pyIter (.ref it)) Q E s
noncomputable abbrev TI:=St→Hp→(It→Hp→Prop)→Prop
noncomputable def PIE (X:Cx) (pins:List (Addr×Obj)) (σ:St) (tg:Expr) (R:It→Hp→Prop) (itv:Value) (s2:Shared):Prop:=
 ∃ (it:Addr) (fp:List Addr) (tn:Nat→Heap→Prop) (J:It) (H':Hp),itv=.ref it∧Inv X pins σ H' s2∧Turn X.prog X.w X.K tg J fp it tn∧tn 0 s2.heap∧(∀ b∈fp,FpOk X pins H' b)∧R J H'
noncomputable def PI (X:Cx) (tg iter:Expr) (wi:TI):Prop:=
 ∀ (pins:List (Addr×Obj)) (s:Shared) (σ:St) (H:Hp) (R:It→Hp→Prop),Inv X pins σ H s→wi σ H R→
  wpAny (model X.prog X.w) X.A (eval iter X.env) (fun v s1=>wpAny (model X.prog X.w) X.A (pyIter v) (PIE X pins σ tg R) X.xe s1) X.xe s
theorem go_of {M:Model} {A:Around} {E:Value→Shared→Prop} {s:Shared} {tg:Expr} {it:Addr} {u:Value} {o:Obj} {n:String} {vs:Array Value} {Q:Unit→Shared→Prop} (ho:s.heap.get? it=some o) (hc:o.cls=.type n) (hd:o.data=.fields vs)
    (hn:["enumerate","zip","dict_itemiterator","dict_reverseitemiterator","odict_iterator","itertools.zip_longest","itertools.pairwise"].contains n=false) (hQ:Q () s):wpAny M A (letOwnedTupleGo tg (.ref it) u) Q E s:=by
  unfold letOwnedTupleGo
  cases tg <;> first
    | exact wpAny_pure hQ
    | (cases u <;> first
        | exact wpAny_pure hQ
        | (refine wpAny_bind (wpAny_load ho ?_)
           rw [hc,hd]
           show wpAny M A (if (["enumerate","zip","dict_itemiterator","dict_reverseitemiterator","odict_iterator","itertools.zip_longest","itertools.pairwise"].contains n&&vs[0]? ==some (rawInt _))=true then _ else _) Q E s
           rw [if_neg (by intro h;rw [hn,Bool.false_and] at h;cases h)]
           exact wpAny_pure hQ))
noncomputable def Itl (K:PySem.W.Frag) (a:Addr):It:=
 ⟨fun i H=>∃ xs x,SqL K H a xs∧xs[i]? =some x,fun i H x H'=>H'=H∧∀ xs,SqL K H a xs→xs[i]? =some x,fun i H=>∃ xs,SqL K H a xs∧xs.length≤i⟩
noncomputable def Itt (K:PySem.W.Frag) (a:Addr):It:=
 ⟨fun i H=>∃ xs x,SqT K H a xs∧xs[i]? =some x,fun i H x H'=>H'=H∧∀ xs,SqT K H a xs→xs[i]? =some x,fun i H=>∃ xs,SqT K H a xs∧xs.length≤i⟩
noncomputable def Itr (lo:Int) (n:Nat):It:=⟨fun i _=>i < n,fun i H x H'=>H'=H∧x=.int (lo + i),fun i _=>n≤i⟩
theorem turn_list {P:Program} {w:World} {K:PySem.W.Frag} {tg:Expr} (a it:Addr):Turn P w K tg (Itl K a) [it] it (fun i h=>h.IsListIter it a i) where
 mem:=by simp
 obj:=fun i h st b hb=>by
  have e:b=it:=by simpa using hb
  subst e
  obtain ⟨o,e,c,d⟩:=st
  exact ⟨o,e,fun v z=>by rw [d] at z;cases z⟩
 keep:=fun i h h' st k=>st.at fun o e=>k it (by simp) o e
 item:=by
  intro X hP hw hK hc i pins s σ H E I hf st hg
  subst hP hw hK
  obtain ⟨xs,x,hq,hx⟩:=hg
  obtain ⟨its,rv,p,hz⟩:=I.list hq
  obtain ⟨u,hu,ru⟩:=rv.get hx
  obtain ⟨f0,f1,f2,f3,f4,f5⟩:=hf it (by simp)
  refine wpAny_pyNext_list_item st p.isList (x:=u) (by simpa using hu) fun h' st' sb=>?_
  have I1:Inv X pins σ H { s with heap:=h' }:=I.turned (t':=s.toks) (fun b o hb e=>(sb.2 b hb).trans e) f0 f1 f3 f4 f5
  obtain ⟨o,e,c,d⟩:=id st'
  exact ⟨u,rfl,go_of (s:={ s with heap:=h' }) e c d (by decide) ⟨x,H,I1,ru,⟨rfl,fun ys hy=>by rw [I.list_inj hy hq];exact hx⟩,st',fun b hb=>(hf b hb).1⟩⟩
 done:=by
  intro X hP hw hK hc i pins s σ H E I hf st hg
  subst hP hw hK
  obtain ⟨xs,hq,hx⟩:=hg
  obtain ⟨its,rv,p,hz⟩:=I.list hq
  obtain ⟨f0,f1,f2,f3,f4,f5⟩:=hf it (by simp)
  have hl:=rv.length
  exact wpAny_pyNext_list_end (I.ok.hd hc) st p.isList (by simp;lia) fun h' eb=>⟨rfl,I.turned (t':=s.toks) (fun b o hb e=>eb b o hb e) f0 f1 f3 f4 f5⟩
 self:=fun _ _ _ _ _ st h=>wpAny_pyIter_listiter st h
theorem turn_tuple {P:Program} {w:World} {K:PySem.W.Frag} {tg:Expr} (a it:Addr):Turn P w K tg (Itt K a) [it] it (fun i h=>h.IsTupleIter it a i) where
 mem:=by simp
 obj:=fun i h st b hb=>by
  have e:b=it:=by simpa using hb
  subst e
  obtain ⟨o,e,c,d⟩:=st
  exact ⟨o,e,fun v z=>by rw [d] at z;cases z⟩
 keep:=fun i h h' st k=>st.at fun o e=>k it (by simp) o e
 item:=by
  intro X hP hw hK hc i pins s σ H E I hf st hg
  subst hP hw hK
  obtain ⟨xs,x,hq,hx⟩:=hg
  obtain ⟨its,rv,p,hz⟩:=I.tuple hq
  obtain ⟨u,hu,ru⟩:=rv.get hx
  obtain ⟨f0,f1,f2,f3,f4,f5⟩:=hf it (by simp)
  refine wpAny_pyNext_tuple_item st (show s.heap.IsTuple a its.toArray from p) (x:=u) (by simpa using hu) fun h' st' sb=>?_
  have I1:Inv X pins σ H { s with heap:=h' }:=I.turned (t':=s.toks) (fun b o hb e=>(sb.2 b hb).trans e) f0 f1 f3 f4 f5
  obtain ⟨o,e,c,d⟩:=id st'
  exact ⟨u,rfl,go_of (s:={ s with heap:=h' }) e c d (by decide) ⟨x,H,I1,ru,⟨rfl,fun ys hy=>by rw [I.tuple_inj hy hq];exact hx⟩,st',fun b hb=>(hf b hb).1⟩⟩
 done:=by
  intro X hP hw hK hc i pins s σ H E I hf st hg
  subst hP hw hK
  obtain ⟨xs,hq,hx⟩:=hg
  obtain ⟨its,rv,p,hz⟩:=I.tuple hq
  obtain ⟨f0,f1,f2,f3,f4,f5⟩:=hf it (by simp)
  have hl:=rv.length
  exact wpAny_pyNext_tuple_end (I.ok.hd hc) st (show s.heap.IsTuple a its.toArray from p) (by simp;lia) fun h' eb=>⟨rfl,I.turned (t':=s.toks) (fun b o hb e=>eb b o hb e) f0 f1 f3 f4 f5⟩
 self:=fun _ _ _ _ _ st h=>wpAny_pyIter_tupleiter st h
theorem turn_range {P:Program} {w:World} {K:PySem.W.Frag} {tg:Expr} (it:Addr) (lo:Int) (n:Nat):Turn P w K tg (Itr lo n) [it] it (fun i h=>IsRangeIter h it (lo + (i:Nat) * 1) ((n:Int) - (i:Nat)) 1) where
 mem:=by simp
 obj:=fun i h st b hb=>by
  have e:b=it:=by simpa using hb
  subst e
  exact ⟨_,st,fun v z=>by
   have z':Data.fields _=Data.cell v:=z
   cases z'⟩
 keep:=fun i h h' st k=>k it (by simp) _ st
 item:=by
  intro X hP hw hK hc i pins s σ H E I hf st hg
  subst hP hw hK
  obtain ⟨f0,f1,f2,f3,f4,f5⟩:=hf it (by simp)
  have W:=Walks.range (prog:=X.prog) (w:=X.w) (I.ok.hd hc) it lo 1 n
  refine W.item i s _ _ hg st fun v h' tk hv st' kk=>?_
  obtain ⟨t,rfl⟩:=hv
  have I1:Inv X pins σ H { s with heap:=h',toks:=tk }:=I.turned (fun b o hb e=>kk b o (by simpa using hb) e) f0 f1 f3 f4 f5
  refine ⟨_,rfl,go_of (s:={ s with heap:=h',toks:=tk }) (n:="range_iterator") st' rfl rfl (by decide) ⟨.int (lo + i),H,I1,⟨t,?_⟩,⟨rfl,rfl⟩,st',fun b hb=>(hf b hb).1⟩⟩
  rw [Int.mul_one]
 done:=by
  intro X hP hw hK hc i pins s σ H E I hf st hg
  subst hP hw hK
  obtain ⟨f0,f1,f2,f3,f4,f5⟩:=hf it (by simp)
  exact wpAny_pyNext_range_end (I.ok.hd hc) st (by have:n≤i:=hg;lia) fun h' eb=>⟨rfl,I.turned (t':=s.toks) (fun b o hb e=>eb b o hb e) f0 f1 f3 f4 f5⟩
 self:=fun _ _ _ _ _ st h=>wpAny_pyIter_rangeiter st h
end L2
namespace L2
open PySem PySem.Spec PyProof.Rows
section
variable {X:Cx} {tg:Expr}
noncomputable def iList (K:PySem.W.Frag) (tl:TE):TI:=fun σ H R=>tl σ H fun x H1=>∃ a,x=.ref a∧(∃ xs,SqL K H1 a xs)∧R (Itl K a) H1
noncomputable def iTup (K:PySem.W.Frag) (tl:TE):TI:=fun σ H R=>tl σ H fun x H1=>∃ a,x=.ref a∧(∃ xs,SqT K H1 a xs)∧R (Itt K a) H1
theorem pi_list {l:Expr} {tl:TE} (hl:PE X l tl):PI X tg l (iList X.K tl):=by
 intro pins s σ H R I h
 refine thn (hl pins s σ H _ I h) fun v s1 ⟨x,H1,I1,r1,q1⟩=>?_
 obtain ⟨a,e,⟨xs,hq⟩,q⟩:=q1
 subst e
 cases r1
 obtain ⟨its,rv,p,hz⟩:=I1.list hq
 refine wpAny_pyIter_list p.isList ?_
 refine ⟨s1.heap.objs.size,[s1.heap.objs.size],_,_,H1,rfl,I1.kept (t':=s1.toks) fun b o e=>Heap.get?_push_of_some _ e,turn_list a _,⟨_,Heap.get?_push_size _ rfl,rfl,rfl⟩,fun b hb=>?_,q⟩
 have e:b=s1.heap.objs.size:=by simpa using hb
 subst e
 exact I1.fpOk (Nat.le_refl _) (I1.hok.fresh (Nat.le_refl _))
theorem pi_tup {l:Expr} {tl:TE} (hl:PE X l tl):PI X tg l (iTup X.K tl):=by
 intro pins s σ H R I h
 refine thn (hl pins s σ H _ I h) fun v s1 ⟨x,H1,I1,r1,q1⟩=>?_
 obtain ⟨a,e,⟨xs,hq⟩,q⟩:=q1
 subst e
 cases r1
 obtain ⟨its,rv,p,hz⟩:=I1.tuple hq
 refine wpAny_pyIter_tuple (show s1.heap.IsTuple a its.toArray from p) ?_
 refine ⟨s1.heap.objs.size,[s1.heap.objs.size],_,_,H1,rfl,I1.kept (t':=s1.toks) fun b o e=>Heap.get?_push_of_some _ e,turn_tuple a _,⟨_,Heap.get?_push_size _ rfl,rfl,rfl⟩,fun b hb=>?_,q⟩
 have e:b=s1.heap.objs.size:=by simpa using hb
 subst e
 exact I1.fpOk (Nat.le_refl _) (I1.hok.fresh (Nat.le_refl _))
theorem range_it {pins:List (Addr×Obj)} {σ:St} {H:Hp} {s:Shared} {R:It→Hp→Prop} {E:Value→Shared→Prop} {lo hi:Int} {t u v:Tok} {tk:Nat} (I:Inv X pins σ H s) (h1:-(2 ^ 62)≤lo) (h2:lo < 2 ^ 62) (h3:-(2 ^ 62)≤hi) (h4:hi < 2 ^ 62)
  (q:R (Itr lo (hi - lo).toNat) H):wpAny (model X.prog X.w) X.A (pyIter (.ref s.heap.objs.size)) (PIE X pins σ tg R) E { s with heap:=s.heap.push { cls:=.type "range",data:=.fields #[.int lo t,.int hi u,.int 1 v] },toks:=tk }:=by
 refine wpAny_pyIter_range (IsRange.new ..) (small_one h1 h2 h3 h4) ?_
 have I1:Inv X pins σ H { s with heap:=s.heap.push { cls:=.type "range",data:=.fields #[.int lo t,.int hi u,.int 1 v] },toks:=tk }:=I.kept fun b o e=>Heap.get?_push_of_some _ e
 refine ⟨(s.heap.push { cls:=.type "range",data:=.fields #[.int lo t,.int hi u,.int 1 v] }).objs.size,[(s.heap.push { cls:=.type "range",data:=.fields #[.int lo t,.int hi u,.int 1 v] }).objs.size],_,_,H,rfl,
  I1.kept (t':=tk) fun b o e=>Heap.get?_push_of_some _ e,turn_range _ lo (hi - lo).toNat,?_,fun b hb=>?_,q⟩
 ·have e1:lo + ((0:Nat):Int) * 1=lo:=by simp
  have e2:(((hi - lo).toNat:Nat):Int) - ((0:Nat):Int)=Builtin.Range.rangeSize lo hi 1:=by rw [rangeSize_one];split <;> lia
  show IsRangeIter _ _ (lo + ((0:Nat):Int) * 1) ((((hi - lo).toNat:Nat):Int) - ((0:Nat):Int)) 1
  rw [e1,e2]
  exact Heap.get?_push_size _ rfl
 ·have e:b=(s.heap.push { cls:=.type "range",data:=.fields #[.int lo t,.int hi u,.int 1 v] }).objs.size:=by simpa using hb
  subst e
  exact I1.fpOk (Nat.le_refl _) (I1.hok.fresh (Nat.le_refl _))
noncomputable def iRng1 (ta:TA):TI:=fun σ H R=>ta σ H fun vs H1=>∃ j:Int,vs=[.int j]∧-(2 ^ 62)≤j∧j < 2 ^ 62∧R (Itr 0 j.toNat) H1
noncomputable def iRng2 (ta:TA):TI:=fun σ H R=>ta σ H fun vs H1=>∃ i j:Int,vs=[.int i,.int j]∧(-(2 ^ 62)≤i∧i < 2 ^ 62∧-(2 ^ 62)≤j∧j < 2 ^ 62)∧R (Itr i (j - i).toNat) H1
theorem pi_range1 {a:Expr} {ta:TA} {p pos:Pos} (hg:Gl X "range") (hm:X.mg "range"=none) (ha:PA X [a] ta) (hs:starEach [a] X.env=[(false,eval a X.env)]:=by rfl):PI X tg (.Call (.Name "range" p) [a] [] pos) (iRng1 ta):=by
 intro pins s σ H R I h
 refine Call_ (ld_blt I hg hm boot_range (PyProof.Rows.callWith_type1 (thn (ha pos pins s σ H _ I h) fun us s1 ⟨vs,H1,I1,r1,q1⟩=>?_) hs rfl))
 obtain ⟨j,e,q1,q2,q⟩:=q1
 subst e
 cases r1 with
 | cons r rr=>
  cases rr
  obtain ⟨t,rfl⟩:=r
  exact call_range_1 (range_it I1 (by lia) (by lia) q1 q2 (by simpa using q))
theorem pi_range2 {a b:Expr} {ta:TA} {p pos:Pos} (hg:Gl X "range") (hm:X.mg "range"=none) (ha:PA X [a,b] ta) (hs:starEach [a,b] X.env=[(false,eval a X.env),(false,eval b X.env)]:=by rfl) (hs2:starEach [b] X.env=[(false,eval b X.env)]:=by rfl):
  PI X tg (.Call (.Name "range" p) [a,b] [] pos) (iRng2 ta):=by
 intro pins s σ H R I h
 refine Call_ (ld_blt I hg hm boot_range (PyProof.Rows.callWith_type1 (thn (ha pos pins s σ H _ I h) fun us s1 ⟨vs,H1,I1,r1,q1⟩=>?_) (by rw [hs,hs2]) (by rw [hs2];rfl)))
 obtain ⟨i,j,e,⟨q1,q2,q3,q4⟩,q⟩:=q1
 subst e
 cases r1 with
 | cons r rr=>
  cases rr with
  | cons r' rr=>
   cases rr
   obtain ⟨t,rfl⟩:=r
   obtain ⟨t',rfl⟩:=r'
   exact call_range_2 (range_it I1 q1 q2 q3 q4 q)
noncomputable def tFor (wi:TI) (g:TG) (tb:TS):TS:=fun D σ H=>wi σ H fun J H1=>∃ W:Nat→Nat→St→Hp→Prop,(∃ m,W 0 m σ H1)∧∀ i m σ H,W i m σ H→
 (J.stop i H∧D.nx σ H)∨(J.go i H∧∃ N:St→Hp→Prop,(∀ σ' H',N σ' H'→∃ m',m' < m∧W (i + 1) m' σ' H')∧∀ x H',J.yld i H x H'→g x σ H' fun σ2 H2=>tb { D with nx:=N,ct:=N,bk:=D.nx } σ2 H2)
noncomputable def pinsAt (fp:List Addr) (h:Heap):List (Addr×Obj):=fp.filterMap fun b=>(h.get? b).map fun o=>(b,o)
theorem mem_pinsAt {fp:List Addr} {h:Heap} {b:Addr} {o:Obj} (hb:b∈fp) (e:h.get? b=some o):(b,o)∈pinsAt fp h:=List.mem_filterMap.mpr ⟨b,hb,by rw [e];rfl⟩
theorem of_pinsAt {fp:List Addr} {h:Heap} {p:Addr×Obj} (hp:p∈pinsAt fp h):p.1∈fp∧h.get? p.1=some p.2:=by
 obtain ⟨b,hb,e⟩:=List.mem_filterMap.mp hp
 cases q:h.get? b with
 | none=>rw [q] at e;cases e
 | some o=>
  rw [q] at e
  have e':(b,o)=p:=Option.some.inj e
  subst e'
  exact ⟨hb,q⟩
theorem Inv.pinned {pins:List (Addr×Obj)} {σ:St} {H:Hp} {s:Shared} {fp:List Addr} (I:Inv X pins σ H s) (hf:∀ b∈fp,FpOk X pins H b) (ho:∀ b∈fp,∃ o,s.heap.get? b=some o∧∀ v,o.data≠.cell v):Inv X (pins++pinsAt fp s.heap) σ H s:=
 I.pins_of fun p hp=>(List.mem_append.mp hp).elim (fun z=>I.pin p (List.mem_append_right _ z)) fun z=>by
  obtain ⟨hb,e⟩:=of_pinsAt z
  obtain ⟨f0,f1,f2,_⟩:=hf p.1 hb
  obtain ⟨o,e',d⟩:=ho p.1 hb
  rw [e] at e';cases e'
  exact ⟨e,f0,f1,f2,d⟩
theorem Inv.unpinned {pins pl:List (Addr×Obj)} {σ:St} {H:Hp} {s:Shared} (I:Inv X (pins++pl) σ H s):Inv X pins σ H s:=I.pins_of fun p hp=>I.pin p (List.mem_append_right _ (List.mem_append_left _ hp))
theorem ps_for {iter:Expr} {body:List Stmt} {wi:TI} {g:TG} {tb:TS} {pos:Pos} (hp:PassesOwn (model X.prog X.w) X.A X.env X.xe) (hc:X.calm=true) (hi:PI X tg iter wi) (hg:PG X tg g) (hb:PSs X body tb)
  (hs:∀ x,foldedSetIterable iter X.env x=pure x:=by intro _;rfl):PS X (.For tg iter body [] pos) (tFor wi g tb):=by
 intro pins s σ H D I h
 refine wpAny_For (thn (hi pins s σ H _ I h) fun v s1 h1=>thn h1 fun itv s2 h2=>?_) hs
 obtain ⟨it,fp,tn,J,H2,e,I2,T,st2,f2,W,⟨m0,w0⟩,turn⟩:=h2
 subst e
 have stat:∀ {H':Hp},(∀ b∈fp,H' b=none)→∀ b∈fp,FpOk X pins H' b:=fun hn b hb=>⟨hn b hb,(f2 b hb).2⟩
 refine codeAny_forLoop_any (fun n s'=>∃ i σ' H',Inv X pins σ' H' s'∧tn i s'.heap∧(∀ b∈fp,H' b=none)∧W i n σ' H') ?_ m0 ⟨0,σ,H2,I2,st2,fun b hb=>(f2 b hb).1,w0⟩
 rintro n s3 ⟨i,σ3,H3,I3,st3,fr3,w3⟩
 rcases turn i n σ3 H3 w3 with ⟨stop,qn⟩ | ⟨go,N,hN,step⟩
 ·refine wpAny_passesOwn hp (thn (T.done X rfl rfl rfl hc i pins s3 σ3 H3 X.xe I3 (stat fr3) st3 stop) fun r s4 ⟨hr,I4⟩=>?_)
  subst hr
  exact wpAny_execs_nil ⟨σ3,H3,I4,qn⟩
 ·refine wpAny_passesOwn hp (thn (T.item X rfl rfl rfl hc i pins s3 σ3 H3 X.xe I3 (stat fr3) st3 go) fun r s4 ⟨u,hr,h4⟩=>?_)
  subst hr
  refine wpAny_passesOwn hp (thn h4 fun _ s5 ⟨x,H5,I5,r5,y5,st5,fr5⟩=>?_)
  have I5':=I5.pinned (stat fr5) (T.obj _ _ st5)
  refine wpAny_passesOwn hp (thn (hg _ s5 σ3 H5 x u _ I5' r5 (step x H5 y5)) fun _ s6 ⟨σ6,H6,I6,q6⟩=>?_)
  refine wpAny_passesOwn hp (thn (hb _ s6 σ6 H6 _ I6 q6) fun f s7 q7=>?_)
  have again:∀ {σ7:St} {H7:Hp},Inv X (pins++pinsAt fp s5.heap) σ7 H7 s7→N σ7 H7→∃ m,m < n∧∃ i σ' H',Inv X pins σ' H' s7∧tn i s7.heap∧(∀ b∈fp,H' b=none)∧W i m σ' H':=fun {σ7 H7} I7 n7=>by
   obtain ⟨m',hm,w7⟩:=hN σ7 H7 n7
   refine ⟨m',hm,i + 1,σ7,H7,I7.unpinned,T.keep _ _ _ st5 fun b hb o e=>(I7.pin (b,o) (List.mem_append_right _ (List.mem_append_right _ (mem_pinsAt hb e)))).1,fun b hb=>?_,w7⟩
   obtain ⟨o,e,d⟩:=T.obj _ _ st5 b hb
   exact (I7.pin (b,o) (List.mem_append_right _ (List.mem_append_right _ (mem_pinsAt hb e)))).2.1
  cases f with
  | next=>obtain ⟨σ7,H7,I7,n7⟩:=q7;exact again I7 n7
  | cont=>obtain ⟨σ7,H7,I7,n7⟩:=q7;exact again I7 n7
  | brk=>obtain ⟨σ7,H7,I7,q7⟩:=q7;exact ⟨σ7,H7,I7.unpinned,q7⟩
  | ret v=>obtain ⟨x7,σ7,H7,I7,r7,q7⟩:=q7;exact ⟨x7,σ7,H7,I7.unpinned,r7,q7⟩
end
end L2
namespace L2
open PySem PySem.Spec PyProof.Rows
noncomputable abbrev R2:=V→V→Hp→VK→Prop
noncomputable def OpR (X:Cx) (f:Value→Value→Sem Value) (r:R2):Prop:=
 ∀ (pins:List (Addr×Obj)) (s:Shared) (σ:St) (H:Hp) (x y:V) (v u:Value) (Q:VK),Inv X pins σ H s→RelV x v→RelV y u→r x y H Q→
  wpAny (model X.prog X.w) X.A (f v u) (EP X pins σ Q) X.xe s
noncomputable def CallR (X:Cx) (f:Value) (r:List V→Hp→VK→Prop):Prop:=
 ∀ (pins:List (Addr×Obj)) (s:Shared) (σ:St) (H:Hp) (xs:List V) (us:List Value) (Q:VK),Inv X pins σ H s→Vals xs us→r xs H Q→
  wpAny (model X.prog X.w) X.A (call f us) (EP X pins σ Q) X.xe s
noncomputable def tOp (r:R2) (ta tb:TE):TE:=fun σ H Q=>ta σ H fun x H1=>tb σ H1 fun y H2=>r x y H2 Q
noncomputable def tUn (r:V→Hp→VK→Prop) (ta:TE):TE:=fun σ H Q=>ta σ H fun x H1=>r x H1 Q
noncomputable def rI (C:Int→Int→Prop) (g:Int→Int→V):R2:=fun x y H Q=>∃ i j,x=.int i∧y=.int j∧C i j∧Q (g i j) H
noncomputable def rI0 (g:Int→Int→V):R2:=fun x y H Q=>∃ i j,x=.int i∧y=.int j∧Q (g i j) H
section
variable {X:Cx} {a b c:Expr} {ta tb tc:TE} {pos:Pos}
theorem binT (ha:PE X a ta) (hb:PE X b tb) {pins:List (Addr×Obj)} {s:Shared} {σ:St} {H:Hp} {R:V→V→Hp→Prop} (I:Inv X pins σ H s)
  (h:ta σ H fun x H1=>tb σ H1 fun y H2=>R x y H2) {Q:Value→Shared→Prop} {f:Value→Value→Sem Value}
  (hf:∀ v u s2 x y H2,Inv X pins σ H2 s2→RelV x v→RelV y u→R x y H2→wpAny (model X.prog X.w) X.A (f v u) Q X.xe s2):
  wpAny (model X.prog X.w) X.A (eval a X.env) (fun v s₁=>wpAny (model X.prog X.w) X.A (eval b X.env) (fun u s₂=>wpAny (model X.prog X.w) X.A (f v u) Q X.xe s₂) X.xe s₁) X.xe s:=by
 refine thn (ha pins s σ H _ I h) fun v s1 ⟨x,H1,I1,r1,q1⟩=>?_
 refine thn (hb pins s1 σ H1 _ I1 q1) fun u s2 ⟨y,H2,I2,r2,q2⟩=>?_
 exact hf v u s2 x y H2 I2 r1 r2 q2
theorem pe_op {op:Operator} {r:R2} (ho:OpR X (binaryOp op) r) (ha:PE X a ta) (hb:PE X b tb):PE X (.BinOp a op b pos) (tOp r ta tb):=by
 intro pins s σ H Q I h
 exact wpAny_BinOp (binT ha hb I h fun v u s2 x y H2 I2 rx ry q=>ho pins s2 σ H2 x y v u Q I2 rx ry q)
theorem opI {f:Value→Value→Sem Value} {C:Int→Int→Prop} {g:Int→Int→Int}
  (rule:∀ (i j:Int) (t u:Tok) (s:Shared) (Q:Value→Shared→Prop) (E:Value→Shared→Prop),C i j→Q (.int (g i j) s.toks) { s with toks:=s.toks + 1 }→wpAny (model X.prog X.w) X.A (f (.int i t) (.int j u)) Q E s):
  OpR X f (rI C fun i j=>.int (g i j)):=by
 intro pins s σ H x y v u Q I rx ry h
 obtain ⟨i,j,rfl,rfl,hc,q⟩:=h
 obtain ⟨t,rfl⟩:=rx
 obtain ⟨t',rfl⟩:=ry
 exact rule i j t t' s _ _ hc ⟨.int (g i j),H,I.tok _,⟨_,rfl⟩,q⟩
theorem opI0 {f:Value→Value→Sem Value} {g:Int→Int→Int}
  (rule:∀ (i j:Int) (t u:Tok) (s:Shared) (Q:Value→Shared→Prop) (E:Value→Shared→Prop),Q (.int (g i j) s.toks) { s with toks:=s.toks + 1 }→wpAny (model X.prog X.w) X.A (f (.int i t) (.int j u)) Q E s):
  OpR X f (rI0 fun i j=>.int (g i j)):=by
 intro pins s σ H x y v u Q I rx ry h
 obtain ⟨i,j,rfl,rfl,q⟩:=h
 obtain ⟨t,rfl⟩:=rx
 obtain ⟨t',rfl⟩:=ry
 exact rule i j t t' s _ _ ⟨.int (g i j),H,I.tok _,⟨_,rfl⟩,q⟩
theorem opB0 {f:Value→Value→Sem Value} {g:Int→Int→Bool}
  (rule:∀ (i j:Int) (t u:Tok) (s:Shared) (Q:Value→Shared→Prop) (E:Value→Shared→Prop),Q (.bool (g i j)) s→wpAny (model X.prog X.w) X.A (f (.int i t) (.int j u)) Q E s):
  OpR X f (rI0 fun i j=>.bl (g i j)):=by
 intro pins s σ H x y v u Q I rx ry h
 obtain ⟨i,j,rfl,rfl,q⟩:=h
 obtain ⟨t,rfl⟩:=rx
 obtain ⟨t',rfl⟩:=ry
 exact rule i j t t' s _ _ ⟨.bl (g i j),H,I,rfl,q⟩
noncomputable def CPow (i j:Int):Prop:=0≤j∧j≤1000000∧i.natAbs < 2 ^ 64
noncomputable def CMul (i j:Int):Prop:=(-(2 ^ 64) < i∧i < 2 ^ 64)∨(-(2 ^ 64) < j∧j < 2 ^ 64)
theorem CMul.ok {i j:Int} (h:CMul i j):IntMulOk i j:=by
 rcases h with ⟨h1,h2⟩ | ⟨h1,h2⟩
 ·exact .of_left (intBits_le_64 h1 h2)
 ·exact .of_right (intBits_le_64 h1 h2)
theorem op_add:OpR X (binaryOp .Add) (rI0 fun i j=>.int (i + j)):=opI0 fun _ _ _ _ _ _ _ q=>add_int q
theorem op_sub:OpR X (binaryOp .Sub) (rI0 fun i j=>.int (i - j)):=opI0 fun _ _ _ _ _ _ _ q=>sub_int q
theorem op_mul:OpR X (binaryOp .Mult) (rI CMul fun i j=>.int (i * j)):=opI fun _ _ _ _ _ _ _ hc q=>mul_int q hc.ok
theorem op_mod:OpR X (binaryOp .Mod) (rI (fun _ j=>0 < j) fun i j=>.int (i % j)):=opI fun i j _ _ _ _ _ hc q=>by
 have h1:(0:Int) < j:=hc
 exact mod_int' (by lia) (by rw [Int.fmod_eq_emod_of_nonneg i (by lia)];exact q)
theorem op_pow:OpR X (binaryOp .Pow) (rI CPow fun i j=>.int (i ^ j.toNat)):=opI fun _ _ _ _ _ _ _ hc q=>pow_int_small hc.1 hc.2.1 hc.2.2 q
end
section
variable {X:Cx} {a b c:Expr} {ta tb tc:TE} {pos:Pos}
theorem fin_bl {pins:List (Addr×Obj)} {σ:St} {H:Hp} {s:Shared} {Q:VK} {k k':Bool} (I:Inv X pins σ H s) (q:Q (.bl k) H) (e:k=k'):EP X pins σ Q (.bool k') s:=by
 subst e
 exact ⟨.bl k,H,I,rfl,q⟩
theorem op_lt:OpR X (compareOp .Lt) (rI0 fun i j=>.bl (decide (i < j))):=opB0 fun _ _ _ _ _ _ _ q=>lt_int q
theorem op_le:OpR X (compareOp .LtE) (rI0 fun i j=>.bl (decide (i≤j))):=opB0 fun _ _ _ _ _ _ _ q=>le_int q
theorem op_gt:OpR X (compareOp .Gt) (rI0 fun i j=>.bl (decide (j < i))):=opB0 fun _ _ _ _ _ _ _ q=>gt_int q
theorem op_ge:OpR X (compareOp .GtE) (rI0 fun i j=>.bl (decide (j≤i))):=opB0 fun _ _ _ _ _ _ _ q=>ge_int q
theorem op_isN:OpR X (compareOp .Is) (fun x y H Q=>y=.non∧Q (.bl (decide (x=.non))) H):=by
 intro pins s σ H x y v u Q I rx ry h
 obtain ⟨rfl,q⟩:=h
 cases ry
 refine is_none_gen (fin_bl I q ?_)
 cases x <;> first
  | (cases rx;rfl)
  | (obtain ⟨t,rfl⟩:=rx;rfl)
theorem nomark (b:Expr) {op:CmpOp} (h:op≠.In:=by decide) (h2:op≠.NotIn:=by decide):behindInMarks op b=false:=by
 have e1:(op==CmpOp.In)=false:=by cases op <;> first | rfl | exact absurd rfl h
 have e2:(op==CmpOp.NotIn)=false:=by cases op <;> first | rfl | exact absurd rfl h2
 cases b <;> simp [behindInMarks,e1,e2]
theorem pe_cmpR {op:CmpOp} {r:R2} (ho:OpR X (compareOp op) r) (ha:PE X a ta) (hb:PE X b tb) (hm:behindInMarks op b=false):PE X (.Compare a [op] [b] pos) (tOp r ta tb):=by
 intro pins s σ H Q I h
 exact wpAny_Compare1 (binT ha hb I h fun v u s2 x y H2 I2 rx ry q=>ho pins s2 σ H2 x y v u Q I2 rx ry q) hm
noncomputable def tTest (t:TE):TT:=fun σ H Q=>t σ H fun x H'=>∃ k,x=.bl k∧Q k H'
theorem pt_cmpR {op:CmpOp} {r:R2} (ho:OpR X (compareOp op) r) (ha:PE X a ta) (hb:PE X b tb) (hm:behindInMarks op b=false):PT X (.Compare a [op] [b] pos) (tTest (tOp r ta tb)):=by
 intro pins s σ H Q I h
 refine wpAny_isTrue_Compare1 (thn (ha pins s σ H _ I h) fun v s1 ⟨x,H1,I1,r1,q1⟩=>thn (hb pins s1 σ H1 _ I1 q1) fun u s2 ⟨y,H2,I2,r2,q2⟩=>
  thn (ho pins s2 σ H2 x y v u _ I2 r1 r2 q2) fun c s3 ⟨z,H3,I3,r3,k,e,q3⟩=>?_) hm
 subst e
 cases r3
 exact wpAny_truthy_bool ⟨H3,I3,q3⟩
noncomputable def tChain (r r':R2) (ta tb tc:TE):TE:=fun σ H Q=>ta σ H fun x H1=>tb σ H1 fun y H2=>r x y H2 fun z H3=>∃ k,z=.bl k∧
 (if k=true then tc σ H3 fun w' H4=>r' y w' H4 Q else Q (.bl false) H3)
theorem pe_chain {op op':CmpOp} {r r':R2} (ho:OpR X (compareOp op) r) (ho':OpR X (compareOp op') r') (ha:PE X a ta) (hb:PE X b tb) (hc:PE X c tc)
  (hm:lastMarks [op,op'] [b,c]=false:=by with_unfolding_all rfl):PE X (.Compare a [op,op'] [b,c] pos) (tChain r r' ta tb tc):=by
 intro pins s σ H Q I h
 refine Compare_chain (thn (ha pins s σ H _ I h) fun v s1 ⟨x,H1,I1,r1,q1⟩=>chain_link (thn (hb pins s1 σ H1 _ I1 q1) fun u s2 ⟨y,H2,I2,r2,q2⟩=>
  thn (ho pins s2 σ H2 x y v u _ I2 r1 r2 q2) fun d s3 ⟨z,H3,I3,r3,k,e,q3⟩=>?_)) hm
 subst e
 cases r3
 refine wpAny_truthy_bool ?_
 cases k with
 | false=>exact ite_ff ⟨.bl false,H3,I3,rfl,q3⟩
 | true=>exact ite_tt (chain_last (thn (hc pins s3 σ H3 _ I3 q3) fun w' s4 ⟨z',H4,I4,r4,q4⟩=>ho' pins s4 σ H4 y z' u w' Q I4 r2 r4 q4))
theorem line63:(sizeLine:Nat) < 2 ^ 63:=by rw [sizeLine_eq];decide
theorem vals1 {x:V} {us:List Value} (r:Vals [x] us):∃ u,us=[u]∧RelV x u:=by
 cases r with
 | cons r1 r2=>cases r2;exact ⟨_,rfl,r1⟩
end
end L2
namespace L2
open PySem PySem.Spec PyProof.Rows
structure ObjM (h:Heap) (x dx C:Addr) (mA:Str→Option Value):Prop where
 obj:h.get? x=some (PySem.W.instObj C dx)
 ns:h.Ns1 dx mA
 ne:dx≠x
theorem lookIn_ns {h:Heap} {dx:Addr} {mA:Str→Option Value} (n:h.Ns1 dx mA):∃ od,h.get? dx=some od∧∀ name,PySem.W.lookIn name od=some (mA name):=by
 obtain ⟨o,es,ep,ho,hd,hk,_,hm⟩:=n
 refine ⟨o,ho,fun name=>?_⟩
 have e:=hm name
 unfold nsFind findBy at e
 rw [←Array.find?_toList] at e
 unfold PySem.W.lookIn
 rw [hd]
 dsimp only
 split
 ·rename_i y q
  rw [q] at e
  exact congrArg some e
 ·rename_i q
  rw [q] at e
  have a:es.toList.any (·.refKey)=false:=by
   rw [List.any_eq_false]
   intro y hy
   obtain ⟨z,t,hkey⟩:=hk y (Array.mem_toList_iff.mp hy)
   simp [DictEntry.refKey,hkey]
  have a':¬es.toList.any (·.refKey)=true:=by rw [a];exact Bool.false_ne_true
  rw [if_neg a']
  exact congrArg some e
theorem ObjM.look {h:Heap} {x dx C:Addr} {mA:Str→Option Value} (I:ObjM h x dx C mA):∃ od,PySem.W.InstAt h x (PySem.W.instObj C dx) C (some od)∧∀ name,PySem.W.lookIn name od=some (mA name):=
 let ⟨od,ho,hl⟩:=lookIn_ns I.ns
 ⟨od,⟨I.obj,rfl,rfl,ho⟩,hl⟩
section
variable {prog:Program} {w:World} {A:Around} {E:Value→Shared→Prop} {s:Shared} {K:PySem.W.Frag} {x dx C f:Addr} {mA:Str→Option Value} {name:Str} {v:Value}
end
theorem RelO.none_of {o:Option Value} (r:RelO none o):o=none:=by
 cases o with
 | none=>rfl
 | some u=>exact (show False from r).elim
section
variable {P:Program} {w:World} {H H':Hp} {h h':Heap} {a C dx:Addr} {fs fs':List (Str×V)}
theorem ins_get (hok:HOk P w H h) (e:H a=some (.ins C dx fs)):∃ mA,ObjM h a dx C mA∧(∀ f,RelO (fs.lookup f) (mA f))∧PySem.Within mA (fs.map (·.1))∧fs.length≤1000∧H dx=some (.own a):=by
 obtain ⟨d,z,ne,ob,mA,n,r,q⟩:=(show ObjOk P w H h a (.ins C dx fs) from hok a _ e)
 exact ⟨mA,⟨ob,n,ne⟩,r,q,z,d⟩
end
structure Cls (K:PySem.W.Frag) (C:Addr):Prop where
 pg:PySem.W.plainGet K C Str.empty=true
 hd:PySem.W.hasDictIn K C=true
 po:PySem.W.plainOver K C=true
 sa:PySem.W.findIn K (.ref C) "__setattr__"=some (some (.builtin "object.__setattr__"))
theorem Cls.get {K:PySem.W.Frag} {C:Addr} (c:Cls K C) (f:Str):PySem.W.plainGet K C f=true:=c.pg
structure Con (K:PySem.W.Frag) (C:Addr) (f:Str) (v:V) (u:Value):Prop where
 at_:PySem.W.findIn K (.ref C) f=some (some u)
 rel:RelV v u
 get:PySem.W.specialIn K u "__get__"=some none
 cp:PySem.W.copiedNames.contains f=false
structure Meth (K:PySem.W.Frag) (C:Addr) (m:Str) (f:Addr):Prop where
 at_:PySem.W.findIn K (.ref C) m=some (some (.ref f))
 fn:PySem.W.isFn K (.ref f)=true
 kp:PySem.W.keepIn K (.ref f)=true
section
variable {X:Cx} {pins:List (Addr×Obj)} {σ:St} {H:Hp} {s:Shared} {a C dx:Addr} {fs:List (Str×V)} {f:Str} {v:V} {A:Around} {E:Value→Shared→Prop}
theorem Inv.made (I:Inv X pins σ H s):Inv X pins σ (upd (upd H s.heap.objs.size (.own (s.heap.objs.size + 1))) (s.heap.objs.size + 1) (.ins C s.heap.objs.size []))
  { s with heap:=(s.heap.push PySem.W.emptyDict).push (PySem.W.instObj C s.heap.objs.size) }:=by
 have e1:(s.heap.push PySem.W.emptyDict).get? s.heap.objs.size=some PySem.W.emptyDict:=Heap.get?_push_size s.heap rfl
 have e2:((s.heap.push PySem.W.emptyDict).push (PySem.W.instObj C s.heap.objs.size)).get? (s.heap.objs.size + 1)=some (PySem.W.instObj C s.heap.objs.size):=by
  have:=Heap.get?_push_size (s.heap.push PySem.W.emptyDict) (o:=PySem.W.instObj C s.heap.objs.size) rfl
  rwa [Heap.size_push] at this
 have e3:(s.heap.push PySem.W.emptyDict).Ns s.heap.objs.size (fun _=>none):=⟨PySem.W.emptyDict,#[],_,e1,rfl,(fun e he=>absurd he (by simp)),fun _=>rfl⟩
 have I1:=I.laid (a:=s.heap.objs.size) (o:=.own (s.heap.objs.size + 1)) (h':=s.heap.push PySem.W.emptyDict) (t':=s.toks) (fun b u q=>Heap.get?_push_of_some _ q) (Nat.le_refl _) ⟨_,e1⟩
 refine I1.laid (a:=s.heap.objs.size + 1) (o:=.ins C s.heap.objs.size []) (t':=s.toks) (fun b u q=>Heap.get?_push_of_some _ q) (Nat.le_of_eq (Heap.size_push _ _)) ?_
 have ne:s.heap.objs.size≠s.heap.objs.size + 1:=Nat.ne_of_lt (Nat.lt_succ_self _)
 refine ⟨by rw [upd_ne ne,upd_same],Nat.zero_le _,ne,e2,fun _=>none,(Heap.Ns1.of_empty e3).at fun o q=>Heap.get?_push_of_some _ q,fun _=>True.intro,fun y hy=>absurd rfl hy⟩
end
section
variable {X:Cx} {o e value:Expr} {f:Str} {pos pos' tpos:Pos} {ta tv:TE}
end
section
variable {X:Cx} {pins:List (Addr×Obj)} {σ:St} {H:Hp} {s:Shared} {A:Around} {E:Value→Shared→Prop} {Q:Value→Shared→Prop} {c:Value} {b:Bool}
inductive TyOf (K:PySem.W.Frag) (H:Hp):V→Value→Prop where
 | non:TyOf K H .non (.type "NoneType")
 | bl (x:Bool):TyOf K H (.bl x) (.type "bool")
 | int (i:Int):TyOf K H (.int i) (.type "int")
 | str (x:Str):TyOf K H (.str x) (.type "str")
 | flt (x:UInt64):TyOf K H (.flt x) (.type "float")
 | lst {a:Addr} {xs:List V} (e:H a=some (.lst xs)):TyOf K H (.ref a) (.type "list")
 | frz {a:Addr} {o:Obj} {xs:List V} (e:H a=some (.frz o (.lst xs))):TyOf K H (.ref a) (.type "list")
 | tup {a:Addr} {xs:List V} (e:H a=some (.tup xs)):TyOf K H (.ref a) (.type "tuple")
 | dK {a:Addr} {kvs:List (Key×V)} (e:H a=some (.dK kvs)):TyOf K H (.ref a) (.type "dict")
 | dT {a:Addr} {kvs:List (List Key×V)} (e:H a=some (.dT kvs)):TyOf K H (.ref a) (.type "dict")
 | ins {a C dx:Addr} {fs:List (Str×V)} (e:H a=some (.ins C dx fs)) (cl:Cls K C) (ha:PySem.W.findIn K (.ref C) "__class__"=some (some (.builtin "object.__class__")))
   (hn:PySem.W.specialIn K (.builtin "object.__class__") "__get__"=some (some (.builtin "getset_descriptor.__get__"))) (htk:PySem.W.takesIn K (.builtin "object.__class__")=some true)
   (hm:PySem.W.mroIn K C (.type "object")=some true):TyOf K H (.ref a) (.ref C)
theorem isinst_ok {x:V} {u t:Value} (I:Inv X pins σ H s) (rx:RelV x u) (ty:TyOf X.K H x t) (e:PySem.W.kitOne X.K t c=some b) (h:∀ tk,Q (.bool b) { s with toks:=tk }):
  wpAny (model X.prog X.w) A (call (.builtin "isinstance") [u,c]) Q E s:=by
 cases ty with
 | non=>cases (show u=Value.none from rx);exact PySem.W.kia_one PySem.W.kitx_none I.kIn True.intro e (fun z=>nomatch z) h
 | bl y=>cases (show u=Value.bool y from rx);exact PySem.W.kia_one PySem.W.kitx_bool I.kIn True.intro e (fun z=>nomatch z) h
 | int i=>obtain ⟨t,q⟩:=(show ∃ t,u=Value.int i t from rx);cases q;exact PySem.W.kia_one PySem.W.kitx_int I.kIn True.intro e (fun z=>nomatch z) h
 | str y=>obtain ⟨t,q⟩:=(show ∃ t,u=Value.str y t from rx);cases q;exact PySem.W.kia_one PySem.W.kitx_str I.kIn True.intro e (fun z=>nomatch z) h
 | flt y=>obtain ⟨t,q⟩:=(show ∃ t,u=Value.float y t from rx);cases q;exact PySem.W.kia_one PySem.W.kitx_float I.kIn True.intro e (fun z=>nomatch z) h
 | @lst a xs ea=>
  cases (show u=Value.ref a from rx)
  obtain ⟨_,_,n,_,h1⟩:=(show ObjOk X.prog X.w H s.heap a (.lst xs) from I.hok a _ ea)
  exact PySem.W.kia_one PySem.W.kitx_list I.kIn ⟨_,h1,rfl⟩ e (fun z=>nomatch z) h
 | @frz a ob xs ea=>
  cases (show u=Value.ref a from rx)
  obtain ⟨_,_,_,n,_,h1⟩:=(show ObjOk X.prog X.w H s.heap a (.frz ob (.lst xs)) from I.hok a _ ea)
  exact PySem.W.kia_one PySem.W.kitx_list I.kIn ⟨_,h1,rfl⟩ e (fun z=>nomatch z) h
 | @tup a xs ea=>
  cases (show u=Value.ref a from rx)
  obtain ⟨_,_,_,p⟩:=(show ObjOk X.prog X.w H s.heap a (.tup xs) from I.hok a _ ea)
  obtain ⟨o,h1,h2,_⟩:=p.1
  exact PySem.W.kia_one PySem.W.kitx_tuple I.kIn ⟨o,h1,h2⟩ e (fun z=>nomatch z) h
 | @dK a kvs ea=>
  cases (show u=Value.ref a from rx)
  obtain ⟨_,_,vs,_,p⟩:=(show ObjOk X.prog X.w H s.heap a (.dK kvs) from I.hok a _ ea)
  obtain ⟨o,es,ep,h1,h2,_⟩:=p
  exact PySem.W.kia_one PySem.W.kitx_dict I.kIn ⟨o,h1,h2.1⟩ e (fun z=>nomatch z) h
 | @dT a kvs ea=>
  cases (show u=Value.ref a from rx)
  obtain ⟨_,_,xs,_,o,es,ep,h1,h2,_⟩:=(show ObjOk X.prog X.w H s.heap a (.dT kvs) from I.hok a _ ea)
  exact PySem.W.kia_one PySem.W.kitx_dict I.kIn ⟨o,h1,h2.1⟩ e (fun z=>nomatch z) h
 | @ins a C dx fs ea cl ha hn htk hm=>
  cases (show u=Value.ref a from rx)
  obtain ⟨mA,O,_⟩:=ins_get I.hok ea
  obtain ⟨od,J,_⟩:=O.look
  exact PySem.W.kia_one (PySem.W.kitx_own (cl.get _) cl.hd ha hn htk hm) I.kIn J e (fun z=>nomatch z) h
end
end L2
namespace L2
open PySem PySem.Spec PyProof.Rows
structure Room (k:Nat) (A:Around):Prop where
 hd:A.handled=none
 dp:A.depth + 3 * k + 5 < recursionLimit
 un:A.units + 16 * k + 200 < cLine
theorem Room.mono {j k:Nat} {A:Around} (r:Room k A) (h:j≤k):Room j A:=⟨r.hd,by have:=r.dp;lia,by have:=r.un;lia⟩
theorem Room.deeper {k:Nat} {A:Around} (r:Room (k + 1) A) (env:Env):Room k (A.deeper env):=
 ⟨r.hd,by have:=r.dp;show A.depth + 1 + 3 * k + 5 < _;lia,by have:=r.un;show A.units + 3 + 16 * k + 200 < _;lia⟩
theorem Room.in1 {k:Nat} {A:Around} (r:Room (k + 1) A):Room k A.in1:=
 ⟨r.hd,by have:=r.dp;show A.depth + 3 * k + 5 < _;lia,by have:=r.un;show A.units + 1 + 16 * k + 200 < _;lia⟩
theorem Room.depth {k:Nat} {A:Around} (r:Room k A):A.depth < recursionLimit:=by have:=r.dp;lia
theorem Room.units {k:Nat} {A:Around} (r:Room k A):A.units + 64 < cLine:=by have:=r.un;lia
theorem Room.units0 {k:Nat} {A:Around} (r:Room k A):A.units < cLine:=by have:=r.un;lia
noncomputable def tNil:TA:=fun _ H Q=>Q [] H
noncomputable def tCons (ta:TE) (tr:TA):TA:=fun σ H Q=>ta σ H fun x H1=>tr σ H1 fun xs H2=>Q (x::xs) H2
section
variable {X:Cx} {e:Expr} {es:List Expr} {te:TE} {t:TA} {pos:Pos}
theorem pa_nil:PA X [] tNil:=fun _ _ _ _ H Q I h=>Calls.spliced_nil ⟨[],H,I,.nil,h⟩
theorem pa_cons (ha:PE X e te) (hr:PA X es t) (hs:starEach (e::es) X.env=(false,eval e X.env)::starEach es X.env:=by rfl):PA X (e::es) (tCons te t):=by
 intro pos pins s σ H Q I h
 rw [hs]
 show wpAny _ _ (spliced ((false,eval e X.env)::backTo pos (starEach es X.env))) _ _ s
 refine Calls.spliced_cons (thn (ha pins s σ H _ I h) fun u s1 ⟨x,H1,I1,r1,q1⟩=>?_)
 exact thn (hr pos pins s1 σ H1 _ I1 q1) fun us s2 ⟨xs,H2,I2,r2,q2⟩=>⟨x::xs,H2,I2,.cons r1 r2,q2⟩
noncomputable def tTup (t:TA):TE:=fun σ H Q=>t σ H fun xs H1=>xs.length≤sizeLine∧∀ p,H1 p=none→Q (.ref p) (upd H1 p (.tup xs))
noncomputable def tLst (t:TA):TE:=fun σ H Q=>t σ H fun xs H1=>xs.length≤sizeLine∧∀ p,H1 p=none→Q (.ref p) (upd H1 p (.lst xs))
theorem pe_tup {x1} (h:PA X es t):PE X (.Tuple es x1 pos) (tTup t):=by
 intro pins s σ H Q I hq
 refine wpAny_Tuple_spliced (thn (h pos pins s σ H _ I hq) fun us s1 ⟨xs,H1,I1,r,z,q⟩=>⟨by rw [←r.length];exact z,?_⟩)
 have hf:H1 s1.heap.objs.size=none:=I1.hok.fresh (Nat.le_refl _)
 refine ⟨.ref s1.heap.objs.size,upd H1 s1.heap.objs.size (.tup xs),I1.laid (t':=s1.toks) (fun b u e=>Heap.get?_push_of_some _ e) (Nat.le_refl _) ?_,rfl,q _ hf⟩
 exact ⟨z,us,r,⟨_,Heap.get?_push_size _ rfl,rfl,_,rfl⟩,_,Heap.get?_push_size _ rfl,rfl⟩
theorem pe_lst (h:PA X es t):PE X (.List es pos) (tLst t):=by
 intro pins s σ H Q I hq
 refine wpAny_List_spliced (thn (h pos pins s σ H _ I hq) fun us s1 ⟨xs,H1,I1,r,z,q⟩=>⟨by rw [←r.length];exact z,?_⟩)
 have hf:H1 s1.heap.objs.size=none:=I1.hok.fresh (Nat.le_refl _)
 refine ⟨.ref s1.heap.objs.size,upd H1 s1.heap.objs.size (.lst xs),I1.laid (t':=s1.toks) (fun b u e=>Heap.get?_push_of_some _ e) (Nat.le_refl _) ?_,rfl,q _ hf⟩
 exact ⟨z,us,0,r,Heap.get?_push_size _ rfl⟩
end
noncomputable abbrev Sp:=List V→Hp→VK→XK→Prop
noncomputable abbrev CXT:=List Env→Hp→Shared→XK→Value→Shared→Prop
structure Env0 (P:Program) (w:World) (K:PySem.W.Frag) (mg:Str→Option Value) (base:Heap) (A:Around) (outer:List Env) (s:Shared) (H:Hp):Prop where
 frames:A.frames=some outer
 mod:Mod K mg base
 bs:∀ b o,base.get? b=some o→s.heap.get? b=some o∧H b=none
 bsz:base.objs.size≤s.heap.objs.size
 funs:s.heap.FunFrames base outer
 frf:∀ b∈frs outer,H b=none
 hok:HOk P w H s.heap
 bare:AllBare s.gens
noncomputable def CE (outer:List Env) (P:Program) (w:World) (H:Hp) (s:Shared) (Q:VK) (u:Value) (s':Shared):Prop:=
 ∃ v H',s'.os=s.os∧AllBare s'.gens∧Un (frs outer) [] H H' s.heap s'.heap∧HOk P w H' s'.heap∧RelV v u∧Q v H'
noncomputable def CR (CX:CXT) (outer:List Env) (P:Program) (w:World) (H:Hp) (s:Shared) (Q:VK) (E:XK) (r:Result) (s':Shared):Prop:=
 match r with
 | .ok (.ret u)=>CE outer P w H s Q u s'
 | .ok _=>False
 | .error e=>CX outer H s E e s'
structure FnOk (P:Program) (w:World) (K:PySem.W.Frag) (mg:Str→Option Value) (base:Heap) (CX:CXT) (k:Nat) (f:Addr) (fd:FuncData) (ps:List Str) (sp:Sp):Prop where
 len:∀ vs H Q E,sp vs H Q E→vs.length=ps.length
 run:∀ (A:Around) (outer:List Env) (s:Shared) (H:Hp) (args:Args) (us:List Value) (vs:List V) (Q:VK) (E:XK),Room k A→Env0 P w K mg base A outer s H→BindsTo s fd args (ps.zip us)→Vals vs us→sp vs H Q E→
  codeAny (model P w) A (.call (.ref f) args) (CR CX outer P w H s Q E) s
theorem FnOk.mono {P:Program} {w:World} {K:PySem.W.Frag} {mg:Str→Option Value} {base:Heap} {CX:CXT} {j k:Nat} {f:Addr} {fd:FuncData} {ps:List Str} {sp:Sp} (F:FnOk P w K mg base CX j f fd ps sp) (h:j≤k):
  FnOk P w K mg base CX k f fd ps sp:=⟨F.len,fun A outer s H args us vs Q E hr=>F.run A outer s H args us vs Q E (hr.mono h)⟩
theorem FnOk.imp {P:Program} {w:World} {K:PySem.W.Frag} {mg:Str→Option Value} {base:Heap} {CX:CXT} {k:Nat} {f:Addr} {fd:FuncData} {ps:List Str} {sp sp':Sp} (F:FnOk P w K mg base CX k f fd ps sp)
  (h:∀ vs H Q E,sp' vs H Q E→sp vs H Q E):FnOk P w K mg base CX k f fd ps sp':=
 ⟨fun vs H Q E q=>F.len vs H Q E (h _ _ _ _ q),fun A outer s H args us vs Q E hr he hb hv hs=>F.run A outer s H args us vs Q E hr he hb hv (h _ _ _ _ hs)⟩
theorem Env0.in1 {P:Program} {w:World} {K:PySem.W.Frag} {mg:Str→Option Value} {base:Heap} {A:Around} {outer:List Env} {s:Shared} {H:Hp} (e:Env0 P w K mg base A outer s H):
  Env0 P w K mg base A.in1 outer s H:=⟨e.frames,e.mod,e.bs,e.bsz,e.funs,e.frf,e.hok,e.bare⟩
section
variable {X:Cx} {pins:List (Addr×Obj)} {σ:St} {H:Hp} {s s':Shared}
theorem Inv.env0 (I:Inv X pins σ H s):Env0 X.prog X.w X.K X.mg X.base X.A X.stack s H:=
 ⟨I.ok.frames,I.ok.mod,I.bs,Nat.le_trans I.ok.bsz I.sz,I.stack,I.stkFree,I.hok,I.bare⟩
theorem Inv.after {Q:VK} {u:Value} (I:Inv X pins σ H s) (h:CE X.stack X.prog X.w H s Q u s'):EP X pins σ Q u s':=by
 obtain ⟨v,H',os,bare,un,hok,r,q⟩:=h
 obtain ⟨hh,g,d,t,os'⟩:=s'
 obtain rfl:os'=s.os:=os
 exact ⟨v,H',I.call (h':=hh) (g':=g) (d':=d) (t':=t) (ch:=[]) un hok bare (fun b z=>absurd z (by simp)),r,q⟩
end
noncomputable def tCall (sp:Sp) (dvs:List V) (E:XK) (t:TA):TE:=fun σ H Q=>t σ H fun vs H1=>sp (vs++dvs) H1 Q E
noncomputable def Binds (K:PySem.W.Frag) (fd:FuncData) (ps:List Str) (ds:List Value):Prop:=
 ∀ (s:Shared) (us:List Value),K.In s.heap→(us++ds).length=ps.length→BindsTo s fd ⟨us,[]⟩ (ps.zip (us++ds))
theorem Binds.all {K:PySem.W.Frag} {fd:FuncData} {ps:List Str} (h:∀ us:List Value,us.length=ps.length→bindArgs fd ⟨us,[]⟩=pure (ps.zip us)):Binds K fd ps []:=fun s us _ hl=>by
 rw [List.append_nil] at hl ⊢
 exact .of_eq (h us hl)
noncomputable def Passes (CX:CXT) (X:Cx) (E:XK):Prop:=∀ (pins:List (Addr×Obj)) (σ:St) (H:Hp) (s:Shared) (e:Value) (s':Shared),Inv X pins σ H s→CX X.stack H s E e s'→X.xe e s'
section
variable {X:Cx} {CX:CXT} {k:Nat} {f C:Addr} {fd:FuncData} {ps:List Str} {sp:Sp} {dvs:List V} {ds:List Value} {E:XK} {x m:Str} {p pos apos:Pos} {e o:Expr} {es:List Expr} {ta:TE} {t:TA}
theorem run_fn {pins:List (Addr×Obj)} {σ:St} {H:Hp} {s:Shared} {Q:VK} {us:List Value} {vs:List V} (F:FnOk X.prog X.w X.K X.mg X.base CX k f fd ps sp) (hr:Room k X.A) (hb:Binds X.K fd ps ds) (hd:Vals dvs ds) (hx:Passes CX X E)
  (I:Inv X pins σ H s) (r:Vals vs us) (h:sp (vs++dvs) H Q E):wpAny (model X.prog X.w) X.A (call (.ref f) us) (EP X pins σ Q) X.xe s:=by
 have r2:Vals (vs++dvs) (us++ds):=r.append hd
 have hl:(us++ds).length=ps.length:=by rw [←r2.length];exact F.len _ _ _ _ h
 refine wpAny_call (codeAny_mono (F.run X.A X.stack s H ⟨us,[]⟩ (us++ds) (vs++dvs) Q E hr I.env0 (hb s us I.kIn hl) r2 h) fun r s' hq=>?_)
 cases r with
 | error e=>exact hx pins σ H s e s' I hq
 | ok fl=>
  cases fl with
  | ret u=>exact I.after hq
  | next=>exact False.elim hq
  | brk=>exact False.elim hq
  | cont=>exact False.elim hq
theorem pe_call (F:FnOk X.prog X.w X.K X.mg X.base CX k f fd ps sp) (hr:Room k X.A) (hg:Gl X x) (hm:X.mg x=some (.ref f)) (hk:PySem.W.keepIn X.K (.ref f)=true) (hb:Binds X.K fd ps ds) (hd:Vals dvs ds) (hx:Passes CX X E)
  (ha:PA X (e::es) t) (hdb:(x==("__debug__":Str))=false:=by decide) (he:starEach (e::es) X.env=(false,eval e X.env)::starEach es X.env:=by rfl) (hpl:(backTo pos (starEach es X.env)).any (·.1)=false:=by rfl):
  PE X (.Call (.Name x p) (e::es) [] pos) (tCall sp dvs E t):=by
 intro pins s σ H Q I h
 refine wpAny_Call_Name_kw (ld_glob I hg hm ?_ hdb)
 refine PySem.W.callWith_K (h₀:=X.base) I.ok.mod.kin hk (thn (ha pos pins s σ H _ I h) fun us s1 ⟨vs,H1,I1,r,q⟩=>⟨I1.kIn,?_⟩) he hpl
 exact run_fn F hr hb hd hx I1 r q
structure Mk (K:PySem.W.Frag) (C f:Addr):Prop where
 makes:PySem.W.makesIn K C=true
 init:PySem.W.findIn K (.ref C) "__init__"=some (some (.ref f))
 fn:PySem.W.isFn K (.ref f)=true
 kp:PySem.W.keepIn K (.ref C)=true
end
section
variable {X:Cx} {CX:CXT} {k:Nat} {f C:Addr} {fd:FuncData} {ps ks:List Str} {sp:Sp} {E:XK} {x m:Str} {p pos apos kpos:Pos} {e o:Expr} {es:List Expr} {kws:List Keyword} {te ta:TE} {t tk:TA} {nm:Option Str}
structure KBinds (K:PySem.W.Frag) (fd:FuncData) (ps ks:List Str) (g:List Value→List Value→List Value) (gV:List V→List V→List V):Prop where
 to:∀ (s:Shared) (us ws:List Value),K.In s.heap→(g us ws).length=ps.length→BindsTo s fd ⟨us,ks.zip ws⟩ (ps.zip (g us ws))
 rel:∀ {vs:List V} {us:List Value} {zs:List V} {ws:List Value},Vals vs us→Vals zs ws→Vals (gV vs zs) (g us ws)
variable {g:List Value→List Value→List Value} {gV:List V→List V→List V}
end
structure FnScope (N P:List Str) (sc:Scope):Prop where
 kind:sc.kind=.function
 co:sc.isCoroutine=false
 gen:sc.isGenerator=false
 nd:N.Nodup
 pre:N.take P.length=P
 par:∀ x∈P,sc.names.lookup x=some .local∨sc.names.lookup x=some .cell
 nofree:∀ y∈sc.names,y.2≠.free
theorem bindL_out {kindOf:Str→Option NameKind} {x:Str}:∀ {binds:List (Str×Value)} {m:Str→Option Value},(∀ v,(x,v)∉binds)→bindL kindOf binds m x=m x
 | [],_,_=>rfl
 | (n,v)::r,m,h=>by
  unfold bindL
  rw [bindL_out fun w hw=>h w (List.mem_cons_of_mem _ hw)]
  split
  ·have:x≠n:=by rintro rfl;exact h v List.mem_cons_self
   simp [this]
  ·rfl
theorem bindC_out {kindOf:Str→Option NameKind} {x:Str}:∀ {binds:List (Str×Value)} {m:Str→Option Value},(∀ v,(x,v)∉binds)→bindC kindOf binds m x=m x
 | [],_,_=>rfl
 | (n,v)::r,m,h=>by
  unfold bindC
  rw [bindC_out fun w hw=>h w (List.mem_cons_of_mem _ hw)]
  split
  ·rfl
  ·have:x≠n:=by rintro rfl;exact h v List.mem_cons_self
   simp [this]
theorem bindL_get {kindOf:Str→Option NameKind} {x:Str} {v:Value}:∀ {P:List Str} {vs:List Value} {i:Nat} {m:Str→Option Value},P.Nodup→P[i]? =some x→vs[i]? =some v→kindOf x=some .local→
  bindL kindOf (P.zip vs) m x=some v
 | [],_,_,_,_,h,_,_=>by simp at h
 | _::_,[],_,_,_,_,h,_=>by simp at h
 | p::P,w::vs,0,m,nd,h1,h2,hk=>by
  simp at h1 h2;subst h1;subst h2
  show bindL kindOf ((p,w)::P.zip vs) m p=_
  unfold bindL
  rw [bindL_out fun v hv=>(List.nodup_cons.mp nd).1 (List.of_mem_zip hv).1,if_pos hk]
  simp
 | p::P,w::vs,i + 1,m,nd,h1,h2,hk=>by
  show bindL kindOf ((p,w)::P.zip vs) m x=_
  unfold bindL
  exact bindL_get (i:=i) (List.nodup_cons.mp nd).2 (by simpa using h1) (by simpa using h2) hk
theorem bindC_get {kindOf:Str→Option NameKind} {x:Str} {v:Value}:∀ {P:List Str} {vs:List Value} {i:Nat} {m:Str→Option Value},P.Nodup→P[i]? =some x→vs[i]? =some v→kindOf x≠some .local→
  bindC kindOf (P.zip vs) m x=some v
 | [],_,_,_,_,h,_,_=>by simp at h
 | _::_,[],_,_,_,_,h,_=>by simp at h
 | p::P,w::vs,0,m,nd,h1,h2,hk=>by
  simp at h1 h2;subst h1;subst h2
  show bindC kindOf ((p,w)::P.zip vs) m p=_
  unfold bindC
  rw [bindC_out fun v hv=>(List.nodup_cons.mp nd).1 (List.of_mem_zip hv).1,if_neg hk]
  simp
 | p::P,w::vs,i + 1,m,nd,h1,h2,hk=>by
  show bindC kindOf ((p,w)::P.zip vs) m x=_
  unfold bindC
  exact bindC_get (i:=i) (List.nodup_cons.mp nd).2 (by simpa using h1) (by simpa using h2) hk
noncomputable def start (N:List Str) (vs:List V):St:=vs.map some++List.replicate (N.length - vs.length) none
noncomputable def cxOf (CX:CXT) (P:Program) (w:World) (K:PySem.W.Frag) (mg:Str→Option Value) (base:Heap) (N:List Str) (qual:Str) (scope:Scope) (f:Addr) (cd:Value) (A:Around) (outer:List Env) (s:Shared) (H:Hp) (E:XK):Cx where
 prog:=P
 w:=w
 K:=K
 mg:=mg
 base:=base
 A:=A.deeper (envOfC qual scope s.heap.objs.size f cd)
 N:=N
 s₀:=s
 H₀:=H
 env:=envOfC qual scope s.heap.objs.size f cd
 outer:=outer
 stack:=envOfC qual scope s.heap.objs.size f cd::outer
 ex:=[]
 calm:=true
 fn:=fun _=>true
 pn:=[]
 xe:=fun e s'=>wpAny (model P w) (A.deeper (envOfC qual scope s.heap.objs.size f cd)) (leaving (envOfC qual scope s.heap.objs.size f cd) e) (fun _ s''=>CX outer H s E e s'') (fun e' s''=>CX outer H s E e' s'') s'
theorem cell_has {sc:Scope} {n:Nat} {x:Str} (h:sc.names.lookup x=some .cell):∃ c,(cellsFrom n sc.names []).lookup x=some c:=by
 have q:=PySem.W.cellsFrom_some sc.names n [] (.inl h)
 exact Option.isSome_iff_exists.mp q
theorem inv_start {CX:CXT} {P:Program} {w:World} {K:PySem.W.Frag} {mg:Str→Option Value} {base:Heap} {N ps:List Str} {qual:Str} {scope:Scope} {f:Addr} {cd:Value} {A:Around} {outer:List Env} {s s1:Shared} {H:Hp} {E:XK} {us:List Value} {vs:List V}
  (S:FnScope N ps scope) (hd:A.handled=none) (e0:Env0 P w K mg base A outer s H) (hl:vs.length=ps.length) (r:Vals vs us)
  (x:InCallC s s.heap.objs.size (bindL (envOfC qual scope s.heap.objs.size f cd).kindOf (ps.zip us) fun _=>none) (cellsFrom (s.heap.objs.size + 1) scope.names []) (bindC (envOfC qual scope s.heap.objs.size f cd).kindOf (ps.zip us) fun _=>none) s1):
  Inv (cxOf CX P w K mg base N qual scope f cd A outer s H E) [] (start N vs) H s1:=by
 have hpl:ps.length≤N.length:=by have:=congrArg List.length S.pre;rw [List.length_take] at this;lia
 obtain ⟨h1,tk,rfl,hk⟩:=x.done
 have noA:∀ b:Addr,b∉(cxOf CX P w K mg base N qual scope f cd A outer s H E).ex:=fun b z=>absurd (show b∈([]:List Addr) from z) (by simp)
 refine ⟨⟨e0.mod,S.kind,rfl,rfl,Nat.le_refl _,fun y z c h1 h2=>?_,fun y hy=>?_,fun y c _ h=>?_,fun _=>hd,Around.frames_deeper e0.frames,.inr ⟨rfl,rfl⟩,fun b z=>absurd z (noA b),e0.bs,e0.bsz,fun b _ _=>noA b,fun b z=>absurd z (noA b),e0.funs,e0.frf⟩,
  rfl,e0.bare,Un.kept hk,⟨_,x.toInCall.ns,fun i y v h1 h2 h3=>?_⟩,fun y c h=>⟨_,x.cell y c h⟩,e0.hok.fresh (Nat.le_refl _),fun y c h=>?_,fun p hp=>absurd (show p∈([]:List (Addr×Obj)) from hp) (by simp),e0.hok.kept hk,?_⟩
 ·exact name_of_addr x.apart (PySem.mem_of_lookup h1) (PySem.mem_of_lookup h2)
 ·have hy:scope.names.lookup y=some .cell∨scope.names.lookup y=some .free:=hy
  rcases hy with hy | hy
  ·exact cell_has hy
  ·exact absurd rfl (S.nofree _ (PySem.mem_of_lookup hy))
 ·exact Nat.le_of_lt (x.above y c (PySem.mem_of_lookup h))
 ·have hi:i < vs.length:=by
   unfold start at h2
   by_cases hi:i < vs.length
   ·exact hi
   ·rw [List.getElem?_append_right (by simpa using hi)] at h2
    rw [List.getElem?_replicate] at h2
    split at h2 <;> cases h2
  have ha:vs[i]? =some v:=by
   unfold start at h2
   rw [List.getElem?_append_left (by simpa using hi),List.getElem?_map] at h2
   cases e:vs[i]? with
   | none=>rw [e] at h2;cases h2
   | some a=>rw [e] at h2;cases h2;rfl
  obtain ⟨u,hu,rv⟩:=r.get ha
  have hp:ps[i]? =some y:=by
   rw [←S.pre,List.getElem?_take_of_lt (by lia)];exact h1
  have ndP:ps.Nodup:=by rw [←S.pre];exact S.nd.sublist (List.take_sublist _ _)
  refine ⟨u,rv,?_⟩
  rcases S.par y (List.mem_of_getElem? hp) with k | k
  ·exact .inl ⟨k,bindL_get ndP hp hu k⟩
  ·obtain ⟨c,e⟩:=cell_has (n:=s.heap.objs.size + 1) k
   refine .inr ⟨.inl k,c,e,?_⟩
   have q:=x.cell y c e
   rw [bindC_get ndP hp hu (by show scope.names.lookup y≠_;rw [k];decide)] at q
   exact q
 ·exact e0.hok.fresh (Nat.le_of_lt (x.above y c (PySem.mem_of_lookup h)))
 ·unfold start
  show _=N.length
  rw [List.length_append,List.length_map,List.length_replicate]
  lia
theorem fn_of {CX:CXT} {P:Program} {w:World} {K:PySem.W.Frag} {mg:Str→Option Value} {base:Heap} {k:Nat} {f:Addr} {name qual:Str} {params:Arguments} {body:List Stmt} {scope:Scope} {dV kV doc pm cdv ct oc:Value} {an od:Option Addr}
  {osl:Array (Option Value)} {N ps:List Str} {sp:Sp} (lk:K.lookup f=some ⟨oc,od,.func (PySem.W.fnOf name qual params body scope dV kV doc pm an cdv ct),osl⟩) (hcd:PySem.W.codeIn K cdv qual=true) (S:FnScope N ps scope)
  (len:∀ vs H Q E,sp vs H Q E→vs.length=ps.length)
  (hbody:∀ (A:Around) (outer:List Env) (s:Shared) (H:Hp) (vs:List V) (Q:VK) (E:XK),Room k (A.deeper (envOfC qual scope s.heap.objs.size f cdv))→sp vs H Q E→
   ∃ t,PSs (cxOf CX P w K mg base N qual scope f cdv A outer s H E) body t∧t { nx:=fun _ H'=>Q .non H',rt:=Q } (start N vs) H):
  FnOk P w K mg base CX (k + 1) f (PySem.W.fnOf name qual params body scope dV kV doc pm an cdv ct) ps sp:=by
 refine ⟨len,fun A outer s H args us vs Q E hr e0 hb r hsp=>?_⟩
 have hl:=len _ _ _ _ hsp
 have KX:K.In s.heap:=e0.mod.kin.keeps fun b o e=>(e0.bs b o e).1
 have lim:s.heap.NoLimit:=e0.mod.nolimit.keeps fun b o e=>(e0.bs b o e).1
 have hkind:∀ y∈ps.zip us,scope.names.lookup y.1=some .local∨(scope.names.lookup y.1=some .cell∧((cellsFrom (s.heap.objs.size + 1) scope.names []).lookup y.1).isSome=true):=fun ⟨n,v⟩ hy=>by
  rcases S.par n (List.of_mem_zip hy).1 with q | q
  ·exact .inl q
  ·exact .inr ⟨q,PySem.W.cellsFrom_some _ _ _ (.inl q)⟩
 refine codeAny_call_function hr.depth (KX _ _ lk) rfl S.co S.gen rfl (PySem.W.codeRec_of KX hcd) (hb _ _ _ _ ?_)
 refine wpAny_newFunctionEnv_cells S.kind hkind fun env he s1 x=>?_
 subst he
 refine ⟨lim.keeps x.toInCall.keep,codeAny_func ?_⟩
 obtain ⟨t,ht,hq⟩:=hbody A outer s H vs Q E (hr.deeper _) hsp
 have I:Inv (cxOf CX P w K mg base N qual scope f cdv A outer s H E) [] (start N vs) H s1:=inv_start S hr.hd e0 hl r x
 refine wpAny_mono (ht [] s1 (start N vs) H _ I hq) (fun fl s' hs=>?_) fun e s' hs=>hs
 have fin:∀ {σ':St} {H':Hp} {v:V} {u:Value},Inv (cxOf CX P w K mg base N qual scope f cdv A outer s H E) [] σ' H' s'→RelV v u→Q v H'→CE outer P w H s Q u s':=
  fun {σ' H' v u} J rv q=>⟨v,H',J.os,J.bare,J.base,J.hok,rv,q⟩
 cases fl with
 | ret u=>
  obtain ⟨v,σ',H',J,rv,q⟩:=hs
  exact fin J rv q
 | next=>
  obtain ⟨σ',H',J,q⟩:=hs
  exact fin (v:=V.non) (u:=Value.none) J rfl q
 | brk=>
  obtain ⟨_,_,_,q⟩:=hs
  exact False.elim q
 | cont=>
  obtain ⟨_,_,_,q⟩:=hs
  exact False.elim q
end L2
namespace L2
open PySem PySem.Spec PyProof.Rows
section
variable {X:Cx} {x:Str} {p pos:Pos} {e:Expr} {es:List Expr} {t:TA} {id T:String} {r:List V→Hp→VK→Prop}
noncomputable def tCB (r:List V→Hp→VK→Prop) (t:TA):TE:=fun σ H Q=>t σ H fun vs H1=>r vs H1 Q
theorem pe_callB (hc:CallR X (.builtin id) r) (hg:Gl X x) (hm:X.mg x=none) (hv:bootBuiltins x=some (.builtin id)) (ha:PA X (e::es) t) (hn:x≠"__name__":=by decide) (hdb:(x==("__debug__":Str))=false:=by decide)
  (he:starEach (e::es) X.env=(false,eval e X.env)::starEach es X.env:=by rfl) (hpl:(backTo pos (starEach es X.env)).any (·.1)=false:=by rfl):PE X (.Call (.Name x p) (e::es) [] pos) (tCB r t):=by
 intro pins s σ H Q I h
 refine wpAny_Call_Name_kw (ld_blt I hg hm hv ?_ hn hdb)
 exact PyProof.Rows.callWith_builtin1 (thn (ha pos pins s σ H _ I h) fun us s1 ⟨vs,H1,I1,r1,q1⟩=>hc pins s1 σ H1 vs us Q I1 r1 q1) he hpl
theorem pe_callTy (hc:CallR X (.type T) r) (hg:Gl X x) (hm:X.mg x=none) (hv:bootBuiltins x=some (.type T)) (ha:PA X (e::es) t) (hn:x≠"__name__":=by decide) (hdb:(x==("__debug__":Str))=false:=by decide)
  (he:starEach (e::es) X.env=(false,eval e X.env)::starEach es X.env:=by rfl) (hpl:(backTo pos (starEach es X.env)).any (·.1)=false:=by rfl):PE X (.Call (.Name x p) (e::es) [] pos) (tCB r t):=by
 intro pins s σ H Q I h
 refine wpAny_Call_Name_kw (ld_blt I hg hm hv ?_ hn hdb)
 exact PyProof.Rows.callWith_type1 (thn (ha pos pins s σ H _ I h) fun us s1 ⟨vs,H1,I1,r1,q1⟩=>hc pins s1 σ H1 vs us Q I1 r1 q1) he hpl
end
end L2
namespace HT
open PySem PyProof.Rows
noncomputable def lexLt:List Int→List Int→Bool
 | [],[]=>false
 | [],_::_=>true
 | _::_,[]=>false
 | x::xs,y::ys=>if x=y then lexLt xs ys else decide (x < y)
theorem lexLt_cons (x y:Int) (xs ys:List Int):lexLt (x::xs) (y::ys)=if x=y then lexLt xs ys else decide (x < y):=rfl
theorem lexLt_nil_nil:lexLt [] []=false:=rfl
theorem lexLt_nil_cons (y:Int) (ys:List Int):lexLt [] (y::ys)=true:=rfl
theorem lexLt_cons_nil (x:Int) (xs:List Int):lexLt (x::xs) []=false:=rfl
theorem eqAt_int (A:Around) (s:Shared) (a:Int) (t:Tok) (c:Int) (u:Tok):∃ e,SeqAt.EqAt A s (.int a t) (.int c u) e∧(e=true↔a=c):=
 ⟨(a==c),SeqAt.EqAt.int_int a t c u,by simp⟩
theorem rcLt_int (A:Around) (s:Shared) (a:Int) (t:Tok) (c:Int) (u:Tok) (prog:Program) (w:World) (E:Value→Shared→Prop) (Q:Value→Shared→Prop) (h:Q (.bool (decide (a < c))) s):
  wpAny (model prog w) A (richCompare .Lt (.int a t) (.int c u)) Q E s:=
 (PyProof.Rows.lt_int h:wpAny (model prog w) A (compareOp .Lt (.int a t) (.int c u)) Q E s)
section
open PySem.SeqAt
open PySem.AutoSeq1 (wpAny_loadPart')
open PySem.MeetsSeq PySem.MeetsSeq2 PySem.MeetsSeq3
theorem tuple_lt_ints (l b:Addr) (items items2:Array Value) (n n2:Nat) (dd dd2:Option Addr) (sl sl2:Array (Option Value)) (ns ms:List Int) (hi:IntsAre items.toList ns) (hj:IntsAre items2.toList ms):
  Meets (Builtin.«tuple.__lt__» ⟨[.ref l,.ref b],[]⟩)
   (fun _ R s=>s.heap.get? l=some { cls:=.type "tuple",dict:=dd,data:=.seq items n,slots:=sl }∧s.heap.get? b=some { cls:=.type "tuple",dict:=dd2,data:=.seq items2 n2,slots:=sl2 }∧
    R (.ok (.ret (.bool (lexLt ns ms)))) s):=
 .of_wp fun prog w A R s h=>by
  obtain ⟨hp,g,d,tk,os⟩:=s;obtain ⟨hl,hb,h⟩:=h
  have f2:=AutoSeq1.sub_tuple_tuple
  have z1:items.size=ns.length:=by rw [←hi.length];simp
  have z2:items2.size=ms.length:=by rw [←hj.length];simp
  wp_walk using wpAny_loadPart' hl,wpAny_loadPart' hb,wpAny_forIn_list _ (fun rest b s'=>b.1=none∧s'=⟨hp,g,d,tk,os⟩∧∃ (vs ws:List Value) (ns' ms':List Int),rest=vs.zip ws∧
   IntsAre vs ns'∧IntsAre ws ms'∧ns'.length + items2.size=ms'.length + items.size∧R (.ok (.ret (.bool (lexLt ns' ms')))) ⟨hp,g,d,tk,os⟩) _
  case turn=>
   rintro ⟨y,x⟩ rest b s' ⟨hb',rfl,vs,ws,ns',ms',hz,hvi,hwi,hlen,hR⟩
   cases hvi with
   | nil=>rw [List.zip_nil_left] at hz;cases hz
   | cons a t hvi'=>
    cases hwi with
    | nil=>rw [List.zip_nil_right] at hz;cases hz
    | cons c u hwi'=>
     rw [List.zip_cons_cons] at hz
     injection hz with hyx hrest
     injection hyx with hy hx
     subst hy hx
     rw [lexLt_cons] at hR
     simp only [List.length_cons] at hlen
     obtain ⟨e,he,hiff⟩:=eqAt_int A.in1 ⟨hp,g,d,tk,os⟩ a t c u
     refine wpAny_bind (he prog w _ _ ?_)
     cases e with
     | true=>
      rw [if_pos (hiff.mp rfl)] at hR
      wp_walk
      exact ⟨rfl,rfl,_,_,_,_,hrest,hvi',hwi',by lia,hR⟩
     | false=>
      rw [if_neg (fun q=>absurd (hiff.mpr q) Bool.false_ne_true)] at hR
      have hri:=rcLt_int A.in1 ⟨hp,g,d,tk,os⟩ a t c u prog w
      wp_walk using hri
      exact ⟨_,rfl,by simpa using hR⟩
  case fin=>
   rintro ⟨b1,b2⟩ s' ⟨hb',rfl,vs,ws,ns',ms',hz,hvi,hwi,hlen,hR⟩
   simp only at hb'
   subst hb'
   have hv:lexLt ns' ms'=decide (items.size < items2.size):=by
    cases hvi with
    | nil=>
     cases hwi with
     | nil=>
      simp only [List.length_nil] at hlen
      rw [lexLt_nil_nil]
      exact (decide_eq_false (by lia)).symm
     | cons c u hw=>
      simp only [List.length_nil,List.length_cons] at hlen
      rw [lexLt_nil_cons]
      exact (decide_eq_true (by lia)).symm
    | cons a t hv=>
     cases hwi with
     | nil=>
      simp only [List.length_nil,List.length_cons] at hlen
      rw [lexLt_cons_nil]
      exact (decide_eq_false (by lia)).symm
     | cons c u hw=>
      rw [List.zip_cons_cons] at hz
      cases hz
   rw [hv] at hR
   wp_walk
   exact ⟨_,rfl,by simpa [Builtin.Tuple.tupleCompareSizes] using hR⟩
  case h=>
   exact ⟨rfl,rfl,items.toList,items2.toList,ns,ms,rfl,hi,hj,by lia,h⟩
end
section
variable {prog:Program} {w:World} {A:Around} {E:Value→Shared→Prop} {s:Shared}
theorem lt_tupInts {l b:Addr} {items items2:Array Value} {ns ms:List Int} {Q:Value→Shared→Prop} (hl:IsTup s.heap l items) (hb:IsTup s.heap b items2) (hi:IntsAre items.toList ns) (hj:IntsAre items2.toList ms)
  (hu:A.units < cLine) (h:Q (.bool (lexLt ns ms)) s):wpAny (model prog w) A (compareOp .Lt (.ref l) (.ref b)) Q E s:=by
 obtain ⟨⟨cls,dd,data,sl⟩,ho,hc,n,hd⟩:=id hl
 obtain ⟨⟨cls2,dd2,data2,sl2⟩,ho2,hc2,n2,hd2⟩:=id hb
 simp only at hc hd hc2 hd2
 subst hc hd hc2 hd2
 exact richCompare_meets_room (op:=.Lt) ⟨_,ho,rfl⟩ ⟨_,ho2,rfl⟩ PySem.F.slot_tuple_lt PySem.F.entry_tuple_lt (PySem.F.args_tuple_lt_2 _ _) (tuple_lt_ints l b items items2 n n2 dd dd2 sl sl2 ns ms hi hj)
  ⟨ho,ho2,show Value.bool (lexLt ns ms)≠Value.notImplemented∧Q (.bool (lexLt ns ms)) s from ⟨(fun x=>nomatch x),h⟩⟩ hu
theorem cat_tup {t b:Addr} {vs ws:List Value} {Q:Value→Shared→Prop} (ht:IsTup s.heap t vs.toArray) (hb:IsTup s.heap b ws.toArray) (hv:vs≠[])
  (h1:ws=[]→Q (.ref t) s) (h2:ws≠[]→Q (.ref s.heap.objs.size) { s with heap:=s.heap.push { cls:=.type "tuple",data:=.seq (vs++ws).toArray } })
  (hsz:vs.length + ws.length≤sizeLine):wpAny (model prog w) A (binaryOp .Add (.ref t) (.ref b)) Q E s:=by
 obtain ⟨⟨cls,dd,data,sl⟩,ho,hc,n,hd⟩:=id ht
 obtain ⟨⟨cls2,dd2,data2,sl2⟩,ho2,hc2,n2,hd2⟩:=id hb
 simp only at hc hd hc2 hd2
 subst hc hd hc2 hd2
 have e:vs.toArray++ws.toArray=(vs++ws).toArray:=by simp
 by_cases hw:ws=[]
 ·exact concat_meets ⟨_,ho,rfl⟩ ⟨_,ho2,rfl⟩ noFill_tuple_add seq_tuple_add PySem.F.slot_tuple_add PySem.F.entry_tuple_add (PySem.F.args_tuple_add_2 _ _)
   (tuple_addW1 t b vs.toArray ws.toArray n n2 dd dd2 sl sl2 (by simpa using hv) (by simp [hw])) ⟨ho,ho2,h1 hw⟩
 ·refine concat_meets ⟨_,ho,rfl⟩ ⟨_,ho2,rfl⟩ noFill_tuple_add seq_tuple_add PySem.F.slot_tuple_add PySem.F.entry_tuple_add (PySem.F.args_tuple_add_2 _ _)
   (tuple_addW2 t b vs.toArray ws.toArray n n2 dd dd2 sl sl2 (by simpa using hv) (by simpa using hw) (by rw [List.size_toArray,List.size_toArray];exact hsz)) ⟨ho,ho2,?_⟩
  rw [e]
  exact h2 hw
end
end HT
namespace L2
open PySem PySem.Spec PyProof.Rows
noncomputable abbrev TO:=St→Hp→(Option Int→Hp→Prop)→Prop
theorem intsAre_of {ns:List Int}:∀ {us:List Value},Vals (ns.map V.int) us→IntsAre us ns:=by
 induction ns with
 | nil=>intro us r;rw [List.map_nil] at r;cases r;exact .nil
 | cons n ns ih=>
  intro us r
  rw [List.map_cons] at r
  cases r with
  | cons r1 r2=>
   obtain ⟨t,e⟩:=r1
   subst e
   exact .cons n t (ih r2)
section
variable {X:Cx} {e:Expr} {te:TE} {lo hi:Option Expr} {tl th:TO} {pos p2:Pos}
noncomputable def rLtT (K:PySem.W.Frag):R2:=fun x y H Q=>∃ a b ns ms,x=.ref a∧y=.ref b∧SqT K H a (ns.map V.int)∧SqT K H b (ms.map V.int)∧Q (.bl (HT.lexLt ns ms)) H
theorem op_ltT (hu:X.A.units < cLine):OpR X (compareOp .Lt) (rLtT X.K):=by
 intro pins s σ H x y v u Q I rx ry h
 obtain ⟨a,b,ns,ms,rfl,rfl,ha,hb,q⟩:=h
 cases rx
 cases ry
 obtain ⟨its,r1,p1,_⟩:=I.tuple ha
 obtain ⟨its2,r2,p2,_⟩:=I.tuple hb
 have i1:IntsAre its.toArray.toList ns:=intsAre_of r1
 have i2:IntsAre its2.toArray.toList ms:=intsAre_of r2
 exact HT.lt_tupInts p1 p2 i1 i2 hu ⟨.bl (HT.lexLt ns ms),H,I,rfl,q⟩
noncomputable def rCatT (K:PySem.W.Frag):R2:=fun x y H Q=>∃ a b xs ys,x=.ref a∧y=.ref b∧SqT K H a xs∧SqT K H b ys∧xs≠[]∧xs.length + ys.length≤sizeLine∧
 (ys=[]→Q (.ref a) H)∧(ys≠[]→∀ p,H p=none→Q (.ref p) (upd H p (.tup (xs++ys))))
theorem Vals.nil_iff {xs:List V} {us:List Value} (r:Vals xs us):us=[]↔xs=[]:=by
 cases r with
 | nil=>simp
 | cons _ _=>simp
theorem op_catT:OpR X (binaryOp .Add) (rCatT X.K):=by
 intro pins s σ H x y v u Q I rx ry h
 obtain ⟨a,b,xs,ys,rfl,rfl,ha,hb,hx,hz,q1,q2⟩:=h
 cases rx
 cases ry
 obtain ⟨its,r1,p1,_⟩:=I.tuple ha
 obtain ⟨its2,r2,p2,_⟩:=I.tuple hb
 refine HT.cat_tup p1 p2 (fun z=>hx (r1.nil_iff.mp z)) (fun z=>⟨.ref a,H,I,rfl,q1 (r2.nil_iff.mp z)⟩) (fun z=>?_) (by rw [←r1.length,←r2.length];exact hz)
 refine ⟨.ref s.heap.objs.size,_,I.laid (t':=s.toks) (o:=.tup (xs++ys)) (fun b ob q=>Heap.get?_push_of_some _ q) (Nat.le_refl _) ?_,rfl,q2 (fun w=>z (r2.nil_iff.mpr w)) _ (I.hok.fresh (Nat.le_refl _))⟩
 exact ⟨by rw [List.length_append];exact hz,_,r1.append r2,IsTupN.new _ _⟩
end
end L2
namespace L2
open PySem PySem.Spec PyProof.Rows
noncomputable def ixN (n:Nat) (i:Int):Option Nat:=if 0≤i then (if i < n then some i.toNat else none) else if -(n:Int)≤i then some (i + n).toNat else none
noncomputable def atI {α:Type} (xs:List α) (i:Int):Option α:=(ixN xs.length i).bind fun j=>xs[j]?
theorem ixN_seq {n:Nat} {i:Int} {j:Nat} (h:ixN n i=some j):seqIndex? i n=some j∧j < n∧-(n:Int)≤i∧i < n:=by
 unfold ixN at h
 by_cases h0:0≤i
 ·rw [if_pos h0] at h
  by_cases h1:i < n
  ·rw [if_pos h1] at h
   have e:i.toNat=j:=Option.some.inj h
   exact ⟨by rw [seqIndex_of h0 h1,e],by lia,by lia,h1⟩
  ·rw [if_neg h1] at h;cases h
 ·rw [if_neg h0] at h
  by_cases h1:-(n:Int)≤i
  ·rw [if_pos h1] at h
   have e:(i + n).toNat=j:=Option.some.inj h
   exact ⟨by rw [seqIndex_neg (by lia) h1,e],by lia,h1,by lia⟩
  ·rw [if_neg h1] at h;cases h
theorem atI_get {α:Type} {xs:List α} {i:Int} {v:α} (h:atI xs i=some v):∃ j,seqIndex? i xs.length=some j∧xs[j]? =some v∧j < xs.length∧-(xs.length:Int)≤i∧i < xs.length:=by
 unfold atI at h
 cases e:ixN xs.length i with
 | none=>rw [e] at h;cases h
 | some j=>
  rw [e] at h
  obtain ⟨h1,h2,h3,h4⟩:=ixN_seq e
  exact ⟨j,h1,h,h2,h3,h4⟩
theorem atI_nat {α:Type} {xs:List α} {j:Nat} {v:α} (h:xs[j]? =some v):atI xs (j:Int)=some v:=by
 have hj:j < xs.length:=(List.getElem?_eq_some_iff.mp h).1
 have e:ixN xs.length (j:Int)=some j:=by
  unfold ixN
  rw [if_pos (by lia),if_pos (by lia)];simp
 unfold atI;rw [e];exact h
noncomputable def PlainIx (b:Expr):Prop:=∀ o i,subscripted b false o i=operate [o,i] (getItem o i)
noncomputable def IxR (X:Cx) (r:R2):Prop:=
 ∀ (value slice:Expr) (pins:List (Addr×Obj)) (s:Shared) (σ:St) (H:Hp) (x y:V) (v u:Value) (Q:VK),Inv X pins σ H s→RelV x v→RelV y u→r x y H Q→
  subscripted slice false v u=operate [v,u] (getItem v u)→wpAny (model X.prog X.w) X.A (subscriptTail value slice v u) (EP X pins σ Q) X.xe s
noncomputable def MtR (X:Cx) (id:String) (r:V→List V→Hp→VK→Prop):Prop:=
 ∀ (pins:List (Addr×Obj)) (s:Shared) (σ:St) (H:Hp) (x:V) (xs:List V) (v:Value) (us:List Value) (Q:VK),Inv X pins σ H s→RelV x v→Vals xs us→r x xs H Q→
  wpAny (model X.prog X.w) X.A (call (.builtin id) (v::us)) (EP X pins σ Q) X.xe s
section
variable {X:Cx} {a b:Expr} {ta tb:TE} {pos:Pos}
theorem pe_ix {r:R2} (hr:IxR X r) (ha:PE X a ta) (hb:PE X b tb) (hs:PlainIx b):PE X (.Subscript a b pos) (tOp r ta tb):=by
 intro pins s σ H Q I h
 exact Subscript_ (binT ha hb I h fun v u s2 x y H2 I2 rx ry q=>hr a b pins s2 σ H2 x y v u Q I2 rx ry q (hs _ _))
noncomputable def rIxL (K:PySem.W.Frag):R2:=fun x y H Q=>∃ p xs i v,x=.ref p∧y=.int i∧SqL K H p xs∧atI xs i=some v∧Q v H
noncomputable def rIxT (K:PySem.W.Frag):R2:=fun x y H Q=>∃ p xs i v,x=.ref p∧y=.int i∧SqT K H p xs∧atI xs i=some v∧Q v H
theorem ix_list:IxR X (rIxL X.K):=by
 intro value slice pins s σ H x y v u Q I rx ry h hs
 obtain ⟨p,xs,i,z,rfl,rfl,hq,he,q⟩:=h
 cases rx
 obtain ⟨t,rfl⟩:=ry
 obtain ⟨its,r,pl,hz⟩:=I.list hq
 obtain ⟨j,h1,h2,h3,h4,h5⟩:=atI_get he
 obtain ⟨w,ew,rw'⟩:=r.get h2
 have hl:=r.length
 have hn:=line63
 have fin:EP X pins σ Q w s:=⟨z,H,I,rw',q⟩
 by_cases h0:0≤i
 ·have hj:i.toNat=j:=by
   rw [seqIndex_of h0 h5] at h1
   exact Option.some.inj h1
  exact item_listR pl.isList h0 (by lia) (by rw [hj];simpa using ew) fin hs
 ·have hj:(i + (its.toArray.size:Int)).toNat=j:=by
   rw [seqIndex_neg (by lia) h4] at h1
   rw [List.size_toArray,←hl]
   exact Option.some.inj h1
  exact subscriptTail_builtinR (x:=w) pl.isList.typeIs slot_list_getitem.lookup
   (wpAny_getItem_list_neg (Q:=fun r s'=>r=w∧EP X pins σ Q r s') pl.isList (by lia) (by rw [List.size_toArray] <;> lia) (by lia) (by rw [hj];simpa using ew) ⟨rfl,fin⟩) hs
theorem ix_tup:IxR X (rIxT X.K):=by
 intro value slice pins s σ H x y v u Q I rx ry h hs
 obtain ⟨p,xs,i,z,rfl,rfl,hq,he,q⟩:=h
 cases rx
 obtain ⟨t,rfl⟩:=ry
 obtain ⟨its,r,pl,hz⟩:=I.tuple hq
 obtain ⟨j,h1,h2,h3,h4,h5⟩:=atI_get he
 obtain ⟨w,ew,rw'⟩:=r.get h2
 have hl:=r.length
 have hn:=line63
 have fin:EP X pins σ Q w s:=⟨z,H,I,rw',q⟩
 exact subscriptTail_builtinR (x:=w) pl.typeIs slot_tuple_getitem.lookup
  (getItem_tuple (j:=j) (Q:=fun r s'=>r=w∧EP X pins σ Q r s') pl (by lia) (by lia) (by rw [List.size_toArray,←hl];exact h1) (by simpa using ew) ⟨rfl,fin⟩) hs
theorem Inv.lst {pins:List (Addr×Obj)} {σ:St} {H:Hp} {s:Shared} {p:Addr} {xs:List V} (I:Inv X pins σ H s) (h:H p=some (.lst xs)):
  ∃ (its:List Value) (n:Nat),Vals xs its∧s.heap.get? p=some { cls:=.type "list",data:=.seq its.toArray n }∧xs.length≤sizeLine:=by
 obtain ⟨z,its,n,r,e⟩:=I.hok p _ h
 exact ⟨its,n,r,e,z⟩
theorem call_len_seq:CallR X (.builtin "len") (fun xs H Q=>∃ p ys,xs=[.ref p]∧(SqL X.K H p ys∨SqT X.K H p ys)∧Q (.int ys.length) H):=by
 intro pins s σ H xs us Q I r h
 obtain ⟨p,ys,rfl,hq,q⟩:=h
 obtain ⟨u,rfl,rx⟩:=vals1 r
 cases rx
 have hn:=line63
 rcases hq with hq | hq
 ·obtain ⟨its,r',pl,hz⟩:=I.list hq
  have hlen:=r'.length
  exact Calls.call_len_list pl.isList (by simp only [List.size_toArray] <;> lia) ⟨.int ys.length,H,I.tok _,⟨s.toks + 1,by rw [List.size_toArray,hlen]⟩,q⟩
 ·obtain ⟨its,r',pl,hz⟩:=I.tuple hq
  have hlen:=r'.length
  exact len_tuple pl (by simp only [List.size_toArray] <;> lia) ⟨.int ys.length,H,I.tok _,⟨s.toks + 1,by rw [List.size_toArray,hlen]⟩,q⟩
theorem call_list_of:CallR X (.type "list") (fun xs H Q=>∃ p ys,xs=[.ref p]∧(SqL X.K H p ys∨SqT X.K H p ys)∧∀ l,H l=none→Q (.ref l) (upd H l (.lst ys))):=by
 intro pins s σ H xs us Q I r h
 obtain ⟨p,ys,rfl,hq,q⟩:=h
 obtain ⟨u,rfl,rx⟩:=vals1 r
 cases rx
 have fin:∀ (its:List Value),Vals ys its→ys.length≤sizeLine→∀ (h':Heap) (c':Nat),(∀ b o',s.heap.get? b=some o'→h'.get? b=some o')→
   h'.get? s.heap.objs.size=some { cls:=.type "list",dict:=none,data:=.seq its.toArray c',slots:=#[] }→EP X pins σ Q (.ref s.heap.objs.size) { s with heap:=h' }:=fun its r' hz h' c' kp e=>
  ⟨.ref s.heap.objs.size,_,I.laid (t':=s.toks) kp (Nat.le_refl _) (show ObjOk X.prog X.w _ h' _ (.lst ys) from ⟨hz,its,c',r',e⟩),rfl,q _ (I.hok.fresh (Nat.le_refl _))⟩
 rcases hq with hq | hq
 ·obtain ⟨its,r',pl,hz⟩:=I.list hq
  have hlen:=r'.length
  obtain ⟨o,ho,hc,n,hd⟩:=pl.isList
  exact call_list_seq p (.inl rfl) ho hc hd (fun h' c' kp e=>fin its r' hz h' c' kp e) (by simp only [List.size_toArray] <;> lia)
 ·obtain ⟨its,r',pl,hz⟩:=I.tuple hq
  have hlen:=r'.length
  obtain ⟨o,ho,hc,n,hd⟩:=pl
  exact call_list_seq p (.inr rfl) ho hc hd (fun h' c' kp e=>fin its r' hz h' c' kp e) (by simp only [List.size_toArray] <;> lia)
theorem call_tuple_of:CallR X (.type "tuple") (fun xs H Q=>∃ p ys,xs=[.ref p]∧((SqL X.K H p ys∧∀ l,H l=none→Q (.ref l) (upd H l (.tup ys)))∨(SqT X.K H p ys∧Q (.ref p) H))):=by
 intro pins s σ H xs us Q I r h
 obtain ⟨p,ys,rfl,h⟩:=h
 obtain ⟨u,rfl,rx⟩:=vals1 r
 cases rx
 rcases h with ⟨hq,q⟩ | ⟨hq,q⟩
 ·obtain ⟨its,r',pl,hz⟩:=I.list hq
  have hlen:=r'.length
  refine call_tuple_list pl.isList (fun h' kp=>?_) (by simp only [List.size_toArray] <;> lia)
  have I1:Inv X pins σ H { s with heap:=h' }:=I.kept (t':=s.toks) kp
  have I2:Inv X pins σ (upd H h'.objs.size (.tup ys)) { s with heap:=h'.push { cls:=.type "tuple",data:=.seq its.toArray } }:=
   I1.laid (t':=s.toks) (fun b o e=>Heap.get?_push_of_some _ e) (Nat.le_refl _) (show ObjOk X.prog X.w _ _ _ (.tup ys) from ⟨hz,its,r',IsTupN.new _ _⟩)
  exact ⟨.ref h'.objs.size,_,I2,rfl,q _ (I1.hok.fresh (Nat.le_refl _))⟩
 ·obtain ⟨its,r',pl,hz⟩:=I.tuple hq
  exact call_tuple_same pl ⟨.ref p,H,I,rfl,q⟩
noncomputable def tyV (K:PySem.W.Frag) (T:String) (x:V) (H:Hp):Prop:=match x with
 | .str _=>T="str"
 | .int _=>T="int"
 | .ref p=>(T="list"∧∃ xs,SqL K H p xs)∨(T="tuple"∧∃ o,K.lookup p=some o∧o.cls=.type "tuple"∧o.dict=none)∨
   (T="dict"∧((∃ kvs,H p=some (.dK kvs))∨∃ kvs,H p=some (.dT kvs)))∨(T="set"∧∃ S n,H p=some (.set S n))
 | _=>False
theorem tyV_is {pins:List (Addr×Obj)} {σ:St} {H:Hp} {s:Shared} {T:String} {x:V} {v:Value} (I:Inv X pins σ H s) (r:RelV x v) (ty:tyV X.K T x H):
  s.TypeIs v T∧∀ a,v=.ref a→∃ ob,s.heap.get? a=some ob∧ob.dict=none:=by
 cases x with
 | str z=>
  obtain ⟨t,rfl⟩:=r
  cases (show T="str" from ty)
  exact ⟨typeIs_str s z t,fun _ e=>nomatch e⟩
 | int i=>
  obtain ⟨t,rfl⟩:=r
  cases (show T="int" from ty)
  exact ⟨typeIs_int s i t,fun _ e=>nomatch e⟩
 | ref p=>
  cases r
  rcases ty with ⟨rfl,xs,hq⟩ | ⟨rfl,o,hk,hc,hd⟩ | ⟨rfl,hk⟩ | ⟨rfl,S,n,hk⟩
  ·obtain ⟨its,_,pl,_⟩:=I.list hq
   refine ⟨pl.isList.typeIs,fun a e=>?_⟩
   cases e
   obtain ⟨o,n,e,c,hd,_⟩:=pl
   exact ⟨o,e,hd⟩
  ·refine ⟨⟨o,I.kIn p o hk,hc⟩,fun a e=>?_⟩
   cases e
   exact ⟨o,I.kIn _ o hk,hd⟩
  ·have z:∃ o,s.heap.get? p=some o∧o.ExactDict:=by
    rcases hk with ⟨kvs,hk⟩ | ⟨kvs,hk⟩
    ·obtain ⟨_,_,_,_,o,_,_,e,ex,_⟩:=I.hok p _ hk
     exact ⟨o,e,ex⟩
    ·obtain ⟨_,_,_,_,o,_,_,e,ex,_⟩:=I.hok p _ hk
     exact ⟨o,e,ex⟩
   obtain ⟨o,e,ex⟩:=z
   refine ⟨⟨o,e,ex.1⟩,fun a e2=>?_⟩
   cases e2
   exact ⟨o,e,ex.2.1⟩
  ·obtain ⟨o,_,_,_,e,ex,_⟩:=I.hok p _ hk
   refine ⟨⟨o,e,ex.1⟩,fun a e2=>?_⟩
   cases e2
   exact ⟨o,e,ex.2.1⟩
 | _=>exact False.elim ty
noncomputable def tBM (K:PySem.W.Frag) (T:String) (r:V→List V→Hp→VK→Prop) (to:TE) (t:TA):TE:=fun σ H Q=>to σ H fun x H1=>tyV K T x H1∧t σ H1 fun xs H2=>r x xs H2 Q
variable {o e:Expr} {es:List Expr} {to:TE} {t:TA} {name:Str} {apos cpos:Pos} {T id:String} {r:V→List V→Hp→VK→Prop}
theorem pe_bm (pa:PlainAttrs T) (slot:Slot T name id) (hty:typeOf (.builtin id)=pure (.type "method_descriptor")) (hm:MtR X id r) (ho:PE X o to) (ha:PA X (e::es) t)
  (hbase:attributeBase o name X.env (eval o X.env)=eval o X.env:=by rfl)
  (hfew:((backTo cpos (starEach (e::es) X.env)).all (fun x=> !x.1)&&(backToKw cpos (keywordEach [] X.env)).all (fun x=>x.1.isSome)
   &&decide ((e::es).length + ([]:List Keyword).length + (if ([]:List Keyword).isEmpty then 0 else 1) < 30))=true:=by rfl)
  (hline:(apos.endLine==cpos.line)=true:=by rfl) (hs:starEach (e::es) X.env=(false,eval e X.env)::starEach es X.env:=by rfl) (hplain:(backTo cpos (starEach es X.env)).any (·.1)=false:=by rfl):
  PE X (.Call (.Attribute o name apos) (e::es) [] cpos) (tBM X.K T r to t):=by
 intro pins s σ H Q I h
 refine wpAny_Call_method_late hbase hfew hline rfl (thn (ho pins s σ H _ I h) fun v s1 ⟨x,H1,I1,r1,ty,q1⟩=>?_)
 obtain ⟨h1,h2⟩:=tyV_is I1 r1 ty
 refine ⟨T,id,pa,slot,hty,h1,h2,?_⟩
 have hA:=ha cpos pins s1 σ H1 _ I1 q1
 rw [hs] at hA ⊢
 refine Calls.callWith_builtin (by show (false||(backTo cpos (starEach es X.env)).any (·.1))=false;rw [hplain] <;> rfl) (Calls.evalArgs_plain ?_)
 exact thn hA fun us s2 ⟨vs,H2,I2,r2,q2⟩=>hm pins s2 σ H2 x vs v us Q I2 r1 r2 q2
end
end L2
namespace L2
open PySem PySem.Spec PyProof.Rows
noncomputable def MtM (X:Cx) (id:String) (r:V→List V→Hp→VK→Prop):Prop:=
 ∀ (pins:List (Addr×Obj)) (s:Shared) (σ:St) (H:Hp) (x:V) (xs:List V) (v:Value) (us:List Value) (Q:VK),Inv X pins σ H s→RelV x v→Vals xs us→r x xs H Q→
  wpAny (model X.prog X.w) X.A (call (.builtin id) (v::us)) (EP X pins σ Q) X.xe s
theorem Vals.one:∀ {x:V} {us:List Value},Vals [x] us→∃ u,us=[u]∧RelV x u
 | _,_,.cons r .nil=>⟨_,rfl,r⟩
theorem Vals.two {x y:V} {us:List Value} (h:Vals [x,y] us):∃ u v,us=[u,v]∧RelV x u∧RelV y v:=by
 cases h with
 | cons r t=>
 cases t with
 | cons q t=>
 cases t
 exact ⟨_,_,rfl,r,q⟩
theorem Vals.dropLast {xs:List V} {us:List Value} (h:Vals xs us):Vals xs.dropLast us.dropLast:=by
 induction h with
 | nil=>exact .nil
 | cons r t ih=>
  cases t with
  | nil=>exact .nil
  | cons q t'=>exact .cons r ih
theorem Vals.eraseIdx:∀ {xs:List V} {us:List Value} (i:Nat),Vals xs us→Vals (xs.eraseIdx i) (us.eraseIdx i)
 | _,_,_,.nil=>.nil
 | _,_,0,.cons _ t=>t
 | _,_,i + 1,.cons r t=>.cons r (Vals.eraseIdx i t)
section
variable {X:Cx} {pins:List (Addr×Obj)} {σ:St} {H:Hp} {s:Shared} {l b:Addr} {xs ys zs:List V}
theorem Inv.lset {its its':List Value} {n:Nat} {f:Array Value→Array Value} {t':Nat} (I:Inv X pins σ H s) (hH:H l=some (.lst xs))
  (e:s.heap.get? l=some { cls:=.type "list",data:=.seq its.toArray n }) (hf:f its.toArray=its'.toArray) (hv:Vals ys its') (hz:ys.length≤sizeLine):
  Inv X pins σ (upd H l (.lst ys)) { s with heap:=s.heap.update l (Obj.mapSeq f),toks:=t' }:=by
 have q:=PySem.IsL.update e f
 rw [hf] at q
 refine I.write (x:=l) (e:=l) (by rw [hH];exact trivial) (.inl rfl) (fun b' u hb hu=>(Heap.get?_update_other s.heap (Obj.mapSeq f) (Ne.symm hb)).trans hu) ⟨_,q⟩ ?_
 exact ⟨hz,its',_,hv,q⟩
theorem Inv.lnew {its:List Value} {t':Nat} (I:Inv X pins σ H s) (hv:Vals ys its) (hz:ys.length≤sizeLine):
  Inv X pins σ (upd H s.heap.objs.size (.lst ys)) { s with heap:=s.heap.push { cls:=.type "list",data:=.seq its.toArray },toks:=t' }:=
 I.laid (fun _ _ q=>Heap.get?_push_of_some _ q) (Nat.le_refl _) ⟨hz,its,0,hv,Heap.get?_push_size _ rfl⟩
theorem Inv.fresh (I:Inv X pins σ H s):H s.heap.objs.size=none:=I.hok.fresh (Nat.le_refl _)
theorem Inv.lstM (I:Inv X pins σ H s) (hH:H l=some (.lst xs)):xs.length≤sizeLine∧∃ (its:List Value) (n:Nat),Vals xs its∧xs.length=its.length∧s.heap.get? l=some { cls:=.type "list",data:=.seq its.toArray n }:=by
 obtain ⟨z,its,n,r,e⟩:=I.hok l _ hH
 exact ⟨z,its,n,r,r.length,e⟩
theorem notLongL {n:Nat} (h:n≤sizeLine):Builtin.List.listTooLong n=false:=by
 unfold Builtin.List.listTooLong
 exact decide_eq_false (by lia)
end
section
variable {X:Cx}
noncomputable def rAppend:V→List V→Hp→VK→Prop:=fun x vs H Q=>∃ l xs y,x=.ref l∧vs=[y]∧H l=some (.lst xs)∧xs.length < sizeLine∧Q .non (upd H l (.lst (xs++[y])))
theorem mt_append:MtM X "list.append" rAppend:=by
 intro pins s σ H x vs v us Q I rx rv h
 obtain ⟨l,xs,y,rfl,rfl,hH,hz,q⟩:=h
 cases rx
 obtain ⟨u,rfl,ru⟩:=rv.one
 obtain ⟨z,its,n,r,hl,e⟩:=I.lstM hH
 refine call_meets F.slot_list_append ⟨_,e,rfl⟩ F.entry_list_append (F.args_list_append_2 _ _) (PySem.list_append l its.toArray n u (by rw [List.size_toArray];lia)) ⟨e,?_⟩
 refine ⟨.non,_,I.lset (its':=its++[u]) hH e (by simp) (r.append (.cons ru .nil)) ?_,rfl,q⟩
 rw [List.length_append,List.length_singleton]
 lia
noncomputable def rExtend:V→List V→Hp→VK→Prop:=fun x vs H Q=>∃ l b xs zs,x=.ref l∧vs=[.ref b]∧H l=some (.lst xs)∧H b=some (.lst zs)∧xs.length + zs.length≤sizeLine∧Q .non (upd H l (.lst (xs++zs)))
theorem mt_extend:MtM X "list.extend" rExtend:=by
 intro pins s σ H x vs v us Q I rx rv h
 obtain ⟨l,b,xs,zs,rfl,rfl,hH,hB,hz,q⟩:=h
 cases rx
 obtain ⟨u,rfl,ru⟩:=rv.one
 cases ru
 obtain ⟨z,its,n,r,hl,e⟩:=I.lstM hH
 obtain ⟨z2,its2,n2,r2,hl2,e2⟩:=I.lstM hB
 have hsz:its.toArray.size + its2.toArray.size≤sizeLine:=by rw [List.size_toArray,List.size_toArray];lia
 have hlong:¬(!its.toArray.isEmpty&&Builtin.List.listTooLong (its.toArray.size + its2.toArray.size))=true:=by
  rw [notLongL hsz,Bool.and_false]
  exact Bool.false_ne_true
 refine call_meets F.slot_list_extend ⟨_,e,rfl⟩ F.entry_list_extend (F.args_list_extend_2 _ _)
  (AutoSeq1.list_extend_list_list_0 l its.toArray n b its2.toArray n2 hlong (by rw [List.size_toArray];lia) (by lia)) ⟨e,e2,?_⟩
 refine ⟨.non,_,I.lset (its':=its++its2) hH e (by simp) (r.append r2) ?_,rfl,q⟩
 rw [List.length_append]
 lia
noncomputable def rCat:R2:=fun x y H Q=>∃ l b xs zs,x=.ref l∧y=.ref b∧H l=some (.lst xs)∧H b=some (.lst zs)∧xs.length + zs.length≤sizeLine∧∀ p,H p=none→Q (.ref p) (upd H p (.lst (xs++zs)))
theorem op_cat:OpR X (binaryOp .Add) rCat:=by
 intro pins s σ H x y v u Q I rx ry h
 obtain ⟨l,b,xs,zs,rfl,rfl,hH,hB,hz,q⟩:=h
 cases rx
 cases ry
 obtain ⟨z,its,n,r,hl,e⟩:=I.lstM hH
 obtain ⟨z2,its2,n2,r2,hl2,e2⟩:=I.lstM hB
 refine PySem.P.add_list e e2 ?_ (by rw [List.size_toArray,List.size_toArray];lia)
 have ea:its.toArray++its2.toArray=(its++its2).toArray:=by simp
 rw [ea]
 exact ⟨.ref _,_,I.lnew (t':=s.toks) (r.append r2) (by rw [List.length_append];lia),rfl,q _ I.fresh⟩
end
section
variable {prog:Program} {w:World} {A:Around} {E:Value→Shared→Prop} {s:Shared}
end
section
variable {X:Cx}
end
end L2
namespace Att
open PySem PySem.W PySem.Calls PyProof.Rows
theorem ints_of_wellAll {P:Params} {h:Heap}:∀ (ns:List Int) (vs:List Value),WellAll P h vs (ns.map WData.int)→IntsAre vs ns:=by
 intro ns
 induction ns with
 | nil=>
  intro vs w
  rw [List.map_nil] at w
  cases w
  exact .nil
 | cons n ns ih=>
  intro vs w
  rw [List.map_cons] at w
  cases w with
  | cons a b=>
   cases a
   exact .cons _ _ (ih _ b)
theorem script_of {l:OpenLaw} {n:Nat} (hn:l.most=some n) {P:Params} {h:Heap} {args:List WData} {vals:List Value}
  (hpre:l.row.toRowW.claim.pre args=true) (hwl:WellAll P h vals args):
  ∃ a vs ns,vals=[Value.ref a]∧args=[WData.list (ns.map WData.int)]∧h.get? a=some { cls:=.type "list",data:=.seq vs.toArray }∧IntsAre vs ns∧ns.length≤n:=by
 have hsh:WShape.hasAll [] args [.list .int]=true:=(pre_splitW hpre).1
 have hc:l.pre.holds [] { args:=args }=true:=(pre_splitW hpre).2
 obtain ⟨d,r,rfl,h1,h2⟩:=hasAllW_cons hsh
 obtain rfl:=hasAllW_nil h2
 obtain ⟨xs,rfl,h3⟩:=hasW_list h1
 obtain ⟨ns,rfl⟩:=items_int h3
 have hlen:ns.length≤n:=by
  unfold OpenLaw.pre at hc
  have h4:(WTm.not (.lt (.lit (.int (n:Int))) (.len (.arg 0)))).holds [] { args:=[.list (ns.map .int)] }=true:=by
   have h4:=(holds_andW hc).1
   rw [hn] at h4
   exact h4
  have h5:=condW_of h4 (w_not (w_lt w_lit (w_len_list (w_arg rfl))))
  rw [List.length_map] at h5
  refine Nat.le_of_not_lt fun q=>?_
  have q':(n:Int) < ((ns.length:Nat):Int):=by lia
  first
   | (rw [decide_eq_true q'] at h5;exact absurd h5 (by decide))
   | (simp at h5;lia)
 cases hwl with
 | cons w1 w2=>
  cases w2
  cases w1 with
  | list ho hall=>exact ⟨_,_,ns,rfl,rfl,ho,ints_of_wellAll ns _ hall,hlen⟩
theorem post_true (l:OpenLaw) (args:List WData):l.row.toRowW.claim.post args (.bool true) args=true:=
 postW_of (r:=l.row.toRowW) (X:=(true==true))
  (show WShape.has [] (.bool true) .bool=true by first | rfl | decide | simp [WShape.has,WShape.arms,WShape.armsAll])
  (show (WTm.eq .res (.lit (.bool true))).value [] { args:=args,res:=some (.bool true),after:=args }=some (.bool (true==true)) from w_eq_bool (w_res rfl) w_lit) rfl
theorem attach_call {l:OpenLaw} {n:Nat} {q:Program} {loose:List Str} {XP:(Str→Option Value)→Heap→Prop} {YP:World→Heap→Prop} {d:DefRec}
  (hn:l.most=some n) (hdf:d.params.defaults=[])
  (call:∀ (w:World) (s₀ s₁:Shared) (mg mb:Str→Option Value) (fa:Addr) (o:Obj) (pm cd doc:Value) (a:Addr) (vs:List Value) (ns:List Int),
   Ground q loose [] XP w s₀ mg mb s₁.heap→YP w s₁.heap→
   s₁.heap.get? fa=some o→o.data=.func (docDef d.name d.params d.body d.scope pm cd doc)→s₁.heap.CodeRec cd d.name→mg d.name=some (.ref fa)→
   s₁.heap.get? a=some { cls:=.type "list",data:=.seq vs.toArray }→IntsAre vs ns→ns.length≤n→s₁.gens=#[]→
   codeAny (model l.prog w) callerA (.call (.ref fa) ⟨[.ref a],[]⟩) (fun r s'=>r=.ok (.ret (.bool true))∧OldK s₁.heap s'.heap∧s'.os=s₁.os∧AllBare s'.gens) s₁):
  WalkO q loose XP YP l.row.toRowW d [] (fun f vs=>PySem.call f vs):=by
 intro w s₀ s₁ mg mb G Y fa o pm cd doc dV kV ho hd hcd hD hmg hg args vals as hpre hlay hrd hwl hlo
 obtain rfl:dV=.none:=Dflts.none hD hdf
 obtain rfl:kV=.none:=Dflts.noKw hD
 obtain ⟨a,vs,ns,rfl,rfl,hobj,hints,hlen⟩:=script_of hn hpre hwl
 refine enter_call (codeAny_mono (call w s₀ s₁ mg mb fa o pm cd doc a vs ns G Y ho (fd_plain hd) hcd hmg hobj hints hlen hg) fun r s' hq=>?_)
 obtain ⟨rfl,h2,h3,h4⟩:=hq
 exact ⟨.inl ⟨.bool true,.bool true,[],rfl,fun _=>rfl,.bool true,post_true l _,fun _=>⟨List.Pairwise.nil,fun _ hm=>(nomatch hm)⟩⟩,h2,h3,h4⟩
section
variable {prog:Program} {w:World} {A:Around} {E:Value→Shared→Prop} {s:Shared} {K:Frag}
end
end Att
namespace L2
open PySem PySem.Spec PyProof.Rows
theorem vals_ints:∀ {vs:List Value} {ns:List Int},IntsAre vs ns→Vals (ns.map V.int) vs
 | _,_,.nil=>.nil
 | _,_,.cons n t h=>.cons ⟨t,rfl⟩ (vals_ints h)
noncomputable def Only (H:Hp):Prop:=∀ b,H b=none∨∃ o xs,H b=some (.frz o (.lst xs))
end L2
namespace L2
open PySem PySem.Spec PyProof.Rows
noncomputable abbrev KOf {K:PySem.W.Frag} {h:Heap} (_:K.In h):PySem.W.Frag:=K
end L2
namespace L2
open PySem PySem.Spec PyProof.Rows
noncomputable def defArgs (s:Stmt):Arguments:=match s with
 | .FunctionDef _ a _ _ _ _ _ _ _ _=>a
 | _=>{ posonlyargs:=[],args:=[],vararg:=none,kwonlyargs:=[],kw_defaults:=[],kwarg:=none,defaults:=[] }
noncomputable def defBody (s:Stmt):List Stmt:=match s with
 | .FunctionDef _ _ b _ _ _ _ _ _ _=>b
 | _=>[]
noncomputable def defScope (s:Stmt):Scope:=match s with
 | .FunctionDef _ _ _ _ _ _ sc _ _ _=>sc
 | _=>{ kind:=.function,names:=[],isGenerator:=false,isCoroutine:=false }
noncomputable abbrev CX0:CXT:=fun _ _ _ _ _ _=>False
noncomputable abbrev E0:XK:=fun _ _ _=>False
theorem pass0 {X:Cx}:Passes CX0 X E0:=fun _ _ _ _ _ _ _ h=>h.elim
structure Fun (K:PySem.W.Frag) (x qual:Str) (st:Stmt) (f:Addr) (fd:FuncData):Prop where
 ex:∃ (oc:Value) (od:Option Addr) (kV doc pm:Value) (an:Option Addr) (cdv ct:Value) (osl:Array (Option Value)),
  fd=PySem.W.fnOf x qual (defArgs st) (defBody st) (defScope st) .none kV doc pm an cdv ct∧K.lookup f=some ⟨oc,od,.func fd,osl⟩∧PySem.W.codeIn K cdv qual=true
 kp:PySem.W.keepIn K (.ref f)=true
section
variable {P:Program} {w:World} {K:PySem.W.Frag} {mg:Str→Option Value} {base:Heap}
theorem Fun.ok {x qual:Str} {st:Stmt} {f:Addr} {fd:FuncData} {N ps:List Str} {k:Nat} {sp:Sp} (F:Fun K x qual st f fd) (S:FnScope N ps (defScope st)) (len:∀ vs H Q E,sp vs H Q E→vs.length=ps.length)
  (hbody:∀ (cdv:Value) (A:Around) (outer:List Env) (s:Shared) (H:Hp) (vs:List V) (Q:VK) (E:XK),Room k (A.deeper (envOfC qual (defScope st) s.heap.objs.size f cdv))→sp vs H Q E→
   ∃ t,PSs (cxOf CX0 P w K mg base N qual (defScope st) f cdv A outer s H E).nox (defBody st) t∧t { nx:=fun _ H'=>Q .non H',rt:=Q } (start N vs) H):FnOk P w K mg base CX0 (k + 1) f fd ps sp:=by
 obtain ⟨oc,od,kV,doc,pm,an,cdv,ct,osl,rfl,lk,hcd⟩:=F.ex
 refine fn_of lk hcd S len fun A outer s H vs Q E hr hsp=>?_
 obtain ⟨t,h,q⟩:=hbody cdv A outer s H vs Q E hr hsp
 exact ⟨t,h.nox,q⟩
theorem Fun.binds {x qual:Str} {st:Stmt} {f:Addr} {fd:FuncData} {ps:List Str} (F:Fun K x qual st f fd)
  (h:∀ (kV doc pm:Value) (an:Option Addr) (cdv ct:Value) (us:List Value),us.length=ps.length→bindArgs (PySem.W.fnOf x qual (defArgs st) (defBody st) (defScope st) .none kV doc pm an cdv ct) ⟨us,[]⟩=pure (ps.zip us)):Binds K fd ps []:=by
 obtain ⟨oc,od,kV,doc,pm,an,cdv,ct,osl,rfl,lk,hcd⟩:=F.ex
 exact .all (h kV doc pm an cdv ct)
theorem fun_mk {x qual:Str} {st:Stmt} {f:Addr} {oc:Value} {od an:Option Addr} {osl:Array (Option Value)} {kV doc pm cdv ct:Value} (l:K.lookup f=some ⟨oc,od,.func (PySem.W.fnOf x qual (defArgs st) (defBody st) (defScope st) .none kV doc pm an cdv ct),osl⟩)
  (c:PySem.W.codeIn K cdv qual=true) (k:PySem.W.keepIn K (.ref f)=true):Fun K x qual st f (PySem.W.fnOf x qual (defArgs st) (defBody st) (defScope st) .none kV doc pm an cdv ct):=⟨⟨oc,od,kV,doc,pm,an,cdv,ct,osl,rfl,l,c⟩,k⟩
end
theorem small1000 {n:Nat} (h:n≤1000):n < sizeLine:=Nat.lt_of_le_of_lt h (by decide)
section
variable {X:Cx}
theorem pv (i:Nat) {x:Str} {pos:Pos} (hN:X.N[i]? =some x:=by rfl) (hv:Vis X.env.scope x:=by first | exact Or.inl rfl | exact Or.inr (Or.inl rfl) | exact Or.inr (Or.inr rfl)) (hd:(x==("__debug__":Str))=false:=by decide)
  (hcd:(x==("__classdict__":Str))=false:=by decide):PE X (.Name x pos) (tVar i):=pe_var hN hv hd hcd
end
theorem iteF {A B:Prop} (h:B):if false=true then A else B:=by
 rw [if_neg Bool.false_ne_true]
 exact h
theorem iteT {A B:Prop} (h:A):if true=true then A else B:=by
 rw [if_pos rfl]
 exact h
noncomputable def Same (H H':Hp):Prop:=∀ b o,H b=some o→H' b=some o
theorem Same.refl (H:Hp):Same H H:=fun _ _ h=>h
theorem Same.trans {H H1 H2:Hp} (a:Same H H1) (b:Same H1 H2):Same H H2:=fun c o h=>b c o (a c o h)
theorem Same.free {H H':Hp} (e:Same H H') {l:Addr} (h:H' l=Option.none):H l=Option.none:=by
 cases q:H l with
 | none=>rfl
 | some o=>
  rw [e l o q] at h
  cases h
theorem Same.seq {K:PySem.W.Frag} {H H':Hp} {a:Addr} {xs:List V} (e:Same H H') (h:SqL K H a xs):SqL K H' a xs:=by
 rcases h with (h | ⟨o,h⟩) | h
 ·exact .inl (.inl (e _ _ h))
 ·exact .inl (.inr ⟨o,e _ _ h⟩)
 ·exact .inr h
end L2
namespace L2
open PySem PySem.Spec PyProof.Rows
noncomputable def closL (env:Env):List (Str×NameKind)→List (Str×Addr)→List (Str×Addr)
 | [],cs=>cs
 | (n,k)::r,cs=>closL env r (if k==.free then (match env.cells.lookup n with | some a=>(n,a)::cs | none=>cs) else cs)
noncomputable def FrOk (env:Env):List (Str×NameKind)→Prop
 | []=>True
 | (n,k)::r=>(match k with | .free=>(env.kindOf n=some .cell∨env.kindOf n=some .free) | .cell=>False | _=>True)∧FrOk env r
theorem FrOk.free {env:Env}:∀ {ns:List (Str×NameKind)} {n:Str},FrOk env ns→(n,NameKind.free)∈ns→env.kindOf n=some .cell∨env.kindOf n=some .free
 | [],_,_,h=>by cases h
 | (m,k)::r,n,f,h=>by
  obtain ⟨a,b⟩:=f
  rcases List.mem_cons.mp h with e | e
  ·cases e;exact a
  ·exact b.free e
theorem FrOk.nocell {env:Env}:∀ {ns:List (Str×NameKind)},FrOk env ns→∀ y∈ns,y.2≠.cell
 | [],_,_,h=>by cases h
 | (m,k)::r,f,y,h=>by
  obtain ⟨a,b⟩:=f
  rcases List.mem_cons.mp h with e | e
  ·subst e
   intro e
   have e':k=.cell:=e
   subst e'
   exact a
  ·exact b.nocell y e
theorem closure_go {env:Env}:∀ (ns:List (Str×NameKind)) (cs:List (Str×Addr)),(∀ n,(n,NameKind.free)∈ns→∃ a,env.cells.lookup n=some a)→
  (forIn (m:=Sem) ns cs fun x r=>match x with | (name,kind)=>(if (kind==NameKind.free)=true then (do let a ←cellOf env name;pure (ForInStep.yield ((name,a)::r))) else pure (ForInStep.yield r)))=pure (closL env ns cs)
 | [],cs,_=>rfl
 | (n,k)::r,cs,h=>by
  rw [List.forIn_cons]
  cases hk:(k==NameKind.free) with
  | false=>
   simp only [hk,Bool.false_eq_true,if_false]
   rw [pure_bind]
   show forIn (m:=Sem) r cs _=pure (closL env r (if (k==NameKind.free)=true then _ else cs))
   rw [hk]
   exact closure_go r cs fun n hn=>h n (List.mem_cons_of_mem _ hn)
  | true=>
   have ek:k=.free:=by simpa using hk
   subst ek
   obtain ⟨a,ha⟩:=h n List.mem_cons_self
   simp only [hk,if_true]
   unfold cellOf
   rw [ha]
   simp only [pure_bind]
   show forIn (m:=Sem) r ((n,a)::cs) _=pure (closL env r (if (NameKind.free==NameKind.free)=true then (match env.cells.lookup n with | some a=>(n,a)::cs | none=>cs) else cs))
   rw [hk,if_pos rfl,ha]
   exact closure_go r _ fun n hn=>h n (List.mem_cons_of_mem _ hn)
theorem closure_eq {env:Env} {sc:Scope} (h:∀ n,(n,NameKind.free)∈sc.names→∃ a,env.cells.lookup n=some a):closureFor sc env=pure (closL env sc.names []):=by
 unfold closureFor
 exact (congrArg (fun z=>z >>=fun r=>pure r) (closure_go sc.names [] h)).trans (by simp)
theorem closL_sub {env:Env}:∀ {ns:List (Str×NameKind)} {cs:List (Str×Addr)},(∀ x c,cs.lookup x=some c→env.cells.lookup x=some c)→∀ x c,(closL env ns cs).lookup x=some c→env.cells.lookup x=some c
 | [],_,h,x,c,e=>h x c e
 | (n,k)::r,cs,h,x,c,e=>by
  refine closL_sub (ns:=r) (fun y d q=>?_) x c e
  by_cases hk:(k==NameKind.free)=true
  ·rw [if_pos hk] at q
   cases hn:env.cells.lookup n with
   | none=>rw [hn] at q;exact h y d q
   | some a=>
    rw [hn] at q
    simp only [List.lookup_cons] at q
    cases hy:(y==n) with
    | true=>
     rw [hy] at q
     have:y=n:=by simpa using hy
     subst this
     rw [hn];exact q
    | false=>rw [hy] at q;exact h y d q
  ·rw [if_neg hk] at q;exact h y d q
theorem closL_has {env:Env}:∀ {ns:List (Str×NameKind)} {cs:List (Str×Addr)} {x:Str},((∃ c,cs.lookup x=some c)∨((x,NameKind.free)∈ns∧∃ a,env.cells.lookup x=some a))→∃ c,(closL env ns cs).lookup x=some c
 | [],cs,x,h=>by
  rcases h with h | ⟨h,_⟩
  ·exact h
  ·cases h
 | (n,k)::r,cs,x,h=>by
  refine closL_has (ns:=r) ?_
  rcases h with ⟨c,h⟩ | ⟨h,a,ha⟩
  ·left
   by_cases hk:(k==NameKind.free)=true
   ·rw [if_pos hk]
    cases hn:env.cells.lookup n with
    | none=>exact ⟨c,h⟩
    | some a=>
     simp only [List.lookup_cons]
     cases hy:(x==n) with
     | true=>exact ⟨a,rfl⟩
     | false=>exact ⟨c,h⟩
   ·rw [if_neg hk];exact ⟨c,h⟩
  ·rcases List.mem_cons.mp h with e | e
   ·left
    cases e
    rw [if_pos (by rfl),ha]
    exact ⟨a,by simp⟩
   ·exact .inr ⟨e,a,ha⟩
theorem lookup_mem {α:Type}:∀ {ns:List (Str×α)} {x:Str} {k:α},ns.lookup x=some k→(x,k)∈ns
 | [],_,_,h=>by cases h
 | (n,j)::r,x,k,h=>by
  simp only [List.lookup_cons] at h
  cases hx:(x==n) with
  | true=>
   rw [hx] at h
   cases h
   have:x=n:=by simpa using hx
   subst this
   exact List.mem_cons_self
  | false=>rw [hx] at h;exact List.mem_cons_of_mem _ (lookup_mem h)
noncomputable def rlb (env:Env) (p:Str×NameKind):Str×NameKind:=if (p.2==NameKind.free&&env.scope.kind==.function&&env.kindOf p.1==some .cell) then (p.1,NameKind.cell) else (p.1,p.2)
theorem rlb_fst (env:Env) (p:Str×NameKind):(rlb env p).1=p.1:=by
 unfold rlb
 split <;> rfl
theorem rlb_free (env:Env) (n:Str):(rlb env (n,.free)).2=.cell∨(rlb env (n,.free)).2=.free:=by
 unfold rlb
 split
 ·exact .inl rfl
 ·exact .inr rfl
theorem rlb_back (env:Env) (p:Str×NameKind) (hn:p.2≠.cell) (h:(rlb env p).2=.cell∨(rlb env p).2=.free):p.2=.free:=by
 unfold rlb at h
 split at h
 ·rename_i hc
  have h1:=(Bool.and_eq_true _ _).mp hc
  have h2:=(Bool.and_eq_true _ _).mp h1.1
  simpa using h2.1
 ·rcases h with h | h
  ·exact absurd h hn
  ·exact h
theorem lookup_consP {α:Type} (x:Str) (p:Str×α) (r:List (Str×α)):(p::r).lookup x=if (x==p.1)=true then some p.2 else r.lookup x:=by
 obtain ⟨n,k⟩:=p
 rw [List.lookup_cons]
 cases (x==n) <;> rfl
theorem relabel_free {env:Env}:∀ {names:List (Str×NameKind)} {x:Str},names.lookup x=some .free→(names.map (rlb env)).lookup x=some .cell∨(names.map (rlb env)).lookup x=some .free
 | [],_,h=>by cases h
 | (n,k)::r,x,h=>by
  have ih:=@relabel_free env r x
  rw [List.map_cons,lookup_consP,rlb_fst]
  rw [lookup_consP] at h
  by_cases hx:(x==n)=true
  ·rw [if_pos hx] at h ⊢
   cases h
   rcases rlb_free env n with e | e
   ·exact .inl (congrArg some e)
   ·exact .inr (congrArg some e)
  ·rw [if_neg hx] at h ⊢
   exact ih h
theorem relabel_back {env:Env}:∀ {names:List (Str×NameKind)} {x:Str},(∀ y∈names,y.2≠.cell)→((names.map (rlb env)).lookup x=some .cell∨(names.map (rlb env)).lookup x=some .free)→(x,NameKind.free)∈names
 | [],_,_,h=>by rcases h with h | h <;> cases h
 | (n,k)::r,x,hn,h=>by
  have ih:=@relabel_back env r x (fun y hy=>hn y (List.mem_cons_of_mem _ hy))
  rw [List.map_cons,lookup_consP,rlb_fst] at h
  by_cases hx:(x==n)=true
  ·rw [if_pos hx] at h
   have ex:x=n:=by simpa using hx
   subst ex
   have e:=rlb_back env (x,k) (hn _ List.mem_cons_self) (h.imp Option.some.inj Option.some.inj)
   have e':k=.free:=e
   subst e'
   exact List.mem_cons_self
  ·rw [if_neg hx] at h
   exact List.mem_cons_of_mem _ (ih h)
noncomputable def blk (X:Cx) (sc:Scope) (M:List Str) (C:Addr) (fp:List Addr) (s:Shared) (H:Hp):Cx:=
 { X with N:=M,s₀:=s,H₀:=H,env:=compEnvC sc (closL X.env sc.names []) C X.env,outer:=X.stack,stack:=X.stack,ex:=fp,fn:=fun _=>false,pn:=[],xe:=fun _ _=>False }
inductive FmOk (N:List Str) (sc:Scope):List Str→List (Option Nat)→Prop
 | nil:FmOk N sc [] []
 | own {x M fm}:FmOk N sc M fm→FmOk N sc (x::M) (none::fm)
 | free {x M fm} (j:Nat):N[j]? =some x→sc.names.lookup x=some .free→FmOk N sc M fm→FmOk N sc (x::M) (some j::fm)
noncomputable def fmSt (fm:List (Option Nat)) (σ:St):St:=fm.map fun o=>match o with | none=>none | some j=>(σ[j]?).join
theorem FmOk.len {N:List Str} {sc:Scope}:∀ {M:List Str} {fm:List (Option Nat)},FmOk N sc M fm→fm.length=M.length
 | _,_,.nil=>rfl
 | _,_,.own h=>by simp [h.len]
 | _,_,.free _ _ _ h=>by simp [h.len]
theorem FmOk.get {N:List Str} {sc:Scope} {σ:St}:∀ {M:List Str} {fm:List (Option Nat)} {i:Nat} {x:Str} {v:V},FmOk N sc M fm→M[i]? =some x→(fmSt fm σ)[i]? =some (some v)→∃ (j:Nat),N[j]? =some x∧sc.names.lookup x=some .free∧σ[j]? =some (some v)
 | _,_,i,x,v,.nil,e,_=>by simp at e
 | _,_,0,x,v,.own h,e,q=>by simp [fmSt] at q
 | _,_,0,x,v,.free j a b h,e,q=>by
  simp at e
  subst e
  refine ⟨j,a,b,?_⟩
  have q':(σ[j]?).join=some v:=by simpa [fmSt] using q
  cases hs:σ[j]? with
  | none=>rw [hs] at q';cases q'
  | some o=>
   rw [hs] at q'
   have:o=some v:=q'
   rw [this]
 | _,_,i + 1,x,v,.own h,e,q=>h.get (i:=i) (by simpa using e) (by simpa [fmSt] using q)
 | _,_,i + 1,x,v,.free j a b h,e,q=>h.get (i:=i) (by simpa using e) (by simpa [fmSt] using q)
section
variable {X:Cx} {pins:List (Addr×Obj)} {σ:St} {H:Hp} {s:Shared} {sc:Scope} {M:List Str} {C:Addr} {fp:List Addr}
theorem blk_ok (I:Inv X pins σ H s) (hf:∀ b∈fp,FpOk X pins H b) (hl:∀ b∈fp,b < s.heap.objs.size) (hC:s.heap.objs.size≤C) (fr:FrOk X.env sc.names) (hk:sc.kind=.function):(blk X sc M C fp s H).Ok where
 mod:=I.ok.mod
 kind:=hk
 glob:=I.ok.glob
 blt:=I.ok.blt
 above:=hC
 inj:=fun x y c e1 e2=>I.ok.inj x y c (closL_sub (fun _ _ z=>by cases z) x c e1) (closL_sub (fun _ _ z=>by cases z) y c e2)
 has:=fun x h=>by
  have hm:(x,NameKind.free)∈sc.names:=relabel_back (env:=X.env) fr.nocell h
  exact closL_has (.inr ⟨hm,I.ok.has x (fr.free hm)⟩)
 cab:=fun x c h _=>by cases h
 hd:=I.ok.hd
 frames:=I.ok.frames
 stk:=.inl rfl
 exf:=fun b hb=>⟨Nat.ne_of_lt (Nat.lt_of_lt_of_le (hl b hb) hC),fun x c e=>(hf b hb).2.2.2.2.1 x c (closL_sub (fun _ _ z=>by cases z) x c e)⟩
 bs:=I.bs
 bsz:=Nat.le_trans I.ok.bsz I.sz
 noex:=fun b o e hb=>by
  rcases (hf b hb).2.2.2.1 with z | z
  ·exact I.ok.noex b o e z
  ·exact absurd (Nat.lt_of_lt_of_le (Heap.lt_size (I.ok.bs b o e).1) z) (Nat.lt_irrefl _)
 exfs:=fun b hb hs=>by
  rcases List.mem_cons.mp (I.stkSub b hs) with e | e
  ·exact (hf b hb).2.1 e
  ·exact (hf b hb).2.2.1 e
 funs:=I.stack
 frf:=I.stkFree
theorem blk_in {h₁:Heap} {t:Nat} {pl:List (Addr×Obj)} {m:Str→Option Value} {fm:List (Option Nat)} (I:Inv X pins σ H s) (hf:∀ b∈fp,FpOk X pins H b) (hl:∀ b∈fp,b < s.heap.objs.size) (hC:s.heap.objs.size≤C) (fr:FrOk X.env sc.names) (hk:sc.kind=.function)
  (hfm:FmOk X.N sc M fm) (k:∀ b o,s.heap.get? b=some o→h₁.get? b=some o) (hn:h₁.Ns C m)
  (hp:∀ p∈pl,h₁.get? p.1=some p.2∧H p.1=none∧p.1≠C∧p.1∉frs X.stack∧∀ v,p.2.data≠.cell v):Inv (blk X sc M C fp s H) pl (fmSt fm σ) H { s with heap:=h₁,toks:=t } where
 ok:=blk_ok I hf hl hC fr hk
 os:=rfl
 bare:=I.bare
 base:=Un.kept k
 loc:=⟨m,hn,fun i x v e1 e2 e3=>by
  obtain ⟨j,a,b,c⟩:=hfm.get e1 e2
  obtain ⟨m',hn',hl'⟩:=I.loc
  have hm:=lookup_mem b
  have hk':=fr.free hm
  have vis:Vis X.env.scope x:=by
   rcases hk' with z | z
   ·exact .inr (.inl z)
   ·exact .inr (.inr z)
  obtain ⟨u,r,l⟩:=hl' j x v a c vis
  refine ⟨u,r,.inr ⟨relabel_free b,?_⟩⟩
  rcases l with ⟨z,_⟩ | ⟨_,cc,hcc,hcell⟩
  ·rcases hk' with y | y <;> (rw [z] at y;cases y)
  ·obtain ⟨c2,e2⟩:=closL_has (env:=X.env) (ns:=sc.names) (cs:=[]) (x:=x) (.inr ⟨hm,cc,hcc⟩)
   have e3:=closL_sub (fun _ _ z=>by cases z) x c2 e2
   rw [hcc] at e3
   cases e3
   refine ⟨cc,e2,?_⟩
   obtain ⟨o,ho,hd⟩:=hcell
   exact ⟨o,k _ _ ho,hd⟩⟩
 cell:=fun x c e=>by
  obtain ⟨v,o,ho,hd⟩:=I.cell x c (closL_sub (fun _ _ z=>by cases z) x c e)
  exact ⟨v,o,k _ _ ho,hd⟩
 free:=I.hok.fresh hC
 freeC:=fun x c e=>I.freeC x c (closL_sub (fun _ _ z=>by cases z) x c e)
 pin:=fun p hp'=>by
  have hp':p∈pl:=by simpa [blk] using hp'
  exact hp p hp'
 hok:=I.hok.kept k
 len:=by simp [fmSt,hfm.len,blk]
end
end L2
namespace L2
open PySem PySem.Spec PyProof.Rows
theorem compLoop_any {prog:Program} {w:World} {A:Around} {R:Result→Shared→Prop} {s:Shared} {elt target iter:Expr} {ifs:List Expr} {scope:Scope} {pos:Pos} {it acc:Value} {env:Env} (I:Nat→Shared→Prop)
  (turn:∀ n s,I n s→wpAny (model prog w) A (pyNext it) (fun r s₁=>match r with
   | none=>R (.ok .next) s₁
   | some v=>wpAny (model prog w) A (letOwnedTupleGo target it v) (fun _ s₁'=>wpAny (model prog w) A (assign target env v) (fun _ s₂=>
     wpAny (model prog w) A (forIn ifs true fun c r=>if r=true then do let ok ←isTrue c env (eval c env);pure (ForInStep.yield ok) else pure (ForInStep.yield r)) (fun ok s₃=>
      if ok=true then wpAny (model prog w) A (eval elt env) (fun x s₄=>
       wpAny (model prog w) A (call (.builtin "list.append") [acc,x]) (fun _ s₅=>∃ m,m < n∧I m s₅) (fun _ _=>False) s₄) (fun _ _=>False) s₃
      else ∃ m,m < n∧I m s₃) (fun _ _=>False) s₂) (fun _ _=>False) s₁') (fun _ _=>False) s₁) (fun _ _=>False) s)
  (n:Nat) (h:I n s):
  codeAny (model prog w) A (.compLoop (.ListComp elt [⟨target,iter,ifs,0⟩] scope pos) 0 it acc env) R s:=by
 refine codeAny_loop rfl I (fun n s hI=>?_) n h
 show wpAny _ A ((compTurn (.ListComp elt [⟨target,iter,ifs,0⟩] scope pos) 0 it acc env).onRaise (fun x=>do noteFrame x env;theTreesLotGoes x)) _ _ s
 refine wpAny_noted ?_
 rw [compTurn_list]
 refine wpAny_bind (wpAny_standAt (wpAny_bind (wpAny_mono (turn n s hI) (fun r s₁ h₁=>?_) fun _ _ h'=>h'.elim)))
 cases r with
 | none=>exact wpAny_pure h₁
 | some v=>
  refine wpAny_bind (wpAny_mono h₁ (fun _ s₁' h₁'=>?_) fun _ _ h'=>h'.elim)
  refine wpAny_bind (wpAny_mono h₁' (fun _ s₂ h₂=>wpAny_bind (wpAny_mono h₂ (fun ok s₃ h₃=>?_) fun _ _ h'=>h'.elim)) fun _ _ h'=>h'.elim)
  cases ok with
  | false=>exact wpAny_pure ⟨rfl,h₃⟩
  | true=>
   exact wpAny_bind (wpAny_bind (wpAny_mono h₃ (fun x s₄ h₄=>wpAny_bind (wpAny_mono h₄ (fun _ s₅ h₅=>wpAny_pure (wpAny_pure ⟨rfl,h₅⟩)) fun _ _ h'=>h'.elim)) fun _ _ h'=>h'.elim))
noncomputable def PIf (X:Cx) (ifs:List Expr) (t:TT):Prop:=
 ∀ (pins:List (Addr×Obj)) (s:Shared) (σ:St) (H:Hp) (Q:Bool→Hp→Prop),Inv X pins σ H s→t σ H Q→
  wpAny (model X.prog X.w) X.A (forIn ifs true fun c r=>if r=true then do let ok ←isTrue c X.env (eval c X.env);pure (ForInStep.yield ok) else pure (ForInStep.yield r)) (TP X pins σ Q) X.xe s
noncomputable def tYes:TT:=fun _ H Q=>Q true H
theorem pif_nil {X:Cx}:PIf X [] tYes:=fun pins s σ H Q I h=>wpAny_tests_nil ⟨H,I,h⟩
theorem pif_one {X:Cx} {c:Expr} {t:TT} (h:PT X c t):PIf X [c] t:=fun pins s σ H Q I hw=>wpAny_tests_one (h pins s σ H Q I hw)
noncomputable def GK (fm:List (Option Nat)) (g:TG):Prop:=∀ (x:V) (σ:St) (H:Hp) (Q:St→Hp→Prop),g x σ H Q→g x σ H fun σ' H'=>Q σ' H'∧∀ (i j:Nat),fm[i]? =some (some j)→σ'[i]? =σ[i]?
theorem gk_name {fm:List (Option Nat)} {i:Nat} (h:fm[i]? =some none):GK fm (gName i):=fun x σ H Q q=>⟨q,fun i' j e=>by
 by_cases hi:i=i'
 ·subst hi;rw [h] at e;cases e
 ·exact List.getElem?_set_ne hi⟩
theorem fm_slot {fm:List (Option Nat)} {σ:St} {i:Nat} {v:V} (e:(fmSt fm σ)[i]? =some (some v)):∃ j,fm[i]? =some (some j):=by
 unfold fmSt at e
 rw [List.getElem?_map] at e
 cases h:fm[i]? with
 | none=>rw [h] at e;cases e
 | some o=>
  cases o with
  | none=>rw [h] at e;cases e
  | some j=>exact ⟨j,rfl⟩
noncomputable def tLC (wi:TI) (fm:List (Option Nat)) (g:TG) (tt:TT) (te:TE):TE:=fun σ H Q=>wi σ H fun J H1=>∃ W:Nat→Nat→List V→Hp→Prop,(∃ m,W 0 m [] H1)∧∀ i m ys H,W i m ys H→
 (J.stop i H∧∀ p,H p=none→Q (.ref p) (upd H p (.lst ys)))∨
 (J.go i H∧ys.length < sizeLine∧∃ N:List V→Hp→Prop,(∀ ys' H',N ys' H'→∃ m',m' < m∧W (i + 1) m' ys' H')∧
  ∀ x H',J.yld i H x H'→g x (fmSt fm σ) H' fun σ2 H2=>tt σ2 H2 fun ok H3=>if ok=true then te σ2 H3 fun v H4=>N (ys++[v]) H4 else N ys H3)
section
variable {X:Cx} {pins:List (Addr×Obj)} {σ:St} {sc:Scope} {M:List Str} {fm:List (Option Nat)} {tg iter elt:Expr} {ifs:List Expr} {pos:Pos} {g:TG} {tt:TT} {te:TE}
theorem comp_core {it:Addr} {fp:List Addr} {tn:Nat→Heap→Prop} {J:It} {H2:Hp} {s2:Shared} {E:Value→Shared→Prop} {RR:Value→Addr→Result→Shared→Prop} {Q:VK} (hc:X.calm=true)
  (I2:Inv X pins σ H2 s2) (T:Turn X.prog X.w X.K tg J fp it tn) (st:tn 0 s2.heap) (hf:∀ b∈fp,FpOk X pins H2 b) (fr:FrOk X.env sc.names) (hk:sc.kind=.function) (hfm:FmOk X.N sc M fm) (hgk:GK fm g)
  (hB:∀ C fp s H,PG (blk X sc M C fp s H) tg g∧PIf (blk X sc M C fp s H) ifs tt∧PE (blk X sc M C fp s H) elt te)
  (W:Nat→Nat→List V→Hp→Prop) (hw:∃ m,W 0 m [] H2)
  (turn:∀ i m ys H,W i m ys H→(J.stop i H∧∀ p,H p=none→Q (.ref p) (upd H p (.lst ys)))∨
   (J.go i H∧ys.length < sizeLine∧∃ N:List V→Hp→Prop,(∀ ys' H',N ys' H'→∃ m',m' < m∧W (i + 1) m' ys' H')∧
    ∀ x H',J.yld i H x H'→g x (fmSt fm σ) H' fun σ2 H2=>tt σ2 H2 fun ok H3=>if ok=true then te σ2 H3 fun v H4=>N (ys++[v]) H4 else N ys H3))
  (hRR:∀ D C H' m s',s'.heap.Ns C m→Inv X pins σ H' s'→FpOk X pins H' C→Q (.ref D) H'→RR (.ref D) C (.ok .next) s'):
  wpAny (model X.prog X.w) X.A (newList []) (fun acc s₃=>wpAny (model X.prog X.w) X.A (newFunctionEnv sc X.env.globals (closL X.env sc.names []) [] X.env.qual none .none (some X.env)) (fun cenv s₄=>
   codeAny (model X.prog X.w) X.A (.compStart (.ListComp elt [⟨tg,iter,ifs,0⟩] sc pos) 0 (.ref it) acc { cenv with scope:=relabel sc X.env }) (RR acc cenv.locals) s₄) E s₃) E s2:=by
 have hl:∀ b∈fp,b < s2.heap.objs.size:=fun b hb=>by
  obtain ⟨o,e,_⟩:=T.obj _ _ st b hb
  exact Heap.lt_size e
 refine wpAny_newObj_type (wpAny_newFunctionEnv fr.nocell (by intro y hy;simp at hy) (fun h₁ hns₁ hsb₁=>?_) hk)
 dsimp only at hns₁ hsb₁ ⊢
 generalize hH2:s2.heap.push { cls:=.type "list",dict:=none,data:=.seq ([]:List Value).toArray }=G2 at hns₁ hsb₁ ⊢
 have hC:G2.objs.size=s2.heap.objs.size + 1:=by rw [←hH2,Heap.size_push]
 have hCle:s2.heap.objs.size≤G2.objs.size:=by rw [hC];exact Nat.le_succ _
 have hDC:s2.heap.objs.size≠G2.objs.size:=by rw [hC];exact Nat.ne_of_lt (Nat.lt_succ_self _)
 have below:∀ b,b < s2.heap.objs.size→b≠G2.objs.size:=fun b hb=>Nat.ne_of_lt (Nat.lt_of_lt_of_le hb hCle)
 have old:∀ b o,s2.heap.get? b=some o→h₁.get? b=some o:=fun b o e=>hsb₁.extBut b o (below b (Heap.lt_size e)) (Heap.get?_push_of_some _ (hH2▸Heap.get?_push_of_some _ e))
 have hacc:h₁.PlainList s2.heap.objs.size #[]:=⟨_,hsb₁.extBut _ _ hDC (Heap.get?_push_of_some _ (hH2▸Heap.get?_push_size _ rfl))⟩
 have hst₁:tn 0 h₁:=T.keep _ _ _ st fun b _ o e=>old b o e
 obtain ⟨B1,B2,B3⟩:=hB G2.objs.size fp s2 H2
 have hDfs:s2.heap.objs.size∉frs X.stack:=fun hb=>by
  rcases List.mem_cons.mp (I2.stkSub _ hb) with e | e
  ·exact absurd I2.lt (by rw [←e];exact Nat.lt_irrefl _)
  ·exact I2.nofs (Nat.le_refl _) e
 have hDf:s2.heap.objs.size∉fp:=fun hb=>Nat.lt_irrefl _ (hl _ hb)
 have fpB:∀ {pl:List (Addr×Obj)} {H':Hp},(∀ b∈fp,H' b=none)→(∀ p∈pl,p.1∉fp)→∀ b∈fp,FpOk (blk X sc M G2.objs.size fp s2 H2) pl H' b:=fun {pl H'} hn hp b hb=>by
  refine ⟨hn b hb,below b (hl b hb),fun z=>?_,.inl hb,fun x c e=>(hf b hb).2.2.2.2.1 x c (closL_sub (fun _ _ z=>by cases z) x c e),fun p hp' z=>?_⟩
  ·rcases List.mem_cons.mp (I2.stkSub b z) with e | e
   ·exact (hf b hb).2.1 e
   ·exact (hf b hb).2.2.1 e
  ·have hp'':p∈pl:=by simpa [blk] using hp'
   exact hp p hp'' (z▸hb)
 have loop:∀ s₃:Shared,s₃={ s2 with heap:=h₁,toks:=s2.toks + ([]:List (Str×Value)).length }→
   codeAny (model X.prog X.w) X.A (.compLoop (.ListComp elt [⟨tg,iter,ifs,0⟩] sc pos) 0 (.ref it) (.ref s2.heap.objs.size) (compEnvC sc (closL X.env sc.names []) G2.objs.size X.env)) (RR (.ref s2.heap.objs.size) G2.objs.size) s₃:=by
  rintro s₃ rfl
  obtain ⟨m0,w0⟩:=hw
  refine compLoop_any (fun n s'=>∃ (i:Nat) (ys:List V) (its:List Value) (k:Nat) (H':Hp),Inv (blk X sc M G2.objs.size fp s2 H2) [(s2.heap.objs.size,{ cls:=.type "list",data:=.seq its.toArray k })] (fmSt fm σ) H' s'∧Vals ys its∧ys.length≤sizeLine∧
   tn i s'.heap∧(∀ b∈fp,H' b=none)∧W i n ys H') ?_ m0 ?_
  ·rintro n s' ⟨i,ys,its,k,H',I',rv,hz,st',fn',w'⟩
   have np:∀ p∈[((s2.heap.objs.size,{ cls:=.type "list",data:=.seq its.toArray k }):Addr×Obj)],p.1∉fp:=fun p hp=>by
    rcases List.mem_singleton.mp hp with rfl
    exact hDf
   rcases turn i n ys H' w' with ⟨stop,qn⟩ | ⟨go,hz',N,hN,step⟩
   ·refine thn (T.done (blk X sc M G2.objs.size fp s2 H2) rfl rfl rfl hc i _ s' _ H' _ I' (fpB fn' np) st' stop) fun r s4 ⟨hr,I4⟩=>?_
    subst hr
    obtain ⟨eD,nD,_,_,_⟩:=I4.pin _ (List.mem_append_right _ List.mem_cons_self)
    obtain ⟨m4,hn4,_⟩:=I4.loc
    have u4:Un (frs X.stack) fp H2 H' s2.heap s4.heap:=I4.base
    have eD':s4.heap.get? s2.heap.objs.size=some { cls:=.type "list",data:=.seq its.toArray k }:=eD
    have nD':H' s2.heap.objs.size=none:=nD
    have ne:∀ b,b < s2.heap.objs.size→b≠s2.heap.objs.size:=fun b hb=>Nat.ne_of_lt hb
    have hok:HOk X.prog X.w (upd H' s2.heap.objs.size (.lst ys)) s4.heap:=fun b ob e=>by
     by_cases hb:b=s2.heap.objs.size
     ·subst hb
      rw [upd_same] at e
      cases e
      exact ⟨hz,its,k,rv,eD'⟩
     ·rw [upd_ne hb] at e
      exact (I4.hok b ob e).stay (fun _ _ _ q=>q) (fun c q=>by rw [upd_ne (ne_of_none q nD')];exact q) fun c xs q=>by rw [upd_ne (ne_of_none q nD')];exact q
    have u5:Un (frs X.stack) fp H2 (upd H' s2.heap.objs.size (.lst ys)) s2.heap s4.heap:=
     ⟨u4.keep,u4.slot,fun b o e n hx=>by rw [upd_ne (ne b (Heap.lt_size e))];exact u4.free b o e n hx,u4.there,
      fun b xs e=>by have:=u4.tups b xs e;rw [upd_ne (ne_of_none this nD')];exact this,
      fun b o u e=>by have:=u4.frzs b o u e;rw [upd_ne (ne_of_none this nD')];exact this,
      fun b ps e=>by obtain ⟨mo,this⟩:=u4.tbls b ps e;exact ⟨mo,by rw [upd_ne (ne_of_none this nD')];exact this⟩⟩
    have I5:Inv X pins σ (upd H' s2.heap.objs.size (.lst ys)) s4:=
     I2.call' I4.os u5 hok I4.bare fun b hb=>⟨(hf b hb).2.2.2.1,(hf b hb).2.1,(hf b hb).2.2.2.2.1,(hf b hb).2.2.2.2.2⟩
    refine hRR _ _ _ m4 s4 hn4 I5 (I2.fpOk hCle ?_) (qn _ nD')
    rw [upd_ne (Ne.symm hDC)]
    exact I4.free
   ·refine thn (T.item (blk X sc M G2.objs.size fp s2 H2) rfl rfl rfl hc i _ s' _ H' _ I' (fpB fn' np) st' go) fun r s4 ⟨u,hr,h4⟩=>?_
    subst hr
    refine thn h4 fun _ s5 ⟨x,H5,I5,r5,y5,st5,fr5⟩=>?_
    have I5':=I5.pinned (fpB fr5 np) (T.obj _ _ st5)
    refine thn (B1 _ s5 _ H5 x u _ I5' r5 (hgk _ _ _ _ (step x H5 y5))) fun _ s6 ⟨σ6,H6,I6,q6,k6⟩=>?_
    refine thn (B2 _ s6 σ6 H6 _ I6 q6) fun ok s7 ⟨H7,I7,q7⟩=>?_
    have len6:(fmSt fm σ).length=σ6.length:=I'.len.trans I6.len.symm
    have wk:∀ (j:Nat) (v:V),(fmSt fm σ)[j]? =some (some v)→σ6[j]? =some (some v):=fun j v e=>by
     obtain ⟨j',e'⟩:=fm_slot e
     rw [k6 j j' e']
     exact e
    have back:∀ {σ8:St} {H8:Hp} {s8:Shared},Inv (blk X sc M G2.objs.size fp s2 H2) ([(s2.heap.objs.size,{ cls:=.type "list",data:=.seq its.toArray k })]++pinsAt fp s5.heap) σ8 H8 s8→tn (i + 1) s8.heap∧∀ b∈fp,H8 b=none:=fun {σ8 H8 s8} I8=>by
     refine ⟨T.keep _ _ _ st5 fun b hb o e=>(I8.pin (b,o) (List.mem_append_right _ (List.mem_append_right _ (mem_pinsAt hb e)))).1,fun b hb=>?_⟩
     obtain ⟨o,e,d⟩:=T.obj _ _ st5 b hb
     exact (I8.pin (b,o) (List.mem_append_right _ (List.mem_append_right _ (mem_pinsAt hb e)))).2.1
    cases ok with
    | false=>
     rw [if_neg Bool.false_ne_true] at q7
     rw [if_neg Bool.false_ne_true]
     obtain ⟨m',hm,w7⟩:=hN ys H7 q7
     exact ⟨m',hm,i + 1,ys,its,k,H7,(I7.weak len6 wk).unpinned,rv,hz,(back I7).1,(back I7).2,w7⟩
    | true=>
     rw [if_pos rfl] at q7
     rw [if_pos rfl]
     refine thn (B3 _ s7 σ6 H7 _ I7 q7) fun y s8 ⟨v,H8,I8,r8,q8⟩=>?_
     obtain ⟨st8,fr8⟩:=back I8
     obtain ⟨m',hm,w8⟩:=hN _ H8 q8
     obtain ⟨eD,nD,_,_,_⟩:=I8.pin _ (List.mem_append_right _ (List.mem_append_left _ List.mem_cons_self))
     have hits:its.toArray.size=ys.length:=by simp [rv.length]
     refine wpAny_list_append_plain (items:=its.toArray) ⟨k,eD⟩ (fun h' hpl hsb=>?_) (by rw [hits];exact hz)
     obtain ⟨k',ek⟩:=hpl
     have ek':h'.get? s2.heap.objs.size=some { cls:=.type "list",data:=.seq (its++[y]).toArray k' }:=by simpa using ek
     have np8:∀ p∈pinsAt fp s5.heap,p.1≠s2.heap.objs.size:=fun p hp z=>hDf (z▸(of_pinsAt hp).1)
     have I9:Inv (blk X sc M G2.objs.size fp s2 H2) (pinsAt fp s5.heap) σ6 H8 s8:=I8.pins_of fun p hp=>I8.pin p (List.mem_append_right _ (List.mem_append_right _ hp))
     have I10:Inv (blk X sc M G2.objs.size fp s2 H2) (pinsAt fp s5.heap) σ6 H8 { s8 with heap:=h',toks:=s8.toks }:=
      I9.turned (it:=s2.heap.objs.size) (fun b o hb e=>hsb.extBut b o hb e) nD hDC (.inr (Nat.le_refl _)) (fun x c e z=>by
       obtain ⟨v',q⟩:=I2.cell x c (closL_sub (fun _ _ z=>by cases z) x c e)
       exact absurd (show c < s2.heap.objs.size from q.lt) (by rw [z];exact Nat.lt_irrefl _)) fun p hp=>np8 p (by simpa [blk] using hp)
     have I11:Inv (blk X sc M G2.objs.size fp s2 H2) [(s2.heap.objs.size,{ cls:=.type "list",data:=.seq (its++[y]).toArray k' })] (fmSt fm σ) H8 { s8 with heap:=h',toks:=s8.toks }:=
      (I10.weak len6 wk).pins_of fun p hp=>by
       rcases List.mem_singleton.mp hp with rfl
       exact ⟨ek',nD,hDC,hDfs,fun _ z=>nomatch z⟩
     refine ⟨m',hm,i + 1,ys++[v],its++[y],k',H8,I11,rv.append (.cons r8 .nil),?_,?_,fr8,w8⟩
     ·rw [List.length_append];exact hz'
     ·exact T.keep _ _ _ st8 fun b hb o e=>hsb.extBut b o (fun z=>hDf (z▸hb)) e
  ·obtain ⟨k0,e0⟩:=hacc
   refine ⟨0,[],[],k0,H2,blk_in I2 hf hl hCle fr hk hfm old hns₁ fun p hp=>?_,.nil,Nat.zero_le _,hst₁,fun b hb=>(hf b hb).1,w0⟩
   rcases List.mem_singleton.mp hp with rfl
   exact ⟨e0,I2.hok.fresh (Nat.le_refl _),hDC,hDfs,fun _ z=>nomatch z⟩
 exact codeAny_compStart_list (loop _ rfl) (T.self _ 0 _ _ _ hst₁ (loop _ rfl))
end
end L2
namespace L2
open PySem PySem.Spec PyProof.Rows
section
variable {X:Cx} {sc:Scope} {M:List Str} {fm:List (Option Nat)} {tg iter elt:Expr} {ifs:List Expr} {pos:Pos} {g:TG} {tt:TT} {te:TE} {wi:TI}
theorem Inv.letGo {pins:List (Addr×Obj)} {σ:St} {H:Hp} {s:Shared} {C:Addr} {h':Heap} (I:Inv X pins σ H s) (f:FpOk X pins H C) (hs:Heap.SameBut C s.heap h'):Inv X pins σ H { s with heap:=h' }:=
 I.turned (t':=s.toks) (it:=C) (fun b o hb e=>hs.extBut b o hb e) f.1 f.2.1 f.2.2.2.1 f.2.2.2.2.1 f.2.2.2.2.2
theorem pe_lc (hc:X.calm=true) (fr:FrOk X.env sc.names) (hfm:FmOk X.N sc M fm) (hgk:GK fm g) (hk:sc.kind=.function) (hnm:∀ y∈sc.names,y.2=.local→sc.names.lookup y.1=some .local) (hi:PI X tg iter wi)
  (hB:∀ C fp s H,PG (blk X sc M C fp s H) tg g∧PIf (blk X sc M C fp s H) ifs tt∧PE (blk X sc M C fp s H) elt te) (hs:∀ x,foldedSetIterable iter X.env x=pure x:=by intro _;rfl):
  PE X (.ListComp elt [⟨tg,iter,ifs,0⟩] sc pos) (tLC wi fm g tt te):=by
 intro pins s σ H Q I h
 rw [eval_ListComp]
 have hclos:=closure_eq (env:=X.env) (sc:=sc) fun n hn=>I.ok.has n (fr.free hn)
 refine wpAny_comprehension_free (use:=none) rfl hs hclos hk hnm (thn (hi pins s σ H _ I h) fun v s1 h1=>thn h1 fun itv s2 h2=>?_)
 obtain ⟨it,fp,tn,J,H2,e,I2,T,st2,f2,W,w0,turn⟩:=h2
 subst e
 refine comp_core (Q:=Q) (RR:=fun acc C=>compPost (model X.prog X.w) X.A X.xe none (EP X pins σ Q) acc C) hc I2 T st2 f2 fr hk hfm hgk hB W w0 turn ?_
 intro D C H' m s' hn I' f' q
 exact ⟨m,hn,fun h' hs'=>⟨.ref D,H',I'.letGo f' hs',rfl,q⟩⟩
theorem ps_set_lc {i:Nat} {x:Str} {px pst:Pos} (hN:X.N.Nodup) (hix:X.N[i]? =some x) (hx:X.env.kindOf x=some .local) (hsw:swapsWith (.ListComp elt [⟨tg,iter,ifs,0⟩] sc pos) (some (.Name x px)) pst.line X.env=pure true)
  (hc:X.calm=true) (fr:FrOk X.env sc.names) (hfm:FmOk X.N sc M fm) (hgk:GK fm g) (hk:sc.kind=.function) (hnm:∀ y∈sc.names,y.2=.local→sc.names.lookup y.1=some .local) (hi:PI X tg iter wi)
  (hB:∀ C fp s H,PG (blk X sc M C fp s H) tg g∧PIf (blk X sc M C fp s H) ifs tt∧PE (blk X sc M C fp s H) elt te) (hs:∀ x,foldedSetIterable iter X.env x=pure x:=by intro _;rfl):
  PS X (.Assign [.Name x px] (.ListComp elt [⟨tg,iter,ifs,0⟩] sc pos) pst) (tAsg (tLC wi fm g tt te) (gName i)):=by
 intro pins s σ H D I h
 rw [exec_Assign_Name_used _ _ _ _ hsw]
 refine wpAny_bind (wpAny_standAt (wpAny_bind ?_))
 show wpAny _ _ (do let _ ←comprehension (.ListComp elt [⟨tg,iter,ifs,0⟩] sc pos) sc X.env _ (newList []) false (eval iter X.env) (some (assign (.Name x px) X.env))) _ _ s
 have hclos:=closure_eq (env:=X.env) (sc:=sc) fun n hn=>I.ok.has n (fr.free hn)
 refine wpAny_bind (wpAny_mono (wpAny_comprehension_free (use:=some (assign (.Name x px) X.env)) (Q:=fun _ s'=>SP X pins D .next s') rfl hs hclos hk hnm (thn (hi pins s σ H _ I h) fun v s1 h1=>thn h1 fun itv s2 h2=>?_))
  (fun _ s' hq=>wpAny_pure (wpAny_pure hq)) fun _ _ e=>e)
 obtain ⟨it,fp,tn,J,H2,e,I2,T,st2,f2,W,w0,turn⟩:=h2
 subst e
 refine comp_core (Q:=fun v H'=>gName i v σ H' D.nx) (RR:=fun acc C=>compPost (model X.prog X.w) X.A X.xe (some (assign (.Name x px) X.env)) (fun _ s'=>SP X pins D .next s') acc C) hc I2 T st2 f2 fr hk hfm hgk hB W w0 turn ?_
 intro Da C H' m s' hn I' f' q
 show wpAny _ _ (assign (.Name x px) X.env (.ref Da)) _ _ s'
 refine wpAny_assign_Name (store_ok2 (v:=.ref Da) I' hN hix (.inl hx) rfl (fun s2 I2' hs2=>?_) (.inr hx))
 obtain ⟨a,hsb,ha⟩:=hs2
 have hCa:C≠a:=by
  rcases ha with rfl | ha
  ·exact f'.2.1
  ·exact (f'.2.2.2.2.1 x a ha).symm
 exact ⟨m,hn.sameBut hsb hCa,fun h' hs'=>⟨_,H',I2'.letGo f' hs',q⟩⟩
end
end L2
namespace L2
open PySem PySem.Spec PyProof.Rows
mutual
inductive Is (H:Hp):V→PyData→Prop
 | non:Is H .non .none
 | bl (b:Bool):Is H (.bl b) (.bool b)
 | int (i:Int):Is H (.int i) (.int i)
 | str (x:Str):Is H (.str x) (.str x)
 | tup {a:Addr} {xs:List V} {ds:List PyData}:H a=some (.tup xs)→IsAll H xs ds→Is H (.ref a) (.tuple ds)
 | lst {a:Addr} {xs:List V} {ds:List PyData}:Rd H a (.lst xs)→IsAll H xs ds→Is H (.ref a) (.list ds)
inductive IsAll (H:Hp):List V→List PyData→Prop
 | nil:IsAll H [] []
 | cons {v:V} {d:PyData} {vs:List V} {ds:List PyData}:Is H v d→IsAll H vs ds→IsAll H (v::vs) (d::ds)
end
theorem IsAll.length {H:Hp}:∀ {vs:List V} {ds:List PyData},IsAll H vs ds→vs.length=ds.length
 | _,_,.nil=>rfl
 | _,_,.cons _ t=>by simp [t.length]
theorem IsAll.get {H:Hp}:∀ {vs:List V} {ds:List PyData} {i:Nat} {d:PyData},IsAll H vs ds→ds[i]? =some d→∃ v,vs[i]? =some v∧Is H v d
 | _,_,_,_,.nil,e=>by simp at e
 | _,_,0,_,.cons h t,e=>by simp at e;subst e;exact ⟨_,rfl,h⟩
 | _,_,i + 1,d,.cons h t,e=>by
  obtain ⟨v,a,b⟩:=t.get (i:=i) (d:=d) (by simpa using e)
  exact ⟨v,by simpa using a,b⟩
theorem IsAll.get' {H:Hp}:∀ {vs:List V} {ds:List PyData} {i:Nat} {v:V},IsAll H vs ds→vs[i]? =some v→∃ d,ds[i]? =some d∧Is H v d
 | _,_,_,_,.nil,e=>by simp at e
 | _,_,0,_,.cons h t,e=>by simp at e;subst e;exact ⟨_,rfl,h⟩
 | _,_,i + 1,d,.cons h t,e=>by
  obtain ⟨v,a,b⟩:=t.get' (i:=i) (v:=d) (by simpa using e)
  exact ⟨v,by simpa using a,b⟩
theorem IsAll.append {H:Hp}:∀ {vs:List V} {ds:List PyData} {us:List V} {es:List PyData},IsAll H vs ds→IsAll H us es→IsAll H (vs++us) (ds++es)
 | _,_,_,_,.nil,s=>s
 | _,_,_,_,.cons h t,s=>.cons h (t.append s)
theorem IsAll.take {H:Hp}:∀ {vs:List V} {ds:List PyData} (n:Nat),IsAll H vs ds→IsAll H (vs.take n) (ds.take n)
 | _,_,0,_=>.nil
 | _,_,_ + 1,.nil=>.nil
 | _,_,n + 1,.cons h t=>.cons h (t.take n)
theorem IsAll.drop {H:Hp}:∀ {vs:List V} {ds:List PyData} (n:Nat),IsAll H vs ds→IsAll H (vs.drop n) (ds.drop n)
 | _,_,0,h=>h
 | _,_,_ + 1,.nil=>.nil
 | _,_,n + 1,.cons h t=>t.drop n
theorem IsAll.ints {H:Hp}:∀ ns:List Int,IsAll H (ns.map V.int) (ns.map PyData.int)
 | []=>.nil
 | n::ns=>.cons (.int n) (IsAll.ints ns)
theorem IsAll.of_ints {H:Hp}:∀ {vs:List V} {ns:List Int},IsAll H vs (ns.map PyData.int)→vs=ns.map V.int
 | _,[],h=>by cases h;rfl
 | _,n::ns,h=>by
  rw [List.map_cons] at h
  cases h with
  | cons h1 t=>
  cases h1
  rw [List.map_cons,t.of_ints]
mutual
theorem Is.mono {H H':Hp} (ht:∀ a xs,H a=some (.tup xs)→H' a=some (.tup xs)) (hl:∀ a xs,Rd H a (.lst xs)→Rd H' a (.lst xs)):∀ {v:V} {d:PyData},Is H v d→Is H' v d
 | _,_,.non=>.non
 | _,_,.bl b=>.bl b
 | _,_,.int i=>.int i
 | _,_,.str x=>.str x
 | _,_,.tup e h=>.tup (ht _ _ e) (IsAll.mono ht hl h)
 | _,_,.lst e h=>.lst (hl _ _ e) (IsAll.mono ht hl h)
theorem IsAll.mono {H H':Hp} (ht:∀ a xs,H a=some (.tup xs)→H' a=some (.tup xs)) (hl:∀ a xs,Rd H a (.lst xs)→Rd H' a (.lst xs)):∀ {vs:List V} {ds:List PyData},IsAll H vs ds→IsAll H' vs ds
 | _,_,.nil=>.nil
 | _,_,.cons h t=>.cons (Is.mono ht hl h) (IsAll.mono ht hl t)
end
mutual
noncomputable def noL:PyData→Bool
 | .none | .bool _ | .int _ | .str _=>true
 | .tuple xs=>noLs xs
 | .list _ | .dict _=>false
noncomputable def noLs:List PyData→Bool
 | []=>true
 | x::xs=>noL x&&noLs xs
end
mutual
theorem Is.tmono {H H':Hp} (ht:∀ a xs,H a=some (.tup xs)→H' a=some (.tup xs)):∀ {v:V} {d:PyData},noL d=true→Is H v d→Is H' v d
 | _,_,_,.non=>.non
 | _,_,_,.bl b=>.bl b
 | _,_,_,.int i=>.int i
 | _,_,_,.str x=>.str x
 | _,_,n,.tup e h=>.tup (ht _ _ e) (IsAll.tmono ht (by simpa [noL] using n) h)
 | _,_,n,.lst e h=>by simp [noL] at n
theorem IsAll.tmono {H H':Hp} (ht:∀ a xs,H a=some (.tup xs)→H' a=some (.tup xs)):∀ {vs:List V} {ds:List PyData},noLs ds=true→IsAll H vs ds→IsAll H' vs ds
 | _,_,_,.nil=>.nil
 | _,_,n,.cons h t=>by
  rw [noLs,Bool.and_eq_true] at n
  exact .cons (Is.tmono ht n.1 h) (IsAll.tmono ht n.2 t)
end
theorem Same.rd {H H':Hp} (e:Same H H') {a:Addr} {u:HO} (h:Rd H a u):Rd H' a u:=by
 rcases h with h | ⟨o,h⟩
 ·exact .inl (e _ _ h)
 ·exact .inr ⟨o,e _ _ h⟩
theorem Is.same {H H':Hp} (e:Same H H') {v:V} {d:PyData} (h:Is H v d):Is H' v d:=h.mono (fun _ _ q=>e _ _ q) fun _ _ q=>e.rd q
theorem IsAll.same {H H':Hp} (e:Same H H') {v:List V} {d:List PyData} (h:IsAll H v d):IsAll H' v d:=h.mono (fun _ _ q=>e _ _ q) fun _ _ q=>e.rd q
section
variable {X:Cx} {pins:List (Addr×Obj)} {σ:St} {H:Hp} {s:Shared}
mutual
theorem Is.reads (I:Inv X pins σ H s):∀ {v:V} {d:PyData} {u:Value},Is H v d→RelV v u→∃ as,Reads s.heap u d as
 | _,_,_,.non,r=>by cases (show _=Value.none from r);exact ⟨_,.none⟩
 | _,_,_,.bl b,r=>by cases (show _=Value.bool b from r);exact ⟨_,.bool b⟩
 | _,_,_,.int i,r=>by obtain ⟨t,rfl⟩:=r;exact ⟨_,.int i t⟩
 | _,_,_,.str x,r=>by obtain ⟨t,rfl⟩:=r;exact ⟨_,.str x t⟩
 | _,_,_,.tup (a:=a) e h,r=>by
  cases (show _=Value.ref a from r)
  obtain ⟨its,rv,⟨o,h1,h2,n,h3⟩,_⟩:=I.tuple (SqT.of e)
  obtain ⟨as,ra⟩:=IsAll.reads I h rv
  exact ⟨_,.tuple h1 h2 h3 (by simpa using ra)⟩
 | _,_,_,.lst (a:=a) e h,r=>by
  cases (show _=Value.ref a from r)
  obtain ⟨its,rv,⟨o,n,h1,h2,_,h3⟩,_⟩:=I.list (.inl e)
  obtain ⟨as,ra⟩:=IsAll.reads I h rv
  exact ⟨_,.list h1 h2 h3 (by simpa using ra)⟩
theorem IsAll.reads (I:Inv X pins σ H s):∀ {vs:List V} {ds:List PyData} {us:List Value},IsAll H vs ds→Vals vs us→∃ as,ReadsAll s.heap us ds as
 | _,_,_,.nil,.nil=>⟨_,.nil⟩
 | _,_,_,.cons h t,.cons r q=>by
  obtain ⟨as,ra⟩:=Is.reads I h r
  obtain ⟨bs,rb⟩:=IsAll.reads I t q
  exact ⟨_,.cons ra rb⟩
end
end
noncomputable def okD (d:PyData):Prop:=d.canLay0=true∧d.depth≤40
noncomputable def okDs (ds:List PyData):Prop:=PyData.canLayAll0 ds=true∧PyData.depthAll ds≤40
section
variable {X:Cx}
noncomputable def rEqD (neg:Bool):R2:=fun x y H Q=>∃ d e,Is H x d∧Is H y e∧okD d∧okD e∧Q (.bl (if neg then !PyData.eqv d e else PyData.eqv d e)) H
theorem op_eqD (hu:X.A.units + 64 < cLine):OpR X (compareOp .Eq) (rEqD false):=by
 intro pins s σ H x y v u Q I rx ry h
 obtain ⟨d,e,hx,hy,od,oe,q⟩:=h
 obtain ⟨as,ra⟩:=hx.reads I rx
 obtain ⟨bs,rb⟩:=hy.reads I ry
 exact SeqAt.compareEq_reads ra rb od.1 oe.1 (by have:=od.2;lia) ⟨.bl _,H,I,rfl,q⟩
theorem op_neD (hu:X.A.units + 64 < cLine):OpR X (compareOp .NotEq) (rEqD true):=by
 intro pins s σ H x y v u Q I rx ry h
 obtain ⟨d,e,hx,hy,od,oe,q⟩:=h
 obtain ⟨as,ra⟩:=hx.reads I rx
 obtain ⟨bs,rb⟩:=hy.reads I ry
 exact SeqAt.compareNe_reads ra rb od.1 oe.1 (by have:=od.2;lia) ⟨.bl _,H,I,rfl,q⟩
noncomputable def inD (d:PyData) (ds:List PyData):Bool:=ds.any fun y=>PyData.eqv y d
noncomputable def rInD (neg:Bool):R2:=fun x y H Q=>∃ d ds,Is H x d∧(Is H y (.tuple ds)∨Is H y (.list ds))∧okD d∧okDs ds∧Q (.bl (if neg then !inD d ds else inD d ds)) H
theorem op_inD (hu:X.A.units + 64 < cLine):OpR X (compareOp .In) (rInD false):=by
 intro pins s σ H x y v u Q I rx ry h
 obtain ⟨d,ds,hx,hy,od,oe,q⟩:=h
 obtain ⟨as,ra⟩:=hx.reads I rx
 rcases hy with hy | hy
 ·obtain ⟨bs,rb⟩:=hy.reads I ry
  exact SeqAt.in_tuple_reads rb ra oe.1 od.1 (by have:=od.2;lia) ⟨.bl _,H,I,rfl,q⟩
 ·obtain ⟨bs,rb⟩:=hy.reads I ry
  exact SeqAt.in_list_reads rb ra oe.1 od.1 (by have:=od.2;lia) ⟨.bl _,H,I,rfl,q⟩
theorem op_notInD (hu:X.A.units + 64 < cLine):OpR X (compareOp .NotIn) (rInD true):=by
 intro pins s σ H x y v u Q I rx ry h
 obtain ⟨d,ds,hx,hy,od,oe,q⟩:=h
 obtain ⟨as,ra⟩:=hx.reads I rx
 rcases hy with hy | hy
 ·obtain ⟨bs,rb⟩:=hy.reads I ry
  exact SeqAt.notIn_tuple_reads rb ra oe.1 od.1 (by have:=od.2;lia) ⟨.bl _,H,I,rfl,q⟩
 ·obtain ⟨bs,rb⟩:=hy.reads I ry
  exact SeqAt.notIn_list_reads rb ra oe.1 od.1 (by have:=od.2;lia) ⟨.bl _,H,I,rfl,q⟩
end
noncomputable def tyD:PyData→String
 | .none=>"NoneType"
 | .bool _=>"bool"
 | .int _=>"int"
 | .str _=>"str"
 | .list _=>"list"
 | .tuple _=>"tuple"
 | .dict _=>"dict"
theorem Is.ty {K:PySem.W.Frag} {H:Hp} {v:V} {d:PyData} (h:Is H v d):TyOf K H v (.type (tyD d)):=by
 cases h with
 | non=>exact .non
 | bl b=>exact .bl b
 | int i=>exact .int i
 | str x=>exact .str x
 | tup e _=>exact .tup e
 | lst e _=>
  rcases e with e | ⟨o,e⟩
  ·exact .lst e
  ·exact .frz e
noncomputable def isTy (T:String) (d:PyData):Bool:=tyD d==T||(T=="int"&&tyD d=="bool")
theorem kit_bool {K:PySem.W.Frag} (d:PyData):PySem.W.kitOne K (.type (tyD d)) (.type "bool")=some (isTy "bool" d):=by cases d <;> with_unfolding_all rfl
theorem kit_int {K:PySem.W.Frag} (d:PyData):PySem.W.kitOne K (.type (tyD d)) (.type "int")=some (isTy "int" d):=by cases d <;> with_unfolding_all rfl
theorem kit_tuple {K:PySem.W.Frag} (d:PyData):PySem.W.kitOne K (.type (tyD d)) (.type "tuple")=some (isTy "tuple" d):=by cases d <;> with_unfolding_all rfl
theorem kit_list {K:PySem.W.Frag} (d:PyData):PySem.W.kitOne K (.type (tyD d)) (.type "list")=some (isTy "list" d):=by cases d <;> with_unfolding_all rfl
theorem kit_str {K:PySem.W.Frag} (d:PyData):PySem.W.kitOne K (.type (tyD d)) (.type "str")=some (isTy "str" d):=by cases d <;> with_unfolding_all rfl
theorem kit_dict {K:PySem.W.Frag} (d:PyData):PySem.W.kitOne K (.type (tyD d)) (.type "dict")=some (isTy "dict" d):=by cases d <;> with_unfolding_all rfl
section
variable {X:Cx}
theorem call_isinst:CallR X (.builtin "isinstance") (fun xs H Q=>∃ x T d,xs=[x,.ty T]∧T∈(["bool","int","tuple","list","str","dict"]:List String)∧Is H x d∧Q (.bl (isTy T d)) H):=by
 intro pins s σ H xs us Q I r h
 obtain ⟨x,T,d,rfl,hT,hx,q⟩:=h
 obtain ⟨u,v,rfl,rx,ry⟩:=Vals.two r
 cases (show v=Value.type T from ry)
 have fin:∀ {b:Bool},PySem.W.kitOne X.K (.type (tyD d)) (.type T)=some b→b=isTy T d→wpAny (model X.prog X.w) X.A (call (.builtin "isinstance") [u,.type T]) (EP X pins σ Q) X.xe s:=fun {b} e eb=>by
  subst eb
  exact isinst_ok I rx hx.ty e fun tk=>⟨.bl _,H,I.tok tk,rfl,q⟩
 simp only [List.mem_cons,List.not_mem_nil,or_false] at hT
 rcases hT with rfl | rfl | rfl | rfl | rfl | rfl
 ·exact fin (kit_bool d) rfl
 ·exact fin (kit_int d) rfl
 ·exact fin (kit_tuple d) rfl
 ·exact fin (kit_list d) rfl
 ·exact fin (kit_str d) rfl
 ·exact fin (kit_dict d) rfl
end
end L2
set_option maxHeartbeats 4000000
namespace L2
open PySem PySem.Spec PyProof.Rows
noncomputable def Run {α:Type} (lt:Nat→Nat→Bool) (n:Nat):PySem.W.KasT α→(α→Prop)→Prop
 | .ret a,Q=>Q a
 | .ask i j k,Q=>i < n∧j < n∧Run lt n (k (lt i j)) Q
section
variable {lt:Nat→Nat→Bool} {n:Nat}
theorem Run.mono {α:Type} {Q Q':α→Prop} (h:∀ a,Q a→Q' a):∀ {t:PySem.W.KasT α},Run lt n t Q→Run lt n t Q'
 | .ret a,q=>h a q
 | .ask i j k,⟨a,b,q⟩=>⟨a,b,Run.mono h q⟩
theorem Run.bind {α β:Type} {f:α→PySem.W.KasT β} {Q:β→Prop}:∀ {t:PySem.W.KasT α},Run lt n t (fun a=>Run lt n (f a) Q)→Run lt n (t.bind f) Q
 | .ret a,q=>q
 | .ask i j k,⟨a,b,q⟩=>⟨a,b,Run.bind q⟩
theorem Run.wp {α:Type} {cmp:Nat→Nat→(Bool→Shared→Prop)→Shared→Prop} {Q:α→Prop} {R:α→Shared→Prop} {s:Shared} (hc:∀ i j C,i < n→j < n→C (lt i j) s→cmp i j C s) (hR:∀ a,Q a→R a s):
  ∀ {t:PySem.W.KasT α},Run lt n t Q→t.kasWp cmp R s
 | .ret a,q=>hR a q
 | .ask i j k,⟨a,b,q⟩=>hc i j _ a b (Run.wp hc hR q)
structure Str1 (lt:Nat→Nat→Bool) (n:Nat):Prop where
 tr:∀ i j k,i < n→j < n→k < n→lt i j=true→lt j k=true→lt i k=true
 tot:∀ i j,i < n→j < n→i≠j→lt i j=false→lt j i=true
 irr:∀ i j,i < n→j < n→lt i j=true→lt j i=false
structure Plc (n:Nat) (p:Array Nat):Prop where
 sz:p.size=n
 lt:∀ i,i < n→p.getD i 0 < n
 ne:∀ i j,i < n→j < n→i≠j→p.getD i 0≠p.getD j 0
 pm:p.toList.Perm (List.range n)
noncomputable def Up (lt:Nat→Nat→Bool) (p:Array Nat) (k:Nat):Prop:=∀ i j,i < j→j < k→lt (p.getD i 0) (p.getD j 0)=true
noncomputable def Dn (lt:Nat→Nat→Bool) (p:Array Nat) (k:Nat):Prop:=∀ i j,i < j→j < k→lt (p.getD j 0) (p.getD i 0)=true
variable (S:Str1 lt n)
include S
theorem up_next {p:Array Nat} {k:Nat} (P:Plc n p) (h1:1≤k) (hk:k < n) (u:Up lt p k) (h:lt (p.getD (k - 1) 0) (p.getD k 0)=true):Up lt p (k + 1):=fun i j hij hj=>by
 by_cases e:j=k
 ·subst e
  by_cases e2:i=j - 1
  ·subst e2;exact h
  ·exact S.tr _ _ _ (P.lt _ (by lia)) (P.lt _ (by lia)) (P.lt _ (by lia)) (u i (j - 1) (by lia) (by lia)) h
 ·exact u i j hij (by lia)
theorem dn_next {p:Array Nat} {k:Nat} (P:Plc n p) (h1:1≤k) (hk:k < n) (u:Dn lt p k) (h:lt (p.getD k 0) (p.getD (k - 1) 0)=true):Dn lt p (k + 1):=fun i j hij hj=>by
 by_cases e:j=k
 ·subst e
  by_cases e2:i=j - 1
  ·subst e2;exact h
  ·exact S.tr _ _ _ (P.lt _ (by lia)) (P.lt _ (by lia)) (P.lt _ (by lia)) h (u i (j - 1) (by lia) (by lia))
 ·exact u i j hij (by lia)
theorem run_asc {p:Array Nat} (P:Plc n p):∀ (f k:Nat),1≤k→k + f≤n→Up lt p k→Run lt n (PySem.W.kas_asc p f k) fun r=>k≤r∧r≤k + f∧Up lt p r∧(r < k + f→lt (p.getD r 0) (p.getD (r - 1) 0)=true)
 | 0,k,_,_,u=>⟨Nat.le_refl _,Nat.le_refl _,u,fun h=>absurd h (Nat.lt_irrefl _)⟩
 | f + 1,k,h1,hn,u=>by
  refine ⟨P.lt _ (by lia),P.lt _ (by lia),?_⟩
  cases c:lt (p.getD k 0) (p.getD (k - 1) 0) with
  | true=>exact ⟨Nat.le_refl _,by lia,u,fun _=>c⟩
  | false=>
   have c':=S.tot _ _ (P.lt _ (by lia)) (P.lt _ (by lia)) (P.ne k (k - 1) (by lia) (by lia) (by lia)) c
   exact (run_asc P f (k + 1) (by lia) (by lia) (up_next S P h1 (by lia) u c')).mono fun r ⟨a,b,c,d⟩=>⟨by lia,by lia,c,fun h=>d (by lia)⟩
theorem run_desc {p:Array Nat} (P:Plc n p):∀ (f k:Nat),1≤k→k + f≤n→Dn lt p k→Run lt n (PySem.W.kas_desc f p k 0) fun r=>r.1=p∧r.2.2=0∧k≤r.2.1∧r.2.1≤k + f∧Dn lt p r.2.1
 | 0,k,_,_,u=>⟨rfl,rfl,Nat.le_refl _,Nat.le_refl _,u⟩
 | f + 1,k,h1,hn,u=>by
  refine ⟨P.lt _ (by lia),P.lt _ (by lia),?_⟩
  cases c:lt (p.getD k 0) (p.getD (k - 1) 0) with
  | true=>
   show Run lt n (if (0:Nat) > 0 then PySem.W.kas_desc f (PySem.W.kas_rev p (k - (0 + 1)) k) (k + 1) 0 else PySem.W.kas_desc f p (k + 1) 0) _
   rw [if_neg (Nat.lt_irrefl 0)]
   exact (run_desc P f (k + 1) (by lia) (by lia) (dn_next S P h1 (by lia) u c)).mono fun r ⟨a,b,c,d,e⟩=>⟨a,b,by lia,by lia,e⟩
  | false=>
   have c':=S.tot _ _ (P.lt _ (by lia)) (P.lt _ (by lia)) (P.ne k (k - 1) (by lia) (by lia) (by lia)) c
   refine ⟨P.lt _ (by lia),P.lt _ (by lia),?_⟩
   rw [c']
   exact ⟨rfl,rfl,Nat.le_refl _,Nat.le_add_right _ _,u⟩
omit S in
theorem getD_rev {p:Array Nat} {k:Nat} (hk:k≤p.size) (i:Nat):(PySem.W.kas_rev p 0 k).getD i 0=if i < k then p.getD (k - 1 - i) 0 else p.getD i 0:=by
 have e:∀ (q:Array Nat) (i:Nat),q.getD i 0=(q[i]?).getD 0:=fun q i=>by
  by_cases h:i < q.size
  ·simp [Array.getD,h]
  ·simp [Array.getD,h]
 rw [e,e,e]
 unfold PySem.W.kas_rev
 rw [getElem?_mirror hk _ (by lia)]
 by_cases h:i < k
 ·rw [if_pos h]
  by_cases h2:(0≤i∧i < 0 + (k - 0) / 2)∨(k - (k - 0) / 2≤i∧i < k)
  ·rw [if_pos h2]
   congr 2
   lia
  ·rw [if_neg h2]
   have:k - 1 - i=i:=by lia
   rw [this]
 ·rw [if_neg h,if_neg (by lia)]
omit S in
theorem rev_plc {p:Array Nat} (P:Plc n p) {k:Nat} (hk:k≤n):Plc n (PySem.W.kas_rev p 0 k) where
 sz:=(mirror_size _ _ _ _).trans P.sz
 lt:=fun i hi=>by
  rw [getD_rev (by rw [P.sz];exact hk)]
  split
  ·exact P.lt _ (by lia)
  ·exact P.lt _ hi
 ne:=fun i j hi hj hne=>by
  rw [getD_rev (by rw [P.sz];exact hk),getD_rev (by rw [P.sz];exact hk)]
  split <;> split <;> exact P.ne _ _ (by lia) (by lia) (by lia)
 pm:=(Array.perm_iff_toList_perm.mp (mirror_perm _ _ _ _)).trans P.pm
omit S in
theorem rev_up {p:Array Nat} (P:Plc n p) {k:Nat} (hk:k≤n) (d:Dn lt p k):Up lt (PySem.W.kas_rev p 0 k) k:=fun i j hij hj=>by
 rw [getD_rev (by rw [P.sz];exact hk),getD_rev (by rw [P.sz];exact hk),if_pos (by lia),if_pos hj]
 exact d _ _ (by lia) (by lia)
theorem run_tail3 {p:Array Nat} (P:Plc n p) {k:Nat} (h1:1≤k) (hk:k≤n) (d:Dn lt p k):Run lt n (PySem.W.kas_tail3 k n p) fun r=>1≤r.1∧r.1≤n∧Plc n r.2∧Up lt r.2 r.1:=by
 unfold PySem.W.kas_tail3
 refine Run.bind ((run_asc S (rev_plc P hk) (n - k) k h1 (by lia) (rev_up P hk d)).mono fun r ⟨a,b,c,_⟩=>?_)
 exact ⟨by lia,by lia,rev_plc P hk,c⟩
theorem run_count {p:Array Nat} (P:Plc n p) (h1:1≤n):Run lt n (PySem.W.kas_count n p) fun r=>1≤r.1∧r.1≤n∧Plc n r.2∧Up lt r.2 r.1:=by
 unfold PySem.W.kas_count
 refine Run.bind ((run_asc S P (n - 1) 1 (Nat.le_refl _) (by lia) (fun i j hij hj=>by lia)).mono fun r ⟨a,b,u,c⟩=>?_)
 by_cases hr:(r==n)=true
 ·rw [if_pos hr]
  exact ⟨a,by lia,P,u⟩
 ·rw [if_neg hr]
  have hr':r≠n:=by simpa using hr
  by_cases h2:r > 1
  ·rw [if_pos h2]
   refine ⟨P.lt _ (by lia),P.lt _ (by lia),?_⟩
   rw [u 0 (r - 1) (by lia) (by lia)]
   exact ⟨a,by lia,P,u⟩
  ·rw [if_neg h2]
   have er:r=1:=by lia
   subst er
   unfold PySem.W.kas_descPart
   have c0:=c (by lia)
   have d2:Dn lt p 2:=fun i j hij hj=>by
    have ei:i=0:=by lia
    have ej:j=1:=by lia
    subst ei ej
    exact c0
   refine Run.bind ((run_desc S P (n - (1 + 1)) (1 + 1) (by lia) (by lia) d2).mono fun q ⟨e1,e2,e3,e4,e5⟩=>?_)
   rw [e2,if_neg (Nat.lt_irrefl 0),e1]
   exact run_tail3 S P (by lia) (by lia) e5
theorem run_place {p:Array Nat} (P:Plc n p) {k:Nat} (hk:k < n):∀ (f l r:Nat),r≤l + f→l≤r→r≤k→(∀ i,i < l→lt (p.getD i 0) (p.getD k 0)=true)→(∀ i,r≤i→i < k→lt (p.getD k 0) (p.getD i 0)=true)→Up lt p k→
  Run lt n (PySem.W.kas_place p k f l r) fun x=>x≤k∧(∀ i,i < x→lt (p.getD i 0) (p.getD k 0)=true)∧(∀ i,x≤i→i < k→lt (p.getD k 0) (p.getD i 0)=true)
 | 0,l,r,h1,h2,h3,hl,hr,_=>by
  have e:l=r:=by lia
  subst e
  exact ⟨h3,hl,hr⟩
 | f + 1,l,r,h1,h2,h3,hl,hr,u=>by
  unfold PySem.W.kas_place
  by_cases h:l≥r
  ·rw [if_pos h]
   have e:l=r:=by lia
   subst e
   exact ⟨h3,hl,hr⟩
  ·rw [if_neg h]
   refine ⟨P.lt _ (by lia),P.lt _ (by lia),?_⟩
   cases c:lt (p.getD k 0) (p.getD ((l + r) / 2) 0) with
   | true=>
    refine run_place P hk f l ((l + r) / 2) (by lia) (by lia) (by lia) hl (fun i hi1 hi2=>?_) u
    by_cases e:i=(l + r) / 2
    ·subst e;exact c
    ·exact S.tr _ _ _ (P.lt _ (by lia)) (P.lt _ (by lia)) (P.lt _ (by lia)) c (u _ _ (by lia) (by lia))
   | false=>
    have c':=S.tot _ _ (P.lt _ (by lia)) (P.lt _ (by lia)) (P.ne k ((l + r) / 2) (by lia) (by lia) (by lia)) c
    refine run_place P hk f ((l + r) / 2 + 1) r (by lia) (by lia) h3 (fun i hi=>?_) hr u
    by_cases e:i=(l + r) / 2
    ·subst e;exact c'
    ·exact S.tr _ _ _ (P.lt _ (by lia)) (P.lt _ (by lia)) (P.lt _ (by lia)) (u _ _ (by lia) (by lia)) c'
omit S in
theorem getD_bubble {p:Array Nat} {k d:Nat} (hk:k < p.size) (hd:d≤k) (i:Nat):(bubble p k d).getD i 0=if i=k - d then p.getD k 0 else if k - d < i∧i≤k then p.getD (i - 1) 0 else p.getD i 0:=by
 have e:∀ (q:Array Nat) (i:Nat),q.getD i 0=(q[i]?).getD 0:=fun q i=>by
  by_cases h:i < q.size
  ·simp [Array.getD,h]
  ·simp [Array.getD,h]
 rw [e,e,e,e,getElem?_bubble hk d hd]
 split
 ·rfl
 ·split <;> rfl
omit S in
theorem bubble_plc {p:Array Nat} (P:Plc n p) {k d:Nat} (hk:k < n) (hd:d≤k):Plc n (bubble p k d) where
 sz:=(bubble_size _ _ _).trans P.sz
 lt:=fun i hi=>by
  rw [getD_bubble (by rw [P.sz];exact hk) hd]
  split
  ·exact P.lt _ hk
  ·split
   ·exact P.lt _ (by lia)
   ·exact P.lt _ hi
 ne:=fun i j hi hj hne=>by
  rw [getD_bubble (by rw [P.sz];exact hk) hd,getD_bubble (by rw [P.sz];exact hk) hd]
  split <;> split <;> first | (split <;> first | exact P.ne _ _ (by lia) (by lia) (by lia) | (split <;> exact P.ne _ _ (by lia) (by lia) (by lia))) | exact P.ne _ _ (by lia) (by lia) (by lia) | lia
 pm:=(Array.perm_iff_toList_perm.mp (bubble_perm _ _ _)).trans P.pm
theorem run_bin:∀ (f:Nat) (p:Array Nat) (k:Nat),Plc n p→k + f=n→1≤k→Up lt p k→Run lt n (PySem.W.kas_bin f p k) fun q=>Plc n q∧Up lt q n
 | 0,p,k,P,e,_,u=>by
  have e':k=n:=by lia
  subst e'
  exact ⟨P,u⟩
 | f + 1,p,k,P,e,h1,u=>by
  unfold PySem.W.kas_bin
  refine Run.bind ((run_place S P (by lia:k < n) k 0 k (by lia) (by lia) (Nat.le_refl _) (fun i hi=>by lia) (fun i h1 h2=>by lia) u).mono fun l ⟨hl,ha,hb⟩=>?_)
  have hp:k < p.size:=by rw [P.sz];lia
  refine run_bin f _ (k + 1) (bubble_plc P (by lia) (by lia)) (by lia) (by lia) fun i j hij hj=>?_
  rw [getD_bubble hp (by lia),getD_bubble hp (by lia)]
  have el:k - (k - l)=l:=by lia
  rw [el]
  by_cases hi:i=l
  ·rw [if_pos hi]
   rw [if_neg (by lia:¬j=l),if_pos (by lia)]
   exact hb _ (by lia) (by lia)
  ·rw [if_neg hi]
   by_cases hj':j=l
   ·rw [if_pos hj',if_neg (by lia)]
    exact ha _ (by lia)
   ·rw [if_neg hj']
    by_cases c1:l < i∧i≤k
    ·rw [if_pos c1,if_pos (by lia)]
     exact u _ _ (by lia) (by lia)
    ·rw [if_neg c1]
     by_cases c2:l < j∧j≤k
     ·rw [if_pos c2]
      exact u _ _ (by lia) (by lia)
     ·rw [if_neg c2]
      exact u _ _ (by lia) (by lia)
theorem run_sort (h1:1≤n):Run lt n (PySem.W.kas_sort n) fun q=>Plc n q∧Up lt q n:=by
 unfold PySem.W.kas_sort
 have P0:Plc n (List.toArray (List.range n)):=by
  have e:∀ i,i < n→(List.toArray (List.range n)).getD i 0=i:=fun i hi=>by simp [Array.getD,hi]
  exact ⟨by simp,fun i hi=>by rw [e i hi];exact hi,fun i j hi hj hne=>by rw [e i hi,e j hj];exact hne,List.Perm.refl _⟩
 refine Run.bind ((run_count S P0 h1).mono fun r ⟨a,b,P,u⟩=>?_)
 by_cases h:r.1 < n
 ·rw [if_pos h]
  have em:max r.1 1=r.1:=by lia
  rw [em]
  exact run_bin S _ _ _ P (by lia) a u
 ·rw [if_neg h]
  have e:r.1=n:=by lia
  rw [e] at u
  exact ⟨P,u⟩
end
end L2
namespace L2
open PySem PySem.Spec PyProof.Rows
theorem ns_one {h:Heap} {a:Addr} {m m':Str→Option Value} (x:h.Ns a m) (y:h.Ns a m'):m=m':=by
 obtain ⟨o,es,ep,e,d,_,f⟩:=x
 obtain ⟨o',es',ep',e',d',_,f'⟩:=y
 rw [e] at e';cases e'
 rw [d] at d';cases d'
 funext z
 rw [←f z,←f' z]
theorem ObjOk.there {P:Program} {w:World} {H:Hp} {h:Heap} {a:Addr} {o:HO} (x:ObjOk P w H h a o):∃ u,h.get? a=some u:=by
 cases o with
 | lst xs=>obtain ⟨_,_,_,_,e⟩:=x;exact ⟨_,e⟩
 | tup xs=>obtain ⟨_,_,_,_,o,e,_⟩:=x;exact ⟨_,e⟩
 | dK kvs=>obtain ⟨_,_,_,_,o,_,_,e,_⟩:=x;exact ⟨_,e⟩
 | dT kvs=>obtain ⟨_,_,_,_,o,_,_,e,_⟩:=x;exact ⟨_,e⟩
 | set S n=>obtain ⟨o,_,_,_,e,_⟩:=x;exact ⟨_,e⟩
 | ins C dx fs=>obtain ⟨_,_,_,e,_⟩:=x;exact ⟨_,e⟩
 | own y=>obtain ⟨_,e⟩:=x;exact ⟨_,e⟩
 | xd fs=>obtain ⟨_,⟨_,_,_,e,_⟩,_⟩:=x;exact ⟨_,e⟩
 | rng lo hi=>obtain ⟨_,_,_,e⟩:=x;exact ⟨_,e⟩
 | frz ob u=>obtain ⟨e,_⟩:=x;exact ⟨_,e⟩
 | tbl ps=>exact ⟨_,show h.get? a=some _ from x⟩
 | met f y=>exact ⟨_,show h.get? a=some _ from x⟩
 | ext φ=>obtain ⟨_,⟨_,e⟩,_⟩:=x;exact ⟨_,e⟩
section
variable {X:Cx} {pins:List (Addr×Obj)} {σ:St} {H:Hp} {s:Shared}
theorem Inv.none_of (I:Inv X pins σ H s) {a:Addr} (h:s.heap.get? a=none):H a=none:=by
 cases q:H a with
 | none=>rfl
 | some o=>
  obtain ⟨u,e⟩:=(I.hok a o q).there
  rw [h] at e;cases e
theorem Inv.laidBut {a:Addr} {xs:List V} {its:List Value} {n t':Nat} {h':Heap} {m:Str→Option Value} (I:Inv X pins σ H s) (k:∀ b u,b≠X.env.locals→s.heap.get? b=some u→h'.get? b=some u) (hm:s.heap.Ns X.env.locals m) (hm':h'.Ns X.env.locals m)
  (hp:s.heap.get? a=none) (rv:Vals xs its) (hz:xs.length≤sizeLine) (ho:h'.get? a=some { cls:=.type "list",data:=.seq its.toArray n }):Inv X pins σ (upd H a (.lst xs)) { s with heap:=h',toks:=t' }:=by
 have hn:H a=none:=I.none_of hp
 have neL:∀ b u,H b=some u→b≠X.env.locals:=fun b u e z=>by rw [z,I.free] at e;cases e
 refine I.step (g':=s.gens) (d':=s.drawn) (ch:=[]) (fun _ z=>nomatch z) (fun b o h1 _ _ e _=>k b o h1 e) (fun b o h1 _ _ e _=>⟨o.slots,k b o h1 e⟩)
  (fun b o _ e q=>by rw [upd_ne (fun z=>by rw [z,hp] at e;cases e)];exact q) (fun b o _ e=>?_)
  (fun b xs q=>by rw [upd_ne (ne_of_none q hn)];exact q) (fun b o u q=>by rw [upd_ne (ne_of_none q hn)];exact q) (fun b ps q=>⟨#[],by rw [upd_ne (ne_of_none q hn),q];simp⟩) (fun m2 h2=>?_) (fun b u e=>?_) I.bare
 ·by_cases hb:b=X.env.locals
  ·subst hb
   obtain ⟨o',_,_,e',_⟩:=hm'
   exact ⟨o',e'⟩
  ·exact ⟨o,k b o hb e⟩
 ·rw [ns_one h2 hm];exact hm'
 ·by_cases hb:b=a
  ·subst hb
   rw [upd_same] at e
   cases e
   exact ⟨hz,its,n,rv,ho⟩
  ·rw [upd_ne hb] at e
   refine (I.hok b u e).stay (fun c v hc q=>k c v ?_ q) (fun c q=>by rw [upd_ne (ne_of_none q hn)];exact q) fun c xs q=>by rw [upd_ne (ne_of_none q hn)];exact q
   rcases hc with rfl | hc
   ·exact neL _ _ e
   ·exact neL _ _ hc
end
section
variable {X:Cx}
theorem bools_of:∀ {bs:List Bool} {vs:List Value},Vals (bs.map V.bl) vs→LSm.BoolsAre vs bs
 | [],_,.nil=>.nil
 | b::bs,_,.cons r t=>by
  cases (show _=Value.bool b from r)
  exact .cons b (bools_of t)
theorem call_all (hc:X.calm=true):CallR X (.builtin "all") (fun xs H Q=>∃ (p:Addr) (bs:List Bool),xs=[.ref p]∧SqL X.K H p (bs.map V.bl)∧Q (.bl (bs.all id)) H):=by
 intro pins s σ H xs us Q I r h
 obtain ⟨p,bs,rfl,hq,q⟩:=h
 obtain ⟨u,rfl,rx⟩:=Vals.one r
 cases (show u=Value.ref p from rx)
 obtain ⟨its,rv,pl,hz⟩:=I.list hq
 obtain ⟨m,F⟩:=I.fr
 have hb:=bools_of rv
 have hl:s.heap.IsList p its.toArray:=pl.isList
 have hlt:p < s.heap.objs.size:=by obtain ⟨_,e,_⟩:=hl;exact Heap.lt_size e
 refine call_all_walk (wpAny_pyIter_list hl ?_)
 refine ⟨s.heap.objs.size,[s.heap.objs.size,p],[s.heap.objs.size],its.toArray.size,_,_,fun i=>(bs[i]?).getD true,rfl,Walks.list (A:=X.A.in1) (I.ok.hd hc) _ p (Nat.ne_of_lt hlt) its.toArray,
  ⟨⟨_,Heap.get?_push_size _ rfl,rfl,rfl⟩,hl.push _⟩,fun i v s' Q' E' hP hQ=>?_,fun h' tk hk=>?_⟩
 ·obtain ⟨b,e,rfl⟩:=hb.get i v (by simpa using hP)
  simp only [e,Option.getD_some] at hQ
  exact wpAny_truthy_bool hQ
 ·have e:((List.range its.toArray.size).all fun i=>(bs[i]?).getD true)=bs.all id:=by
   rw [List.size_toArray,hb.length];exact LSm.range_all bs
  rw [e]
  exact ⟨.bl _,H,I.kept (LSm.kept_iter hk),rfl,q⟩
end
section
variable {prog:Program} {w:World} {A:Around} {E:Value→Shared→Prop} {s:Shared}
noncomputable def Col (prog:Program) (w:World) (s:Shared) (l:Addr) (vs:List Value):Prop:=∀ (A:Around) (E:Value→Shared→Prop) (Q:List Value→Shared→Prop),
 Q vs { s with heap:=(s.heap.push (seqObj "list" #[] 0)).update s.heap.objs.size (Obj.mapSeq (· ++vs.toArray)) }→wpAny (model prog w) A (collect (.ref l)) Q E s
theorem Col.list {l:Addr} {vs:List Value} (hl:s.heap.IsList l vs.toArray) (hz:vs.length≤sizeLine):Col prog w s l vs:=fun _ _ _ h=>collect_list hl h hz
theorem Col.tup {l:Addr} {vs:List Value} (hl:IsTup s.heap l vs.toArray) (hz:vs.length≤sizeLine):Col prog w s l vs:=by
 intro A E Q h
 obtain ⟨o,ho,hc,n,hd⟩:=hl
 have ho':(s.heap.push (seqObj "list" #[] 0)).get? l=some o:=Heap.get?_push_of_some _ ho
 have e0:((#[]:Array Value)++vs.toArray).toList=vs:=by simp
 unfold collect
 refine wpAny_bind (wpAny_runValue (codeAny_builtin entry_proto_collect' ?_))
 show wpAny _ _ (do again (.builtin "list.__iadd__" ⟨[←newList [],.ref l],[]⟩)) _ _ s
 refine wpAny_bind (wpAny_newList (wpAny_pure ⟨Code.quiet_builtin _ (by decide +kernel),codeAny_builtin entry_list_iadd' ?_⟩))
 show wpAny _ _ (Builtin.List.listExtendWith (.ref s.heap.objs.size) (.ref l) (.ref s.heap.objs.size)) _ _ { s with heap:=s.heap.push (seqObj "list" #[] 0) }
 unfold Builtin.List.listExtendWith
 refine wpAny_bind (wpAny_typeOf (T:="tuple") ⟨o,ho',hc⟩ ?_)
 have ht2:(Value.type "tuple"==Value.type "tuple")=true:=by rfl
 rw [if_pos (by rw [ht2];simp)]
 refine wpAny_bind (listItems_at ho' hd ?_)
 refine wpAny_bind (listItems_at (xs:=#[]) (n:=0) (Heap.get?_push_size _ rfl) rfl ?_)
 rw [if_neg (by simp)]
 refine wpAny_bind (listUpdate_at (xs:=#[]) (n:=0) (Heap.get?_push_size _ rfl) rfl ?_ (Nat.zero_le _) (Nat.le_trans (Nat.le_of_eq (by rw [←Array.length_toList,e0])) (Nat.le_succ_of_le hz)))
 refine wpAny_pure ?_
 show wpAny (model prog w) A (do
   let ob ←load s.heap.objs.size
   match ob.data with
   | .seq xs _=>pure xs.toList
   | _=>unsupported "internal:collect") Q E { s with heap:=(s.heap.push (seqObj "list" #[] 0)).update s.heap.objs.size (Obj.mapSeq (· ++vs.toArray)) }
 refine wpAny_bind (wpAny_load (get?_update_seq (Heap.get?_push_size _ rfl) _) ?_)
 show wpAny _ _ (pure ((#[]:Array Value)++vs.toArray).toList) Q E _
 rw [e0]
 exact wpAny_pure h
theorem sorted_many {l:Addr} {vs:List Value} {Q:Value→Shared→Prop} {h₀:Heap} {L:Addr} {m:Str→Option Value} {news:List (Addr×Obj)} (F:Fr h₀ L s.heap m) (N:News h₀ L s.heap news) (hl:Col prog w s l vs) (h2:2≤vs.length) (h64:vs.length < 64)
  (h:∀ D e1 h',Fr h₀ L h' m→News h₀ L h' ((D,seqObj "list" #[] e1)::news)→(∀ q∈news,q.1 < D)→
   wpAny (model prog w) A.in1.in1 (keyKind' vs.toArray) (fun κ s'=>(PySem.W.kas_sort vs.length).kasWp (PySem.W.kas_ask prog w A.in1.in1 κ vs) (fun p s''=>PySem.W.KasFin h₀ L m D e1 (p.toList.map fun i=>vs.getD i Value.none) (fun s3=>Q (.ref D) s3) s'') s') (fun _ _=>False) { s with heap:=h' }):
  wpAny (model prog w) A (call (.builtin "sorted") [.ref l]) Q E s:=by
 have hsl:vs.length≤sizeLine:=by rw [sizeLine_eq];lia
 refine Calls.call_function_entry kind_sorted plain_sorted entry_sorted (args_sorted1 _) ?_
 unfold Builtin.«sorted»
 refine wpAny_bind (m:=checkCount "sorted" 1 1 _) (wpAny_pure ?_)
 refine wpAny_bind (hl _ _ _ ?_)
 refine wpAny_bind (wpAny_newList ?_ hsl)
 have hsz:((s.heap.push (seqObj "list" #[] 0)).update s.heap.objs.size (Obj.mapSeq (· ++vs.toArray))).objs.size=s.heap.objs.size + 1:=by
  rw [Heap.size_update,size_push']
 have hoL:(((s.heap.push (seqObj "list" #[] 0)).update s.heap.objs.size (Obj.mapSeq (· ++vs.toArray))).push (seqObj "list" vs.toArray 0)).get? (s.heap.objs.size + 1)=some (seqObj "list" vs.toArray 0):=by
  rw [←hsz];exact Heap.get?_push_size _ rfl
 have keep:∀ b o,s.heap.get? b=some o→(((s.heap.push (seqObj "list" #[] 0)).update s.heap.objs.size (Obj.mapSeq (· ++vs.toArray))).push (seqObj "list" vs.toArray 0)).get? b=some o:=fun b o q=>by
  have hlt:b < s.heap.objs.size:=Heap.lt_size q
  rw [Heap.get?_push_ne _ _ _ (by rw [hsz];exact Nat.ne_of_lt (Nat.lt_succ_of_lt hlt)),Heap.get?_update_ne _ _ _ _ (Nat.ne_of_lt hlt),Heap.get?_push_ne _ _ _ (Nat.ne_of_lt hlt)]
  exact q
 have hL:L < s.heap.objs.size:=F.ns.lt
 show wpAny _ _ _ _ _ { s with heap:=((s.heap.push (seqObj "list" #[] 0)).update s.heap.objs.size (Obj.mapSeq (· ++vs.toArray))).push (seqObj "list" vs.toArray 0) }
 rw [hsz]
 refine wpAny_bind (wpAny_holding (wpAny_call_entry slot_list_sort ⟨_,hoL,rfl⟩ entry_list_sort ?body (args_list_sort _)))
 case body=>
  refine PySem.W.kat_list_sort (s:={ s with heap:=((s.heap.push (seqObj "list" #[] 0)).update s.heap.objs.size (Obj.mapSeq (· ++vs.toArray))).push (seqObj "list" vs.toArray 0) })
   (F.kept keep) (N.grown keep) hoL (Nat.ne_of_gt (Nat.lt_succ_of_lt hL)) (Heap.get?_none_of_le (Nat.le_trans F.above (Nat.le_succ_of_le (Nat.le_of_lt hL))))
   (fun p hp=>Nat.ne_of_lt (Nat.lt_succ_of_lt (Heap.lt_size (N p hp).1))) h2 h64 fun e1 h' F' N'=>?_
  refine wpAny_mono (h _ e1 h' F' N' fun q hq=>Nat.lt_succ_of_lt (Heap.lt_size (N q hq).1)) (fun κ s' hk=>?_) fun _ _ x=>x
  rw [PySem.W.kat_ask_eq rfl] at hk ⊢
  exact PySem.W.kas_wp_mono hk fun p s'' hk'=>hk'.mono fun s3 hq=>⟨_,rfl,wpAny_pure ⟨_,rfl,hq⟩⟩
theorem sorted_few {l:Addr} {vs:List Value} {Q:Value→Shared→Prop} (hl:Col prog w s l vs) (h2:vs.length < 2)
  (h:∀ D h' n,s.heap.objs.size≤D→(∀ b o,s.heap.get? b=some o→h'.get? b=some o)→h'.get? D=some { cls:=.type "list",data:=.seq vs.toArray n }→Q (.ref D) { s with heap:=h' }):
  wpAny (model prog w) A (call (.builtin "sorted") [.ref l]) Q E s:=by
 have hsl:vs.length≤sizeLine:=by rw [sizeLine_eq];lia
 refine Calls.call_function_entry kind_sorted plain_sorted entry_sorted (args_sorted1 _) ?_
 unfold Builtin.«sorted»
 refine wpAny_bind (m:=checkCount "sorted" 1 1 _) (wpAny_pure ?_)
 refine wpAny_bind (hl _ _ _ ?_)
 refine wpAny_bind (wpAny_newList ?_ hsl)
 have hsz:((s.heap.push (seqObj "list" #[] 0)).update s.heap.objs.size (Obj.mapSeq (· ++vs.toArray))).objs.size=s.heap.objs.size + 1:=by
  rw [Heap.size_update,size_push']
 have hoL:(((s.heap.push (seqObj "list" #[] 0)).update s.heap.objs.size (Obj.mapSeq (· ++vs.toArray))).push (seqObj "list" vs.toArray 0)).get? (s.heap.objs.size + 1)=some (seqObj "list" vs.toArray 0):=by
  rw [←hsz];exact Heap.get?_push_size _ rfl
 have keep:∀ b o,s.heap.get? b=some o→(((s.heap.push (seqObj "list" #[] 0)).update s.heap.objs.size (Obj.mapSeq (· ++vs.toArray))).push (seqObj "list" vs.toArray 0)).get? b=some o:=fun b o q=>by
  have hlt:b < s.heap.objs.size:=Heap.lt_size q
  rw [Heap.get?_push_ne _ _ _ (by rw [hsz];exact Nat.ne_of_lt (Nat.lt_succ_of_lt hlt)),Heap.get?_update_ne _ _ _ _ (Nat.ne_of_lt hlt),Heap.get?_push_ne _ _ _ (Nat.ne_of_lt hlt)]
  exact q
 show wpAny _ _ _ _ _ { s with heap:=((s.heap.push (seqObj "list" #[] 0)).update s.heap.objs.size (Obj.mapSeq (· ++vs.toArray))).push (seqObj "list" vs.toArray 0) }
 rw [hsz]
 generalize ((s.heap.push (seqObj "list" #[] 0)).update s.heap.objs.size (Obj.mapSeq (· ++vs.toArray))).push (seqObj "list" vs.toArray 0)=g at hoL keep ⊢
 refine wpAny_bind (wpAny_holding (wpAny_call_entry slot_list_sort ⟨_,hoL,rfl⟩ entry_list_sort ?body (args_list_sort _)))
 case body=>
  rw [list_sort_plain]
  have ha:s.heap.objs.size + 1 < g.objs.size:=Heap.lt_size hoL
  refine wpAny_bind (listItems_at hoL rfl ?_)
  refine wpAny_bind (listUpdate_at hoL rfl ?_ (by rw [List.size_toArray];exact hsl) (Nat.zero_le _))
  obtain ⟨e1,ho1⟩:∃ e1,(g.update (s.heap.objs.size + 1) (Obj.mapSeq fun _=>(#[]:Array Value))).get? (s.heap.objs.size + 1)=some (seqObj "list" #[] e1):=⟨_,get?_update_seq hoL (fun _=>#[])⟩
  refine wpAny_bind (seqEpoch_at ho1 rfl ?_)
  refine wpAny_bind (wpAny_newTuple ?_ hsl)
  refine wpAny_bind (wpAny_newList ?_ (Nat.zero_le _))
  refine wpAny_holding ?_
  have ho6:(((g.update (s.heap.objs.size + 1) (Obj.mapSeq fun _=>(#[]:Array Value))).push (seqObj "tuple" vs.toArray 0)).push (seqObj "list" #[] 0)).get? (s.heap.objs.size + 1)=some (seqObj "list" #[] e1):=by
   rw [Heap.get?_push_ne _ _ _ (by rw [size_push',Heap.size_update];exact Nat.ne_of_lt (Nat.lt_succ_of_lt ha)),Heap.get?_push_ne _ _ _ (by rw [Heap.size_update];exact Nat.ne_of_lt ha)]
   exact ho1
  show wpAny (model prog w) _ _ _ _ { s with heap:=((g.update (s.heap.objs.size + 1) (Obj.mapSeq fun _=>(#[]:Array Value))).push (seqObj "tuple" vs.toArray 0)).push (seqObj "list" #[] 0) }
  dsimp only
  have h2':vs.toArray.size < 2:=by simpa using h2
  rw [if_pos h2',if_pos h2']
  refine wpAny_bind (wpAny_pure ?_)
  rw [StateT.run_pure]
  refine wpAny_bind (wpAny_pure ?_)
  dsimp only
  refine wpAny_bind (seqEpoch_at ho6 rfl ?_)
  have earr:(arrOf (SortSt.mk' general' (vs.toArray.zip vs.toArray) #[] 7 none)).map (·.2)=vs.toArray:=by
   show (pairsOf vs).map (·.2)=vs.toArray
   apply Array.toList_inj.mp
   rw [Array.toList_map,pairsOf_toList]
   have e:∀ l:List Value,(l.zip l).map (·.2)=l:=fun l=>by
    induction l with
    | nil=>rfl
    | cons a r ih=>rw [List.zip_cons_cons,List.map_cons,ih]
   rw [e]
  refine wpAny_bind (listUpdate_at ho6 rfl ?_ (Nat.zero_le _) (hsz2:=by rw [earr,List.size_toArray];exact Nat.le_succ_of_le hsl))
  simp only [bne_self_eq_false,Bool.false_eq_true,if_false]
  refine wpAny_pure ⟨_,rfl,wpAny_pure ⟨_,rfl,?_⟩⟩
  have s2:=get?_update_seq ho6 fun _=>vs.toArray
  rw [earr]
  refine h _ _ _ (Nat.le_succ _) (fun b o q=>?_) s2
  have hlt:b < s.heap.objs.size:=Heap.lt_size q
  have hlt2:b < g.objs.size:=Heap.lt_size (keep b o q)
  rw [Heap.get?_update_ne _ _ _ _ (Nat.ne_of_lt (Nat.lt_succ_of_lt hlt)),Heap.get?_push_ne _ _ _ (by rw [size_push',Heap.size_update];exact Nat.ne_of_lt (Nat.lt_succ_of_lt hlt2)),Heap.get?_push_ne _ _ _ (by rw [Heap.size_update];exact Nat.ne_of_lt hlt2),
   Heap.get?_update_ne _ _ _ _ (Nat.ne_of_lt (Nat.lt_succ_of_lt hlt))]
  exact keep b o q
end
end L2
namespace L2
open PySem PySem.Spec PyProof.Rows
theorem lex_irr:∀ a:List Int,HT.lexLt a a=false
 | []=>rfl
 | x::a=>by rw [HT.lexLt_cons,if_pos rfl];exact lex_irr a
theorem lex_asym:∀ {a b:List Int},HT.lexLt a b=true→HT.lexLt b a=false
 | [],[],h=>by cases h
 | [],_::_,_=>rfl
 | _::_,[],h=>by cases h
 | x::a,y::b,h=>by
  rw [HT.lexLt_cons] at h ⊢
  by_cases e:x=y
  ·rw [if_pos e] at h
   rw [if_pos e.symm]
   exact lex_asym h
  ·rw [if_neg e] at h
   rw [if_neg (Ne.symm e)]
   have:=of_decide_eq_true h
   exact decide_eq_false (by lia)
theorem lex_tot:∀ {a b:List Int},a≠b→HT.lexLt a b=false→HT.lexLt b a=true
 | [],[],h,_=>(h rfl).elim
 | [],_::_,_,h=>by cases h
 | _::_,[],_,_=>rfl
 | x::a,y::b,hne,h=>by
  rw [HT.lexLt_cons] at h ⊢
  by_cases e:x=y
  ·rw [if_pos e] at h
   rw [if_pos e.symm]
   exact lex_tot (fun z=>hne (by rw [e,z])) h
  ·rw [if_neg e] at h
   rw [if_neg (Ne.symm e)]
   have:=of_decide_eq_false h
   exact decide_eq_true (by lia)
theorem lex_tr:∀ {a b c:List Int},HT.lexLt a b=true→HT.lexLt b c=true→HT.lexLt a c=true
 | [],_,[],h1,h2=>by
  rename_i b
  cases b
  ·exact h1
  ·cases h2
 | [],_,_::_,_,_=>rfl
 | _::_,[],_,h,_=>by cases h
 | _::_,_::_,[],_,h=>by cases h
 | x::a,y::b,z::c,h1,h2=>by
  rw [HT.lexLt_cons] at h1 h2 ⊢
  by_cases e1:x=y
  ·rw [if_pos e1] at h1
   by_cases e2:y=z
   ·rw [if_pos e2] at h2
    rw [if_pos (e1.trans e2)]
    exact lex_tr h1 h2
   ·rw [if_neg e2] at h2
    rw [if_neg (by rw [e1];exact e2),e1]
    exact h2
  ·rw [if_neg e1] at h1
   by_cases e2:y=z
   ·rw [if_pos e2] at h2
    rw [if_neg (by rw [←e2];exact e1),←e2]
    exact h1
   ·rw [if_neg e2] at h2
    have p:=of_decide_eq_true h1
    have q:=of_decide_eq_true h2
    rw [if_neg (by lia)]
    exact decide_eq_true (by lia)
section
variable {prog:Program} {w:World} {A:Around} {E:Value→Shared→Prop} {s:Shared}
theorem lex_ints {b:Bool} {Q:Bool→Shared→Prop}:∀ {ns ms:List Int} {vs us:List Value} (i:Nat),Vals (ns.map V.int) vs→Vals (ms.map V.int) us→ns.length=ms.length→Q (HT.lexLt ns ms) s→
  PySem.W.KatLex prog w A b false Q (vs.zip us) i s
 | [],[],_,_,_,.nil,.nil,_,q=>q
 | [],_::_,_,_,_,_,_,h,_=>by simp at h
 | _::_,[],_,_,_,_,_,h,_=>by simp at h
 | n::ns,m::ms,_,_,i,.cons r1 t1,.cons r2 t2,h,q=>by
  obtain ⟨t,rfl⟩:=r1
  obtain ⟨u,rfl⟩:=r2
  rw [List.zip_cons_cons]
  refine PySem.W.kat_cons (SeqAt.EqAt.int_int n t m u prog w _ _ ?_)
  rw [HT.lexLt_cons] at q
  by_cases e:n=m
  ·rw [if_pos e] at q
   rw [show (n==m)=true by simpa using e]
   exact PySem.W.kat_yes (lex_ints (i + 1) t1 t2 (by simpa using h) q)
  ·rw [if_neg e] at q
   rw [show (n==m)=false by simpa using e]
   refine PySem.W.kat_no ?_
   cases hb:(b&&i==0) with
   | true=>exact oneLt_int q
   | false=>exact PySem.W.kat_one _ _ (lt_int (show PySem.W.BoolBack Q (.bool (decide (n < m))) s from q))
theorem lex_pre {b:Bool} {Q:Bool→Shared→Prop} {ns ms:List Int}:∀ {ps:List Str} {vs us:List Value} (i:Nat),Vals (ps.map V.str++ns.map V.int) vs→Vals (ps.map V.str++ms.map V.int) us→ns.length=ms.length→Q (HT.lexLt ns ms) s→
  PySem.W.KatLex prog w A b false Q (vs.zip us) i s
 | [],_,_,i,h1,h2,h,q=>lex_ints i h1 h2 h q
 | p::ps,_,_,i,.cons r1 t1,.cons r2 t2,h,q=>by
  obtain ⟨t,rfl⟩:=r1
  obtain ⟨u,rfl⟩:=r2
  rw [List.zip_cons_cons]
  refine PySem.W.kat_cons (SeqAt.EqAt.str_str p t p u prog w _ _ ?_)
  rw [beq_self_eq_true]
  exact PySem.W.kat_yes (lex_pre (i + 1) t1 t2 h q)
end
noncomputable def tupOf (ps:List Str) (ns:List Int):PyData:=.tuple (ps.map .str++ns.map .int)
theorem IsAll.preInts {H:Hp} {ns:List Int}:∀ {ps:List Str} {vs:List V},IsAll H vs (ps.map PyData.str++ns.map PyData.int)→vs=ps.map V.str++ns.map V.int
 | [],_,h=>h.of_ints
 | p::ps,_,h=>by
  rw [List.map_cons,List.cons_append] at h
  cases h with
  | cons h1 t=>
  cases h1
  have:=IsAll.preInts (ps:=ps) t
  rw [this]
  rfl
theorem katTups_of {h:Heap} {G:Value→Prop}:∀ (its:List Value),(∀ (i:Nat) u,its[i]? =some u→∃ (a:Addr) (o:Obj) (zs:Array Value) (n:Nat) (f:Value),u=.ref a∧h.get? a=some o∧o.cls=.type "tuple"∧o.data=.seq zs n∧zs[0]? =some f∧G f)→
  ∃ fs,PySem.W.KatTups h its fs∧fs.length=its.length∧∀ v∈fs,G v
 | [],_=>⟨[],PySem.W.KatTups.nil,rfl,fun _ h=>nomatch h⟩
 | u::its,hi=>by
  obtain ⟨fs,t,l,g⟩:=katTups_of its fun i u e=>hi (i + 1) u (by simpa using e)
  obtain ⟨a,o,zs,n,f,rfl,h1,h2,h3,h4,h5⟩:=hi 0 u rfl
  refine ⟨f::fs,PySem.W.KatTups.cons h1 h2 h3 h4 t,by simp [l],fun v hv=>?_⟩
  rcases List.mem_cons.mp hv with rfl | hv
  ·exact h5
  ·exact g v hv
theorem map_getD_range {α:Type} (d:α) (l:List α):(List.range l.length).map (fun i=>l.getD i d)=l:=by
 apply List.ext_getElem?
 intro i
 rw [List.getElem?_map]
 by_cases h:i < l.length
 ·rw [List.getElem?_range h]
  simp [h]
 ·rw [List.getElem?_eq_none (by simpa using h),List.getElem?_eq_none (by simpa using h)]
  rfl
section
variable {X:Cx}
noncomputable def rSorted (K:PySem.W.Frag):List V→Hp→VK→Prop:=fun xs H Q=>∃ (p:Addr) (vs:List V) (ps:List Str) (nss:List (List Int)) (k:Nat),xs=[.ref p]∧(SqL K H p vs∨SqT K H p vs)∧IsAll H vs (nss.map (tupOf ps))∧(∀ ns∈nss,ns.length=k)∧0 < ps.length + k∧nss.Nodup∧nss.length < 64∧
 ∀ (l:Addr) (vs':List V) (nss':List (List Int)),H l=none→IsAll H vs' (nss'.map (tupOf ps))→nss'.Perm nss→nss'.Pairwise (fun a b=>HT.lexLt a b=true)→Q (.ref l) (upd H l (.lst vs'))
theorem call_sorted:CallR X (.builtin "sorted") (rSorted X.K):=by
 intro pins s σ H xs us Q I r h
 obtain ⟨p,vs,ps,nss,k,rfl,hq,ha,hk,hpos,hnd,h64,q⟩:=h
 obtain ⟨u,rfl,rx⟩:=Vals.one r
 cases (show u=Value.ref p from rx)
 obtain ⟨its,rv,hl,hz⟩:∃ its,Vals vs its∧Col X.prog X.w s p its∧vs.length≤sizeLine:=by
  rcases hq with hq | hq
  ·obtain ⟨its,rv,pl,hz⟩:=I.list hq
   exact ⟨its,rv,Col.list pl.isList (by rw [←rv.length];exact hz),hz⟩
  ·obtain ⟨its,rv,pl,hz⟩:=I.tuple hq
   exact ⟨its,rv,Col.tup pl (by rw [←rv.length];exact hz),hz⟩
 have e1:vs.length=nss.length:=by rw [ha.length,List.length_map]
 have e2:its.length=nss.length:=by rw [←rv.length,e1]
 by_cases h2:its.length < 2
 ·refine sorted_few hl h2 fun D h' n hD hkeep ho=>?_
  refine ⟨.ref D,_,I.laid (t':=s.toks) (o:=.lst vs) hkeep hD ⟨hz,its,n,rv,ho⟩,rfl,q D vs nss (I.hok.fresh hD) ha (List.Perm.refl _) ?_⟩
  match nss,e2,h2 with
  | [],_,_=>exact .nil
  | [a],_,_=>exact List.pairwise_singleton _ _
  | a::b::r,e2,h2=>simp at e2;lia
 ·obtain ⟨m,F⟩:=I.fr
  refine sorted_many F (news:=allNews X.base s.heap X.env.locals) news_all hl (by lia) (by lia) fun D e0 h' F' N' hD=>?_
  have hkeep:∀ b o,b≠X.env.locals→s.heap.get? b=some o→h'.get? b=some o:=fun b o hb e=>by
   cases qb:X.base.get? b with
   | some u=>
    have:=I.bk b u qb
    rw [e] at this;cases this
    exact F'.keep b _ qb
   | none=>exact (N' (b,o) (List.mem_cons_of_mem _ (mem_allNews hb qb e))).1
  have item:∀ (i:Nat) (ns:List Int),nss[i]? =some ns→∃ (a:Addr) (o:Obj) (zs:List Value) (n:Nat),its.getD i Value.none=.ref a∧h'.get? a=some o∧o.cls=.type "tuple"∧o.data=.seq zs.toArray n∧Vals (ps.map V.str++ns.map V.int) zs:=fun i ns e=>by
   obtain ⟨v,ev,iv⟩:=ha.get (i:=i) (d:=tupOf ps ns) (by rw [List.getElem?_map,e];rfl)
   obtain ⟨u,eu,ru⟩:=rv.get ev
   unfold tupOf at iv
   cases iv with
   | @tup a xs _ ea hxs=>
    obtain rfl:=hxs.preInts
    obtain ⟨zs,rz,⟨o,h1,h2,n,h3⟩,_⟩:=I.tuple (SqT.of ea)
    have hL:a≠X.env.locals:=fun z=>by rw [z,I.free] at ea;cases ea
    refine ⟨a,o,zs,n,?_,hkeep a o hL h1,h2,h3,rz⟩
    rw [List.getD_eq_getElem?_getD,eu]
    exact ru
  obtain ⟨T,fs,tups,hfl,hT,hTT⟩:∃ (T:String) (fs:List Value),PySem.W.KatTups h' its fs∧fs.length=its.length∧(∀ v∈fs,typeOf v=pure (Value.type T))∧(Value.type T==Value.type T)=true:=by
   have go:∀ T:String,(∀ (ns:List Int) (zs:List Value),ns.length=k→Vals (ps.map V.str++ns.map V.int) zs→∃ f,zs.toArray[0]? =some f∧typeOf f=pure (Value.type T))→
     ∃ (fs:List Value),PySem.W.KatTups h' its fs∧fs.length=its.length∧(∀ v∈fs,typeOf v=pure (Value.type T)):=fun T hf=>
    katTups_of its fun i u eu=>by
     have hi:i < nss.length:=by rw [←e2];exact (List.getElem?_eq_some_iff.mp eu).1
     obtain ⟨a,o,zs,n,g1,g2,g3,g4,g5⟩:=item i nss[i] (List.getElem?_eq_getElem hi)
     rw [List.getD_eq_getElem?_getD,eu] at g1
     obtain ⟨f,f1,f2⟩:=hf _ zs (hk _ (List.getElem_mem hi)) g5
     exact ⟨a,o,zs.toArray,n,f,g1,g2,g3,g4,f1,f2⟩
   cases hps:ps with
   | nil=>
    obtain ⟨fs,a,b,c⟩:=go "int" fun ns zs hn rz=>by
     subst hps
     match ns,zs,rz,hn with
     | [],_,_,hn=>simp at hpos;subst hn;simp at hpos
     | n::ns,_,.cons r _,_=>
      obtain ⟨t,rfl⟩:=r
      exact ⟨_,rfl,rfl⟩
    exact ⟨"int",fs,a,b,c,rfl⟩
   | cons p1 pr=>
    obtain ⟨fs,a,b,c⟩:=go "str" fun ns zs hn rz=>by
     subst hps
     match zs,rz with
     | _,.cons r _=>
      obtain ⟨t,rfl⟩:=r
      exact ⟨_,rfl,rfl⟩
    exact ⟨"str",fs,a,b,c,rfl⟩
  refine PySem.W.kat_kind tups (by lia) (fun v hv=>PySem.W.Looks.of_pure (hT v hv)) hTT ?_
  have S:Str1 (fun i j=>HT.lexLt (nss.getD i []) (nss.getD j [])) its.length:=⟨fun i j k _ _ _ a b=>lex_tr a b,fun i j hi hj hne a=>lex_tot (fun z=>hne ?_) a,fun i j _ _ a=>lex_asym a⟩
  ·rw [e2]
   rw [e2] at S
   refine Run.wp (fun i j C hi hj hC=>?_) (fun pq hpq=>?_) (run_sort S (by lia))
   ·show wpAny _ _ (keyLt' _ (its.getD i Value.none) (its.getD j Value.none)) C _ _
    obtain ⟨a,o,zs,n,g1,g2,g3,g4,g5⟩:=item i nss[i] (List.getElem?_eq_getElem hi)
    obtain ⟨a',o',zs',n',g1',g2',g3',g4',g5'⟩:=item j nss[j] (List.getElem?_eq_getElem hj)
    rw [g1,g1']
    refine PySem.W.kat_lt g2 g4 g2' g4' ?_
    have hn1:=hk _ (List.getElem_mem hi)
    have hn2:=hk _ (List.getElem_mem hj)
    have ez:decide (zs.toArray.size < zs'.toArray.size)=false:=by
     have l1:=g5.length
     have l2:=g5'.length
     simp only [List.length_append,List.length_map] at l1 l2
     simp only [List.size_toArray]
     exact decide_eq_false (by lia)
    rw [ez]
    refine lex_pre 0 (by simpa using g5) (by simpa using g5') (by lia) ?_
    have e1':nss.getD i []=nss[i]:=by simp [hi]
    have e2':nss.getD j []=nss[j]:=by simp [hj]
    rw [←e1',←e2']
    exact hC
   ·obtain ⟨P,up⟩:=hpq
    refine PySem.W.KasFin.intro F' N' (.head fun x hx=>Nat.ne_of_lt (hD x hx)) fun h'' c F'' N''=>?_
    have hnD:s.heap.get? D=none:=by
     cases qd:s.heap.get? D with
     | none=>rfl
     | some o=>
      have hh:=N' (D,_) List.mem_cons_self
      have hm:=hD (D,o) (mem_allNews hh.2.1 hh.2.2 qd)
      exact absurd hm (Nat.lt_irrefl _)
    have hkeep2:∀ b o,b≠X.env.locals→s.heap.get? b=some o→h''.get? b=some o:=fun b o hb e=>by
     cases qb:X.base.get? b with
     | some u=>
      have:=I.bk b u qb
      rw [e] at this;cases this
      exact F''.keep b _ qb
     | none=>exact (N'' (b,o) (List.mem_cons_of_mem _ (mem_allNews hb qb e))).1
    have hlt:∀ x∈pq.toList,x < nss.length:=fun x hx=>List.mem_range.mp (P.pm.mem_iff.mp hx)
    have rv2:∀ l:List Nat,(∀ x∈l,x < nss.length)→Vals (l.map fun i=>vs.getD i .non) (l.map fun i=>its.getD i Value.none)∧IsAll H (l.map fun i=>vs.getD i .non) ((l.map fun i=>nss.getD i []).map (tupOf ps)):=fun l=>by
     induction l with
     | nil=>exact fun _=>⟨.nil,.nil⟩
     | cons x l ih=>
      intro hx
      obtain ⟨ih1,ih2⟩:=ih fun y hy=>hx y (List.mem_cons_of_mem _ hy)
      have hxn:=hx x List.mem_cons_self
      obtain ⟨v,ev,iv⟩:=ha.get (i:=x) (d:=tupOf ps nss[x]) (by rw [List.getElem?_map,List.getElem?_eq_getElem hxn];rfl)
      obtain ⟨u,eu,ru⟩:=rv.get ev
      have a1:vs.getD x .non=v:=by rw [List.getD_eq_getElem?_getD,ev];rfl
      have a2:its.getD x Value.none=u:=by rw [List.getD_eq_getElem?_getD,eu];rfl
      have a3:nss.getD x []=nss[x]:=by simp [hxn]
      simp only [List.map_cons,a1,a2,a3]
      exact ⟨.cons ru ih1,.cons iv ih2⟩
    obtain ⟨rv3,ia3⟩:=rv2 pq.toList hlt
    have ho:=(N'' (D,_) List.mem_cons_self).1
    have hpl:pq.toList.length=nss.length:=by rw [Array.length_toList];exact P.sz
    refine ⟨.ref D,_,I.laidBut (t':=s.toks) hkeep2 F.ns F''.ns hnD rv3 (by rw [List.length_map,hpl,sizeLine_eq];lia) ho,rfl,q D _ _ (I.none_of hnD) ia3 ?_ ?_⟩
    ·have:=P.pm.map fun i=>nss.getD i []
     rw [map_getD_range] at this
     exact this
    ·rw [List.pairwise_iff_getElem]
     intro i j hi hj hij
     simp only [List.length_map] at hi hj
     have:=up i j hij (by rw [←hpl];exact hj)
     have z:∀ x (hx:x < pq.toList.length),pq.getD x 0=pq.toList[x]:=fun x hx=>by
      have hx':x < pq.size:=by simpa using hx
      simp [Array.getD,hx']
     rw [z i hi,z j hj] at this
     simpa using this
  ·rw [e2] at hi hj
   have e1':nss.getD i []=nss[i]:=by simp [hi]
   have e2':nss.getD j []=nss[j]:=by simp [hj]
   rw [e1',e2'] at z
   exact (List.getElem_inj hnd).mp z
end
end L2
namespace L2
open PySem PySem.Spec PyProof.Rows
theorem bt_len:bootBuiltins "len"=some (.builtin "len"):=by decide +kernel
theorem bt_isinstance:bootBuiltins "isinstance"=some (.builtin "isinstance"):=by decide +kernel
theorem bt_all:bootBuiltins "all"=some (.builtin "all"):=by decide +kernel
theorem bt_sorted:bootBuiltins "sorted"=some (.builtin "sorted"):=by decide +kernel
theorem bt_max:bootBuiltins "max"=some (.builtin "max"):=by decide +kernel
theorem bt_min:bootBuiltins "min"=some (.builtin "min"):=by decide +kernel
theorem bt_enumerate:bootBuiltins "enumerate"=some (.type "enumerate"):=by decide +kernel
theorem bt_tuple:bootBuiltins "tuple"=some (.type "tuple"):=by decide +kernel
theorem bt_list:bootBuiltins "list"=some (.type "list"):=by decide +kernel
theorem bt_int:bootBuiltins "int"=some (.type "int"):=by decide +kernel
theorem bt_bool:bootBuiltins "bool"=some (.type "bool"):=by decide +kernel
theorem bt_set:bootBuiltins "set"=some (.type "set"):=by decide +kernel
theorem pe_gint {X:Cx} {x:Str} {n:Int} {pos:Pos} (hg:Gl X x) (hm:∃ tk,X.mg x=some (.int n tk)) (hd:(x==("__debug__":Str))=false:=by decide):PE X (.Name x pos) (tC (.int n)):=
 fun _ _ _ H _ I h=>let ⟨tk,e⟩:=hm;ld_glob I hg e ⟨.int n,H,I,⟨tk,rfl⟩,h⟩ hd
noncomputable def rIxA (K:PySem.W.Frag):R2:=fun x y H Q=>∃ p xs i v,x=.ref p∧y=.int i∧(SqL K H p xs∨SqT K H p xs)∧atI xs i=some v∧Q v H
theorem ix_any {X:Cx}:IxR X (rIxA X.K):=by
 intro value slice pins s σ H x y v u Q I rx ry h hs
 obtain ⟨p,xs,i,w,e1,e2,hq,ha,q⟩:=h
 rcases hq with hq | hq
 ·exact ix_list value slice pins s σ H x y v u Q I rx ry ⟨p,xs,i,w,e1,e2,hq,ha,q⟩ hs
 ·exact ix_tup value slice pins s σ H x y v u Q I rx ry ⟨p,xs,i,w,e1,e2,hq,ha,q⟩ hs
noncomputable def rIsinst:List V→Hp→VK→Prop:=fun xs H Q=>∃ x T d,xs=[x,.ty T]∧T∈(["bool","int","tuple","list","str","dict"]:List String)∧Is H x d∧Q (.bl (isTy T d)) H
noncomputable def rLen (K:PySem.W.Frag):List V→Hp→VK→Prop:=fun xs H Q=>∃ p ys,xs=[.ref p]∧(SqL K H p ys∨SqT K H p ys)∧Q (.int ys.length) H
noncomputable def rAll (K:PySem.W.Frag):List V→Hp→VK→Prop:=fun xs H Q=>∃ (p:Addr) (bs:List Bool),xs=[.ref p]∧SqL K H p (bs.map V.bl)∧Q (.bl (bs.all id)) H
noncomputable def rAny (K:PySem.W.Frag):List V→Hp→VK→Prop:=fun xs H Q=>∃ (p:Addr) (bs:List Bool),xs=[.ref p]∧SqL K H p (bs.map V.bl)∧Q (.bl (bs.any id)) H
noncomputable def rIsN:R2:=fun x y H Q=>y=.non∧Q (.bl (decide (x=.non))) H
noncomputable def rNotN:R2:=fun x y H Q=>y=.non∧Q (.bl (!decide (x=.non))) H
section
variable {X:Cx}
theorem c_isinst:CallR X (.builtin "isinstance") rIsinst:=call_isinst
theorem c_len:CallR X (.builtin "len") (rLen X.K):=call_len_seq
theorem c_all (hc:X.calm=true):CallR X (.builtin "all") (rAll X.K):=call_all hc
theorem o_isN:OpR X (compareOp .Is) rIsN:=op_isN
noncomputable def rTupOf (K:PySem.W.Frag):List V→Hp→VK→Prop:=fun xs H Q=>∃ p ys,xs=[.ref p]∧((SqL K H p ys∧∀ l,H l=none→Q (.ref l) (upd H l (.tup ys)))∨(SqT K H p ys∧Q (.ref p) H))
noncomputable def rLstOf (K:PySem.W.Frag):List V→Hp→VK→Prop:=fun xs H Q=>∃ p ys,xs=[.ref p]∧(SqL K H p ys∨SqT K H p ys)∧∀ l,H l=none→Q (.ref l) (upd H l (.lst ys))
theorem c_list:CallR X (.type "list") (rLstOf X.K):=call_list_of
theorem c_tuple:CallR X (.type "tuple") (rTupOf X.K):=call_tuple_of
noncomputable def rMax2:List V→Hp→VK→Prop:=fun xs H Q=>∃ i j:Int,xs=[.int i,.int j]∧Q (.int (if j > i then j else i)) H
noncomputable def rInt1:List V→Hp→VK→Prop:=fun xs H Q=>(∃ i,xs=[.int i]∧Q (.int i) H)∨∃ k,xs=[.bl k]∧Q (.int (if k then 1 else 0)) H
end
@[reducible] def isBoolD:PyData→Bool | .bool _=>true | _=>false
@[reducible] def isIntD:PyData→Bool | .bool _=>true | .int _=>true | _=>false
@[reducible] def isTupD:PyData→Bool | .tuple _=>true | _=>false
@[reducible] def isLstD:PyData→Bool | .list _=>true | _=>false
@[reducible] def isStrD:PyData→Bool | .str _=>true | _=>false
section
variable {σ:St} {H:Hp} {Q:VK} {D:Ends} {K:PySem.W.Frag}
theorem rd_seq {t u:TS} (h:t { D with nx:=u D } σ H):tSeq t u D σ H:=h
theorem rd_next (h:D.nx σ H):tNext D σ H:=h
theorem rd_ifS {c:TT} {t u:TS} (h:c σ H fun b H1=>if b=true then t D σ H1 else u D σ H1):tIfS c t u D σ H:=h
theorem rd_ret {te:TE} (h:te σ H D.rt):tRet te D σ H:=h
theorem rd_drop {te:TE} (h:te σ H fun _ H1=>D.nx σ H1):tDrop te D σ H:=h
theorem rd_asg {te:TE} {g:TG} (h:te σ H fun x H1=>g x σ H1 D.nx):tAsg te g D σ H:=h
theorem rd_gname {i:Nat} {v:V} {P:St→Hp→Prop} (h:P (σ.set i (some v)) H):gName i v σ H P:=h
theorem rd_var {i:Nat} {v:V} (e:σ[i]? =some (some v)) (h:Q v H):tVar i σ H Q:=⟨v,e,h⟩
theorem rd_C {v:V} (h:Q v H):tC v σ H Q:=h
theorem rd_test {te:TE} {P:Bool→Hp→Prop} (h:te σ H fun x H'=>∃ k,x=.bl k∧P k H'):tTest te σ H P:=h
theorem rd_B {te:TE} {P:Bool→Hp→Prop} (h:te σ H fun x H'=>∃ k,x=.bl k∧P k H'):tB te σ H P:=h
theorem rd_bl {b:Bool} {P:Bool→Hp→Prop} (h:P b H):∃ k,V.bl b=.bl k∧P k H:=⟨b,rfl,h⟩
theorem rd_op {r:R2} {ta tb:TE} (h:ta σ H fun x H1=>tb σ H1 fun y H2=>r x y H2 Q):tOp r ta tb σ H Q:=h
theorem rd_un {r:V→Hp→VK→Prop} {ta:TE} (h:ta σ H fun x H1=>r x H1 Q):tUn r ta σ H Q:=h
theorem rd_I0 {g:Int→Int→V} {i j:Int} (h:Q (g i j) H):rI0 g (.int i) (.int j) H Q:=⟨i,j,rfl,rfl,h⟩
theorem rd_I {C:Int→Int→Prop} {g:Int→Int→V} {i j:Int} (hc:C i j) (h:Q (g i j) H):rI C g (.int i) (.int j) H Q:=⟨i,j,rfl,rfl,hc,h⟩
theorem rd_and {t u:TT} {P:Bool→Hp→Prop} (h:t σ H fun c H1=>if c=true then u σ H1 P else P false H1):tAnd t u σ H P:=h
theorem rd_or {t u:TT} {P:Bool→Hp→Prop} (h:t σ H fun c H1=>if c=true then P true H1 else u σ H1 P):tOr t u σ H P:=h
theorem rd_not {t:TT} {P:Bool→Hp→Prop} (h:t σ H fun c H1=>P (!c) H1):tNot t σ H P:=h
theorem rd_andV {ta tb:TE} (h:ta σ H fun x H1=>∃ c,x=.bl c∧if c=true then tb σ H1 Q else Q (.bl false) H1):tAndV ta tb σ H Q:=h
theorem rd_orV {ta tb:TE} (h:ta σ H fun x H1=>∃ c,x=.bl c∧if c=true then Q (.bl true) H1 else tb σ H1 Q):tOrV ta tb σ H Q:=h
theorem rd_notV {ta:TE} (h:ta σ H fun x H1=>∃ c,x=.bl c∧Q (.bl (!c)) H1):tNotV ta σ H Q:=h
theorem rd_blE {b:Bool} {P:Bool→Prop} (h:P b):∃ c,V.bl b=.bl c∧P c:=⟨b,rfl,h⟩
theorem rd_nil {P:List V→Hp→Prop} (h:P [] H):tNil σ H P:=h
theorem rd_cons {ta:TE} {tr:TA} {P:List V→Hp→Prop} (h:ta σ H fun x H1=>tr σ H1 fun xs H2=>P (x::xs) H2):tCons ta tr σ H P:=h
theorem rd_tup {t:TA} (h:t σ H fun xs H1=>xs.length≤sizeLine∧∀ p,H1 p=none→Q (.ref p) (upd H1 p (.tup xs))):tTup t σ H Q:=h
theorem rd_lst {t:TA} (h:t σ H fun xs H1=>xs.length≤sizeLine∧∀ p,H1 p=none→Q (.ref p) (upd H1 p (.lst xs))):tLst t σ H Q:=h
theorem rd_call {sp:Sp} {dvs:List V} {E:XK} {t:TA} (h:t σ H fun vs H1=>sp (vs++dvs) H1 Q E):tCall sp dvs E t σ H Q:=h
theorem rd_cb {r:List V→Hp→VK→Prop} {t:TA} (h:t σ H fun vs H1=>r vs H1 Q):tCB r t σ H Q:=h
theorem rd_ixT {p:Addr} {xs:List V} {i:Int} {v:V} (e:H p=some (.tup xs)) (a:atI xs i=some v) (h:Q v H):rIxA K (.ref p) (.int i) H Q:=⟨p,xs,i,v,rfl,rfl,.inr (SqT.of e),a,h⟩
theorem rd_ixL {p:Addr} {xs:List V} {i:Int} {v:V} (e:H p=some (.lst xs)) (a:atI xs i=some v) (h:Q v H):rIxA K (.ref p) (.int i) H Q:=⟨p,xs,i,v,rfl,rfl,.inl (SqL.of e),a,h⟩
theorem rd_chain {r r':R2} {ta tb tc:TE} (h:ta σ H fun x H1=>tb σ H1 fun y H2=>r x y H2 fun z H3=>∃ k,z=.bl k∧(if k=true then tc σ H3 fun w' H4=>r' y w' H4 Q else Q (.bl false) H3)):tChain r r' ta tb tc σ H Q:=h
theorem ifT {b:Bool} {A B:Prop} (h:b=true) (x:A):if b=true then A else B:=by rw [if_pos h];exact x
theorem ifF {b:Bool} {A B:Prop} (h:b=false) (x:B):if b=true then A else B:=by rw [if_neg (by rw [h];exact Bool.false_ne_true)];exact x
theorem ifB {b:Bool} {A B:Prop} (h1:b=true→A) (h0:b=false→B):if b=true then A else B:=by
 cases b with
 | true=>rw [if_pos rfl];exact h1 rfl
 | false=>rw [if_neg Bool.false_ne_true];exact h0 rfl
theorem rd_isN {x:V} (h:Q (.bl (decide (x=.non))) H):rIsN x .non H Q:=⟨rfl,h⟩
theorem rd_notN {x:V} (h:Q (.bl (!decide (x=.non))) H):rNotN x .non H Q:=⟨rfl,h⟩
theorem rd_isBool {x:V} {d:PyData} (hx:Is H x d) (h:Q (.bl (isBoolD d)) H):rIsinst [x,.ty "bool"] H Q:=⟨x,"bool",d,rfl,by decide,hx,by cases d <;> exact h⟩
theorem rd_isInt {x:V} {d:PyData} (hx:Is H x d) (h:Q (.bl (isIntD d)) H):rIsinst [x,.ty "int"] H Q:=⟨x,"int",d,rfl,by decide,hx,by cases d <;> exact h⟩
theorem rd_isTup {x:V} {d:PyData} (hx:Is H x d) (h:Q (.bl (isTupD d)) H):rIsinst [x,.ty "tuple"] H Q:=⟨x,"tuple",d,rfl,by decide,hx,by cases d <;> exact h⟩
theorem rd_isLst {x:V} {d:PyData} (hx:Is H x d) (h:Q (.bl (isLstD d)) H):rIsinst [x,.ty "list"] H Q:=⟨x,"list",d,rfl,by decide,hx,by cases d <;> exact h⟩
theorem rd_isStr {x:V} {d:PyData} (hx:Is H x d) (h:Q (.bl (isStrD d)) H):rIsinst [x,.ty "str"] H Q:=⟨x,"str",d,rfl,by decide,hx,by cases d <;> exact h⟩
theorem ifNT {A B:Prop} (h:B):if (!true)=true then A else B:=iteF h
theorem ifNF {A B:Prop} (h:A):if (!false)=true then A else B:=iteT h
theorem rd_all {p:Addr} {bs:List Bool} (e:H p=some (.lst (bs.map V.bl))) (h:Q (.bl (bs.all id)) H):rAll K [.ref p] H Q:=⟨p,bs,rfl,SqL.of e,h⟩
theorem rd_any {p:Addr} {bs:List Bool} (e:H p=some (.lst (bs.map V.bl))) (h:Q (.bl (bs.any id)) H):rAny K [.ref p] H Q:=⟨p,bs,rfl,SqL.of e,h⟩
theorem rd_max2 {i j:Int} (h:Q (.int (if j > i then j else i)) H):rMax2 [.int i,.int j] H Q:=⟨i,j,rfl,h⟩
theorem rd_int1 {k:Bool} (h:Q (.int (if k then 1 else 0)) H):rInt1 [.bl k] H Q:=.inr ⟨k,rfl,h⟩
theorem rd_tupL {p:Addr} {ys:List V} (e:H p=some (.lst ys)) (h:∀ l,H l=none→Q (.ref l) (upd H l (.tup ys))):rTupOf K [.ref p] H Q:=⟨p,ys,rfl,.inl ⟨SqL.of e,h⟩⟩
theorem rd_eqD {neg:Bool} {x y:V} {d e:PyData} (hx:Is H x d) (hy:Is H y e) (od:okD d) (oe:okD e) (h:Q (.bl (if neg then !PyData.eqv d e else PyData.eqv d e)) H):rEqD neg x y H Q:=⟨d,e,hx,hy,od,oe,h⟩
theorem rd_eqI {x y:Int} (h:Q (.bl (x==y)) H):rEqD false (.int x) (.int y) H Q:=⟨.int x,.int y,.int x,.int y,⟨rfl,Nat.zero_le _⟩,⟨rfl,Nat.zero_le _⟩,h⟩
theorem rd_neI {x y:Int} (h:Q (.bl (!(x==y))) H):rEqD true (.int x) (.int y) H Q:=⟨.int x,.int y,.int x,.int y,⟨rfl,Nat.zero_le _⟩,⟨rfl,Nat.zero_le _⟩,h⟩
theorem rd_eqB {x y:Bool} (h:Q (.bl (x==y)) H):rEqD false (.bl x) (.bl y) H Q:=⟨.bool x,.bool y,.bl x,.bl y,⟨rfl,Nat.zero_le _⟩,⟨rfl,Nat.zero_le _⟩,h⟩
theorem rd_neB {x y:Bool} (h:Q (.bl (!(x==y))) H):rEqD true (.bl x) (.bl y) H Q:=⟨.bool x,.bool y,.bl x,.bl y,⟨rfl,Nat.zero_le _⟩,⟨rfl,Nat.zero_le _⟩,h⟩
theorem rd_inD {neg:Bool} {x y:V} {d:PyData} {ds:List PyData} (hx:Is H x d) (hy:Is H y (.tuple ds)) (od:okD d) (oe:okDs ds) (h:Q (.bl (if neg then !inD d ds else inD d ds)) H):rInD neg x y H Q:=⟨d,ds,hx,.inl hy,od,oe,h⟩
theorem rd_lenT {p:Addr} {xs:List V} (e:H p=some (.tup xs)) (h:Q (.int xs.length) H):rLen K [.ref p] H Q:=⟨p,xs,rfl,.inr (SqT.of e),h⟩
theorem rd_lenL {p:Addr} {xs:List V} (e:H p=some (.lst xs)) (h:Q (.int xs.length) H):rLen K [.ref p] H Q:=⟨p,xs,rfl,.inl (SqL.of e),h⟩
end
end L2
namespace L2
open PySem PySem.Spec PyProof.Rows
section
variable {σ:St} {H:Hp} {Q:VK} {D:Ends} {K:PySem.W.Frag} {R:It→Hp→Prop}
theorem rd_for {wi:TI} {g:TG} {tb:TS} (h:wi σ H fun J H1=>∃ W:Nat→Nat→St→Hp→Prop,(∃ m,W 0 m σ H1)∧∀ i m σ H,W i m σ H→
 (J.stop i H∧D.nx σ H)∨(J.go i H∧∃ N:St→Hp→Prop,(∀ σ' H',N σ' H'→∃ m',m' < m∧W (i + 1) m' σ' H')∧∀ x H',J.yld i H x H'→g x σ H' fun σ2 H2=>tb { D with nx:=N,ct:=N,bk:=D.nx } σ2 H2)):tFor wi g tb D σ H:=h
theorem rd_lc {wi:TI} {fm:List (Option Nat)} {g:TG} {tt:TT} {te:TE} (h:wi σ H fun J H1=>∃ W:Nat→Nat→List V→Hp→Prop,(∃ m,W 0 m [] H1)∧∀ i m ys H,W i m ys H→
 (J.stop i H∧∀ p,H p=none→Q (.ref p) (upd H p (.lst ys)))∨
 (J.go i H∧ys.length < sizeLine∧∃ N:List V→Hp→Prop,(∀ ys' H',N ys' H'→∃ m',m' < m∧W (i + 1) m' ys' H')∧
  ∀ x H',J.yld i H x H'→g x (fmSt fm σ) H' fun σ2 H2=>tt σ2 H2 fun ok H3=>if ok=true then te σ2 H3 fun v H4=>N (ys++[v]) H4 else N ys H3)):tLC wi fm g tt te σ H Q:=h
theorem rd_rng1 {ta:TA} (h:ta σ H fun vs H1=>∃ j:Int,vs=[.int j]∧-(2 ^ 62)≤j∧j < 2 ^ 62∧R (Itr 0 j.toNat) H1):iRng1 ta σ H R:=h
theorem rd_itup {tl:TE} (h:tl σ H fun x H1=>∃ a,x=.ref a∧(∃ xs,SqT K H1 a xs)∧R (Itt K a) H1):iTup K tl σ H R:=h
theorem rd_ilst {tl:TE} (h:tl σ H fun x H1=>∃ a,x=.ref a∧(∃ xs,SqL K H1 a xs)∧R (Itl K a) H1):iList K tl σ H R:=h
theorem rd_yes {P:Bool→Hp→Prop} (h:P true H):tYes σ H P:=h
theorem rd_gtup {n:Nat} {t:TGs} {a:Addr} {xs:List V} {P:St→Hp→Prop} (e:H a=some (.tup xs)) (l:xs.length=n) (h:t xs σ H P):gTup K n t (.ref a) σ H P:=⟨a,xs,rfl,SqT.of e,l,h⟩
theorem rd_gcons {t:TG} {u:TGs} {v:V} {r:List V} {P:St→Hp→Prop} (h:t v σ H fun σ' H'=>u r σ' H' P):gCons t u (v::r) σ H P:=⟨v,r,rfl,h⟩
theorem rd_gnil {P:St→Hp→Prop} (h:P σ H):gNil [] σ H P:=⟨rfl,h⟩
end
theorem Same.upd {H:Hp} {l:Addr} {o:HO} (h:H l=none):Same H (upd H l o):=fun b u e=>by rw [upd_ne (ne_of_none e h)];exact e
theorem Same.tup {H H':Hp} (e:Same H H') {a:Addr} {xs:List V} (h:H a=some (.tup xs)):H' a=some (.tup xs):=e _ _ h
end L2
namespace L2
open PySem PySem.Spec PyProof.Rows
section
variable {X:Cx}
theorem k_ix (K:PySem.W.Frag) (h:X.K=K:=by rfl):IxR X (rIxA K):=h▸ix_any
theorem k_len (K:PySem.W.Frag) (h:X.K=K:=by rfl):CallR X (.builtin "len") (rLen K):=h▸c_len
theorem k_all (K:PySem.W.Frag) (hc:X.calm=true:=by rfl) (h:X.K=K:=by rfl):CallR X (.builtin "all") (rAll K):=h▸c_all hc
theorem k_tuple (K:PySem.W.Frag) (h:X.K=K:=by rfl):CallR X (.type "tuple") (rTupOf K):=h▸c_tuple
theorem k_list (K:PySem.W.Frag) (h:X.K=K:=by rfl):CallR X (.type "list") (rLstOf K):=h▸c_list
theorem k_sorted (K:PySem.W.Frag) (h:X.K=K:=by rfl):CallR X (.builtin "sorted") (rSorted K):=h▸call_sorted
theorem k_ltT (K:PySem.W.Frag) (hu:X.A.units < cLine) (h:X.K=K:=by rfl):OpR X (compareOp .Lt) (rLtT K):=h▸op_ltT hu
theorem k_ptup (K:PySem.W.Frag) {tg l:Expr} {tl:TE} (hl:PE X l tl) (h:X.K=K:=by rfl):PI X tg l (iTup K tl):=h▸pi_tup hl
theorem k_plst (K:PySem.W.Frag) {tg l:Expr} {tl:TE} (hl:PE X l tl) (h:X.K=K:=by rfl):PI X tg l (iList K tl):=h▸pi_list hl
theorem k_gtup (K:PySem.W.Frag) {pos:Pos} {es:List Expr} {k:Nat} {t:TGs} {n:Nat} (hc:X.calm=true) (hh:PGs X es t)
  (hn:(assignEach es X.env).length=n:=by rfl) (hst:(assignEach es X.env).findIdx? (·.1)=none:=by rfl) (h:X.K=K:=by rfl):PG X (.Tuple es k pos) (gTup K n t):=h▸pg_tup hc hh hn hst
theorem k_bm (K:PySem.W.Frag) {o e:Expr} {es:List Expr} {to:TE} {t:TA} {name:Str} {apos cpos:Pos} {T id:String} {r:V→List V→Hp→VK→Prop} (pa:PlainAttrs T) (slot:Slot T name id) (hty:typeOf (.builtin id)=pure (.type "method_descriptor")) (hm:MtR X id r) (ho:PE X o to) (ha:PA X (e::es) t)
  (hbase:attributeBase o name X.env (eval o X.env)=eval o X.env:=by rfl)
  (hfew:((backTo cpos (starEach (e::es) X.env)).all (fun x=> !x.1)&&(backToKw cpos (keywordEach [] X.env)).all (fun x=>x.1.isSome)
   &&decide ((e::es).length + ([]:List Keyword).length + (if ([]:List Keyword).isEmpty then 0 else 1) < 30))=true:=by rfl)
  (hline:(apos.endLine==cpos.line)=true:=by rfl) (hs:starEach (e::es) X.env=(false,eval e X.env)::starEach es X.env:=by rfl) (hplain:(backTo cpos (starEach es X.env)).any (·.1)=false:=by rfl) (h:X.K=K:=by rfl):
  PE X (.Call (.Attribute o name apos) (e::es) [] cpos) (tBM K T r to t):=h▸pe_bm pa slot hty hm ho ha hbase hfew hline hs hplain
end
section
variable {σ:St} {H:Hp} {Q:VK} {D:Ends} {K:PySem.W.Frag}
theorem rd_ltT {a b:Addr} {i j k l:Int} (h1:H a=some (.tup [.int i,.int j])) (h2:H b=some (.tup [.int k,.int l])) (h:Q (.bl (HT.lexLt [i,j] [k,l])) H):rLtT K (.ref a) (.ref b) H Q:=
 ⟨a,b,[i,j],[k,l],rfl,rfl,SqT.of h1,SqT.of h2,h⟩
theorem rd_bm {T:String} {r:V→List V→Hp→VK→Prop} {to:TE} {t:TA} (h:to σ H fun x H1=>tyV K T x H1∧t σ H1 fun xs H2=>r x xs H2 Q):tBM K T r to t σ H Q:=h
theorem rd_append {l:Addr} {xs:List V} {v:V} (e:H l=some (.lst xs)) (hz:xs.length < sizeLine) (h:Q .non (upd H l (.lst (xs++[v])))):rAppend (.ref l) [v] H Q:=⟨l,xs,v,rfl,rfl,e,hz,h⟩
theorem tyV_lst {l:Addr} {xs:List V} (e:H l=some (.lst xs)):tyV K "list" (.ref l) H:=.inl ⟨rfl,_,SqL.of e⟩
end
theorem if_nn {A B:Prop} (h:A):if decide (V.non=V.non)=true then A else B:=by rw [decide_eq_true rfl];exact iteT h
theorem if_rn {a:Addr} {A B:Prop} (h:B):if decide (V.ref a=V.non)=true then A else B:=by rw [decide_eq_false (fun z=>nomatch z)];exact iteF h
theorem if_in {a:Int} {A B:Prop} (h:B):if decide (V.int a=V.non)=true then A else B:=by rw [decide_eq_false (fun z=>nomatch z)];exact iteF h
theorem if_nnN {A B:Prop} (h:B):if (!decide (V.non=V.non))=true then A else B:=by rw [decide_eq_true rfl];exact iteF h
theorem if_rnN {a:Addr} {A B:Prop} (h:A):if (!decide (V.ref a=V.non))=true then A else B:=by rw [decide_eq_false (fun z=>nomatch z)];exact iteT h
theorem if_inN {a:Int} {A B:Prop} (h:A):if (!decide (V.int a=V.non))=true then A else B:=by rw [decide_eq_false (fun z=>nomatch z)];exact iteT h
section
variable {σ:St} {H:Hp} {Q:VK} {D:Ends}
theorem rd_while {c:TT} {tb:TS} (h:∃ W:Nat→St→Hp→Prop,(∃ m,W m σ H)∧∀ m σ H,W m σ H→c σ H fun b H1=>if b=true then ∃ N:St→Hp→Prop,(∀ σ' H',N σ' H'→∃ m',m' < m∧W m' σ' H')∧tb { D with nx:=N,ct:=N,bk:=D.nx } σ H1 else D.nx σ H1):tWhile c tb D σ H:=h
theorem rd_gsub {to ti:TE} {t:TSet} {v:V} {P:St→Hp→Prop} (h:to σ H fun o H1=>ti σ H1 fun i H2=>t o i v H2 fun H3=>P σ H3):gSub to ti t v σ H P:=h
end
section
variable {H:Hp} {K:PySem.W.Frag}
theorem lp_range {lo:Int} {n:Nat} {G:List V→Hp→Prop} {B:(List V→Hp→Prop)→List V→V→Hp→Prop} (hn:n≤sizeLine) (Pv:Nat→List V→Hp→Prop) (h0:Pv 0 [] H) (hlen:∀ i ys H,Pv i ys H→ys.length≤i)
  (hs:∀ i ys H,i < n→Pv i ys H→B (Pv (i + 1)) ys (.int (lo + i)) H) (hd:∀ ys H,Pv n ys H→G ys H):
  ∃ W:Nat→Nat→List V→Hp→Prop,(∃ m,W 0 m [] H)∧∀ i m ys H,W i m ys H→((Itr lo n).stop i H∧G ys H)∨((Itr lo n).go i H∧ys.length < sizeLine∧
   ∃ N:List V→Hp→Prop,(∀ ys' H',N ys' H'→∃ m',m' < m∧W (i + 1) m' ys' H')∧∀ x H',(Itr lo n).yld i H x H'→B N ys x H'):=by
 refine ⟨fun i m ys H=>m=n - i∧i≤n∧Pv i ys H,⟨n,by simp,Nat.zero_le _,h0⟩,?_⟩
 rintro i m ys H ⟨rfl,hi,p⟩
 have hl:=hlen i ys H p
 by_cases hlt:i < n
 ·refine .inr ⟨hlt,by lia,Pv (i + 1),fun ys' H' p'=>⟨n - (i + 1),by lia,rfl,hlt,p'⟩,fun x H' y=>?_⟩
  obtain ⟨e,y⟩:=y
  subst e y
  exact hs i ys _ hlt p
 ·have e:i=n:=by lia
  subst e
  exact .inl ⟨Nat.le_refl _,hd ys H p⟩
theorem lp_tup {a:Addr} {xs:List V} {G:List V→Hp→Prop} {B:(List V→Hp→Prop)→List V→V→Hp→Prop} (hn:xs.length≤sizeLine) (Pv:Nat→List V→Hp→Prop) (h0:Pv 0 [] H) (hlen:∀ i ys H,Pv i ys H→ys.length≤i)
  (hl:∀ i ys H,i≤xs.length→Pv i ys H→SqT K H a xs) (hs:∀ i x ys H,xs[i]? =some x→Pv i ys H→B (Pv (i + 1)) ys x H) (hd:∀ ys H,Pv xs.length ys H→G ys H):
  ∃ W:Nat→Nat→List V→Hp→Prop,(∃ m,W 0 m [] H)∧∀ i m ys H,W i m ys H→((Itt K a).stop i H∧G ys H)∨((Itt K a).go i H∧ys.length < sizeLine∧
   ∃ N:List V→Hp→Prop,(∀ ys' H',N ys' H'→∃ m',m' < m∧W (i + 1) m' ys' H')∧∀ x H',(Itt K a).yld i H x H'→B N ys x H'):=by
 refine ⟨fun i m ys H=>m=xs.length - i∧i≤xs.length∧Pv i ys H,⟨xs.length,by simp,Nat.zero_le _,h0⟩,?_⟩
 rintro i m ys H ⟨rfl,hi,p⟩
 have hly:=hlen i ys H p
 have q:=hl i ys H hi p
 by_cases hlt:i < xs.length
 ·refine .inr ⟨⟨xs,xs[i],q,by simp [hlt]⟩,by lia,Pv (i + 1),fun ys' H' p'=>⟨xs.length - (i + 1),by lia,rfl,hlt,p'⟩,fun x H' y=>?_⟩
  obtain ⟨e,y⟩:=y
  subst e
  exact hs i x ys _ (y xs q) p
 ·have e:i=xs.length:=by lia
  subst e
  exact .inl ⟨⟨xs,q,Nat.le_refl _⟩,hd ys H p⟩
theorem lp_list {a:Addr} {xs:List V} {G:List V→Hp→Prop} {B:(List V→Hp→Prop)→List V→V→Hp→Prop} (hn:xs.length≤sizeLine) (Pv:Nat→List V→Hp→Prop) (h0:Pv 0 [] H) (hlen:∀ i ys H,Pv i ys H→ys.length≤i)
  (hl:∀ i ys H,i≤xs.length→Pv i ys H→SqL K H a xs) (hs:∀ i x ys H,xs[i]? =some x→Pv i ys H→B (Pv (i + 1)) ys x H) (hd:∀ ys H,Pv xs.length ys H→G ys H):
  ∃ W:Nat→Nat→List V→Hp→Prop,(∃ m,W 0 m [] H)∧∀ i m ys H,W i m ys H→((Itl K a).stop i H∧G ys H)∨((Itl K a).go i H∧ys.length < sizeLine∧
   ∃ N:List V→Hp→Prop,(∀ ys' H',N ys' H'→∃ m',m' < m∧W (i + 1) m' ys' H')∧∀ x H',(Itl K a).yld i H x H'→B N ys x H'):=by
 refine ⟨fun i m ys H=>m=xs.length - i∧i≤xs.length∧Pv i ys H,⟨xs.length,by simp,Nat.zero_le _,h0⟩,?_⟩
 rintro i m ys H ⟨rfl,hi,p⟩
 have hly:=hlen i ys H p
 have q:=hl i ys H hi p
 by_cases hlt:i < xs.length
 ·refine .inr ⟨⟨xs,xs[i],q,by simp [hlt]⟩,by lia,Pv (i + 1),fun ys' H' p'=>⟨xs.length - (i + 1),by lia,rfl,hlt,p'⟩,fun x H' y=>?_⟩
  obtain ⟨e,y⟩:=y
  subst e
  exact hs i x ys _ (y xs q) p
 ·have e:i=xs.length:=by lia
  subst e
  exact .inl ⟨⟨xs,q,Nat.le_refl _⟩,hd ys H p⟩
theorem fp_range {σ:St} {lo:Int} {n:Nat} {G:St→Hp→Prop} {B:(St→Hp→Prop)→V→St→Hp→Prop} (Pv:Nat→St→Hp→Prop) (h0:Pv 0 σ H) (hs:∀ i σ H,i < n→Pv i σ H→B (Pv (i + 1)) (.int (lo + i)) σ H) (hd:∀ σ H,Pv n σ H→G σ H):
  ∃ W:Nat→Nat→St→Hp→Prop,(∃ m,W 0 m σ H)∧∀ i m σ H,W i m σ H→((Itr lo n).stop i H∧G σ H)∨((Itr lo n).go i H∧
   ∃ N:St→Hp→Prop,(∀ σ' H',N σ' H'→∃ m',m' < m∧W (i + 1) m' σ' H')∧∀ x H',(Itr lo n).yld i H x H'→B N x σ H'):=by
 refine ⟨fun i m σ H=>m=n - i∧i≤n∧Pv i σ H,⟨n,by simp,Nat.zero_le _,h0⟩,?_⟩
 rintro i m σ H ⟨rfl,hi,p⟩
 by_cases hlt:i < n
 ·refine .inr ⟨hlt,Pv (i + 1),fun σ' H' p'=>⟨n - (i + 1),by lia,rfl,hlt,p'⟩,fun x H' y=>?_⟩
  obtain ⟨e,y⟩:=y
  subst e y
  exact hs i σ _ hlt p
 ·have e:i=n:=by lia
  subst e
  exact .inl ⟨Nat.le_refl _,hd σ H p⟩
theorem fp_tup {σ:St} {a:Addr} {xs:List V} {G:St→Hp→Prop} {B:(St→Hp→Prop)→V→St→Hp→Prop} (Pv:Nat→St→Hp→Prop) (h0:Pv 0 σ H) (hl:∀ i σ H,i≤xs.length→Pv i σ H→SqT K H a xs)
  (hs:∀ i x σ H,xs[i]? =some x→Pv i σ H→B (Pv (i + 1)) x σ H) (hd:∀ σ H,Pv xs.length σ H→G σ H):
  ∃ W:Nat→Nat→St→Hp→Prop,(∃ m,W 0 m σ H)∧∀ i m σ H,W i m σ H→((Itt K a).stop i H∧G σ H)∨((Itt K a).go i H∧
   ∃ N:St→Hp→Prop,(∀ σ' H',N σ' H'→∃ m',m' < m∧W (i + 1) m' σ' H')∧∀ x H',(Itt K a).yld i H x H'→B N x σ H'):=by
 refine ⟨fun i m σ H=>m=xs.length - i∧i≤xs.length∧Pv i σ H,⟨xs.length,by simp,Nat.zero_le _,h0⟩,?_⟩
 rintro i m σ H ⟨rfl,hi,p⟩
 have q:=hl i σ H hi p
 by_cases hlt:i < xs.length
 ·refine .inr ⟨⟨xs,xs[i],q,by simp [hlt]⟩,Pv (i + 1),fun σ' H' p'=>⟨xs.length - (i + 1),by lia,rfl,hlt,p'⟩,fun x H' y=>?_⟩
  obtain ⟨e,y⟩:=y
  subst e
  exact hs i x σ _ (y xs q) p
 ·have e:i=xs.length:=by lia
  subst e
  exact .inl ⟨⟨xs,q,Nat.le_refl _⟩,hd σ H p⟩
theorem fp_list {σ:St} {a:Addr} {xs:List V} {G:St→Hp→Prop} {B:(St→Hp→Prop)→V→St→Hp→Prop} (Pv:Nat→St→Hp→Prop) (h0:Pv 0 σ H) (hl:∀ i σ H,i≤xs.length→Pv i σ H→SqL K H a xs)
  (hs:∀ i x σ H,xs[i]? =some x→Pv i σ H→B (Pv (i + 1)) x σ H) (hd:∀ σ H,Pv xs.length σ H→G σ H):
  ∃ W:Nat→Nat→St→Hp→Prop,(∃ m,W 0 m σ H)∧∀ i m σ H,W i m σ H→((Itl K a).stop i H∧G σ H)∨((Itl K a).go i H∧
   ∃ N:St→Hp→Prop,(∀ σ' H',N σ' H'→∃ m',m' < m∧W (i + 1) m' σ' H')∧∀ x H',(Itl K a).yld i H x H'→B N x σ H'):=by
 refine ⟨fun i m σ H=>m=xs.length - i∧i≤xs.length∧Pv i σ H,⟨xs.length,by simp,Nat.zero_le _,h0⟩,?_⟩
 rintro i m σ H ⟨rfl,hi,p⟩
 have q:=hl i σ H hi p
 by_cases hlt:i < xs.length
 ·refine .inr ⟨⟨xs,xs[i],q,by simp [hlt]⟩,Pv (i + 1),fun σ' H' p'=>⟨xs.length - (i + 1),by lia,rfl,hlt,p'⟩,fun x H' y=>?_⟩
  obtain ⟨e,y⟩:=y
  subst e
  exact hs i x σ _ (y xs q) p
 ·have e:i=xs.length:=by lia
  subst e
  exact .inl ⟨⟨xs,q,Nat.le_refl _⟩,hd σ H p⟩
end
end L2
namespace L2
open PySem PySem.Spec PyProof.Rows
noncomputable def rEqNil (K:PySem.W.Frag):R2:=fun x y H Q=>∃ p q ns,x=.ref p∧y=.ref q∧SqL K H p (ns.map V.int)∧SqL K H q []∧Q (.bl (decide (ns=[]))) H
theorem op_eqNil {X:Cx} (hu:X.A.units < cLine):OpR X (compareOp .Eq) (rEqNil X.K):=by
 intro pins s σ H x y v u Q I rx ry h
 obtain ⟨p,q,ns,rfl,rfl,h1,h2,hq⟩:=h
 cases (show v=Value.ref p from rx)
 cases (show u=Value.ref q from ry)
 obtain ⟨its,r1,p1,_⟩:=I.list h1
 obtain ⟨its2,r2,p2,_⟩:=I.list h2
 have e2:its2=[]:=by cases r2;rfl
 subst e2
 have hl:=r1.length
 rw [List.length_map] at hl
 match ns,hl with
 | [],hl=>
  have e1:its=[]:=by
   have:its.length=0:=by simpa using hl.symm
   exact List.length_eq_zero_iff.mp this
  subst e1
  exact SeqAt.eq_listAt (e:=fun _=>true) p1.isList p2.isList rfl hu (fun j g _=>absurd g (Nat.not_lt_zero _)) ⟨.bl true,H,I,rfl,hq⟩
 | n::ns,hl=>
  refine SeqAt.eq_list_lengthsAt p1.isList p2.isList ?_ hu ⟨.bl false,H,I,rfl,hq⟩
  have:its.length=ns.length + 1:=by simpa using hl.symm
  simp [this]
theorem k_eqNil {X:Cx} (K:PySem.W.Frag) (hu:X.A.units < cLine) (h:X.K=K:=by rfl):OpR X (compareOp .Eq) (rEqNil K):=h▸op_eqNil hu
section
variable {σ:St} {H:Hp} {Q:VK} {K:PySem.W.Frag}
theorem rd_rng2 {ta:TA} {R:It→Hp→Prop} (h:ta σ H fun vs H1=>∃ i j:Int,vs=[.int i,.int j]∧(-(2 ^ 62)≤i∧i < 2 ^ 62∧-(2 ^ 62)≤j∧j < 2 ^ 62)∧R (Itr i (j - i).toNat) H1):iRng2 ta σ H R:=h
theorem rd_lenS {p:Addr} {xs:List V} (e:SqL K H p xs) (h:Q (.int xs.length) H):rLen K [.ref p] H Q:=⟨p,xs,rfl,.inl e,h⟩
theorem rd_ixS {p:Addr} {xs:List V} {i:Int} {v:V} (e:SqL K H p xs) (a:atI xs i=some v) (h:Q v H):rIxA K (.ref p) (.int i) H Q:=⟨p,xs,i,v,rfl,rfl,.inl e,a,h⟩
theorem rd_extend {l b:Addr} {xs zs:List V} (e:H l=some (.lst xs)) (e2:H b=some (.lst zs)) (hz:xs.length + zs.length≤sizeLine) (h:Q .non (upd H l (.lst (xs++zs)))):rExtend (.ref l) [.ref b] H Q:=⟨l,b,xs,zs,rfl,rfl,e,e2,hz,h⟩
end
noncomputable def Scr (K:PySem.W.Frag) (H:Hp) (a:Addr) (ns:List Int):Prop:=(∃ o,H a=some (.frz o (.lst (ns.map V.int))))∨
 ∃ (o:Obj) (its:Array Value) (n:Nat),K.lookup a=some o∧o.cls=.type "list"∧o.dict=none∧o.data=.seq its n∧its.size≤sizeLine∧Vals (ns.map V.int) its.toList
theorem Scr.sq {K:PySem.W.Frag} {H:Hp} {a:Addr} {ns:List Int} (h:Scr K H a ns):SqL K H a (ns.map V.int):=by
 rcases h with ⟨o,h⟩ | h
 ·exact .inl (.inr ⟨o,h⟩)
 ·exact .inr h
theorem Scr.of {K:PySem.W.Frag} {H:Hp} {a:Addr} {ns:List Int} (hO:Only H) (h:SqL K H a (ns.map V.int)):Scr K H a ns:=by
 rcases h with (h | ⟨o,h⟩) | h
 ·rcases hO a with g | ⟨o,xs,g⟩
  ·rw [g] at h;cases h
  ·rw [g] at h;cases h
 ·exact .inl ⟨o,h⟩
 ·exact .inr h
noncomputable def SameT (w:Addr) (H H':Hp):Prop:=∀ b u,H b=some u→b≠w→H' b=some u
theorem SameT.refl (w:Addr) (H:Hp):SameT w H H:=fun _ _ h _=>h
theorem SameT.trans {w:Addr} {H H1 H2:Hp} (a:SameT w H H1) (b:SameT w H1 H2):SameT w H H2:=fun c u h g=>b c u (a c u h g) g
theorem Same.t {w:Addr} {H H':Hp} (h:Same H H'):SameT w H H':=fun b u e _=>h b u e
theorem Scr.t {K:PySem.W.Frag} {H H':Hp} {w a:Addr} {ns:List Int} {ts:List V} (hw:H w=some (.lst ts)) (s:SameT w H H') (h:Scr K H a ns):Scr K H' a ns:=by
 rcases h with ⟨o,h⟩ | h
 ·exact .inl ⟨o,s _ _ h (ne_of h hw (by intro z;cases z))⟩
 ·exact .inr h
theorem Scr.same {K:PySem.W.Frag} {H H':Hp} {a:Addr} {ns:List Int} (s:Same H H') (h:Scr K H a ns):Scr K H' a ns:=by
 rcases h with ⟨o,h⟩ | h
 ·exact .inl ⟨o,s _ _ h⟩
 ·exact .inr h
end L2
namespace L2
open PySem PySem.Spec PyProof.Rows
noncomputable def rCatU:R2:=fun x y H Q=>∃ a b xs ys,x=.ref a∧y=.ref b∧H a=some (.tup xs)∧H b=some (.tup ys)∧xs.length + ys.length≤sizeLine∧∀ r H',Same H H'→H' r=some (.tup (xs++ys))→Q (.ref r) H'
theorem op_catU {X:Cx}:OpR X (binaryOp .Add) rCatU:=by
 intro pins s σ H x y v u Q I rx ry h
 obtain ⟨a,b,xs,ys,rfl,rfl,ha,hb,hz,q⟩:=h
 by_cases hx:xs=[]
 ·subst hx
  cases (show v=Value.ref a from rx)
  cases (show u=Value.ref b from ry)
  obtain ⟨its,r1,p1,_⟩:=I.tuple (SqT.of ha)
  obtain ⟨its2,r2,p2,_⟩:=I.tuple (SqT.of hb)
  obtain ⟨⟨cls,dd,data,sl⟩,ho,hc,n,hd⟩:=p1
  obtain ⟨⟨cls2,dd2,data2,sl2⟩,ho2,hc2,n2,hd2⟩:=p2
  simp only at hc hd hc2 hd2
  subst hc hd hc2 hd2
  have e0:its=[]:=r1.nil_iff.mpr rfl
  exact concat_meets ⟨_,ho,rfl⟩ ⟨_,ho2,rfl⟩ noFill_tuple_add seq_tuple_add PySem.F.slot_tuple_add PySem.F.entry_tuple_add (PySem.F.args_tuple_add_2 _ _)
   (tuple_addW0 a b its.toArray its2.toArray n n2 dd dd2 sl sl2 (by simp [e0])) ⟨ho,ho2,⟨.ref b,H,I,rfl,q b H (Same.refl H) hb⟩⟩
 ·refine op_catT pins s σ H _ _ v u Q I rx ry ⟨a,b,xs,ys,rfl,rfl,SqT.of ha,SqT.of hb,hx,hz,fun e=>?_,fun e p hp=>?_⟩
  ·subst e
   exact q a H (Same.refl H) (by rw [List.append_nil];exact ha)
  ·exact q p _ (fun b u e=>by rw [upd_ne (ne_of_none e hp)];exact e) upd_same
section
variable {σ:St} {H:Hp} {Q:VK} {D:Ends} {K:PySem.W.Frag}
theorem rd_ifE {t:TT} {ta tb:TE} (h:t σ H fun c H1=>if c=true then ta σ H1 Q else tb σ H1 Q):tIf t ta tb σ H Q:=h
theorem rd_catU {a b:Addr} {xs ys:List V} (ha:H a=some (.tup xs)) (hb:H b=some (.tup ys)) (hz:xs.length + ys.length≤sizeLine) (h:∀ r H',Same H H'→H' r=some (.tup (xs++ys))→Q (.ref r) H'):rCatU (.ref a) (.ref b) H Q:=
 ⟨a,b,xs,ys,rfl,rfl,ha,hb,hz,h⟩
theorem rd_cat {a b:Addr} {xs ys:List V} (ha:H a=some (.lst xs)) (hb:H b=some (.lst ys)) (hz:xs.length + ys.length≤sizeLine) (h:∀ p,H p=none→Q (.ref p) (upd H p (.lst (xs++ys)))):rCat (.ref a) (.ref b) H Q:=
 ⟨a,b,xs,ys,rfl,rfl,ha,hb,hz,h⟩
theorem rd_lstT {p:Addr} {ys:List V} (e:H p=some (.tup ys)) (h:∀ l,H l=none→Q (.ref l) (upd H l (.lst ys))):rLstOf K [.ref p] H Q:=⟨p,ys,rfl,.inr (SqT.of e),h⟩
end
end L2
namespace Nt
section
variable {n:Nat} {R:Nat→Nat→Prop}
noncomputable def Con (n:Nat) (R:Nat→Nat→Prop) (s:Int) (x:Nat→Int):Prop:=∀ i j,i < n→j < n→(x j - x i≥s↔R i j)
structure TP (n:Nat) (R:Nat→Nat→Prop) (s:Int) (x:Nat→Int) (N:Nat) (v:Nat→Nat) (k:Nat→Bool):Prop where
 lt:∀ t,t≤N→v t < n
 st:x (v 0)=0
 up:∀ t,t < N→k t=true→R (v t) (v (t + 1))∧x (v (t + 1))=x (v t) + s
 dn:∀ t,t < N→k t=false→¬R (v (t + 1)) (v t)∧x (v (t + 1))=x (v t) + 1 - s
noncomputable def D (k:Nat→Bool):Nat→Int
 | 0=>0
 | t + 1=>D k t + (if k t=true then 1 else -1)
theorem met (f:Nat→Int) (c:Int):∀ m:Nat,f 0 < c→c≤f m→(∀ j,f (j + 1)≤f j + 1)→∃ j,j≤m∧f j=c
 | 0,h1,h2,_=>by lia
 | m + 1,h1,h2,h3=>by
  by_cases h:c≤f m
  ·obtain ⟨j,a,b⟩:=met f c m h1 h h3
   exact ⟨j,by lia,b⟩
  ·have:=h3 m
   exact ⟨m + 1,Nat.le_refl _,by lia⟩
end
end Nt
namespace Nt
section
variable {n:Nat} {R:Nat→Nat→Prop}
end
end Nt
namespace L2
open PySem PySem.Spec PyProof.Rows
noncomputable def C2 (h:Heap) (e:Addr) (v:Value):Prop:=∃ oe vs,h.get? e=some oe∧oe.data=.fields vs∧vs[2]? =some v
theorem C2.of {h h':Heap} {e:Addr} {v:Value} (c:C2 h e v) (k:h'.get? e=h.get? e):C2 h' e v:=by
 obtain ⟨oe,vs,a,b,d⟩:=c
 exact ⟨oe,vs,k.trans a,b,d⟩
section
variable {M:Model} {A:Around} {E:Value→Shared→Prop} {s:Shared} {base:Heap} {l:List Env} {env:Env} {outer:List Env} {e L:Addr} {cls a0 fl:Value} {Q:Unit→Shared→Prop}
structure Moved (base:Heap) (l:List Env) (e:Addr) (cls a0 fl:Value) (h h':Heap):Prop where
 stays:base.StaysIn h'
 fun_:h'.FunFrames base l
 tr:h'.TracedAtW base e cls a0 fl
 up:h.UpToSlots h'
 c2:∀ v,C2 h e v→C2 h' e v
end
end L2
namespace L2
open PySem PySem.Spec PyProof.Rows
structure XEnd (P:Program) (w:World) (outer:List Env) (H:Hp) (s:Shared) (e C t:Addr) (H':Hp) (B:Heap) (s':Shared):Prop where
 os:s'.os=s.os
 bare:AllBare s'.gens
 un:Un (frs outer) [] H H' s.heap s'.heap
 cov:∀ b o,s.heap.get? b=some o→H b=none→b∉frs outer→B.get? b=some o
 thr:∀ b o,s.heap.get? b=some o→b∉frs outer→∃ o',B.get? b=some o'
 hok:HOk P w H' B
 fl:Heap.FlyingW B outer e (.ref C) (.ref t) s'.heap
section
variable {CX:CXT} {P:Program} {w:World} {K:PySem.W.Frag} {mg:Str→Option Value} {base:Heap} {N:List Str} {qual:Str} {scope:Scope} {f:Addr} {cd:Value} {A:Around} {outer:List Env} {s₀:Shared} {H₀:Hp} {E:XK}
 {pins:List (Addr×Obj)} {σ:St} {H:Hp} {s:Shared}
abbrev bmV:List Value:=[.type "ValueError",.type "Exception",.type "BaseException",.type "object"]
noncomputable def tRaise (E:XK) (C:Addr) (t:TA):TS:=fun _ σ H=>t σ H fun vs H1=>vs.length≤sizeLine∧E (.ref C) none H1
end
end L2
namespace L2
open PySem PySem.Spec PyProof.Rows
section
variable {P:Program} {w:World} {l:List Env} {H H':Hp} {s s':Shared} {e C t:Addr} {B h':Heap}
theorem XEnd.new (x:XEnd P w l H s e C t H' B s'):s.heap.get? e=none:=by
 cases q:s.heap.get? e with
 | none=>rfl
 | some o=>
  exfalso
  by_cases nb:e∈frs l
  ·obtain ⟨_,o3,e3,d3⟩:=x.fl.2.2.1.mem nb
   obtain ⟨oe,vs,he,_,hd,_⟩:=x.fl.first
   rw [e3] at he
   cases he
   exact d3 vs hd
  ·obtain ⟨o',e1⟩:=x.thr e o q nb
   rw [x.fl.2.1] at e1
   cases e1
theorem XEnd.free (x:XEnd P w l H s e C t H' B s'):H' e=none:=by
 cases q:H' e with
 | none=>rfl
 | some o=>
  obtain ⟨u,e1⟩:=(x.hok e o q).there
  rw [x.fl.2.1] at e1
  cases e1
end
section
variable {X:Cx} {pins:List (Addr×Obj)} {σ:St} {H H':Hp} {s s':Shared} {e C t:Addr} {B:Heap}
noncomputable abbrev Cx.pinned (X:Cx) (pn:List (Addr×Obj)) (E1:Value→Shared→Prop):Cx:={ X with pn:=pn,xe:=E1 }
theorem Inv.unpn1 {E1:Value→Shared→Prop} {pins':List (Addr×Obj)} (I:Inv (X.pinned (X.pn++pins) E1) pins' σ H s):Inv X pins σ H s:=
 ⟨⟨I.ok.mod,I.ok.kind,I.ok.glob,I.ok.blt,I.ok.above,I.ok.inj,I.ok.has,I.ok.cab,I.ok.hd,I.ok.frames,I.ok.stk,I.ok.exf,I.ok.bs,I.ok.bsz,I.ok.noex,I.ok.exfs,I.ok.funs,I.ok.frf⟩,I.os,I.bare,I.base,I.loc,I.cell,I.free,I.freeC,fun p hp=>I.pin p (List.mem_append_left _ hp),I.hok,I.len⟩
theorem SP.unpinned {E1:Value→Shared→Prop} {pins':List (Addr×Obj)} {D:Ends} {f:Flow} (h:SP (X.pinned (X.pn++pins) E1) pins' D f s'):SP X pins D f s':=by
 cases f with
 | next=>obtain ⟨σ',H',I,q⟩:=h;exact ⟨σ',H',I.unpn1,q⟩
 | brk=>obtain ⟨σ',H',I,q⟩:=h;exact ⟨σ',H',I.unpn1,q⟩
 | cont=>obtain ⟨σ',H',I,q⟩:=h;exact ⟨σ',H',I.unpn1,q⟩
 | ret u=>obtain ⟨v,σ',H',I,r,q⟩:=h;exact ⟨v,σ',H',I.unpn1,r,q⟩
end
end L2
namespace L2
open PySem PySem.Spec PyProof.Rows
structure ExcC (K:PySem.W.Frag) (C:Addr):Prop where
 exc:PySem.W.excIn K C bmV "ValueError.__new__"=true
 ga:PySem.W.findIn K (.ref C) "__getattribute__"=some (some (.builtin "BaseException.__getattribute__"))
 gn:PySem.W.findIn K (.ref C) "__getattr__"=some none
 gc:PySem.W.findIn K (.ref C) "__class__"=some (some (.builtin "object.__class__"))
 sb:PySem.W.subIn K (.ref C) (.type "BaseException")=some true
 so:PySem.W.subIn K (.ref C) (.type "object")=some true
 cl:∃ cd,PySem.W.clsIn K C=some cd
section
variable {prog:Program} {w:World} {A:Around} {E:Value→Shared→Prop} {h:Heap} {g:Array GenState} {d:Drawn} {t:Nat} {os:OsState} {a C:Addr} {o:Obj} {K:PySem.W.Frag}
end
end L2
namespace L2
open PySem PySem.Spec PyProof.Rows
section
variable {X:Cx}
end
structure RoomH (k:Nat) (A:Around):Prop where
 dp:A.depth + 3 * k + 5 < recursionLimit
 un:A.units + 16 * k + 200 < cLine
theorem RoomH.mono {j k:Nat} {A:Around} (r:RoomH k A) (h:j≤k):RoomH j A:=⟨by have:=r.dp;lia,by have:=r.un;lia⟩
theorem RoomH.deeper {k:Nat} {A:Around} (r:RoomH (k + 1) A) (env:Env):RoomH k (A.deeper env):=⟨by have:=r.dp;show A.depth + 1 + 3 * k + 5 < _;lia,by have:=r.un;show A.units + 3 + 16 * k + 200 < _;lia⟩
theorem RoomH.units {k:Nat} {A:Around} (r:RoomH k A):A.units + 64 < cLine:=by have:=r.un;lia
theorem RoomH.units0 {k:Nat} {A:Around} (r:RoomH k A):A.units < cLine:=by have:=r.un;lia
structure FnOkH (P:Program) (w:World) (K:PySem.W.Frag) (mg:Str→Option Value) (base:Heap) (k:Nat) (f:Addr) (fd:FuncData) (ps:List Str) (sp:Sp):Prop where
 len:∀ vs H Q E,sp vs H Q E→vs.length=ps.length
 run:∀ (A:Around) (outer:List Env) (s:Shared) (H:Hp) (args:Args) (us:List Value) (vs:List V) (Q:VK),RoomH k A→Env0 P w K mg base A outer s H→BindsTo s fd args (ps.zip us)→Vals vs us→sp vs H Q E0→
  codeAny (model P w) A (.call (.ref f) args) (CR CX0 outer P w H s Q E0) s
section
variable {P:Program} {w:World} {K:PySem.W.Frag} {mg:Str→Option Value} {base:Heap}
end
section
variable {X:Cx} {k:Nat} {f:Addr} {fd:FuncData} {ps:List Str} {sp:Sp} {x:Str} {p pos:Pos} {e:Expr} {es:List Expr} {t:TA}
end
section
variable {σ:St} {H:Hp} {Q:VK} {D:Ends} {K:PySem.W.Frag}
theorem rd_raise {E:XK} {C:Addr} {t:TA} (h:t σ H fun vs H1=>vs.length≤sizeLine∧E (.ref C) none H1):tRaise E C t D σ H:=h
end
end L2
namespace L2
open PySem PySem.Spec PyProof.Rows
noncomputable def Fresh (H H':Hp) (v:V) (d:PyData):Prop:=∀ H2:Hp,(∀ a u,H a=none→H' a=some u→H2 a=some u)→Is H2 v d
inductive FreshAll (H H':Hp):List V→List PyData→Prop
 | nil:FreshAll H H' [] []
 | cons {v:V} {d:PyData} {vs:List V} {ds:List PyData}:Fresh H H' v d→FreshAll H H' vs ds→FreshAll H H' (v::vs) (d::ds)
theorem Fresh.mono {H H1 H2 H3:Hp} {v:V} {d:PyData} (s1:Same H H1) (s2:Same H2 H3) (h:Fresh H1 H2 v d):Fresh H H3 v d:=fun K k=>h K fun a u n e=>k a u (by
 cases q:H a with
 | none=>rfl
 | some w=>rw [s1 _ _ q] at n;cases n) (s2 _ _ e)
theorem FreshAll.mono {H H1 H2 H3:Hp} (s1:Same H H1) (s2:Same H2 H3):∀ {vs:List V} {ds:List PyData},FreshAll H1 H2 vs ds→FreshAll H H3 vs ds
 | _,_,.nil=>.nil
 | _,_,.cons h t=>.cons (h.mono s1 s2) (t.mono s1 s2)
theorem FreshAll.length {H H':Hp}:∀ {vs:List V} {ds:List PyData},FreshAll H H' vs ds→vs.length=ds.length
 | _,_,.nil=>rfl
 | _,_,.cons _ t=>by rw [List.length_cons,List.length_cons,t.length]
theorem FreshAll.is {H H' H2:Hp} (k:∀ a u,H a=none→H' a=some u→H2 a=some u):∀ {vs:List V} {ds:List PyData},FreshAll H H' vs ds→IsAll H2 vs ds
 | _,_,.nil=>.nil
 | _,_,.cons h t=>.cons (h H2 k) (t.is k)
theorem FreshAll.mem {H H':Hp}:∀ {vs:List V} {ds:List PyData} {v:V},FreshAll H H' vs ds→v∈vs→∃ d∈ds,Fresh H H' v d
 | _,_,_,.nil,h=>nomatch h
 | _,_,_,.cons h t,hv=>by
  rcases List.mem_cons.mp hv with rfl | hv
  ·exact ⟨_,List.mem_cons_self,h⟩
  ·obtain ⟨d,hd,f⟩:=t.mem hv
   exact ⟨d,List.mem_cons_of_mem _ hd,f⟩
section
variable {X:Cx} {e:Expr} {es:List Expr} {pos:Pos} {d:PyData} {ds:List PyData}
theorem PE.imp {t t':TE} (h:PE X e t) (k:∀ σ H Q,t' σ H Q→t σ H Q):PE X e t':=fun pins s σ H Q I q=>h pins s σ H Q I (k σ H Q q)
theorem PA.imp {t t':TA} (h:PA X es t) (k:∀ σ H Q,t' σ H Q→t σ H Q):PA X es t':=fun pos pins s σ H Q I q=>h pos pins s σ H Q I (k σ H Q q)
end
inductive CallL (X:Cx) (E:XK):List (Addr×Sp)→Prop
 | nil:CallL X E []
 | cons {CX:CXT} {k:Nat} {f:Addr} {fd:FuncData} {ps:List Str} {sp:Sp} {l:List (Addr×Sp)} (F:FnOk X.prog X.w X.K X.mg X.base CX k f fd ps sp) (hr:Room k X.A) (hk:PySem.W.keepIn X.K (.ref f)=true) (hb:Binds X.K fd ps []) (hx:Passes CX X E) (r:CallL X E l):CallL X E ((f,sp)::l)
theorem CallL.get {X:Cx} {E:XK}:∀ {l:List (Addr×Sp)} {i:Nat} {f:Addr} {sp:Sp},CallL X E l→l[i]? =some (f,sp)→∃ (CX:CXT) (k:Nat) (fd:FuncData) (ps:List Str),FnOk X.prog X.w X.K X.mg X.base CX k f fd ps sp∧Room k X.A∧PySem.W.keepIn X.K (.ref f)=true∧Binds X.K fd ps []∧Passes CX X E
 | _,_,_,_,.nil,e=>by simp at e
 | _,0,_,_,.cons F hr hk hb hx r,e=>by simp at e;obtain ⟨rfl,rfl⟩:=e;exact ⟨_,_,_,_,F,hr,hk,hb,hx⟩
 | _,i + 1,_,_,.cons F hr hk hb hx r,e=>r.get (i:=i) (by simpa using e)
end L2
namespace L2
open PySem PySem.Spec PyProof.Rows
section
variable {prog:Program} {w:World} {A:Around} {E:Value→Shared→Prop} {s:Shared}
end
section
variable {X:Cx}
noncomputable def upTo (n:Nat):List Int:=(List.range n).map fun (i:Nat)=>(i:Int)
theorem upTo_len (n:Nat):(upTo n).length=n:=by unfold upTo;simp
end
end L2
namespace L2
open PySem PySem.Spec PyProof.Rows
open AutoSeq1 (wpAny_loadPart')
section
variable {prog:Program} {w:World} {A:Around} {E:Value→Shared→Prop} {s:Shared}
end
section
variable {X:Cx}
end
section
variable {σ:St} {H:Hp} {Q:VK} {K:PySem.W.Frag}
end
end L2
namespace L2
open PySem PySem.Spec PyProof.Rows
section
variable {K:PySem.W.Frag} {σ:St} {H:Hp} {Q:VK}
theorem FreshAll.append {H H':Hp}:∀ {vs:List V} {ds:List PyData} {ws:List V} {es:List PyData},FreshAll H H' vs ds→FreshAll H H' ws es→FreshAll H H' (vs++ws) (ds++es)
 | _,_,_,_,.nil,h=>h
 | _,_,_,_,.cons a t,h=>.cons a (t.append h)
end
inductive Lit:List Expr→List PyData→Prop
 | nil:Lit [] []
 | int {i:Int} {j p es ds}:Lit es ds→Lit (.Constant (.int i) j p::es) (.int i::ds)
 | bl {b:Bool} {j p es ds}:Lit es ds→Lit (.Constant (.bool b) j p::es) (.bool b::ds)
 | non {j p es ds}:Lit es ds→Lit (.Constant .none j p::es) (.none::ds)
 | str {x:Str} {j p es ds}:Lit es ds→Lit (.Constant (.str x) j p::es) (.str x::ds)
 | neg {i:Int} {j p p2 es ds}:Lit es ds→Lit (.UnaryOp .USub (.Constant (.int i) j p2) p::es) (.int (-i)::ds)
 | tup {es' ds' x p es ds}:Lit es' ds'→ds'.length≤100→Lit es ds→Lit (.Tuple es' x p::es) (.tuple ds'::ds)
 | lst {es' ds' p es ds}:Lit es' ds'→ds'.length≤100→Lit es ds→Lit (.List es' p::es) (.list ds'::ds)
end L2
namespace L2
open PySem PySem.Spec PyProof.Rows
section
variable {P:Program} {w:World} {A:Around} {E:Value→Shared→Prop}
end
section
variable {X:Cx}
end
section
variable {K:PySem.W.Frag} {σ:St} {H:Hp}
end
end L2
namespace L2
open PySem PySem.Spec PyProof.Rows
section
variable {P:Program} {w:World} {A:Around} {E:Value→Shared→Prop} {s:Shared}
theorem min_tup {l:Addr} {us:List Value} {ns:List Int} {Q:Value→Shared→Prop} (hh:A.handled=none) (ht:s.heap.IsTuple l us.toArray) (hi:IntsAre us ns) (ne:0 < ns.length)
  (q:∀ g M (t:Tok) tk,(∀ b o,s.heap.get? b=some o→g.get? b=some o)→M∈ns→(∀ a∈ns,M≤a)→Q (.int M t) { s with heap:=g,toks:=tk }):wpAny (model P w) A (call (.builtin "min") [.ref l]) Q E s:=by
 obtain ⟨zs,e⟩:=hi.allInts.items
 have en:ns=zs.toList.map (·.1):=by rw [←hi.numsOf,←nums_intItems,←e]
 have zz:0 < zs.size:=by rw [en,List.length_map,Array.length_toList] at ne;exact ne
 rw [e] at ht
 have lt:l < s.heap.objs.size:=by obtain ⟨_,eo,_⟩:=ht;exact Heap.lt_size eo
 refine call_min_walk (wpAny_pyIter_tuple ht ?_)
 refine ⟨_,_,_,_,_,_,_,rfl,Walks.tuple (A:=A.in1) hh _ l (Nat.ne_of_lt lt) (intItems zs),⟨⟨_,Heap.get?_push_size _ rfl,rfl,rfl⟩,ht.push _⟩,fun b hb=>?_,by simpa [intItems] using zz,CmpOf.ints_lt (numAt zs) (fun _ _=>intItems_at),fun v g tk hP hk=>?_⟩
 ·show b < (s.heap.push _).objs.size
  rw [Heap.size_push]
  simp only [List.mem_cons,List.not_mem_nil,or_false] at hb
  rcases hb with rfl | rfl
  ·exact Nat.lt_succ_self _
  ·exact Nat.lt_succ_of_lt lt
 ·obtain ⟨t,rfl⟩:=intItems_at hP
  obtain ⟨k1,k2⟩:=argBest_lt (numAt zs) (zs.size - 1)
  have e2:(intItems zs).size=zs.size:=by simp [intItems]
  rw [e2]
  refine q g _ t tk (fun b o eb=>hk b o (fun hm=>?_) (Heap.get?_push_of_some _ eb)) ?_ fun a ha=>?_
  ·rcases List.mem_singleton.mp hm with z
   exact absurd (z▸Heap.lt_size eb) (Nat.lt_irrefl _)
  ·rw [en,numAt_eq]
   exact getD_mem (by rw [List.length_map,Array.length_toList];lia)
  ·rw [en] at ha
   obtain ⟨j,hj,rfl⟩:=mem_getD ha
   rw [List.length_map,Array.length_toList] at hj
   rw [←numAt_eq]
   exact k2 j (by lia)
end
section
variable {X:Cx}
noncomputable def rMinT (K:PySem.W.Frag):List V→Hp→VK→Prop:=fun xs H Q=>∃ (p:Addr) (ns:List Int),xs=[.ref p]∧SqT K H p (ns.map V.int)∧0 < ns.length∧∀ M,M∈ns→(∀ a∈ns,M≤a)→Q (.int M) H
theorem call_minT (hc:X.calm=true):CallR X (.builtin "min") (rMinT X.K):=by
 intro pins s σ H xs us Q I r h
 obtain ⟨p,ns,rfl,hq,ne,q⟩:=h
 obtain ⟨u,rfl,rx⟩:=Vals.one r
 cases (show u=Value.ref p from rx)
 obtain ⟨its,rv,pl,hz⟩:=I.tuple hq
 exact min_tup (I.ok.hd hc) (show s.heap.IsTuple p its.toArray from pl) (intsAre_of rv) ne fun g M t tk hk hM hA=>⟨.int M,H,I.kept (t':=tk) hk,⟨t,rfl⟩,q M hM hA⟩
theorem k_minT (K:PySem.W.Frag) (hc:X.calm=true:=by rfl) (h:X.K=K:=by rfl):CallR X (.builtin "min") (rMinT K):=h▸call_minT hc
end
section
variable {K:PySem.W.Frag} {σ:St} {H:Hp} {Q:VK}
theorem rd_minT {p:Addr} {ns:List Int} (e:H p=some (.tup (ns.map V.int))) (ne:0 < ns.length) (h:∀ M,M∈ns→(∀ a∈ns,M≤a)→Q (.int M) H):rMinT K [.ref p] H Q:=⟨p,ns,rfl,SqT.of e,ne,h⟩
end
end L2
namespace L2
open PySem PyProof.Rows
noncomputable def RcLt (A:Around) (s:Shared) (u v:Value) (r:Bool):Prop:=∀ (prog:Program) (w:World) (E Q:Value→Shared→Prop),Q (.bool r) s→wpAny (model prog w) A (richCompare .Lt u v) Q E s
inductive LtAt (A:Around) (s:Shared):List Value→List Value→Bool→Prop
 | nn:LtAt A s [] [] false
 | nc {v vs}:LtAt A s [] (v::vs) true
 | cn {u us}:LtAt A s (u::us) [] false
 | eq {u v us vs r}:SeqAt.EqAt A s u v true→LtAt A s us vs r→LtAt A s (u::us) (v::vs) r
 | ne {u v us vs r}:SeqAt.EqAt A s u v false→RcLt A s u v r→LtAt A s (u::us) (v::vs) r
section
open PySem.SeqAt
open PySem.AutoSeq1 (wpAny_loadPart')
open PySem.MeetsSeq PySem.MeetsSeq2 PySem.MeetsSeq3
theorem tuple_lt_gen (l b:Addr) (items items2:Array Value) (n n2:Nat) (dd dd2:Option Addr) (sl sl2:Array (Option Value)) (r:Bool):
  Meets (Builtin.«tuple.__lt__» ⟨[.ref l,.ref b],[]⟩)
   (fun A R s=>s.heap.get? l=some { cls:=.type "tuple",dict:=dd,data:=.seq items n,slots:=sl }∧s.heap.get? b=some { cls:=.type "tuple",dict:=dd2,data:=.seq items2 n2,slots:=sl2 }∧
    LtAt A.in1 s items.toList items2.toList r∧R (.ok (.ret (.bool r))) s):=
 .of_wp fun prog w A R s h=>by
  obtain ⟨hp,g,d,tk,os⟩:=s;obtain ⟨hl,hb,hlt,h⟩:=h
  have f2:=AutoSeq1.sub_tuple_tuple
  wp_walk using wpAny_loadPart' hl,wpAny_loadPart' hb,wpAny_forIn_list _ (fun rest b s'=>b.1=none∧s'=⟨hp,g,d,tk,os⟩∧∃ (vs ws:List Value),rest=vs.zip ws∧
   LtAt A.in1 ⟨hp,g,d,tk,os⟩ vs ws r∧vs.length + items2.size=ws.length + items.size) _
  case turn=>
   rintro ⟨y,x⟩ rest b s' ⟨hb',rfl,vs,ws,hz,hlt',hlen⟩
   cases hlt' with
   | nn=>cases hz
   | nc=>rw [List.zip_nil_left] at hz;cases hz
   | cn=>rw [List.zip_nil_right] at hz;cases hz
   | eq he hr=>
    rw [List.zip_cons_cons] at hz
    injection hz with hyx hrest
    injection hyx with hy hx
    subst hy hx
    simp only [List.length_cons] at hlen
    refine wpAny_bind (he prog w _ _ ?_)
    wp_walk
    exact ⟨rfl,rfl,_,_,hrest,hr,by lia⟩
   | ne he hri0=>
    rw [List.zip_cons_cons] at hz
    injection hz with hyx hrest
    injection hyx with hy hx
    subst hy hx
    refine wpAny_bind (he prog w _ _ ?_)
    have hri:=hri0 prog w
    wp_walk using hri
    exact ⟨_,rfl,by simpa using h⟩
  case fin=>
   rintro ⟨b1,b2⟩ s' ⟨hb',rfl,vs,ws,hz,hlt',hlen⟩
   simp only at hb'
   subst hb'
   have hv:r=decide (items.size < items2.size):=by
    cases hlt' with
    | nn=>
     simp only [List.length_nil] at hlen
     exact (decide_eq_false (by lia)).symm
    | nc=>
     simp only [List.length_nil,List.length_cons] at hlen
     exact (decide_eq_true (by lia)).symm
    | cn=>
     simp only [List.length_nil,List.length_cons] at hlen
     exact (decide_eq_false (by lia)).symm
    | eq _ _=>rw [List.zip_cons_cons] at hz;cases hz
    | ne _ _=>rw [List.zip_cons_cons] at hz;cases hz
   rw [hv] at h
   wp_walk
   exact ⟨_,rfl,by simpa [Builtin.Tuple.tupleCompareSizes] using h⟩
  case h=>
   exact ⟨rfl,rfl,items.toList,items2.toList,rfl,hlt,by simp;lia⟩
end
theorem lt_tup {A:Around} {s:Shared} {l b:Addr} {us vs:List Value} {r:Bool} (hl:IsTup s.heap l us.toArray) (hb:IsTup s.heap b vs.toArray) (hu:A.units < cLine) (h:LtAt A.in1 s us vs r):RcLt A s (.ref l) (.ref b) r:=by
 intro prog w E Q q
 obtain ⟨⟨cls,dd,data,sl⟩,ho,hc,n,hd⟩:=id hl
 obtain ⟨⟨cls2,dd2,data2,sl2⟩,ho2,hc2,n2,hd2⟩:=id hb
 simp only at hc hd hc2 hd2
 subst hc hd hc2 hd2
 exact richCompare_meets_room (op:=.Lt) ⟨_,ho,rfl⟩ ⟨_,ho2,rfl⟩ PySem.F.slot_tuple_lt PySem.F.entry_tuple_lt (PySem.F.args_tuple_lt_2 _ _) (tuple_lt_gen l b us.toArray vs.toArray n n2 dd dd2 sl sl2 r)
  ⟨ho,ho2,by simpa using h,show Value.bool r≠Value.notImplemented∧Q (.bool r) s from ⟨(fun x=>nomatch x),q⟩⟩ hu
theorem lt_ints {A:Around} {s:Shared} {a c:Int} {t u:Tok}:RcLt A s (.int a t) (.int c u) (decide (a < c)):=fun prog w E Q h=>HT.rcLt_int A s a t c u prog w E Q h
end L2
namespace L2
open PySem PySem.Spec PyProof.Rows
noncomputable abbrev Cx.in1 (X:Cx):Cx:={ X with A:=X.A.in1 }
section
variable {X:Cx} {pins:List (Addr×Obj)} {σ:St} {H:Hp} {s:Shared}
theorem Cx.Ok.in1 (ok:X.Ok):X.in1.Ok:=⟨ok.mod,ok.kind,ok.glob,ok.blt,ok.above,ok.inj,ok.has,ok.cab,ok.hd,ok.frames,ok.stk,ok.exf,ok.bs,ok.bsz,ok.noex,ok.exfs,ok.funs,ok.frf⟩
theorem Cx.Ok.out1 (ok:X.in1.Ok):X.Ok:=⟨ok.mod,ok.kind,ok.glob,ok.blt,ok.above,ok.inj,ok.has,ok.cab,ok.hd,ok.frames,ok.stk,ok.exf,ok.bs,ok.bsz,ok.noex,ok.exfs,ok.funs,ok.frf⟩
theorem Inv.in1 (I:Inv X pins σ H s):Inv X.in1 pins σ H s:=⟨I.ok.in1,I.os,I.bare,I.base,I.loc,I.cell,I.free,I.freeC,I.pin,I.hok,I.len⟩
theorem Inv.out1 (I:Inv X.in1 pins σ H s):Inv X pins σ H s:=⟨I.ok.out1,I.os,I.bare,I.base,I.loc,I.cell,I.free,I.freeC,I.pin,I.hok,I.len⟩
end
noncomputable abbrev lamEnv (X:Cx) (qual:Str) (sc:Scope) (L q:Addr) (cd:Value):Env:=PySem.W.envX qual sc L q cd (closL X.env sc.names [])
noncomputable def lam (X:Cx) (qual:Str) (sc:Scope) (M:List Str) (q:Addr) (cd:Value) (s:Shared) (H:Hp):Cx:=
 { X with A:=X.A.deeper (lamEnv X qual sc s.heap.objs.size q cd),N:=M,s₀:=s,H₀:=H,env:=lamEnv X qual sc s.heap.objs.size q cd,outer:=X.stack,stack:=lamEnv X qual sc s.heap.objs.size q cd::X.stack,ex:=[],fn:=fun _=>false,pn:=[],calm:=true,xe:=fun _ _=>False }
section
variable {X:Cx} {pins:List (Addr×Obj)} {σ:St} {H:Hp} {s:Shared} {qual:Str} {sc:Scope} {M:List Str} {q:Addr} {cd:Value}
theorem lam_ok (I:Inv X pins σ H s) (hd:X.A.handled=none) (fr:FrOk X.env sc.names) (hk:sc.kind=.function):(lam X qual sc M q cd s H).Ok where
 mod:=I.ok.mod
 kind:=hk
 glob:=rfl
 blt:=rfl
 above:=Nat.le_refl _
 inj:=fun x y c e1 e2=>I.ok.inj x y c (closL_sub (fun _ _ z=>by cases z) x c e1) (closL_sub (fun _ _ z=>by cases z) y c e2)
 has:=fun x h=>by
  have hm:(x,NameKind.free)∈sc.names:=by
   rcases h with h | h
   ·exact absurd rfl (fr.nocell _ (lookup_mem h))
   ·exact lookup_mem h
  exact closL_has (.inr ⟨hm,I.ok.has x (fr.free hm)⟩)
 cab:=fun x c h _=>by cases h
 hd:=fun _=>hd
 frames:=Around.frames_deeper I.ok.frames
 stk:=.inr ⟨rfl,rfl⟩
 exf:=fun b hb=>absurd (show b∈([]:List Addr) from hb) (by simp)
 bs:=I.bs
 bsz:=Nat.le_trans I.ok.bsz I.sz
 noex:=fun b o e hb=>absurd (show b∈([]:List Addr) from hb) (by simp)
 exfs:=fun b hb=>absurd (show b∈([]:List Addr) from hb) (by simp)
 funs:=I.stack
 frf:=I.stkFree
theorem lam_in {h₁:Heap} {t:Nat} {m:Str→Option Value} {fm:List (Option Nat)} {y:Str} {v:V} {u:Value} (I:Inv X pins σ H s) (hd:X.A.handled=none) (fr:FrOk X.env sc.names) (hk:sc.kind=.function)
  (hfm:FmOk X.N sc M fm) (hM:M[0]? =some y) (hy:sc.names.lookup y=some .local) (k:∀ b o,s.heap.get? b=some o→h₁.get? b=some o) (hn:h₁.Ns s.heap.objs.size m) (hm:m y=some u) (r:RelV v u):
  Inv (lam X qual sc M q cd s H) [] ((fmSt fm σ).set 0 (some v)) H { s with heap:=h₁,toks:=t } where
 ok:=lam_ok I hd fr hk
 os:=rfl
 bare:=I.bare
 base:=Un.kept k
 loc:=⟨m,hn,fun i x v' e1 e2 e3=>by
  cases i with
  | zero=>
   have e1':M[0]? =some x:=e1
   rw [hM] at e1'
   cases e1'
   have hl:0 < (fmSt fm σ).length:=by
    rw [show (fmSt fm σ).length=fm.length by simp [fmSt],hfm.len]
    exact (List.getElem?_eq_some_iff.mp hM).1
   rw [List.getElem?_set_self hl] at e2
   cases e2
   exact ⟨u,r,.inl ⟨hy,hm⟩⟩
  | succ i=>
   rw [List.getElem?_set_ne (by lia)] at e2
   obtain ⟨j,a,b,c⟩:=hfm.get e1 e2
   obtain ⟨m',hn',hl'⟩:=I.loc
   have hmm:=lookup_mem b
   have hk':=fr.free hmm
   have vis:Vis X.env.scope x:=by
    rcases hk' with z | z
    ·exact .inr (.inl z)
    ·exact .inr (.inr z)
   obtain ⟨u',r',l⟩:=hl' j x v' a c vis
   refine ⟨u',r',.inr ⟨.inr b,?_⟩⟩
   rcases l with ⟨z,_⟩ | ⟨_,cc,hcc,hcell⟩
   ·rcases hk' with y | y <;> (rw [z] at y;cases y)
   ·obtain ⟨c2,e2⟩:=closL_has (env:=X.env) (ns:=sc.names) (cs:=[]) (x:=x) (.inr ⟨hmm,cc,hcc⟩)
    have e3:=closL_sub (fun _ _ z=>by cases z) x c2 e2
    rw [hcc] at e3
    cases e3
    refine ⟨cc,e2,?_⟩
    obtain ⟨o,ho,hd⟩:=hcell
    exact ⟨o,k _ _ ho,hd⟩⟩
 cell:=fun x c e=>by
  obtain ⟨v,o,ho,hd⟩:=I.cell x c (closL_sub (fun _ _ z=>by cases z) x c e)
  exact ⟨v,o,k _ _ ho,hd⟩
 free:=I.hok.fresh (Nat.le_refl _)
 freeC:=fun x c e=>I.freeC x c (closL_sub (fun _ _ z=>by cases z) x c e)
 pin:=fun p hp'=>absurd (show p∈([]:List (Addr×Obj)) from hp') (by simp)
 hok:=I.hok.kept k
 len:=by simp [fmSt,hfm.len,lam]
theorem lam_call {fm:List (Option Nat)} {y:Str} {v:V} {u:Value} {nm:Str} {params:Arguments} {body:Expr} {pm ct:Value} {te:TE} {Q:VK} (I:Inv X pins σ H s) (hd:X.A.handled=none) (hroom:X.A.depth < recursionLimit) (fr:FrOk X.env sc.names) (hk:sc.kind=.function)
  (hco:sc.isCoroutine=false) (hgen:sc.isGenerator=false) (hfm:FmOk X.N sc M fm) (hM:M[0]? =some y) (hy:sc.names.lookup y=some .local)
  (hq:s.heap.get? q=some { cls:=.type "function",data:=.func (PySem.W.kla_fn nm qual params body sc (closL X.env sc.names []) pm cd ct) }) (hcd:s.heap.CodeRec cd qual)
  (hb:∀ u,bindArgs (PySem.W.kla_fn nm qual params body sc (closL X.env sc.names []) pm cd ct) ⟨[u],[]⟩=pure [(y,u)]) (B:PE (lam X qual sc M q cd s H) body te) (r:RelV v u) (h:te ((fmSt fm σ).set 0 (some v)) H Q):
  wpAny (model X.prog X.w) X.A (call (.ref q) [u]) (EP X pins σ Q) (fun _ _=>False) s:=by
 refine wpAny_call (PySem.W.kla_callFunE hroom hq rfl hco hgen rfl hcd ?_)
 rw [hb u]
 refine wpAny_pure (wpAny_newFunctionEnv fr.nocell (by intro z hz;rcases List.mem_singleton.mp hz with rfl;exact hy) (fun h₁ hns hsb=>?_) hk)
 dsimp only at hns hsb ⊢
 have keep:∀ b o,s.heap.get? b=some o→h₁.get? b=some o:=fun b o e=>hsb.extBut b o (Nat.ne_of_lt (Heap.lt_size e)) (Heap.get?_push_of_some _ e)
 have J:Inv (lam X qual sc M q cd s H) [] ((fmSt fm σ).set 0 (some v)) H { s with heap:=h₁,toks:=s.toks + [(y,u)].length }:=lam_in I hd fr hk hfm hM hy keep hns (by simp) r
 refine ⟨J.nolimit,PySem.W.kla_codeExpr ?_⟩
 refine wpAny_mono (B [] _ _ H Q J h) (fun u' s' ⟨v',H',J',r',q'⟩=>?_) fun e s' z=>(show False from z).elim
 exact ⟨v',H',I.call' J'.os J'.base J'.hok J'.bare (ch:=[]) (fun b z=>absurd z (by simp)),r',q'⟩
end
end L2
namespace L2
open PySem PySem.Spec PyProof.Rows
noncomputable def codeAtH (c:Addr) (qual:Str):Heap→Prop:=fun h=>h.CodeRec (.ref c) qual
noncomputable abbrev tab3 (pos:Pos) (c:Addr):Array Value:=#[rawInt pos.line,rawInt pos.col,.ref c]
noncomputable def TabC (H:Hp) (P:Addr) (qual:Str) (pos:Pos) (c:Addr):Prop:=H P=some (.tbl (tab3 pos c))∧H c=some (.ext (codeAtH c qual))
noncomputable def TabIn (H:Hp) (P:Addr) (qual:Str) (pos:Pos):Prop:=H P=some (.tbl #[])∨∃ c,TabC H P qual pos c
structure TabB (base:Heap) (mg:Str→Option Value) (c P:Addr):Prop where
 hd:PySem.W.CodeHd base c P
 bl:base.BuiltinsAt mg P
theorem among3 (pos:Pos) (c:Addr):codeAmong pos (tab3 pos c).toList=some (.ref c):=by
 simp [codeAmong,rawInt]
theorem triples3 (pos:Pos) (c:Addr):TriplesOk (tab3 pos c).toList:=by simp [TriplesOk,rawInt]
section
variable {X:Cx} {pins:List (Addr×Obj)} {σ:St} {H:Hp} {s:Shared}
theorem code_keep {h h':Heap} {c:Addr} {qual:Str} (x:h.CodeRec (.ref c) qual) (k:∀ o,h.get? c=some o→h'.get? c=some o):h'.CodeRec (.ref c) qual:=by
 obtain ⟨c2,oc,vs,t,e,e1,r⟩:=x
 cases e
 exact ⟨c,oc,vs,t,rfl,k _ e1,r⟩
theorem code_ok {P:Program} {w:World} {H:Hp} {h:Heap} {c:Addr} {qual:Str} (x:h.CodeRec (.ref c) qual):ObjOk P w H h c (.ext (codeAtH c qual)):=by
 refine ⟨x,?_,fun h1 h2 p k=>code_keep p k⟩
 obtain ⟨c2,oc,vs,t,e,e1,r⟩:=x
 cases e
 exact ⟨oc,e1⟩
theorem Inv.codeRec (I:Inv X pins σ H s) {c:Addr} {qual:Str} (h:H c=some (.ext (codeAtH c qual))):s.heap.CodeRec (.ref c) qual:=(I.hok c _ h).1
theorem Inv.pinNew {H0:Hp} (I:Inv X pins σ H0 s) {q:Addr} {o:Obj} {h':Heap} {t':Nat} (I':Inv X pins σ H { s with heap:=h',toks:=t' }) (hq:h'.get? q=some o) (hs:s.heap.objs.size≤q) (hn:H q=none) (hd:∀ v,o.data≠.cell v):Inv X ((q,o)::pins) σ H { s with heap:=h',toks:=t' }:=
 ⟨I'.ok,I'.os,I'.bare,I'.base,I'.loc,I'.cell,I'.free,I'.freeC,fun p hp=>by
  rcases List.mem_append.mp hp with z | z
  ·exact I'.pin p (List.mem_append_left _ z)
  ·rcases List.mem_cons.mp z with rfl | z
   ·exact ⟨hq,hn,Nat.ne_of_gt (Nat.lt_of_lt_of_le I.lt hs),I.nofs hs,hd⟩
   ·exact I'.pin p (List.mem_append_right _ z),I'.hok,I'.len⟩
theorem defaults0 {params:Arguments} (h1:params.defaults=[]) (h2:params.kw_defaults=[]) (env:Env):defaultsOf params env=([],[]):=by
 rw [defaultsOf_eq,h1,h2]
 rfl
theorem lam_new {sc:Scope} {params:Arguments} {body:Expr} {pos:Pos} {c P:Addr} {E:Value→Shared→Prop} {R:Value→Shared→Prop} (I:Inv X pins σ H s) (fr:FrOk X.env sc.names) (B:TabB X.base X.mg c P) (hcode:X.env.code=.ref c) (hd1:params.defaults=[]) (hd2:params.kw_defaults=[])
  (tb:TabIn H P (X.env.qual++"<lambda>") pos)
  (h:∀ (q c':Addr) (ct:Value) (H':Hp) (s':Shared),Inv X ((q,{ cls:=.type "function",data:=.func (PySem.W.kla_fn "<lambda>" (X.env.qual++"<lambda>") params body sc (closL X.env sc.names []) ((X.mg "__name__").getD .none) (.ref c') ct) })::pins) σ H' s'→
   SameT P H H'→TabC H' P (X.env.qual++"<lambda>") pos c'→R (.ref q) s'):
  wpAny (model X.prog X.w) X.A (eval (.Lambda params body sc pos) X.env) R E s:=by
 rw [arm_eval_Lambda,defaults0 hd1 hd2]
 refine wpAny_bind (wpAny_pure (wpAny_bind (wpAny_holding (wpAny_pure ?_))))
 have hcl:=closure_eq (env:=X.env) (sc:=sc) fun n hn=>I.ok.has n (fr.free hn)
 have hg:=I.mod.glob.keeps I.bk
 have hC:=B.hd.keeps I.bk
 have nP:X.base.get? P=none:=by
  cases e:X.base.get? P with
  | none=>rfl
  | some o=>
   have:=(I.bs P o e).2
   rcases tb with z | ⟨_,z,_⟩ <;> (rw [this] at z;cases z)
 have hgP:mainGlobals≠P:=fun z=>by
  obtain ⟨o,es,ep,e,_⟩:=I.mod.glob
  rw [z,nP] at e;cases e
 have hbl:s.heap.BuiltinsAt X.mg P:=B.bl.keeps I.bk
 rcases tb with z | ⟨c',z,zc⟩
 ·have hP:s.heap.get? P=some (PySem.W.tabObj #[]):=I.hok P _ z
  refine PySem.W.kla_makeFunction hcl I.ok.glob hg hcode hC hP (by simp [TriplesOk]) (by simp [codeAmong]) hgP hbl fun c' ctv h' tk hx hge hlt hrec htab=>?_
  have hcP:c'≠P:=fun e=>absurd (Heap.lt_size hP) (by rw [←e];exact Nat.not_lt.mpr hge)
  have hn:H c'=none:=I.hok.fresh hge
  have ntup:∀ b o,H b=some o→(∀ ps,o≠.tbl ps)→b≠P:=fun b o e n e2=>by subst e2;rw [z] at e;cases e;exact n _ rfl
  have hH:∀ b,b≠P→b≠c'→upd (upd H P (.tbl (tab3 pos c'))) c' (.ext (codeAtH c' (X.env.qual++"<lambda>"))) b=H b:=fun b h1 h2=>by rw [upd_ne h2,upd_ne h1]
  have keep:∀ b o,b≠P→s.heap.get? b=some o→(h'.push (PySem.W.kla_obj "<lambda>" (X.env.qual++"<lambda>") params body sc (closL X.env sc.names []) ((X.mg "__name__").getD .none) c' ctv)).get? b=some o:=fun b o hb e=>Heap.get?_push_of_some _ (hx b o hb e)
  have nc:∀ b o,s.heap.get? b=some o→b≠c':=fun b o e=>Nat.ne_of_lt (Nat.lt_of_lt_of_le (Heap.lt_size e) hge)
  have ncH:∀ b o,H b=some o→b≠c':=fun b o e=>ne_of_none e hn
  have J:Inv X pins σ (upd (upd H P (.tbl (tab3 pos c'))) c' (.ext (codeAtH c' (X.env.qual++"<lambda>")))) { s with heap:=h'.push (PySem.W.kla_obj "<lambda>" (X.env.qual++"<lambda>") params body sc (closL X.env sc.names []) ((X.mg "__name__").getD .none) c' ctv),toks:=tk }:=by
   refine I.un ⟨fun b o e n _ _=>keep b o (fun q=>by rw [q,z] at n;cases n) e,fun b o e n _ _=>⟨o.slots,keep b o (fun q=>by rw [q,z] at n;cases n) e⟩,fun b o e n _=>?_,fun b o e _=>?_,fun b xs e=>?_,fun b o u e=>?_,fun b ps e=>?_⟩ fun b o e=>?_
   ·rw [hH b (fun q=>by rw [q,z] at n;cases n) (nc b o e)];exact n
   ·by_cases hb:b=P
    ·subst hb;exact ⟨_,Heap.get?_push_of_some _ htab⟩
    ·exact ⟨o,keep b o hb e⟩
   ·rw [hH b (ntup b _ e fun _ q=>by cases q) (ncH b _ e)];exact e
   ·rw [hH b (ntup b _ e fun _ q=>by cases q) (ncH b _ e)];exact e
   ·by_cases hb:b=P
    ·subst hb
     rw [z] at e
     cases e
     exact ⟨tab3 pos c',by rw [upd_ne (Ne.symm hcP),upd_same];simp⟩
    ·exact ⟨#[],by rw [hH b hb (ncH b _ e),e];simp⟩
   ·by_cases h1:b=c'
    ·subst h1
     rw [upd_same] at e
     cases e
     exact code_ok (code_keep hrec fun o e=>Heap.get?_push_of_some _ e)
    ·rw [upd_ne h1] at e
     by_cases h2:b=P
     ·subst h2
      rw [upd_same] at e
      cases e
      exact Heap.get?_push_of_some _ (by rw [htab];simp)
     ·rw [upd_ne h2] at e
      refine (I.hok b o e).stay (fun a u ha q=>keep a u ?_ q) (fun a q=>?_) fun a xs q=>?_
      ·rcases ha with rfl | ha
       ·exact h2
       ·exact ntup a _ ha fun _ q=>by cases q
      ·rw [hH a (ntup a _ q fun _ q=>by cases q) (ncH a _ q)];exact q
      ·rw [hH a (ntup a _ q fun _ q=>by cases q) (ncH a _ q)];exact q
  refine h h'.objs.size c' ctv _ _ (I.pinNew J (Heap.get?_push_size _ rfl) (Nat.le_of_lt (Nat.lt_of_le_of_lt hge hlt)) ?_ fun v q=>by cases q) (fun b u e hb=>?_) ⟨?_,upd_same⟩
  ·rw [hH _ (fun e=>absurd (Heap.lt_size hP) (by rw [←e];exact Nat.not_lt.mpr (Nat.le_of_lt (Nat.lt_of_le_of_lt hge hlt)))) (Nat.ne_of_gt hlt)]
   exact I.hok.fresh (Nat.le_of_lt (Nat.lt_of_le_of_lt hge hlt))
  ·rw [hH b hb (ncH b _ e)];exact e
  ·rw [upd_ne (Ne.symm hcP),upd_same]
 ·have hP:s.heap.get? P=some (PySem.W.tabObj (tab3 pos c')):=I.hok P _ z
  refine PySem.W.kla_makeFunctionHit (cv:=.ref c') hcl I.ok.glob hg hcode hC hP (triples3 _ _) (among3 _ _) hbl fun ctv h' tk hk hsz=>?_
  have J:Inv X pins σ H { s with heap:=h'.push { cls:=.type "function",data:=.func (PySem.W.kla_fn "<lambda>" (X.env.qual++"<lambda>") params body sc (closL X.env sc.names []) ((X.mg "__name__").getD .none) (.ref c') ctv) },toks:=tk }:=I.kept fun b o e=>Heap.get?_push_of_some _ (hk b o e)
  exact h h'.objs.size c' ctv _ _ (I.pinNew J (Heap.get?_push_size _ rfl) hsz (I.hok.fresh hsz) fun v q=>by cases q) (SameT.refl _ _) ⟨z,zc⟩
end
end L2
namespace L2
open PySem PySem.Spec PyProof.Rows
structure Ow (X:Cx) (pins:List (Addr×Obj)) (a:Addr):Prop where
 loc:a≠X.env.locals
 fs:a∉X.fs
 new:a∈X.ex∨X.s₀.heap.objs.size≤a
 cel:∀ x c,X.env.cells.lookup x=some c→c≠a
 pin:∀ p∈X.pn++pins,p.1≠a
section
variable {X:Cx} {pins p1 p2:List (Addr×Obj)} {σ:St} {H:Hp} {s:Shared}
theorem Inv.ow (I:Inv X pins σ H s) {a:Addr} (h:s.heap.objs.size≤a):Ow X pins a where
 loc:=Nat.ne_of_gt (Nat.lt_of_lt_of_le I.lt h)
 fs:=I.nofs h
 new:=.inr (Nat.le_trans I.sz h)
 cel:=fun x c e z=>by
  obtain ⟨v,o,ho,_⟩:=I.cell x c e
  exact absurd (Heap.lt_size ho) (by rw [z];exact Nat.not_lt.mpr h)
 pin:=fun p hp z=>absurd (Heap.lt_size (I.pin p hp).1) (by rw [z];exact Nat.not_lt.mpr h)
theorem Ow.sub {a:Addr} {pl:List (Addr×Obj)} (o:Ow X pins a) (h:∀ p∈pl,p∈pins∨p.1≠a):Ow X pl a:=
 ⟨o.loc,o.fs,o.new,o.cel,fun p hp=>by
  rcases List.mem_append.mp hp with z | z
  ·exact o.pin p (List.mem_append_left _ z)
  ·rcases h p z with y | y
   ·exact o.pin p (List.mem_append_right _ y)
   ·exact y⟩
theorem Inv.repin {a:Addr} {o o':Obj} {h':Heap} {t':Nat} (I:Inv X (p1++(a,o)::p2) σ H s) (ow:Ow X (p1++p2) a) (k:∀ b u,b≠a→s.heap.get? b=some u→h'.get? b=some u) (e:h'.get? a=some o') (hd:∀ v,o'.data≠.cell v):
  Inv X (p1++(a,o')::p2) σ H { s with heap:=h',toks:=t' }:=by
 have me:=I.pin (a,o) (List.mem_append_right _ (List.mem_append_right _ List.mem_cons_self))
 have I1:Inv X (p1++p2) σ H s:=I.pins_of fun p hp=>I.pin p (List.mem_append_right _ (by
  rcases List.mem_append.mp hp with z | z
  ·exact List.mem_append_left _ z
  ·exact List.mem_append_right _ (List.mem_cons_of_mem _ z)))
 have I2:=I1.turned (h':=h') (t':=t') k me.2.1 ow.loc ow.new ow.cel ow.pin
 refine ⟨I2.ok,I2.os,I2.bare,I2.base,I2.loc,I2.cell,I2.free,I2.freeC,fun p hp=>?_,I2.hok,I2.len⟩
 rcases List.mem_append.mp hp with z | z
 ·exact I2.pin p (List.mem_append_left _ z)
 ·rcases List.mem_append.mp z with z | z
  ·exact I2.pin p (List.mem_append_right _ (List.mem_append_left _ z))
  ·rcases List.mem_cons.mp z with rfl | z
   ·exact ⟨e,me.2.1,ow.loc,ow.fs,hd⟩
   ·exact I2.pin p (List.mem_append_right _ (List.mem_append_right _ z))
structure MinW (K:PySem.W.Frag) (σ:St) (l:Addr) (xs:List V) (lt:R2) (te:TE) (f:V→St) (G:Hp→Prop) (W:Nat→Nat→V→Hp→Prop) (Q:VK):Prop where
 lst:∀ j b k H,W j b k H→H l=some (.lst xs)∧G H
 turn:∀ j b k H x,W j b k H→xs[j]? =some x→te (f x) H fun k' H'=>lt k' k H' fun z H''=>∃ c,z=.bl c∧if c=true then W (j + 1) j k' H'' else W (j + 1) b k H''
 fin:∀ b k H x,W xs.length b k H→xs[b]? =some x→Q x H
theorem minK_loop {K:PySem.W.Frag} {l q S It:Addr} {oq:Obj} {xs:List V} {lt:R2} {te:TE} {f:V→St} {G:Hp→Prop} {W:Nat→Nat→V→Hp→Prop} {Q:VK} {R:Result→Shared→Prop} (hh:X.A.handled=none)
  (M:MinW K σ l xs lt te f G W Q) (hlt:OpR X.in1.nox (compareOp .Lt) lt) (oS:Ow X ((It,oq)::(q,oq)::pins) S) (oI:Ow X ((S,oq)::(q,oq)::pins) It)
  (lam:∀ (pl:List (Addr×Obj)) (H:Hp) (s:Shared) (v:V) (u:Value) (Q:VK),(q,oq)∈pl→Inv X.in1 pl σ H s→G H→RelV v u→te (f v) H Q→wpAny (model X.prog X.w) X.A.in1 (call (.ref q) [u]) (EP X.in1 pl σ Q) (fun _ _=>False) s)
  (hR:∀ (v:V) (u:Value) (H:Hp) (s:Shared),Inv X pins σ H s→RelV v u→Q v H→R (.ok (.ret u)) s):
  ∀ (r j b:Nat) (H:Hp) (s:Shared) (xb k:V) (vb kb:Value) (c:Nat) (ob:Obj),xs.length - j=r→j≤xs.length→Inv X.in1 ((S,seqObj "list" #[vb,kb] c)::(It,ob)::(q,oq)::pins) σ H s→s.heap.IsListIter It l j→xs[b]? =some xb→RelV xb vb→RelV k kb→W j b k H→
   codeAny (model X.prog X.w) X.A (.builtin "min.loop" ⟨[.ref It,.ref q,.ref S],[]⟩) R s:=by
 have hname:(toString "min"++toString ".loop":String)="min.loop":=by decide
 have hSI:S≠It:=fun z=>oS.pin (It,oq) (List.mem_append_right _ List.mem_cons_self) z.symm
 intro r
 induction r with
 | zero=>
  intro j b H s xb k vb kb c ob hr hj I hit hxb rb rk w
  have hin:j=xs.length:=by lia
  subst hin
  obtain ⟨hl,hG⟩:=M.lst _ _ _ _ w
  obtain ⟨its,rv,pl,_⟩:=I.list (SqL.of hl)
  have lenI:its.length=xs.length:=rv.length.symm
  have hlI:l≠It:=fun z=>by
   have:=(I.pin (It,ob) (List.mem_append_right _ (List.mem_cons_of_mem _ List.mem_cons_self))).2.1
   rw [←z,hl] at this;cases this
  have Wk:=Walks.list (prog:=X.prog) (w:=X.w) (A:=X.A.in1) hh It l hlI its.toArray
  have nS:=(I.pin (S,seqObj "list" #[vb,kb] c) (List.mem_append_right _ List.mem_cons_self)).1
  refine codeAny_builtin PySem.F.entry_min_loop ?_
  rw [Around.under_plainId PySem.F.plain_min_loop _]
  show wpAny _ X.A.in1 (seqItems? (.ref S) >>=_) _ _ _
  refine wpAny_bind (wpAny_seqItems nS rfl ?_)
  show wpAny _ X.A.in1 (tryCatch (pyNext (.ref It)) _ >>=_) _ _ _
  refine wpAny_bind (wpAny_tryCatch (Wk.done _ _ _ ⟨by rw [List.size_toArray,lenI];exact hit,pl.isList⟩ fun h' tk' hk'=>?_))
  have hk:∀ b u,b≠It→s.heap.get? b=some u→h'.get? b=some u:=fun b u hb e=>hk' b u (by simpa using hb) e
  have I1:Inv X.in1 ((S,seqObj "list" #[vb,kb] c)::(q,oq)::pins) σ H s:=I.pins_of fun p hp=>I.pin p (List.mem_append_right _ (by
   rcases List.mem_cons.mp hp with rfl | z
   ·exact List.mem_cons_self
   ·exact List.mem_cons_of_mem _ (List.mem_cons_of_mem _ z)))
  have oI':Ow X.in1 ((S,seqObj "list" #[vb,kb] c)::(q,oq)::pins) It:=⟨oI.loc,oI.fs,oI.new,oI.cel,fun p hp=>by
   rcases List.mem_append.mp hp with z | z
   ·exact oI.pin p (List.mem_append_left _ z)
   ·rcases List.mem_cons.mp z with rfl | z
    ·exact hSI
    ·exact oI.pin p (List.mem_append_right _ (List.mem_cons_of_mem _ z))⟩
  have I2:=I1.turned (h':=h') (t':=tk') hk (I.pin (It,ob) (List.mem_append_right _ (List.mem_cons_of_mem _ List.mem_cons_self))).2.1 oI'.loc oI'.new oI'.cel oI'.pin
  have hS':=hk S _ hSI nS
  have s1:=Heap.SameBut.update h' S (Obj.mapSeq fun _=>(#[]:Array Value))
  show wpAny _ X.A.in1 (updateSeq S (fun _=>#[]) >>=_) _ _ _
  refine wpAny_bind ?_
  refine wpAny_updateSeq hS' rfl (wpAny_bind (wpAny_letGo (wpAny_pure ?_)))
  have I3:Inv X.in1 ((q,oq)::pins) σ H { s with heap:=h',toks:=tk' }:=I2.pins_of fun p hp=>I2.pin p (List.mem_append_right _ (List.mem_cons_of_mem _ hp))
  have hSn:=(I2.pin (S,seqObj "list" #[vb,kb] c) (List.mem_append_right _ List.mem_cons_self)).2.1
  have oS':Ow X.in1 ((q,oq)::pins) S:=⟨oS.loc,oS.fs,oS.new,oS.cel,fun p hp=>by
   rcases List.mem_append.mp hp with z | z
   ·exact oS.pin p (List.mem_append_left _ z)
   ·exact oS.pin p (List.mem_append_right _ (List.mem_cons_of_mem _ z))⟩
  have I4:=I3.turned (h':=h'.update S (Obj.mapSeq fun _=>(#[]:Array Value))) (t':=tk') (fun b u hb e=>s1.extBut b u hb e) hSn oS'.loc oS'.new oS'.cel oS'.pin
  have I5:Inv X.in1 pins σ H { s with heap:=h'.update S (Obj.mapSeq fun _=>(#[]:Array Value)),toks:=tk' }:=I4.pins_of fun p hp=>I4.pin p (List.mem_append_right _ (List.mem_cons_of_mem _ hp))
  exact hR xb vb H _ I5.out1 rb (M.fin b k H xb w hxb)
 | succ r ih=>
  intro j b H s xb k vb kb c ob hr hj I hit hxb rb rk w
  have hlt':j < xs.length:=by lia
  obtain ⟨hl,hG⟩:=M.lst _ _ _ _ w
  obtain ⟨its,rv,pl,_⟩:=I.list (SqL.of hl)
  have lenI:its.length=xs.length:=rv.length.symm
  have hlI:l≠It:=fun z=>by
   have:=(I.pin (It,ob) (List.mem_append_right _ (List.mem_cons_of_mem _ List.mem_cons_self))).2.1
   rw [←z,hl] at this;cases this
  have Wk:=Walks.list (prog:=X.prog) (w:=X.w) (A:=X.A.in1) hh It l hlI its.toArray
  have nS:=(I.pin (S,seqObj "list" #[vb,kb] c) (List.mem_append_right _ List.mem_cons_self)).1
  refine codeAny_builtin PySem.F.entry_min_loop ?_
  rw [Around.under_plainId PySem.F.plain_min_loop _]
  show wpAny _ X.A.in1 (seqItems? (.ref S) >>=_) _ _ _
  refine wpAny_bind (wpAny_seqItems nS rfl ?_)
  show wpAny _ X.A.in1 (tryCatch (pyNext (.ref It)) _ >>=_) _ _ _
  refine wpAny_bind (wpAny_tryCatch (Wk.item j _ _ _ (by rw [List.size_toArray,lenI];exact hlt') ⟨hit,pl.isList⟩ fun v h' tk' hP hst' hk'=>?_))
  have hv:its[j]? =some v:=by simpa using hP
  obtain ⟨x,hx⟩:∃ x,xs[j]? =some x:=⟨_,List.getElem?_eq_getElem hlt'⟩
  have rx:RelV x v:=by
   obtain ⟨u,hu,ru⟩:=rv.get hx
   rw [hv] at hu;cases hu;exact ru
  obtain ⟨oI',hoI',hoc,hod⟩:=id hst'.1
  have hk:∀ b u,b≠It→s.heap.get? b=some u→h'.get? b=some u:=fun b u hb e=>hk' b u (by simpa using hb) e
  have I1:Inv X.in1 ((S,seqObj "list" #[vb,kb] c)::(It,oI')::(q,oq)::pins) σ H { s with heap:=h',toks:=tk' }:=
   Inv.repin (p1:=[(S,seqObj "list" #[vb,kb] c)]) I ⟨oI.loc,oI.fs,oI.new,oI.cel,fun p hp=>by
    rcases List.mem_append.mp hp with z | z
    ·exact oI.pin p (List.mem_append_left _ z)
    ·rcases List.mem_cons.mp z with rfl | z
     ·exact hSI
     ·exact oI.pin p (List.mem_append_right _ (List.mem_cons_of_mem _ z))⟩ hk hoI' (fun v z=>by rw [hod] at z;cases z)
  have mq:(q,oq)∈((S,seqObj "list" #[vb,kb] c)::(It,oI')::(q,oq)::pins):=List.mem_cons_of_mem _ (List.mem_cons_of_mem _ List.mem_cons_self)
  show wpAny _ X.A.in1 (tryCatch (holding [v] (call (.ref q) [v])) _ >>=_) _ _ _
  refine wpAny_bind (wpAny_tryCatch (wpAny_holding (wpAny_mono (lam _ H _ x v _ mq I1 hG rx (M.turn j b k H x w hx)) (fun u2 s2 ⟨k2,H2,I2,r2,q2⟩=>?_) fun _ _ hF=>(show False from hF).elim)))
  show wpAny _ X.A.in1 (tryCatch (holding [v,u2] (richCompare .Lt u2 kb >>=_)) _ >>=_) _ _ _
  refine wpAny_bind (wpAny_tryCatch (wpAny_holding (wpAny_bind (wpAny_mono (hlt _ s2 σ H2 k2 k u2 kb _ (I2.wish _) r2 rk q2) (fun u3 s3 ⟨z,H3,I3w,r3,cc,ez,q3⟩=>?_) fun e s' hF=>(show False from hF).elim))))
  ·have I3:=I3w.unwish
   subst ez
   obtain rfl:u3=Value.bool cc:=r3
   refine wpAny_bind (wpAny_holding (wpAny_truthy_bool ?_))
   refine wpAny_bind (wpAny_letGo (wpAny_pure ?_))
   have nS3:=(I3.pin (S,seqObj "list" #[vb,kb] c) (List.mem_append_right _ List.mem_cons_self)).1
   have nI3:=(I3.pin (It,oI') (List.mem_append_right _ (List.mem_cons_of_mem _ List.mem_cons_self))).1
   have hit3:s3.heap.IsListIter It l (j + 1):=⟨oI',nI3,hoc,hod⟩
   cases cc with
   | true=>
    have s1:=Heap.SameBut.update s3.heap S (Obj.mapSeq fun _=>#[v,u2])
    obtain ⟨c2,hc2⟩:∃ c2,(s3.heap.update S (Obj.mapSeq fun _=>#[v,u2])).get? S=some (seqObj "list" #[v,u2] c2):=⟨_,get?_update_seq nS3 fun _=>#[v,u2]⟩
    simp only [if_true]
    refine wpAny_bind ?_
    refine wpAny_updateSeq nS3 rfl (wpAny_bind (wpAny_letGo ?_))
    rw [hname]
    rw [if_pos rfl] at q3
    have I4:Inv X.in1 ((S,seqObj "list" #[v,u2] c2)::(It,oI')::(q,oq)::pins) σ H3 { s3 with heap:=s3.heap.update S (Obj.mapSeq fun _=>#[v,u2]),toks:=s3.toks }:=
     Inv.repin (p1:=[]) I3 ⟨oS.loc,oS.fs,oS.new,oS.cel,fun p hp=>by
      rcases List.mem_append.mp hp with z | z
      ·exact oS.pin p (List.mem_append_left _ z)
      ·rcases List.mem_cons.mp z with rfl | z
       ·exact Ne.symm hSI
       ·exact oS.pin p (List.mem_append_right _ (List.mem_cons_of_mem _ z))⟩ (fun b u hb e=>s1.extBut b u hb e) hc2 (fun v z=>by cases z)
    exact wpAny_pure ⟨plainId_quiet PySem.F.plain_min_loop _,ih (j + 1) j H3 _ x k2 v u2 c2 oI' (by lia) hlt' I4 ⟨oI',(s1.2 It (Ne.symm hSI)).trans nI3,hoc,hod⟩ hx rx r2 q3⟩
   | false=>
    simp only [Bool.false_eq_true,if_false]
    refine wpAny_bind (wpAny_letGo ?_)
    rw [hname]
    rw [if_neg Bool.false_ne_true] at q3
    exact wpAny_pure ⟨plainId_quiet PySem.F.plain_min_loop _,ih (j + 1) b H3 _ xb k vb kb c oI' (by lia) hlt' I3 hit3 hxb rb rk q3⟩
noncomputable def tMinK (K:PySem.W.Frag) (P:Addr) (qual:Str) (pos:Pos) (fm:List (Option Nat)) (lt:R2) (ta:TA) (te:TE):TE:=fun σ H Q=>ta σ H fun vs H1=>TabIn H1 P qual pos∧∃ l xs x0,vs=[.ref l]∧xs[0]? =some x0∧
 ∀ (c:Addr) (H2:Hp),SameT P H1 H2→TabC H2 P qual pos c→H2 l=some (.lst xs)∧∃ W:Nat→Nat→V→Hp→Prop,MinW K σ l xs lt te (fun v=>(fmSt fm σ).set 0 (some v)) (fun H=>H c=some (.ext (codeAtH c qual))) W Q∧
  te ((fmSt fm σ).set 0 (some x0)) H2 fun k H3=>W 1 0 k H3
theorem pe_minK {e:Expr} {params:Arguments} {body:Expr} {sc:Scope} {p pos lpos kpos:Pos} {c P:Addr} {lt:R2} {tl:TA} {te:TE} {M:List Str} {fm:List (Option Nat)} {y:Str} (hc:X.calm=true) (hroom:X.A.depth < recursionLimit) (hg:Gl X "min") (hm:X.mg "min"=none)
  (hl:PA X [e] tl) (B:TabB X.base X.mg c P) (hcode:X.env.code=.ref c) (hd1:params.defaults=[]) (hd2:params.kw_defaults=[]) (fr:FrOk X.env sc.names) (hk:sc.kind=.function) (hco:sc.isCoroutine=false) (hgen:sc.isGenerator=false) (hfm:FmOk X.N sc M fm) (hM:M[0]? =some y) (hy:sc.names.lookup y=some .local)
  (hb:∀ (cl:List (Str×Addr)) (pm cd ct u:Value),bindArgs (PySem.W.kla_fn "<lambda>" (X.env.qual++"<lambda>") params body sc cl pm cd ct) ⟨[u],[]⟩=pure [(y,u)]) (hlt:OpR X.in1.nox (compareOp .Lt) lt)
  (hB:∀ q cd s H,PE (lam X.in1 (X.env.qual++"<lambda>") sc M q cd s H) body te)
  (he:starEach [e] X.env=[(false,eval e X.env)]:=by rfl):
  PE X (.Call (.Name "min" p) [e] [⟨some "key",.Lambda params body sc lpos,kpos⟩] pos) (tMinK X.K P (X.env.qual++"<lambda>") lpos fm lt tl te):=by
 intro pins s σ H Q I h
 have hname:(toString "min"++toString ".loop":String)="min.loop":=by decide
 refine wpAny_Call_Name_kw (ld_blt I hg hm (show bootBuiltins "min"=some (.builtin "min") by first | rfl | exact bt_min) ?_ (by decide) (by decide))
 refine callWith_kw ?_ (by rw [he];rfl) (by rw [he];rfl) rfl rfl
 refine thn (hl pos pins s σ H _ I h) fun us s1 ⟨vs,H1,I1,r1,tb,l,xs,x0,ex,hx0,hW⟩=>?_
 subst ex
 obtain ⟨u,rfl,rx1⟩:=Vals.one r1
 obtain rfl:u=Value.ref l:=rx1
 show wpAny _ _ (evalAll [(do let v ←eval (.Lambda params body sc lpos) X.env;standAt pos;pure v)]) _ _ s1
 refine wpAny_evalAll_cons (wpAny_bind (lam_new (body:=body) I1 fr B hcode hd1 hd2 tb fun q c' ct H2 s2 I2 sm tc=>wpAny_bind (wpAny_standAt (wpAny_pure (wpAny_evalAll_nil ?_)))))
 obtain ⟨hl2,W,MW,w0⟩:=hW c' H2 sm tc
 have hh:X.A.handled=none:=I.ok.hd hc
 generalize hoq:({ cls:=.type "function",data:=.func (PySem.W.kla_fn "<lambda>" (X.env.qual++"<lambda>") params body sc (closL X.env sc.names []) ((X.mg "__name__").getD .none) (.ref c') ct) }:Obj)=oq at I2
 have I2':=I2.in1
 obtain ⟨its,rv,pl,_⟩:=I2'.list (SqL.of hl2)
 have lenI:its.length=xs.length:=rv.length.symm
 have hlc:∀ (pl:List (Addr×Obj)) (H:Hp) (s:Shared) (v:V) (u:Value) (Q:VK),(q,oq)∈pl→Inv X.in1 pl σ H s→H c'=some (.ext (codeAtH c' (X.env.qual++"<lambda>")))→RelV v u→te ((fmSt fm σ).set 0 (some v)) H Q→
   wpAny (model X.prog X.w) X.A.in1 (call (.ref q) [u]) (EP X.in1 pl σ Q) (fun _ _=>False) s:=fun pl H s v u Q mq J hG r ht=>
  lam_call (X:=X.in1) J hh hroom fr hk hco hgen hfm hM hy (by rw [hoq];exact (J.pin _ (List.mem_append_right _ mq)).1) (J.codeRec hG) (fun u=>hb _ _ _ _ u) (hB q (.ref c') s H) r ht
 show wpAny _ _ (call (.builtin "min") [.ref l] [(Str.ofString "key",.ref q)]) _ _ s2
 refine kmk_tree PySem.F.kind_min PySem.F.plain_min PySem.F.entry_min (kmk_min_key _ _) ?_
 show wpAny _ X.A.in1 (Builtin.Builtins.bindParams "min" ["key","default"] 0 ⟨[],[(Str.ofString "key",.ref q)]⟩ >>=_) _ _ s2
 refine wpAny_bind (wpAny_of_eq (show Builtin.Builtins.bindParams "min" ["key","default"] 0 ⟨[],[(Str.ofString "key",.ref q)]⟩=pure [some (.ref q),none] from rfl) ?_)
 refine wpAny_bind (wpAny_pure ?_)
 refine wpAny_bind (wpAny_pyIter_list pl.isList ?_)
 refine wpAny_bind (wpAny_newList ?_ (Nat.zero_le _))
 rw [hname]
 refine wpAny_pure ⟨plainId_quiet PySem.F.plain_min_loop _,?_⟩
 have gI:(s2.heap.push { cls:=.type "list_iterator",data:=.fields #[.ref l,.int 0 0] }).get? s2.heap.objs.size=some { cls:=.type "list_iterator",data:=.fields #[.ref l,.int 0 0] }:=Heap.get?_push_size _ rfl
 have I3:Inv X.in1 ((s2.heap.objs.size,{ cls:=.type "list_iterator",data:=.fields #[.ref l,.int 0 0] })::(q,oq)::pins) σ H2 { s2 with heap:=s2.heap.push { cls:=.type "list_iterator",data:=.fields #[.ref l,.int 0 0] },toks:=s2.toks }:=
  I2'.pinNew (I2'.kept (t':=s2.toks) fun b o e=>Heap.get?_push_of_some _ e) gI (Nat.le_refl _) (I2'.hok.fresh (Nat.le_refl _)) fun v z=>by cases z
 have oI0:Ow X.in1 ((q,oq)::pins) s2.heap.objs.size:=I2'.ow (Nat.le_refl _)
 generalize hh3:s2.heap.push { cls:=.type "list_iterator",data:=.fields #[.ref l,.int 0 0] }=h3 at I3 gI ⊢
 have I4:Inv X.in1 ((h3.objs.size,seqObj "list" #[] 0)::(s2.heap.objs.size,{ cls:=.type "list_iterator",data:=.fields #[.ref l,.int 0 0] })::(q,oq)::pins) σ H2 { s2 with heap:=h3.push (seqObj "list" #[] 0),toks:=s2.toks }:=
  I3.pinNew (I3.kept (t':=s2.toks) fun b o e=>Heap.get?_push_of_some _ e) (Heap.get?_push_size _ rfl) (Nat.le_refl _) (I3.hok.fresh (Nat.le_refl _)) fun v z=>by cases z
 have oS0:Ow X.in1 ((s2.heap.objs.size,{ cls:=.type "list_iterator",data:=.fields #[.ref l,.int 0 0] })::(q,oq)::pins) h3.objs.size:=I3.ow (Nat.le_refl _)
 have gS:(h3.push (seqObj "list" #[] 0)).get? h3.objs.size=some (seqObj "list" #[] 0):=Heap.get?_push_size _ rfl
 have gI2:(h3.push (seqObj "list" #[] 0)).get? s2.heap.objs.size=some { cls:=.type "list_iterator",data:=.fields #[.ref l,.int 0 0] }:=Heap.get?_push_of_some _ gI
 have hSI:h3.objs.size≠s2.heap.objs.size:=fun z=>oS0.pin _ (List.mem_append_right _ List.mem_cons_self) z.symm
 have pl4:(h3.push (seqObj "list" #[] 0)).IsList l its.toArray:=by
  obtain ⟨o,e,r⟩:=pl.isList
  exact ⟨o,Heap.get?_push_of_some _ (by rw [←hh3];exact Heap.get?_push_of_some _ e),r⟩
 have hlI:l≠s2.heap.objs.size:=fun z=>by
  have:=I2'.hok.fresh (a:=s2.heap.objs.size) (Nat.le_refl _)
  rw [←z,hl2] at this;cases this
 generalize h3.objs.size=S at *
 generalize s2.heap.objs.size=It at *
 generalize h3.push (seqObj "list" #[] 0)=h4 at *
 have Wk:=Walks.list (prog:=X.prog) (w:=X.w) (A:=X.A.in1) hh It l hlI its.toArray
 have hpos:0 < xs.length:=(List.getElem?_eq_some_iff.mp hx0).1
 refine codeAny_builtin PySem.F.entry_min_loop ?_
 rw [Around.under_plainId PySem.F.plain_min_loop _]
 show wpAny _ X.A.in1 (seqItems? (.ref S) >>=_) _ _ _
 refine wpAny_bind (wpAny_seqItems gS rfl ?_)
 show wpAny _ X.A.in1 (tryCatch (pyNext (.ref It)) _ >>=_) _ _ _
 refine wpAny_bind (wpAny_tryCatch (Wk.item 0 _ _ _ (by rw [List.size_toArray,lenI];exact hpos) ⟨⟨_,gI2,rfl,rfl⟩,pl4⟩ fun v h' tk' hP hst' hk'=>?_))
 have hv:its[0]? =some v:=by simpa using hP
 have rx:RelV x0 v:=by
  obtain ⟨u,hu,ru⟩:=rv.get hx0
  rw [hv] at hu;cases hu;exact ru
 obtain ⟨oI',hoI',hoc,hod⟩:=id hst'.1
 have hk2:∀ b u,b≠It→h4.get? b=some u→h'.get? b=some u:=fun b u hb e=>hk' b u (by simpa using hb) e
 have I5:Inv X.in1 ((S,seqObj "list" #[] 0)::(It,oI')::(q,oq)::pins) σ H2 { s2 with heap:=h',toks:=tk' }:=
  Inv.repin (s:={ s2 with heap:=h4,toks:=s2.toks }) (p1:=[(S,seqObj "list" #[] 0)]) I4 ⟨oI0.loc,oI0.fs,oI0.new,oI0.cel,fun p hp=>by
   rcases List.mem_append.mp hp with z | z
   ·exact oI0.pin p (List.mem_append_left _ z)
   ·rcases List.mem_cons.mp z with rfl | z
    ·exact hSI
    ·exact oI0.pin p (List.mem_append_right _ z)⟩ hk2 hoI' (fun v z=>by rw [hod] at z;cases z)
 have mq:(q,oq)∈((S,seqObj "list" #[] 0)::(It,oI')::(q,oq)::pins):=List.mem_cons_of_mem _ (List.mem_cons_of_mem _ List.mem_cons_self)
 show wpAny _ X.A.in1 (tryCatch (holding [v] (call (.ref q) [v])) _ >>=_) _ _ _
 refine wpAny_bind (wpAny_tryCatch (wpAny_holding (wpAny_mono (hlc _ H2 _ x0 v _ mq I5 tc.2 rx w0) (fun u2 s3 ⟨k2,H3,I6,r2,q2⟩=>?_) fun _ _ hF=>(show False from hF).elim)))
 have nS3:=(I6.pin (S,seqObj "list" #[] 0) (List.mem_append_right _ List.mem_cons_self)).1
 have nI3:=(I6.pin (It,oI') (List.mem_append_right _ (List.mem_cons_of_mem _ List.mem_cons_self))).1
 have s1':=Heap.SameBut.update s3.heap S (Obj.mapSeq fun _=>#[v,u2])
 obtain ⟨c2,hc2⟩:∃ c2,(s3.heap.update S (Obj.mapSeq fun _=>#[v,u2])).get? S=some (seqObj "list" #[v,u2] c2):=⟨_,get?_update_seq nS3 fun _=>#[v,u2]⟩
 show wpAny _ X.A.in1 (updateSeq S (fun _=>#[v,u2]) >>=_) _ _ _
 refine wpAny_bind ?_
 refine wpAny_updateSeq nS3 rfl ?_
 rw [hname]
 have I7:Inv X.in1 ((S,seqObj "list" #[v,u2] c2)::(It,oI')::(q,oq)::pins) σ H3 { s3 with heap:=s3.heap.update S (Obj.mapSeq fun _=>#[v,u2]),toks:=s3.toks }:=
  Inv.repin (p1:=[]) I6 ⟨oS0.loc,oS0.fs,oS0.new,oS0.cel,fun p hp=>by
   rcases List.mem_append.mp hp with z | z
   ·exact oS0.pin p (List.mem_append_left _ z)
   ·rcases List.mem_cons.mp z with rfl | z
    ·exact Ne.symm hSI
    ·exact oS0.pin p (List.mem_append_right _ (List.mem_cons_of_mem _ z))⟩ (fun b u hb e=>s1'.extBut b u hb e) hc2 (fun v z=>by cases z)
 refine wpAny_pure ⟨plainId_quiet PySem.F.plain_min_loop _,minK_loop (K:=X.K) (q:=q) (oq:=oq) (pins:=pins) (Q:=Q) hh MW hlt ?_ ?_ hlc (fun v u H s J r hq=>⟨v,H,J,r,hq⟩) _ 1 0 H3 _ x0 k2 v u2 c2 oI' rfl hpos I7 ⟨oI',(s1'.2 It (Ne.symm hSI)).trans nI3,hoc,hod⟩ hx0 rx r2 q2⟩
 ·exact ⟨oS0.loc,oS0.fs,oS0.new,oS0.cel,fun p hp=>by
   rcases List.mem_append.mp hp with z | z
   ·exact oS0.pin p (List.mem_append_left _ z)
   ·rcases List.mem_cons.mp z with rfl | z
    ·exact Ne.symm hSI
    ·exact oS0.pin p (List.mem_append_right _ (List.mem_cons_of_mem _ z))⟩
 ·exact ⟨oI0.loc,oI0.fs,oI0.new,oI0.cel,fun p hp=>by
   rcases List.mem_append.mp hp with z | z
   ·exact oI0.pin p (List.mem_append_left _ z)
   ·rcases List.mem_cons.mp z with rfl | z
    ·exact hSI
    ·exact oI0.pin p (List.mem_append_right _ z)⟩
end
end L2
namespace L2
open PySem PySem.Spec PyProof.Rows
theorem law_callT {P:Program} {w:World} {K:PySem.W.Frag} {mg mb:Str→Option Value} {k:Nat} {fa a c Pt:Addr} {fd:FuncData} {x:Str} {sp:Sp} {s₁:Shared} {vs:List Value} {ns:List Int}
  (KX:K.In s₁.heap) (hns:s₁.heap.Ns mainGlobals mg) (hb:s₁.heap.Ns builtinsNs mb) (hbb:∀ x:Str,x≠"__name__"→mb x=bootBuiltins x) (hlim:s₁.heap.NoLimit) (hg:s₁.gens=#[])
  (bm:∃ bm ob,mg "__builtins__"=some (.ref bm)∧bm≠builtinsNs∧s₁.heap.get? bm=some ob∧ob.cls=.type "module"∧ob.dict=some builtinsNs∧ob.data=.plain)
  (hC:PySem.W.CodeHd s₁.heap c Pt) (hP:s₁.heap.get? Pt=some (PySem.W.tabObj #[])) (hKP:K.lookup Pt=none)
  (ha:s₁.heap.get? a=some { cls:=.type "list",data:=.seq vs.toArray }) (hi:IntsAre vs ns) (hl:ns.length≤sizeLine) (hr:Room k callerA)
  (F:∀ base:Heap,K.In base→base.Ns mainGlobals mg→TabB base mg c Pt→FnOk P w K mg base CX0 k fa fd [x] sp) (hbind:∀ (s:Shared) (u:Value),BindsTo s fd ⟨[u],[]⟩ [(x,u)])
  (hsp:∀ H:Hp,Scr K H a ns→H Pt=some (.tbl #[])→sp [.ref a] H (fun v _=>v=.bl true) fun _ _ _=>False):
  codeAny (model P w) callerA (.call (.ref fa) ⟨[.ref a],[]⟩) (fun r s'=>r=.ok (.ret (.bool true))∧OldK s₁.heap s'.heap∧s'.os=s₁.os∧AllBare s'.gens) s₁:=by
 have rv:=vals_ints hi
 have lenV:=hi.length
 have haP:a≠Pt:=fun z=>by rw [z,hP] at ha;cases ha
 have core:∀ H:Hp,Scr K H a ns→H Pt=some (.tbl #[])→HOk P w H s₁.heap→(∀ b,H b≠none→b=a∨b=Pt)→(H a≠none→K.lookup a=none)→(∀ b,b≠Pt→H b=none∨∃ o xs,H b=some (.frz o (.lst xs)))→
   codeAny (model P w) callerA (.call (.ref fa) ⟨[.ref a],[]⟩) (fun r s'=>r=.ok (.ret (.bool true))∧OldK s₁.heap s'.heap∧s'.os=s₁.os∧AllBare s'.gens) s₁:=by
  intro H hS hT hok hA hK hO
  have base_of:∀ {b:Addr} {o:Obj},s₁.heap.get? b=some o→H b=none→(hidT s₁.heap H).get? b=some o:=fun e n=>hidT_get e n
  have noB:∀ {b:Addr} {o:Obj},s₁.heap.get? b=some o→(∀ vs k,o.data=.seq vs k→False)→(∀ vs,o.data=.fields vs→o.cls=.none→False)→H b=none:=fun {b o} e d1 d2=>by
   cases q:H b with
   | none=>rfl
   | some u=>
    rcases hA b (by rw [q];simp) with e' | e'
    ·subst e'
     rw [ha] at e;cases e
     exact (d1 _ _ rfl).elim
    ·subst e'
     rw [hP] at e;cases e
     exact (d2 _ rfl rfl).elim
  have nsK:∀ {b:Addr} {m:Str→Option Value},s₁.heap.Ns b m→(hidT s₁.heap H).Ns b m:=fun {b m} ⟨o,es,ep,e,d,r⟩=>⟨o,es,ep,base_of e (noB e (fun _ _ z=>by rw [d] at z;cases z) fun _ z=>by rw [d] at z;cases z),d,r⟩
  have hKb:K.In (hidT s₁.heap H):=fun b o e=>base_of (KX b o e) (by
   cases q:H b with
   | none=>rfl
   | some u=>
    rcases hA b (by rw [q];simp) with e' | e'
    ·subst e'
     rw [hK (by rw [q];simp)] at e;cases e
    ·subst e'
     rw [hKP] at e;cases e)
  have hM:Mod K mg (hidT s₁.heap H):=⟨hKb,nsK hns,⟨mb,nsK hb,hbb⟩,let ⟨mc,h1,h2⟩:=hlim;⟨mc,nsK h1,h2⟩⟩
  have e0:Env0 P w K mg (hidT s₁.heap H) callerA [] s₁ H:=⟨rfl,hM,fun b o e=>of_hidT e,Nat.le_of_eq (hidT_size _ _),trivial,fun b hb=>absurd (show b∈([]:List Addr) from hb) (by simp),hok,.of_eq hg⟩
  have hTB:TabB (hidT s₁.heap H) mg c Pt:=by
   constructor
   ·obtain ⟨o,vs,file,tf,flags,tg,inF,text,tt,e,e2,e3,r⟩:=hC
    exact ⟨o,vs,file,tf,flags,tg,inF,text,tt,base_of e (noB e (fun _ _ z=>by rw [e3] at z;cases z) fun _ _ z=>by rw [e2] at z;cases z),e2,e3,r⟩
   ·obtain ⟨b,ob,h1,h2,h3,h4,h5,h6⟩:=bm
    refine ⟨b,ob,h1,h2,fun z=>?_,fun z=>?_,base_of h3 (noB h3 (fun _ _ z=>by rw [h6] at z;cases z) fun _ z=>by rw [h6] at z;cases z),h4,h5,h6⟩
    ·obtain ⟨o,es,ep,e,d,_⟩:=hns
     rw [z,e] at h3;cases h3
     rw [d] at h6;cases h6
    ·rw [z,hP] at h3;cases h3
     cases h6
  refine codeAny_mono ((F _ hKb (nsK hns) hTB).run callerA [] s₁ H ⟨[.ref a],[]⟩ [.ref a] [.ref a] _ _ hr e0 (hbind s₁ (.ref a)) (.cons rfl .nil) (hsp H hS hT)) fun r s' h=>?_
  cases r with
  | error e=>exact False.elim h
  | ok fl=>
   cases fl with
   | next=>exact False.elim h
   | brk=>exact False.elim h
   | cont=>exact False.elim h
   | ret u=>
    obtain ⟨v,H',os,bare,un,hok',r',q⟩:=h
    have q':v=.bl true:=q
    subst q'
    obtain rfl:u=Value.bool true:=r'
    have keep:∀ b o,b≠Pt→s₁.heap.get? b=some o→s'.heap.get? b=some o:=fun b o hbP e=>by
     rcases hO b hbP with z | ⟨ob,xs,z⟩
     ·exact un.keep b o e z (by intro z;exact absurd (show b∈([]:List Addr) from z) (by simp)) (by simp)
     ·have z2:=un.frzs b ob _ z
      obtain ⟨e1,_⟩:=hok b _ z
      obtain ⟨e2,_⟩:=hok' b _ z2
      rw [e] at e1;cases e1
      exact e2
    obtain ⟨more,z⟩:=un.tbls Pt _ hT
    have hP':s'.heap.get? Pt=some (PySem.W.tabObj (#[]++more)):=hok' Pt _ z
    refine ⟨rfl,⟨fun b o e=>?_,fun b o e=>?_⟩,os,bare⟩
    ·by_cases hbP:b=Pt
     ·subst hbP
      rw [hP] at e;cases e
      exact .inr (.inl ⟨(hC.tab hP).isCodeTable,rfl,#[],more,rfl,hP'⟩)
     ·exact .inl (keep b o hbP e)
    ·by_cases hbP:b=Pt
     ·subst hbP
      exact ⟨_,hP'⟩
     ·exact ⟨o,keep b o hbP e⟩
 cases hk:K.lookup a with
 | some o=>
  have e:=KX a o hk
  rw [ha] at e
  cases e
  refine core (fun b=>if b=Pt then some (.tbl #[]) else none) ?_ (if_pos rfl) (fun b u z=>?_) (fun b z=>?_) (fun z=>absurd (if_neg haP) z) fun b hb=>.inl (if_neg hb)
  ·exact .inr ⟨_,vs.toArray,_,hk,rfl,rfl,rfl,by rw [List.size_toArray,lenV];exact hl,by simpa using rv⟩
  ·by_cases hb:b=Pt
   ·have z':=(if_pos hb).symm.trans z
    cases z'
    subst hb
    exact hP
   ·have z':=(if_neg hb).symm.trans z
    cases z'
  ·by_cases hb:b=Pt
   ·exact .inr hb
   ·exact absurd (if_neg hb) z
 | none=>
  refine core (fun b=>if b=Pt then some (.tbl #[]) else if b=a then some (.frz { cls:=.type "list",data:=.seq vs.toArray } (.lst (ns.map V.int))) else none) ?_ (if_pos rfl) (fun b u z=>?_) (fun b z=>?_) (fun _=>hk) fun b hb=>?_
  ·exact .inl ⟨{ cls:=.type "list",data:=.seq vs.toArray },(if_neg haP).trans (if_pos rfl)⟩
  ·by_cases hb:b=Pt
   ·have z':=(if_pos hb).symm.trans z
    cases z'
    subst hb
    exact hP
   ·have z':=(if_neg hb).symm.trans z
    by_cases hb2:b=a
    ·have z'':=(if_pos hb2).symm.trans z'
     cases z''
     subst hb2
     exact ⟨ha,by rw [List.length_map];exact hl,vs,_,rv,ha⟩
    ·have z'':=(if_neg hb2).symm.trans z'
     cases z''
  ·by_cases hb:b=Pt
   ·exact .inr hb
   ·by_cases hb2:b=a
    ·exact .inl hb2
    ·exact absurd ((if_neg hb).trans (if_neg hb2)) z
  ·by_cases hb2:b=a
   ·exact .inr ⟨_,_,(if_neg hb).trans (if_pos hb2)⟩
   ·exact .inl ((if_neg hb).trans (if_neg hb2))
structure TabK (K:PySem.W.Frag) (base:Heap) (mg:Str→Option Value) (x:Str) (c P:Addr):Prop where
 kin:K.In base
 ns:base.Ns mainGlobals mg
 tab:PySem.W.tabIn K x=some (c,P)
 b:TabB base mg c P
noncomputable def tabOk (K:PySem.W.Frag) (x:Str) (ts:List Addr):Bool:=match PySem.W.tabIn K x with
 | some (c,P)=>(K.lookup P).isNone&&ts.contains P&&PySem.W.codeHdIn K c P
 | none=>false
theorem tabOk_of {K:PySem.W.Frag} {x:Str} {ts:List Addr} (h:tabOk K x ts=true):∃ c P,PySem.W.tabIn K x=some (c,P)∧K.lookup P=none∧P∈ts∧PySem.W.codeHdIn K c P=true:=by
 unfold tabOk at h
 split at h
 ·rename_i c P e
  rw [Bool.and_eq_true,Bool.and_eq_true] at h
  exact ⟨c,P,e,Option.isNone_iff_eq_none.mp h.1.1,by simpa using h.1.2,h.2⟩
 ·cases h
theorem walk_ofT {l:PySem.W.OpenLaw} {n k:Nat} {q:Program} {loose:List Str} {XP:(Str→Option Value)→Heap→Prop} {YP:World→Heap→Prop} {d:DefRec} {K:Params→PySem.W.Frag} {ts:List Addr} {sp:World→Addr→Sp} {x xt:Str}
  (hn:l.most=some n) (hn2:n≤sizeLine) (hdf:d.params.defaults=[]) (hr:Room k callerA)
  (hY:∀ (w:World) (h:Heap),YP w h→(K w.params).In h) (hT:∀ (w:World) (h:Heap),YP w h→∀ P∈ts,h.get? P=some (PySem.W.tabObj #[])) (htab:∀ p,tabOk (K p) xt ts=true)
  (F:∀ (w:World) (mg:Str→Option Value) (fa:Addr) (h:Heap),(K w.params).In h→h.Ns mainGlobals mg→mg d.name=some (.ref fa)→
   ∃ fd:FuncData,(∀ (s:Shared) (u:Value),BindsTo s fd ⟨[u],[]⟩ [(x,u)])∧
    ∀ (base:Heap) (c P:Addr),TabK (K w.params) base mg xt c P→FnOk l.prog w (K w.params) mg base CX0 k fa fd [x] (sp w P))
  (hsp:∀ (w:World) (H:Hp) (a P:Addr) (ns:List Int),ns.length≤n→Scr (K w.params) H a ns→H P=some (.tbl #[])→sp w P [.ref a] H (fun v _=>v=.bl true) fun _ _ _=>False):
  PySem.W.WalkO q loose XP YP l.row.toRowW d [] (fun f vs=>PySem.call f vs):=by
 refine Att.attach_call hn hdf fun w s₀ s₁ mg mb fa o pm cd doc a vs ns G Y ho hd hcd hmg hobj hints hlen hg=>?_
 have KX:=hY w _ Y
 obtain ⟨fd,hb,hF⟩:=F w mg fa _ KX G.T.g hmg
 obtain ⟨c,P,ht,hKP,hm,hH⟩:=tabOk_of (htab w.params)
 exact law_callT KX G.T.g G.T.b G.T.builtins G.T.nolimit hg G.T.bmain (PySem.W.codeHd_of_K KX hH) (hT w _ Y P hm) hKP hobj hints (Nat.le_trans hlen hn2) hr (fun base kb nb tb=>hF base c P ⟨kb,nb,ht,tb⟩) hb (fun H hS hT=>hsp w H a P ns hlen hS hT)
theorem Fun.okC {P:Program} {w:World} {K:PySem.W.Frag} {mg:Str→Option Value} {base:Heap} {x qual:Str} {st:Stmt} {f c Pt:Addr} {fd:FuncData} {N ps:List Str} {k:Nat} {sp:Sp} (F:Fun K x qual st f fd) (B:TabK K base mg x c Pt) (hm:mg x=some (.ref f)) (S:FnScope N ps (defScope st)) (len:∀ vs H Q E,sp vs H Q E→vs.length=ps.length)
  (hbody:∀ (A:Around) (outer:List Env) (s:Shared) (H:Hp) (vs:List V) (Q:VK) (E:XK),Room k (A.deeper (envOfC qual (defScope st) s.heap.objs.size f (.ref c)))→sp vs H Q E→
   ∃ t,PSs (cxOf CX0 P w K mg base N qual (defScope st) f (.ref c) A outer s H E).nox (defBody st) t∧t { nx:=fun _ H'=>Q .non H',rt:=Q } (start N vs) H):FnOk P w K mg base CX0 (k + 1) f fd ps sp:=by
 obtain ⟨oc,od,kV,doc,pm,an,cdv,ct,osl,rfl,lk,hcd⟩:=F.ex
 have e:cdv=.ref c:=PySem.W.law_code B.kin B.ns B.tab hm (B.kin _ _ lk) rfl
 subst e
 refine fn_of lk hcd S len fun A outer s H vs Q E hr hsp=>?_
 obtain ⟨t,h,q⟩:=hbody A outer s H vs Q E hr hsp
 exact ⟨t,h.nox,q⟩
end L2
namespace L2
open PySem PySem.Spec PyProof.Rows
mutual
noncomputable def ltD:PyData→PyData→Bool
 | .int i,.int j=>decide (i < j)
 | .tuple ds,.tuple es=>ltDs ds es
 | _,_=>false
noncomputable def ltDs:List PyData→List PyData→Bool
 | [],[]=>false
 | [],_::_=>true
 | _::_,[]=>false
 | d::ds,e::es=>if PyData.eqv d e=true then ltDs ds es else ltD d e
end
mutual
noncomputable def cmpD:PyData→PyData→Bool
 | .int _,.int _=>true
 | .tuple ds,.tuple es=>cmpDs ds es
 | _,_=>false
noncomputable def cmpDs:List PyData→List PyData→Bool
 | [],_=>true
 | _::_,[]=>true
 | d::ds,e::es=>if PyData.eqv d e=true then cmpDs ds es else cmpD d e
end
section
variable {X:Cx} {pins:List (Addr×Obj)} {σ:St} {H:Hp} {s:Shared}
theorem cmp_shape {d e:PyData} (h:cmpD d e=true):(∃ i j,d=.int i∧e=.int j)∨∃ ds es,d=.tuple ds∧e=.tuple es∧cmpDs ds es=true:=by
 unfold cmpD at h
 split at h
 ·exact .inl ⟨_,_,rfl,rfl⟩
 ·exact .inr ⟨_,_,rfl,rfl,h⟩
 ·cases h
theorem ltDs_ok (I:Inv X pins σ H s) {A:Around} {k:Nat} (hA:A.units + k + 3 < cLine) (one:∀ (d e:PyData) (x y:V) (u v:Value),Is H x d→Is H y e→RelV x u→RelV y v→cmpD d e=true→d.canLay0=true→e.canLay0=true→d.depth≤k→RcLt A.in1 s u v (ltD d e)):
  ∀ (ds es:List PyData) (xs ys:List V) (us vs:List Value),IsAll H xs ds→IsAll H ys es→Vals xs us→Vals ys vs→cmpDs ds es=true→PyData.canLayAll0 ds=true→PyData.canLayAll0 es=true→PyData.depthAll ds≤k→LtAt A.in1 s us vs (ltDs ds es):=by
 intro ds
 induction ds with
 | nil=>
  intro es xs ys us vs h1 h2 r1 r2 hc o1 o2 hz
  cases h1
  cases r1
  cases es with
  | nil=>cases h2;cases r2;exact .nn
  | cons e es=>cases h2 with | cons _ _=>cases r2 with | cons _ _=>exact .nc
 | cons d ds ih=>
  intro es xs ys us vs h1 h2 r1 r2 hc o1 o2 hz
  cases h1 with
  | cons i1 t1=>
  cases r1 with
  | cons q1 s1=>
  cases es with
  | nil=>cases h2;cases r2;exact .cn
  | cons e es=>
   cases h2 with
   | cons i2 t2=>
   cases r2 with
   | cons q2 s2=>
   rw [PyData.canLayAll0,Bool.and_eq_true] at o1 o2
   rw [PyData.depthAll] at hz
   have hd1:d.depth≤k:=Nat.le_trans (Nat.le_max_left _ _) hz
   have hd2:PyData.depthAll ds≤k:=Nat.le_trans (Nat.le_max_right _ _) hz
   obtain ⟨as,ra⟩:=i1.reads I q1
   obtain ⟨bs,rb⟩:=i2.reads I q2
   have he:=SeqAt.eqAt_reads d e A.in1 s _ _ as bs ra rb o1.1 o2.1 (by show A.units + 1 + _ < _;lia)
   rw [cmpDs] at hc
   rw [ltDs]
   by_cases g:PyData.eqv d e=true
   ·rw [if_pos g] at hc ⊢
    rw [g] at he
    exact .eq he (ih es _ _ _ _ t1 t2 s1 s2 hc o1.2 o2.2 hd2)
   ·rw [if_neg g] at hc ⊢
    rw [Bool.not_eq_true] at g
    rw [g] at he
    exact .ne he (one d e _ _ _ _ i1 i2 q1 q2 hc o1.1 o2.1 hd1)
theorem lt_int_ok {A:Around} {i j:Int} {x y:V} {u v:Value} (hx:Is H x (.int i)) (hy:Is H y (.int j)) (ru:RelV x u) (rv:RelV y v):RcLt A s u v (ltD (.int i) (.int j)):=by
 cases hx
 cases hy
 obtain ⟨t,rfl⟩:=ru
 obtain ⟨t2,rfl⟩:=rv
 rw [ltD]
 exact lt_ints
theorem dep_tup (ds:List PyData):(PyData.tuple ds).depth=PyData.depthAll ds + 1:=by rw [PyData.depth]
theorem ltD_ok (I:Inv X pins σ H s):∀ (k:Nat) (d e:PyData) (x y:V) (u v:Value) (A:Around),Is H x d→Is H y e→RelV x u→RelV y v→cmpD d e=true→d.canLay0=true→e.canLay0=true→d.depth≤k→A.units + k + 2 < cLine→RcLt A s u v (ltD d e):=by
 intro k
 induction k with
 | zero=>
  intro d e x y u v A hx hy ru rv hc od oe hk hA
  rcases cmp_shape hc with ⟨i,j,rfl,rfl⟩ | ⟨ds,es,rfl,rfl,_⟩
  ·exact lt_int_ok hx hy ru rv
  ·rw [dep_tup] at hk
   exact absurd hk (Nat.not_succ_le_zero _)
 | succ k ih=>
  intro d e x y u v A hx hy ru rv hc od oe hk hA
  rcases cmp_shape hc with ⟨i,j,rfl,rfl⟩ | ⟨ds,es,rfl,rfl,hcs⟩
  ·exact lt_int_ok hx hy ru rv
  ·rw [dep_tup] at hk
   cases hx with
   | tup ea ha=>
   cases hy with
   | tup eb hb=>
   obtain rfl:=(show u=Value.ref _ from ru)
   obtain rfl:=(show v=Value.ref _ from rv)
   obtain ⟨its,r1,p1,_⟩:=I.tuple (SqT.of ea)
   obtain ⟨its2,r2,p2,_⟩:=I.tuple (SqT.of eb)
   rw [ltD]
   rw [PyData.canLay0] at od oe
   refine lt_tup p1 p2 (by lia) (ltDs_ok (k:=k) I (by lia) (fun d e x y u v h1 h2 h3 h4 h5 h6 h7 h8=>ih d e x y u v A.in1 h1 h2 h3 h4 h5 h6 h7 h8 (by show A.units + 1 + k + 2 < _;lia)) ds es _ _ _ _ ha hb r1 r2 hcs od oe (Nat.le_of_succ_le_succ hk))
noncomputable def rLtD:R2:=fun x y H Q=>∃ d e,Is H x d∧Is H y e∧okD d∧okD e∧cmpD d e=true∧Q (.bl (ltD d e)) H
theorem op_ltD (hu:X.A.units + 64 < cLine):OpR X (compareOp .Lt) rLtD:=by
 intro pins s σ H x y v u Q I rx ry h
 obtain ⟨d,e,hx,hy,od,oe,hc,q⟩:=h
 exact ltD_ok I 40 d e x y v u X.A hx hy rx ry hc od.1 oe.1 od.2 (by lia) _ _ _ _ ⟨.bl _,H,I,rfl,q⟩
end
end L2
namespace L2
open PySem PySem.Spec PyProof.Rows
section
open PySem.AutoSeq1 (wpAny_loadPart')
variable {prog:Program} {w:World} {A:Around} {E:Value→Shared→Prop} {s:Shared}
theorem nextOf_tuple_item {it l:Addr} {i:Nat} {items} {x:Value} {Q:Value→Shared→Prop} (hit:s.heap.IsTupleIter it l i)
  (hl:s.heap.IsTuple l items) (hx:items[i]? =some x)
  (hQ:∀ h',h'.IsTupleIter it l (i + 1)→Heap.SameBut it s.heap h'→Q x { s with heap:=h' }):
  wpAny (model prog w) A (Builtin.SmallTypes.nextOf (.ref it)) Q E s:=by
 obtain ⟨o,ho,hc,hd⟩:=id hit
 obtain ⟨ol,hol,_,nl,hdl⟩:=hl
 unfold Builtin.SmallTypes.nextOf
 refine wpAny_bind (wpAny_callSpecial?_slot (name:=Str.ofString "__next__") hit.typeIs F.slot_tuple_iterator_next
  (wpAny_call_entry F.slot_tuple_iterator_next hit.typeIs F.entry_tuple_iterator_next ?_ (F.args_tuple_iterator_next_1 _)))
 show wpAny _ _ (field (.ref it) 0 >>=_) _ _ s
 refine wpAny_bind (wpAny_field ho hd (x:=.ref l) rfl ?_)
 show wpAny _ _ (if (Value.ref l==Value.none)=true then _ else _) _ _ s
 rw [if_neg (show ¬((Value.ref l==Value.none)=true) from Bool.false_ne_true)]
 show wpAny _ _ (field (.ref it) 1 >>=_) _ _ s
 refine wpAny_bind (wpAny_field ho hd (x:=.int i 0) rfl ?_)
 show wpAny _ _ (seqItems? (.ref l) >>=_) _ _ s
 refine wpAny_bind (wpAny_seqItems hol hdl ?_)
 simp only [Int.toNat_natCast,hx]
 refine wpAny_bind (wpAny_setField ho hd (by simp) (wpAny_pure ⟨x,rfl,wpAny_pure (hQ _ ?_ (Heap.SameBut.update ..))⟩))
 exact ⟨_,Heap.get?_update_self _ ho (Obj.isFreed_of_fields (Obj.data_mapFields hd _)),(Obj.cls_mapFields ..).trans hc,by
  rw [Obj.data_mapFields hd];simp [rawInt]⟩
theorem nextOf_tuple_end {it l:Addr} {i:Nat} {items} {Q:Value→Shared→Prop} (hh:A.handled=none)
  (hit:s.heap.IsTupleIter it l i) (hl:s.heap.IsTuple l items) (hx:items[i]? =none)
  (hE:∀ h' e,Heap.ExtBut it s.heap h'→(∃ o,h'.get? e=some o∧o.cls=.type "StopIteration")→E (.ref e) { s with heap:=h' }):
  wpAny (model prog w) A (Builtin.SmallTypes.nextOf (.ref it)) Q E s:=by
 obtain ⟨o,ho,hc,hd⟩:=id hit
 obtain ⟨ol,hol,_,nl,hdl⟩:=hl
 unfold Builtin.SmallTypes.nextOf
 refine wpAny_bind (wpAny_callSpecial?_slot (name:=Str.ofString "__next__") hit.typeIs F.slot_tuple_iterator_next
  (wpAny_call_entry F.slot_tuple_iterator_next hit.typeIs F.entry_tuple_iterator_next ?_ (F.args_tuple_iterator_next_1 _)))
 show wpAny _ _ (field (.ref it) 0 >>=_) _ _ s
 refine wpAny_bind (wpAny_field ho hd (x:=.ref l) rfl ?_)
 show wpAny _ _ (if (Value.ref l==Value.none)=true then _ else _) _ _ s
 rw [if_neg (show ¬((Value.ref l==Value.none)=true) from Bool.false_ne_true)]
 show wpAny _ _ (field (.ref it) 1 >>=_) _ _ s
 refine wpAny_bind (wpAny_field ho hd (x:=.int i 0) rfl ?_)
 show wpAny _ _ (seqItems? (.ref l) >>=_) _ _ s
 refine wpAny_bind (wpAny_seqItems hol hdl ?_)
 simp only [Int.toNat_natCast,hx]
 refine wpAny_bind (wpAny_rule (wpAny_bind (wpAny_setField ho hd (by simp) ?_)))
 show wpAny _ _ (newExc (.type "StopIteration") [] >>=_) _ _ _
 refine wpAny_bind ?_
 simp only [newExc,newTuple]
 refine wpAny_bind (wpAny_newObj_type ?_ (by size_fits))
 refine wpAny_bind (m:=firstArgMember _ _) (wpAny_of_eq (a:=Value.none) (by first | rfl | (simp only [firstArgMember];rfl)) ?_)
 refine wpAny_newObj_type ?_ (by size_fits)
 simp only [raiseNew]
 refine wpAny_bind (wpAny_handled ?_)
 first | rw [show A.in1.handled=none from hh] | rw [hh]
 refine wpAny_bind (wpAny_pure (wpAny_throw ?_))
 exact hE _ _ (((Heap.SameBut.update ..).extBut.push _).push _) ⟨_,Heap.get?_push_size _ rfl,rfl⟩
theorem draws_tuple (hh:A.handled=none) (it l:Addr) (hne:l≠it) (items:Array Value):
  Draws prog w A it [it,l] items.size (fun i v=>items[i]? =some v) (fun i h=>h.IsTupleIter it l i∧h.IsTuple l items) where
 live:=fun _ _ st=>let ⟨o,ho,_⟩:=st.1;⟨o,ho⟩
 frame:=fun _ _ _ st hk=>⟨st.1.at fun o e=>hk it (by simp) o e,st.2.at fun o e=>hk l (by simp) o e⟩
 item:=fun i s Q E hi st hQ=>by
  refine nextOf_tuple_item st.1 st.2 (x:=items[i]) (by simp [hi]) fun h' hit' hs'=>?_
  exact hQ _ h' s.toks (by simp [hi]) ⟨hit',st.2.extBut hs'.extBut hne⟩ hs'
 done:=fun s Q E st hE=>nextOf_tuple_end hh st.1 st.2 (by simp) hE
theorem meets_enumerate_newT (l:Addr) (items:Array Value) (n:Nat) (dct:Option Addr) (sl:Array (Option Value)):
  Meets (Builtin.«enumerate.__new__» ⟨[.type "enumerate",.ref l],[]⟩) (fun _ R s=>s.heap.get? l=some { cls:=.type "tuple",dict:=dct,data:=.seq items n,slots:=sl }∧
   R (.ok (.ret (.ref (s.heap.push { cls:=.type "tuple_iterator",data:=.fields #[.ref l,.int 0 0] }).objs.size)))
    { s with heap:=(s.heap.push { cls:=.type "tuple_iterator",data:=.fields #[.ref l,.int 0 0] }).push { cls:=.type "enumerate",data:=.fields #[.none,.bool false,.ref s.heap.objs.size,rawInt 0,.none,.none] } }):=
 .of_wp fun prog w A R s h=>by
  obtain ⟨hp,g,d,tk,os⟩:=s;obtain ⟨hl,h⟩:=h
  have hsub:=sub_enumerate
  have hL:Heap.IsTuple (Shared.heap ⟨hp,g,d,tk,os⟩) l items:=⟨_,hl,rfl,n,rfl⟩
  wp_walk using wpAny_loadPart' hl
  refine wpAny_stack_any fun st=>wpAny_pure ?_
  split
  ·rename_i c _ _ _ _ _
   cases (c==Value.type "enumerate")
   ·wp_walk using wpAny_loadPart' hl,wpAny_pyIter_tuple hL
    exact ⟨_,rfl,h⟩
   ·wp_walk using wpAny_loadPart' hl,wpAny_pyIter_tuple hL
    exact ⟨_,rfl,h⟩
  ·wp_walk using wpAny_loadPart' hl,wpAny_pyIter_tuple hL
   exact ⟨_,rfl,h⟩
theorem call_enumerate_tup {l:Addr} {items:Array Value} {Q:Value→Shared→Prop} (hL:s.heap.IsTuple l items)
  (h:∀ h',IsEnum h' (s.heap.objs.size + 1) s.heap.objs.size 0 .none→h'.IsTupleIter s.heap.objs.size l 0→h'.objs.size=s.heap.objs.size + 2→
   (∀ b o,s.heap.get? b=some o→h'.get? b=some o)→Q (.ref (s.heap.objs.size + 1)) { s with heap:=h' }):
  wpAny (model prog w) A (call (.type "enumerate") [.ref l]) Q E s:=by
 obtain ⟨⟨c,dct,dt,sl⟩,hl,hc,n,hd⟩:=hL
 replace hc:c=.type "tuple":=hc
 replace hd:dt=.seq items n:=hd
 subst hc hd
 refine callType_new F.called_enumerate (by decide) (F.typeCall_enumerate_1 _) (F.newCall_enumerate_1 _) (fun obj=>F.args_object_init_2 obj _) F.entry_enumerate_new
  (meets_enumerate_newT l items n dct sl) ⟨hl,?_⟩
 have hz:(s.heap.push { cls:=.type "tuple_iterator",data:=.fields #[.ref l,.int 0 0] }).objs.size=s.heap.objs.size + 1:=Heap.size_push ..
 show _∧_
 rw [hz]
 have he:IsEnum ((s.heap.push { cls:=.type "tuple_iterator",data:=.fields #[.ref l,.int 0 0] }).push
   { cls:=.type "enumerate",data:=.fields #[.none,.bool false,.ref s.heap.objs.size,rawInt 0,.none,.none] }) (s.heap.objs.size + 1) s.heap.objs.size 0 .none:=by
  have:=Heap.get?_push_size (s.heap.push { cls:=.type "tuple_iterator",data:=.fields #[.ref l,.int 0 0] })
   (o:={ cls:=.type "enumerate",data:=.fields #[.none,.bool false,.ref s.heap.objs.size,rawInt 0,.none,.none] }) rfl
  rw [hz] at this;exact this
 refine ⟨⟨_,he,rfl⟩,h _ he ⟨_,Heap.get?_push_of_some _ (Heap.get?_push_size _ rfl),rfl,rfl⟩ (by rw [Heap.size_push,hz]) fun b o x=>Heap.get?_push_of_some _ (Heap.get?_push_of_some _ x)⟩
end
theorem enum_endT {prog:Program} {w:World} {A:Around} {E:Value→Shared→Prop} {s:Shared} {e it l:Addr} {j:Int} {i:Nat} {items:Array Value} {old:Value} {Q:Option Value→Shared→Prop} (hh:A.handled=none)
  (he:IsEnum s.heap e it j old) (hit:s.heap.IsTupleIter it l i) (hl:s.heap.IsTuple l items) (hx:items[i]? =none)
  (hQ:∀ h',Heap.ExtBut it s.heap h'→Q none { s with heap:=h' }):wpAny (model prog w) A (pyNext (.ref e)) Q E s:=by
 have hT:s.TypeIs (.ref e) "enumerate":=⟨_,he,rfl⟩
 unfold pyNext
 refine wpAny_bind (wpAny_attempt (wpAny_callSpecial?_slot (name:=Str.ofString "__next__") hT F.slot_enumerate_next
  (wpAny_call_entry F.slot_enumerate_next hT F.entry_enumerate_next ?_ (F.args_enumerate_next_1 _))))
 show wpAny _ _ (field (.ref e) 2 >>=_) _ _ _
 refine wpAny_bind (wpAny_field he rfl (x:=.ref it) rfl ?_)
 refine wpAny_bind (nextOf_tuple_end hh hit hl hx fun h' x he' hx'=>?_)
 obtain ⟨o,ho,hc⟩:=hx'
 refine wpAny_bind (wpAny_isInstance (T:="StopIteration") (b:=true) ⟨o,ho,hc⟩ isSubtype_stop ?_)
 exact wpAny_pure (hQ _ he')
noncomputable def Ite (K:PySem.W.Frag) (a:Addr):It:=
 ⟨fun i H=>∃ xs x,SqT K H a xs∧xs[i]? =some x,fun i H x H'=>∃ T y,x=.ref T∧H T=none∧(∀ xs,SqT K H a xs→xs[i]? =some y)∧H'=upd H T (.tup [.int i,y]),fun i H=>∃ xs,SqT K H a xs∧xs.length≤i⟩
theorem turn_enum {P:Program} {w:World} {K:PySem.W.Frag} {elts:List Expr} {k:Nat} {pos:Pos} (a e it:Addr) (hei:e≠it):Turn P w K (.Tuple elts k pos) (Ite K a) [e,it] e (fun i h=>(∃ old,IsEnum h e it i old)∧h.IsTupleIter it a i) where
 mem:=by simp
 obj:=fun i h st b hb=>by
  obtain ⟨⟨old,he⟩,o,eo,c,d⟩:=st
  rcases List.mem_cons.mp hb with rfl | hb
  ·exact ⟨_,he,fun v z=>by cases z⟩
  ·rw [List.mem_singleton.mp hb]
   exact ⟨o,eo,fun v z=>by rw [d] at z;cases z⟩
 keep:=fun i h h' st kk=>⟨let ⟨old,he⟩:=st.1;⟨old,kk e (by simp) _ he⟩,st.2.at fun o x=>kk it (by simp) o x⟩
 item:=by
  intro X hP hw hK hc i pins s σ H E I hf st hg
  subst hP hw hK
  obtain ⟨xs,x,hq,hx⟩:=hg
  obtain ⟨its,rv,p,hz⟩:=I.tuple hq
  obtain ⟨u,hu,ru⟩:=rv.get hx
  obtain ⟨f0,f1,f2,f3,f4,f5⟩:=hf e (by simp)
  obtain ⟨g0,g1,g2,g3,g4,g5⟩:=hf it (by simp)
  have nea:∀ b,H b=none→(∃ o,s.heap.get? b=some o∧o.cls≠.type "tuple")→a≠b:=fun b hn ⟨o,eo,co⟩ z=>by
   obtain ⟨o2,e2,c2,_⟩:=p
   rw [z,eo] at e2;cases e2;exact co c2
  have hae:a≠e:=nea e f0 (let ⟨old,he⟩:=st.1;⟨_,he,fun z=>by simp at z⟩)
  have hai:a≠it:=nea it g0 (let ⟨o,eo,c,d⟩:=st.2;⟨o,eo,fun z=>by rw [c] at z;simp at z⟩)
  have W:=WalksT.enumerateD (draws_tuple (prog:=X.prog) (w:=X.w) (A:=X.A.in1) (I.ok.hd hc) it a hai its.toArray) e hei (by simp [hei,Ne.symm hae]) (by simp)
  have hi:i < its.toArray.size:=by
   rw [List.size_toArray,←rv.length]
   exact (List.getElem?_eq_some_iff.mp hx).1
  obtain ⟨⟨old,he⟩,hit⟩:=st
  have D:=draws_tuple (prog:=X.prog) (w:=X.w) (A:=X.A.in1) (I.ok.hd hc) it a hai its.toArray
  have helt:e < s.heap.objs.size:=Heap.lt_size he
  have hilt:it < s.heap.objs.size:=by obtain ⟨_,y,_⟩:=hit;exact Heap.lt_size y
  refine wpAny_pyNext_enum_itemD D he ⟨hit,p⟩ hi hei (by simp [hei,Ne.symm hae]) fun u' h' t hu' ho hs' hT0 hsz hk0=>?_
  have hT:s.heap.objs.size≤s.heap.objs.size:=Nat.le_refl _
  have eu:u'=u:=by
   have:its[i]? =some u':=by simpa using hu'
   rw [hu] at this;cases this;rfl
  subst eu
  have hM:=(⟨⟨_,ho⟩,hs',Nat.ne_of_gt helt,Nat.ne_of_gt hilt⟩:(∃ x,IsEnumOut h' e it ((i:Int) + 1) x s.heap.objs.size)∧(h'.IsTupleIter it a (i + 1)∧h'.IsTuple a its.toArray)∧s.heap.objs.size≠e∧s.heap.objs.size≠it)
  have hk:∀ b o,b∉[e,it]→s.heap.get? b=some o→h'.get? b=some o:=fun b o hb y=>hk0 b o (fun e'=>hb (by simp [e'])) (fun e'=>hb (by simp [e'])) y
  generalize hTT:s.heap.objs.size=T at *
  refine ⟨_,rfl,W.go elts k pos i T _ _ _ hM fun h2 st2 hk2=>?_⟩
  have keep:∀ b o,b≠e→b≠it→s.heap.get? b=some o→h2.get? b=some o:=fun b o h1 h3 eo=>hk2 b o (by simp [h1,h3]) (hk b o (by simp [h1,h3]) eo)
  have hTn:T∉[e,it]:=W.apart i T h' hM
  have hTe:T≠e:=fun z=>hTn (by simp [z])
  have hTi:T≠it:=fun z=>hTn (by simp [z])
  have eT2:=hk2 T _ hTn hT0
  have hTH:H T=none:=I.hok.fresh (Nat.le_of_eq hTT)
  have J:Inv X pins σ (upd H T (.tup [.int i,x])) { s with heap:=h2,toks:=t + 1 }:=by
   refine I.step (g':=s.gens) (d':=s.drawn) (ch:=[e,it]) (fun b hb=>?_) (fun b o _ _ hc eo _=>keep b o (fun z=>hc (by simp [z])) (fun z=>hc (by simp [z])) eo) (fun b o _ _ hc eo _=>⟨o.slots,keep b o (fun z=>hc (by simp [z])) (fun z=>hc (by simp [z])) eo⟩) (fun b o _ eo n=>?_)
    (fun b o hc eo=>⟨o,keep b o (fun z=>hc (by simp [z])) (fun z=>hc (by simp [z])) eo⟩) (fun b xs q=>?_) (fun b o u q=>?_) (fun b ps q=>?_) (fun m hm=>?_) (fun b u q=>?_) I.bare
   ·rcases List.mem_cons.mp hb with rfl | hb
    ·exact ⟨f3,f1,f4,f5⟩
    ·rw [List.mem_singleton.mp hb]
     exact ⟨g3,g1,g4,g5⟩
   ·rw [upd_ne (Nat.ne_of_lt (hTT▸Heap.lt_size eo))];exact n
   ·rw [upd_ne (ne_of_none q hTH)];exact q
   ·rw [upd_ne (ne_of_none q hTH)];exact q
   ·exact ⟨#[],by rw [upd_ne (ne_of_none q hTH),q];simp⟩
   ·obtain ⟨o,es,ep,eo,r⟩:=hm
    exact ⟨o,es,ep,keep _ o (Ne.symm f1) (Ne.symm g1) eo,r⟩
   ·by_cases hb:b=T
    ·subst hb
     rw [upd_same] at q
     cases q
     exact ⟨by show 2≤sizeLine;decide,[.int i t,u'],.cons ⟨t,rfl⟩ (.cons ru .nil),⟨_,eT2,rfl,_,rfl⟩,_,eT2,rfl⟩
    ·rw [upd_ne hb] at q
     refine (I.hok b u q).stay (fun c v hc' r=>keep c v (fun z=>?_) (fun z=>?_) r) (fun c r=>by rw [upd_ne (ne_of_none r hTH)];exact r) fun c xs r=>by rw [upd_ne (ne_of_none r hTH)];exact r
     ·subst z
      rcases hc' with rfl | hc'
      ·rw [f0] at q;cases q
      ·rw [f0] at hc';cases hc'
     ·subst z
      rcases hc' with rfl | hc'
      ·rw [g0] at q;cases q
      ·rw [g0] at hc';cases hc'
  refine ⟨.ref T,_,J,rfl,⟨T,x,rfl,hTH,fun ys hy=>by rw [I.tuple_inj hy hq];exact hx,rfl⟩,⟨st2.1,st2.2.1⟩,fun b hb=>?_⟩
  rcases List.mem_cons.mp hb with rfl | hb
  ·rw [upd_ne (Ne.symm hTe)];exact f0
  ·rw [List.mem_singleton.mp hb,upd_ne (Ne.symm hTi)];exact g0
 done:=by
  intro X hP hw hK hc i pins s σ H E I hf st hg
  subst hP hw hK
  obtain ⟨xs,hq,hx⟩:=hg
  obtain ⟨its,rv,p,hz⟩:=I.tuple hq
  obtain ⟨g0,g1,g2,g3,g4,g5⟩:=hf it (by simp)
  have hl:=rv.length
  obtain ⟨⟨old,he⟩,hit⟩:=st
  refine enum_endT (I.ok.hd hc) he hit p (by simp;lia) fun h' eb=>⟨rfl,I.turned (t':=s.toks) (fun b o hb e=>eb b o hb e) g0 g1 g3 g4 g5⟩
 self:=fun A i s Q E st h=>by
  obtain ⟨⟨old,he⟩,_⟩:=st
  exact wpAny_pyIter_enum he h
noncomputable def iEnum (K:PySem.W.Frag) (ta:TA):TI:=fun σ H R=>ta σ H fun vs H1=>∃ a,vs=[.ref a]∧(∃ xs,SqT K H1 a xs)∧R (Ite K a) H1
theorem pi_enum {X:Cx} {elts:List Expr} {k:Nat} {tp:Pos} {a:Expr} {ta:TA} {p pos:Pos} (hg:Gl X "enumerate") (hm:X.mg "enumerate"=none) (ha:PA X [a] ta) (hs:starEach [a] X.env=[(false,eval a X.env)]:=by rfl):
  PI X (.Tuple elts k tp) (.Call (.Name "enumerate" p) [a] [] pos) (iEnum X.K ta):=by
 intro pins s σ H R I h
 refine Call_ (ld_blt I hg hm bt_enumerate (PyProof.Rows.callWith_type1 (thn (ha pos pins s σ H _ I h) fun us s1 ⟨vs,H1,I1,r1,q1⟩=>?_) hs rfl))
 obtain ⟨b,e,⟨xs,hq⟩,q⟩:=q1
 subst e
 obtain ⟨u,rfl,rx⟩:=Vals.one r1
 obtain rfl:u=Value.ref b:=rx
 obtain ⟨its,rv,pl,hz⟩:=I1.tuple hq
 refine call_enumerate_tup pl fun h' he hit hsz hk=>?_
 refine wpAny_pyIter_enum he ?_
 have I2:Inv X pins σ H1 { s1 with heap:=h',toks:=s1.toks }:=I1.kept hk
 refine ⟨s1.heap.objs.size + 1,[s1.heap.objs.size + 1,s1.heap.objs.size],_,_,H1,rfl,I2,turn_enum b _ _ (Nat.succ_ne_self _),⟨⟨_,he⟩,hit⟩,fun c hb=>?_,q⟩
 rcases List.mem_cons.mp hb with rfl | hb
 ·exact I1.fpOk (by lia) (I1.hok.fresh (by lia))
 ·rw [List.mem_singleton.mp hb]
  exact I1.fpOk (Nat.le_refl _) (I1.hok.fresh (Nat.le_refl _))
section
variable {H:Hp} {K:PySem.W.Frag}
theorem k_penum (K:PySem.W.Frag) {X:Cx} {elts:List Expr} {k:Nat} {tp:Pos} {a:Expr} {ta:TA} {p pos:Pos} (hg:Gl X "enumerate") (hm:X.mg "enumerate"=none) (ha:PA X [a] ta) (hs:starEach [a] X.env=[(false,eval a X.env)]:=by rfl) (h:X.K=K:=by rfl):
  PI X (.Tuple elts k tp) (.Call (.Name "enumerate" p) [a] [] pos) (iEnum K ta):=h▸pi_enum hg hm ha hs
theorem rd_enum {σ:St} {ta:TA} {R:It→Hp→Prop} (h:ta σ H fun vs H1=>∃ a,vs=[.ref a]∧(∃ xs,SqT K H1 a xs)∧R (Ite K a) H1):iEnum K ta σ H R:=h
theorem fp_enum {σ:St} {a:Addr} {xs:List V} {G:St→Hp→Prop} {B:(St→Hp→Prop)→V→St→Hp→Prop} (Pv:Nat→St→Hp→Prop) (h0:Pv 0 σ H) (hl:∀ i σ H,i≤xs.length→Pv i σ H→SqT K H a xs)
  (hs:∀ i x σ H T,xs[i]? =some x→Pv i σ H→H T=none→B (Pv (i + 1)) (.ref T) σ (upd H T (.tup [.int i,x]))) (hd:∀ σ H,Pv xs.length σ H→G σ H):
  ∃ W:Nat→Nat→St→Hp→Prop,(∃ m,W 0 m σ H)∧∀ i m σ H,W i m σ H→((Ite K a).stop i H∧G σ H)∨((Ite K a).go i H∧
   ∃ N:St→Hp→Prop,(∀ σ' H',N σ' H'→∃ m',m' < m∧W (i + 1) m' σ' H')∧∀ x H',(Ite K a).yld i H x H'→B N x σ H'):=by
 refine ⟨fun i m σ H=>m=xs.length - i∧i≤xs.length∧Pv i σ H,⟨xs.length,by simp,Nat.zero_le _,h0⟩,?_⟩
 rintro i m σ H ⟨rfl,hi,p⟩
 have q:=hl i σ H hi p
 by_cases hlt:i < xs.length
 ·refine .inr ⟨⟨xs,xs[i],q,by simp [hlt]⟩,Pv (i + 1),fun σ' H' p'=>⟨xs.length - (i + 1),by lia,rfl,hlt,p'⟩,fun x H' y=>?_⟩
  obtain ⟨T,z,e,hT,hz,e2⟩:=y
  subst e e2
  exact hs i z σ _ T (hz xs q) p hT
 ·have e:i=xs.length:=by lia
  subst e
  exact .inl ⟨⟨xs,q,Nat.le_refl _⟩,hd σ H p⟩
end
end L2
namespace L2
open PySem PySem.Spec PyProof.Rows
section
open PySem.F
variable {prog:Program} {w:World} {A:Around} {E:Value→Shared→Prop} {s:Shared}
end
section
variable {X:Cx}
end
end L2
namespace L2
open PySem PySem.Spec PyProof.Rows
structure ZipD (z TI TO i1 i2:Addr):Prop where
 TIz:TI≠z
 TOz:TO≠z
 i1z:i1≠z
 i2z:i2≠z
 TITO:TI≠TO
 TIi1:TI≠i1
 TIi2:TI≠i2
 TOi1:TO≠i1
 TOi2:TO≠i2
 i12:i1≠i2
theorem nea {a b:Nat} (h:¬a=b):@Ne Addr a b:=h
section
variable {H:Hp} {K:PySem.W.Frag}
end
end L2
namespace L2
open PySem PySem.Spec PyProof.Rows
section
variable {X:Cx}
end
end L2
namespace L2
open PySem PySem.Spec PyProof.Rows
section
variable {P:Program} {w:World} {A:Around} {E:Value→Shared→Prop} {s:Shared}
theorem max_tup {l:Addr} {us:List Value} {ns:List Int} {Q:Value→Shared→Prop} (hh:A.handled=none) (ht:s.heap.IsTuple l us.toArray) (hi:IntsAre us ns) (ne:0 < ns.length)
  (q:∀ g M (t:Tok) tk,(∀ b o,s.heap.get? b=some o→g.get? b=some o)→M∈ns→(∀ a∈ns,a≤M)→Q (.int M t) { s with heap:=g,toks:=tk }):wpAny (model P w) A (call (.builtin "max") [.ref l]) Q E s:=by
 obtain ⟨zs,e⟩:=hi.allInts.items
 have en:ns=zs.toList.map (·.1):=by rw [←hi.numsOf,←nums_intItems,←e]
 have zz:0 < zs.size:=by rw [en,List.length_map,Array.length_toList] at ne;exact ne
 rw [e] at ht
 have lt:l < s.heap.objs.size:=by obtain ⟨_,eo,_⟩:=ht;exact Heap.lt_size eo
 refine call_max_walk (wpAny_pyIter_tuple ht ?_)
 refine ⟨_,_,_,_,_,_,_,rfl,Walks.tuple (A:=A.in1) hh _ l (Nat.ne_of_lt lt) (intItems zs),⟨⟨_,Heap.get?_push_size _ rfl,rfl,rfl⟩,ht.push _⟩,fun b hb=>?_,by simpa [intItems] using zz,CmpOf.ints_gt (numAt zs) (fun _ _=>intItems_at),fun v g tk hP hk=>?_⟩
 ·show b < (s.heap.push _).objs.size
  rw [Heap.size_push]
  simp only [List.mem_cons,List.not_mem_nil,or_false] at hb
  rcases hb with rfl | rfl
  ·exact Nat.lt_succ_self _
  ·exact Nat.lt_succ_of_lt lt
 ·obtain ⟨t,rfl⟩:=intItems_at hP
  obtain ⟨k1,k2⟩:=argBest_gt (numAt zs) (zs.size - 1)
  have e2:(intItems zs).size=zs.size:=by simp [intItems]
  rw [e2]
  refine q g _ t tk (fun b o eb=>hk b o (fun hm=>?_) (Heap.get?_push_of_some _ eb)) ?_ fun a ha=>?_
  ·rcases List.mem_singleton.mp hm with z
   exact absurd (z▸Heap.lt_size eb) (Nat.lt_irrefl _)
  ·rw [en,numAt_eq]
   exact getD_mem (by rw [List.length_map,Array.length_toList];lia)
  ·rw [en] at ha
   obtain ⟨j,hj,rfl⟩:=mem_getD ha
   rw [List.length_map,Array.length_toList] at hj
   rw [←numAt_eq]
   exact k2 j (by lia)
end
section
variable {X:Cx}
noncomputable def rMaxT (K:PySem.W.Frag):List V→Hp→VK→Prop:=fun xs H Q=>∃ (p:Addr) (ns:List Int),xs=[.ref p]∧SqT K H p (ns.map V.int)∧0 < ns.length∧∀ M,M∈ns→(∀ a∈ns,a≤M)→Q (.int M) H
theorem call_maxT (hc:X.calm=true):CallR X (.builtin "max") (rMaxT X.K):=by
 intro pins s σ H xs us Q I r h
 obtain ⟨p,ns,rfl,hq,ne,q⟩:=h
 obtain ⟨u,rfl,rx⟩:=Vals.one r
 cases (show u=Value.ref p from rx)
 obtain ⟨its,rv,pl,hz⟩:=I.tuple hq
 exact max_tup (I.ok.hd hc) (show s.heap.IsTuple p its.toArray from pl) (intsAre_of rv) ne fun g M t tk hk hM hA=>⟨.int M,H,I.kept (t':=tk) hk,⟨t,rfl⟩,q M hM hA⟩
theorem k_maxT (K:PySem.W.Frag) (hc:X.calm=true:=by rfl) (h:X.K=K:=by rfl):CallR X (.builtin "max") (rMaxT K):=h▸call_maxT hc
end
section
variable {K:PySem.W.Frag} {σ:St} {H:Hp} {Q:VK}
theorem rd_maxT {p:Addr} {ns:List Int} (e:H p=some (.tup (ns.map V.int))) (ne:0 < ns.length) (h:∀ M,M∈ns→(∀ a∈ns,a≤M)→Q (.int M) H):rMaxT K [.ref p] H Q:=⟨p,ns,rfl,SqT.of e,ne,h⟩
end
end L2
namespace L2
open PySem PySem.Spec PyProof.Rows
section
variable {X:Cx} {pins p1 p2:List (Addr×Obj)} {σ:St} {H:Hp} {s:Shared}
end
end L2
namespace L2
open PySem PySem.Spec PyProof.Rows
structure BestW (l:Addr) (xs:List V) (lt:R2) (te:V→Hp→VK→Prop) (W:Nat→Nat→V→Hp→Prop) (Q:VK):Prop where
 lst:∀ j b k H,W j b k H→H l=some (.lst xs)
 turn:∀ j b k H x,W j b k H→xs[j]? =some x→te x H fun k' H'=>lt k' k H' fun z H''=>∃ c,z=.bl c∧if c=true then W (j + 1) j k' H'' else W (j + 1) b k H''
 fin:∀ b k H x,W xs.length b k H→xs[b]? =some x→Q x H
section
variable {X:Cx} {pins p1 p2:List (Addr×Obj)} {σ:St} {H:Hp} {s:Shared}
end
section
variable {X:Cx}
section
variable {σ:St} {H:Hp} {Q:VK} {K:PySem.W.Frag}
end
end
end L2
namespace L2
open PySem PySem.Spec PyProof.Rows
noncomputable def UpT (t:SetTable):Prop:=t.place.toList.Pairwise (· < ·)∧t.dummies=#[]
structure Bel (xs:Array Nat) (j k:Nat):Prop where
 le:k≤xs.size
 lo:∀ i,i < k→xs.getD i j < j
 hi:∀ i,k≤i→i < xs.size→j≤xs.getD i j
theorem up_at {xs:Array Nat} (h:xs.toList.Pairwise (· < ·)) {i k j:Nat} (hik:i < k) (hk:k < xs.size):xs.getD i j < xs.getD k j:=by
 have:=List.pairwise_iff_getElem.mp h i k (by simpa using Nat.lt_trans hik hk) (by simpa using hk) hik
 have e1:xs.getD i j=xs[i]'(Nat.lt_trans hik hk):=by simp [Array.getD,Nat.lt_trans hik hk]
 have e2:xs.getD k j=xs[k]'hk:=by simp [Array.getD,hk]
 rw [e1,e2]
 simpa using this
theorem below_go {xs:Array Nat} (h:xs.toList.Pairwise (· < ·)) (j:Nat):∀ (f lo hi:Nat),hi - lo≤f→lo≤hi→hi≤xs.size→(∀ i,i < lo→xs.getD i j < j)→(∀ i,hi≤i→i < xs.size→j≤xs.getD i j)→Bel xs j (SetTable.below.go xs j f lo hi)
 | 0,lo,hi,hf,h1,h2,h3,h4=>by
  have:lo=hi:=by lia
  subst this
  exact ⟨h2,h3,h4⟩
 | f + 1,lo,hi,hf,h1,h2,h3,h4=>by
  unfold SetTable.below.go
  by_cases g:lo < hi
  ·rw [if_pos g]
   dsimp only
   have hm:(lo + hi) / 2 < hi:=by lia
   have hm2:lo≤(lo + hi) / 2:=by lia
   split
   ·rename_i g2
    refine below_go h j f _ _ (by lia) (by lia) h2 (fun i hi'=>?_) h4
    by_cases e:i=(lo + hi) / 2
    ·rw [e];exact g2
    ·exact Nat.lt_trans (up_at h (show i < (lo + hi) / 2 by lia) (by lia)) g2
   ·rename_i g2
    refine below_go h j f _ _ (by lia) (by lia) (by lia) h3 (fun i hi' hi2=>?_)
    by_cases e:i=(lo + hi) / 2
    ·rw [e];lia
    ·have:=up_at (j:=j) h (show (lo + hi) / 2 < i by lia) hi2
     lia
  ·rw [if_neg g]
   have:lo=hi:=by lia
   subst this
   exact ⟨h2,h3,h4⟩
theorem below_is {xs:Array Nat} (h:xs.toList.Pairwise (· < ·)) (j:Nat):Bel xs j (SetTable.below xs j):=
 below_go h j xs.size 0 xs.size (by lia) (Nat.zero_le _) (Nat.le_refl _) (fun i z=>by lia) (fun i z1 z2=>by lia)
theorem ins_up {xs:Array Nat} (h:xs.toList.Pairwise (· < ·)) {j:Nat} (hn:xs[SetTable.below xs j]? ≠some j):(SetTable.insertAt xs (SetTable.below xs j) j).toList.Pairwise (· < ·):=by
 have B:=below_is h j
 generalize SetTable.below xs j=k at B hn
 rw [SetTable.toList_insertAt,List.pairwise_append]
 have len:xs.toList.length=xs.size:=Array.length_toList
 refine ⟨h.sublist (List.take_sublist _ _),?_,?_⟩
 ·rw [List.pairwise_cons]
  refine ⟨fun y hy=>?_,h.sublist (List.drop_sublist _ _)⟩
  obtain ⟨i,hi,e⟩:=List.getElem_of_mem hy
  rw [List.length_drop,len] at hi
  rw [List.getElem_drop] at e
  have h1:=B.hi (k + i) (by lia) (by lia)
  have e1:xs.getD (k + i) j=y:=by
   rw [←e]
   simp [Array.getD,show k + i < xs.size by lia]
  rw [e1] at h1
  refine Nat.lt_of_le_of_ne h1 fun z=>?_
  subst z
  by_cases i0:i=0
  ·subst i0
   apply hn
   rw [Array.getElem?_eq_getElem (show k < xs.size by lia)]
   congr 1
  ·have h2:=B.hi k (Nat.le_refl _) (by lia)
   have h3:=up_at (j:=j) h (show k < k + i by lia) (by lia)
   lia
 ·intro a ha b hb
  obtain ⟨i,hi,e⟩:=List.getElem_of_mem ha
  rw [List.length_take,len] at hi
  rw [List.getElem_take] at e
  have h1:=B.lo i (by lia)
  have e1:xs.getD i j=a:=by
   rw [←e]
   simp [Array.getD,show i < xs.size by lia]
  rw [e1] at h1
  rcases List.mem_cons.mp hb with rfl | hb
  ·exact h1
  ·obtain ⟨i2,hi2,e2⟩:=List.getElem_of_mem hb
   rw [List.length_drop,len] at hi2
   rw [List.getElem_drop] at e2
   have h2:=B.hi (k + i2) (by lia) (by lia)
   have e3:xs.getD (k + i2) j=b:=by
    rw [←e2]
    simp [Array.getD,show k + i2 < xs.size by lia]
   lia
theorem up_standIn (t:SetTable) (n:Nat):UpT (t.standIn n):=by
 refine ⟨?_,rfl⟩
 show (Array.range n).toList.Pairwise (· < ·)
 rw [Array.toList_range]
 exact List.pairwise_lt_range
theorem up_orStandIn {t:SetTable} (h:UpT t) (n:Nat):UpT (t.orStandIn n):=by
 unfold SetTable.orStandIn
 split
 ·exact h
 ·exact up_standIn t n
theorem probe_go {t:SetTable} (hd:t.dummies=#[]) {f:Nat→Int} {h:Int}:∀ (n:Nat) (p:SetTable.Probe) (j:Nat) (d:Option Nat),p.dummy=none→SetTable.probe.go t f h n p=some (.empty j d)→d=none∧t.slot j=.empty
 | 0,p,j,d,hp,e=>by cases e
 | n + 1,p,j,d,hp,e=>by
  unfold SetTable.probe.go at e
  have nd:t.slot p.j≠.dummy:=by
   unfold SetTable.slot
   dsimp only
   split
   ·exact fun z=>nomatch z
   ·have:SetTable.has t.dummies p.j=false:=by
     unfold SetTable.has
     rw [hd]
     simp
    rw [this]
    exact fun z=>nomatch z
  have ad:(t.advance p).dummy=none:=by
   unfold SetTable.advance
   split
   ·exact hp
   ·exact hp
  split at e
  ·rename_i g
   cases e
   exact ⟨hp,g⟩
  ·rename_i g
   exact absurd g nd
  ·split at e
   ·cases e
   ·exact probe_go hd n _ j d ad e
theorem slot_empty {t:SetTable} {j:Nat} (h:t.slot j=.empty):t.place[SetTable.below t.place j]? ≠some j:=by
 intro z
 unfold SetTable.slot at h
 dsimp only at h
 rw [z] at h
 simp at h
theorem up_layNew {t:SetTable} (u:UpT t) (es:Array (Int×Value)) (h:Int) (x:Value):UpT (layNew t es h x).2.1∧(layNew t es h x).2.1.led=t.led:=by
 unfold layNew
 split
 ·rename_i slot wd e
  dsimp only
  unfold SetTable.freeSlot at e
  split at e
  ·rename_i j d g
   unfold SetTable.probe at g
   obtain ⟨rfl,g2⟩:=probe_go u.2 _ _ j d rfl g
   cases e
   have up:UpT (t.put j).1:=by
    unfold SetTable.put
    refine ⟨ins_up u.1 (slot_empty g2),?_⟩
    dsimp only
    have:SetTable.has t.dummies j=false:=by
     unfold SetTable.has
     rw [u.2]
     simp
    rw [this]
    exact u.2
   refine ⟨up_orStandIn up _,?_⟩
   show (SetTable.orStandIn (t.put j).1 _).led=t.led
   unfold SetTable.orStandIn
   split <;> rfl
  ·cases e
 ·exact ⟨up_standIn t _,rfl⟩
theorem up_relay (t:SetTable) (es:Array (Int×Value)) (n:Nat):UpT (relayAll t es n).2.1∧(relayAll t es n).2.1.led=t.led:=by
 unfold relayAll
 split
 ·rename_i t' order e
  dsimp only
  split
  ·unfold SetTable.relaid SetTable.laid at e
   simp only [Option.bind_eq_bind,Option.bind_eq_some_iff] at e
   obtain ⟨owner,_,e⟩:=e
   cases e
   refine ⟨⟨?_,rfl⟩,rfl⟩
   dsimp only
   have sub:((List.filterMap (fun j=>Option.map (fun x=>(j,x)) (owner.getD j none)) (List.range (SetTable.sizeAbove n - 1 + 1))).map (·.1)).Sublist (List.range (SetTable.sizeAbove n - 1 + 1)):=by
    generalize List.range (SetTable.sizeAbove n - 1 + 1)=l
    induction l with
    | nil=>exact List.Sublist.refl _
    | cons a l ih=>
     rw [List.filterMap_cons]
     cases owner.getD a none with
     | none=>exact ih.cons a
     | some y=>exact ih.cons₂ a
   exact List.pairwise_lt_range.sublist sub
  ·exact ⟨up_standIn t _,rfl⟩
 ·exact ⟨up_standIn t _,rfl⟩
end L2
namespace L2
open PySem PySem.Spec PyProof.Rows
noncomputable def byT (w:World):Bool:=w.params.followText "set-order"
noncomputable def TabU (w:World) (t:SetTable):Prop:=UpT t∧t.led= !byT w
noncomputable def SetU (prog:Program) (w:World) (h:Heap) (a:Addr) (S:Int→Bool) (n:Nat):Prop:=
 ∃ o es ep t,(h.get? a=some o∧o.ExactSet∧o.data=.set es ep t)∧ElemsOf (intKind prog w) es.toList∧(∀ k,S k=true↔∃ e∈es.toList,(intKind prog w).is k e.2=true)∧es.size < scanBound∧t.fits es.size=true∧es.size=n∧TabU w t
section
variable {prog:Program} {w:World} {A:Around} {E:Value→Shared→Prop} {s:Shared}
theorem SetU.of {h h':Heap} {a:Addr} {S:Int→Bool} {n:Nat} (x:SetU prog w h a S n) (k:∀ o,h.get? a=some o→h'.get? a=some o):SetU prog w h' a S n:=by
 obtain ⟨o,es,ep,t,⟨h1,h2,h3⟩,r⟩:=x
 exact ⟨o,es,ep,t,⟨k o h1,h2,h3⟩,r⟩
theorem add_tail {g:Bool→Sem Unit} (hg:∀ (b:Bool) (s₁:Shared) (Q':Unit→Shared→Prop),Q' () s₁→wpAny (model prog w) A (g b) Q' E s₁) {a:Addr} {o:Obj} {es:Array (Int×Value)} {ep:Nat} {t:SetTable} (ho:s.heap.get? a=some o∧o.ExactSet∧o.data=.set es ep t)
  {es1:Array (Int×Value)} {t2:SetTable} {S':Int→Bool} (hel1:ElemsOf (intKind prog w) es1.toList) (hm:∀ k',S' k'=true↔∃ e∈es1.toList,(intKind prog w).is k' e.2=true) (hb1:es1.size < scanBound) (hf2:t2.fits es1.size=true) (hU:TabU w t2) {wd:Bool} {R:Option Bool→Shared→Prop}
  (h:∀ h',Heap.SameBut a s.heap h'→SetU prog w h' a S' es1.size→R (some true) { s with heap:=h' }):
  wpAny (model prog w) A (do
   storeSet a es1 t2
   if (!wd&&t2.tooFull)=true then do
     g (relayAll t2 es1 (SetTable.grown es1.size)).2.2
     storeSet a (relayAll t2 es1 (SetTable.grown es1.size)).1 (relayAll t2 es1 (SetTable.grown es1.size)).2.1
     pure (some true)
    else pure (some true)) R E s:=by
 refine wpAny_bind (wpAny_storeSet_of ho.1 ho.2.2 ?_ (fits_of_scanBound hb1))
 have st:=SetOf_store (knd:=intKind prog w) ho.1 ho.2.1 ho.2.2 hel1 hm hb1 hf2
 have sb:=Heap.SameBut.update s.heap a (Obj.putSet es1 t2)
 by_cases hc:(!wd&&t2.tooFull)=true
 ·rw [if_pos hc]
  have hp:=relayAll_perm t2 es1 (SetTable.grown es1.size)
  have hfr:=relayAll_fits t2 es1 (SetTable.grown es1.size)
  have hur:=up_relay t2 es1 (SetTable.grown es1.size)
  generalize relayAll t2 es1 (SetTable.grown es1.size)=R3 at hp hfr hur ⊢
  obtain ⟨es2,t3,gv⟩:=R3
  dsimp only at hp hfr hur ⊢
  have hz:es2.size=es1.size:=by rw [←Array.length_toList,hp.length_eq,Array.length_toList]
  have hm2:∀ k',S' k'=true↔∃ e∈es2.toList,(intKind prog w).is k' e.2=true:=fun k'=>(hm k').trans ⟨fun ⟨e,he,q⟩=>⟨e,hp.mem_iff.mpr he,q⟩,fun ⟨e,he,q⟩=>⟨e,hp.mem_iff.mp he,q⟩⟩
  have hb2:es2.size < scanBound:=by lia
  refine wpAny_bind (hg _ _ _ ?_)
  refine wpAny_bind (wpAny_storeSet_of st.1 rfl ?_ (fits_of_scanBound hb2))
  have st2:=SetOf_store (knd:=intKind prog w) (es:=es1) (ep:=ep + 1) (t:=t2) st.1 ho.2.1 rfl (hel1.perm hp) hm2 hb2 hfr
  refine wpAny_pure (h _ (sb.trans (Heap.SameBut.update _ a _)) ?_)
  exact ⟨_,es2,_,t3,⟨st2.1,ho.2.1,rfl⟩,hel1.perm hp,hm2,hb2,hfr,hz,hur.1,hur.2.trans hU.2⟩
 ·rw [if_neg hc]
  exact wpAny_pure (h _ sb ⟨_,es1,_,t2,⟨st.1,ho.2.1,rfl⟩,hel1,hm,hb1,hf2,rfl,hU⟩)
theorem gave {b:Bool} {Q':Unit→Shared→Prop} (hq:Q' () s):wpAny (model prog w) A (match b with | true=>rule "set.scan.the-table-gave-way" | false=>pure ()) Q' E s:=by
 cases b
 ·exact wpAny_pure hq
 ·exact wpAny_rule hq
theorem add_int {a:Addr} {S:Int→Bool} {n:Nat} {k:Int} {tk:Tok} {Q:Bool→Shared→Prop} (hS:SetU prog w s.heap a S n) (hr:n + 1 < scanBound)
  (h:∀ h',Heap.SameBut a s.heap h'→SetU prog w h' a (fun k'=>S k'||decide (k'=k)) (if S k then n else n + 1)→Q (!S k) { s with heap:=h' }):
  wpAny (model prog w) A (setAddHashed a (.int k tk) ((intKind prog w).hash k)) Q E s:=by
 obtain ⟨o,es,ep,t,ho,hel,hm,hb,hf,hn,hU⟩:=hS
 have hk:(intKind prog w).is k (.int k tk)=true:=intKind_is _ _ _ _
 have hsc:(Value.int k tk).scannable=true:=rfl
 unfold setAddHashed setAddHashedIn;refine wpAny_holding (wpAny_bind (wpAny_setState_of ho.1 ho.2.2 hf ?_))
 dsimp only;rw [byScan_of hsc hb hel];simp only [↓reduceIte]
 unfold setAddByScan;refine wpAny_bind ?_;refine wpAny_bind (wpAny_rule ?_)
 refine wpAny_bind (wpAny_setScan_of hk ho.1 ho.2.2 hf hel ?_)
 cases hi:List.findIdx? (fun e=>(intKind prog w).is k e.2) es.toList with
 | some j=>
  dsimp only
  obtain ⟨hj,hpj,_⟩:=List.findIdx?_eq_some_iff_getElem.mp hi
  have hSk:S k=true:=(hm k).mpr ⟨es.toList[j],List.getElem_mem hj,hpj⟩
  refine wpAny_pure (wpAny_pure ?_)
  have e:s={ s with heap:=s.heap }:=by cases s;rfl
  have q:=h s.heap (Heap.SameBut.refl a s.heap) ⟨o,es,ep,t,ho,hel,fun k'=>by
   rw [Bool.or_eq_true,decide_eq_true_eq,←hm k']
   exact ⟨fun z=>z.elim id (fun e=>e▸hSk),.inl⟩,hb,hf,by rw [hSk];exact hn,hU⟩
  rw [hSk] at q;rw [e];exact q
 | none=>
  dsimp only
  have hSk:S k=false:=by
   cases z:S k with
   | false=>rfl
   | true=>
    obtain ⟨e,he,hp⟩:=(hm k).mp z
    have:=List.findIdx?_eq_none_iff.mp hi e he
    rw [hp] at this;cases this
  have hp:=layNew_perm t es ((intKind prog w).hash k) (.int k tk)
  have hfit:=layNew_fits t es ((intKind prog w).hash k) (.int k tk)
  have hup:=up_layNew hU.1 es ((intKind prog w).hash k) (.int k tk)
  generalize layNew t es ((intKind prog w).hash k) (.int k tk)=L at hp hfit hup ⊢
  obtain ⟨es1,t1,wd,gv⟩:=L
  dsimp only at hp hfit hup ⊢
  rw [Array.toList_push] at hp
  have hel1:ElemsOf (intKind prog w) es1.toList:=(hel.push hk hsc).perm hp
  have hm1:=mem_push_iff hk hm hp
  have hz1:es1.size=n + 1:=by rw [←Array.length_toList,hp.length_eq,List.length_append,Array.length_toList,hn];rfl
  have hb1:es1.size < scanBound:=by lia
  have hU1:TabU w t1:=⟨hup.1,hup.2.trans hU.2⟩
  have fin:∀ h',Heap.SameBut a s.heap h'→SetU prog w h' a (fun k'=>S k'||decide (k'=k)) es1.size→Q true { s with heap:=h' }:=fun h' sb x=>by
   have:=h h' sb
   rw [hSk] at this
   rw [hz1] at x
   exact this x
  refine wpAny_bind (gave ?_)
  ·split
   ·refine wpAny_bind ?_
    rw [hashByValue_scannable 8 hsc]
    refine wpAny_pure ?_
    refine add_tail (fun b s₁ Q' hq=>by cases b <;> first | exact wpAny_pure hq | exact wpAny_rule hq) ho hel1 hm1 hb1 ?_ ?_ fun h' sb x=>by (dsimp only;exact wpAny_pure (fin h' sb x))
    ·split
     ·exact hfit
     ·exact SetTable.fits_plain_off hfit
    ·split
     ·exact hU1
     ·exact hU1
   ·refine wpAny_bind (wpAny_pure ?_)
    simp only [↓reduceIte]
    exact add_tail (fun b s₁ Q' hq=>by cases b <;> first | exact wpAny_pure hq | exact wpAny_rule hq) ho hel1 hm1 hb1 hfit hU1 fun h' sb x=>by (dsimp only;exact wpAny_pure (fin h' sb x))
end
end L2
namespace L2
open PySem PySem.Spec PyProof.Rows
noncomputable abbrev PrS:=SetTable.Probe
noncomputable def adv (m:Nat) (p:PrS):PrS:=
 if p.more > 0 then { p with j:=p.j + 1,more:=p.more - 1 } else { p with j:=(SetTable.leap m p.i p.perturb).1,more:=SetTable.runEnd m (SetTable.leap m p.i p.perturb).1 - (SetTable.leap m p.i p.perturb).1,i:=(SetTable.leap m p.i p.perturb).1,perturb:=(SetTable.leap m p.i p.perturb).2 }
theorem adv_eq (t:SetTable) (p:PrS):t.advance p=adv t.mask p:=rfl
noncomputable def nthP (m:Nat):Nat→PrS→PrS
 | 0,p=>p
 | k + 1,p=>nthP m k (adv m p)
noncomputable def rs (m i pe:Nat):PrS:={ j:=i,more:=SetTable.runEnd m i - i,i:=i,perturb:=pe,dummy:=none }
noncomputable def stP (m:Nat) (h:Int):PrS:=rs m (SetTable.bits h % (m + 1)) (SetTable.bits h)
theorem nthP_add (m:Nat):∀ (a b:Nat) (p:PrS),nthP m (a + b) p=nthP m b (nthP m a p)
 | 0,b,p=>by rw [Nat.zero_add];rfl
 | a + 1,b,p=>by
  rw [Nat.succ_add]
  exact nthP_add m a b (adv m p)
theorem adv_dummy (m:Nat) (p:PrS):(adv m p).dummy=p.dummy:=by
 unfold adv
 split <;> rfl
theorem run_at (m:Nat):∀ (k:Nat) (p:PrS),k≤p.more→nthP m k p={ p with j:=p.j + k,more:=p.more - k }
 | 0,p,_=>rfl
 | k + 1,p,h=>by
  have e:adv m p={ p with j:=p.j + 1,more:=p.more - 1 }:=by
   unfold adv
   rw [if_pos (by lia)]
  show nthP m k (adv m p)=_
  rw [e,run_at m k _ (by show k≤p.more - 1;lia)]
  show ({ p with j:=p.j + 1 + k,more:=p.more - 1 - k }:PrS)=_
  rw [show p.j + 1 + k=p.j + (k + 1) by lia,show p.more - 1 - k=p.more - (k + 1) by lia]
theorem run_leap (m i pe:Nat):nthP m ((SetTable.runEnd m i - i) + 1) (rs m i pe)=rs m (SetTable.leap m i pe).1 (SetTable.leap m i pe).2:=by
 have e:=run_at m (SetTable.runEnd m i - i) (rs m i pe) (Nat.le_refl _)
 rw [nthP_add,e]
 show adv m { rs m i pe with j:=i + (SetTable.runEnd m i - i),more:=(SetTable.runEnd m i - i) - (SetTable.runEnd m i - i) }=_
 unfold adv
 rw [if_neg (by show ¬((SetTable.runEnd m i - i) - (SetTable.runEnd m i - i) > 0);lia)]
 rfl
theorem run_len (m i:Nat):SetTable.runEnd m i - i≤9∧i≤SetTable.runEnd m i:=by
 unfold SetTable.runEnd
 split <;> lia
noncomputable def lpI (m:Nat):Nat→Nat×Nat→Nat×Nat
 | 0,q=>q
 | n + 1,q=>lpI m n (SetTable.leap m q.1 q.2)
theorem lp_at (m:Nat):∀ (n i pe:Nat),∃ k,k≤10 * n∧nthP m k (rs m i pe)=rs m (lpI m n (i,pe)).1 (lpI m n (i,pe)).2
 | 0,i,pe=>⟨0,Nat.le_refl _,rfl⟩
 | n + 1,i,pe=>by
  obtain ⟨k,hk,e⟩:=lp_at m n (SetTable.leap m i pe).1 (SetTable.leap m i pe).2
  refine ⟨((SetTable.runEnd m i - i) + 1) + k,by have:=(run_len m i).1;lia,?_⟩
  rw [nthP_add,run_leap,e]
  rfl
theorem lp_pe (m:Nat):∀ (n i pe:Nat),(lpI m n (i,pe)).2=pe / 32 ^ n
 | 0,i,pe=>by simp [lpI]
 | n + 1,i,pe=>by
  show (lpI m n (SetTable.leap m i pe)).2=_
  have:SetTable.leap m i pe=((SetTable.leap m i pe).1,pe / 32):=rfl
  rw [this,lp_pe m n,Nat.div_div_eq_div_mul,Nat.pow_succ,Nat.mul_comm]
noncomputable def fS (m x:Nat):Nat:=(x * 5 + 1) % (m + 1)
noncomputable def itS (m:Nat):Nat→Nat→Nat
 | 0,x=>x
 | r + 1,x=>itS m r (fS m x)
theorem itS_add (m:Nat):∀ (a b x:Nat),itS m (a + b) x=itS m b (itS m a x)
 | 0,b,x=>by rw [Nat.zero_add];rfl
 | a + 1,b,x=>by
  rw [Nat.succ_add]
  exact itS_add m a b _
theorem lp_zero (m:Nat):∀ (r x:Nat),lpI m r (x,0)=(itS m r x,0)
 | 0,x=>rfl
 | r + 1,x=>by
  show lpI m r (SetTable.leap m x 0)=_
  have:SetTable.leap m x 0=(fS m x,0):=rfl
  rw [this,lp_zero m r]
  rfl
theorem lpI_add (m:Nat):∀ (a b:Nat) (q:Nat×Nat),lpI m (a + b) q=lpI m b (lpI m a q)
 | 0,b,q=>by rw [Nat.zero_add];rfl
 | a + 1,b,q=>by
  rw [Nat.succ_add]
  exact lpI_add m a b _
noncomputable def orbL (m:Nat):Nat→Nat→List Nat
 | 0,_=>[]
 | n + 1,x=>x::orbL m n (fS m x)
theorem orb_at (m:Nat):∀ (n x s:Nat),s∈orbL m n x→∃ r,r < n∧itS m r x=s
 | 0,x,s,h=>by cases h
 | n + 1,x,s,h=>by
  rcases List.mem_cons.mp h with rfl | h
  ·exact ⟨0,by lia,rfl⟩
  ·obtain ⟨r,hr,e⟩:=orb_at m n _ s h
   exact ⟨r + 1,by lia,e⟩
noncomputable def Msk (m:Nat):Prop:=m=7∨m=31∨m=127
noncomputable def cycB (m:Nat):Bool:=(itS m (m + 1) 0==0)&&(List.range (m + 1)).all fun s=>(orbL m (m + 1) 0).contains s
theorem cyc_ok {m:Nat} (h:Msk m):cycB m=true:=by
 rcases h with rfl | rfl | rfl <;> decide +kernel
theorem cyc {m:Nat} (hm:Msk m) {x s:Nat} (hx:x≤m) (hs:s≤m):∃ r,r≤m∧itS m r x=s:=by
 have h:=cyc_ok hm
 unfold cycB at h
 rw [Bool.and_eq_true,List.all_eq_true] at h
 obtain ⟨h0,h1⟩:=h
 have h0:itS m (m + 1) 0=0:=eq_of_beq h0
 have g:∀ s,s≤m→∃ r,r < m + 1∧itS m r 0=s:=fun s hs=>orb_at m (m + 1) 0 s (by simpa using h1 s (List.mem_range.mpr (by lia)))
 obtain ⟨a,ha,ea⟩:=g x hx
 obtain ⟨b,hb,eb⟩:=g s hs
 by_cases hab:a≤b
 ·refine ⟨b - a,by lia,?_⟩
  rw [←ea,←itS_add,show a + (b - a)=b by lia]
  exact eb
 ·refine ⟨b + (m + 1) - a,by lia,?_⟩
  rw [←ea,←itS_add,show a + (b + (m + 1) - a)=(m + 1) + b by lia,itS_add,h0]
  exact eb
theorem bits_lt (h:Int):SetTable.bits h < 2 ^ 64:=by
 unfold SetTable.bits
 have h1:=Int.emod_lt_of_pos h (show (0:Int) < 2 ^ 64 by decide)
 have h2:=Int.emod_nonneg h (show (2 ^ 64:Int)≠0 by decide)
 lia
theorem lp_le {m:Nat}:∀ (n i pe:Nat),i≤m→(lpI m n (i,pe)).1≤m
 | 0,i,pe,h=>h
 | n + 1,i,pe,_=>by
  show (lpI m n (SetTable.leap m i pe)).1≤m
  have:SetTable.leap m i pe=((SetTable.leap m i pe).1,(SetTable.leap m i pe).2):=rfl
  rw [this]
  refine lp_le n _ _ ?_
  show (i * 5 + 1 + pe / 32) % (m + 1)≤m
  have:=Nat.mod_lt (i * 5 + 1 + pe / 32) (show 0 < m + 1 by lia)
  lia
theorem lp_all {m:Nat} (hm:Msk m) {i pe:Nat} (hi:i≤m) (hp:pe < 2 ^ 64) {s:Nat} (hs:s≤m):∃ n,n < SetTable.turns m∧(lpI m n (i,pe)).1=s:=by
 have e0:(lpI m 13 (i,pe)).2=0:=by
  rw [lp_pe]
  exact Nat.div_eq_of_lt (Nat.lt_of_lt_of_le hp (by decide))
 have h13:=lp_le 13 i pe hi
 obtain ⟨r,hr,e⟩:=cyc hm h13 hs
 refine ⟨13 + r,by unfold SetTable.turns;lia,?_⟩
 rw [lpI_add,show lpI m 13 (i,pe)=((lpI m 13 (i,pe)).1,0) from Prod.ext rfl e0,lp_zero]
 exact e
theorem st_le (m:Nat) (h:Int):SetTable.bits h % (m + 1)≤m:=by
 have:=Nat.mod_lt (SetTable.bits h) (show 0 < m + 1 by lia)
 lia
noncomputable def pj (m:Nat) (h:Int) (k:Nat):Nat:=(nthP m k (stP m h)).j
theorem pj_all {m:Nat} (hm:Msk m) (h:Int) {s:Nat} (hs:s≤m):∃ k,k < 10 * SetTable.turns m∧pj m h k=s:=by
 obtain ⟨n,hn,e⟩:=lp_all hm (st_le m h) (bits_lt h) hs
 obtain ⟨k,hk,ek⟩:=lp_at m n (SetTable.bits h % (m + 1)) (SetTable.bits h)
 refine ⟨k,by lia,?_⟩
 unfold pj stP
 rw [ek]
 exact e
noncomputable def G (m:Nat) (T:Nat→Option Int):Prop:=∀ j h,T j=some h→∃ k,k < 10 * SetTable.turns m∧pj m h k=j∧∀ k',k' < k→∃ h',T (pj m h k')=some h'∧h'≠h
theorem first_at {T:Nat→Option Int} {h:Int} {g:Nat→Nat} {n:Nat} (hx:∃ k,k < n∧(T (g k)=none∨T (g k)=some h)):∃ k,k < n∧(T (g k)=none∨T (g k)=some h)∧∀ k',k' < k→∃ h',T (g k')=some h'∧h'≠h:=by
 induction n with
 | zero=>obtain ⟨k,hk,_⟩:=hx;exact absurd hk (Nat.not_lt_zero k)
 | succ n ih=>
  by_cases hy:∃ k,k < n∧(T (g k)=none∨T (g k)=some h)
  ·obtain ⟨k,hk,r⟩:=ih hy
   exact ⟨k,by lia,r⟩
  ·obtain ⟨k,hk,hg⟩:=hx
   have ek:k=n:=by
    apply Classical.byContradiction
    intro z
    exact hy ⟨k,by lia,hg⟩
   subst ek
   refine ⟨k,hk,hg,fun k' hk'=>?_⟩
   cases e:T (g k') with
   | none=>exact absurd ⟨k',hk',.inl e⟩ hy
   | some h'=>exact ⟨h',rfl,fun z=>hy ⟨k',hk',.inr (by rw [e,z])⟩⟩
theorem G.free {m:Nat} {T:Nat→Option Int} (g:G m T) {h:Int} {k:Nat} (e:T (pj m h k)=none) (hb:∀ k',k' < k→∃ h',T (pj m h k')=some h'∧h'≠h):∀ j,T j≠some h:=fun j z=>by
 obtain ⟨k1,_,e1,b1⟩:=g j h z
 rcases Nat.lt_trichotomy k k1 with c | c | c
 ·obtain ⟨h',e',_⟩:=b1 k c
  rw [e] at e'
  cases e'
 ·subst c
  rw [e1,z] at e
  cases e
 ·obtain ⟨h',e',n'⟩:=hb k1 c
  rw [e1,z] at e'
  cases e'
  exact n' rfl
theorem G.put {m:Nat} {T T':Nat→Option Int} (g:G m T) {h:Int} {k:Nat} (hk:k < 10 * SetTable.turns m) (e:T (pj m h k)=none) (hb:∀ k',k' < k→∃ h',T (pj m h k')=some h'∧h'≠h)
  (h1:T' (pj m h k)=some h) (h2:∀ j,j≠pj m h k→T' j=T j):G m T':=fun j h3 z=>by
 by_cases c:j=pj m h k
 ·subst c
  rw [h1] at z
  cases z
  refine ⟨k,hk,rfl,fun k' hk'=>?_⟩
  obtain ⟨h',e',n'⟩:=hb k' hk'
  exact ⟨h',by rw [h2 _ fun z=>by rw [z,e] at e';cases e'];exact e',n'⟩
 ·rw [h2 j c] at z
  obtain ⟨k1,a1,a2,a3⟩:=g j h3 z
  refine ⟨k1,a1,a2,fun k' hk'=>?_⟩
  obtain ⟨h',e',n'⟩:=a3 k' hk'
  exact ⟨h',by rw [h2 _ fun z=>by rw [z,e] at e';cases e'];exact e',n'⟩
theorem go_at {t:SetTable} (hd:t.dummies=#[]) {f:Nat→Int} {h:Int} {T:Nat→Option Int} (hT:∀ j,T j=match t.slot j with | .live i=>some (f i) | _=>none):
  ∀ (n:Nat) (p:PrS),p.dummy=none→∀ k,k < n→(T (nthP t.mask k p).j=none∨T (nthP t.mask k p).j=some h)→(∀ k',k' < k→∃ h',T (nthP t.mask k' p).j=some h'∧h'≠h)→
   (T (nthP t.mask k p).j=none→SetTable.probe.go t f h n p=some (.empty (nthP t.mask k p).j none))∧(T (nthP t.mask k p).j=some h→∃ i nx,t.slot (nthP t.mask k p).j=.live i∧f i=h∧SetTable.probe.go t f h n p=some (.candidate (nthP t.mask k p).j i nx))
 | 0,p,_,k,hk,_,_=>absurd hk (Nat.not_lt_zero k)
 | n + 1,p,hp,k,hk,hs,hb=>by
  have nd:∀ j,t.slot j≠.dummy:=fun j=>by
   unfold SetTable.slot
   dsimp only
   split
   ·exact fun z=>nomatch z
   ·have:SetTable.has t.dummies j=false:=by
     unfold SetTable.has
     rw [hd]
     simp
    rw [this]
    exact fun z=>nomatch z
  unfold SetTable.probe.go
  cases k with
  | zero=>
   show (T p.j=none→_)∧(T p.j=some h→_)
   have hTp:=hT p.j
   cases es:t.slot p.j with
   | empty=>
    rw [es] at hTp
    dsimp only at hTp ⊢
    rw [hTp]
    exact ⟨fun _=>by rw [hp];rfl,fun z=>by cases z⟩
   | dummy=>exact absurd es (nd _)
   | live i=>
    rw [es] at hTp
    dsimp only at hTp ⊢
    have hs':T p.j=none∨T p.j=some h:=hs
    rw [hTp] at hs' ⊢
    rcases hs' with z | z
    ·cases z
    ·have e:f i=h:=Option.some.inj z
     refine ⟨fun z=>by (cases z),fun _=>⟨i,t.advance p,es,e,?_⟩⟩
     rw [if_pos (by rw [e];exact beq_self_eq_true _)]
     rfl
  | succ k=>
   obtain ⟨h',e',n'⟩:=hb 0 (by lia)
   have e':T p.j=some h':=e'
   have hTp:=hT p.j
   cases es:t.slot p.j with
   | empty=>rw [es,e'] at hTp;cases hTp
   | dummy=>exact absurd es (nd _)
   | live i=>
    rw [es,e'] at hTp
    have ei:h'=f i:=Option.some.inj hTp
    dsimp only
    rw [if_neg (by rw [←ei];simpa using n')]
    have:=go_at hd hT n (t.advance p) (by rw [adv_eq,adv_dummy];exact hp) k (by lia) hs fun k' hk'=>hb (k' + 1) (by lia)
    exact this
end L2
namespace L2
open PySem PySem.Spec PyProof.Rows
noncomputable def Tz (zs:List (Nat×Int)) (j:Nat):Option Int:=(zs.find? fun q=>q.1==j).map (·.2)
theorem Tz_mem {zs:List (Nat×Int)} {j:Nat} {h:Int} (e:Tz zs j=some h):(j,h)∈zs:=by
 unfold Tz at e
 cases g:zs.find? fun q=>q.1==j with
 | none=>rw [g] at e;cases e
 | some q=>
  rw [g] at e
  have h1:=List.mem_of_find?_eq_some g
  have h2:=List.find?_some g
  have h2:q.1=j:=eq_of_beq h2
  have h3:q.2=h:=Option.some.inj e
  rw [←h2,←h3]
  exact h1
theorem Tz_of {zs:List (Nat×Int)} (nd:(zs.map (·.1)).Nodup) {j:Nat} {h:Int} (e:(j,h)∈zs):Tz zs j=some h:=by
 induction zs with
 | nil=>cases e
 | cons q zs ih=>
  rw [List.map_cons,List.nodup_cons] at nd
  unfold Tz
  rw [List.find?_cons]
  rcases List.mem_cons.mp e with rfl | e
  ·simp
  ·have:(q.1==j)=false:=by
    cases g:q.1==j with
    | false=>rfl
    | true=>exact absurd (List.mem_map.mpr ⟨(j,h),e,(eq_of_beq g).symm⟩) nd.1
   rw [this]
   exact ih nd.2 e
theorem Tz_perm {zs ys:List (Nat×Int)} (nd:(zs.map (·.1)).Nodup) (hp:zs.Perm ys) (j:Nat):Tz zs j=Tz ys j:=by
 have nd':(ys.map (·.1)).Nodup:=(hp.map _).nodup_iff.mp nd
 cases e:Tz zs j with
 | some h=>exact (Tz_of nd' (hp.mem_iff.mp (Tz_mem e))).symm
 | none=>
  cases e':Tz ys j with
  | none=>rfl
  | some h=>
   rw [Tz_of nd (hp.mem_iff.mpr (Tz_mem e'))] at e
   cases e
theorem Tz_cons (zs:List (Nat×Int)) (j0:Nat) (h0:Int) (j:Nat):Tz ((j0,h0)::zs) j=if j0=j then some h0 else Tz zs j:=by
 unfold Tz
 rw [List.find?_cons]
 by_cases e:j0=j
 ·subst e
  simp
 ·rw [if_neg e]
  have:(j0==j)=false:=by simpa using e
  rw [this]
noncomputable def zOf (t:SetTable) (es:Array (Int×Value)):List (Nat×Int):=t.place.toList.zip (es.toList.map (·.1))
theorem slot_live {t:SetTable} (u:UpT t) {i j:Nat}:t.slot j=.live i↔t.place[i]? =some j:=by
 have B:=below_is u.1 j
 constructor
 ·intro h
  unfold SetTable.slot at h
  dsimp only at h
  split at h
  ·rename_i g
   cases h
   exact eq_of_beq g
  ·split at h <;> cases h
 ·intro h
  have hi:i < t.place.size:=(Array.getElem?_eq_some_iff.mp h).1
  have ej:t.place.getD i j=j:=by
   have:=(Array.getElem?_eq_some_iff.mp h).2
   simp [Array.getD,hi,this]
  have ek:SetTable.below t.place j=i:=by
   generalize SetTable.below t.place j=k at B
   rcases Nat.lt_trichotomy k i with c | c | c
   ·have h1:=B.hi k (Nat.le_refl _) (by lia)
    have h2:=up_at (j:=j) u.1 c hi
    lia
   ·exact c
   ·have h1:=B.lo i c
    lia
  unfold SetTable.slot
  dsimp only
  rw [ek,h]
  simp
theorem slot_not {t:SetTable} (u:UpT t) {j:Nat} (h:∀ i:Nat,t.place[i]? ≠some j):t.slot j=.empty:=by
 unfold SetTable.slot
 dsimp only
 have h1:=h (SetTable.below t.place j)
 rw [if_neg (by simpa using h1)]
 have:SetTable.has t.dummies j=false:=by
  unfold SetTable.has
  rw [u.2]
  simp
 rw [this]
 rfl
theorem zOf_mem {t:SetTable} {es:Array (Int×Value)} (hz:t.place.size=es.size) {j:Nat} {h:Int}:(j,h)∈zOf t es↔∃ (i:Nat) (e:Int×Value),t.place[i]? =some j∧es[i]? =some e∧e.1=h:=by
 unfold zOf
 constructor
 ·intro hm
  obtain ⟨i,hi,e⟩:=List.getElem_of_mem hm
  rw [List.length_zip,List.length_map,Array.length_toList,Array.length_toList] at hi
  rw [List.getElem_zip] at e
  injection e with e1 e2
  refine ⟨i,es[i]'(by lia),?_,Array.getElem?_eq_getElem _,?_⟩
  ·rw [Array.getElem?_eq_getElem (by lia)]
   rw [←e1]
   simp
  ·rw [←e2]
   simp
 ·rintro ⟨i,e,h1,h2,rfl⟩
  have hi:=(Array.getElem?_eq_some_iff.mp h1).1
  have:(t.place.toList.zip (es.toList.map (·.1)))[i]? =some (j,e.1):=by
   rw [List.getElem?_zip_eq_some]
   refine ⟨by rw [Array.getElem?_toList];exact h1,?_⟩
   rw [List.getElem?_map,Array.getElem?_toList,h2]
   rfl
  exact List.mem_of_getElem? this
theorem zOf_keys {t:SetTable} {es:Array (Int×Value)} (hz:t.place.size=es.size):(zOf t es).map (·.1)=t.place.toList:=by
 unfold zOf
 rw [List.map_fst_zip]
 rw [List.length_map,Array.length_toList,Array.length_toList]
 lia
theorem zOf_vals {t:SetTable} {es:Array (Int×Value)} (hz:t.place.size=es.size):(zOf t es).map (·.2)=es.toList.map (·.1):=by
 unfold zOf
 rw [List.map_snd_zip]
 rw [List.length_map,Array.length_toList,Array.length_toList]
 lia
theorem up_nd {t:SetTable} (u:UpT t):t.place.toList.Nodup:=u.1.imp fun {a b} h=>Nat.ne_of_lt h
theorem Tz_slot {t:SetTable} {es:Array (Int×Value)} (u:UpT t) (hz:t.place.size=es.size) {f:Nat→Int} (hf:∀ (i:Nat) (e:Int×Value),es[i]? =some e→f i=e.1) (j:Nat):Tz (zOf t es) j=match t.slot j with | .live i=>some (f i) | _=>none:=by
 have nd:((zOf t es).map (·.1)).Nodup:=by rw [zOf_keys hz];exact up_nd u
 by_cases h:∃ i:Nat,t.place[i]? =some j
 ·obtain ⟨i,hi⟩:=h
  have hlt:=(Array.getElem?_eq_some_iff.mp hi).1
  have e1:es[i]? =some (es[i]'(by lia)):=Array.getElem?_eq_getElem _
  rw [(slot_live u).mpr hi]
  dsimp only
  rw [hf i _ e1]
  exact Tz_of nd ((zOf_mem hz).mpr ⟨i,_,hi,e1,rfl⟩)
 ·have h':∀ i:Nat,t.place[i]? ≠some j:=fun i z=>h ⟨i,z⟩
  rw [slot_not u h']
  cases e:Tz (zOf t es) j with
  | none=>rfl
  | some x=>
   obtain ⟨i,_,hi,_⟩:=(zOf_mem hz).mp (Tz_mem e)
   exact absurd hi (h' i)
theorem zOf_put {t:SetTable} {es:Array (Int×Value)} (u:UpT t) (hz:t.place.size=es.size) (j:Nat) (h:Int) (x:Value):(zOf (t.put j).1 (SetTable.insertAt es (t.put j).2 (h,x))).Perm ((j,h)::zOf t es):=by
 have hk:SetTable.below t.place j≤t.place.size:=(below_is u.1 j).le
 unfold zOf SetTable.put
 dsimp only
 rw [SetTable.toList_insertAt,SetTable.toList_insertAt,List.map_append,List.map_cons]
 generalize SetTable.below t.place j=k at hk
 have l1:(t.place.toList.take k).length=((es.toList.take k).map (·.1)).length:=by
  rw [List.length_map,List.length_take,List.length_take,Array.length_toList,Array.length_toList]
  lia
 rw [List.zip_append l1,List.zip_cons_cons]
 refine List.perm_middle.trans ?_
 refine List.Perm.cons _ ?_
 rw [List.map_take,List.map_drop,←List.zip_append (by rw [List.length_take,List.length_take,List.length_map,Array.length_toList,Array.length_toList];lia),List.take_append_drop,List.take_append_drop]
theorem put_size (t:SetTable) (j:Nat):(t.put j).1.place.size=t.place.size + 1:=by
 unfold SetTable.put
 dsimp only
 rw [←Array.length_toList,SetTable.toList_insertAt,List.length_append,List.length_cons,List.length_take,List.length_drop,Array.length_toList]
 lia
structure TabZ (w:World) (t:SetTable) (es:Array (Int×Value)):Prop where
 up:TabU w t
 msk:Msk t.mask
 sz:t.place.size=es.size
 le:∀ j∈t.place.toList,j≤t.mask
 g:G t.mask (Tz (zOf t es))
theorem nat_sub:∀ {l:List Nat} {m:Nat},l.Nodup→l.length < m→(∀ j∈l,j < m)→∃ s,s < m∧s∉l
 | l,0,_,h,_=>absurd h (Nat.not_lt_zero _)
 | l,m + 1,nd,h,hl=>by
  by_cases hm:m∈l
  ·obtain ⟨s,h1,h2⟩:=nat_sub (l:=l.erase m) (m:=m) (nd.erase m) (by rw [List.length_erase_of_mem hm];have:=List.length_pos_of_mem hm;lia) fun j hj=>by
    have:=(List.Nodup.mem_erase_iff nd).mp hj
    have:=hl j this.2
    have:j≠m:=(List.Nodup.mem_erase_iff nd).mp hj |>.1
    lia
   exact ⟨s,by lia,fun z=>h2 ((List.Nodup.mem_erase_iff nd).mpr ⟨by lia,z⟩)⟩
  ·exact ⟨m,by lia,hm⟩
theorem TabZ.probe {w:World} {t:SetTable} {es:Array (Int×Value)} (z:TabZ w t es) (hs:es.size≤t.mask) (h:Int) {f:Nat→Int} (hf:∀ (i:Nat) (e:Int×Value),es[i]? =some e→f i=e.1):
  ∃ k,k < 10 * SetTable.turns t.mask∧(∀ k',k' < k→∃ h',Tz (zOf t es) (pj t.mask h k')=some h'∧h'≠h)∧
   ((Tz (zOf t es) (pj t.mask h k)=none∧t.probe f h (t.probeStart h)=some (.empty (pj t.mask h k) none))∨∃ (i:Nat) (nx:PrS) (e:Int×Value),es[i]? =some e∧e.1=h∧t.probe f h (t.probeStart h)=some (.candidate (pj t.mask h k) i nx)):=by
 obtain ⟨s,hs1,hs2⟩:=nat_sub (m:=t.mask + 1) (up_nd z.up.1) (by rw [Array.length_toList,z.sz];lia) fun j hj=>by have:=z.le j hj;lia
 obtain ⟨k0,hk0,e0⟩:=pj_all z.msk h (s:=s) (by lia)
 have free:Tz (zOf t es) s=none:=by
  cases e:Tz (zOf t es) s with
  | none=>rfl
  | some x=>
   have:s∈(zOf t es).map (·.1):=List.mem_map.mpr ⟨_,Tz_mem e,rfl⟩
   rw [zOf_keys z.sz] at this
   exact absurd this hs2
 obtain ⟨k,hk,hg,hb⟩:=first_at (T:=Tz (zOf t es)) (h:=h) (g:=pj t.mask h) ⟨k0,hk0,.inl (by rw [e0];exact free)⟩
 have gs:=go_at z.up.1.2 (Tz_slot z.up.1 z.sz hf) (10 * SetTable.turns t.mask) (stP t.mask h) rfl k hk hg hb
 refine ⟨k,hk,hb,?_⟩
 rcases hg with e | e
 ·exact .inl ⟨e,gs.1 e⟩
 ·obtain ⟨i,nx,h1,h2,h3⟩:=gs.2 e
  have hi:=(slot_live z.up.1).mp h1
  have hlt:=(Array.getElem?_eq_some_iff.mp hi).1
  have e1:es[i]? =some (es[i]'(by have:=z.sz;lia)):=Array.getElem?_eq_getElem _
  exact .inr ⟨i,nx,_,e1,by rw [←hf i _ e1];exact h2,h3⟩
theorem nthP_le {m:Nat}:∀ (k:Nat) (p:PrS),p.j + p.more≤m→(nthP m k p).j≤m
 | 0,p,h=>by show p.j≤m;lia
 | k + 1,p,h=>by
  refine nthP_le k (adv m p) ?_
  unfold adv
  split
  ·show p.j + 1 + (p.more - 1)≤m
   lia
  ·show (SetTable.leap m p.i p.perturb).1 + (SetTable.runEnd m (SetTable.leap m p.i p.perturb).1 - (SetTable.leap m p.i p.perturb).1)≤m
   have h1:(SetTable.leap m p.i p.perturb).1≤m:=by
    show (p.i * 5 + 1 + p.perturb / 32) % (m + 1)≤m
    have:=Nat.mod_lt (p.i * 5 + 1 + p.perturb / 32) (show 0 < m + 1 by lia)
    lia
   generalize (SetTable.leap m p.i p.perturb).1=i at h1
   unfold SetTable.runEnd
   split <;> lia
theorem rs_le {m i:Nat} (pe:Nat) (h:i≤m):(rs m i pe).j + (rs m i pe).more≤m:=by
 show i + (SetTable.runEnd m i - i)≤m
 unfold SetTable.runEnd
 split <;> lia
theorem pj_le (m:Nat) (h:Int) (k:Nat):pj m h k≤m:=nthP_le k _ (rs_le _ (st_le m h))
theorem TabZ.put {w:World} {t:SetTable} {es:Array (Int×Value)} (z:TabZ w t es) {h:Int} {k:Nat} (hk:k < 10 * SetTable.turns t.mask) (e:Tz (zOf t es) (pj t.mask h k)=none) (hb:∀ k',k' < k→∃ h',Tz (zOf t es) (pj t.mask h k')=some h'∧h'≠h) (x:Value):
  TabZ w (t.put (pj t.mask h k)).1 (SetTable.insertAt es (t.put (pj t.mask h k)).2 (h,x))∧(zOf (t.put (pj t.mask h k)).1 (SetTable.insertAt es (t.put (pj t.mask h k)).2 (h,x))).Perm ((pj t.mask h k,h)::zOf t es)∧∀ j,Tz (zOf t es) j≠some h:=by
 have nd:((zOf t es).map (·.1)).Nodup:=by rw [zOf_keys z.sz];exact up_nd z.up.1
 have np:t.place[SetTable.below t.place (pj t.mask h k)]? ≠some (pj t.mask h k):=fun q=>by
  have hlt:=(Array.getElem?_eq_some_iff.mp q).1
  rw [Tz_of nd ((zOf_mem z.sz).mpr ⟨_,es[SetTable.below t.place (pj t.mask h k)]'(by rw [←z.sz];exact hlt),q,Array.getElem?_eq_getElem _,rfl⟩)] at e
  cases e
 have hp:=zOf_put z.up.1 z.sz (pj t.mask h k) h x
 have hu:UpT (t.put (pj t.mask h k)).1:=by
  unfold SetTable.put
  refine ⟨ins_up z.up.1.1 np,?_⟩
  dsimp only
  have:SetTable.has t.dummies (pj t.mask h k)=false:=by
   unfold SetTable.has
   rw [z.up.1.2]
   simp
  rw [this]
  exact z.up.1.2
 have hsz:(t.put (pj t.mask h k)).1.place.size=(SetTable.insertAt es (t.put (pj t.mask h k)).2 (h,x)).size:=by
  rw [put_size,z.sz,←Array.length_toList (xs:=SetTable.insertAt _ _ _),SetTable.toList_insertAt,List.length_append,List.length_cons,List.length_take,List.length_drop,Array.length_toList]
  lia
 have nd':((zOf (t.put (pj t.mask h k)).1 (SetTable.insertAt es (t.put (pj t.mask h k)).2 (h,x))).map (·.1)).Nodup:=by rw [zOf_keys hsz];exact up_nd hu
 have hT:∀ j,Tz (zOf (t.put (pj t.mask h k)).1 (SetTable.insertAt es (t.put (pj t.mask h k)).2 (h,x))) j=if pj t.mask h k=j then some h else Tz (zOf t es) j:=fun j=>by rw [Tz_perm nd' hp,Tz_cons]
 refine ⟨⟨⟨hu,z.up.2⟩,z.msk,hsz,fun j hj=>?_,?_⟩,hp,z.g.free e hb⟩
 ·rw [←zOf_keys hsz] at hj
  obtain ⟨q,hq,rfl⟩:=List.mem_map.mp hj
  rcases List.mem_cons.mp (hp.mem_iff.mp hq) with rfl | hq
  ·exact pj_le _ _ _
  ·exact z.le _ (by rw [←zOf_keys z.sz];exact List.mem_map.mpr ⟨q,hq,rfl⟩)
 ·exact z.g.put hk e hb (by rw [hT,if_pos rfl]) fun j hj=>by rw [hT,if_neg (Ne.symm hj)]
end L2
namespace L2
open PySem PySem.Spec PyProof.Rows
theorem getD_in {α:Type} {a:Array α} {j:Nat} (h:j < a.size) (x y:α):a.getD j x=a.getD j y:=by simp [Array.getD,h]
theorem free_at {m:Nat} {owner:Array (Option Nat)} (hz:owner.size=m + 1):∀ (fuel i pe:Nat),i≤m→(∃ n,n < fuel∧owner.getD (lpI m n (i,pe)).1 (some 0)=none)→
  ∃ k,k < 10 * fuel∧SetTable.layClean.free m owner fuel i pe=some (nthP m k (rs m i pe)).j∧owner.getD (nthP m k (rs m i pe)).j (some 0)=none∧∀ k',k' < k→owner.getD (nthP m k' (rs m i pe)).j (some 0)≠none
 | 0,i,pe,_,h=>by obtain ⟨n,hn,_⟩:=h;exact absurd hn (Nat.not_lt_zero n)
 | fuel + 1,i,pe,hi,h=>by
  obtain ⟨rl,ri⟩:=run_len m i
  have inrun:∀ k,k≤SetTable.runEnd m i - i→(nthP m k (rs m i pe)).j=i + k:=fun k hk=>by
   rw [run_at m k (rs m i pe) hk]
   rfl
  unfold SetTable.layClean.free
  cases hf:(List.range (SetTable.runEnd m i + 1 - i)).find? fun k=>(owner.getD (i + k) (some 0)).isNone with
  | some k=>
   dsimp only
   have hm:=List.mem_range.mp (List.mem_of_find?_eq_some hf)
   have hn:=List.find?_some hf
   have ek:=inrun k (by lia)
   refine ⟨k,by lia,by rw [ek],by rw [ek];simpa using hn,fun k' hk'=>?_⟩
   rw [inrun k' (by lia)]
   intro z
   have hx:=List.find?_range_eq_some.mp hf
   have:=hx.2.2 k' hk'
   rw [z] at this
   simp at this
  | none=>
   dsimp only
   have hno:∀ k,k≤SetTable.runEnd m i - i→owner.getD (i + k) (some 0)≠none:=fun k hk z=>by
    have:=List.find?_eq_none.mp hf k (List.mem_range.mpr (by lia))
    rw [z] at this
    simp at this
   have hnx:∃ n,n < fuel∧owner.getD (lpI m n (SetTable.leap m i pe)).1 (some 0)=none:=by
    obtain ⟨n,hn,e⟩:=h
    cases n with
    | zero=>exact absurd e (hno 0 (Nat.zero_le _))
    | succ n=>exact ⟨n,by lia,e⟩
   have hl:(SetTable.leap m i pe).1≤m:=by
    show (i * 5 + 1 + pe / 32) % (m + 1)≤m
    have:=Nat.mod_lt (i * 5 + 1 + pe / 32) (show 0 < m + 1 by lia)
    lia
   obtain ⟨k,h1,h2,h3,h4⟩:=free_at hz fuel (SetTable.leap m i pe).1 (SetTable.leap m i pe).2 hl hnx
   have e:∀ k,nthP m (((SetTable.runEnd m i - i) + 1) + k) (rs m i pe)=nthP m k (rs m (SetTable.leap m i pe).1 (SetTable.leap m i pe).2):=fun k=>by rw [nthP_add,run_leap]
   refine ⟨((SetTable.runEnd m i - i) + 1) + k,by lia,by rw [e];exact h2,by rw [e];exact h3,fun k' hk'=>?_⟩
   by_cases c:k'≤SetTable.runEnd m i - i
   ·rw [inrun k' c]
    exact hno k' c
   ·rw [show k'=((SetTable.runEnd m i - i) + 1) + (k' - ((SetTable.runEnd m i - i) + 1)) by lia,e]
    exact h4 _ (by lia)
noncomputable def liv (m:Nat) (owner:Array (Option Nat)):List (Nat×Nat):=(List.range (m + 1)).filterMap fun j=>(owner.getD j none).map (j, ·)
theorem mem_liv {m:Nat} {owner:Array (Option Nat)} {j i:Nat}:(j,i)∈liv m owner↔j < m + 1∧owner.getD j none=some i:=by
 unfold liv
 rw [List.mem_filterMap]
 constructor
 ·rintro ⟨j',hj,e⟩
  cases g:owner.getD j' none with
  | none=>rw [g] at e;cases e
  | some i'=>
   rw [g] at e
   cases e
   exact ⟨List.mem_range.mp hj,g⟩
 ·rintro ⟨hj,e⟩
  exact ⟨j,List.mem_range.mpr hj,by rw [e];rfl⟩
theorem fm_congr {α β:Type} {f g:α→Option β}:∀ {l:List α},(∀ x∈l,g x=f x)→l.filterMap g=l.filterMap f
 | [],_=>rfl
 | a::l,h=>by rw [List.filterMap_cons,List.filterMap_cons,h a (.head _),fm_congr fun x hx=>h x (.tail _ hx)]
theorem set_self {owner:Array (Option Nat)} {j:Nat} (h:j < owner.size) (v:Option Nat):(owner.setIfInBounds j v).getD j none=v:=by simp [Array.getD,h]
theorem set_ne (owner:Array (Option Nat)) {j x:Nat} (h:x≠j) (v:Option Nat):(owner.setIfInBounds j v).getD x none=owner.getD x none:=by
 rw [Array.getD_eq_getD_getElem?,Array.getD_eq_getD_getElem?,Array.getElem?_setIfInBounds_ne (Ne.symm h)]
theorem fm_upd {α β:Type} [DecidableEq α] {l:List α} (nd:l.Nodup) {j:α} (hj:j∈l) {f g:α→Option β} {y:β} (h1:f j=none) (h2:g j=some y) (h3:∀ x,x≠j→g x=f x):(l.filterMap g).Perm (y::l.filterMap f):=by
 induction l with
 | nil=>cases hj
 | cons a l ih=>
  rw [List.nodup_cons] at nd
  by_cases e:a=j
  ·subst e
   rw [List.filterMap_cons,List.filterMap_cons,h1,h2]
   dsimp only
   refine List.Perm.cons _ ?_
   rw [fm_congr fun x hx=>h3 x fun z=>nd.1 (z▸hx)]
  ·have hj':j∈l:=by
    rcases List.mem_cons.mp hj with z | z
    ·exact absurd z.symm e
    ·exact z
   have ih':=ih nd.2 hj'
   rw [List.filterMap_cons,List.filterMap_cons,h3 a e]
   cases f a with
   | none=>exact ih'
   | some b=>
    dsimp only
    exact (ih'.cons b).trans (List.Perm.swap _ _ _)
theorem fst_fm (m:Nat) (owner:Array (Option Nat)):((liv m owner).map (·.1)).Sublist (List.range (m + 1)):=by
 unfold liv
 generalize List.range (m + 1)=l
 induction l with
 | nil=>exact List.Sublist.refl _
 | cons a l ih=>
  rw [List.filterMap_cons]
  cases owner.getD a none with
  | none=>exact ih.cons a
  | some y=>exact ih.cons₂ a
theorem liv_up (m:Nat) (owner:Array (Option Nat)):((liv m owner).map (·.1)).Pairwise (· < ·):=List.pairwise_lt_range.sublist (fst_fm m owner)
theorem liv_nd (m:Nat) (owner:Array (Option Nat)):((liv m owner).map (·.1)).Nodup:=(liv_up m owner).imp fun {a b} h=>Nat.ne_of_lt h
noncomputable def zO (m:Nat) (owner:Array (Option Nat)) (hs:Array Int):List (Nat×Int):=(liv m owner).map fun q=>(q.1,hs.getD q.2 0)
theorem zO_keys (m:Nat) (owner:Array (Option Nat)) (hs:Array Int):(zO m owner hs).map (·.1)=(liv m owner).map (·.1):=by
 unfold zO
 rw [List.map_map]
 rfl
structure Lay (m:Nat) (hs:Array Int) (k:Nat) (owner:Array (Option Nat)):Prop where
 sz:owner.size=m + 1
 prm:((liv m owner).map (·.2)).Perm (List.range k)
 g:G m (Tz (zO m owner hs))
theorem lay0 (m:Nat) (hs:Array Int):Lay m hs 0 (Array.replicate (m + 1) none):=by
 have e:liv m (Array.replicate (m + 1) none)=[]:=by
  unfold liv
  rw [List.filterMap_eq_nil_iff]
  intro j hj
  have:=List.mem_range.mp hj
  simp [Array.getD,this]
 refine ⟨Array.size_replicate,by rw [e];exact List.Perm.refl _,fun j h z=>?_⟩
 unfold zO at z
 rw [e] at z
 cases z
theorem lay_step {m:Nat} (hm:Msk m) {hs:Array Int} {k:Nat} {owner:Array (Option Nat)} (L:Lay m hs k owner) (hk:k≤m) (hks:k < hs.size) (hd:∀ i,i < k→hs.getD i 0≠hs.getD k 0):
  ∃ j,SetTable.layClean.free m owner (SetTable.turns m) (SetTable.bits (hs.getD k 0) % (m + 1)) (SetTable.bits (hs.getD k 0))=some j∧Lay m hs (k + 1) (owner.setIfInBounds j (some k)):=by
 have llen:(liv m owner).length=k:=by
  have:=L.prm.length_eq
  rw [List.length_map,List.length_range] at this
  exact this
 obtain ⟨s,hs1,hs2⟩:=nat_sub (m:=m + 1) (liv_nd m owner) (by rw [List.length_map,llen];lia) fun j hj=>by
  obtain ⟨q,hq,rfl⟩:=List.mem_map.mp hj
  exact (mem_liv.mp hq).1
 have fs:owner.getD s none=none:=by
  cases e:owner.getD s none with
  | none=>rfl
  | some i=>exact absurd (List.mem_map.mpr ⟨(s,i),mem_liv.mpr ⟨hs1,e⟩,rfl⟩) hs2
 obtain ⟨n,hn,en⟩:=lp_all hm (st_le m (hs.getD k 0)) (bits_lt (hs.getD k 0)) (s:=s) (by lia)
 obtain ⟨k1,h1,h2,h3,h4⟩:=free_at L.sz (SetTable.turns m) _ (SetTable.bits (hs.getD k 0)) (st_le m (hs.getD k 0)) ⟨n,hn,by rw [en,getD_in (by rw [L.sz];exact hs1) _ none];exact fs⟩
 have hp:∀ k',(nthP m k' (rs m (SetTable.bits (hs.getD k 0) % (m + 1)) (SetTable.bits (hs.getD k 0)))).j=pj m (hs.getD k 0) k':=fun _=>rfl
 have hle:∀ k',pj m (hs.getD k 0) k' < owner.size:=fun k'=>by rw [L.sz];have:=pj_le m (hs.getD k 0) k';lia
 rw [hp] at h2 h3
 have h3:owner.getD (pj m (hs.getD k 0) k1) none=none:=by rw [←getD_in (hle k1) (some 0) none];exact h3
 have h4:∀ k',k' < k1→owner.getD (pj m (hs.getD k 0) k') none≠none:=fun k' hk'=>by rw [←getD_in (hle k') (some 0) none];exact h4 k' hk'
 refine ⟨_,h2,?_⟩
 have hlt:=hle k1
 have gself:(owner.setIfInBounds (pj m (hs.getD k 0) k1) (some k)).getD (pj m (hs.getD k 0) k1) none=some k:=set_self hlt _
 have goth:∀ x,x≠pj m (hs.getD k 0) k1→(owner.setIfInBounds (pj m (hs.getD k 0) k1) (some k)).getD x none=owner.getD x none:=fun x hx=>set_ne owner hx _
 have pr:(liv m (owner.setIfInBounds (pj m (hs.getD k 0) k1) (some k))).Perm ((pj m (hs.getD k 0) k1,k)::liv m owner):=by
  unfold liv
  refine fm_upd (j:=pj m (hs.getD k 0) k1) List.nodup_range (List.mem_range.mpr (by have:=pj_le m (hs.getD k 0) k1;lia)) ?_ ?_ fun x hx=>?_
  ·rw [h3];rfl
  ·rw [gself];rfl
  ·rw [goth x hx]
 have prz:(zO m (owner.setIfInBounds (pj m (hs.getD k 0) k1) (some k)) hs).Perm ((pj m (hs.getD k 0) k1,hs.getD k 0)::zO m owner hs):=pr.map _
 have ndz:((zO m (owner.setIfInBounds (pj m (hs.getD k 0) k1) (some k)) hs).map (·.1)).Nodup:=by rw [zO_keys];exact liv_nd _ _
 have nd0:((zO m owner hs).map (·.1)).Nodup:=by rw [zO_keys];exact liv_nd _ _
 have hT:∀ j,Tz (zO m (owner.setIfInBounds (pj m (hs.getD k 0) k1) (some k)) hs) j=if pj m (hs.getD k 0) k1=j then some (hs.getD k 0) else Tz (zO m owner hs) j:=fun j=>by rw [Tz_perm ndz prz,Tz_cons]
 refine ⟨by rw [Array.size_setIfInBounds];exact L.sz,?_,L.g.put (h:=hs.getD k 0) (k:=k1) (by lia) ?_ (fun k' hk'=>?_) (by rw [hT,if_pos rfl]) fun j hj=>by rw [hT,if_neg (Ne.symm hj)]⟩
 ·rw [List.range_succ]
  have pr2:((liv m (owner.setIfInBounds (pj m (hs.getD k 0) k1) (some k))).map (·.2)).Perm (k::(liv m owner).map (·.2)):=pr.map _
  exact pr2.trans ((L.prm.cons k).trans (List.perm_append_singleton k _).symm)
 ·cases e:Tz (zO m owner hs) (pj m (hs.getD k 0) k1) with
  | none=>rfl
  | some x=>
   have hmem:=Tz_mem e
   unfold zO at hmem
   obtain ⟨q,hq,eq⟩:=List.mem_map.mp hmem
   injection eq with e1 e2
   have:=(mem_liv.mp hq).2
   rw [e1,h3] at this
   cases this
 ·cases e:owner.getD (pj m (hs.getD k 0) k') none with
  | none=>exact absurd e (h4 k' hk')
  | some i=>
   have hq:(pj m (hs.getD k 0) k',i)∈liv m owner:=mem_liv.mpr ⟨by have:=pj_le m (hs.getD k 0) k';lia,e⟩
   have hik:i < k:=List.mem_range.mp (L.prm.mem_iff.mp (List.mem_map.mpr ⟨_,hq,rfl⟩))
   exact ⟨hs.getD i 0,Tz_of nd0 (List.mem_map.mpr ⟨_,hq,rfl⟩),hd i hik⟩
theorem lay_all {m:Nat} (hm:Msk m) {hs:Array Int} (hl:hs.size≤m + 1) (nd:hs.toList.Nodup):∃ owner,SetTable.layClean m hs=some owner∧Lay m hs hs.size owner:=by
 have key:∀ (l:List Int) (k:Nat) (owner:Array (Option Nat)),k + l.length=hs.size→(∀ i,l[i]? =hs[k + i]?)→Lay m hs k owner→
   ∃ owner',(l.foldl (fun (acc:Option (Array (Option Nat)×Nat)) h=>do
    let (owner,k) ←acc
    let j ←SetTable.layClean.free m owner (SetTable.turns m) (SetTable.bits h % (m + 1)) (SetTable.bits h)
    pure (owner.setIfInBounds j (some k),k + 1)) (some (owner,k)))=some (owner',hs.size)∧Lay m hs hs.size owner':=by
  intro l
  induction l with
  | nil=>
   intro k owner hk _ L
   have:k=hs.size:=by simpa using hk
   subst this
   exact ⟨owner,rfl,L⟩
  | cons h l ih=>
   intro k owner hk hg L
   have hks:k < hs.size:=by rw [List.length_cons] at hk;lia
   have e0:=hg 0
   rw [List.getElem?_cons_zero,Nat.add_zero,Array.getElem?_eq_getElem hks] at e0
   have eh:hs.getD k 0=h:=by
    have:=Option.some.inj e0
    simp [Array.getD,hks,this]
   obtain ⟨j,hj,L'⟩:=lay_step hm L (by lia) hks fun i hi=>by
    have hp:=List.pairwise_iff_getElem.mp nd i k (by rw [Array.length_toList];lia) (by rw [Array.length_toList];exact hks) hi
    intro z
    apply hp
    simpa [Array.getD,hks,show i < hs.size by lia] using z
   rw [eh] at hj
   obtain ⟨o',h1,h2⟩:=ih (k + 1) _ (by rw [List.length_cons] at hk;lia) (fun i=>by rw [←List.getElem?_cons_succ (a:=h),hg,show k + 1 + i=k + (i + 1) by lia]) L'
   refine ⟨o',?_,h2⟩
   rw [List.foldl_cons]
   show List.foldl _ ((SetTable.layClean.free m owner (SetTable.turns m) (SetTable.bits h % (m + 1)) (SetTable.bits h)).bind fun j=>some (owner.setIfInBounds j (some k),k + 1)) l=_
   rw [hj]
   exact h1
 obtain ⟨o',h1,h2⟩:=key hs.toList 0 _ (by rw [Array.length_toList];lia) (fun i=>by rw [Array.getElem?_toList,Nat.zero_add]) (lay0 m hs)
 refine ⟨o',?_,h2⟩
 unfold SetTable.layClean
 rw [←Array.foldl_toList]
 show Option.map _ (List.foldl _ (some (Array.replicate (m + 1) none,0)) hs.toList)=_
 rw [h1]
 rfl
end L2
namespace L2
open PySem PySem.Spec PyProof.Rows
theorem fm_all {α β:Type} {f:α→Option β} {g:α→β}:∀ {l:List α},(∀ x∈l,f x=some (g x))→l.filterMap f=l.map g
 | [],_=>rfl
 | a::l,h=>by rw [List.filterMap_cons,h a (.head _),List.map_cons,fm_all fun x hx=>h x (.tail _ hx)]
theorem zip_maps {α β γ:Type} (f:α→β) (g:α→γ):∀ l:List α,(l.map f).zip (l.map g)=l.map fun x=>(f x,g x)
 | []=>rfl
 | a::l=>by rw [List.map_cons,List.map_cons,List.zip_cons_cons,zip_maps f g l];rfl
theorem relaid_at {w:World} {t:SetTable} {es:Array (Int×Value)} (hled:t.led= !byT w) (nd:(es.toList.map (·.1)).Nodup) {wanted:Nat} (hm:Msk (SetTable.sizeAbove wanted - 1)) (hl:es.size≤SetTable.sizeAbove wanted - 1):
  ∃ t' order,t.relaid (es.map (·.1)) wanted=some (t',order)∧(order.filterMap (es[·]?)).toList.Perm es.toList∧TabZ w t' (order.filterMap (es[·]?))∧t'.mask=SetTable.sizeAbove wanted - 1:=by
 unfold SetTable.relaid
 generalize SetTable.sizeAbove wanted - 1=m at hm hl
 have hsz:(es.map (·.1)).size=es.size:=Array.size_map
 obtain ⟨owner,h1,L⟩:=lay_all hm (hs:=es.map (·.1)) (by rw [hsz];lia) (by rw [Array.toList_map];exact nd)
 rw [hsz] at L
 refine ⟨_,_,by unfold SetTable.laid;rw [h1];rfl,?_,?_,rfl⟩
 all_goals
  have hin:∀ q∈liv m owner,q.2 < es.size:=fun q hq=>List.mem_range.mp (L.prm.mem_iff.mp (List.mem_map.mpr ⟨q,hq,rfl⟩))
  have ee:((((liv m owner).map (·.2)).toArray).filterMap (es[·]?)).toList=(liv m owner).map fun q=>es.getD q.2 (0,.none):=by
   rw [Array.toList_filterMap,List.filterMap_map]
   refine fm_all fun q hq=>?_
   have:=hin q hq
   show es[q.2]? =_
   rw [Array.getElem?_eq_getElem this]
   simp [Array.getD,this]
 ·show ((((liv m owner).map (·.2)).toArray).filterMap (es[·]?)).toList.Perm es.toList
  rw [ee]
  have e1:(liv m owner).map (fun q=>es.getD q.2 (0,.none))=((liv m owner).map (·.2)).map fun i=>es.getD i (0,.none):=by rw [List.map_map];rfl
  have e2:(List.range es.size).map (fun i=>es.getD i (0,.none))=es.toList:=by
   refine List.ext_getElem? fun i=>?_
   rw [List.getElem?_map,Array.getElem?_toList (xs:=es)]
   by_cases h:i < es.size
   ·rw [List.getElem?_range h,Array.getElem?_eq_getElem h]
    simp [Array.getD,h]
   ·rw [List.getElem?_eq_none (by simpa using h),Array.getElem?_eq_none (by lia)]
    rfl
  rw [e1,←e2]
  exact L.prm.map _
 ·have hz:((((liv m owner).map (·.2)).toArray).filterMap (es[·]?)).size=(liv m owner).length:=by rw [←Array.length_toList,ee,List.length_map]
  have zz:(((liv m owner).map (·.1)).toArray.toList.zip (((((liv m owner).map (·.2)).toArray).filterMap (es[·]?)).toList.map (·.1)))=zO m owner (es.map (·.1)):=by
   rw [ee,List.map_map]
   show ((liv m owner).map (·.1)).zip _=_
   rw [zip_maps]
   unfold zO
   refine List.map_congr_left fun q hq=>?_
   have:=hin q hq
   simp [Array.getD,this]
  refine ⟨⟨⟨liv_up m owner,rfl⟩,hled⟩,hm,?_,fun j hj=>?_,?_⟩
  ·show ((liv m owner).map (·.1)).toArray.size=((((liv m owner).map (·.2)).toArray).filterMap (es[·]?)).size
   rw [hz,List.size_toArray,List.length_map]
  ·obtain ⟨q,hq,rfl⟩:=List.mem_map.mp (show j∈(liv m owner).map (·.1) from hj)
   have:=(mem_liv.mp hq).1
   show q.1≤m
   lia
  ·show G m (Tz (((liv m owner).map (·.1)).toArray.toList.zip (((((liv m owner).map (·.2)).toArray).filterMap (es[·]?)).toList.map (·.1))))
   rw [zz]
   exact L.g
end L2
namespace L2
open PySem PySem.Spec PyProof.Rows
noncomputable def hP (p:Int×Int):Int:=reduceHash (Builtin.Tuple.tupleHashOf [hashInt p.1,hashInt p.2])
noncomputable def box8 (p:Int×Int):Prop:=0≤p.1∧p.1 < 8∧0≤p.2∧p.2 < 8
theorem hP_nd:((List.range 64).map fun k=>hP (((k / 8:Nat):Int),((k % 8:Nat):Int))).Nodup:=by decide +kernel
theorem nd_inj {f:Nat→Int} {n:Nat} (h:((List.range n).map f).Nodup) {i j:Nat} (hi:i < n) (hj:j < n) (e:f i=f j):i=j:=by
 have key:∀ i j,i < j→j < n→f i≠f j:=fun i j hij hj=>by
  have:=List.pairwise_iff_getElem.mp h i j (by simp;lia) (by simp;lia) hij
  simpa using this
 rcases Nat.lt_trichotomy i j with c | c | c
 ·exact absurd e (key i j c hj)
 ·exact c
 ·exact absurd e.symm (key j i c hi)
theorem hP_inj {p q:Int×Int} (hp:box8 p) (hq:box8 q) (e:hP p=hP q):p=q:=by
 obtain ⟨a1,a2,a3,a4⟩:=hp
 obtain ⟨b1,b2,b3,b4⟩:=hq
 have fp:∀ r:Int×Int,0≤r.1→r.1 < 8→0≤r.2→r.2 < 8→((((8 * r.1 + r.2).toNat / 8:Nat):Int),(((8 * r.1 + r.2).toNat % 8:Nat):Int))=r:=fun r h1 h2 h3 h4=>Prod.ext (by dsimp only;lia) (by dsimp only;lia)
 have:=nd_inj hP_nd (i:=(8 * p.1 + p.2).toNat) (j:=(8 * q.1 + q.2).toNat) (by lia) (by lia) (by rw [fp p a1 a2 a3 a4,fp q b1 b2 b3 b4];exact e)
 exact Prod.ext (by lia) (by lia)
section
variable {prog:Program} {w:World} {A:Around} {E:Value→Shared→Prop} {s:Shared}
noncomputable abbrev PrK (prog:Program) (w:World) (h:Heap) (p:Int×Int) (c:Addr):Prop:=IsTupleKey (intKind prog w) h [p.1,p.2] c
theorem PrK.keep {h h':Heap} {p:Int×Int} {c:Addr} (x:PrK prog w h p c) (k:∀ o,h.get? c=some o→h'.get? c=some o):PrK prog w h' p c:=by
 obtain ⟨o,items,n,ho,r⟩:=x
 exact ⟨o,items,n,k o ho,r⟩
theorem PrK.ints {h:Heap} {p:Int×Int} {c:Addr} (x:PrK prog w h p c):∃ o items n,h.get? c=some o∧o.cls=.type "tuple"∧o.data=.seq items n∧∀ v∈items.toList,∃ i t,v=.int i t:=by
 obtain ⟨o,items,n,ho,hc,hd,hi⟩:=x
 refine ⟨o,items,n,ho,hc,hd,fun v hv=>?_⟩
 have key:∀ {ks:List Int} {vs:List Value},ItemsAre (intKind prog w) ks vs→∀ v∈vs,∃ i t,v=.int i t:=by
  intro ks vs h
  induction h with
  | nil=>intro v hv;cases hv
  | cons hk _ ih=>
   intro v hv
   rcases List.mem_cons.mp hv with rfl | hv
   ·obtain ⟨t,e⟩:=Value.isInt_shape hk
    exact ⟨_,t,e⟩
   ·exact ih v hv
 exact key hi v hv
theorem hbv {p:Int×Int} {c:Addr} (hk:PrK prog w s.heap p c) {Q:Bool→Shared→Prop} (h:Q true s):wpAny (model prog w) A (hashByValue 8 (.ref c)) Q E s:=by
 have hT:=hk.typeIs
 obtain ⟨o,items,n,ho,_,hd,hi⟩:=hk.ints
 unfold hashByValue
 refine wpAny_bind (wpAny_specialOf hT PySem.F.slot_tuple_hash.lookup ?_)
 dsimp only
 refine wpAny_bind (wpAny_seqItems ho hd ?_)
 refine wpAny_bind ?_
 show wpAny _ _ (forIn items _ _) _ _ s
 rw [←Array.forIn_toList]
 refine wpAny_forIn_list _ (fun rest r s'=>r.1=none∧s'=s∧∀ v∈rest,∃ i t,v=.int i t) _ ?_ ?_ _ _ ⟨rfl,rfl,hi⟩
 ·rintro v rest r s' ⟨hr,rfl,hall⟩
  obtain ⟨i,t,rfl⟩:=hall v List.mem_cons_self
  refine wpAny_bind (wpAny_of_eq (a:=true) rfl ?_)
  simp only [Bool.not_true,Bool.false_eq_true,if_false]
  exact wpAny_pure ⟨rfl,rfl,fun u hu'=>hall u (List.mem_cons_of_mem _ hu')⟩
 ·rintro ⟨r1,r2⟩ s' ⟨hr,rfl,_⟩
  simp only at hr
  subst hr
  exact wpAny_pure h
theorem ofA {p:Int×Int} {c:Addr} (hk:PrK prog w s.heap p c) {Q:Bool→Shared→Prop} (h:Q false s):wpAny (model prog w) A (ofAClassStatement 8 (.ref c)) Q E s:=by
 have hT:=hk.typeIs
 obtain ⟨o,items,n,ho,_,hd,hi⟩:=hk.ints
 unfold ofAClassStatement
 refine wpAny_bind (wpAny_typeOf hT ?_)
 dsimp only
 rw [if_pos (by decide)]
 refine wpAny_bind (wpAny_pure ?_)
 simp only [Bool.not_true,Bool.false_eq_true,if_false]
 refine wpAny_bind (wpAny_seqItems ho hd ?_)
 dsimp only
 refine wpAny_bind ?_
 rw [←Array.forIn_toList]
 refine wpAny_forIn_list _ (fun rest r s'=>r.1=none∧s'=s∧∀ v∈rest,∃ i t,v=.int i t) _ ?_ ?_ _ _ ⟨rfl,rfl,hi⟩
 ·rintro v rest r s' ⟨hr,rfl,hall⟩
  obtain ⟨i,t,rfl⟩:=hall v List.mem_cons_self
  refine wpAny_bind (wpAny_of_eq (a:=false) rfl ?_)
  simp only [Bool.false_eq_true,if_false]
  exact wpAny_pure ⟨rfl,rfl,fun u hu'=>hall u (List.mem_cons_of_mem _ hu')⟩
 ·rintro ⟨r1,r2⟩ s' ⟨hr,rfl,_⟩
  simp only at hr
  subst hr
  exact wpAny_pure h
theorem seen_no {p:Int×Int} {c:Addr} (hk:PrK prog w s.heap p c) {l:List Value} (hl:∀ y∈l,∃ q d,y=.ref d∧PrK prog w s.heap q d) {Q:Bool→Shared→Prop} (h:Q false s):wpAny (model prog w) A (searchCouldBeSeen (.ref c) l) Q E s:=by
 unfold searchCouldBeSeen
 refine wpAny_bind ?_
 refine wpAny_forIn_list _ (fun rest r s'=>r.1=none∧s'=s∧∀ v∈rest,∃ q d,v=.ref d∧PrK prog w s.heap q d) _ ?_ ?_ _ _ ⟨rfl,rfl,hl⟩
 ·rintro v rest r s' ⟨hr,rfl,hall⟩
  have htl:∀ u∈rest,∃ q d,u=.ref d∧PrK prog w s'.heap q d:=fun u hu'=>hall u (List.mem_cons_of_mem _ hu')
  obtain ⟨q,d,rfl,hq⟩:=hall v List.mem_cons_self
  dsimp only
  refine wpAny_ite_split (fun _=>wpAny_pure ⟨rfl,rfl,htl⟩) (fun _=>?_)
  refine wpAny_bind (wpAny_eqIsQuiet_tuple hk ?_)
  simp only [Bool.not_true,Bool.false_eq_true,if_false]
  refine wpAny_bind (wpAny_eqIsQuiet_tuple hq ?_)
  simp only [Bool.not_true,Bool.false_eq_true,if_false]
  refine wpAny_bind (ofA hk ?_)
  simp only [Bool.false_eq_true,if_false]
  refine wpAny_bind (ofA hq ?_)
  simp only [Bool.false_eq_true,if_false]
  exact wpAny_pure ⟨rfl,rfl,htl⟩
 ·rintro ⟨r1,r2⟩ s' ⟨hr,rfl,_⟩
  simp only at hr
  subst hr
  exact wpAny_pure h
end
end L2
namespace L2
open PySem PySem.Spec PyProof.Rows
noncomputable def Siz (t:SetTable) (n:Nat):Prop:=(t.mask=7∧n≤4)∨(t.mask=31∧n≤18)∨(t.mask=127∧n≤76)
noncomputable def SetP (D:Int×Int→Addr→Prop) (prog:Program) (w:World) (h:Heap) (a:Addr) (ks:List (Int×Int)):Prop:=
 ∃ o es ep t,(h.get? a=some o∧o.ExactSet∧o.data=.set es ep t)∧TabZ w t es∧Siz t es.size∧(es.toList.map (·.1)).Perm (ks.map hP)∧ks.Nodup∧(∀ p∈ks,box8 p)∧∀ e∈es.toList,∃ p c,p∈ks∧e=(hP p,Value.ref c)∧c≠a∧PrK prog w h p c∧D p c
theorem tab_fits {w:World} {t:SetTable} {es:Array (Int×Value)} (z:TabZ w t es) (hs:es.size≤t.mask):t.fits es.size=true:=by
 unfold SetTable.fits SetTable.fill
 rw [z.up.1.2,z.sz]
 simp
 lia
theorem msk_odd {m:Nat} (h:Msk m):(m % 2==0)=false:=by rcases h with rfl | rfl | rfl <;> rfl
theorem hP_ndl {ks:List (Int×Int)} (nd:ks.Nodup) (hb:∀ p∈ks,box8 p):(ks.map hP).Nodup:=by
 unfold List.Nodup
 rw [List.pairwise_map]
 exact List.Pairwise.imp_of_mem (fun {a b} ha hb' hab z=>hab (hP_inj (hb a ha) (hb b hb') z)) nd
section
variable {prog:Program} {w:World} {A:Around} {E:Value→Shared→Prop} {s:Shared}
theorem SetP.keep {D:Int×Int→Addr→Prop} {h h':Heap} {a:Addr} {ks:List (Int×Int)} (x:SetP D prog w h a ks) (k:∀ b o,h.get? b=some o→h'.get? b=some o):SetP D prog w h' a ks:=by
 obtain ⟨o,es,ep,t,⟨h1,h2,h3⟩,h4,h5,h6,h7,h8,h9⟩:=x
 refine ⟨o,es,ep,t,⟨k _ _ h1,h2,h3⟩,h4,h5,h6,h7,h8,fun e he=>?_⟩
 obtain ⟨p,c,b1,b2,b3,b4,b5⟩:=h9 e he
 exact ⟨p,c,b1,b2,b3,b4.keep fun o q=>k _ _ q,b5⟩
theorem upd_store {h:Heap} {a:Addr} {o:Obj} {es:Array (Int×Value)} {ep:Nat} {t:SetTable} (ho:h.get? a=some o) (hx:o.ExactSet) (hd:o.data=.set es ep t) (es1:Array (Int×Value)) (t1:SetTable):
  (h.update a (Obj.putSet es1 t1)).get? a=some (Obj.putSet es1 t1 o)∧(Obj.putSet es1 t1 o).ExactSet∧∃ ep',(Obj.putSet es1 t1 o).data=.set es1 ep' t1:=by
 obtain ⟨c,d,dt,sl⟩:=o
 simp only at hd
 subst hd
 exact ⟨Heap.get?_update_self _ ho rfl,hx,_,rfl⟩
theorem add_pair {D:Int×Int→Addr→Prop} {a c:Addr} {ks:List (Int×Int)} {p:Int×Int} {Q:Bool→Shared→Prop} (hu:A.units < cLine) (hS:SetP D prog w s.heap a ks) (hb:box8 p) (hk:PrK prog w s.heap p c) (hc:c≠a) (hD:D p c) (hn:ks.length + 1≤76)
  (h:∀ h' b,Heap.SameBut a s.heap h'→SetP D prog w h' a (if p∈ks then ks else p::ks)→Q b { s with heap:=h' }):
  wpAny (model prog w) A (setAddHashed a (.ref c) (hP p)) Q E s:=by
 obtain ⟨o,es,ep,t,ho,z,sz,pr,nd,bx,el⟩:=hS
 have esl:es.size=ks.length:=by
  have:=pr.length_eq
  rw [List.length_map,List.length_map,Array.length_toList] at this
  exact this
 have hsm:es.size≤t.mask:=by rcases sz with ⟨e,h⟩ | ⟨e,h⟩ | ⟨e,h⟩ <;> lia
 have hf:=tab_fits z hsm
 have ndh:(es.toList.map (·.1)).Nodup:=pr.nodup_iff.mpr (hP_ndl nd bx)
 unfold setAddHashed setAddHashedIn
 refine wpAny_holding (wpAny_bind (wpAny_setState_of ho.1 ho.2.2 hf ?_))
 have nsc:byScan (.ref c) es=false:=rfl
 dsimp only
 rw [nsc]
 simp only [Bool.false_eq_true,if_false]
 unfold setSearch setSearchFrom
 refine wpAny_bind (wpAny_bind (wpAny_setState_of ho.1 ho.2.2 hf ?_))
 dsimp only
 have ngw:t.gaveWay=false:=by unfold SetTable.gaveWay;exact msk_odd z.msk
 rw [ngw]
 simp only [Bool.false_eq_true,if_false,Option.getD_none]
 obtain ⟨k,hk0,hbf,hcase⟩:=z.probe hsm (hP p) (f:=_) (fun i e he=>by
  show (Option.map (fun x:Int×Value=>x.1) es[i]?).getD 0=e.1
  rw [he]
  rfl)
 generalize hPr:t.probe _ (hP p) (t.probeStart (hP p))=met
 rcases hcase with ⟨hfree,hpr⟩ | ⟨i,nx,e,he,heh,hpr⟩
 ·have hpr:met=some (.empty (pj t.mask (hP p) k) none):=hPr.symm.trans hpr
  subst hpr
  dsimp only
  refine wpAny_pure ?_
  dsimp only
  refine wpAny_bind (wpAny_setState_of ho.1 ho.2.2 hf ?_)
  dsimp only
  obtain ⟨z1,pr1,hno⟩:=z.put hk0 hfree hbf (.ref c)
  have hpn:p∉ks:=fun hm=>by
   have:hP p∈es.toList.map (·.1):=pr.mem_iff.mpr (List.mem_map.mpr ⟨p,hm,rfl⟩)
   rw [←zOf_vals z.sz] at this
   obtain ⟨q,hq,eq⟩:=List.mem_map.mp this
   refine hno q.1 (Tz_of (by rw [zOf_keys z.sz];exact up_nd z.up.1) ?_)
   rw [←eq]
   exact hq
  have em:(t.put (pj t.mask (hP p) k)).1.mask=t.mask:=rfl
  have epl:(t.put (pj t.mask (hP p) k)).1.plain=t.plain:=rfl
  have el1:(SetTable.insertAt es (t.put (pj t.mask (hP p) k)).2 (hP p,Value.ref c)).toList.Perm ((hP p,Value.ref c)::es.toList):=by
   rw [SetTable.toList_insertAt]
   refine List.perm_middle.trans (List.Perm.cons _ ?_)
   rw [List.take_append_drop]
  have emv:(t.put (pj t.mask (hP p) k)).1.led=t.led:=rfl
  generalize hes1:SetTable.insertAt es (t.put (pj t.mask (hP p) k)).2 (hP p,Value.ref c)=es1 at z1 pr1 el1
  generalize ht1:(t.put (pj t.mask (hP p) k)).1=t1 at z1 pr1 em epl emv
  have es1l:es1.size=ks.length + 1:=by
   have:=el1.length_eq
   rw [List.length_cons,Array.length_toList,Array.length_toList] at this
   lia
  have hks:(if p∈ks then ks else p::ks)=p::ks:=if_neg hpn
  rw [hks] at h
  have ndk:(p::ks).Nodup:=List.nodup_cons.mpr ⟨hpn,nd⟩
  have bxk:∀ q∈p::ks,box8 q:=fun q hq=>by
   rcases List.mem_cons.mp hq with rfl | hq
   ·exact hb
   ·exact bx q hq
  have mkS:∀ (h':Heap) (o':Obj) (es':Array (Int×Value)) (ep':Nat) (t':SetTable),Heap.SameBut a s.heap h'→(h'.get? a=some o'∧o'.ExactSet∧o'.data=.set es' ep' t')→TabZ w t' es'→Siz t' es'.size→es'.toList.Perm es1.toList→SetP D prog w h' a (p::ks):=fun h' o' es' ep' t' sb ho' z' sz' pm'=>by
   refine ⟨o',es',ep',t',ho',z',sz',?_,ndk,bxk,fun e he=>?_⟩
   ·have q1:(es'.toList.map (·.1)).Perm (hP p::es.toList.map (·.1)):=(pm'.trans el1).map (·.1)
    rw [List.map_cons]
    exact q1.trans (pr.cons _)
   ·rcases List.mem_cons.mp ((pm'.trans el1).mem_iff.mp he) with rfl | he
    ·exact ⟨p,c,.head _,rfl,hc,hk.keep (fun o q=>by rw [sb.2 c hc];exact q),hD⟩
    ·obtain ⟨q,d,b1,b2,b3,b4,b5⟩:=el e he
     exact ⟨q,d,.tail _ b1,b2,b3,b4.keep (fun o q=>by rw [sb.2 d b3];exact q),b5⟩
  have tail:wpAny (model prog w) A (do
    storeSet a es1 t1
    if (!false&&t1.tooFull)=true then do
      setRelay a (SetTable.grown (es.size + 1))
      pure true
     else pure true) Q E s:=by
   refine wpAny_bind (wpAny_storeSet_of ho.1 ho.2.2 ?_ (by rw [sizeLine_eq];lia))
   obtain ⟨g1,g2,ep1,g3⟩:=upd_store ho.1 ho.2.1 ho.2.2 es1 t1
   have sb1:=Heap.SameBut.update s.heap a (Obj.putSet es1 t1)
   by_cases hfull:(!false&&t1.tooFull)=true
   ·rw [if_pos hfull]
    have z1fit:t1.fits es1.size=true:=tab_fits z1 (by rw [em];rcases sz with ⟨e,h⟩ | ⟨e,h⟩ | ⟨e,h⟩ <;> lia)
    unfold setRelay
    refine wpAny_bind (wpAny_bind (wpAny_setState_of g1 g3 z1fit ?_))
    dsimp only
    have nf:t1.fill * 5≥t1.mask * 3:=by
     have:t1.tooFull=true:=by simpa using hfull
     unfold SetTable.tooFull at this
     simpa using this
    unfold SetTable.fill at nf
    rw [z1.up.1.2,z1.sz,em] at nf
    have hnd1:(es1.toList.map (·.1)).Nodup:=by
     have q1:(es1.toList.map (·.1)).Perm (hP p::es.toList.map (·.1)):=el1.map (·.1)
     exact (q1.trans (pr.cons _)).nodup_iff.mpr (hP_ndl ndk bxk)
    have hm2:Msk (SetTable.sizeAbove (SetTable.grown (es.size + 1)) - 1)∧es1.size≤SetTable.sizeAbove (SetTable.grown (es.size + 1)) - 1∧¬SetTable.sizeAbove (SetTable.grown (es.size + 1)) > sizeLine∧∀ t2:SetTable,t2.mask=SetTable.sizeAbove (SetTable.grown (es.size + 1)) - 1→Siz t2 es1.size:=by
     have e5:(#[]:Array Nat).size=0:=rfl
     rw [e5] at nf
     rcases sz with ⟨e,h⟩ | ⟨e,h⟩ | ⟨e,h⟩
     ·rw [e] at nf
      have e4:es.size=4:=by lia
      rw [e4,es1l,←esl,e4]
      exact ⟨.inr (.inl (by decide)),by decide,by decide,fun t2 h2=>.inr (.inl ⟨h2.trans (by decide),by decide⟩)⟩
     ·rw [e] at nf
      have e4:es.size=18:=by lia
      rw [e4,es1l,←esl,e4]
      exact ⟨.inr (.inr (by decide)),by decide,by decide,fun t2 h2=>.inr (.inr ⟨h2.trans (by decide),by decide⟩)⟩
     ·rw [e] at nf
      exfalso
      lia
    obtain ⟨m1,m2,m3,m4⟩:=hm2
    rw [if_neg m3]
    obtain ⟨t2,order,r1,r2,r3,r4⟩:=relaid_at (w:=w) (t:=t1) (emv.trans z.up.2) hnd1 m1 m2
    rw [r1]
    have es2l:(order.filterMap (es1[·]?)).size=es1.size:=by rw [←Array.length_toList,r2.length_eq,Array.length_toList]
    refine wpAny_bind (wpAny_of_eq (a:=(order.filterMap (es1[·]?),t2)) ?_ ?_)
    ·show (if ((order.filterMap (es1[·]?)).size != es1.size)=true then ((unsupported "internal:set-table-lost-an-element":Sem Unit) >>=fun _=>pure (order.filterMap (es1[·]?),t2)) else pure (order.filterMap (es1[·]?),t2))=pure (order.filterMap (es1[·]?),t2)
     rw [if_neg (by rw [es2l];simp)]
    ·dsimp only
     refine wpAny_storeSet_of g1 g3 ?_ (by rw [es2l,sizeLine_eq];lia)
     obtain ⟨k1,k2,ep2,k3⟩:=upd_store g1 g2 g3 (order.filterMap (es1[·]?)) t2
     have sb2:=sb1.trans (Heap.SameBut.update _ a (Obj.putSet (order.filterMap (es1[·]?)) t2))
     exact wpAny_pure (h _ true sb2 (mkS _ _ _ ep2 t2 sb2 ⟨k1,k2,k3⟩ r3 (by rw [es2l];exact m4 t2 r4) r2))
   ·rw [if_neg hfull]
    refine (wpAny_pure (h _ true sb1 (mkS _ _ es1 ep1 t1 sb1 ⟨g1,g2,g3⟩ z1 ?_ (List.Perm.refl _))))
    have nf:¬t1.fill * 5≥t1.mask * 3:=by
     have:t1.tooFull=false:=by simpa using hfull
     unfold SetTable.tooFull at this
     simpa using this
    unfold SetTable.fill at nf
    rw [z1.up.1.2,z1.sz,em] at nf
    unfold Siz
    rw [em]
    rcases sz with ⟨e,h⟩ | ⟨e,h⟩ | ⟨e,h⟩
    ·rw [e] at nf
     simp at nf
     exact .inl ⟨e,by lia⟩
    ·rw [e] at nf
     simp at nf
     exact .inr (.inl ⟨e,by lia⟩)
    ·exact .inr (.inr ⟨e,by lia⟩)
  cases hpl:t1.plain with
  | true=>
   rw [if_pos rfl]
   refine wpAny_bind (hbv hk ?_)
   simp only [if_true]
   exact tail
  | false=>
   rw [if_neg Bool.false_ne_true]
   refine wpAny_bind (wpAny_pure ?_)
   simp only [if_true]
   exact tail
 ·have hpr:met=some (.candidate (pj t.mask (hP p) k) i nx):=hPr.symm.trans hpr
  subst hpr
  dsimp only
  have hem:e∈es.toList:=by
   have:=Array.mem_of_getElem? he
   simpa using this
  obtain ⟨p',c',hp',rfl,hc',hk',_⟩:=el e hem
  have epp:p'=p:=hP_inj (bx p' hp') hb heh
  subst epp
  have hks:(if p'∈ks then ks else p'::ks)=ks:=if_pos hp'
  rw [hks] at h
  have hS:SetP D prog w s.heap a ks:=⟨o,es,ep,t,ho,z,sz,pr,nd,bx,el⟩
  have hq:Q false s:=h s.heap false (Heap.SameBut.refl a s.heap) hS
  have fin:∀ (g:Bool→(Array (Int×Value)×Nat×SetTable)→Sem SetFound),wpAny (model prog w) A (do
     let equal ←holding [Value.ref c'] (eqBool (.ref c') (.ref c))
     let __x ←setState a
     if (true&&equal)=true then pure (SetFound.there none) else g equal __x) (fun r s'=>r=.there none∧s'=s) E s:=fun g=>by
   refine wpAny_bind (wpAny_holding (wpAny_eqBool_tuple hu hk' hk ?_))
   refine wpAny_bind (wpAny_setState_of ho.1 ho.2.2 hf ?_)
   rw [if_pos (by simp)]
   exact wpAny_pure ⟨rfl,rfl⟩
  have out:∀ (r:SetFound) (s':Shared),r=.there none∧s'=s→wpAny (model prog w) A (match r with
    | .free slot wasDummy=>(unsupported "x":Sem Bool)
    | _=>pure false) Q E s':=fun r s' ⟨e1,e2⟩=>by
   subst e1 e2
   exact wpAny_pure hq
  rw [he]
  dsimp only
  cases hl:t.led with
  | true=>
   rw [if_neg (by simp)]
   refine wpAny_mono (fin _) (fun r s' hr=>?_) fun _ _ z=>z
   obtain ⟨rfl,rfl⟩:=hr
   exact wpAny_pure hq
  | false=>
   rw [if_pos (by simp)]
   refine wpAny_bind (seen_no hk (fun y hy=>?_) ?_)
   ·obtain ⟨e,he',rfl⟩:=List.mem_map.mp hy
    have he2:e∈es.toList:=by
     have:=Array.mem_toList_iff.mp he'
     exact Array.mem_toList_iff.mpr (Array.mem_filter.mp this).1
    obtain ⟨q,d,b1,rfl,b3,b4,_⟩:=el e he2
    exact ⟨q,d,rfl,b4⟩
   ·simp only [Bool.false_eq_true,if_false]
    refine wpAny_mono (fin _) (fun r s' hr=>?_) fun _ _ z=>z
    obtain ⟨rfl,rfl⟩:=hr
    exact wpAny_pure hq
end
end L2
namespace L2
open PySem PySem.Spec PyProof.Rows
noncomputable def set0 (w:World):Obj:={ cls:=.type "set",dict:=none,data:=.set #[] 0 (.fresh 0 0 (!byT w)) }
section
variable {prog:Program} {w:World} {A:Around} {E:Value→Shared→Prop} {s:Shared}
theorem new_setU (a:Value) {Q₁:Value→Shared→Prop} (h:Q₁ (.ref s.heap.objs.size) { s with heap:=s.heap.push (set0 w) }):
  codeAny (model prog w) A (.call (.builtin "set.__new__") ⟨[.type "set",a],[]⟩) (wants Q₁ E) s:=by
 refine codeAny_of_tree ?_
 show wpAny _ A.in1 (checkBuiltinCall "set.__new__" ⟨[.type "set",a],[]⟩ >>=fun _=>again (.builtin "set.__new__" ⟨[.type "set",a],[]⟩)) _ _ s
 refine wpAny_bind (wpAny_of_eq (PySem.F.newCall_set_1 a) (wpAny_pure ⟨plainId_quiet PySem.F.plain_set_new _,codeAny_builtin PySem.F.entry_set_new ?_⟩))
 rw [Around.under_plainId PySem.F.plain_set_new _]
 unfold Builtin.«set.__new__» Builtin.Frozenset.newClass
 have hsub:=sub_set_self
 obtain ⟨hp,g,d,tk,os⟩:=s
 dsimp only
 wp_walk
 refine wpAny_askSetting (wpAny_pure ?_)
 dsimp only
 simp only [newObj]
 refine wpAny_bind (wpAny_alloc (wpAny_pure ?_))
 exact wpAny_pure h
end
end L2
namespace L2
open PySem PySem.Spec PyProof.Rows
noncomputable def accP (ps:List (Int×Int)):List (Int×Int):=ps.foldl (fun ks p=>if p∈ks then ks else p::ks) []
theorem accP_snoc (ps:List (Int×Int)) (p:Int×Int):accP (ps++[p])=if p∈accP ps then accP ps else p::accP ps:=by
 unfold accP
 rw [List.foldl_append]
 rfl
theorem accP_go (ps:List (Int×Int)):∀ ks:List (Int×Int),ks.Nodup→(ps.foldl (fun ks p=>if p∈ks then ks else p::ks) ks).Nodup∧(∀ q,q∈ps.foldl (fun ks p=>if p∈ks then ks else p::ks) ks↔q∈ks∨q∈ps)∧(ps.foldl (fun ks p=>if p∈ks then ks else p::ks) ks).length≤ks.length + ps.length:=by
 induction ps with
 | nil=>intro ks nd;exact ⟨nd,fun q=>by simp,Nat.le_refl _⟩
 | cons p ps ih=>
  intro ks nd
  rw [List.foldl_cons]
  by_cases h:p∈ks
  ·rw [if_pos h]
   obtain ⟨a,b,c⟩:=ih ks nd
   refine ⟨a,fun q=>?_,by rw [List.length_cons];lia⟩
   rw [b q,List.mem_cons]
   constructor
   ·rintro (h | h)
    ·exact .inl h
    ·exact .inr (.inr h)
   ·rintro (h' | rfl | h')
    ·exact .inl h'
    ·exact .inl h
    ·exact .inr h'
  ·rw [if_neg h]
   obtain ⟨a,b,c⟩:=ih (p::ks) (List.nodup_cons.mpr ⟨h,nd⟩)
   refine ⟨a,fun q=>?_,by rw [List.length_cons] at c ⊢;lia⟩
   rw [b q,List.mem_cons,List.mem_cons]
   constructor
   ·rintro ((h | h) | h)
    ·exact .inr (.inl h)
    ·exact .inl h
    ·exact .inr (.inr h)
   ·rintro (h | h | h)
    ·exact .inl (.inr h)
    ·exact .inl (.inl h)
    ·exact .inr h
theorem accP_nd (ps:List (Int×Int)):(accP ps).Nodup:=(accP_go ps [] List.nodup_nil).1
theorem accP_mem (ps:List (Int×Int)) (q:Int×Int):q∈accP ps↔q∈ps:=by
 have:=(accP_go ps [] List.nodup_nil).2.1 q
 simpa [accP] using this
theorem accP_len (ps:List (Int×Int)):(accP ps).length≤ps.length:=by
 have:=(accP_go ps [] List.nodup_nil).2.2
 simpa [accP] using this
section
variable {prog:Program} {w:World} {A:Around} {E:Value→Shared→Prop} {s:Shared}
theorem SetP.keepI {D:Int×Int→Addr→Prop} {h h':Heap} {a I:Addr} {ks:List (Int×Int)} (x:SetP D prog w h a ks) (hI:∃ o,h.get? I=some o∧o.cls≠.type "tuple") (ha:a≠I) (k:∀ b o,b≠I→h.get? b=some o→h'.get? b=some o):SetP D prog w h' a ks:=by
 obtain ⟨o,es,ep,t,⟨h1,h2,h3⟩,h4,h5,h6,h7,h8,h9⟩:=x
 refine ⟨o,es,ep,t,⟨k _ _ ha h1,h2,h3⟩,h4,h5,h6,h7,h8,fun e he=>?_⟩
 obtain ⟨p,c,b1,b2,b3,b4,b5⟩:=h9 e he
 refine ⟨p,c,b1,b2,b3,b4.keep (fun o q=>k _ _ (fun z=>?_) q),b5⟩
 obtain ⟨oi,i1,i2⟩:=hI
 obtain ⟨oc,_,_,c1,c2,_⟩:=b4
 rw [z,i1] at c1
 cases c1
 exact i2 c2
theorem setP0 {D:Int×Int→Addr→Prop} {h:Heap} {a:Addr} (e:h.get? a=some (set0 w)):SetP D prog w h a []:=by
 refine ⟨_,#[],0,.fresh 0 0 (!byT w),⟨e,⟨rfl,rfl,rfl⟩,rfl⟩,⟨⟨⟨List.Pairwise.nil,rfl⟩,rfl⟩,.inl rfl,rfl,fun j hj=>?_,fun j h z=>?_⟩,.inl ⟨rfl,by decide⟩,List.Perm.refl _,List.nodup_nil,fun p hp=>?_,fun e he=>?_⟩
 ·cases hj
 ·cases z
 ·cases hp
 ·cases he
theorem loop_setP {D:Int×Int→Addr→Prop} {I S:Addr} {fp:List Addr} {n:Nat} {Pv:Nat→Value→Prop} {St:Nat→Heap→Prop} {R:Result→Shared→Prop} (W:Walks prog w A.in1 I fp [I] n Pv St) (hIt:∀ i h,St i h→∃ o,h.get? I=some o∧o.cls≠.type "tuple") (hSf:S∉fp) (hSI:S≠I) (hu:A.units + 8 < cLine) {ps:List (Int×Int)} (hps:ps.length=n) (hbx:∀ p∈ps,box8 p) (h76:n≤75):
  ∀ (k i:Nat) (s:Shared),n - i=k→i≤n→St i s.heap→SetP D prog w s.heap S (accP (ps.take i))→(∀ j v,Pv j v→j < n→∃ c,v=.ref c∧c≠S∧PrK prog w s.heap (ps.getD j (0,0)) c∧D (ps.getD j (0,0)) c)→
   (∀ h' tk,(∀ b o,b≠I→b≠S→s.heap.get? b=some o→h'.get? b=some o)→SetP D prog w h' S (accP ps)→R (.ok (.ret .none)) { s with heap:=h',toks:=tk })→
   codeAny (model prog w) A (.builtin "set.update.loop" ⟨[.ref S,.ref I],[]⟩) R s:=by
 intro k
 induction k with
 | zero=>
  intro i s hk hi hst hS hQv hR
  obtain rfl:i=n:=by lia
  refine codeAny_builtin PyProof.Rows.F.entry_set_update_loop ?_
  rw [Around.under_plainId PyProof.Rows.F.plain_set_update_loop _]
  show wpAny _ A.in1 (pyNext (.ref I) >>=_) _ _ s
  refine wpAny_bind (W.done s _ _ hst fun h' tk hk=>?_)
  show wpAny _ A.in1 (ret Value.none) _ _ _
  rw [←hps,List.take_length] at hS
  exact wpAny_pure (hR h' tk (fun b o h1 _ e=>hk b o (by simpa using h1) e) (hS.keepI (hIt _ _ hst) hSI fun b o hb e=>hk b o (by simpa using hb) e))
 | succ k ih=>
  intro i s hk hi hst hS hQv hR
  have hlt:i < n:=by lia
  refine codeAny_builtin PyProof.Rows.F.entry_set_update_loop ?_
  rw [Around.under_plainId PyProof.Rows.F.plain_set_update_loop _]
  show wpAny _ A.in1 (pyNext (.ref I) >>=_) _ _ s
  have hI0:=hIt _ _ hst
  refine wpAny_bind (W.item i s _ _ hlt hst fun v h1 tk1 hPv hst1 k1=>?_)
  have k1':∀ b o,b≠I→s.heap.get? b=some o→h1.get? b=some o:=fun b o hb e=>k1 b o (by simpa using hb) e
  have neI:∀ {p c},PrK prog w s.heap p c→c≠I:=fun {p c} hk z=>by
   obtain ⟨oi,i1,i2⟩:=hI0
   obtain ⟨oc,_,_,c1,c2,_⟩:=hk
   rw [z,i1] at c1
   cases c1
   exact i2 c2
  obtain ⟨c,rfl,hcS,hck,hDc⟩:=hQv i v hPv hlt
  have hS1:=hS.keepI hI0 hSI k1'
  have hck1:PrK prog w h1 (ps.getD i (0,0)) c:=hck.keep fun o e=>k1' _ _ (neI hck) e
  have hbi:box8 (ps.getD i (0,0)):=by
   refine hbx _ ?_
   rw [List.getD_eq_getElem?_getD,List.getElem?_eq_getElem (by lia)]
   exact List.getElem_mem _
  have etk:ps.take (i + 1)=ps.take i++[ps.getD i (0,0)]:=by
   rw [List.take_add_one,List.getD_eq_getElem?_getD,List.getElem?_eq_getElem (by lia)]
   rfl
  show wpAny _ A.in1 (holding [Value.ref c] (setAdd S (.ref c)) >>=_) _ _ _
  refine wpAny_bind (wpAny_holding ?_)
  unfold setAdd
  refine wpAny_holding ?_
  have hu1:A.in1.units < cLine:=by show A.units + 1 < cLine;lia
  refine wpAny_bind (wpAny_pyHash_tuple hu1 hck1 ?_)
  show wpAny _ _ (setAddHashed S (.ref c) (hP (ps.getD i (0,0)))) _ _ _
  have hlen:(accP (ps.take i)).length + 1≤76:=by
   have:=accP_len (ps.take i)
   rw [List.length_take] at this
   lia
  refine add_pair hu1 hS1 hbi hck1 hcS hDc hlen fun h2 b sb hS2=>?_
  rw [←accP_snoc,←etk] at hS2
  have kk:∀ b o,b≠I→b≠S→s.heap.get? b=some o→h2.get? b=some o:=fun b o h3 h4 e=>by
   rw [sb.2 b h4]
   exact k1' b o h3 e
  refine wpAny_pure ⟨plainId_quiet PyProof.Rows.F.plain_set_update_loop _,ih (i + 1) _ (by lia) hlt (W.frame _ _ _ hst1 fun b hb o e=>?_) hS2 (fun j v hv hj=>?_) fun h' tk k2 hS'=>hR h' tk (fun b o h3 h4 e=>k2 b o h3 h4 (kk b o h3 h4 e)) hS'⟩
  ·show Heap.get? _ b=_
   rw [sb.2 b fun z=>hSf (z▸hb)]
   exact e
  ·obtain ⟨c',e1,e2,e3,e4⟩:=hQv j v hv hj
   exact ⟨c',e1,e2,e3.keep (fun o e=>kk _ _ (neI e3) e2 e),e4⟩
theorem call_setPL {D:Int×Int→Addr→Prop} {l:Addr} {items:Array Value} {ps:List (Int×Int)} {Q:Value→Shared→Prop} (hh:A.handled=none) (hu:A.units + 32 < cLine) (hl:s.heap.IsList l items) (hps:ps.length=items.size) (hbx:∀ p∈ps,box8 p) (h76:items.size≤75)
  (hP:∀ (j:Nat) (v:Value),items[j]? =some v→∃ c,v=.ref c∧PrK prog w s.heap (ps.getD j (0,0)) c∧D (ps.getD j (0,0)) c)
  (h:∀ (h':Heap) (tk:Nat),SetP D prog w h' s.heap.objs.size (accP ps)→(∀ b o,s.heap.get? b=some o→h'.get? b=some o)→Q (.ref s.heap.objs.size) { s with heap:=h',toks:=tk }):
  wpAny (model prog w) A (call (.type "set") [.ref l]) Q E s:=by
 obtain ⟨c,tl,hmro⟩:=PySem.F.called_set.mro
 have hmade:=PySem.F.called_set.made
 have hsub:=PySem.F.called_set.sub
 have h1:=PySem.F.called_set.notType
 have h2:=PySem.F.called_set.canCreate
 have hct:=PySem.F.typeCall_set_1 (.ref l)
 refine wpAny_call (codeAny_of_tree ?_)
 show wpAny _ _ (callAny (.type "set") _) _ _ _
 refine wpAny_pure ⟨Code.quiet_builtin _ (by decide +kernel),codeAny_builtin PySem.F.entry_type_call ?_⟩
 rw [Around.under_plain (weight_type_call_type "set" [.ref l] []) rfl]
 repeat (any_goals (first | assumption | wp_step))
 refine codeAny_mono (new_setU (.ref l) (E:=E) (Q₁:=fun obj s₁=>obj=.ref s.heap.objs.size∧s₁={ s with heap:=s.heap.push (set0 w) }) ⟨rfl,rfl⟩) fun r s₁ hr=>?_
 rcases r with e | fl
 ·exact hr
 rcases fl with _ | _ | _ | obj
 all_goals first
  | exact hr.elim
  | skip
 obtain ⟨rfl,rfl⟩:=hr
 have hS:(s.heap.push (set0 w)).get? s.heap.objs.size=some (set0 w):=Heap.get?_push_size _ rfl
 have hT:Shared.TypeIs { s with heap:=s.heap.push (set0 w) } (.ref s.heap.objs.size) "set":=⟨_,hS,rfl⟩
 have hli:=PySem.F.called_set.init.lookup
 have hbi:=PySem.F.called_set.init.bind (.ref s.heap.objs.size)
 repeat (any_goals (first | assumption | wp_step))
 refine codeAny_mono (codeAny_call_builtin (R:=wants (fun r s₂=>r=.none∧∃ h' tk,s₂={ s with heap:=h',toks:=tk }∧
   SetP D prog w h' s.heap.objs.size (accP ps)∧(∀ b o,s.heap.get? b=some o→h'.get? b=some o)) E) PySem.F.called_set.init.plain PySem.F.entry_set_init (check_set_init_1 hT ?_)) fun r₂ s₂ hr₂=>?_
 ·obtain ⟨ol,hol,hcl,nl,hdl⟩:=hl
  obtain ⟨ocls,odict,odata,oslots⟩:=ol
  dsimp only at hcl hdl
  subst hcl hdl
  have hol':(s.heap.push (set0 w)).get? l=some { cls:=.type "list",dict:=odict,data:=.seq items nl,slots:=oslots }:=Heap.get?_push_of_some _ hol
  have hl1:(s.heap.push (set0 w)).IsList l items:=⟨_,hol',rfl,nl,rfl⟩
  have hsls:=PySem.F.sub_list_set
  have hslf:=PySem.F.sub_list_frozenset
  have hne:(Value.type "list"==Value.type "dict")=false:=by decide
  have hlS:l < s.heap.objs.size:=Heap.lt_size hol
  have hS0:(s.heap.push (set0 w)).get? s.heap.objs.size=some { cls:=.type "set",dict:=none,data:=.set #[] 0 (.fresh 0 0 (!byT w)) }:=hS
  have hh3:A.in1.in1.in1.handled=none:=by simp [hh]
  unfold Builtin.«set.__init__» noKeywords Builtin.Frozenset.updateFrom
  generalize hPI:pyIter=PI
  wp_walk
  subst hPI
  refine wpAny_pyIter_list hl1 ?_
  refine wpAny_bind (wpAny_runValue ?_)
  have e1:(s.heap.push (set0 w)).objs.size=s.heap.objs.size + 1:=Heap.size_push _ _
  have hlI:l≠(s.heap.push (set0 w)).objs.size:=by rw [e1];exact Nat.ne_of_lt (Nat.lt_succ_of_lt hlS)
  have hSI:s.heap.objs.size≠(s.heap.push (set0 w)).objs.size:=by rw [e1];exact Nat.ne_of_lt (Nat.lt_succ_self _)
  refine loop_setP (D:=D) (Walks.list hh3 (s.heap.push (set0 w)).objs.size l hlI items) (fun i h st=>?_) (fun hm=>?_) hSI (by show A.units + 1 + 1 + 8 < cLine;lia) hps hbx h76 (items.size - 0) 0 _ (by lia) (Nat.zero_le _) ⟨⟨_,Heap.get?_push_size _ rfl,rfl,rfl⟩,hl1.push _⟩
   (by rw [List.take_zero];exact setP0 (Heap.get?_push_of_some _ hS)) (fun j v hv hj=>?_) fun h' tk k2 hS'=>?_
  ·obtain ⟨o,ho,hc,_⟩:=st.1
   exact ⟨o,ho,by rw [hc];decide⟩
  ·rcases List.mem_cons.mp hm with z | z
   ·exact hSI z
   ·exact absurd (List.mem_singleton.mp z) (Nat.ne_of_gt hlS)
  ·obtain ⟨c,e1,e2,e3⟩:=hP j v hv
   refine ⟨c,e1,?_,e2.keep (fun o e=>Heap.get?_push_of_some _ (Heap.get?_push_of_some _ e)),e3⟩
   obtain ⟨oc,_,_,c1,_⟩:=e2
   exact Nat.ne_of_lt (Heap.lt_size c1)
  show wpAny _ _ _ _ _ _
  refine wpAny_pure ?_
  show wpAny _ _ (ret Value.none) _ _ _
  refine wpAny_pure ⟨rfl,h',tk,rfl,hS',fun b o e=>?_⟩
  have hb:=Heap.lt_size e
  exact k2 b o (by rw [e1];exact Nat.ne_of_lt (Nat.lt_succ_of_lt hb)) (Nat.ne_of_lt hb) (Heap.get?_push_of_some _ (Heap.get?_push_of_some _ e))
 ·rcases r₂ with e | fl
  ·exact hr₂
  rcases fl with _ | _ | _ | r
  all_goals first
   | exact hr₂.elim
   | skip
  obtain ⟨rfl,h',tk,rfl,hS',hk'⟩:=hr₂
  repeat (any_goals (first | assumption | wp_step))
  exact h _ _ hS' hk'
theorem call_setPT {D:Int×Int→Addr→Prop} {l:Addr} {items:Array Value} {ps:List (Int×Int)} {Q:Value→Shared→Prop} (hh:A.handled=none) (hu:A.units + 32 < cLine) (hl:s.heap.IsTuple l items) (hps:ps.length=items.size) (hbx:∀ p∈ps,box8 p) (h76:items.size≤75)
  (hP:∀ (j:Nat) (v:Value),items[j]? =some v→∃ c,v=.ref c∧PrK prog w s.heap (ps.getD j (0,0)) c∧D (ps.getD j (0,0)) c)
  (h:∀ (h':Heap) (tk:Nat),SetP D prog w h' s.heap.objs.size (accP ps)→(∀ b o,s.heap.get? b=some o→h'.get? b=some o)→Q (.ref s.heap.objs.size) { s with heap:=h',toks:=tk }):
  wpAny (model prog w) A (call (.type "set") [.ref l]) Q E s:=by
 obtain ⟨c,tl,hmro⟩:=PySem.F.called_set.mro
 have hmade:=PySem.F.called_set.made
 have hsub:=PySem.F.called_set.sub
 have h1:=PySem.F.called_set.notType
 have h2:=PySem.F.called_set.canCreate
 have hct:=PySem.F.typeCall_set_1 (.ref l)
 refine wpAny_call (codeAny_of_tree ?_)
 show wpAny _ _ (callAny (.type "set") _) _ _ _
 refine wpAny_pure ⟨Code.quiet_builtin _ (by decide +kernel),codeAny_builtin PySem.F.entry_type_call ?_⟩
 rw [Around.under_plain (weight_type_call_type "set" [.ref l] []) rfl]
 repeat (any_goals (first | assumption | wp_step))
 refine codeAny_mono (new_setU (.ref l) (E:=E) (Q₁:=fun obj s₁=>obj=.ref s.heap.objs.size∧s₁={ s with heap:=s.heap.push (set0 w) }) ⟨rfl,rfl⟩) fun r s₁ hr=>?_
 rcases r with e | fl
 ·exact hr
 rcases fl with _ | _ | _ | obj
 all_goals first
  | exact hr.elim
  | skip
 obtain ⟨rfl,rfl⟩:=hr
 have hS:(s.heap.push (set0 w)).get? s.heap.objs.size=some (set0 w):=Heap.get?_push_size _ rfl
 have hT:Shared.TypeIs { s with heap:=s.heap.push (set0 w) } (.ref s.heap.objs.size) "set":=⟨_,hS,rfl⟩
 have hli:=PySem.F.called_set.init.lookup
 have hbi:=PySem.F.called_set.init.bind (.ref s.heap.objs.size)
 repeat (any_goals (first | assumption | wp_step))
 refine codeAny_mono (codeAny_call_builtin (R:=wants (fun r s₂=>r=.none∧∃ h' tk,s₂={ s with heap:=h',toks:=tk }∧
   SetP D prog w h' s.heap.objs.size (accP ps)∧(∀ b o,s.heap.get? b=some o→h'.get? b=some o)) E) PySem.F.called_set.init.plain PySem.F.entry_set_init (check_set_init_1 hT ?_)) fun r₂ s₂ hr₂=>?_
 ·obtain ⟨ol,hol,hcl,nl,hdl⟩:=hl
  obtain ⟨ocls,odict,odata,oslots⟩:=ol
  dsimp only at hcl hdl
  subst hcl hdl
  have hol':(s.heap.push (set0 w)).get? l=some { cls:=.type "tuple",dict:=odict,data:=.seq items nl,slots:=oslots }:=Heap.get?_push_of_some _ hol
  have hl1:(s.heap.push (set0 w)).IsTuple l items:=⟨_,hol',rfl,nl,rfl⟩
  have hsls:=PySem.F.sub_tuple_set
  have hslf:=PySem.F.sub_tuple_frozenset
  have hne:(Value.type "tuple"==Value.type "dict")=false:=by decide
  have hlS:l < s.heap.objs.size:=Heap.lt_size hol
  have hS0:(s.heap.push (set0 w)).get? s.heap.objs.size=some { cls:=.type "set",dict:=none,data:=.set #[] 0 (.fresh 0 0 (!byT w)) }:=hS
  have hh3:A.in1.in1.in1.handled=none:=by simp [hh]
  unfold Builtin.«set.__init__» noKeywords Builtin.Frozenset.updateFrom
  generalize hPI:pyIter=PI
  wp_walk
  subst hPI
  refine wpAny_pyIter_tuple hl1 ?_
  refine wpAny_bind (wpAny_runValue ?_)
  have e1:(s.heap.push (set0 w)).objs.size=s.heap.objs.size + 1:=Heap.size_push _ _
  have hlI:l≠(s.heap.push (set0 w)).objs.size:=by rw [e1];exact Nat.ne_of_lt (Nat.lt_succ_of_lt hlS)
  have hSI:s.heap.objs.size≠(s.heap.push (set0 w)).objs.size:=by rw [e1];exact Nat.ne_of_lt (Nat.lt_succ_self _)
  refine loop_setP (D:=D) (Walks.tuple hh3 (s.heap.push (set0 w)).objs.size l hlI items) (fun i h st=>?_) (fun hm=>?_) hSI (by show A.units + 1 + 1 + 8 < cLine;lia) hps hbx h76 (items.size - 0) 0 _ (by lia) (Nat.zero_le _) ⟨⟨_,Heap.get?_push_size _ rfl,rfl,rfl⟩,hl1.push _⟩
   (by rw [List.take_zero];exact setP0 (Heap.get?_push_of_some _ hS)) (fun j v hv hj=>?_) fun h' tk k2 hS'=>?_
  ·obtain ⟨o,ho,hc,_⟩:=st.1
   exact ⟨o,ho,by rw [hc];decide⟩
  ·rcases List.mem_cons.mp hm with z | z
   ·exact hSI z
   ·exact absurd (List.mem_singleton.mp z) (Nat.ne_of_gt hlS)
  ·obtain ⟨c,e1,e2,e3⟩:=hP j v hv
   refine ⟨c,e1,?_,e2.keep (fun o e=>Heap.get?_push_of_some _ (Heap.get?_push_of_some _ e)),e3⟩
   obtain ⟨oc,_,_,c1,_⟩:=e2
   exact Nat.ne_of_lt (Heap.lt_size c1)
  show wpAny _ _ _ _ _ _
  refine wpAny_pure ?_
  show wpAny _ _ (ret Value.none) _ _ _
  refine wpAny_pure ⟨rfl,h',tk,rfl,hS',fun b o e=>?_⟩
  have hb:=Heap.lt_size e
  exact k2 b o (by rw [e1];exact Nat.ne_of_lt (Nat.lt_succ_of_lt hb)) (Nat.ne_of_lt hb) (Heap.get?_push_of_some _ (Heap.get?_push_of_some _ e))
 ·rcases r₂ with e | fl
  ·exact hr₂
  rcases fl with _ | _ | _ | r
  all_goals first
   | exact hr₂.elim
   | skip
  obtain ⟨rfl,h',tk,rfl,hS',hk'⟩:=hr₂
  repeat (any_goals (first | assumption | wp_step))
  exact h _ _ hS' hk'
end
end L2
namespace L2
open PySem PySem.Spec PyProof.Rows
theorem slot_sin:Slot "set_iterator" "__next__" "set_iterator.__next__":=
 .of (owner:="set_iterator") (n:="__next__") (by rw [typeLookup_type,builtinLookup_eq_fast];kernel_rfl) (by decide +kernel) (by decide +kernel) (by decide +kernel)
  (by first | exact .inl (by decide +kernel) | exact .inr (by decide +kernel)) (by rw [isSubtype_type];kernel_rfl)
theorem entry_sin:entryFor table "set_iterator.__next__"=some Builtin.«set_iterator.__next__»:=entryFor_of_tree (by kernel_rfl)
theorem args_sin (a:Value):argsOk "set_iterator.__next__" ⟨[a],[]⟩:=by unfold argsOk;kernel_rfl
noncomputable def slotAt (t:SetTable) (i:Nat):Nat:=match i with
 | 0=>0
 | i + 1=>t.place.getD i 0 + 1
theorem below_slot {t:SetTable} (u:UpT t) {i:Nat} (hi:i≤t.place.size):SetTable.below t.place (slotAt t i)=i:=by
 have B:=below_is u.1 (slotAt t i)
 generalize SetTable.below t.place (slotAt t i)=k at B
 have g:∀ m d,m < t.place.size→t.place.getD m d=t.place.getD m 0:=fun m d hm=>by simp [Array.getD,hm]
 cases i with
 | zero=>
  cases k with
  | zero=>rfl
  | succ k=>have:=B.lo 0 (by lia);exact absurd this (Nat.not_lt_zero _)
 | succ i=>
  rcases Nat.lt_trichotomy k (i + 1) with h | h | h
  ·have h1:=B.hi i (by lia) (by lia)
   rw [g _ _ (by lia)] at h1
   show k=i + 1
   have:slotAt t (i + 1)=t.place.getD i 0 + 1:=rfl
   lia
  ·exact h
  ·have h1:=B.lo (i + 1) h
   have hz:i + 1 < t.place.size:=Nat.lt_of_lt_of_le h B.le
   rw [g _ _ hz] at h1
   have h2:=up_at (j:=0) u.1 (show i < i + 1 by lia) hz
   have:slotAt t (i + 1)=t.place.getD i 0 + 1:=rfl
   lia
noncomputable def SAt (h:Heap) (a:Addr) (es:Array (Int×Value)) (ep:Nat) (t:SetTable):Prop:=∃ o,h.get? a=some o∧o.data=.set es ep t
noncomputable def drawnB (es:Array (Int×Value)) (t:SetTable):Bool:= !t.plain&&decide (es.size > 1)
section
variable {prog:Program} {w:World} {A:Around} {E:Value→Shared→Prop} {s:Shared} {a:Addr} {es:Array (Int×Value)} {ep:Nat} {t:SetTable}
theorem by_text {Q:Bool→Shared→Prop} (h:Q (byT w) s):wpAny (model prog w) A setsByText Q E s:=by
 unfold setsByText
 exact wpAny_bind (wpAny_askSetting (wpAny_pure h))
theorem next_txt {slot i:Nat} {Q:Option (Value×Nat)→Shared→Prop} (hS:SAt s.heap a es ep t) (hf:t.fits es.size=true) (hb:byT w=true) (h:Q (((pickOrder (w.params.setOrder a ep) es)[i]?).map fun e=>(e.2,slot)) s):
  wpAny (model prog w) A (setNext a slot i ep) Q E s:=by
 obtain ⟨o,ho,hd⟩:=hS
 unfold setNext
 refine wpAny_bind (wpAny_setState_of ho hd hf ?_)
 dsimp only
 refine wpAny_bind (by_text ?_)
 rw [hb]
 simp only [↓reduceIte,bne_self_eq_false,Bool.false_eq_true]
 unfold setWalk
 refine wpAny_bind (wpAny_bind (wpAny_setState_of ho hd hf ?_))
 dsimp only
 refine wpAny_bind (by_text ?_)
 rw [hb]
 simp only [↓reduceIte]
 exact wpAny_bind (wpAny_askSetting (wpAny_pure (wpAny_pure h)))
theorem next_plc {slot i:Nat} {Q:Option (Value×Nat)→Shared→Prop} (hS:SAt s.heap a es ep t) (hf:t.fits es.size=true) (hb:byT w=false) (hd:drawnB es t=false) (hl:t.led=true)
  (h:Q (match es[SetTable.below t.place slot]?,t.place[SetTable.below t.place slot]? with | some (_,x),some j=>some (x,j + 1) | _,_=>none) s):
  wpAny (model prog w) A (setNext a slot i ep) Q E s:=by
 obtain ⟨o,ho,hdt⟩:=hS
 unfold setNext
 refine wpAny_bind (wpAny_setState_of ho hdt hf ?_)
 dsimp only
 refine wpAny_bind (by_text ?_)
 rw [hb]
 simp only [Bool.false_eq_true,↓reduceIte]
 have e2:¬(drawnB es t=true):=by rw [hd];exact Bool.false_ne_true
 refine wpAny_ite_split (fun z=>absurd z e2) (fun _=>?_)
 refine wpAny_bind (wpAny_of_eq (a:=()) ?_ (wpAny_pure h))
 show (if (!t.led&& !es.isEmpty)=true then (unsupported "set:maker-not-led":Sem Unit) else pure ())=pure ()
 rw [hl]
 rfl
noncomputable def SIt (h:Heap) (I a:Addr) (f:Value) (i n ep:Nat):Prop:=∃ o,h.get? I=some o∧o.cls=.type "set_iterator"∧o.data=.fields #[f,.int i 0,.ref a,.int n 0,.int ep 0]
theorem SIt.ty {I:Addr} {f:Value} {i n:Nat} (h:SIt s.heap I a f i n ep):s.TypeIs (.ref I) "set_iterator":=let ⟨o,ho,hc,_⟩:=h;⟨o,ho,hc⟩
theorem entr {Q:Array (Int×Value)→Shared→Prop} (hS:SAt s.heap a es ep t) (hf:t.fits es.size=true) (h:Q es s):wpAny (model prog w) A (setEntries a) Q E s:=by
 obtain ⟨o,ho,hd⟩:=hS
 unfold setEntries
 exact wpAny_bind (wpAny_setState_of ho hd hf (wpAny_pure h))
theorem nx_item {I:Addr} {slot i n nx:Nat} {x:Value} {Q:Option Value→Shared→Prop} (hit:SIt s.heap I a (.int slot 0) i n ep) (hS:SAt s.heap a es ep t) (hf:t.fits es.size=true) (hn:es.size=n)
  (hN:∀ (A':Around) (E':Value→Shared→Prop) (Q':Option (Value×Nat)→Shared→Prop),Q' (some (x,nx)) s→wpAny (model prog w) A' (setNext a slot i ep) Q' E' s)
  (hQ:∀ h',SIt h' I a (.int nx 0) (i + 1) n ep→Heap.SameBut I s.heap h'→Q (some x) { s with heap:=h' }):
  wpAny (model prog w) A (pyNext (.ref I)) Q E s:=by
 obtain ⟨o,ho,hc,hd⟩:=id hit
 unfold pyNext
 refine wpAny_bind (wpAny_attempt (wpAny_callSpecial?_slot (name:=Str.ofString "__next__") hit.ty slot_sin (wpAny_call_entry slot_sin hit.ty entry_sin ?_ (args_sin _))))
 unfold Builtin.«set_iterator.__next__»
 refine wpAny_bind (wpAny_of_eq (a:=(Value.ref I,([]:List Value))) rfl ?_)
 refine wpAny_bind (wpAny_fieldsOf ho hd ?_)
 dsimp only
 refine wpAny_bind (entr hS hf ?_)
 rw [hn]
 simp only [bne_self_eq_false,Bool.false_eq_true,↓reduceIte,Int.toNat_natCast]
 refine wpAny_bind (hN _ _ _ ?_)
 dsimp only
 refine wpAny_bind (wpAny_setField ho hd (by simp) ?_)
 have ho1:(s.heap.update I (Obj.mapFields (·.setIfInBounds 0 (rawInt nx)))).get? I=some (Obj.mapFields (·.setIfInBounds 0 (rawInt nx)) o):=Heap.get?_update_self _ ho (Obj.isFreed_of_fields (Obj.data_mapFields hd _))
 have hd1:=Obj.data_mapFields hd (·.setIfInBounds 0 (rawInt nx))
 refine wpAny_bind (wpAny_setField ho1 hd1 (by simp) (wpAny_pure ⟨x,rfl,wpAny_pure (hQ _ ?_ ((Heap.SameBut.update ..).trans (Heap.SameBut.update ..)))⟩))
 refine ⟨_,Heap.get?_update_self _ ho1 (Obj.isFreed_of_fields (Obj.data_mapFields hd1 _)),(Obj.cls_mapFields ..).trans ((Obj.cls_mapFields ..).trans hc),?_⟩
 rw [Obj.data_mapFields hd1]
 simp [rawInt]
theorem nx_done {I:Addr} {slot i n:Nat} {Q:Option Value→Shared→Prop} (hh:A.handled=none) (hit:SIt s.heap I a (.int slot 0) i n ep) (hS:SAt s.heap a es ep t) (hf:t.fits es.size=true) (hn:es.size=n)
  (hN:∀ (A':Around) (E':Value→Shared→Prop) (Q':Option (Value×Nat)→Shared→Prop),Q' none s→wpAny (model prog w) A' (setNext a slot i ep) Q' E' s)
  (hQ:∀ h',Heap.ExtBut I s.heap h'→Q none { s with heap:=h' }):
  wpAny (model prog w) A (pyNext (.ref I)) Q E s:=by
 obtain ⟨o,ho,hc,hd⟩:=id hit
 unfold pyNext
 refine wpAny_bind (wpAny_attempt (wpAny_callSpecial?_slot (name:=Str.ofString "__next__") hit.ty slot_sin (wpAny_call_entry slot_sin hit.ty entry_sin ?_ (args_sin _))))
 unfold Builtin.«set_iterator.__next__»
 refine wpAny_bind (wpAny_of_eq (a:=(Value.ref I,([]:List Value))) rfl ?_)
 refine wpAny_bind (wpAny_fieldsOf ho hd ?_)
 dsimp only
 refine wpAny_bind (entr hS hf ?_)
 rw [hn]
 simp only [bne_self_eq_false,Bool.false_eq_true,↓reduceIte,Int.toNat_natCast]
 refine wpAny_bind (hN _ _ _ ?_)
 dsimp only
 refine wpAny_bind (wpAny_setField ho hd (by simp) ?_)
 show wpAny _ _ (newExc (.type "StopIteration") [] >>=_) _ _ _
 refine wpAny_bind ?_
 simp only [newExc,newTuple]
 refine wpAny_bind (wpAny_newObj_type ?_ (by size_fits))
 refine wpAny_bind (m:=firstArgMember _ _) (wpAny_of_eq (a:=Value.none) (by first | rfl | (simp only [firstArgMember];rfl)) ?_)
 refine wpAny_newObj_type ?_ (by size_fits)
 simp only [raiseNew]
 refine wpAny_bind (wpAny_handled ?_)
 rw [show A.in1.handled=none from hh]
 refine wpAny_bind (wpAny_pure (wpAny_throw ?_))
 refine wpAny_bind (wpAny_isInstance (T:="StopIteration") (b:=true) ⟨_,Heap.get?_push_size _ rfl,rfl⟩ isSubtype_stop ?_)
 exact wpAny_pure (hQ _ (((Heap.SameBut.update ..).extBut.push _).push _))
end
end L2
namespace L2
open PySem PySem.Spec PyProof.Rows
theorem slot_sii:Slot "set_iterator" "__iter__" "set_iterator.__iter__":=
 .of (owner:="set_iterator") (n:="__iter__") (by rw [typeLookup_type,builtinLookup_eq_fast];kernel_rfl) (by decide +kernel) (by decide +kernel) (by decide +kernel)
  (by first | exact .inl (by decide +kernel) | exact .inr (by decide +kernel)) (by rw [isSubtype_type];kernel_rfl)
theorem entry_sii:entryFor table "set_iterator.__iter__"=some Builtin.«dict_keyiterator.__iter__»:=entryFor_alias (id':="dict_keyiterator.__iter__") (by kernel_rfl) rfl (by decide +kernel) (by kernel_rfl)
theorem args_sii (a:Value):argsOk "set_iterator.__iter__" ⟨[a],[]⟩:=by unfold argsOk;kernel_rfl
theorem entry_set_it:entryFor table "set.__iter__"=some Builtin.«frozenset.__iter__»:=entryFor_alias (id':="frozenset.__iter__") (by kernel_rfl) rfl (by decide +kernel) (by kernel_rfl)
theorem perm_erase {α:Type}:∀ {l:List α} {i:Nat} (h:i < l.length),(l[i]::l.eraseIdx i).Perm l
 | x::l,0,_=>List.Perm.refl _
 | x::l,i + 1,h=>by
  show (l[i]'(by simpa using h)::x::l.eraseIdx i).Perm (x::l)
  exact (List.Perm.swap _ _ _).trans ((perm_erase (by simpa using h)).cons _)
theorem pick_go {α:Type} (next:Nat→Nat):∀ (f k:Nat) (left:List α) (out:Array α),left.length=f→(pickOrder.go next f k left out).toList.Perm (out.toList++left)
 | 0,k,left,out,h=>by
  obtain rfl:left=[]:=List.eq_nil_of_length_eq_zero h
  unfold pickOrder.go
  simp
 | f + 1,k,left,out,h=>by
  unfold pickOrder.go
  have hlt:next k % left.length < left.length:=Nat.mod_lt _ (by lia)
  rw [List.getElem?_eq_getElem hlt]
  dsimp only
  refine (pick_go next f (k + 1) _ _ (by rw [List.length_eraseIdx,if_pos hlt];lia)).trans ?_
  rw [Array.toList_push,List.append_assoc]
  exact (perm_erase hlt).append_left _
theorem pick_perm {α:Type} (next:Nat→Nat) (xs:Array α):(pickOrder next xs).toList.Perm xs.toList:=by
 unfold pickOrder
 have:=pick_go next xs.size 0 xs.toList #[] (by simp)
 simpa using this
section
variable {prog:Program} {w:World} {A:Around} {E:Value→Shared→Prop} {s:Shared} {a:Addr} {es:Array (Int×Value)} {ep:Nat} {t:SetTable}
theorem choose_any {src:Source} {n:Nat} {Q:Nat→Shared→Prop} (h0:n≠0) (h:∀ i d,i < n→Q i { s with drawn:=d }):wpAny (model prog w) A (choose src n) Q E s:=by
 intro Γ p hΓ
 unfold choose
 rw [Sem.wp_choose]
 exact ⟨h0,h _ _ (Nat.mod_lt _ (Nat.pos_of_ne_zero h0))⟩
theorem draw_any {α:Type}:∀ (n:Nat) (xs:List α) (s:Shared) (Q:List α→Shared→Prop),xs.length=n→(∀ ys d,ys.Perm xs→Q ys { s with drawn:=d })→wpAny (model prog w) A (drawOrder n xs) Q E s
 | 0,xs,s,Q,hn,h=>by
  obtain rfl:xs=[]:=List.eq_nil_of_length_eq_zero hn
  unfold drawOrder
  exact wpAny_pure (h [] s.drawn (List.Perm.refl _))
 | n + 1,[],s,Q,hn,h=>by cases hn
 | n + 1,x::xs,s,Q,hn,h=>by
  unfold drawOrder
  refine wpAny_bind (choose_any (by simp) fun i d hi=>?_)
  rw [List.getElem?_eq_getElem hi]
  dsimp only
  refine wpAny_bind (draw_any n _ _ _ (by rw [List.length_eraseIdx,if_pos hi];lia) fun ys d' hp=>?_)
  refine wpAny_pure (h _ d' ?_)
  exact (hp.cons _).trans (perm_erase hi)
theorem SIt.self {I:Addr} {f:Value} {i n:Nat} {Q:Value→Shared→Prop} (hit:SIt s.heap I a f i n ep) (h:Q (.ref I) s):wpAny (model prog w) A (pyIter (.ref I)) Q E s:=by
 refine wpAny_pyIter_slot hit.ty slot_sii (wpAny_call_entry slot_sii hit.ty entry_sii ?_ (args_sii _))
 show wpAny _ _ (ret (.ref I)) _ _ s
 exact wpAny_pure ⟨_,rfl,"set_iterator",_,hit.ty,slot_sin.lookup,h⟩
theorem SAt.at {h h':Heap} (x:SAt h a es ep t) (k:∀ o,h.get? a=some o→h'.get? a=some o):SAt h' a es ep t:=let ⟨o,ho,hd⟩:=x;⟨o,k o ho,hd⟩
theorem SIt.at {h h':Heap} {I:Addr} {f:Value} {i n:Nat} (x:SIt h I a f i n ep) (k:∀ o,h.get? I=some o→h'.get? I=some o):SIt h' I a f i n ep:=let ⟨o,ho,hd⟩:=x;⟨o,k o ho,hd⟩
theorem walk_int (hh:A.handled=none) {I:Addr} (hne:a≠I) {n:Nat} (hf:t.fits es.size=true) (hn:es.size=n) {sl:Nat→Nat} {out:List Value} (hl:out.length=n)
  (hN:∀ (i:Nat) (s:Shared) (A':Around) (E':Value→Shared→Prop) (Q':Option (Value×Nat)→Shared→Prop),i≤n→SAt s.heap a es ep t→Q' ((out[i]?).map fun x=>(x,sl (i + 1))) s→wpAny (model prog w) A' (setNext a (sl i) i ep) Q' E' s):
  Walks prog w A I [I,a] [I] n (fun i v=>out[i]? =some v) (fun i h=>SAt h a es ep t∧SIt h I a (.int (sl i) 0) i n ep) where
 sub:=fun b hb=>by simp at hb;simp [hb]
 frame:=fun _ _ _ st hk=>⟨st.1.at fun o e=>hk a (by simp) o e,st.2.at fun o e=>hk I (by simp) o e⟩
 item:=fun i s Q E hi st hQ=>by
  have e:out[i]? =some (out[i]'(by lia)):=List.getElem?_eq_getElem (by lia)
  refine nx_item st.2 st.1 hf hn (x:=out[i]'(by lia)) (nx:=sl (i + 1)) (fun A' E' Q' q=>hN i s A' E' Q' (by lia) st.1 (by rw [e];exact q)) fun h' hit' sb=>?_
  exact hQ _ h' s.toks e ⟨st.1.at fun o z=>by rw [sb.2 a hne];exact z,hit'⟩ fun b o hb z=>sb.extBut b o (fun h=>hb (by simp [h])) z
 done:=fun s Q E st hQ=>by
  have e:out[n]? =none:=List.getElem?_eq_none (by lia)
  exact nx_done hh st.2 st.1 hf hn (fun A' E' Q' q=>hN n s A' E' Q' (Nat.le_refl _) st.1 (by rw [e];exact q)) fun h' he=>hQ h' s.toks fun b o hb z=>he b o (fun h=>hb (by simp [h])) z
 self:=fun _ _ _ _ st hQ=>st.2.self hQ
theorem walk_txt {I:Addr} (hne:a≠I) {n:Nat} (hf:t.fits es.size=true) (hn:es.size=n) (hb:byT w=true):
  ∃ out:List Value,out.Perm (es.toList.map (·.2))∧∀ A:Around,A.handled=none→Walks prog w A I [I,a] [I] n (fun i v=>out[i]? =some v) (fun i h=>SAt h a es ep t∧SIt h I a (.int ((fun _=>0:Nat→Nat) i:Nat) 0) i n ep):=by
 have hp:=pick_perm (w.params.setOrder a ep) es
 refine ⟨(pickOrder (w.params.setOrder a ep) es).toList.map (·.2),hp.map _,fun A hh=>walk_int hh hne hf hn (by rw [List.length_map,hp.length_eq,Array.length_toList,hn]) fun i s A' E' Q' hi hS q=>next_txt hS hf hb ?_⟩
 rw [List.getElem?_map,Array.getElem?_toList,Option.map_map] at q
 exact q
theorem walk_plc (hh:A.handled=none) {I:Addr} (hne:a≠I) {n:Nat} (hf:t.fits es.size=true) (hn:es.size=n) (hb:byT w=false) (hd:drawnB es t=false) (hl:t.led=true) (u:UpT t):
  Walks prog w A I [I,a] [I] n (fun i v=>(es.toList.map (·.2))[i]? =some v) (fun i h=>SAt h a es ep t∧SIt h I a (.int (slotAt t i:Nat) 0) i n ep):=by
 have hz:t.place.size=n:=by
  unfold SetTable.fits at hf
  rw [Bool.and_eq_true,beq_iff_eq] at hf
  lia
 refine walk_int hh hne hf hn (by rw [List.length_map,Array.length_toList,hn]) fun i s A' E' Q' hi hS q=>next_plc hS hf hb hd hl ?_
 rw [below_slot u (by lia)]
 rw [List.getElem?_map,Array.getElem?_toList,Option.map_map] at q
 by_cases g:i < n
 ·have e1:es[i]? =some (es[i]'(by lia)):=Array.getElem?_eq_getElem (by lia)
  have e2:t.place[i]? =some (t.place[i]'(by lia)):=Array.getElem?_eq_getElem (by lia)
  rw [e1] at q ⊢
  rw [e2]
  dsimp only
  have e3:slotAt t (i + 1)=t.place[i]'(by lia) + 1:=by
   show t.place.getD i 0 + 1=_
   rw [Array.getD,dif_pos (by lia)]
   rfl
  have q':Q' (some ((es[i]'(by lia)).2,slotAt t (i + 1))) s:=q
  rw [e3] at q'
  exact q'
 ·have e1:es[i]? =none:=Array.getElem?_eq_none (by lia)
  rw [e1] at q ⊢
  exact q
end
end L2
namespace L2
open PySem PySem.Spec PyProof.Rows
noncomputable def TPl (h:Heap) (T:Addr) (ps:List Nat):Prop:=∃ o k,h.get? T=some o∧o.data=.seq (ps.map fun (p:Nat)=>rawInt p).toArray k
noncomputable def outD (es:Array (Int×Value)) (ps:List Nat):List Value:=ps.map fun p=>(es.getD p (0,.none)).2
theorem outD_all (es:Array (Int×Value)):outD es (List.range es.size)=es.toList.map (·.2):=by
 refine List.ext_getElem? fun i=>?_
 unfold outD
 rw [List.getElem?_map,List.getElem?_map,Array.getElem?_toList (xs:=es)]
 by_cases h:i < es.size
 ·rw [List.getElem?_range h,Array.getElem?_eq_getElem h]
  simp [Array.getD,h]
 ·rw [List.getElem?_eq_none (by simpa using h),Array.getElem?_eq_none (by lia)]
  rfl
section
variable {prog:Program} {w:World} {A:Around} {E:Value→Shared→Prop} {s:Shared} {a:Addr} {es:Array (Int×Value)} {ep:Nat} {t:SetTable}
theorem TPl.at {h h':Heap} {T:Addr} {ps:List Nat} (x:TPl h T ps) (k:∀ o,h.get? T=some o→h'.get? T=some o):TPl h' T ps:=let ⟨o,n,ho,hd⟩:=x;⟨o,n,k o ho,hd⟩
theorem drw_item {I T:Addr} {i n p:Nat} {ps:List Nat} {Q:Option Value→Shared→Prop} (hit:SIt s.heap I a (.ref T) i n ep) (hS:SAt s.heap a es ep t) (hT:TPl s.heap T ps) (hf:t.fits es.size=true) (hn:es.size=n) (hp:ps[i]? =some p) (hpn:p < n)
  (hQ:∀ h',SIt h' I a (.ref T) (i + 1) n ep→Heap.SameBut I s.heap h'→Q (some (es.getD p (0,.none)).2) { s with heap:=h' }):
  wpAny (model prog w) A (pyNext (.ref I)) Q E s:=by
 obtain ⟨o,ho,hc,hd⟩:=id hit
 obtain ⟨oT,kT,hoT,hdT⟩:=hT
 unfold pyNext
 refine wpAny_bind (wpAny_attempt (wpAny_callSpecial?_slot (name:=Str.ofString "__next__") hit.ty slot_sin (wpAny_call_entry slot_sin hit.ty entry_sin ?_ (args_sin _))))
 unfold Builtin.«set_iterator.__next__»
 refine wpAny_bind (wpAny_of_eq (a:=(Value.ref I,([]:List Value))) rfl ?_)
 refine wpAny_bind (wpAny_fieldsOf ho hd ?_)
 dsimp only
 refine wpAny_bind (entr hS hf ?_)
 rw [hn]
 simp only [bne_self_eq_false,Bool.false_eq_true,↓reduceIte,Int.toNat_natCast]
 refine wpAny_bind (wpAny_seqItems hoT hdT ?_)
 dsimp only
 have e1:((ps.map fun (p:Nat)=>rawInt p).toArray)[i]? =some (rawInt p):=by
  rw [List.getElem?_toArray,List.getElem?_map,hp]
  rfl
 rw [e1]
 simp only [rawInt,Int.toNat_natCast]
 unfold setNextDrawn
 obtain ⟨oS,hoS,hdS⟩:=hS
 refine wpAny_bind (wpAny_bind (wpAny_setState_of hoS hdS hf ?_))
 have e2:es[p]? =some (es.getD p (0,.none)):=by
  rw [Array.getElem?_eq_getElem (by lia)]
  simp [Array.getD,show p < es.size by lia]
 simp only [bne_self_eq_false,Bool.false_eq_true,↓reduceIte,e2]
 refine wpAny_pure ?_
 refine wpAny_bind (wpAny_setField ho hd (by simp) (wpAny_pure ⟨_,rfl,wpAny_pure (hQ _ ?_ (Heap.SameBut.update ..))⟩))
 refine ⟨_,Heap.get?_update_self _ ho (Obj.isFreed_of_fields (Obj.data_mapFields hd _)),(Obj.cls_mapFields ..).trans hc,?_⟩
 rw [Obj.data_mapFields hd]
 simp
theorem drw_done {I T:Addr} {n:Nat} {ps:List Nat} {Q:Option Value→Shared→Prop} (hh:A.handled=none) (hit:SIt s.heap I a (.ref T) n n ep) (hS:SAt s.heap a es ep t) (hT:TPl s.heap T ps) (hf:t.fits es.size=true) (hn:es.size=n) (hp:ps.length=n)
  (hQ:∀ h',Heap.ExtBut I s.heap h'→Q none { s with heap:=h' }):
  wpAny (model prog w) A (pyNext (.ref I)) Q E s:=by
 obtain ⟨o,ho,hc,hd⟩:=id hit
 obtain ⟨oT,kT,hoT,hdT⟩:=hT
 unfold pyNext
 refine wpAny_bind (wpAny_attempt (wpAny_callSpecial?_slot (name:=Str.ofString "__next__") hit.ty slot_sin (wpAny_call_entry slot_sin hit.ty entry_sin ?_ (args_sin _))))
 unfold Builtin.«set_iterator.__next__»
 refine wpAny_bind (wpAny_of_eq (a:=(Value.ref I,([]:List Value))) rfl ?_)
 refine wpAny_bind (wpAny_fieldsOf ho hd ?_)
 dsimp only
 refine wpAny_bind (entr hS hf ?_)
 rw [hn]
 simp only [bne_self_eq_false,Bool.false_eq_true,↓reduceIte,Int.toNat_natCast]
 refine wpAny_bind (wpAny_seqItems hoT hdT ?_)
 dsimp only
 have e1:((ps.map fun (p:Nat)=>rawInt p).toArray)[n]? =none:=by
  rw [List.getElem?_toArray,List.getElem?_map,List.getElem?_eq_none (by lia)]
  rfl
 rw [e1]
 dsimp only
 refine wpAny_bind (wpAny_setField ho hd (by simp) ?_)
 have ho1:(s.heap.update I (Obj.mapFields (·.setIfInBounds 0 (rawInt 0)))).get? I=some (Obj.mapFields (·.setIfInBounds 0 (rawInt 0)) o):=Heap.get?_update_self _ ho (Obj.isFreed_of_fields (Obj.data_mapFields hd _))
 have hd1:=Obj.data_mapFields hd (·.setIfInBounds 0 (rawInt 0))
 refine wpAny_bind (wpAny_setField ho1 hd1 (by simp) ?_)
 show wpAny _ _ (newExc (.type "StopIteration") [] >>=_) _ _ _
 refine wpAny_bind ?_
 simp only [newExc,newTuple]
 refine wpAny_bind (wpAny_newObj_type ?_ (by size_fits))
 refine wpAny_bind (m:=firstArgMember _ _) (wpAny_of_eq (a:=Value.none) (by first | rfl | (simp only [firstArgMember];rfl)) ?_)
 refine wpAny_newObj_type ?_ (by size_fits)
 simp only [raiseNew]
 refine wpAny_bind (wpAny_handled ?_)
 rw [show A.in1.handled=none from hh]
 refine wpAny_bind (wpAny_pure (wpAny_throw ?_))
 refine wpAny_bind (wpAny_isInstance (T:="StopIteration") (b:=true) ⟨_,Heap.get?_push_size _ rfl,rfl⟩ isSubtype_stop ?_)
 exact wpAny_pure (hQ _ ((((Heap.SameBut.update ..).trans (Heap.SameBut.update ..)).extBut.push _).push _))
theorem walk_drw (hh:A.handled=none) {I T:Addr} (hne:a≠I) (hTI:T≠I) {n:Nat} (hf:t.fits es.size=true) (hn:es.size=n) {ps:List Nat} (hp:ps.Perm (List.range n)):
  Walks prog w A I [I,a,T] [I] n (fun i v=>(outD es ps)[i]? =some v) (fun i h=>SAt h a es ep t∧SIt h I a (.ref T) i n ep∧TPl h T ps) where
 sub:=fun b hb=>by simp at hb;simp [hb]
 frame:=fun _ _ _ st hk=>⟨st.1.at fun o e=>hk a (by simp) o e,st.2.1.at fun o e=>hk I (by simp) o e,st.2.2.at fun o e=>hk T (by simp) o e⟩
 item:=fun i s Q E hi st hQ=>by
  have hl:ps.length=n:=by rw [hp.length_eq,List.length_range]
  have e:ps[i]? =some (ps[i]'(by lia)):=List.getElem?_eq_getElem (by lia)
  have hpn:ps[i]'(by lia) < n:=List.mem_range.mp (hp.mem_iff.mp (List.getElem_mem (by lia)))
  refine drw_item st.2.1 st.1 st.2.2 hf hn e hpn fun h' hit' sb=>?_
  exact hQ _ h' s.toks (by unfold outD;rw [List.getElem?_map,e];rfl) ⟨st.1.at fun o z=>by rw [sb.2 a hne];exact z,hit',st.2.2.at fun o z=>by rw [sb.2 T hTI];exact z⟩ fun b o hb z=>sb.extBut b o (fun h=>hb (by simp [h])) z
 done:=fun s Q E st hQ=>drw_done hh st.2.1 st.1 st.2.2 hf hn (by rw [hp.length_eq,List.length_range]) fun h' he=>hQ h' s.toks fun b o hb z=>he b o (fun h=>hb (by simp [h])) z
 self:=fun _ _ _ _ st hQ=>st.2.1.self hQ
theorem iter_set {n:Nat} {Q:Value→Shared→Prop} (hT:s.TypeIs (.ref a) "set") (hS:SAt s.heap a es ep t) (hf:t.fits es.size=true) (hn:es.size=n) (hz:n≤sizeLine) (hU:TabU w t)
  (h:∀ (h':Heap) d (I:Addr) (fp:List Addr) (out:List Value) (St:Nat→Heap→Prop),(∀ b o,s.heap.get? b=some o→h'.get? b=some o)→I∈fp→(∀ b∈fp,b=a∨s.heap.objs.size≤b)→s.heap.objs.size≤I→out.Perm (es.toList.map (·.2))→
   (∀ A:Around,A.handled=none→Walks prog w A I fp [I] n (fun i v=>out[i]? =some v) St)→St 0 h'→Q (.ref I) { s with heap:=h',drawn:=d }):
  wpAny (model prog w) A (pyIter (.ref a)) Q E s:=by
 have haz:a < s.heap.objs.size:=let ⟨o,ho,_⟩:=hS;Heap.lt_size ho
 refine wpAny_pyIter_slot hT PySem.F.slot_set_iter (wpAny_call_entry PySem.F.slot_set_iter hT entry_set_it ?_ (PySem.F.args_set_iter_1 _))
 unfold Builtin.«frozenset.__iter__»
 refine wpAny_bind (wpAny_of_eq (a:=a) rfl ?_)
 unfold Builtin.Frozenset.sizeOf
 refine wpAny_bind (wpAny_bind (entr hS hf (wpAny_pure ?_)))
 obtain ⟨oS,hoS,hdS⟩:=id hS
 unfold setDrawn
 refine wpAny_bind (wpAny_bind (wpAny_setState_of hoS hdS hf ?_))
 dsimp only
 refine wpAny_bind (by_text (wpAny_pure ?_))
 by_cases hd:(!byT w&&drawnB es t)=true
 ·refine wpAny_ite_split (fun _=>?_) (fun z=>absurd hd z)
  refine wpAny_bind (draw_any _ _ _ _ List.length_range fun ps d hp=>?_)
  have hl:ps.length=n:=by rw [hp.length_eq,List.length_range,hn]
  refine wpAny_bind (wpAny_newTuple ?_ (by rw [List.length_map,hl];exact hz))
  have hS1:SAt (s.heap.push { cls:=.type "tuple",data:=.seq (ps.map fun (i:Nat)=>rawInt i).toArray }) a es ep t:=hS.at fun o e=>Heap.get?_push_of_some _ e
  obtain ⟨oS1,hoS1,hdS1⟩:=id hS1
  unfold setEpoch
  refine wpAny_bind (wpAny_bind (wpAny_setState_of hoS1 hdS1 hf (wpAny_pure ?_)))
  refine wpAny_bind (wpAny_newObj_type (wpAny_pure ⟨_,rfl,"set_iterator",_,⟨_,Heap.get?_push_size _ rfl,rfl⟩,slot_sin.lookup,?_⟩) (by size_fits))
  have e1:(s.heap.push { cls:=.type "tuple",data:=.seq (ps.map fun (i:Nat)=>rawInt i).toArray }).objs.size=s.heap.objs.size + 1:=Heap.size_push _ _
  refine h _ d _ [(s.heap.push { cls:=.type "tuple",data:=.seq (ps.map fun (i:Nat)=>rawInt i).toArray }).objs.size,a,s.heap.objs.size] (outD es ps) _ (fun b o e=>Heap.get?_push_of_some _ (Heap.get?_push_of_some _ e)) (by simp) (fun b hb=>?_) (by rw [e1];exact Nat.le_succ _) ?_
   (fun A' hA'=>walk_drw hA' (by rw [e1];exact Nat.ne_of_lt (Nat.lt_succ_of_lt haz)) (by rw [e1];exact Nat.ne_of_lt (Nat.lt_succ_self _)) hf hn (hn▸hp)) ⟨hS1.at fun o e=>Heap.get?_push_of_some _ e,⟨_,Heap.get?_push_size _ rfl,rfl,?_⟩,⟨_,_,Heap.get?_push_of_some _ (Heap.get?_push_size _ rfl),rfl⟩⟩
  ·rcases List.mem_cons.mp hb with rfl | hb
   ·exact .inr (by rw [e1];exact Nat.le_succ _)
   rcases List.mem_cons.mp hb with rfl | hb
   ·exact .inl rfl
   rw [List.mem_singleton] at hb
   exact .inr (Nat.le_of_eq hb.symm)
  ·rw [←outD_all]
   exact hp.map _
  ·rw [hn]
   rfl
 ·refine wpAny_ite_split (fun z=>absurd z hd) (fun _=>wpAny_bind (wpAny_pure ?_))
  unfold setEpoch
  refine wpAny_bind (wpAny_bind (wpAny_setState_of hoS hdS hf (wpAny_pure ?_)))
  refine wpAny_bind (wpAny_newObj_type (wpAny_pure ⟨_,rfl,"set_iterator",_,⟨_,Heap.get?_push_size _ rfl,rfl⟩,slot_sin.lookup,?_⟩) (by size_fits))
  have hne:a≠s.heap.objs.size:=Nat.ne_of_lt haz
  have hfp:∀ b∈[s.heap.objs.size,a],b=a∨s.heap.objs.size≤b:=fun b hb=>by
   rcases List.mem_cons.mp hb with rfl | hb
   ·exact .inr (Nat.le_refl _)
   ·exact .inl (List.mem_singleton.mp hb)
  cases hb:byT w with
  | true=>
   obtain ⟨out,hp,hw⟩:=walk_txt (prog:=prog) (w:=w) (ep:=ep) (t:=t) (I:=s.heap.objs.size) hne hf hn hb
   refine h _ s.drawn _ [s.heap.objs.size,a] out _ (fun b o e=>Heap.get?_push_of_some _ e) (by simp) hfp (Nat.le_refl _) hp hw ⟨hS.at fun o e=>Heap.get?_push_of_some _ e,_,Heap.get?_push_size _ rfl,rfl,?_⟩
   rw [hn]
   rfl
  | false=>
   have hd':drawnB es t=false:=by rw [hb] at hd;simpa using hd
   have hl:t.led=true:=by rw [hU.2,hb];rfl
   refine h _ s.drawn _ [s.heap.objs.size,a] (es.toList.map (·.2)) _ (fun b o e=>Heap.get?_push_of_some _ e) (by simp) hfp (Nat.le_refl _) (List.Perm.refl _) (fun A' hA'=>walk_plc hA' hne hf hn hb hd' hl hU.1) ⟨hS.at fun o e=>Heap.get?_push_of_some _ e,_,Heap.get?_push_size _ rfl,rfl,?_⟩
   rw [hn]
   rfl
end
end L2
namespace L2
open PySem PySem.Spec PyProof.Rows
section
variable {prog:Program} {w:World} {A:Around} {E:Value→Shared→Prop} {s:Shared} {a:Addr}
theorem hint_set {Q:Bool→Shared→Prop} (hT:s.TypeIs (.ref a) "set") (h:Q false s):wpAny (model prog w) A (Builtin.List.listLengthHint (.ref a)) Q E s:=by
 unfold Builtin.List.listLengthHint
 refine wpAny_bind (wpAny_specialOf hT PySem.F.slot_set_len.lookup ?_)
 generalize hid:("set.__len__":String)=id0
 wp_delta
 rw [show splitId id0=some ("set","__len__") from by subst hid;decide +kernel]
 subst hid
 refine wpAny_bind (wpAny_isInstance (T:="set") (b:=true) hT (by rw [isSubtype_type];kernel_rfl) ?_)
 refine wpAny_ite_split (fun hab=>absurd hab (by decide)) (fun _=>?_)
 refine wpAny_ite_split (fun _=>?_) (fun hab=>absurd (by decide +kernel) hab)
 refine wpAny_bind (wpAny_typeOf hT ?_)
 exact wpAny_pure h
theorem items_is {P:List Value} {acc:Array Value} {n:Nat} (hl:P.length=n) (h:ItemsOf (fun i v=>P[i]? =some v) acc n):acc.toList=P:=by
 refine List.ext_getElem? fun i=>?_
 rw [Array.getElem?_toList]
 by_cases g:i < n
 ·have e:acc[i]? =some (acc[i]'(by have:=h.1;lia)):=Array.getElem?_eq_getElem (by have:=h.1;lia)
  rw [e]
  exact (h.2 i _ e).symm
 ·rw [Array.getElem?_eq_none (by have:=h.1;lia),List.getElem?_eq_none (by lia)]
theorem collect_set {es:Array (Int×Value)} {ep:Nat} {t:SetTable} {n:Nat} {Q:List Value→Shared→Prop} (hh:A.handled=none) (hT:s.TypeIs (.ref a) "set") (hS:SAt s.heap a es ep t) (hf:t.fits es.size=true) (hn:es.size=n) (hz:n≤sizeLine) (hU:TabU w t)
  (h:∀ (h':Heap) d tk (out:List Value),(∀ b o,s.heap.get? b=some o→h'.get? b=some o)→s.heap.objs.size≤h'.objs.size→out.Perm (es.toList.map (·.2))→Q out { s with heap:=h',drawn:=d,toks:=tk }):
  wpAny (model prog w) A (collect (.ref a)) Q E s:=by
 have haz:a < s.heap.objs.size:=let ⟨o,ho,_⟩:=hS;Heap.lt_size ho
 unfold collect
 refine wpAny_bind (wpAny_runValue (codeAny_builtin PySem.F.entry_proto_collect ?_))
 rw [Around.under_plainId PySem.F.plain_proto_collect _]
 show wpAny _ A.in1 (newList [] >>=fun l=>again (.builtin "list.__iadd__" ⟨[l,.ref a],[]⟩)) _ _ s
 refine wpAny_bind (wpAny_newObj_type ?_)
 refine wpAny_pure ⟨plainId_quiet PySem.F.plain_list_iadd _,codeAny_builtin PySem.F.entry_list_iadd ?_⟩
 rw [Around.under_plainId PySem.F.plain_list_iadd _]
 have k0:∀ b o,s.heap.get? b=some o→(s.heap.push { cls:=.type "list",data:=.seq ([]:List Value).toArray }).get? b=some o:=fun b o e=>Heap.get?_push_of_some _ e
 have hS0:(s.heap.push { cls:=.type "list",data:=.seq ([]:List Value).toArray }).get? s.heap.objs.size=some { cls:=.type "list",data:=.seq ([]:List Value).toArray }:=Heap.get?_push_size _ rfl
 have z0:(s.heap.push { cls:=.type "list",data:=.seq ([]:List Value).toArray }).objs.size=s.heap.objs.size + 1:=Heap.size_push _ _
 generalize hG:s.heap.push { cls:=.type "list",data:=.seq ([]:List Value).toArray }=G at k0 hS0 z0
 have hSa:s.heap.objs.size≠a:=Nat.ne_of_gt haz
 have hT0:Shared.TypeIs { s with heap:=G } (.ref a) "set":=let ⟨o,ho,hc⟩:=hT;⟨o,k0 a o ho,hc⟩
 have h1:Builtin.List.listSameRef (.ref s.heap.objs.size) (.ref a)=false:=by simp [Builtin.List.listSameRef,hSa]
 show wpAny _ A.in1 (Builtin.List.listExtendWith (.ref s.heap.objs.size) (.ref a) (.ref s.heap.objs.size)) _ _ { s with heap:=G }
 unfold Builtin.List.listExtendWith
 refine wpAny_bind (wpAny_typeOf hT0 ?_)
 rw [if_neg (by rw [h1];decide)]
 refine wpAny_bind (iter_set (s:={ s with heap:=G }) hT0 (hS.at fun o e=>k0 a o e) hf hn hz hU fun h1 d I fp out St k1 hI hfp hIz hp hw hst=>?_)
 have hl:out.length=n:=by rw [hp.length_eq,List.length_map,Array.length_toList,hn]
 have hSf:s.heap.objs.size∉fp:=fun hm=>by
  rcases hfp _ hm with e | e
  ·exact hSa e
  ·have e':G.objs.size≤s.heap.objs.size:=e
   rw [z0] at e'
   exact absurd e' (Nat.not_succ_le_self _)
 have hS1:=k1 _ _ hS0
 have hT1:Shared.TypeIs { s with heap:=h1,drawn:=d } (.ref a) "set":=let ⟨o,ho,hc⟩:=hT0;⟨o,k1 a o ho,hc⟩
 refine wpAny_bind (wpAny_holding (hint_set hT1 ?_))
 refine wpAny_ite_split (fun _=>?_) (fun z=>absurd (by decide +kernel) z)
 refine wpAny_bind (wpAny_rule ?_)
 refine wpAny_bind ?_
 show wpAny _ _ (updateSeq s.heap.objs.size (·.push .none) >>=fun _=>updateSeq s.heap.objs.size (·.pop)) _ _ _
 refine wpAny_bind (wpAny_updateSeq hS1 rfl ?_)
 have hS2:=Heap.get?_update_self (Obj.mapSeq (·.push Value.none)) hS1 rfl
 refine wpAny_updateSeq (hz:=by seq_fits) hS2 rfl ?_
 have hS3:=Heap.get?_update_self (Obj.mapSeq (·.pop)) hS2 rfl
 have k3:∀ b o,b≠s.heap.objs.size→h1.get? b=some o→((h1.update s.heap.objs.size (Obj.mapSeq (·.push Value.none))).update s.heap.objs.size (Obj.mapSeq (·.pop))).get? b=some o:=fun b o hb e=>
  (Heap.get?_update_other _ _ (Ne.symm hb)).trans ((Heap.get?_update_other _ _ (Ne.symm hb)).trans e)
 have hh1:A.in1.handled=none:=hh
 have W:=hw A.in1 hh1
 have hst3:=W.frame 0 _ _ hst fun b hb o e=>k3 b o (fun z=>hSf (z▸hb)) e
 refine wpAny_pure ⟨plainId_quiet PySem.F.plain_extend_loop _,codeAny_extend_loopS W.toS hz _ hSf _ n 0 _ _ _ rfl (Nat.zero_le _) hst3 hS3 (ItemsOf.nil _) fun s' acc' c' hm hS' hacc=>?_⟩
 show wpAny _ A (load s.heap.objs.size >>=_) _ _ s'
 refine wpAny_bind (wpAny_load hS' ?_)
 show wpAny _ A (pure acc'.toList) _ _ s'
 rw [items_is hl hacc,Moved.eq_with hm]
 refine wpAny_pure (h s'.heap d s'.toks out (fun b o e=>hm.heap b o (fun z=>?_) (k3 b o (Nat.ne_of_lt (Heap.lt_size e)) (k1 b o (k0 b o e)))) (Nat.le_of_lt (Heap.lt_size hS')) hp)
 rcases List.mem_cons.mp z with z | z
 ·exact absurd z (Nat.ne_of_lt (Heap.lt_size e))
 ·rw [List.mem_singleton] at z
  have q:G.objs.size≤I:=hIz
  rw [←z,z0] at q
  exact absurd (Heap.lt_size e) (Nat.not_lt.mpr (Nat.le_of_succ_le q))
structure Nub (ns ms:List Int):Prop where
 up:ms.Pairwise (· < ·)
 mem:∀ k,k∈ms↔k∈ns
end
section
variable {X:Cx}
theorem Inv.drawn {pins:List (Addr×Obj)} {σ:St} {H:Hp} {s:Shared} (I:Inv X pins σ H s) (d:Drawn):Inv X pins σ H { s with drawn:=d }:=⟨I.ok,I.os,I.bare,I.base,I.loc,I.cell,I.free,I.freeC,I.pin,I.hok,I.len⟩
end
end L2
namespace L2
open PySem PySem.Spec PyProof.Rows
section
variable {prog:Program} {w:World} {A:Around} {E:Value→Shared→Prop} {s:Shared}
theorem tail_many {vs:List Value} {Q:Fin→Shared→Prop} {h₀:Heap} {L:Addr} {m:Str→Option Value} {news:List (Addr×Obj)} (F:Fr h₀ L s.heap m) (N:News h₀ L s.heap news) (h2:2≤vs.length) (h64:vs.length < 64)
  (h:∀ D e1 h',Fr h₀ L h' m→News h₀ L h' ((D,seqObj "list" #[] e1)::news)→(∀ q∈news,q.1 < D)→
   wpAny (model prog w) A.in1 (keyKind' vs.toArray) (fun κ s'=>(PySem.W.kas_sort vs.length).kasWp (PySem.W.kas_ask prog w A.in1 κ vs) (fun p s''=>PySem.W.KasFin h₀ L m D e1 (p.toList.map fun i=>vs.getD i Value.none) (fun s3=>Q (.done (.ret (.ref D))) s3) s'') s') (fun _ _=>False) { s with heap:=h' }):
  wpAny (model prog w) A (do let l ←newList vs;let _ ←holding [l] (call (.builtin "list.sort") [l]);ret l) Q E s:=by
 have hsl:vs.length≤sizeLine:=by rw [sizeLine_eq];lia
 refine wpAny_bind (wpAny_newList ?_ hsl)
 have hoL:(s.heap.push (seqObj "list" vs.toArray 0)).get? s.heap.objs.size=some (seqObj "list" vs.toArray 0):=Heap.get?_push_size _ rfl
 have keep:∀ b o,s.heap.get? b=some o→(s.heap.push (seqObj "list" vs.toArray 0)).get? b=some o:=fun b o q=>Heap.get?_push_of_some _ q
 have hL:L < s.heap.objs.size:=F.ns.lt
 refine wpAny_bind (wpAny_holding (wpAny_call_entry slot_list_sort ⟨_,hoL,rfl⟩ entry_list_sort ?body (args_list_sort _)))
 case body=>
  refine PySem.W.kat_list_sort (s:={ s with heap:=s.heap.push (seqObj "list" vs.toArray 0) })
   (F.kept keep) (N.grown keep) hoL (Nat.ne_of_gt hL) (Heap.get?_none_of_le (Nat.le_trans F.above (Nat.le_of_lt hL)))
   (fun p hp=>Nat.ne_of_lt (Heap.lt_size (N p hp).1)) h2 h64 fun e1 h' F' N'=>?_
  refine wpAny_mono (h _ e1 h' F' N' fun q hq=>Heap.lt_size (N q hq).1) (fun κ s' hk=>?_) fun _ _ x=>x
  rw [PySem.W.kat_ask_eq rfl] at hk ⊢
  exact PySem.W.kas_wp_mono hk fun p s'' hk'=>hk'.mono fun s3 hq=>⟨_,rfl,wpAny_pure hq⟩
theorem tail_few {vs:List Value} {Q:Fin→Shared→Prop} (h2:vs.length < 2)
  (h:∀ D h' n,s.heap.objs.size≤D→(∀ b o,s.heap.get? b=some o→h'.get? b=some o)→h'.get? D=some { cls:=.type "list",data:=.seq vs.toArray n }→Q (.done (.ret (.ref D))) { s with heap:=h' }):
  wpAny (model prog w) A (do let l ←newList vs;let _ ←holding [l] (call (.builtin "list.sort") [l]);ret l) Q E s:=by
 have hsl:vs.length≤sizeLine:=by rw [sizeLine_eq];lia
 refine wpAny_bind (wpAny_newList ?_ hsl)
 have hoL:(s.heap.push (seqObj "list" vs.toArray 0)).get? s.heap.objs.size=some (seqObj "list" vs.toArray 0):=Heap.get?_push_size _ rfl
 have keep:∀ b o,s.heap.get? b=some o→(s.heap.push (seqObj "list" vs.toArray 0)).get? b=some o:=fun b o q=>Heap.get?_push_of_some _ q
 generalize s.heap.push (seqObj "list" vs.toArray 0)=g at hoL keep ⊢
 refine wpAny_bind (wpAny_holding (wpAny_call_entry slot_list_sort ⟨_,hoL,rfl⟩ entry_list_sort ?body (args_list_sort _)))
 case body=>
  rw [list_sort_plain]
  have ha:s.heap.objs.size < g.objs.size:=Heap.lt_size hoL
  refine wpAny_bind (listItems_at hoL rfl ?_)
  refine wpAny_bind (listUpdate_at hoL rfl ?_ (by rw [List.size_toArray];exact hsl) (Nat.zero_le _))
  obtain ⟨e1,ho1⟩:∃ e1,(g.update (s.heap.objs.size) (Obj.mapSeq fun _=>(#[]:Array Value))).get? (s.heap.objs.size)=some (seqObj "list" #[] e1):=⟨_,get?_update_seq hoL (fun _=>#[])⟩
  refine wpAny_bind (seqEpoch_at ho1 rfl ?_)
  refine wpAny_bind (wpAny_newTuple ?_ hsl)
  refine wpAny_bind (wpAny_newList ?_ (Nat.zero_le _))
  refine wpAny_holding ?_
  have ho6:(((g.update (s.heap.objs.size) (Obj.mapSeq fun _=>(#[]:Array Value))).push (seqObj "tuple" vs.toArray 0)).push (seqObj "list" #[] 0)).get? (s.heap.objs.size)=some (seqObj "list" #[] e1):=by
   rw [Heap.get?_push_ne _ _ _ (by rw [size_push',Heap.size_update];exact Nat.ne_of_lt (Nat.lt_succ_of_lt ha)),Heap.get?_push_ne _ _ _ (by rw [Heap.size_update];exact Nat.ne_of_lt ha)]
   exact ho1
  show wpAny (model prog w) _ _ _ _ { s with heap:=((g.update (s.heap.objs.size) (Obj.mapSeq fun _=>(#[]:Array Value))).push (seqObj "tuple" vs.toArray 0)).push (seqObj "list" #[] 0) }
  dsimp only
  have h2':vs.toArray.size < 2:=by simpa using h2
  rw [if_pos h2',if_pos h2']
  refine wpAny_bind (wpAny_pure ?_)
  rw [StateT.run_pure]
  refine wpAny_bind (wpAny_pure ?_)
  dsimp only
  refine wpAny_bind (seqEpoch_at ho6 rfl ?_)
  have earr:(arrOf (SortSt.mk' general' (vs.toArray.zip vs.toArray) #[] 7 none)).map (·.2)=vs.toArray:=by
   show (pairsOf vs).map (·.2)=vs.toArray
   apply Array.toList_inj.mp
   rw [Array.toList_map,pairsOf_toList]
   have e:∀ l:List Value,(l.zip l).map (·.2)=l:=fun l=>by
    induction l with
    | nil=>rfl
    | cons a r ih=>rw [List.zip_cons_cons,List.map_cons,ih]
   rw [e]
  refine wpAny_bind (listUpdate_at ho6 rfl ?_ (Nat.zero_le _) (hsz2:=by rw [earr,List.size_toArray];exact Nat.le_succ_of_le hsl))
  simp only [bne_self_eq_false,Bool.false_eq_true,if_false]
  refine wpAny_pure ⟨_,rfl,wpAny_pure ?_⟩
  have s2:=get?_update_seq ho6 fun _=>vs.toArray
  rw [earr]
  refine h _ _ _ (Nat.le_refl _) (fun b o q=>?_) s2
  have hlt:b < s.heap.objs.size:=Heap.lt_size q
  have hlt2:b < g.objs.size:=Heap.lt_size (keep b o q)
  rw [Heap.get?_update_ne _ _ _ _ (Nat.ne_of_lt hlt),Heap.get?_push_ne _ _ _ (by rw [size_push',Heap.size_update];exact Nat.ne_of_lt (Nat.lt_succ_of_lt hlt2)),Heap.get?_push_ne _ _ _ (by rw [Heap.size_update];exact Nat.ne_of_lt hlt2),
   Heap.get?_update_ne _ _ _ _ (Nat.ne_of_lt hlt)]
  exact keep b o q
end
end L2
namespace L2
open PySem PySem.Spec PyProof.Rows
section
variable {X:Cx}
theorem tail_sorted {A:Around} {E:Value→Shared→Prop} {pins:List (Addr×Obj)} {s:Shared} {σ:St} {H:Hp} {Q:VK} (I:Inv X pins σ H s) {vs:List V} {its:List Value} {ps:List Str} {nss:List (List Int)} {k:Nat} (rv:Vals vs its) (hz:vs.length≤sizeLine) (ha:IsAll H vs (nss.map (tupOf ps))) (hk:∀ ns∈nss,ns.length=k) (hpos:0 < ps.length + k) (hnd:nss.Nodup) (h64:nss.length < 64)
  (q:∀ (l:Addr) (vs':List V) (nss':List (List Int)),H l=none→IsAll H vs' (nss'.map (tupOf ps))→nss'.Perm nss→nss'.Pairwise (fun a b=>HT.lexLt a b=true)→Q (.ref l) (upd H l (.lst vs'))) {R:Fin→Shared→Prop} (hR:∀ u s',EP X pins σ Q u s'→R (.done (.ret u)) s'):
  wpAny (model X.prog X.w) A (do let l ←newList its;let _ ←holding [l] (call (.builtin "list.sort") [l]);ret l) R E s:=by
 have e1:vs.length=nss.length:=by rw [ha.length,List.length_map]
 have e2:its.length=nss.length:=by rw [←rv.length,e1]
 by_cases h2:its.length < 2
 ·refine tail_few h2 fun D h' n hD hkeep ho=>hR _ _ ?_
  refine ⟨.ref D,_,I.laid (t':=s.toks) (o:=.lst vs) hkeep hD ⟨hz,its,n,rv,ho⟩,rfl,q D vs nss (I.hok.fresh hD) ha (List.Perm.refl _) ?_⟩
  match nss,e2,h2 with
  | [],_,_=>exact .nil
  | [a],_,_=>exact List.pairwise_singleton _ _
  | a::b::r,e2,h2=>simp at e2;lia
 ·obtain ⟨m,F⟩:=I.fr
  refine tail_many F (news:=allNews X.base s.heap X.env.locals) news_all (by lia) (by lia) fun D e0 h' F' N' hD=>?_
  have hkeep:∀ b o,b≠X.env.locals→s.heap.get? b=some o→h'.get? b=some o:=fun b o hb e=>by
   cases qb:X.base.get? b with
   | some u=>
    have:=I.bk b u qb
    rw [e] at this;cases this
    exact F'.keep b _ qb
   | none=>exact (N' (b,o) (List.mem_cons_of_mem _ (mem_allNews hb qb e))).1
  have item:∀ (i:Nat) (ns:List Int),nss[i]? =some ns→∃ (a:Addr) (o:Obj) (zs:List Value) (n:Nat),its.getD i Value.none=.ref a∧h'.get? a=some o∧o.cls=.type "tuple"∧o.data=.seq zs.toArray n∧Vals (ps.map V.str++ns.map V.int) zs:=fun i ns e=>by
   obtain ⟨v,ev,iv⟩:=ha.get (i:=i) (d:=tupOf ps ns) (by rw [List.getElem?_map,e];rfl)
   obtain ⟨u,eu,ru⟩:=rv.get ev
   unfold tupOf at iv
   cases iv with
   | @tup a xs _ ea hxs=>
    obtain rfl:=hxs.preInts
    obtain ⟨zs,rz,⟨o,h1,h2,n,h3⟩,_⟩:=I.tuple (SqT.of ea)
    have hL:a≠X.env.locals:=fun z=>by rw [z,I.free] at ea;cases ea
    refine ⟨a,o,zs,n,?_,hkeep a o hL h1,h2,h3,rz⟩
    rw [List.getD_eq_getElem?_getD,eu]
    exact ru
  obtain ⟨T,fs,tups,hfl,hT,hTT⟩:∃ (T:String) (fs:List Value),PySem.W.KatTups h' its fs∧fs.length=its.length∧(∀ v∈fs,typeOf v=pure (Value.type T))∧(Value.type T==Value.type T)=true:=by
   have go:∀ T:String,(∀ (ns:List Int) (zs:List Value),ns.length=k→Vals (ps.map V.str++ns.map V.int) zs→∃ f,zs.toArray[0]? =some f∧typeOf f=pure (Value.type T))→
     ∃ (fs:List Value),PySem.W.KatTups h' its fs∧fs.length=its.length∧(∀ v∈fs,typeOf v=pure (Value.type T)):=fun T hf=>
    katTups_of its fun i u eu=>by
     have hi:i < nss.length:=by rw [←e2];exact (List.getElem?_eq_some_iff.mp eu).1
     obtain ⟨a,o,zs,n,g1,g2,g3,g4,g5⟩:=item i nss[i] (List.getElem?_eq_getElem hi)
     rw [List.getD_eq_getElem?_getD,eu] at g1
     obtain ⟨f,f1,f2⟩:=hf _ zs (hk _ (List.getElem_mem hi)) g5
     exact ⟨a,o,zs.toArray,n,f,g1,g2,g3,g4,f1,f2⟩
   cases hps:ps with
   | nil=>
    obtain ⟨fs,a,b,c⟩:=go "int" fun ns zs hn rz=>by
     subst hps
     match ns,zs,rz,hn with
     | [],_,_,hn=>simp at hpos;subst hn;simp at hpos
     | n::ns,_,.cons r _,_=>
      obtain ⟨t,rfl⟩:=r
      exact ⟨_,rfl,rfl⟩
    exact ⟨"int",fs,a,b,c,rfl⟩
   | cons p1 pr=>
    obtain ⟨fs,a,b,c⟩:=go "str" fun ns zs hn rz=>by
     subst hps
     match zs,rz with
     | _,.cons r _=>
      obtain ⟨t,rfl⟩:=r
      exact ⟨_,rfl,rfl⟩
    exact ⟨"str",fs,a,b,c,rfl⟩
  refine PySem.W.kat_kind tups (by lia) (fun v hv=>PySem.W.Looks.of_pure (hT v hv)) hTT ?_
  have S:Str1 (fun i j=>HT.lexLt (nss.getD i []) (nss.getD j [])) its.length:=⟨fun i j k _ _ _ a b=>lex_tr a b,fun i j hi hj hne a=>lex_tot (fun z=>hne ?_) a,fun i j _ _ a=>lex_asym a⟩
  ·rw [e2]
   rw [e2] at S
   refine Run.wp (fun i j C hi hj hC=>?_) (fun pq hpq=>?_) (run_sort S (by lia))
   ·show wpAny _ _ (keyLt' _ (its.getD i Value.none) (its.getD j Value.none)) C _ _
    obtain ⟨a,o,zs,n,g1,g2,g3,g4,g5⟩:=item i nss[i] (List.getElem?_eq_getElem hi)
    obtain ⟨a',o',zs',n',g1',g2',g3',g4',g5'⟩:=item j nss[j] (List.getElem?_eq_getElem hj)
    rw [g1,g1']
    refine PySem.W.kat_lt g2 g4 g2' g4' ?_
    have hn1:=hk _ (List.getElem_mem hi)
    have hn2:=hk _ (List.getElem_mem hj)
    have ez:decide (zs.toArray.size < zs'.toArray.size)=false:=by
     have l1:=g5.length
     have l2:=g5'.length
     simp only [List.length_append,List.length_map] at l1 l2
     simp only [List.size_toArray]
     exact decide_eq_false (by lia)
    rw [ez]
    refine lex_pre 0 (by simpa using g5) (by simpa using g5') (by lia) ?_
    have e1':nss.getD i []=nss[i]:=by simp [hi]
    have e2':nss.getD j []=nss[j]:=by simp [hj]
    rw [←e1',←e2']
    exact hC
   ·obtain ⟨P,up⟩:=hpq
    refine PySem.W.KasFin.intro F' N' (.head fun x hx=>Nat.ne_of_lt (hD x hx)) fun h'' c F'' N''=>?_
    have hnD:s.heap.get? D=none:=by
     cases qd:s.heap.get? D with
     | none=>rfl
     | some o=>
      have hh:=N' (D,_) List.mem_cons_self
      have hm:=hD (D,o) (mem_allNews hh.2.1 hh.2.2 qd)
      exact absurd hm (Nat.lt_irrefl _)
    have hkeep2:∀ b o,b≠X.env.locals→s.heap.get? b=some o→h''.get? b=some o:=fun b o hb e=>by
     cases qb:X.base.get? b with
     | some u=>
      have:=I.bk b u qb
      rw [e] at this;cases this
      exact F''.keep b _ qb
     | none=>exact (N'' (b,o) (List.mem_cons_of_mem _ (mem_allNews hb qb e))).1
    have hlt:∀ x∈pq.toList,x < nss.length:=fun x hx=>List.mem_range.mp (P.pm.mem_iff.mp hx)
    have rv2:∀ l:List Nat,(∀ x∈l,x < nss.length)→Vals (l.map fun i=>vs.getD i .non) (l.map fun i=>its.getD i Value.none)∧IsAll H (l.map fun i=>vs.getD i .non) ((l.map fun i=>nss.getD i []).map (tupOf ps)):=fun l=>by
     induction l with
     | nil=>exact fun _=>⟨.nil,.nil⟩
     | cons x l ih=>
      intro hx
      obtain ⟨ih1,ih2⟩:=ih fun y hy=>hx y (List.mem_cons_of_mem _ hy)
      have hxn:=hx x List.mem_cons_self
      obtain ⟨v,ev,iv⟩:=ha.get (i:=x) (d:=tupOf ps nss[x]) (by rw [List.getElem?_map,List.getElem?_eq_getElem hxn];rfl)
      obtain ⟨u,eu,ru⟩:=rv.get ev
      have a1:vs.getD x .non=v:=by rw [List.getD_eq_getElem?_getD,ev];rfl
      have a2:its.getD x Value.none=u:=by rw [List.getD_eq_getElem?_getD,eu];rfl
      have a3:nss.getD x []=nss[x]:=by simp [hxn]
      simp only [List.map_cons,a1,a2,a3]
      exact ⟨.cons ru ih1,.cons iv ih2⟩
    obtain ⟨rv3,ia3⟩:=rv2 pq.toList hlt
    have ho:=(N'' (D,_) List.mem_cons_self).1
    have hpl:pq.toList.length=nss.length:=by rw [Array.length_toList];exact P.sz
    refine hR _ _ ⟨.ref D,_,I.laidBut (t':=s.toks) hkeep2 F.ns F''.ns hnD rv3 (by rw [List.length_map,hpl,sizeLine_eq];lia) ho,rfl,q D _ _ (I.none_of hnD) ia3 ?_ ?_⟩
    ·have:=P.pm.map fun i=>nss.getD i []
     rw [map_getD_range] at this
     exact this
    ·rw [List.pairwise_iff_getElem]
     intro i j hi hj hij
     simp only [List.length_map] at hi hj
     have:=up i j hij (by rw [←hpl];exact hj)
     have z:∀ x (hx:x < pq.toList.length),pq.getD x 0=pq.toList[x]:=fun x hx=>by
      have hx':x < pq.size:=by simpa using hx
      simp [Array.getD,hx']
     rw [z i hi,z j hj] at this
     simpa using this
  ·rw [e2] at hi hj
   have e1':nss.getD i []=nss[i]:=by simp [hi]
   have e2':nss.getD j []=nss[j]:=by simp [hj]
   rw [e1',e2'] at z
   exact (List.getElem_inj hnd).mp z
end
section
variable {X:Cx}
noncomputable abbrev prT (p:Int×Int):PyData:=.tuple [.int p.1,.int p.2]
theorem Inv.prK {pins:List (Addr×Obj)} {σ:St} {H:Hp} {s:Shared} (I:Inv X pins σ H s) {x:V} {p:Int×Int} (h:Is H x (prT p)):∃ c,x=.ref c∧PrK X.prog X.w s.heap p c:=by
 cases h with
 | @tup a xs _ ea hxs=>
  cases hxs with
  | cons h1 t1=>
  cases t1 with
  | cons h2 t2=>
  cases t2
  cases h1
  cases h2
  obtain ⟨zs,rz,⟨o,h1,h2,n,h3⟩,_⟩:=I.tuple (SqT.of ea)
  refine ⟨a,rfl,o,zs.toArray,n,h1,h2,h3,?_⟩
  cases rz with
  | cons r1 rz=>
  cases rz with
  | cons r2 rz=>
  cases rz
  obtain ⟨t1,rfl⟩:=r1
  obtain ⟨t2,rfl⟩:=r2
  exact .cons (intKind_is _ _ _ _) (.cons (intKind_is _ _ _ _) .nil)
structure NubP (ps qs:List (Int×Int)):Prop where
 up:qs.Pairwise fun a b=>HT.lexLt [a.1,a.2] [b.1,b.2]=true
 mem:∀ q,q∈qs↔q∈ps
noncomputable def tSortSetP (K:PySem.W.Frag) (ta:TA):TE:=fun σ H Q=>ta σ H fun vs H1=>∃ (p:Addr) (zs:List V) (ps:List (Int×Int)),vs=[.ref p]∧(SqL K H1 p zs∨SqT K H1 p zs)∧IsAll H1 zs (ps.map prT)∧(∀ q∈ps,box8 q)∧ps.length < 64∧
 ∀ (l:Addr) (zs':List V) (qs:List (Int×Int)),H1 l=none→IsAll H1 zs' (qs.map prT)→NubP ps qs→Q (.ref l) (upd H1 l (.lst zs'))
noncomputable def tLenSetP (K:PySem.W.Frag) (ta:TA):TE:=fun σ H Q=>ta σ H fun vs H1=>∃ (p:Addr) (zs:List V) (ps:List (Int×Int)),vs=[.ref p]∧(SqL K H1 p zs∨SqT K H1 p zs)∧IsAll H1 zs (ps.map prT)∧(∀ q∈ps,box8 q)∧ps.length≤75∧Q (.int ((accP ps).length:Nat)) H1
theorem perm_lift {α β:Type} {f:α→β}:∀ {out:List β} {es:List α},out.Perm (es.map f)→∃ l:List α,l.Perm es∧out=l.map f
 | [],es,h=>by
  have:es.map f=[]:=List.Perm.nil_eq h |>.symm
  have:es=[]:=List.map_eq_nil_iff.mp this
  exact ⟨[],by rw [this],rfl⟩
 | b::out,es,h=>by
  have hb:b∈es.map f:=h.mem_iff.mp (.head _)
  obtain ⟨e,he,rfl⟩:=List.mem_map.mp hb
  obtain ⟨s1,s2,rfl⟩:=List.append_of_mem he
  have h2:(f e::out).Perm (f e::(s1++s2).map f):=h.trans (by rw [List.map_append,List.map_cons,List.map_append];exact List.perm_middle)
  obtain ⟨l,hl,rfl⟩:=perm_lift (List.Perm.cons_inv h2)
  exact ⟨e::l,(hl.cons e).trans List.perm_middle.symm,rfl⟩
theorem perm_sub {α:Type} [DecidableEq α]:∀ {L ns:List α},L.Nodup→(∀ x∈L,x∈ns)→ns.length=L.length→L.Perm ns
 | [],ns,_,_,h=>by rw [List.eq_nil_of_length_eq_zero h]
 | x::L,ns,nd,sub,h=>by
  have hx:=sub x List.mem_cons_self
  rw [List.nodup_cons] at nd
  have p1:=List.perm_cons_erase hx
  refine ((perm_sub nd.2 (fun y hy=>?_) ?_).cons x).trans p1.symm
  ·exact (List.mem_erase_of_ne (fun z:y=x=>nd.1 (z▸hy))).mpr (sub y (List.mem_cons_of_mem _ hy))
  ·have:=p1.length_eq
   simp only [List.length_cons] at this h
   lia
theorem out_is {H:Hp} {es:List (Int×Value)} {ks:List (Int×Int)} (pr:(es.map (·.1)).Perm (ks.map hP)) (nd:ks.Nodup) (bx:∀ p∈ks,box8 p) (el:∀ e∈es,∃ p c,p∈ks∧e=(hP p,Value.ref c)∧Is H (.ref c) (prT p)) {out:List Value} (ho:out.Perm (es.map (·.2))):
  ∃ (vs:List V) (qs:List (Int×Int)),Vals vs out∧IsAll H vs (qs.map prT)∧qs.Perm ks:=by
 have key:∀ l:List (Int×Value),(∀ e∈l,∃ p c,p∈ks∧e=(hP p,Value.ref c)∧Is H (.ref c) (prT p))→∃ (vs:List V) (qs:List (Int×Int)),Vals vs (l.map (·.2))∧IsAll H vs (qs.map prT)∧l.map (·.1)=qs.map hP∧∀ q∈qs,q∈ks:=by
  intro l
  induction l with
  | nil=>intro _;exact ⟨[],[],.nil,.nil,rfl,fun q h=>by cases h⟩
  | cons e l ih=>
   intro h
   obtain ⟨vs,qs,a,b,c,d⟩:=ih fun x hx=>h x (.tail _ hx)
   obtain ⟨p,ad,h1,rfl,h3⟩:=h e (.head _)
   refine ⟨.ref ad::vs,p::qs,.cons rfl a,.cons h3 b,by rw [List.map_cons,List.map_cons,c],fun q hq=>?_⟩
   rcases List.mem_cons.mp hq with rfl | hq
   ·exact h1
   ·exact d q hq
 obtain ⟨l,hl1,hl2⟩:=perm_lift ho
 obtain ⟨vs,qs,a,b,c,d⟩:=key l fun e he=>el e (hl1.mem_iff.mp he)
 refine ⟨vs,qs,by rw [hl2];exact a,b,?_⟩
 have p1:(qs.map hP).Perm (ks.map hP):=by rw [←c];exact (hl1.map _).trans pr
 have n1:(qs.map hP).Nodup:=p1.nodup_iff.mpr (hP_ndl nd bx)
 have n2:qs.Nodup:=by
  unfold List.Nodup at n1 ⊢
  rw [List.pairwise_map] at n1
  exact n1.imp fun {x y} h e=>h (by rw [e])
 refine perm_sub n2 d ?_
 have:=p1.length_eq
 rw [List.length_map,List.length_map] at this
 exact this.symm
theorem pr_nss (qs:List (Int×Int)):(qs.map fun p=>[p.1,p.2]).map (tupOf [])=qs.map prT:=by rw [List.map_map];rfl
theorem nss_pr:∀ {l:List (List Int)},(∀ ns∈l,ns.length=2)→∃ qs:List (Int×Int),l=qs.map fun p=>[p.1,p.2]
 | [],_=>⟨[],rfl⟩
 | ns::l,h=>by
  obtain ⟨qs,e⟩:=nss_pr fun x hx=>h x (.tail _ hx)
  have h2:=h ns (.head _)
  match ns,h2 with
  | [a,b],_=>exact ⟨(a,b)::qs,by rw [e];rfl⟩
theorem pair_inj {a b:Int×Int} (h:[a.1,a.2]=[b.1,b.2]):a=b:=by
 injection h with h1 h2
 injection h2 with h2 _
 exact Prod.ext h1 h2
theorem units8 {X:Cx} (h:X.A.units + 64 < cLine):X.A.units + 32 < cLine:=by lia
theorem set_made {pins:List (Addr×Obj)} {σ:St} {H:Hp} {s:Shared} (I:Inv X pins σ H s) (hc:X.calm=true) (hu:X.A.units + 64 < cLine) {p:Addr} {zs:List V} {ps:List (Int×Int)} (hq:SqL X.K H p zs∨SqT X.K H p zs) (ha:IsAll H zs (ps.map prT)) (hb:∀ q∈ps,box8 q) (h75:ps.length≤75) {Q:Value→Shared→Prop} {E:Value→Shared→Prop}
  (h:∀ (S:Addr) (h':Heap) (tk:Nat),SetP (fun q c=>Is H (.ref c) (prT q)) X.prog X.w h' S (accP ps)→(∀ b o,s.heap.get? b=some o→h'.get? b=some o)→Q (.ref S) { s with heap:=h',toks:=tk }):
  wpAny (model X.prog X.w) X.A (call (.type "set") [.ref p]) Q E s:=by
 have key:∀ {its:List Value},Vals zs its→∀ (j:Nat) (v:Value),its.toArray[j]? =some v→∃ c,v=.ref c∧PrK X.prog X.w s.heap (ps.getD j (0,0)) c∧Is H (.ref c) (prT (ps.getD j (0,0))):=fun {its} rv j v hv=>by
  rw [List.getElem?_toArray] at hv
  have hj:=(List.getElem?_eq_some_iff.mp hv).1
  have hjz:j < zs.length:=by rw [rv.length];exact hj
  have hjp:j < ps.length:=by
   have:=ha.length
   rw [List.length_map] at this
   lia
  obtain ⟨x,ex,ix⟩:=ha.get (i:=j) (d:=prT ps[j]) (by rw [List.getElem?_map,List.getElem?_eq_getElem hjp];rfl)
  obtain ⟨u,eu,ru⟩:=rv.get ex
  rw [hv] at eu
  cases eu
  obtain ⟨c,rfl,hk⟩:=I.prK ix
  have ed:ps.getD j (0,0)=ps[j]:=by simp [hjp]
  rw [ed]
  exact ⟨c,ru,hk,ix⟩
 have lz:zs.length=ps.length:=by rw [ha.length,List.length_map]
 rcases hq with hq | hq
 ·obtain ⟨its,rv,pl,hz⟩:=I.list hq
  have li:its.toArray.size=ps.length:=by rw [List.size_toArray,←rv.length,lz]
  exact call_setPL (I.ok.hd hc) (units8 hu) pl.isList li.symm hb (by lia) (key rv) fun h' tk hS hk=>h _ h' tk hS hk
 ·obtain ⟨its,rv,pl,hz⟩:=I.tuple hq
  have li:its.toArray.size=ps.length:=by rw [List.size_toArray,←rv.length,lz]
  have pt:s.heap.IsTuple p its.toArray:=by
   obtain ⟨o,a1,a2,n,a3⟩:=pl
   exact ⟨o,a1,a2,n,a3⟩
  exact call_setPT (I.ok.hd hc) (units8 hu) pt li.symm hb (by lia) (key rv) fun h' tk hS hk=>h _ h' tk hS hk
theorem pe_sortSetP {e:Expr} {ta:TA} {p1 p2 p3 p4:Pos} (hc:X.calm=true) (hu:X.A.units + 64 < cLine) (hg:Gl X "sorted") (hm:X.mg "sorted"=none) (hg2:Gl X "set") (hm2:X.mg "set"=none) (ha:PA X [e] ta) (hs:starEach [e] X.env=[(false,eval e X.env)]:=by rfl)
  (hs2:starEach [Expr.Call (.Name "set" p2) [e] [] p3] X.env=[(false,eval (.Call (.Name "set" p2) [e] [] p3) X.env)]:=by rfl):
  PE X (.Call (.Name "sorted" p1) [.Call (.Name "set" p2) [e] [] p3] [] p4) (tSortSetP X.K ta):=by
 intro pins s σ H Q I h
 refine wpAny_Call_Name_kw (ld_blt I hg hm bt_sorted (PyProof.Rows.callWith_builtin1 ?_ hs2 rfl) (by decide) (by decide))
 rw [hs2]
 show wpAny _ _ (spliced ((false,eval (.Call (.Name "set" p2) [e] [] p3) X.env)::backTo p4 [])) _ _ s
 refine Calls.spliced_cons (Call_ (ld_blt I hg2 hm2 bt_set (PyProof.Rows.callWith_type1 (thn (ha p3 pins s σ H _ I h) fun us s1 ⟨vs,H1,I1,r1,q1⟩=>?_) hs rfl)))
 obtain ⟨b,zs,ps,e,hq,hal,hb,h64,q⟩:=q1
 subst e
 obtain ⟨u,rfl,rx⟩:=Vals.one r1
 obtain rfl:u=Value.ref b:=rx
 refine set_made I1 hc hu hq hal hb (by lia) fun S h' tk hS hk=>?_
 have I2:Inv X pins σ H1 { s1 with heap:=h',toks:=tk }:=I1.kept fun c o e=>hk c o e
 refine Calls.spliced_nil ?_
 obtain ⟨o,es,ep,t,ho,z,sz,pr,nd,bx,el⟩:=hS
 have esl:es.size=(accP ps).length:=by
  have:=pr.length_eq
  rw [List.length_map,List.length_map,Array.length_toList] at this
  exact this
 have hsm:es.size≤t.mask:=by rcases sz with ⟨e,h⟩ | ⟨e,h⟩ | ⟨e,h⟩ <;> lia
 have hle:=accP_len ps
 refine Calls.call_function_entry kind_sorted plain_sorted entry_sorted (args_sorted1 _) ?_
 unfold Builtin.«sorted»
 refine wpAny_bind (m:=checkCount "sorted" 1 1 _) (wpAny_pure ?_)
 refine wpAny_bind (collect_set (s:={ s1 with heap:=h',toks:=tk }) (by simpa using I1.ok.hd hc) ⟨o,ho.1,ho.2.1.1⟩ ⟨o,ho.1,ho.2.2⟩ (tab_fits z hsm) rfl (by rw [sizeLine_eq];lia) z.up fun h1 d tk1 out k1 hz1 hp=>?_)
 obtain ⟨vs,qs,rv,iv,pq⟩:=out_is pr nd bx (fun e he=>by
  obtain ⟨p,c,b1,b2,_,_,b5⟩:=el e he
  exact ⟨p,c,b1,b2,b5⟩) hp
 have I3:Inv X pins σ H1 { s1 with heap:=h1,drawn:=d,toks:=tk1 }:=(I2.kept (t':=tk1) fun c o e=>k1 c o e).drawn d
 have lv:vs.length=qs.length:=by rw [iv.length,List.length_map]
 have lq:qs.length=(accP ps).length:=pq.length_eq
 have nq:qs.Nodup:=pq.nodup_iff.mpr (accP_nd ps)
 refine tail_sorted (Q:=Q) I3 (vs:=vs) (ps:=[]) (nss:=qs.map fun p=>[p.1,p.2]) (k:=2) rv (by rw [sizeLine_eq];lia) (by rw [pr_nss];exact iv) (fun ns hn=>?_) (by decide) ?_ (by rw [List.length_map];lia) (fun l vs' nss' hl hv hpm hw=>?_) fun u s' hu=>⟨_,rfl,hu⟩
 ·obtain ⟨p,_,rfl⟩:=List.mem_map.mp hn
  rfl
 ·unfold List.Nodup
  rw [List.pairwise_map]
  exact nq.imp fun {a b} hab z=>hab (pair_inj z)
 ·obtain ⟨rs,rfl⟩:=nss_pr (l:=nss') fun ns hn=>by
   obtain ⟨p,_,rfl⟩:=List.mem_map.mp (hpm.mem_iff.mp hn)
   rfl
  rw [pr_nss] at hv
  rw [List.pairwise_map] at hw
  refine q l vs' rs hl hv ⟨hw,fun r=>?_⟩
  have hin:∀ (as:List (Int×Int)),r∈as↔[r.1,r.2]∈as.map fun p=>[p.1,p.2]:=fun as=>⟨fun h=>List.mem_map.mpr ⟨r,h,rfl⟩,fun h=>by
   obtain ⟨p,hp,e⟩:=List.mem_map.mp h
   rw [←pair_inj e]
   exact hp⟩
  rw [hin,hpm.mem_iff,←hin,pq.mem_iff,accP_mem]
theorem k_sortSetP (K:PySem.W.Frag) {e:Expr} {ta:TA} {p1 p2 p3 p4:Pos} (hu:X.A.units + 64 < cLine) (hg:Gl X "sorted") (hm:X.mg "sorted"=none) (hg2:Gl X "set") (hm2:X.mg "set"=none) (ha:PA X [e] ta) (hc:X.calm=true:=by rfl) (h:X.K=K:=by rfl) (hs:starEach [e] X.env=[(false,eval e X.env)]:=by rfl)
  (hs2:starEach [Expr.Call (.Name "set" p2) [e] [] p3] X.env=[(false,eval (.Call (.Name "set" p2) [e] [] p3) X.env)]:=by rfl):
  PE X (.Call (.Name "sorted" p1) [.Call (.Name "set" p2) [e] [] p3] [] p4) (tSortSetP K ta):=h▸pe_sortSetP hc hu hg hm hg2 hm2 ha hs hs2
theorem rd_sortSetP {K:PySem.W.Frag} {σ:St} {H:Hp} {Q:VK} {ta:TA} (h:ta σ H fun vs H1=>∃ (p:Addr) (zs:List V) (ps:List (Int×Int)),vs=[.ref p]∧(SqL K H1 p zs∨SqT K H1 p zs)∧IsAll H1 zs (ps.map prT)∧(∀ q∈ps,box8 q)∧ps.length < 64∧
 ∀ (l:Addr) (zs':List V) (qs:List (Int×Int)),H1 l=none→IsAll H1 zs' (qs.map prT)→NubP ps qs→Q (.ref l) (upd H1 l (.lst zs'))):tSortSetP K ta σ H Q:=h
theorem pe_lenSetP {e:Expr} {ta:TA} {p1 p2 p3 p4:Pos} (hc:X.calm=true) (hu:X.A.units + 64 < cLine) (hg:Gl X "len") (hm:X.mg "len"=none) (hg2:Gl X "set") (hm2:X.mg "set"=none) (ha:PA X [e] ta) (hs:starEach [e] X.env=[(false,eval e X.env)]:=by rfl)
  (hs2:starEach [Expr.Call (.Name "set" p2) [e] [] p3] X.env=[(false,eval (.Call (.Name "set" p2) [e] [] p3) X.env)]:=by rfl):
  PE X (.Call (.Name "len" p1) [.Call (.Name "set" p2) [e] [] p3] [] p4) (tLenSetP X.K ta):=by
 intro pins s σ H Q I h
 refine wpAny_Call_Name_kw (ld_blt I hg hm bt_len (PyProof.Rows.callWith_builtin1 ?_ hs2 rfl) (by decide) (by decide))
 rw [hs2]
 show wpAny _ _ (spliced ((false,eval (.Call (.Name "set" p2) [e] [] p3) X.env)::backTo p4 [])) _ _ s
 refine Calls.spliced_cons (Call_ (ld_blt I hg2 hm2 bt_set (PyProof.Rows.callWith_type1 (thn (ha p3 pins s σ H _ I h) fun us s1 ⟨vs,H1,I1,r1,q1⟩=>?_) hs rfl)))
 obtain ⟨b,zs,ps,e,hq,hal,hb,h64,q⟩:=q1
 subst e
 obtain ⟨u,rfl,rx⟩:=Vals.one r1
 obtain rfl:u=Value.ref b:=rx
 refine set_made I1 hc hu hq hal hb h64 fun S h' tk hS hk=>?_
 have I2:Inv X pins σ H1 { s1 with heap:=h',toks:=tk }:=I1.kept fun c o e=>hk c o e
 refine Calls.spliced_nil ?_
 obtain ⟨o,es,ep,t,ho,z,sz,pr,nd,bx,el⟩:=hS
 have esl:es.size=(accP ps).length:=by
  have:=pr.length_eq
  rw [List.length_map,List.length_map,Array.length_toList] at this
  exact this
 have hsm:es.size≤t.mask:=by rcases sz with ⟨e,h⟩ | ⟨e,h⟩ | ⟨e,h⟩ <;> lia
 have hle:=accP_len ps
 refine call_len_set (s:={ s1 with heap:=h',toks:=tk }) ho.1 ho.2.1 ho.2.2 (tab_fits z hsm) (by lia) ?_
 refine ⟨.int ((accP ps).length:Nat),H1,I2.kept (t':=tk + 1 + 1) fun c o e=>e,⟨tk + 1,?_⟩,q⟩
 rw [esl]
theorem k_lenSetP (K:PySem.W.Frag) {e:Expr} {ta:TA} {p1 p2 p3 p4:Pos} (hu:X.A.units + 64 < cLine) (hg:Gl X "len") (hm:X.mg "len"=none) (hg2:Gl X "set") (hm2:X.mg "set"=none) (ha:PA X [e] ta) (hc:X.calm=true:=by rfl) (h:X.K=K:=by rfl) (hs:starEach [e] X.env=[(false,eval e X.env)]:=by rfl)
  (hs2:starEach [Expr.Call (.Name "set" p2) [e] [] p3] X.env=[(false,eval (.Call (.Name "set" p2) [e] [] p3) X.env)]:=by rfl):
  PE X (.Call (.Name "len" p1) [.Call (.Name "set" p2) [e] [] p3] [] p4) (tLenSetP K ta):=h▸pe_lenSetP hc hu hg hm hg2 hm2 ha hs hs2
theorem rd_lenSetP {K:PySem.W.Frag} {σ:St} {H:Hp} {Q:VK} {ta:TA} (h:ta σ H fun vs H1=>∃ (p:Addr) (zs:List V) (ps:List (Int×Int)),vs=[.ref p]∧(SqL K H1 p zs∨SqT K H1 p zs)∧IsAll H1 zs (ps.map prT)∧(∀ q∈ps,box8 q)∧ps.length≤75∧Q (.int ((accP ps).length:Nat)) H1):tLenSetP K ta σ H Q:=h
end
end L2
namespace My
open PySem L2
noncomputable def top (i:Nat):Stmt:=PySem.Challenge.pw_noticed_k20_whole_nearest.main.body.getD i (.Pass ⟨0,0,0,0⟩)
noncomputable abbrev s_is_whole:Stmt:=top 8
noncomputable abbrev s_is_thing:Stmt:=top 9
noncomputable abbrev s_is_pair:Stmt:=top 10
noncomputable abbrev s_is_rising:Stmt:=top 11
noncomputable abbrev s_is_order:Stmt:=top 12
noncomputable abbrev s_need_order:Stmt:=top 13
noncomputable abbrev s_bars_as_two:Stmt:=top 15
noncomputable abbrev s_bars_as_three:Stmt:=top 16
noncomputable abbrev s_first_two:Stmt:=top 17
noncomputable abbrev s_first_three:Stmt:=top 18
noncomputable abbrev s_bar:Stmt:=top 19
noncomputable abbrev s_with_newest:Stmt:=top 21
noncomputable abbrev s_tells_of:Stmt:=top 24
noncomputable abbrev s_unlike:Stmt:=top 25
noncomputable abbrev s_all_tellings:Stmt:=top 26
noncomputable abbrev s_unbarred_orders:Stmt:=top 27
noncomputable abbrev s_nearest:Stmt:=top 28
noncomputable abbrev s_how_far:Stmt:=top 29
noncomputable abbrev s__law_cell_at:Stmt:=top 31
noncomputable abbrev s__law_mixed:Stmt:=top 32
noncomputable abbrev s__law_draw:Stmt:=top 33
noncomputable abbrev s__law_pick:Stmt:=top 34
noncomputable abbrev s__law_free:Stmt:=top 35
noncomputable abbrev s__law_any:Stmt:=top 36
noncomputable abbrev s__law_barred:Stmt:=top 37
noncomputable abbrev s__law_all:Stmt:=top 38
noncomputable abbrev s__law_far:Stmt:=top 39
noncomputable abbrev s_law:Stmt:=top 40
theorem sc_is_whole:FnScope ["value","low","high"] ["value","low","high"] (defScope s_is_whole):=⟨rfl,rfl,rfl,by decide +kernel,rfl,by decide +kernel,by decide +kernel⟩
theorem sc_is_thing:FnScope ["value","many"] ["value","many"] (defScope s_is_thing):=⟨rfl,rfl,rfl,by decide +kernel,rfl,by decide +kernel,by decide +kernel⟩
theorem sc_is_pair:FnScope ["value","many"] ["value","many"] (defScope s_is_pair):=⟨rfl,rfl,rfl,by decide +kernel,rfl,by decide +kernel,by decide +kernel⟩
theorem sc_is_rising:FnScope ["pairs"] ["pairs"] (defScope s_is_rising):=⟨rfl,rfl,rfl,by decide +kernel,rfl,by decide +kernel,by decide +kernel⟩
theorem sc_is_order:FnScope ["value","many","pairs"] ["value"] (defScope s_is_order):=⟨rfl,rfl,rfl,by decide +kernel,rfl,by decide +kernel,by decide +kernel⟩
theorem sc_need_order:FnScope ["value"] ["value"] (defScope s_need_order):=⟨rfl,rfl,rfl,by decide +kernel,rfl,by decide +kernel,by decide +kernel⟩
theorem sc_bars_as_two:FnScope ["pairs","a","b","c","d"] ["pairs","a","b","c","d"] (defScope s_bars_as_two):=⟨rfl,rfl,rfl,by decide +kernel,rfl,by decide +kernel,by decide +kernel⟩
theorem sc_bars_as_three:FnScope ["pairs","a","b","c","d"] ["pairs","a","b","c","d"] (defScope s_bars_as_three):=⟨rfl,rfl,rfl,by decide +kernel,rfl,by decide +kernel,by decide +kernel⟩
theorem sc_first_two:FnScope ["pairs","a","b","c","d"] ["pairs"] (defScope s_first_two):=⟨rfl,rfl,rfl,by decide +kernel,rfl,by decide +kernel,by decide +kernel⟩
theorem sc_first_three:FnScope ["many","pairs","a","b","c","d"] ["many","pairs"] (defScope s_first_three):=⟨rfl,rfl,rfl,by decide +kernel,rfl,by decide +kernel,by decide +kernel⟩
theorem sc_bar:FnScope ["order","found"] ["order"] (defScope s_bar):=⟨rfl,rfl,rfl,by decide +kernel,rfl,by decide +kernel,by decide +kernel⟩
theorem sc_with_newest:FnScope ["order","telling","newest","pairs","thing","word"] ["order","telling"] (defScope s_with_newest):=⟨rfl,rfl,rfl,by decide +kernel,rfl,by decide +kernel,by decide +kernel⟩
theorem sc_tells_of:FnScope ["pairs","first","second"] ["pairs","first","second"] (defScope s_tells_of):=⟨rfl,rfl,rfl,by decide +kernel,rfl,by decide +kernel,by decide +kernel⟩
theorem sc_unlike:FnScope ["one","other","far","second","first"] ["one","other"] (defScope s_unlike):=⟨rfl,rfl,rfl,by decide +kernel,rfl,by decide +kernel,by decide +kernel⟩
theorem sc_all_tellings:FnScope ["many","tellings","turn","longer","telling"] ["many"] (defScope s_all_tellings):=⟨rfl,rfl,rfl,by decide +kernel,rfl,by decide +kernel,by decide +kernel⟩
theorem sc_unbarred_orders:FnScope ["many","orders","newest","grown","telling"] ["many"] (defScope s_unbarred_orders):=⟨rfl,rfl,rfl,by decide +kernel,rfl,by decide +kernel,by decide +kernel⟩
theorem sc_nearest:FnScope ["order"] ["order"] (defScope s_nearest):=⟨rfl,rfl,rfl,by decide +kernel,rfl,by decide +kernel,by decide +kernel⟩
theorem sc_how_far:FnScope ["order"] ["order"] (defScope s_how_far):=⟨rfl,rfl,rfl,by decide +kernel,rfl,by decide +kernel,by decide +kernel⟩
theorem sc__law_cell_at:FnScope ["_law_script","_law_k"] ["_law_script","_law_k"] (defScope s__law_cell_at):=⟨rfl,rfl,rfl,by decide +kernel,rfl,by decide +kernel,by decide +kernel⟩
theorem sc__law_mixed:FnScope ["_law_script","_law_k","_law_many","_law_drawn"] ["_law_script","_law_k","_law_many"] (defScope s__law_mixed):=⟨rfl,rfl,rfl,by decide +kernel,rfl,by decide +kernel,by decide +kernel⟩
theorem sc__law_draw:FnScope ["_law_script","_law_town","_law_many"] ["_law_script","_law_town","_law_many"] (defScope s__law_draw):=⟨rfl,rfl,rfl,by decide +kernel,rfl,by decide +kernel,by decide +kernel⟩
theorem sc__law_pick:FnScope ["_law_script","_law_town","_law_some"] ["_law_script","_law_town","_law_some"] (defScope s__law_pick):=⟨rfl,rfl,rfl,by decide +kernel,rfl,by decide +kernel,by decide +kernel⟩
theorem sc__law_free:FnScope ["_law_script","_law_town","_law_low","_law_most","_law_step","_law_wide","_law_many","_law_line_up","_law_pairs","_law_one"] ["_law_script","_law_town","_law_low","_law_most"] (defScope s__law_free):=⟨rfl,rfl,rfl,by decide +kernel,rfl,by decide +kernel,by decide +kernel⟩
theorem sc__law_any:FnScope ["_law_script","_law_town","_law_low","_law_most","_law_spoil","_law_many","_law_pairs","_law_k","_law_one","_law_other","_law_way"] ["_law_script","_law_town","_law_low","_law_most"] (defScope s__law_any):=⟨rfl,rfl,rfl,by decide +kernel,rfl,by decide +kernel,by decide +kernel⟩
theorem sc__law_barred:FnScope ["_law_order","_law_many","_law_pairs","_law_a","_law_b","_law_c","_law_d","_law_rest"] ["_law_order"] (defScope s__law_barred):=⟨rfl,rfl,rfl,by decide +kernel,rfl,by decide +kernel,by decide +kernel⟩
theorem sc__law_all:FnScope ["_law_many","_law_rows","_law_one","_law_other","_law_free_here"] ["_law_many"] (defScope s__law_all):=⟨rfl,rfl,rfl,by decide +kernel,rfl,by decide +kernel,by decide +kernel⟩
theorem sc__law_far:FnScope ["_law_one","_law_other","_law_pairs"] ["_law_one","_law_other"] (defScope s__law_far):=⟨rfl,rfl,rfl,by decide +kernel,rfl,by decide +kernel,by decide +kernel⟩
theorem sc_law:FnScope ["_law_script","_law_town","_law_more","_law_order","_law_best","_law_other","_law_key"] ["_law_script"] (defScope s_law):=⟨rfl,rfl,rfl,by decide +kernel,rfl,by decide +kernel,by decide +kernel⟩
set_option genSizeOf false in
set_option genInjectivity false in
structure Ad where
 a_is_whole:Addr
 d_is_whole:FuncData
 a_is_thing:Addr
 d_is_thing:FuncData
 a_is_pair:Addr
 d_is_pair:FuncData
 a_is_rising:Addr
 d_is_rising:FuncData
 a_is_order:Addr
 d_is_order:FuncData
 a_need_order:Addr
 d_need_order:FuncData
 a_bars_as_two:Addr
 d_bars_as_two:FuncData
 a_bars_as_three:Addr
 d_bars_as_three:FuncData
 a_first_two:Addr
 d_first_two:FuncData
 a_first_three:Addr
 d_first_three:FuncData
 a_bar:Addr
 d_bar:FuncData
 a_with_newest:Addr
 d_with_newest:FuncData
 a_tells_of:Addr
 d_tells_of:FuncData
 a_unlike:Addr
 d_unlike:FuncData
 a_all_tellings:Addr
 d_all_tellings:FuncData
 a_unbarred_orders:Addr
 d_unbarred_orders:FuncData
 a_nearest:Addr
 d_nearest:FuncData
 a_how_far:Addr
 d_how_far:FuncData
 a__law_cell_at:Addr
 d__law_cell_at:FuncData
 a__law_mixed:Addr
 d__law_mixed:FuncData
 a__law_draw:Addr
 d__law_draw:FuncData
 a__law_pick:Addr
 d__law_pick:FuncData
 a__law_free:Addr
 d__law_free:FuncData
 a__law_any:Addr
 d__law_any:FuncData
 a__law_barred:Addr
 d__law_barred:FuncData
 a__law_all:Addr
 d__law_all:FuncData
 a__law_far:Addr
 d__law_far:FuncData
 a_law:Addr
 d_law:FuncData
 c_TELLING_WORDS:Addr
structure Txt (K:PySem.W.Frag) (mg:Str→Option Value) (t:Ad):Prop where
 m_is_whole:mg "is_whole"=some (.ref t.a_is_whole)
 F_is_whole:Fun K "is_whole" "is_whole" s_is_whole t.a_is_whole t.d_is_whole
 b_is_whole:Binds K t.d_is_whole ["value","low","high"] []
 m_is_thing:mg "is_thing"=some (.ref t.a_is_thing)
 F_is_thing:Fun K "is_thing" "is_thing" s_is_thing t.a_is_thing t.d_is_thing
 b_is_thing:Binds K t.d_is_thing ["value","many"] []
 m_is_pair:mg "is_pair"=some (.ref t.a_is_pair)
 F_is_pair:Fun K "is_pair" "is_pair" s_is_pair t.a_is_pair t.d_is_pair
 b_is_pair:Binds K t.d_is_pair ["value","many"] []
 m_is_rising:mg "is_rising"=some (.ref t.a_is_rising)
 F_is_rising:Fun K "is_rising" "is_rising" s_is_rising t.a_is_rising t.d_is_rising
 b_is_rising:Binds K t.d_is_rising ["pairs"] []
 m_is_order:mg "is_order"=some (.ref t.a_is_order)
 F_is_order:Fun K "is_order" "is_order" s_is_order t.a_is_order t.d_is_order
 b_is_order:Binds K t.d_is_order ["value"] []
 m_need_order:mg "need_order"=some (.ref t.a_need_order)
 F_need_order:Fun K "need_order" "need_order" s_need_order t.a_need_order t.d_need_order
 b_need_order:Binds K t.d_need_order ["value"] []
 m_bars_as_two:mg "bars_as_two"=some (.ref t.a_bars_as_two)
 F_bars_as_two:Fun K "bars_as_two" "bars_as_two" s_bars_as_two t.a_bars_as_two t.d_bars_as_two
 b_bars_as_two:Binds K t.d_bars_as_two ["pairs","a","b","c","d"] []
 m_bars_as_three:mg "bars_as_three"=some (.ref t.a_bars_as_three)
 F_bars_as_three:Fun K "bars_as_three" "bars_as_three" s_bars_as_three t.a_bars_as_three t.d_bars_as_three
 b_bars_as_three:Binds K t.d_bars_as_three ["pairs","a","b","c","d"] []
 m_first_two:mg "first_two"=some (.ref t.a_first_two)
 F_first_two:Fun K "first_two" "first_two" s_first_two t.a_first_two t.d_first_two
 b_first_two:Binds K t.d_first_two ["pairs"] []
 m_first_three:mg "first_three"=some (.ref t.a_first_three)
 F_first_three:Fun K "first_three" "first_three" s_first_three t.a_first_three t.d_first_three
 b_first_three:Binds K t.d_first_three ["many","pairs"] []
 m_bar:mg "bar"=some (.ref t.a_bar)
 F_bar:Fun K "bar" "bar" s_bar t.a_bar t.d_bar
 b_bar:Binds K t.d_bar ["order"] []
 m_with_newest:mg "with_newest"=some (.ref t.a_with_newest)
 F_with_newest:Fun K "with_newest" "with_newest" s_with_newest t.a_with_newest t.d_with_newest
 b_with_newest:Binds K t.d_with_newest ["order","telling"] []
 m_tells_of:mg "tells_of"=some (.ref t.a_tells_of)
 F_tells_of:Fun K "tells_of" "tells_of" s_tells_of t.a_tells_of t.d_tells_of
 b_tells_of:Binds K t.d_tells_of ["pairs","first","second"] []
 m_unlike:mg "unlike"=some (.ref t.a_unlike)
 F_unlike:Fun K "unlike" "unlike" s_unlike t.a_unlike t.d_unlike
 b_unlike:Binds K t.d_unlike ["one","other"] []
 m_all_tellings:mg "all_tellings"=some (.ref t.a_all_tellings)
 F_all_tellings:Fun K "all_tellings" "all_tellings" s_all_tellings t.a_all_tellings t.d_all_tellings
 b_all_tellings:Binds K t.d_all_tellings ["many"] []
 m_unbarred_orders:mg "unbarred_orders"=some (.ref t.a_unbarred_orders)
 F_unbarred_orders:Fun K "unbarred_orders" "unbarred_orders" s_unbarred_orders t.a_unbarred_orders t.d_unbarred_orders
 b_unbarred_orders:Binds K t.d_unbarred_orders ["many"] []
 m_nearest:mg "nearest"=some (.ref t.a_nearest)
 F_nearest:Fun K "nearest" "nearest" s_nearest t.a_nearest t.d_nearest
 b_nearest:Binds K t.d_nearest ["order"] []
 m_how_far:mg "how_far"=some (.ref t.a_how_far)
 F_how_far:Fun K "how_far" "how_far" s_how_far t.a_how_far t.d_how_far
 b_how_far:Binds K t.d_how_far ["order"] []
 m__law_cell_at:mg "_law_cell_at"=some (.ref t.a__law_cell_at)
 F__law_cell_at:Fun K "_law_cell_at" "_law_cell_at" s__law_cell_at t.a__law_cell_at t.d__law_cell_at
 b__law_cell_at:Binds K t.d__law_cell_at ["_law_script","_law_k"] []
 m__law_mixed:mg "_law_mixed"=some (.ref t.a__law_mixed)
 F__law_mixed:Fun K "_law_mixed" "_law_mixed" s__law_mixed t.a__law_mixed t.d__law_mixed
 b__law_mixed:Binds K t.d__law_mixed ["_law_script","_law_k","_law_many"] []
 m__law_draw:mg "_law_draw"=some (.ref t.a__law_draw)
 F__law_draw:Fun K "_law_draw" "_law_draw" s__law_draw t.a__law_draw t.d__law_draw
 b__law_draw:Binds K t.d__law_draw ["_law_script","_law_town","_law_many"] []
 m__law_pick:mg "_law_pick"=some (.ref t.a__law_pick)
 F__law_pick:Fun K "_law_pick" "_law_pick" s__law_pick t.a__law_pick t.d__law_pick
 b__law_pick:Binds K t.d__law_pick ["_law_script","_law_town","_law_some"] []
 m__law_free:mg "_law_free"=some (.ref t.a__law_free)
 F__law_free:Fun K "_law_free" "_law_free" s__law_free t.a__law_free t.d__law_free
 b__law_free:Binds K t.d__law_free ["_law_script","_law_town","_law_low","_law_most"] []
 m__law_any:mg "_law_any"=some (.ref t.a__law_any)
 F__law_any:Fun K "_law_any" "_law_any" s__law_any t.a__law_any t.d__law_any
 b__law_any:Binds K t.d__law_any ["_law_script","_law_town","_law_low","_law_most"] []
 m__law_barred:mg "_law_barred"=some (.ref t.a__law_barred)
 F__law_barred:Fun K "_law_barred" "_law_barred" s__law_barred t.a__law_barred t.d__law_barred
 b__law_barred:Binds K t.d__law_barred ["_law_order"] []
 m__law_all:mg "_law_all"=some (.ref t.a__law_all)
 F__law_all:Fun K "_law_all" "_law_all" s__law_all t.a__law_all t.d__law_all
 b__law_all:Binds K t.d__law_all ["_law_many"] []
 m__law_far:mg "_law_far"=some (.ref t.a__law_far)
 F__law_far:Fun K "_law_far" "_law_far" s__law_far t.a__law_far t.d__law_far
 b__law_far:Binds K t.d__law_far ["_law_one","_law_other"] []
 m_law:mg "law"=some (.ref t.a_law)
 F_law:Fun K "law" "law" s_law t.a_law t.d_law
 b_law:Binds K t.d_law ["_law_script"] []
 n_all:mg "all"=none
 n_bool:mg "bool"=none
 n_enumerate:mg "enumerate"=none
 n_int:mg "int"=none
 n_isinstance:mg "isinstance"=none
 n_len:mg "len"=none
 n_list:mg "list"=none
 n_max:mg "max"=none
 n_min:mg "min"=none
 n_range:mg "range"=none
 n_set:mg "set"=none
 n_sorted:mg "sorted"=none
 n_tuple:mg "tuple"=none
 c_MOST_MENDED:∃ tk,mg "MOST_MENDED"=some (.int 4 tk)
 c_MOST_THINGS:∃ tk,mg "MOST_THINGS"=some (.int 8 tk)
 g_TELLING_WORDS:mg "TELLING_WORDS"=some (.ref t.c_TELLING_WORDS)
 s_TELLING_WORDS:∀ H:Hp,SqT K H t.c_TELLING_WORDS [.str "less",.str "more",.str "beside"]
end My
local macro_rules | `(tactic| walk_at "rd")=>`(tactic| (repeat (first | with_reducible refine L2.rd_seq ?_ | with_reducible refine L2.rd_next ?_ | with_reducible refine L2.rd_ifS ?_ | with_reducible refine L2.rd_ret ?_ | with_reducible refine L2.rd_drop ?_ | with_reducible refine L2.rd_asg ?_ | with_reducible refine L2.rd_gname ?_ | ((with_reducible refine' L2.rd_var ?qe1 ?_);(case qe1=>exact rfl)) | with_reducible refine L2.rd_C ?_ | with_reducible refine L2.rd_for ?_ | with_reducible refine L2.rd_lc ?_ | with_reducible refine L2.rd_rng1 ?_ | with_reducible refine L2.rd_itup ?_ | with_reducible refine L2.rd_ilst ?_ | with_reducible refine L2.rd_yes ?_ | with_reducible refine L2.rd_ifE ?_ | with_reducible refine L2.rd_raise ?_ | with_reducible refine L2.rd_while ?_ | with_reducible refine L2.rd_gsub ?_ | with_reducible refine L2.rd_bm ?_ | with_reducible refine L2.rd_gcons ?_ | with_reducible refine L2.rd_gnil ?_ | with_reducible refine L2.rd_test ?_ | with_reducible refine L2.rd_B ?_ | with_reducible refine L2.rd_bl ?_ | with_reducible refine L2.rd_op ?_ | with_reducible refine L2.rd_un ?_ | with_reducible refine L2.rd_I0 ?_ | with_reducible refine L2.rd_and ?_ | with_reducible refine L2.rd_or ?_ | with_reducible refine L2.rd_not ?_ | with_reducible refine L2.rd_andV ?_ | with_reducible refine L2.rd_orV ?_ | with_reducible refine L2.rd_notV ?_ | with_reducible refine L2.rd_blE ?_ | with_reducible refine L2.rd_nil ?_ | with_reducible refine L2.rd_cons ?_ | with_reducible refine L2.rd_tup ?_ | with_reducible refine L2.rd_lst ?_ | with_reducible refine L2.rd_call ?_ | with_reducible refine L2.rd_cb ?_ | with_reducible refine L2.rd_chain ?_ | with_reducible refine L2.rd_eqI ?_ | with_reducible refine L2.rd_neI ?_ | with_reducible refine L2.rd_eqB ?_ | with_reducible refine L2.rd_neB ?_ | with_reducible refine L2.rd_isN ?_ | with_reducible refine L2.rd_notN ?_ | with_reducible refine L2.rd_max2 ?_ | with_reducible refine L2.rd_int1 ?_ | with_reducible refine L2.iteT ?_ | with_reducible refine L2.iteF ?_ | with_reducible refine L2.if_nn ?_ | with_reducible refine L2.if_rn ?_ | with_reducible refine L2.if_in ?_ | with_reducible refine L2.if_nnN ?_ | with_reducible refine L2.if_rnN ?_ | with_reducible refine L2.if_inN ?_ | with_reducible refine L2.ifNT ?_ | with_reducible refine L2.ifNF ?_ | ((with_reducible refine' L2.rd_isBool ?qe1 ?_);(case qe1=>assumption)) | ((with_reducible refine' L2.rd_isInt ?qe1 ?_);(case qe1=>assumption)) | ((with_reducible refine' L2.rd_isTup ?qe1 ?_);(case qe1=>assumption)) | ((with_reducible refine' L2.rd_isLst ?qe1 ?_);(case qe1=>assumption)) | ((with_reducible refine' L2.rd_isStr ?qe1 ?_);(case qe1=>assumption)) | ((with_reducible refine' L2.rd_all ?qe1 ?_);(case qe1=>assumption)) | ((with_reducible refine' L2.rd_any ?qe1 ?_);(case qe1=>assumption)) | ((with_reducible refine' L2.rd_lenT ?qe1 ?_);(case qe1=>assumption)) | ((with_reducible refine' L2.rd_lenL ?qe1 ?_);(case qe1=>assumption)) | ((with_reducible refine' L2.rd_tupL ?qe1 ?_);(case qe1=>assumption)) | ((with_reducible refine' L2.rd_ixT ?qe1 ?qf1 ?_);(case qe1=>assumption);(case qf1=>exact rfl)) | ((with_reducible refine' L2.rd_ixL ?qe1 ?qf1 ?_);(case qe1=>assumption);(case qf1=>exact rfl)) | ((with_reducible refine L2.ifT ?_ ?_);with_reducible rfl) | ((with_reducible refine L2.ifF ?_ ?_);with_reducible rfl) | (dsimp only))))
namespace My
open PySem L2
section
variable {P:Program} {w:World} {K:PySem.W.Frag} {mg:Str→Option Value} {base:Heap} {t:Ad}
noncomputable def wholeB (d:PyData) (lo hi:Int):Bool:=match d with | .int i=>decide (lo≤i)&&decide (i≤hi) | _=>false
noncomputable def sp_is_whole:Sp:=fun vs H Q _=>∃ x lo hi d,vs=[x,.int lo,.int hi]∧Is H x d∧Q (.bl (wholeB d lo hi)) H
theorem ok_is_whole (T:Txt K mg t):FnOk P w K mg base CX0 1 t.a_is_whole t.d_is_whole ["value","low","high"] sp_is_whole:=by
 refine T.F_is_whole.ok sc_is_whole (fun vs H Q E h=>?_) (fun cdv A outer s H vs Q E hr h=>?_)
 ·obtain ⟨x,lo,hi,d,rfl,_⟩:=h
  rfl
 ·obtain ⟨x,lo,hi,d,rfl,hx,q⟩:=h
  refine ⟨_,(pss_cons (ps_if (PW.pt (pw_or (pt_val (pe_callB c_isinst (by rfl) T.n_isinstance bt_isinstance (pa_cons (pv 0) (pa_cons (pe_bltn (v:=.ty "bool") rfl T.n_bool bt_bool rfl) pa_nil)))) (pw_or1 (pt_not (pt_val (pe_callB c_isinst (by rfl) T.n_isinstance bt_isinstance (pa_cons (pv 0) (pa_cons (pe_bltn (v:=.ty "int") rfl T.n_int bt_int rfl) pa_nil)))))))) (pss_one (ps_ret pe_bl)) pss_nil)
   (pss_one (ps_ret (pe_chain op_le op_le (pv 1) (pv 0) (pv 2))))),?_⟩
  walk_at "rd"
  have hx2:=hx
  cases hx with
  | int i=>
   walk_at "rd"
   refine ifB (fun h=>?_) (fun h=>?_) <;> walk_at "rd" <;> simpa [wholeB,h] using q
  | _=>walk_at "rd" <;> exact q
noncomputable def sp_is_thing:Sp:=fun vs H Q _=>∃ x m d,vs=[x,.int m]∧Is H x d∧Q (.bl (wholeB d 0 (m - 1))) H
theorem ok_is_thing (T:Txt K mg t):FnOk P w K mg base CX0 2 t.a_is_thing t.d_is_thing ["value","many"] sp_is_thing:=by
 refine T.F_is_thing.ok sc_is_thing (fun vs H Q E h=>?_) (fun cdv A outer s H vs Q E hr h=>?_)
 ·obtain ⟨x,m,d,rfl,_⟩:=h
  rfl
 ·obtain ⟨x,m,d,rfl,hx,q⟩:=h
  refine ⟨_,(pss_one (ps_ret (pe_call (ok_is_whole T) (hr.mono (by decide)) rfl T.m_is_whole T.F_is_whole.kp T.b_is_whole .nil pass0 (pa_cons (pv 0) (pa_cons pe_int (pa_cons (pe_op op_sub (pv 1) pe_int) pa_nil)))))),?_⟩
  walk_at "rd"
  exact ⟨_,_,_,_,rfl,hx,q⟩
noncomputable def prD (p:Int×Int):PyData:=.tuple [.int p.1,.int p.2]
noncomputable def pairB (d:PyData) (m:Int):Bool:=match d with | .tuple [a,b]=>wholeB a 0 (m - 1)&&wholeB b 0 (m - 1)&& !PyData.eqv a b | _=>false
noncomputable def sp_is_pair:Sp:=fun vs H Q _=>∃ x m d,vs=[x,.int m]∧Is H x d∧Q (.bl (pairB d m)) H
theorem pair_other {d:PyData} {m:Int} (h:∀ a b,d≠.tuple [a,b]):pairB d m=false:=by
 unfold pairB
 split
 ·rename_i a b
  exact absurd rfl (h a b)
 ·rfl
theorem isTup_no {d:PyData} (h:∀ ds,d≠.tuple ds):isTupD d=false:=by
 cases d <;> first | rfl | exact absurd rfl (h _)
theorem wholeB_int {d:PyData} {lo hi:Int} (h:wholeB d lo hi=true):∃ i:Int,d=.int i∧lo≤i∧i≤hi:=by
 unfold wholeB at h
 split at h
 ·rename_i i
  simp at h
  exact ⟨i,rfl,h.1,h.2⟩
 ·cases h
theorem ok_is_pair (T:Txt K mg t):FnOk P w K mg base CX0 3 t.a_is_pair t.d_is_pair ["value","many"] sp_is_pair:=by
 refine T.F_is_pair.ok sc_is_pair (fun vs H Q E h=>?_) (fun cdv A outer s H vs Q E hr h=>?_)
 ·obtain ⟨x,m,d,rfl,_⟩:=h
  rfl
 ·obtain ⟨x,m,d,rfl,hx,q⟩:=h
  refine ⟨_,(pss_cons (ps_if (PW.pt (pw_or (pt_not (pt_val (pe_callB c_isinst (by rfl) T.n_isinstance bt_isinstance (pa_cons (pv 0) (pa_cons (pe_bltn (v:=.ty "tuple") rfl T.n_tuple bt_tuple rfl) pa_nil))))) (pw_or1 (pt_cmpR (op_neD hr.units) (pe_callB (k_len K) (by rfl) T.n_len bt_len (pa_cons (pv 0) pa_nil)) pe_int (nomark _))))) (pss_one (ps_ret pe_bl)) pss_nil)
   (pss_cons (ps_if (PW.pt (pw_or (pt_not (pt_val (pe_call (ok_is_thing T) (hr.mono (by decide)) rfl T.m_is_thing T.F_is_thing.kp T.b_is_thing .nil pass0 (pa_cons (pe_ix (k_ix K) (pv 0) pe_int (fun _ _=>rfl)) (pa_cons (pv 1) pa_nil))))) (pw_or1 (pt_not (pt_val (pe_call (ok_is_thing T) (hr.mono (by decide)) rfl T.m_is_thing T.F_is_thing.kp T.b_is_thing .nil pass0 (pa_cons (pe_ix (k_ix K) (pv 0) pe_int (fun _ _=>rfl)) (pa_cons (pv 1) pa_nil)))))))) (pss_one (ps_ret pe_bl)) pss_nil)
   (pss_one (ps_ret (pe_cmpR (op_neD hr.units) (pe_ix (k_ix K) (pv 0) pe_int (fun _ _=>rfl)) (pe_ix (k_ix K) (pv 0) pe_int (fun _ _=>rfl)) (nomark _)))))),?_⟩
  walk_at "rd"
  by_cases hd:∃ ds,d=.tuple ds
  ·obtain ⟨ds,rfl⟩:=hd
   cases hx with
   | @tup a xs _ e hxs=>
   walk_at "rd"
   have hl:=hxs.length
   refine ifB (fun h=>?_) (fun h=>?_)
   ·walk_at "rd"
    rw [pair_other] at q
    ·exact q
    ·rintro a b ⟨⟩
     simp at hl
     simp [hl] at h
   ·walk_at "rd"
    match xs,ds,hxs,hl with
    | [x1,x2],[d1,d2],.cons i1 (.cons i2 .nil),_=>
     walk_at "rd"
     refine ⟨_,_,_,rfl,i1,?_⟩
     walk_at "rd"
     have qe:pairB (.tuple [d1,d2]) m=(wholeB d1 0 (m - 1)&&wholeB d2 0 (m - 1)&& !PyData.eqv d1 d2):=rfl
     rw [qe] at q
     refine ifB (fun h1=>?_) (fun h1=>?_)
     ·walk_at "rd"
      have h1':wholeB d1 0 (m - 1)=false:=by simpa using h1
      simpa [h1'] using q
     ·walk_at "rd"
      refine ⟨_,_,_,rfl,i2,?_⟩
      walk_at "rd"
      have h1':wholeB d1 0 (m - 1)=true:=by simpa using h1
      refine ifB (fun h2=>?_) (fun h2=>?_)
      ·walk_at "rd"
       have h2':wholeB d2 0 (m - 1)=false:=by simpa using h2
       simpa [h2'] using q
      ·walk_at "rd"
       have h2':wholeB d2 0 (m - 1)=true:=by simpa using h2
       obtain ⟨i,rfl,_⟩:=wholeB_int h1'
       obtain ⟨j,rfl,_⟩:=wholeB_int h2'
       refine rd_eqD i1 i2 ⟨rfl,Nat.zero_le _⟩ ⟨rfl,Nat.zero_le _⟩ ?_
       simpa [h1',h2'] using q
    | [],_,_,_=>simp at h
    | [_],_,_,_=>simp at h
    | _::_::_::_,_,_,_=>simp at h;lia
  ·have hd':∀ ds,d≠.tuple ds:=fun ds e=>hd ⟨ds,e⟩
   rw [isTup_no hd']
   walk_at "rd"
   rw [pair_other fun a b=>hd' _] at q
   exact q
noncomputable def risingB:List (Int×Int)→Bool
 | a::b::r=>HT.lexLt [a.1,a.2] [b.1,b.2]&&risingB (b::r)
 | _=>true
theorem rising_range:∀ ps:List (Int×Int),risingB ps=((List.range (ps.length - 1)).map fun i=>HT.lexLt [(ps.getD i (0,0)).1,(ps.getD i (0,0)).2] [(ps.getD (i + 1) (0,0)).1,(ps.getD (i + 1) (0,0)).2]).all id
 | []=>rfl
 | [a]=>rfl
 | a::b::r=>by
  rw [risingB,rising_range (b::r)]
  have e:(a::b::r).length - 1=((b::r).length - 1) + 1:=by simp
  rw [e,List.range_succ_eq_map,List.map_cons,List.all_cons,List.map_map]
  rfl
theorem _root_.L2.atI_of {α:Type} {xs:List α} {i:Nat} {k:Int} {v:α} (hk:k=(i:Int)) (h:xs[i]? =some v):atI xs k=some v:=by
 subst hk
 exact atI_nat h
theorem two_ints {H:Hp} {xs:List V} {a b:Int} (h:IsAll H xs [.int a,.int b]):xs=[.int a,.int b]:=by
 cases h with
 | cons h1 t=>
  cases t with
  | cons h2 t2=>
   cases h1
   cases h2
   cases t2
   rfl
theorem two_io {H:Hp} {xs:List V} {a:Int} {ds:List PyData} (h:IsAll H xs [.int a,.tuple ds]):∃ b ys,xs=[.int a,.ref b]∧H b=some (.tup ys)∧IsAll H ys ds:=by
 cases h with
 | cons h1 t=>
  cases t with
  | cons h2 t2=>
   cases h1
   cases t2
   cases h2 with
   | tup eb hb=>exact ⟨_,_,rfl,eb,hb⟩
theorem pr_at {H:Hp} {xs:List V} {ps:List (Int×Int)} {i:Nat} (h:IsAll H xs (ps.map prD)) (hi:i < ps.length):
  ∃ r,xs[i]? =some (.ref r)∧H r=some (.tup [.int (ps.getD i (0,0)).1,.int (ps.getD i (0,0)).2]):=by
 obtain ⟨v,e,iv⟩:=h.get (i:=i) (d:=prD (ps.getD i (0,0))) (by rw [List.getElem?_map];simp [hi])
 unfold prD at iv
 cases iv with
 | @tup a xs _ ea hxs=>
  obtain rfl:=two_ints hxs
  exact ⟨a,e,ea⟩
theorem small_ln {n:Nat} (h:n≤1000):n≤sizeLine:=Nat.le_of_lt (small1000 h)
noncomputable def sp_is_rising:Sp:=fun vs H Q _=>∃ x ps,vs=[x]∧Is H x (.tuple (ps.map prD))∧ps.length≤1000∧∀ H',Same H H'→Q (.bl (risingB ps)) H'
theorem ok_is_rising (T:Txt K mg t):FnOk P w K mg base CX0 1 t.a_is_rising t.d_is_rising ["pairs"] sp_is_rising:=by
 refine T.F_is_rising.ok sc_is_rising (fun vs H Q E h=>?_) (fun cdv A outer s H vs Q E hr h=>?_)
 ·obtain ⟨x,ps,rfl,_⟩:=h
  rfl
 ·obtain ⟨x,ps,rfl,hx,hsz,q⟩:=h
  refine ⟨_,(pss_one (ps_ret (pe_callB (k_all K) (by rfl) T.n_all bt_all (pa_cons (pe_lc rfl ⟨True.intro,True.intro,(.inl rfl),True.intro⟩ (M:=["place","pairs"]) (.own (.free 0 rfl rfl .nil)) (gk_name rfl) rfl (by decide +kernel) (pi_range1 rfl T.n_range (pa_cons (pe_op op_sub (pe_callB (k_len K) (by rfl) T.n_len bt_len (pa_cons (pv 0) pa_nil)) pe_int) pa_nil)) (fun C fp s1 H1=>⟨pg_name (i:=0) (show (["place","pairs"]:List Str).Nodup by decide +kernel) rfl (Or.inl rfl),pif_nil,(pe_cmpR (k_ltT K hr.units0) (pe_ix (k_ix K) (pv 1) (pv 0) (fun _ _=>rfl)) (pe_ix (k_ix K) (pv 1) (pe_op op_add (pv 0) pe_int) (fun _ _=>rfl)) (nomark _))⟩)) pa_nil)))),?_⟩
  cases hx with
  | @tup a xs _ e hxs=>
  have hl:xs.length=ps.length:=by rw [hxs.length,List.length_map]
  walk_at "rd"
  refine ⟨_,rfl,by lia,by lia,?_⟩
  have en:((xs.length:Int) - 1).toNat=ps.length - 1:=by lia
  rw [en]
  refine lp_range (small_ln (by lia)) (fun i ys H'=>H'=H∧ys=((List.range i).map fun i=>HT.lexLt [(ps.getD i (0,0)).1,(ps.getD i (0,0)).2] [(ps.getD (i + 1) (0,0)).1,(ps.getD (i + 1) (0,0)).2]).map V.bl) ⟨rfl,rfl⟩ (by rintro i ys H' ⟨_,rfl⟩;simp) ?_ ?_
  ·rintro i ys H' hi ⟨rfl,rfl⟩
   obtain ⟨r1,e1,h1⟩:=pr_at hxs (i:=i) (by lia)
   obtain ⟨r2,e2,h2⟩:=pr_at hxs (i:=i + 1) (by lia)
   walk_at "rd"
   refine rd_ixT e (atI_of (i:=i) (by lia) e1) ?_
   walk_at "rd"
   refine rd_ixT e (atI_of (i:=i + 1) (by lia) e2) ?_
   refine rd_ltT h1 h2 ⟨rfl,?_⟩
   rw [List.range_succ,List.map_append,List.map_append]
   rfl
  ·rintro ys H' ⟨rfl,rfl⟩ p hp
   walk_at "rd"
   refine rd_all upd_same ?_
   rw [←rising_range]
   exact q _ (Same.upd hp)
noncomputable def decP (d:PyData):Int×Int:=match d with | .tuple [.int a,.int b]=>(a,b) | _=>(0,0)
noncomputable def orderB (d:PyData):Bool:=match d with | .tuple [.int n,.tuple ds]=>decide (1≤n)&&decide (n≤8)&&ds.all (fun d=>pairB d n)&&risingB (ds.map decP) | _=>false
theorem pairB_dec {d:PyData} {m:Int} (h:pairB d m=true):d=prD (decP d):=by
 unfold pairB at h
 split at h
 ·rename_i a b
  rw [Bool.and_eq_true,Bool.and_eq_true] at h
  obtain ⟨i,rfl,_⟩:=wholeB_int h.1.1
  obtain ⟨j,rfl,_⟩:=wholeB_int h.1.2
  rfl
 ·cases h
theorem pairs_dec {m:Int}:∀ {ds:List PyData},ds.all (fun d=>pairB d m)=true→ds=(ds.map decP).map prD
 | [],_=>rfl
 | d::ds,h=>by
  rw [List.all_cons,Bool.and_eq_true] at h
  rw [List.map_cons,List.map_cons,←pairs_dec h.2,←pairB_dec h.1]
theorem order_other {d:PyData} (h:∀ n ds,d≠.tuple [.int n,.tuple ds]):orderB d=false:=by
 unfold orderB
 split
 ·rename_i n ds
  exact absurd rfl (h n ds)
 ·rfl
noncomputable def okOrd (d:PyData):Prop:=∀ m ds,d=.tuple [m,.tuple ds]→ds.length≤1000
noncomputable def sp_is_order:Sp:=fun vs H Q _=>∃ x d,vs=[x]∧Is H x d∧okOrd d∧∀ H',Same H H'→Q (.bl (orderB d)) H'
theorem ok_is_order (T:Txt K mg t):FnOk P w K mg base CX0 4 t.a_is_order t.d_is_order ["value"] sp_is_order:=by
 refine T.F_is_order.ok sc_is_order (fun vs H Q E h=>?_) (fun cdv A outer s H vs Q E hr h=>?_)
 ·obtain ⟨x,d,rfl,_⟩:=h
  rfl
 ·obtain ⟨x,d,rfl,hx,hok,q⟩:=h
  refine ⟨_,(pss_cons (ps_if (PW.pt (pw_or (pt_not (pt_val (pe_callB c_isinst (by rfl) T.n_isinstance bt_isinstance (pa_cons (pv 0) (pa_cons (pe_bltn (v:=.ty "tuple") rfl T.n_tuple bt_tuple rfl) pa_nil))))) (pw_or1 (pt_cmpR (op_neD hr.units) (pe_callB (k_len K) (by rfl) T.n_len bt_len (pa_cons (pv 0) pa_nil)) pe_int (nomark _))))) (pss_one (ps_ret pe_bl)) pss_nil)
   (pss_cons (ps_set (i:=1) sc_is_order.nd rfl (Or.inr rfl) (pe_ix (k_ix K) (pv 0) pe_int (fun _ _=>rfl)))
   (pss_cons (ps_set (i:=2) sc_is_order.nd rfl (Or.inl rfl) (pe_ix (k_ix K) (pv 0) pe_int (fun _ _=>rfl)))
   (pss_cons (ps_if (PW.pt (pw_or (pt_not (pt_val (pe_call (ok_is_whole T) (hr.mono (by decide)) rfl T.m_is_whole T.F_is_whole.kp T.b_is_whole .nil pass0 (pa_cons (pv 1) (pa_cons pe_int (pa_cons (pe_gint rfl T.c_MOST_THINGS) pa_nil)))))) (pw_or1 (pt_not (pt_val (pe_callB c_isinst (by rfl) T.n_isinstance bt_isinstance (pa_cons (pv 2) (pa_cons (pe_bltn (v:=.ty "tuple") rfl T.n_tuple bt_tuple rfl) pa_nil)))))))) (pss_one (ps_ret pe_bl)) pss_nil)
   (pss_one (ps_ret (pe_and (pe_callB (k_all K) (by rfl) T.n_all bt_all (pa_cons (pe_lc rfl ⟨True.intro,True.intro,True.intro,(.inl rfl),True.intro⟩ (M:=["pair","many"]) (.own (.free 1 rfl rfl .nil)) (gk_name rfl) rfl (by decide +kernel) (k_ptup K (pv 2)) (fun C fp s1 H1=>⟨pg_name (i:=0) (show (["pair","many"]:List Str).Nodup by decide +kernel) rfl (Or.inl rfl),pif_nil,(pe_call (ok_is_pair T) (hr.mono (by decide)) rfl T.m_is_pair T.F_is_pair.kp T.b_is_pair .nil pass0 (pa_cons (pv 0) (pa_cons (pv 1) pa_nil)))⟩)) pa_nil)) (pe_one (pe_call (ok_is_rising T) (hr.mono (by decide)) rfl T.m_is_rising T.F_is_rising.kp T.b_is_rising .nil pass0 (pa_cons (pv 2) pa_nil)))))))))),?_⟩
  walk_at "rd"
  by_cases hd:∃ ds,d=.tuple ds
  ·obtain ⟨ds,rfl⟩:=hd
   cases hx with
   | @tup a xs _ e hxs=>
   walk_at "rd"
   have hl:=hxs.length
   refine ifB (fun h=>?_) (fun h=>?_)
   ·walk_at "rd"
    have q':=q H (Same.refl H)
    rw [order_other] at q'
    ·exact q'
    ·rintro n ds ⟨⟩
     simp at hl
     simp [hl] at h
   ·walk_at "rd"
    match xs,ds,hxs,hl with
    | [x1,x2],[d1,d2],.cons i1 (.cons i2 .nil),_=>
     walk_at "rd"
     refine ⟨_,_,_,_,rfl,i1,?_⟩
     walk_at "rd"
     refine ifB (fun h1=>?_) (fun h1=>?_)
     ·walk_at "rd"
      have h1':wholeB d1 1 8=false:=by simpa using h1
      have q':=q H (Same.refl H)
      by_cases h0:∃ n ds,d1=.int n∧d2=.tuple ds
      ·obtain ⟨n,ds,rfl,rfl⟩:=h0
       have:orderB (.tuple [.int n,.tuple ds])=(decide (1≤n)&&decide (n≤8)&&ds.all (fun d=>pairB d n)&&risingB (ds.map decP)):=rfl
       rw [this,show (decide (1≤n)&&decide (n≤8))=false from h1'] at q'
       exact q'
      ·rw [order_other (by rintro n ds ⟨⟩;exact h0 ⟨_,_,rfl,rfl⟩)] at q'
       exact q'
     ·have h1':wholeB d1 1 8=true:=by simpa using h1
      obtain ⟨n,rfl,hn1,hn8⟩:=wholeB_int h1'
      walk_at "rd"
      by_cases hd2:∃ ds,d2=.tuple ds
      ·obtain ⟨ds,rfl⟩:=hd2
       have hlen:=hok _ _ rfl
       cases i1 with
       | int _=>
       cases i2 with
       | @tup b ys _ eb hys=>
       have hlb:=hys.length
       walk_at "rd"
       refine ⟨b,rfl,⟨ys,SqT.of eb⟩,?_⟩
       refine lp_tup (K:=K) (xs:=ys) (small_ln (by lia)) (fun i zs H'=>H'=H∧zs=((ds.take i).map fun d=>pairB d n).map V.bl) ⟨rfl,rfl⟩ (by rintro i ys H' ⟨_,rfl⟩;simp;lia) (fun i zs H' _ h=>by rw [h.1];exact SqT.of eb) ?_ ?_
       ·rintro i x zs H' hx ⟨rfl,rfl⟩
        obtain ⟨d,ed,id⟩:=hys.get' hx
        walk_at "rd"
        refine ⟨_,_,_,rfl,id,rfl,?_⟩
        rw [List.take_add_one,ed,List.map_append,List.map_append]
        rfl
       ·rintro zs H' ⟨rfl,rfl⟩ p hp
        walk_at "rd"
        refine rd_all upd_same ?_
        rw [hlb,List.take_length,List.all_map]
        walk_at "rd"
        have qe:orderB (.tuple [.int n,.tuple ds])=(decide (1≤n)&&decide (n≤8)&&ds.all (fun d=>pairB d n)&&risingB (ds.map decP)):=rfl
        rw [qe,decide_eq_true hn1,decide_eq_true hn8] at q
        refine ifB (fun h3=>?_) (fun h3=>?_)
        ·walk_at "rd"
         have h3':ds.all (fun d=>pairB d n)=true:=h3
         have ed:=pairs_dec h3'
         have hy2:Is (upd H' p (.lst (((ds.take ys.length).map fun d=>pairB d n).map V.bl))) (.ref b) (.tuple ((ds.map decP).map prD)):=by
          rw [←ed]
          exact Is.same (Same.upd hp) (.tup eb hys)
         rw [hlb,List.take_length] at hy2
         refine ⟨_,_,rfl,hy2,by rw [List.length_map];exact hlen,fun H2 s2=>?_⟩
         have q':=q H2 ((Same.upd hp).trans s2)
         simpa [h3'] using q'
        ·walk_at "rd"
         have h3':ds.all (fun d=>pairB d n)=false:=h3
         have q':=q _ (Same.upd (o:=.lst ((ds.map fun d=>pairB d n).map V.bl)) hp)
         simpa [h3'] using q'
      ·have hd2':∀ ds,d2≠.tuple ds:=fun ds e=>hd2 ⟨ds,e⟩
       rw [isTup_no hd2']
       walk_at "rd"
       have q':=q H (Same.refl H)
       rw [order_other (by rintro n ds ⟨⟩;exact hd2' _ rfl)] at q'
       exact q'
    | [],_,_,_=>simp at h
    | [_],_,_,_=>simp at h
    | _::_::_::_,_,_,_=>simp at h;lia
  ·have hd':∀ ds,d≠.tuple ds:=fun ds e=>hd ⟨ds,e⟩
   rw [isTup_no hd']
   walk_at "rd"
   have q':=q H (Same.refl H)
   rw [order_other fun n ds=>hd' _] at q'
   exact q'
end
end My
namespace My
open PySem L2
section
variable {P:Program} {w:World} {K:PySem.W.Frag} {mg:Str→Option Value} {base:Heap} {t:Ad}
noncomputable def sp_need_order:Sp:=fun vs H Q _=>∃ x d,vs=[x]∧Is H x d∧okOrd d∧orderB d=true∧∀ H',Same H H'→Q .non H'
theorem ok_need_order (T:Txt K mg t):FnOk P w K mg base CX0 5 t.a_need_order t.d_need_order ["value"] sp_need_order:=by
 refine T.F_need_order.ok sc_need_order (fun vs H Q E h=>?_) (fun cdv A outer s H vs Q E hr h=>?_)
 ·obtain ⟨x,d,rfl,_⟩:=h
  rfl
 ·obtain ⟨x,d,rfl,hx,hok,ho,q⟩:=h
  refine ⟨_,(pss_one (ps_if (pt_not (pt_val (pe_call (ok_is_order T) (hr.mono (by decide)) rfl T.m_is_order T.F_is_order.kp T.b_is_order .nil pass0 (pa_cons (pv 0) pa_nil)))) (pss_one ps_never) pss_nil)),?_⟩
  walk_at "rd"
  refine ⟨_,_,rfl,hx,hok,fun H' s'=>?_⟩
  rw [ho]
  walk_at "rd"
  exact q H' s'
end
end My
namespace My
open PySem L2
section
variable {P:Program} {w:World} {K:PySem.W.Frag} {mg:Str→Option Value} {base:Heap} {t:Ad}
theorem eqv_pr (p q:Int×Int):PyData.eqv (prD p) (prD q)=decide (p=q):=by
 obtain ⟨a,b⟩:=p
 obtain ⟨c,d⟩:=q
 simp only [prD,PyData.eqv,PyData.eqvAll,Bool.and_true]
 by_cases h:a=c
 ·by_cases h2:b=d
  ·subst h h2;simp
  ·simp [h,h2]
 ·simp [h]
theorem inD_pr (p:Int×Int):∀ ps:List (Int×Int),inD (prD p) (ps.map prD)=decide (p∈ps)
 | []=>by simp [inD]
 | q::ps=>by
  have ih:=inD_pr p ps
  unfold inD at ih ⊢
  rw [List.map_cons,List.any_cons,ih,eqv_pr]
  by_cases h:q=p
  ·subst h;simp
  ·have h':¬p=q:=fun e=>h e.symm
   simp [h,h']
theorem ok_pr (p:Int×Int):okD (prD p):=⟨rfl,show 1≤40 by decide⟩
theorem ok_prs:∀ ps:List (Int×Int),okDs (ps.map prD)
 | []=>⟨rfl,Nat.zero_le _⟩
 | p::ps=>by
  obtain ⟨a,b⟩:=ok_prs ps
  refine ⟨?_,?_⟩
  ·rw [List.map_cons,PyData.canLayAll0,a];rfl
  ·rw [List.map_cons,PyData.depthAll]
   exact Nat.max_le.mpr ⟨(ok_pr p).2,b⟩
noncomputable def has (ps:List (Int×Int)) (i j:Int):Bool:=decide ((i,j)∈ps)
theorem rd_inP {H:Hp} {Q:VK} {p:Addr} {y:V} {i j:Int} {ps:List (Int×Int)} (e:H p=some (.tup [.int i,.int j])) (hy:Is H y (.tuple (ps.map prD))) (h:Q (.bl (has ps i j)) H):rInD false (.ref p) y H Q:=by
 refine rd_inD (d:=prD (i,j)) (.tup e (.cons (.int i) (.cons (.int j) .nil))) hy (ok_pr _) (ok_prs _) ?_
 rw [inD_pr]
 exact h
theorem rd_ninP {H:Hp} {Q:VK} {p:Addr} {y:V} {i j:Int} {ps:List (Int×Int)} (e:H p=some (.tup [.int i,.int j])) (hy:Is H y (.tuple (ps.map prD))) (h:Q (.bl (!has ps i j)) H):rInD true (.ref p) y H Q:=by
 refine rd_inD (d:=prD (i,j)) (.tup e (.cons (.int i) (.cons (.int j) .nil))) hy (ok_pr _) (ok_prs _) ?_
 rw [inD_pr]
 exact h
noncomputable def bar2B (ps:List (Int×Int)) (a b c d:Int):Bool:=has ps a b&&has ps c d&&(!has ps a d&& !has ps c b)
noncomputable def bar3B (ps:List (Int×Int)) (a b c d:Int):Bool:=has ps a b&&has ps b c&&(!has ps a d&& !has ps d c)
theorem two_ln {i j:Int}:[V.int i,V.int j].length≤sizeLine:=by
 show 2≤sizeLine
 decide
noncomputable def ordD (n:Nat) (ps:List (Int×Int)):PyData:=.tuple [.int n,.tuple (ps.map prD)]
structure Ord (n:Nat) (ps:List (Int×Int)):Prop where
 lo:1≤n
 hi:n≤8
 ix:∀ p∈ps,0≤p.1∧p.1 < n∧0≤p.2∧p.2 < n∧p.1≠p.2
 up:risingB ps=true
 sz:ps.length≤1000
theorem decP_pr (p:Int×Int):decP (prD p)=p:=rfl
theorem Ord.okd {n:Nat} {ps:List (Int×Int)} (h:Ord n ps):okOrd (ordD n ps):=by
 rintro m ds e
 unfold ordD at e
 injection e with e
 injection e with _ e
 injection e with e _
 injection e with e
 rw [←e,List.length_map]
 exact h.sz
theorem Ord.yes {n:Nat} {ps:List (Int×Int)} (h:Ord n ps):orderB (ordD n ps)=true:=by
 have e:orderB (ordD n ps)=(decide (1≤(n:Int))&&decide ((n:Int)≤8)&&(ps.map prD).all (fun d=>pairB d n)&&risingB ((ps.map prD).map decP)):=rfl
 have e2:(ps.map prD).map decP=ps:=by
  rw [List.map_map]
  exact (List.map_congr_left fun p _=>decP_pr p).trans (List.map_id ps)
 have e3:(ps.map prD).all (fun d=>pairB d n)=true:=by
  rw [List.all_map,List.all_eq_true]
  intro p hp
  obtain ⟨a,b,c,d,f⟩:=h.ix p hp
  show (wholeB (.int p.1) 0 (n - 1)&&wholeB (.int p.2) 0 (n - 1)&& !PyData.eqv (.int p.1) (.int p.2))=true
  have g1:wholeB (.int p.1) 0 (n - 1)=true:=by
   show (decide (0≤p.1)&&decide (p.1≤(n:Int) - 1))=true
   simp;lia
  have g2:wholeB (.int p.2) 0 (n - 1)=true:=by
   show (decide (0≤p.2)&&decide (p.2≤(n:Int) - 1))=true
   simp;lia
  have g3:PyData.eqv (.int p.1) (.int p.2)=false:=by
   show (p.1==p.2)=false
   simpa using f
  rw [g1,g2,g3];rfl
 rw [e,e2,e3,h.up,decide_eq_true (by have:=h.lo;lia),decide_eq_true (by have:=h.hi;lia)]
 rfl
theorem is_ord {H:Hp} {x:V} {n:Nat} {ps:List (Int×Int)} (h:Is H x (ordD n ps)):∃ a b xs,x=.ref a∧H a=some (.tup [.int n,.ref b])∧H b=some (.tup xs)∧IsAll H xs (ps.map prD):=by
 unfold ordD at h
 cases h with
 | @tup a xs _ e hxs=>
  obtain ⟨b,ys,rfl,eb,hb⟩:=two_io hxs
  exact ⟨a,_,_,rfl,e,eb,hb⟩
end
end My
namespace My
open PySem L2
section
variable {P:Program} {w:World} {K:PySem.W.Frag} {mg:Str→Option Value} {base:Heap} {t:Ad}
noncomputable def sp_bar (f:List (Int×Int)→Int→Int→Int→Int→Bool):Sp:=fun vs H Q _=>∃ x ps a b c d,vs=[x,.int a,.int b,.int c,.int d]∧Is H x (.tuple (ps.map prD))∧∀ H',Same H H'→Q (.bl (f ps a b c d)) H'
theorem ok_bars_as_two (T:Txt K mg t):FnOk P w K mg base CX0 1 t.a_bars_as_two t.d_bars_as_two ["pairs","a","b","c","d"] (sp_bar bar2B):=by
 refine T.F_bars_as_two.ok sc_bars_as_two (fun vs H Q E h=>?_) (fun cdv A outer s H vs Q E hr h=>?_)
 ·obtain ⟨x,ps,a,b,c,d,rfl,_⟩:=h
  rfl
 ·obtain ⟨x,ps,a,b,c,d,rfl,hx,q⟩:=h
  refine ⟨_,(pss_cons (ps_if (PW.pt (pw_or (pt_cmpR (op_notInD hr.units) (pe_tup (pa_cons (pv 1) (pa_cons (pv 2) pa_nil))) (pv 0) (by rfl)) (pw_or1 (pt_cmpR (op_notInD hr.units) (pe_tup (pa_cons (pv 3) (pa_cons (pv 4) pa_nil))) (pv 0) (by rfl))))) (pss_one (ps_ret pe_bl)) pss_nil)
   (pss_one (ps_ret (pe_and (pe_cmpR (op_notInD hr.units) (pe_tup (pa_cons (pv 1) (pa_cons (pv 4) pa_nil))) (pv 0) (by rfl)) (pe_one (pe_cmpR (op_notInD hr.units) (pe_tup (pa_cons (pv 3) (pa_cons (pv 2) pa_nil))) (pv 0) (by rfl))))))),?_⟩
  unfold bar2B at q
  walk_at "rd"
  refine ⟨two_ln,fun p1 hp1=>?_⟩
  have s1:=Same.upd (o:=.tup [.int a,.int b]) hp1
  walk_at "rd"
  refine rd_ninP upd_same (hx.same s1) ?_
  walk_at "rd"
  refine ifB (fun h1=>?_) (fun h1=>?_)
  ·walk_at "rd"
   have h1':has ps a b=false:=by simpa using h1
   have q':=q _ s1
   rw [h1'] at q'
   exact q'
  ·have h1':has ps a b=true:=by simpa using h1
   rw [h1'] at q
   walk_at "rd"
   refine ⟨two_ln,fun p2 hp2=>?_⟩
   walk_at "rd"
   refine rd_ninP upd_same (hx.same (s1.trans (Same.upd hp2))) ?_
   walk_at "rd"
   refine ifB (fun h2=>?_) (fun h2=>?_)
   ·walk_at "rd"
    rw [Bool.not_eq_true'] at h2
    rw [h2] at q
    exact q _ (s1.trans (Same.upd hp2))
   ·rw [Bool.not_eq_false'] at h2
    rw [h2] at q
    walk_at "rd"
    refine ⟨two_ln,fun p3 hp3=>?_⟩
    walk_at "rd"
    refine rd_ninP upd_same (hx.same ((s1.trans (Same.upd hp2)).trans (Same.upd hp3))) ?_
    walk_at "rd"
    refine ifB (fun h3=>?_) (fun h3=>?_)
    ·rw [h3] at q
     walk_at "rd"
     refine ⟨two_ln,fun p4 hp4=>?_⟩
     walk_at "rd"
     refine rd_ninP upd_same (hx.same (((s1.trans (Same.upd hp2)).trans (Same.upd hp3)).trans (Same.upd hp4))) ?_
     exact q _ (((s1.trans (Same.upd hp2)).trans (Same.upd hp3)).trans (Same.upd hp4))
    ·rw [h3] at q
     exact q _ ((s1.trans (Same.upd hp2)).trans (Same.upd hp3))
theorem ok_bars_as_three (T:Txt K mg t):FnOk P w K mg base CX0 1 t.a_bars_as_three t.d_bars_as_three ["pairs","a","b","c","d"] (sp_bar bar3B):=by
 refine T.F_bars_as_three.ok sc_bars_as_three (fun vs H Q E h=>?_) (fun cdv A outer s H vs Q E hr h=>?_)
 ·obtain ⟨x,ps,a,b,c,d,rfl,_⟩:=h
  rfl
 ·obtain ⟨x,ps,a,b,c,d,rfl,hx,q⟩:=h
  refine ⟨_,(pss_cons (ps_if (PW.pt (pw_or (pt_cmpR (op_notInD hr.units) (pe_tup (pa_cons (pv 1) (pa_cons (pv 2) pa_nil))) (pv 0) (by rfl)) (pw_or1 (pt_cmpR (op_notInD hr.units) (pe_tup (pa_cons (pv 2) (pa_cons (pv 3) pa_nil))) (pv 0) (by rfl))))) (pss_one (ps_ret pe_bl)) pss_nil)
   (pss_one (ps_ret (pe_and (pe_cmpR (op_notInD hr.units) (pe_tup (pa_cons (pv 1) (pa_cons (pv 4) pa_nil))) (pv 0) (by rfl)) (pe_one (pe_cmpR (op_notInD hr.units) (pe_tup (pa_cons (pv 4) (pa_cons (pv 3) pa_nil))) (pv 0) (by rfl))))))),?_⟩
  unfold bar3B at q
  walk_at "rd"
  refine ⟨two_ln,fun p1 hp1=>?_⟩
  have s1:=Same.upd (o:=.tup [.int a,.int b]) hp1
  walk_at "rd"
  refine rd_ninP upd_same (hx.same s1) ?_
  walk_at "rd"
  refine ifB (fun h1=>?_) (fun h1=>?_)
  ·walk_at "rd"
   have h1':has ps a b=false:=by simpa using h1
   have q':=q _ s1
   rw [h1'] at q'
   exact q'
  ·have h1':has ps a b=true:=by simpa using h1
   rw [h1'] at q
   walk_at "rd"
   refine ⟨two_ln,fun p2 hp2=>?_⟩
   walk_at "rd"
   refine rd_ninP upd_same (hx.same (s1.trans (Same.upd hp2))) ?_
   walk_at "rd"
   refine ifB (fun h2=>?_) (fun h2=>?_)
   ·walk_at "rd"
    rw [Bool.not_eq_true'] at h2
    rw [h2] at q
    exact q _ (s1.trans (Same.upd hp2))
   ·rw [Bool.not_eq_false'] at h2
    rw [h2] at q
    walk_at "rd"
    refine ⟨two_ln,fun p3 hp3=>?_⟩
    walk_at "rd"
    refine rd_ninP upd_same (hx.same ((s1.trans (Same.upd hp2)).trans (Same.upd hp3))) ?_
    walk_at "rd"
    refine ifB (fun h3=>?_) (fun h3=>?_)
    ·rw [h3] at q
     walk_at "rd"
     refine ⟨two_ln,fun p4 hp4=>?_⟩
     walk_at "rd"
     refine rd_ninP upd_same (hx.same (((s1.trans (Same.upd hp2)).trans (Same.upd hp3)).trans (Same.upd hp4))) ?_
     exact q _ (((s1.trans (Same.upd hp2)).trans (Same.upd hp3)).trans (Same.upd hp4))
    ·rw [h3] at q
     exact q _ ((s1.trans (Same.upd hp2)).trans (Same.upd hp3))
end
end My
namespace My
open PySem L2
section
variable {P:Program} {w:World} {K:PySem.W.Frag} {mg:Str→Option Value} {base:Heap} {t:Ad}
theorem fs_next {α β:Type} {F:α→Option β} {l:List α} {i:Nat} {x:α} (h:(l.take i).findSome? F=none) (e:l[i]? =some x) (g:F x=none):(l.take (i + 1)).findSome? F=none:=by
 rw [List.take_add_one,e,List.findSome?_append,h]
 simp [g]
theorem fs_at {α β:Type} {F:α→Option β} {l:List α} {i:Nat} {x:α} {r:β} (h:(l.take i).findSome? F=none) (e:l[i]? =some x) (g:F x=some r):l.findSome? F=some r:=by
 have hl:i < l.length:=(List.getElem?_eq_some_iff.mp e).1
 have e':l[i]=x:=(List.getElem?_eq_some_iff.mp e).2
 have:l=l.take i++x::l.drop (i + 1):=by
  rw [←e',←List.drop_eq_getElem_cons hl,List.take_append_drop]
 rw [this,List.findSome?_append,h]
 simp [g]
theorem fs_end {α β:Type} {F:α→Option β} {l:List α} (h:(l.take l.length).findSome? F=none):l.findSome? F=none:=by
 rwa [List.take_length] at h
theorem rg_at {n i:Nat} (h:i < n):(List.range n)[i]? =some i:=List.getElem?_range h
theorem rg_end {β:Type} {F:Nat→Option β} {n:Nat} (h:((List.range n).take n).findSome? F=none):(List.range n).findSome? F=none:=by
 rwa [List.take_of_length_le (by simp)] at h
noncomputable def tagD (s:Str):Option (List Int)→PyData
 | none=>.none
 | some l=>.tuple (.str s::l.map .int)
noncomputable def f2i (ps:List (Int×Int)) (p q:Int×Int):Option (List Int):=if bar2B ps p.1 p.2 q.1 q.2=true then some [p.1,p.2,q.1,q.2] else none
noncomputable def f2 (ps:List (Int×Int)):Option (List Int):=ps.findSome? fun p=>ps.findSome? (f2i ps p)
noncomputable def sp_first_two:Sp:=fun vs H Q _=>∃ x ps,vs=[x]∧Is H x (.tuple (ps.map prD))∧∀ v H',Same H H'→Is H' v (tagD "two" (f2 ps))→Q v H'
theorem ok_first_two (T:Txt K mg t):FnOk P w K mg base CX0 2 t.a_first_two t.d_first_two ["pairs"] sp_first_two:=by
 refine T.F_first_two.ok sc_first_two (fun vs H Q E h=>?_) (fun cdv A outer s H vs Q E hr h=>?_)
 ·obtain ⟨x,ps,rfl,_⟩:=h
  rfl
 ·obtain ⟨x,ps,rfl,hx,q⟩:=h
  refine ⟨_,(pss_cons (ps_for PassesOwn.never rfl (k_ptup K (pv 0)) (k_gtup K rfl (pgs_cons (pg_name (i:=1) sc_first_two.nd rfl (Or.inl rfl)) (pgs_cons (pg_name (i:=2) sc_first_two.nd rfl (Or.inl rfl)) pgs_nil))) (pss_one (ps_for PassesOwn.never rfl (k_ptup K (pv 0)) (k_gtup K rfl (pgs_cons (pg_name (i:=3) sc_first_two.nd rfl (Or.inl rfl)) (pgs_cons (pg_name (i:=4) sc_first_two.nd rfl (Or.inl rfl)) pgs_nil))) (pss_one (ps_if (pt_val (pe_call (ok_bars_as_two T) (hr.mono (by decide)) rfl T.m_bars_as_two T.F_bars_as_two.kp T.b_bars_as_two .nil pass0 (pa_cons (pv 0) (pa_cons (pv 1) (pa_cons (pv 2) (pa_cons (pv 3) (pa_cons (pv 4) pa_nil))))))) (pss_one (ps_ret (pe_tup (pa_cons pe_str (pa_cons (pv 1) (pa_cons (pv 2) (pa_cons (pv 3) (pa_cons (pv 4) pa_nil)))))))) pss_nil)))))
   (pss_one (ps_ret pe_non))),?_⟩
  cases hx with
  | @tup a xs _ e hxs=>
  have hl:xs.length=ps.length:=by rw [hxs.length,List.length_map]
  walk_at "rd"
  refine ⟨a,rfl,⟨xs,SqT.of e⟩,?_⟩
  refine fp_tup (K:=K) (xs:=xs) (fun i σ H'=>(∃ va vb vc vd,σ=[some (.ref a),va,vb,vc,vd])∧Same H H'∧(ps.take i).findSome? (fun p=>ps.findSome? (f2i ps p))=none) ⟨⟨_,_,_,_,rfl⟩,Same.refl H,rfl⟩ (fun i σ H' _ h=>SqT.of (h.2.1 _ _ e)) ?_ ?_
  ·rintro i x σ H1 hx ⟨⟨va,vb,vc,vd,rfl⟩,s1,n1⟩
   obtain ⟨p,ep,ip⟩:=(hxs.same s1).get' hx
   rw [List.getElem?_map] at ep
   cases hpi:ps[i]? with
   | none=>rw [hpi] at ep;cases ep
   | some p0=>
   rw [hpi] at ep
   cases ep
   unfold prD at ip
   cases ip with
   | @tup r ys _ er hys=>
   obtain rfl:=two_ints hys
   refine rd_gtup er rfl ?_
   walk_at "rd"
   refine ⟨a,rfl,⟨xs,SqT.of (s1 _ _ e)⟩,?_⟩
   refine fp_tup (K:=K) (xs:=xs) (fun j σ H'=>(∃ vc vd,σ=[some (.ref a),some (.int p0.1),some (.int p0.2),vc,vd])∧Same H H'∧(ps.take j).findSome? (f2i ps p0)=none) ⟨⟨_,_,rfl⟩,s1,rfl⟩ (fun i σ H' _ h=>SqT.of (h.2.1 _ _ e)) ?_ ?_
   ·rintro j y σ H2 hy ⟨⟨vc,vd,rfl⟩,s2,n2⟩
    obtain ⟨q2,eq2,iq2⟩:=(hxs.same s2).get' hy
    rw [List.getElem?_map] at eq2
    cases hqj:ps[j]? with
    | none=>rw [hqj] at eq2;cases eq2
    | some q0=>
    rw [hqj] at eq2
    cases eq2
    unfold prD at iq2
    cases iq2 with
    | @tup r2 ys2 _ er2 hys2=>
    obtain rfl:=two_ints hys2
    refine rd_gtup er2 rfl ?_
    walk_at "rd"
    refine ⟨_,ps,_,_,_,_,rfl,Is.same s2 (.tup e hxs),fun H3 s3=>?_⟩
    cases hf:bar2B ps p0.1 p0.2 q0.1 q0.2 with
    | true=>
     walk_at "rd"
     refine ⟨by show 5≤sizeLine;decide,fun r3 hr3=>?_⟩
     have ef:f2 ps=some [p0.1,p0.2,q0.1,q0.2]:=fs_at n1 hpi (fs_at n2 hqj (if_pos hf))
     refine q _ _ ((s2.trans s3).trans (Same.upd hr3)) ?_
     rw [ef]
     exact .tup upd_same (.cons (.str _) (.cons (.int _) (.cons (.int _) (.cons (.int _) (.cons (.int _) .nil)))))
    | false=>
     walk_at "rd"
     exact ⟨⟨_,_,rfl⟩,s2.trans s3,fs_next n2 hqj (if_neg (by rw [hf];exact Bool.false_ne_true))⟩
   ·rintro σ H2 ⟨⟨vc,vd,rfl⟩,s2,n2⟩
    rw [hl] at n2
    exact ⟨⟨_,_,_,_,rfl⟩,s2,fs_next n1 hpi (fs_end n2)⟩
  ·rintro σ H1 ⟨⟨va,vb,vc,vd,rfl⟩,s1,n1⟩
   rw [hl] at n1
   walk_at "rd"
   refine q _ H1 s1 ?_
   rw [show f2 ps=none from fs_end n1]
   exact .non
noncomputable def f3i (n:Nat) (ps:List (Int×Int)) (p:Int×Int) (c:Nat):Option (List Int):=(List.range n).findSome? fun (d:Nat)=>if bar3B ps p.1 p.2 c d=true then some [p.1,p.2,(c:Int),(d:Int)] else none
noncomputable def f3 (n:Nat) (ps:List (Int×Int)):Option (List Int):=ps.findSome? fun p=>(List.range n).findSome? (f3i n ps p)
noncomputable def sp_first_three:Sp:=fun vs H Q _=>∃ x ps n,vs=[.int (n:Nat),x]∧n≤8∧Is H x (.tuple (ps.map prD))∧∀ v H',Same H H'→Is H' v (tagD "three" (f3 n ps))→Q v H'
theorem ok_first_three (T:Txt K mg t):FnOk P w K mg base CX0 2 t.a_first_three t.d_first_three ["many","pairs"] sp_first_three:=by
 refine T.F_first_three.ok sc_first_three (fun vs H Q E h=>?_) (fun cdv A outer s H vs Q E hr h=>?_)
 ·obtain ⟨x,ps,n,rfl,_⟩:=h
  rfl
 ·obtain ⟨x,ps,n,rfl,hn,hx,q⟩:=h
  refine ⟨_,(pss_cons (ps_for PassesOwn.never rfl (k_ptup K (pv 1)) (k_gtup K rfl (pgs_cons (pg_name (i:=2) sc_first_three.nd rfl (Or.inl rfl)) (pgs_cons (pg_name (i:=3) sc_first_three.nd rfl (Or.inl rfl)) pgs_nil))) (pss_one (ps_for PassesOwn.never rfl (pi_range1 rfl T.n_range (pa_cons (pv 0) pa_nil)) (pg_name (i:=4) sc_first_three.nd rfl (Or.inl rfl)) (pss_one (ps_for PassesOwn.never rfl (pi_range1 rfl T.n_range (pa_cons (pv 0) pa_nil)) (pg_name (i:=5) sc_first_three.nd rfl (Or.inl rfl)) (pss_one (ps_if (pt_val (pe_call (ok_bars_as_three T) (hr.mono (by decide)) rfl T.m_bars_as_three T.F_bars_as_three.kp T.b_bars_as_three .nil pass0 (pa_cons (pv 1) (pa_cons (pv 2) (pa_cons (pv 3) (pa_cons (pv 4) (pa_cons (pv 5) pa_nil))))))) (pss_one (ps_ret (pe_tup (pa_cons pe_str (pa_cons (pv 2) (pa_cons (pv 3) (pa_cons (pv 4) (pa_cons (pv 5) pa_nil)))))))) pss_nil)))))))
   (pss_one (ps_ret pe_non))),?_⟩
  cases hx with
  | @tup a xs _ e hxs=>
  have hl:xs.length=ps.length:=by rw [hxs.length,List.length_map]
  walk_at "rd"
  refine ⟨a,rfl,⟨xs,SqT.of e⟩,?_⟩
  refine fp_tup (K:=K) (xs:=xs) (fun i σ H'=>(∃ va vb vc vd,σ=[some (.int n),some (.ref a),va,vb,vc,vd])∧Same H H'∧(ps.take i).findSome? (fun p=>(List.range n).findSome? (f3i n ps p))=none) ⟨⟨_,_,_,_,rfl⟩,Same.refl H,rfl⟩ (fun i σ H' _ h=>SqT.of (h.2.1 _ _ e)) ?_ ?_
  ·rintro i x σ H1 hx ⟨⟨va,vb,vc,vd,rfl⟩,s1,n1⟩
   obtain ⟨p,ep,ip⟩:=(hxs.same s1).get' hx
   rw [List.getElem?_map] at ep
   cases hpi:ps[i]? with
   | none=>rw [hpi] at ep;cases ep
   | some p0=>
   rw [hpi] at ep
   cases ep
   unfold prD at ip
   cases ip with
   | @tup r ys _ er hys=>
   obtain rfl:=two_ints hys
   refine rd_gtup er rfl ?_
   walk_at "rd"
   refine ⟨_,rfl,by lia,by lia,?_⟩
   rw [Int.toNat_natCast]
   refine fp_range (fun c σ H'=>(∃ vc vd,σ=[some (.int n),some (.ref a),some (.int p0.1),some (.int p0.2),vc,vd])∧Same H H'∧((List.range n).take c).findSome? (f3i n ps p0)=none) ⟨⟨_,_,rfl⟩,s1,rfl⟩ ?_ ?_
   ·rintro c σ H2 hc ⟨⟨vc,vd,rfl⟩,s2,n2⟩
    walk_at "rd"
    refine ⟨_,rfl,by lia,by lia,?_⟩
    rw [Int.toNat_natCast]
    refine fp_range (fun d σ H'=>(∃ vd,σ=[some (.int n),some (.ref a),some (.int p0.1),some (.int p0.2),some (.int (0 + c)),vd])∧Same H H'∧((List.range n).take d).findSome? (fun (d:Nat)=>if bar3B ps p0.1 p0.2 c d=true then some [p0.1,p0.2,(c:Int),(d:Int)] else none)=none) ⟨⟨_,rfl⟩,s2,rfl⟩ ?_ ?_
    ·rintro d σ H3 hd ⟨⟨vd,rfl⟩,s3,n3⟩
     walk_at "rd"
     refine ⟨_,ps,_,_,_,_,rfl,Is.same s3 (.tup e hxs),fun H4 s4=>?_⟩
     rw [Int.zero_add,Int.zero_add]
     cases hf:bar3B ps p0.1 p0.2 c d with
     | true=>
      walk_at "rd"
      refine ⟨by show 5≤sizeLine;decide,fun r3 hr3=>?_⟩
      have ef:f3 n ps=some [p0.1,p0.2,(c:Int),(d:Int)]:=fs_at n1 hpi (fs_at n2 (rg_at hc) (fs_at n3 (rg_at hd) (if_pos hf)))
      refine q _ _ ((s3.trans s4).trans (Same.upd hr3)) ?_
      rw [ef]
      exact .tup upd_same (.cons (.str _) (.cons (.int _) (.cons (.int _) (.cons (.int _) (.cons (.int _) .nil)))))
     | false=>
      walk_at "rd"
      exact ⟨⟨_,rfl⟩,s3.trans s4,fs_next n3 (rg_at hd) (if_neg (by rw [hf];exact Bool.false_ne_true))⟩
    ·rintro σ H3 ⟨⟨vd,rfl⟩,s3,n3⟩
     exact ⟨⟨_,_,rfl⟩,s3,fs_next n2 (rg_at hc) (rg_end n3)⟩
   ·rintro σ H2 ⟨⟨vc,vd,rfl⟩,s2,n2⟩
    exact ⟨⟨_,_,_,_,rfl⟩,s2,fs_next n1 hpi (rg_end n2)⟩
  ·rintro σ H1 ⟨⟨va,vb,vc,vd,rfl⟩,s1,n1⟩
   rw [hl] at n1
   walk_at "rd"
   refine q _ H1 s1 ?_
   rw [show f3 n ps=none from fs_end n1]
   exact .non
noncomputable def barD (n:Nat) (ps:List (Int×Int)):PyData:=match f2 ps with
 | some l=>tagD "two" (some l)
 | none=>tagD "three" (f3 n ps)
noncomputable def sp_bar_full:Sp:=fun vs H Q _=>∃ x n ps,vs=[x]∧Is H x (ordD n ps)∧Ord n ps∧∀ v H',Same H H'→Is H' v (barD n ps)→Q v H'
theorem ok_bar (T:Txt K mg t):FnOk P w K mg base CX0 6 t.a_bar t.d_bar ["order"] sp_bar_full:=by
 refine T.F_bar.ok sc_bar (fun vs H Q E h=>?_) (fun cdv A outer s H vs Q E hr h=>?_)
 ·obtain ⟨x,n,ps,rfl,_⟩:=h
  rfl
 ·obtain ⟨x,n,ps,rfl,hx,ho,q⟩:=h
  refine ⟨_,(pss_cons (ps_expr (pe_call (ok_need_order T) (hr.mono (by decide)) rfl T.m_need_order T.F_need_order.kp T.b_need_order .nil pass0 (pa_cons (pv 0) pa_nil)))
   (pss_cons (ps_set (i:=1) sc_bar.nd rfl (Or.inl rfl) (pe_call (ok_first_two T) (hr.mono (by decide)) rfl T.m_first_two T.F_first_two.kp T.b_first_two .nil pass0 (pa_cons (pe_ix (k_ix K) (pv 0) pe_int (fun _ _=>rfl)) pa_nil)))
   (pss_cons (ps_if (pt_cmpR o_isN (pv 1) pe_non (nomark _)) (pss_one (ps_set (i:=1) sc_bar.nd rfl (Or.inl rfl) (pe_call (ok_first_three T) (hr.mono (by decide)) rfl T.m_first_three T.F_first_three.kp T.b_first_three .nil pass0 (pa_cons (pe_ix (k_ix K) (pv 0) pe_int (fun _ _=>rfl)) (pa_cons (pe_ix (k_ix K) (pv 0) pe_int (fun _ _=>rfl)) pa_nil))))) pss_nil)
   (pss_one (ps_ret (pv 1)))))),?_⟩
  walk_at "rd"
  refine ⟨_,_,rfl,hx,ho.okd,ho.yes,fun H1 s1=>?_⟩
  obtain ⟨a,b,xs,rfl,ea,eb,hxs⟩:=is_ord (hx.same s1)
  walk_at "rd"
  refine ⟨_,ps,rfl,.tup eb hxs,fun v H2 s2 iv=>?_⟩
  have ea2:=s2 _ _ ea
  have eb2:=s2 _ _ eb
  unfold barD at q
  cases e2:f2 ps with
  | some l=>
   rw [e2] at iv q
   unfold tagD at iv
   cases iv with
   | @tup r ys _ er hys=>
   walk_at "rd"
   exact q _ H2 (s1.trans s2) (.tup er hys)
  | none=>
   rw [e2] at iv q
   unfold tagD at iv
   cases iv with
   | non=>
   walk_at "rd"
   refine ⟨_,ps,n,rfl,ho.hi,.tup eb2 (hxs.same s2),fun v H3 s3 iv=>?_⟩
   walk_at "rd"
   exact q v H3 ((s1.trans s2).trans s3) iv
noncomputable def bar2L (ps:List (Int×Int)):Bool:=ps.any fun p=>ps.any fun q=>bar2B ps p.1 p.2 q.1 q.2
noncomputable def bar3L (n:Nat) (ps:List (Int×Int)):Bool:=ps.any fun p=>(List.range n).any fun c=>(List.range n).any fun d=>bar3B ps p.1 p.2 c d
noncomputable def barB (n:Nat) (ps:List (Int×Int)):Bool:=bar2L ps||bar3L n ps
theorem f2_none {ps:List (Int×Int)}:f2 ps=none↔bar2L ps=false:=by
 unfold f2 bar2L f2i
 rw [List.findSome?_eq_none_iff,List.any_eq_false]
 refine forall_congr' fun p=>forall_congr' fun hp=>?_
 rw [List.findSome?_eq_none_iff,Bool.not_eq_true,List.any_eq_false]
 refine forall_congr' fun q=>forall_congr' fun hq=>?_
 cases bar2B ps p.1 p.2 q.1 q.2 <;> simp
theorem f3_none {n:Nat} {ps:List (Int×Int)}:f3 n ps=none↔bar3L n ps=false:=by
 unfold f3 bar3L f3i
 rw [List.findSome?_eq_none_iff,List.any_eq_false]
 refine forall_congr' fun p=>forall_congr' fun hp=>?_
 rw [List.findSome?_eq_none_iff,Bool.not_eq_true,List.any_eq_false]
 refine forall_congr' fun c=>forall_congr' fun hc=>?_
 rw [List.findSome?_eq_none_iff,Bool.not_eq_true,List.any_eq_false]
 refine forall_congr' fun d=>forall_congr' fun hd=>?_
 cases bar3B ps p.1 p.2 c d <;> simp
theorem barD_no {n:Nat} {ps:List (Int×Int)} (h:barB n ps=false):barD n ps=.none:=by
 unfold barB at h
 rw [Bool.or_eq_false_iff] at h
 unfold barD
 rw [f2_none.mpr h.1,f3_none.mpr h.2]
 rfl
theorem barD_yes {n:Nat} {ps:List (Int×Int)} (h:barB n ps=true):∃ ds,barD n ps=.tuple ds:=by
 unfold barB at h
 unfold barD
 cases e2:f2 ps with
 | some l=>exact ⟨_,rfl⟩
 | none=>
  rw [f2_none.mp e2,Bool.false_or] at h
  cases e3:f3 n ps with
  | some l=>exact ⟨_,rfl⟩
  | none=>rw [f3_none.mp e3] at h;cases h
end
end My
namespace My
open PySem L2
section
variable {P:Program} {w:World} {K:PySem.W.Frag} {mg:Str→Option Value} {base:Heap} {t:Ad}
noncomputable def tlI (st:Int) (vals:List Int) (i j:Nat):List (Int×Int):=if vals.getD j 0 - vals.getD i 0≥st then [((i:Int),(j:Int))] else []
noncomputable def tlRow (st:Int) (vals:List Int) (i m:Nat):List (Int×Int):=(List.range m).flatMap (tlI st vals i)
noncomputable def tlAll (st:Int) (vals:List Int) (m:Nat):List (Int×Int):=(List.range m).flatMap fun i=>tlRow st vals i vals.length
noncomputable def toldL (st:Int) (vals:List Int):List (Int×Int):=tlAll st vals vals.length
theorem tlRow_succ (st:Int) (vals:List Int) (i m:Nat):tlRow st vals i (m + 1)=tlRow st vals i m++tlI st vals i m:=by
 unfold tlRow
 rw [List.range_succ,List.flatMap_append]
 simp
theorem tlAll_succ (st:Int) (vals:List Int) (m:Nat):tlAll st vals (m + 1)=tlAll st vals m++tlRow st vals m vals.length:=by
 unfold tlAll
 rw [List.range_succ,List.flatMap_append]
 simp
theorem tlI_len (st:Int) (vals:List Int) (i j:Nat):(tlI st vals i j).length≤1:=by
 unfold tlI
 split
 ·exact Nat.le_refl _
 ·exact Nat.zero_le _
theorem tlRow_len (st:Int) (vals:List Int) (i:Nat):∀ m,(tlRow st vals i m).length≤m
 | 0=>Nat.le_refl _
 | m + 1=>by
  rw [tlRow_succ,List.length_append]
  have:=tlRow_len st vals i m
  have:=tlI_len st vals i m
  lia
theorem tlAll_len (st:Int) (vals:List Int):∀ m,(tlAll st vals m).length≤m * vals.length
 | 0=>Nat.zero_le _
 | m + 1=>by
  rw [tlAll_succ,List.length_append,Nat.succ_mul]
  have:=tlAll_len st vals m
  have:=tlRow_len st vals m vals.length
  lia
theorem noLs_pr:∀ ds:List (Int×Int),noLs (ds.map prD)=true
 | []=>rfl
 | d::ds=>by
  rw [List.map_cons,noLs,noLs_pr ds]
  rfl
theorem eqvAll_pr:∀ ps qs:List (Int×Int),PyData.eqvAll (ps.map prD) (qs.map prD)=decide (ps=qs)
 | [],[]=>rfl
 | [],_::_=>rfl
 | _::_,[]=>rfl
 | p::ps,q::qs=>by
  rw [List.map_cons,List.map_cons,PyData.eqvAll,eqv_pr,eqvAll_pr ps qs]
  by_cases h:p=q
  ·by_cases h2:ps=qs
   ·subst h h2;simp
   ·simp [h,h2]
  ·simp [h]
theorem ok_prT (ps:List (Int×Int)):okD (.tuple (ps.map prD)):=by
 have h:=ok_prs ps
 refine ⟨?_,?_⟩
 ·rw [PyData.canLay0];exact h.1
 ·rw [PyData.depth]
  have:PyData.depthAll (ps.map prD)≤1:=by
   clear h
   induction ps with
   | nil=>exact Nat.zero_le _
   | cons p ps ih=>
    rw [List.map_cons,PyData.depthAll]
    exact Nat.max_le.mpr ⟨Nat.le_refl _,ih⟩
  lia
noncomputable abbrev ltP (p q:Int×Int):Prop:=HT.lexLt [p.1,p.2] [q.1,q.2]=true
theorem ltP_of {p q:Int×Int} (h:p.1 < q.1∨(p.1=q.1∧p.2 < q.2)):ltP p q:=by
 show HT.lexLt [p.1,p.2] [q.1,q.2]=true
 rw [HT.lexLt_cons]
 rcases h with h | ⟨h1,h2⟩
 ·rw [if_neg (by lia)]
  exact decide_eq_true h
 ·rw [if_pos h1,HT.lexLt_cons,if_neg (by lia)]
  exact decide_eq_true h2
theorem mem_tlI {st:Int} {vals:List Int} {i j:Nat} {p:Int×Int}:p∈tlI st vals i j↔p=((i:Int),(j:Int))∧vals.getD j 0 - vals.getD i 0≥st:=by
 unfold tlI
 split
 ·rename_i h
  rw [List.mem_singleton]
  exact ⟨fun e=>⟨e,h⟩,fun e=>e.1⟩
 ·rename_i h
  constructor
  ·intro e;cases e
  ·intro e;exact absurd e.2 h
theorem mem_tlRow {st:Int} {vals:List Int} {i m:Nat} {p:Int×Int}:p∈tlRow st vals i m↔∃ j,j < m∧p=((i:Int),(j:Int))∧vals.getD j 0 - vals.getD i 0≥st:=by
 unfold tlRow
 rw [List.mem_flatMap]
 constructor
 ·rintro ⟨j,hj,h⟩
  exact ⟨j,List.mem_range.mp hj,mem_tlI.mp h⟩
 ·rintro ⟨j,hj,h⟩
  exact ⟨j,List.mem_range.mpr hj,mem_tlI.mpr h⟩
theorem mem_tlAll {st:Int} {vals:List Int} {m:Nat} {p:Int×Int}:p∈tlAll st vals m↔∃ i j,i < m∧j < vals.length∧p=((i:Int),(j:Int))∧vals.getD j 0 - vals.getD i 0≥st:=by
 unfold tlAll
 rw [List.mem_flatMap]
 constructor
 ·rintro ⟨i,hi,h⟩
  obtain ⟨j,hj,e,g⟩:=mem_tlRow.mp h
  exact ⟨i,j,List.mem_range.mp hi,hj,e,g⟩
 ·rintro ⟨i,j,hi,hj,e,g⟩
  exact ⟨i,List.mem_range.mpr hi,mem_tlRow.mpr ⟨j,hj,e,g⟩⟩
theorem row_up (st:Int) (vals:List Int) (i:Nat):∀ m,(tlRow st vals i m).Pairwise ltP
 | 0=>.nil
 | m + 1=>by
  rw [tlRow_succ,List.pairwise_append]
  refine ⟨row_up st vals i m,?_,fun p hp q hq=>?_⟩
  ·unfold tlI
   split
   ·exact List.pairwise_singleton _ _
   ·exact .nil
  ·obtain ⟨j,hj,rfl,_⟩:=mem_tlRow.mp hp
   obtain ⟨rfl,_⟩:=mem_tlI.mp hq
   exact ltP_of (.inr ⟨rfl,by show (j:Int) < m;lia⟩)
theorem all_up (st:Int) (vals:List Int):∀ m,(tlAll st vals m).Pairwise ltP
 | 0=>.nil
 | m + 1=>by
  rw [tlAll_succ,List.pairwise_append]
  refine ⟨all_up st vals m,row_up st vals m _,fun p hp q hq=>?_⟩
  obtain ⟨i,j,hi,hj,rfl,_⟩:=mem_tlAll.mp hp
  obtain ⟨j',_,rfl,_⟩:=mem_tlRow.mp hq
  exact ltP_of (.inl (by show (i:Int) < m;lia))
theorem rising_of:∀ {ps:List (Int×Int)},ps.Pairwise ltP→risingB ps=true
 | [],_=>rfl
 | [_],_=>rfl
 | a::b::r,h=>by
  rw [risingB,rising_of (List.pairwise_cons.mp h).2,(List.pairwise_cons.mp h).1 b List.mem_cons_self]
  rfl
theorem row_len {st:Int} (hs:1≤st) {vals:List Int} {i:Nat}:∀ m,i < m→(tlRow st vals i m).length + 1≤m
 | 0,h=>by lia
 | m + 1,h=>by
  rw [tlRow_succ,List.length_append]
  by_cases e:i=m
  ·subst e
   have:tlI st vals i i=[]:=by
    unfold tlI
    rw [if_neg (by lia)]
   rw [this]
   have:=tlRow_len st vals i i
   simp only [List.length_nil]
   lia
  ·have a:=row_len (i:=i) hs (vals:=vals) m (by lia)
   have b:=tlI_len st vals i m
   lia
theorem all_len {st:Int} (hs:1≤st) {vals:List Int}:∀ m,m≤vals.length→(tlAll st vals m).length + m≤m * vals.length
 | 0,_=>by simp [tlAll]
 | m + 1,h=>by
  rw [tlAll_succ,List.length_append,Nat.succ_mul]
  have a:=all_len hs (vals:=vals) m (by lia)
  have b:=row_len hs (vals:=vals) (i:=m) vals.length (by lia)
  lia
theorem told_len {st:Int} (hs:1≤st) {vals:List Int} (h1:1≤vals.length) (h8:vals.length≤8):(toldL st vals).length < 64:=by
 have a:=all_len hs (vals:=vals) vals.length (Nat.le_refl _)
 have b:vals.length * vals.length≤8 * 8:=Nat.mul_le_mul h8 h8
 unfold toldL
 lia
theorem told_ord {st:Int} (hs:1≤st) {vals:List Int} (h1:1≤vals.length) (h8:vals.length≤8):Ord vals.length (toldL st vals) where
 lo:=h1
 hi:=h8
 ix:=fun p hp=>by
  obtain ⟨i,j,hi,hj,rfl,g⟩:=mem_tlAll.mp hp
  refine ⟨by show (0:Int)≤i;lia,by show (i:Int) < vals.length;lia,by show (0:Int)≤j;lia,by show (j:Int) < vals.length;lia,?_⟩
  intro e
  have e':(i:Int)=j:=e
  have:i=j:=by lia
  subst this
  lia
 up:=rising_of (all_up st vals _)
 sz:=by
  have:=told_len hs h1 h8
  lia
theorem sorted_one {α:Type} {lt:α→α→Prop} (as:∀ a b,lt a b→¬lt b a):∀ {l1 l2:List α},l1.Perm l2→l1.Pairwise lt→l2.Pairwise lt→l1=l2
 | [],l2,h,_,_=>(List.nil_perm.mp h).symm
 | a::t1,[],h,_,_=>by
  have:=h.length_eq
  simp at this
 | a::t1,b::t2,h,p1,p2=>by
  have e:a=b:=by
   apply Classical.byContradiction
   intro hne
   have ha:a∈t2:=by
    rcases List.mem_cons.mp (h.mem_iff.mp List.mem_cons_self) with g | g
    ·exact absurd g hne
    ·exact g
   have hb:b∈t1:=by
    rcases List.mem_cons.mp (h.mem_iff.mpr List.mem_cons_self) with g | g
    ·exact absurd g.symm hne
    ·exact g
   exact as a b ((List.pairwise_cons.mp p1).1 b hb) ((List.pairwise_cons.mp p2).1 a ha)
  subst e
  rw [sorted_one as (List.Perm.cons_inv h) (List.pairwise_cons.mp p1).2 (List.pairwise_cons.mp p2).2]
end
end My
namespace My
open PySem L2
section
variable {P:Program} {w:World} {K:PySem.W.Frag} {mg:Str→Option Value} {base:Heap} {t:Ad}
theorem filter_one {α:Type} (f:α→Bool) (x:α):[x].filter f=if f x=true then [x] else []:=by
 cases h:f x <;> simp [h]
theorem lt_asym (p q:Int×Int):ltP p q→¬ltP q p:=fun h1 h2=>by
 have h2':HT.lexLt [q.1,q.2] [p.1,p.2]=true:=h2
 rw [lex_asym h1] at h2'
 cases h2'
theorem pw_of:∀ {ps:List (Int×Int)},risingB ps=true→ps.Pairwise ltP
 | [],_=>.nil
 | [_],_=>List.pairwise_singleton _ _
 | a::b::r,h=>by
  rw [risingB,Bool.and_eq_true] at h
  have ih:=pw_of h.2
  refine List.pairwise_cons.mpr ⟨fun x hx=>?_,ih⟩
  rcases List.mem_cons.mp hx with rfl | hx
  ·exact h.1
  ·exact lex_tr h.1 ((List.pairwise_cons.mp ih).1 x hx)
theorem pw_ext:∀ {l1 l2:List (Int×Int)},l1.Pairwise ltP→l2.Pairwise ltP→(∀ x,x∈l1↔x∈l2)→l1=l2
 | [],[],_,_,_=>rfl
 | [],b::t,_,_,h=>by cases (h b).mpr List.mem_cons_self
 | a::t,[],_,_,h=>by cases (h a).mp List.mem_cons_self
 | a::t1,b::t2,p1,p2,h=>by
  have q1:=List.pairwise_cons.mp p1
  have q2:=List.pairwise_cons.mp p2
  have e:a=b:=by
   apply Classical.byContradiction
   intro hne
   have ha:a∈t2:=by
    rcases List.mem_cons.mp ((h a).mp List.mem_cons_self) with g | g
    ·exact absurd g hne
    ·exact g
   have hb:b∈t1:=by
    rcases List.mem_cons.mp ((h b).mpr List.mem_cons_self) with g | g
    ·exact absurd g.symm hne
    ·exact g
   exact lt_asym a b (q1.1 b hb) (q2.1 a ha)
  subst e
  have irr:∀ x,ltP a x→x≠a:=fun x hx z=>by subst z;exact lt_asym _ _ hx hx
  rw [pw_ext q1.2 q2.2 fun x=>⟨fun hx=>?_,fun hx=>?_⟩]
  ·rcases List.mem_cons.mp ((h x).mp (List.mem_cons_of_mem _ hx)) with g | g
   ·exact absurd g (irr x (q1.1 x hx))
   ·exact g
  ·rcases List.mem_cons.mp ((h x).mpr (List.mem_cons_of_mem _ hx)) with g | g
   ·exact absurd g (irr x (q2.1 x hx))
   ·exact g
theorem has_iff {ps:List (Int×Int)} {i j:Int}:has ps i j=true↔(i,j)∈ps:=by
 unfold has
 exact decide_eq_true_iff
theorem nd_of {ps:List (Int×Int)} (h:ps.Pairwise ltP):ps.Nodup:=by
 refine List.Pairwise.imp (fun {a b} hab z=>?_) h
 subst z
 exact lt_asym _ _ hab hab
theorem nat_len:∀ (m:Nat) (l:List Nat),l.Nodup→(∀ x∈l,x < m)→l.length≤m
 | 0,[],_,_=>Nat.le_refl _
 | 0,x::_,_,h=>absurd (h x List.mem_cons_self) (Nat.not_lt_zero _)
 | m + 1,l,nd,h=>by
  by_cases hm:m∈l
  ·have:=nat_len m (l.erase m) (nd.erase m) fun x hx=>by
    have:=(List.Nodup.mem_erase_iff nd).mp hx
    have:=h x this.2
    lia
   rw [List.length_erase_of_mem hm] at this
   lia
  ·have:=nat_len m l nd fun x hx=>by
    have h1:=h x hx
    have:x≠m:=fun z=>hm (z▸hx)
    lia
   lia
noncomputable def inBox (p:Int×Int):Prop:=0≤p.1∧p.1 < 8∧0≤p.2∧p.2 < 8∧p.1≠p.2
theorem small_prs {ps:List (Int×Int)} (nd:ps.Nodup) (h:∀ p∈ps,inBox p):ps.length < 64:=by
 have e:=nat_len 63 (ps.map fun p=>(8 * p.1 + p.2).toNat) (by
  unfold List.Nodup
  rw [List.pairwise_map]
  refine List.Pairwise.imp_of_mem (fun {a b} ha hb hab z=>hab ?_) nd
  obtain ⟨a1,a2,a3,a4,_⟩:=h a ha
  obtain ⟨b1,b2,b3,b4,_⟩:=h b hb
  have:8 * a.1 + a.2=8 * b.1 + b.2:=by lia
  exact Prod.ext (by lia) (by lia)) (fun x hx=>by
  obtain ⟨p,hp,rfl⟩:=List.mem_map.mp hx
  obtain ⟨a1,a2,a3,a4,_⟩:=h p hp
  show (8 * p.1 + p.2).toNat < 63
  lia)
 rw [List.length_map] at e
 lia
noncomputable def inN (n:Nat) (p:Int×Int):Prop:=0≤p.1∧p.1 < n∧0≤p.2∧p.2 < n∧p.1≠p.2
theorem inN.box {n:Nat} (h8:n≤8) {p:Int×Int} (h:inN n p):inBox p:=by
 obtain ⟨a,b,c,d,e⟩:=h
 exact ⟨a,by lia,c,by lia,e⟩
theorem ord_of {n:Nat} {ps:List (Int×Int)} (lo:1≤n) (hi:n≤8) (ix:∀ p∈ps,inN n p) (up:ps.Pairwise ltP):Ord n ps:=
 ⟨lo,hi,ix,rising_of up,Nat.le_of_lt (Nat.lt_of_lt_of_le (small_prs (nd_of up) fun p hp=>(ix p hp).box hi) (by decide))⟩
theorem Ord.box {n:Nat} {ps:List (Int×Int)} (h:Ord n ps) {p:Int×Int} (hp:p∈ps):inBox p:=inN.box h.hi (h.ix p hp)
theorem Ord.small {n:Nat} {ps:List (Int×Int)} (h:Ord n ps):ps.length < 64:=small_prs (nd_of (pw_of h.up)) fun _ hp=>h.box hp
theorem Ord.in {n:Nat} {ps:List (Int×Int)} (h:Ord n ps) {i j:Int} (g:has ps i j=true):inN n (i,j):=h.ix _ (has_iff.mp g)
theorem rd_sortP {H:Hp} {Q:VK} {p:Addr} {vs:List V} {ps:List (Int×Int)} (e:H p=some (.lst vs)∨H p=some (.tup vs)) (hv:IsAll H vs (ps.map prD)) (nd:ps.Nodup) (hb:∀ p∈ps,inBox p)
  (h:∀ (l:Addr) (vs':List V) (ps':List (Int×Int)),H l=none→IsAll H vs' (ps'.map prD)→ps'.Perm ps→ps'.Pairwise ltP→Q (.ref l) (upd H l (.lst vs'))):rSorted K [.ref p] H Q:=by
 have tn:∀ ps:List (Int×Int),(ps.map fun p=>[p.1,p.2]).map (tupOf [])=ps.map prD:=fun ps=>by rw [List.map_map];rfl
 refine ⟨p,vs,[],ps.map fun p=>[p.1,p.2],2,rfl,e.elim (fun e=>.inl (SqL.of e)) (fun e=>.inr (SqT.of e)),by rw [tn];exact hv,?_,by decide,?_,by rw [List.length_map];exact small_prs nd hb,fun l vs' nss' hl ha hp hw=>?_⟩
 ·intro ns hm
  obtain ⟨q,_,rfl⟩:=List.mem_map.mp hm
  rfl
 ·unfold List.Nodup
  rw [List.pairwise_map]
  refine List.Pairwise.imp (fun {a b} hab z=>hab ?_) nd
  injection z with z1 z2
  injection z2 with z2 _
  exact Prod.ext z1 z2
 ·have key:∀ l:List (List Int),(∀ ns∈l,∃ a b,ns=[a,b])→l=(l.map fun ns=>(ns.getD 0 0,ns.getD 1 0)).map fun p=>[p.1,p.2]:=fun l hl=>by
   induction l with
   | nil=>rfl
   | cons x l ih=>
    obtain ⟨a,b,rfl⟩:=hl x List.mem_cons_self
    rw [List.map_cons,List.map_cons,←ih fun ns hns=>hl ns (List.mem_cons_of_mem _ hns)]
    rfl
  have e':=key nss' fun ns hns=>by
   obtain ⟨q,_,rfl⟩:=List.mem_map.mp (hp.mem_iff.mp hns)
   exact ⟨_,_,rfl⟩
  generalize nss'.map (fun ns=>(ns.getD 0 0,ns.getD 1 0))=ps' at e'
  subst e'
  rw [tn] at ha
  have hw':=List.pairwise_map.mp hw
  refine h l vs' ps' hl ha ?_ hw'
  have h2:=hp.map fun ns:List Int=>(ns.getD 0 0,ns.getD 1 0)
  rw [List.map_map,List.map_map] at h2
  have e1:∀ l:List (Int×Int),l.map ((fun ns:List Int=>(ns.getD 0 0,ns.getD 1 0)) ∘ fun p=>[p.1,p.2])=l:=fun l=>by
   refine (List.map_congr_left fun p _=>?_).trans (List.map_id l)
   rfl
  rw [e1,e1] at h2
  exact h2
theorem eqv_ord (n m:Nat) (ps qs:List (Int×Int)):PyData.eqv (ordD n ps) (ordD m qs)=decide (n=m∧ps=qs):=by
 unfold ordD
 rw [PyData.eqv,PyData.eqvAll,PyData.eqvAll,PyData.eqvAll,PyData.eqv,PyData.eqv,eqvAll_pr]
 by_cases h:n=m
 ·by_cases h2:ps=qs
  ·subst h h2;simp
  ·simp [h,h2]
 ·have:¬((n:Int)=(m:Int)):=by lia
  simp [h,this]
theorem ok_ord (n:Nat) (ps:List (Int×Int)):okD (ordD n ps):=by
 obtain ⟨a,b⟩:=ok_prT ps
 have hd:PyData.depth (.tuple (ps.map prD))≤2:=by
  rw [PyData.depth]
  have:PyData.depthAll (ps.map prD)≤1:=by
   clear a b
   induction ps with
   | nil=>exact Nat.zero_le _
   | cons p ps ih=>
    rw [List.map_cons,PyData.depthAll]
    exact Nat.max_le.mpr ⟨Nat.le_refl _,ih⟩
  lia
 refine ⟨?_,?_⟩
 ·unfold ordD
  rw [PyData.canLay0,PyData.canLayAll0,PyData.canLayAll0,a]
  rfl
 ·unfold ordD
  rw [PyData.depth,PyData.depthAll,PyData.depthAll,PyData.depthAll]
  have:PyData.depth (.int (n:Int))=0:=rfl
  lia
theorem eqvAll_ints:∀ as bs:List Int,PyData.eqvAll (as.map .int) (bs.map .int)=decide (as=bs)
 | [],[]=>rfl
 | [],_::_=>rfl
 | _::_,[]=>rfl
 | a::as,b::bs=>by
  rw [List.map_cons,List.map_cons,PyData.eqvAll,eqvAll_ints as bs,PyData.eqv]
  by_cases h:a=b
  ·by_cases h2:as=bs
   ·subst h h2;simp
   ·simp [h,h2]
  ·simp [h]
theorem ok_ints (as:List Int):okD (.list (as.map .int)):=by
 have h1:PyData.canLayAll0 (as.map PyData.int)=true:=by
  induction as with
  | nil=>rfl
  | cons a as ih=>rw [List.map_cons,PyData.canLayAll0,ih];rfl
 have h2:PyData.depthAll (as.map PyData.int)≤0:=by
  clear h1
  induction as with
  | nil=>exact Nat.le_refl _
  | cons a as ih=>rw [List.map_cons,PyData.depthAll];exact Nat.max_le.mpr ⟨Nat.le_refl _,ih⟩
 refine ⟨?_,?_⟩
 ·rw [PyData.canLay0];exact h1
 ·rw [PyData.depth];lia
noncomputable def gI (f:Nat→Nat→Bool) (i j:Nat):List (Int×Int):=if f i j=true then [((i:Int),(j:Int))] else []
noncomputable def gRow (f:Nat→Nat→Bool) (i m:Nat):List (Int×Int):=(List.range m).flatMap (gI f i)
noncomputable def gAll (f:Nat→Nat→Bool) (n m:Nat):List (Int×Int):=(List.range m).flatMap fun i=>gRow f i n
theorem gRow_succ (f:Nat→Nat→Bool) (i m:Nat):gRow f i (m + 1)=gRow f i m++gI f i m:=by
 unfold gRow
 rw [List.range_succ,List.flatMap_append]
 simp
theorem gAll_succ (f:Nat→Nat→Bool) (n m:Nat):gAll f n (m + 1)=gAll f n m++gRow f m n:=by
 unfold gAll
 rw [List.range_succ,List.flatMap_append]
 simp
theorem mem_gI {f:Nat→Nat→Bool} {i j:Nat} {p:Int×Int}:p∈gI f i j↔p=((i:Int),(j:Int))∧f i j=true:=by
 unfold gI
 split
 ·rename_i h
  rw [List.mem_singleton]
  exact ⟨fun e=>⟨e,h⟩,fun e=>e.1⟩
 ·rename_i h
  exact ⟨fun e=>(nomatch e),fun e=>absurd e.2 h⟩
theorem mem_gRow {f:Nat→Nat→Bool} {i m:Nat} {p:Int×Int}:p∈gRow f i m↔∃ j,j < m∧p=((i:Int),(j:Int))∧f i j=true:=by
 unfold gRow
 rw [List.mem_flatMap]
 constructor
 ·rintro ⟨j,hj,h⟩
  exact ⟨j,List.mem_range.mp hj,mem_gI.mp h⟩
 ·rintro ⟨j,hj,h⟩
  exact ⟨j,List.mem_range.mpr hj,mem_gI.mpr h⟩
theorem mem_gAll {f:Nat→Nat→Bool} {n m:Nat} {p:Int×Int}:p∈gAll f n m↔∃ i j,i < m∧j < n∧p=((i:Int),(j:Int))∧f i j=true:=by
 unfold gAll
 rw [List.mem_flatMap]
 constructor
 ·rintro ⟨i,hi,h⟩
  obtain ⟨j,hj,e,g⟩:=mem_gRow.mp h
  exact ⟨i,j,List.mem_range.mp hi,hj,e,g⟩
 ·rintro ⟨i,j,hi,hj,e,g⟩
  exact ⟨i,List.mem_range.mpr hi,mem_gRow.mpr ⟨j,hj,e,g⟩⟩
theorem gRow_up (f:Nat→Nat→Bool) (i:Nat):∀ m,(gRow f i m).Pairwise ltP
 | 0=>.nil
 | m + 1=>by
  rw [gRow_succ,List.pairwise_append]
  refine ⟨gRow_up f i m,?_,fun p hp q hq=>?_⟩
  ·unfold gI
   split
   ·exact List.pairwise_singleton _ _
   ·exact .nil
  ·obtain ⟨j,hj,rfl,_⟩:=mem_gRow.mp hp
   obtain ⟨rfl,_⟩:=mem_gI.mp hq
   exact ltP_of (.inr ⟨rfl,by show (j:Int) < m;lia⟩)
theorem gAll_up (f:Nat→Nat→Bool) (n:Nat):∀ m,(gAll f n m).Pairwise ltP
 | 0=>.nil
 | m + 1=>by
  rw [gAll_succ,List.pairwise_append]
  refine ⟨gAll_up f n m,gRow_up f m _,fun p hp q hq=>?_⟩
  obtain ⟨i,j,hi,hj,rfl,_⟩:=mem_gAll.mp hp
  obtain ⟨j',_,rfl,_⟩:=mem_gRow.mp hq
  exact ltP_of (.inl (by show (i:Int) < m;lia))
theorem g_ord {n:Nat} {ps:List (Int×Int)} (ho:Ord n ps) {f:Nat→Nat→Bool} (h:∀ i j:Nat,i < n→j < n→f i j=has ps i j):gAll f n n=ps:=by
 refine pw_ext (gAll_up f n n) (pw_of ho.up) fun p=>?_
 rw [mem_gAll]
 constructor
 ·rintro ⟨i,j,hi,hj,rfl,g⟩
  rw [h i j hi hj] at g
  exact has_iff.mp g
 ·intro hp
  obtain ⟨a,b,c,d,_⟩:=ho.ix p hp
  have e1:((p.1.toNat:Nat):Int)=p.1:=Int.toNat_of_nonneg a
  have e2:((p.2.toNat:Nat):Int)=p.2:=Int.toNat_of_nonneg c
  refine ⟨p.1.toNat,p.2.toNat,by lia,by lia,by rw [e1,e2],?_⟩
  rw [h _ _ (by lia) (by lia),e1,e2]
  exact has_iff.mpr hp
end
end My
namespace My
open PySem L2
section
variable {P:Program} {w:World} {K:PySem.W.Frag} {mg:Str→Option Value} {base:Heap} {t:Ad}
noncomputable def Brd (n:Nat) (ps:List (Int×Int)):Prop:=(∃ a b c d,bar2B ps a b c d=true)∨∃ a b c d:Int,0≤d∧d < n∧bar3B ps a b c d=true
theorem brd_iff {n:Nat} {ps:List (Int×Int)} (ho:Ord n ps):barB n ps=true↔Brd n ps:=by
 unfold barB Brd
 rw [Bool.or_eq_true]
 refine or_congr ?_ ?_
 ·unfold bar2L
  rw [List.any_eq_true]
  constructor
  ·rintro ⟨p,_,h⟩
   obtain ⟨q,_,h⟩:=List.any_eq_true.mp h
   exact ⟨_,_,_,_,h⟩
  ·rintro ⟨a,b,c,d,h⟩
   have h':=h
   unfold bar2B at h'
   rw [Bool.and_eq_true,Bool.and_eq_true] at h'
   exact ⟨(a,b),has_iff.mp h'.1.1,List.any_eq_true.mpr ⟨(c,d),has_iff.mp h'.1.2,h⟩⟩
 ·unfold bar3L
  rw [List.any_eq_true]
  constructor
  ·rintro ⟨p,_,h⟩
   obtain ⟨c,_,h⟩:=List.any_eq_true.mp h
   obtain ⟨d,hd,h⟩:=List.any_eq_true.mp h
   have:=List.mem_range.mp hd
   exact ⟨_,_,_,_,by lia,by lia,h⟩
  ·rintro ⟨a,b,c,d,h0,h1,h⟩
   have h':=h
   unfold bar3B at h'
   rw [Bool.and_eq_true,Bool.and_eq_true] at h'
   obtain ⟨_,_,c0,c1,_⟩:=ho.in h'.1.2
   have c0:0≤c:=c0
   have c1:c < n:=c1
   refine ⟨(a,b),has_iff.mp h'.1.1,List.any_eq_true.mpr ⟨c.toNat,List.mem_range.mpr (by lia),List.any_eq_true.mpr ⟨d.toNat,List.mem_range.mpr (by lia),?_⟩⟩⟩
   rw [Int.toNat_of_nonneg c0,Int.toNat_of_nonneg h0]
   exact h
theorem bar_is {H:Hp} {v:V} {n:Nat} {ps:List (Int×Int)} (h:Is H v (barD n ps)):decide (v=V.non)= !barB n ps:=by
 cases e:barB n ps with
 | false=>
  rw [barD_no e] at h
  cases h
  rfl
 | true=>
  obtain ⟨ds,e'⟩:=barD_yes e
  rw [e'] at h
  cases h
  rfl
end
end My
namespace My
open PySem L2
section
variable {P:Program} {w:World} {K:PySem.W.Frag} {mg:Str→Option Value} {base:Heap} {t:Ad}
noncomputable def sp_cell (K:PySem.W.Frag):Sp:=fun vs H Q _=>∃ a ns k,vs=[.ref a,.int k]∧Scr K H a ns∧0≤k∧∀ c H',Same H H'→Q (.int c) H'
theorem int_at {ns:List Int} {k:Int} (h0:0≤k) (h1:k < ns.length):atI (ns.map V.int) k=some (.int (ns.getD k.toNat 0)):=by
 refine atI_of (i:=k.toNat) (by lia) ?_
 rw [List.getElem?_map]
 have:k.toNat < ns.length:=by lia
 simp [this]
theorem ok__law_cell_at (T:Txt K mg t):FnOk P w K mg base CX0 1 t.a__law_cell_at t.d__law_cell_at ["_law_script","_law_k"] (sp_cell K):=by
 refine T.F__law_cell_at.ok sc__law_cell_at (fun vs H Q E h=>?_) (fun cdv A outer s H vs Q E hr h=>?_)
 ·obtain ⟨a,ns,k,rfl,_⟩:=h
  rfl
 ·obtain ⟨a,ns,k,rfl,hs,hk,q⟩:=h
  refine ⟨_,(pss_cons (ps_if (pt_cmpR (op_lt) (pv 1) (pe_callB (k_len K) (by rfl) T.n_len bt_len (pa_cons (pv 0) pa_nil)) (nomark _)) (pss_one (ps_ret (pe_ix (k_ix K) (pv 0) (pv 1) (fun _ _=>rfl)))) pss_nil)
   (pss_cons (ps_if (pt_cmpR (k_eqNil K hr.units0) (pv 0) (pe_lst pa_nil) (nomark _)) (pss_one (ps_ret pe_int)) pss_nil)
   (pss_one (ps_ret (pe_op op_add (pe_op op_mul (pe_ix (k_ix K) (pv 0) (pe_op op_mod (pv 1) (pe_callB (k_len K) (by rfl) T.n_len bt_len (pa_cons (pv 0) pa_nil))) (fun _ _=>rfl)) pe_int) (pv 1)))))),?_⟩
  walk_at "rd"
  refine rd_lenS hs.sq ?_
  walk_at "rd"
  refine ifB (fun h1=>?_) (fun h1=>?_)
  ·have h1':=of_decide_eq_true h1
   rw [List.length_map] at h1'
   walk_at "rd"
   refine rd_ixS hs.sq (int_at hk h1') ?_
   exact q _ H (Same.refl H)
  ·walk_at "rd"
   refine ⟨Nat.zero_le _,fun p hp=>?_⟩
   have s1:=Same.upd (o:=.lst []) hp
   walk_at "rd"
   refine ⟨a,p,ns,rfl,rfl,(hs.same s1).sq,SqL.of upd_same,?_⟩
   walk_at "rd"
   refine ifB (fun h2=>?_) (fun h2=>?_)
   ·walk_at "rd"
    exact q _ _ s1
   ·have h2':=of_decide_eq_false h2
    have hl:0 < ns.length:=List.length_pos_iff.mpr h2'
    walk_at "rd"
    refine rd_lenS (hs.same s1).sq ?_
    rw [List.length_map]
    refine rd_I (by lia) ?_
    refine rd_ixS (hs.same s1).sq (int_at (Int.emod_nonneg _ (by lia)) (Int.emod_lt_of_pos _ (by lia))) ?_
    walk_at "rd"
    refine rd_I (.inr ⟨by decide,by decide⟩) ?_
    walk_at "rd"
    exact q _ _ s1
noncomputable def sp_mixed (K:PySem.W.Frag):Sp:=fun vs H Q _=>∃ a ns k m,vs=[.ref a,.int k,.int m]∧Scr K H a ns∧0≤k∧0 < m∧∀ r H',Same H H'→0≤r→r < m→Q (.int r) H'
theorem ok__law_mixed (T:Txt K mg t):FnOk P w K mg base CX0 2 t.a__law_mixed t.d__law_mixed ["_law_script","_law_k","_law_many"] (sp_mixed K):=by
 refine T.F__law_mixed.ok sc__law_mixed (fun vs H Q E h=>?_) (fun cdv A outer s H vs Q E hr h=>?_)
 ·obtain ⟨a,ns,k,m,rfl,_⟩:=h
  rfl
 ·obtain ⟨a,ns,k,m,rfl,hs,hk,hm,q⟩:=h
  refine ⟨_,(pss_cons (ps_set (i:=3) sc__law_mixed.nd rfl (Or.inl rfl) (pe_op op_mod (pe_op op_add (pe_op op_add (pe_op op_mul (pe_call (ok__law_cell_at T) (hr.mono (by decide)) rfl T.m__law_cell_at T.F__law_cell_at.kp T.b__law_cell_at .nil pass0 (pa_cons (pv 0) (pa_cons (pv 1) pa_nil))) pe_int) (pe_op op_mul pe_int (pv 1))) pe_int) pe_int))
   (pss_one (ps_ret (pe_op op_mod (pe_op op_mod (pe_op op_mod (pe_op op_pow (pv 3) pe_int) pe_int) pe_int) (pv 2))))),?_⟩
  walk_at "rd"
  refine ⟨a,ns,k,rfl,hs,hk,fun c H1 s1=>?_⟩
  walk_at "rd"
  refine rd_I (.inr ⟨by decide,by decide⟩) ?_
  walk_at "rd"
  refine rd_I (.inl ⟨by decide,by decide⟩) ?_
  walk_at "rd"
  refine rd_I (by decide) ?_
  walk_at "rd"
  have d0:=Int.emod_nonneg (c * 1103515245 + 7919 * k + 12345) (show (2147483647:Int)≠0 by decide)
  have d1:=Int.emod_lt_of_pos (c * 1103515245 + 7919 * k + 12345) (show (0:Int) < 2147483647 by decide)
  refine rd_I ⟨by decide,by decide,by lia⟩ ?_
  walk_at "rd"
  refine rd_I (by decide) ?_
  walk_at "rd"
  refine rd_I (by decide) ?_
  walk_at "rd"
  refine rd_I hm ?_
  exact q _ H1 s1 (Int.emod_nonneg _ (by lia)) (Int.emod_lt_of_pos _ hm)
noncomputable def sp_draw (K:PySem.W.Frag):Sp:=fun vs H Q _=>∃ a ns tw ts m,vs=[.ref a,.ref tw,.int m]∧Scr K H a ns∧H tw=some (.lst ts)∧ts.length≤500∧0 < m∧
 ∀ r H' ts',SameT tw H H'→H' tw=some (.lst ts')→ts'.length=ts.length + 1→0≤r→r < m→Q (.int r) H'
theorem ok__law_draw (T:Txt K mg t):FnOk P w K mg base CX0 3 t.a__law_draw t.d__law_draw ["_law_script","_law_town","_law_many"] (sp_draw K):=by
 refine T.F__law_draw.ok sc__law_draw (fun vs H Q E h=>?_) (fun cdv A outer s H vs Q E hr h=>?_)
 ·obtain ⟨a,ns,tw,ts,m,rfl,_⟩:=h
  rfl
 ·obtain ⟨a,ns,tw,ts,m,rfl,hs,ht,hl,hm,q⟩:=h
  refine ⟨_,(pss_cons (ps_expr (k_bm K PySem.F.plainAttrs_list PySem.F.slot_list_append PySem.F.type_list_append mt_append (pv 1) (pa_cons pe_int pa_nil)))
   (pss_one (ps_ret (pe_call (ok__law_mixed T) (hr.mono (by decide)) rfl T.m__law_mixed T.F__law_mixed.kp T.b__law_mixed .nil pass0 (pa_cons (pv 0) (pa_cons (pe_callB (k_len K) (by rfl) T.n_len bt_len (pa_cons (pv 1) pa_nil)) (pa_cons (pv 2) pa_nil))))))),?_⟩
  walk_at "rd"
  refine ⟨tyV_lst ht,?_⟩
  walk_at "rd"
  refine rd_append ht (small1000 (by lia)) ?_
  have s1:SameT tw H (upd H tw (.lst (ts++[V.int 0]))):=fun b u e g=>by rw [upd_ne g];exact e
  have ht1:upd H tw (.lst (ts++[V.int 0])) tw=some (.lst (ts++[V.int 0])):=upd_same
  walk_at "rd"
  refine ⟨a,ns,_,m,rfl,hs.t ht s1,by lia,hm,fun r H2 s2 h0 h1=>?_⟩
  exact q r H2 _ (s1.trans s2.t) (s2 _ _ ht1) (by simp) h0 h1
noncomputable def sp_pick (K:PySem.W.Frag):Sp:=fun vs H Q _=>∃ a ns tw ts l xs,vs=[.ref a,.ref tw,.ref l]∧Scr K H a ns∧H tw=some (.lst ts)∧ts.length≤500∧H l=some (.lst xs)∧l≠tw∧0 < xs.length∧
 ∀ v H' ts',SameT tw H H'→H' tw=some (.lst ts')→ts'.length=ts.length + 1→v∈xs→Q v H'
theorem ok__law_pick (T:Txt K mg t):FnOk P w K mg base CX0 4 t.a__law_pick t.d__law_pick ["_law_script","_law_town","_law_some"] (sp_pick K):=by
 refine T.F__law_pick.ok sc__law_pick (fun vs H Q E h=>?_) (fun cdv A outer s H vs Q E hr h=>?_)
 ·obtain ⟨a,ns,tw,ts,l,xs,rfl,_⟩:=h
  rfl
 ·obtain ⟨a,ns,tw,ts,l,xs,rfl,hs,ht,hl,el,nl,hx,q⟩:=h
  refine ⟨_,(pss_one (ps_ret (pe_ix (k_ix K) (pv 2) (pe_call (ok__law_draw T) (hr.mono (by decide)) rfl T.m__law_draw T.F__law_draw.kp T.b__law_draw .nil pass0 (pa_cons (pv 0) (pa_cons (pv 1) (pa_cons (pe_callB (k_len K) (by rfl) T.n_len bt_len (pa_cons (pv 2) pa_nil)) pa_nil)))) (fun _ _=>rfl)))),?_⟩
  walk_at "rd"
  refine ⟨a,ns,tw,ts,_,rfl,hs,ht,hl,by lia,fun r H1 ts' s1 ht1 hl1 h0 h1=>?_⟩
  have hr':r.toNat < xs.length:=by lia
  refine rd_ixL (s1 _ _ el nl) (atI_of (i:=r.toNat) (by lia) (List.getElem?_eq_getElem hr')) ?_
  exact q _ H1 ts' s1 ht1 hl1 (List.getElem_mem hr')
end
end My
namespace My
open PySem L2
section
variable {P:Program} {w:World} {K:PySem.W.Frag} {mg:Str→Option Value} {base:Heap} {t:Ad}
theorem SameT.of {w:Addr} {H:Hp} {l:Addr} {o:HO} (h:H l=none):SameT w H (upd H l o):=(Same.upd h).t
theorem told_nss (ps:List (Int×Int)):(ps.map fun p=>[p.1,p.2]).map (tupOf [])=ps.map prD:=by
 rw [List.map_map]
 rfl
noncomputable def sp_free (K:PySem.W.Frag):Sp:=fun vs H Q _=>∃ a ns tw ts lo hi,vs=[.ref a,.ref tw,.int lo,.int hi]∧1≤lo∧lo≤hi∧hi≤8∧Scr K H a ns∧H tw=some (.lst ts)∧ts.length≤100∧
 ∀ x H' st line ts',SameT tw H H'→H' tw=some (.lst ts')→ts'.length≤ts.length + 11→1≤st→st≤5→lo≤line.length→line.length≤hi→1≤line.length→line.length≤8→(∀ v∈line,0≤v∧v≤19)→Is H' x (ordD line.length (toldL st line))→Q x H'
theorem ok__law_free (T:Txt K mg t):FnOk P w K mg base CX0 5 t.a__law_free t.d__law_free ["_law_script","_law_town","_law_low","_law_most"] (sp_free K):=by
 refine T.F__law_free.ok sc__law_free (fun vs H Q E h=>?_) (fun cdv A outer s H vs Q E hr h=>?_)
 ·obtain ⟨a,ns,tw,ts,lo,hi,rfl,_⟩:=h
  rfl
 ·obtain ⟨a,ns,tw,ts,lo,hi,rfl,lo1,lohi,hi8,hs,ht,hl,q⟩:=h
  refine ⟨_,(pss_cons (ps_set (i:=4) sc__law_free.nd rfl (Or.inr rfl) (pe_op op_add pe_int (pe_call (ok__law_draw T) (hr.mono (by decide)) rfl T.m__law_draw T.F__law_draw.kp T.b__law_draw .nil pass0 (pa_cons (pv 0) (pa_cons (pv 1) (pa_cons pe_int pa_nil))))))
   (pss_cons (ps_set (i:=5) sc__law_free.nd rfl (Or.inr rfl) (pe_call (ok__law_pick T) (hr.mono (by decide)) rfl T.m__law_pick T.F__law_pick.kp T.b__law_pick .nil pass0 (pa_cons (pv 0) (pa_cons (pv 1) (pa_cons (pe_lst (pa_cons pe_int (pa_cons pe_int (pa_cons pe_int (pa_cons pe_int (pa_cons pe_int pa_nil)))))) pa_nil)))))
   (pss_cons (ps_set (i:=6) sc__law_free.nd rfl (Or.inl rfl) (pe_op op_add (pv 2) (pe_call (ok__law_draw T) (hr.mono (by decide)) rfl T.m__law_draw T.F__law_draw.kp T.b__law_draw .nil pass0 (pa_cons (pv 0) (pa_cons (pv 1) (pa_cons (pe_op op_add (pe_op op_sub (pv 3) (pv 2)) pe_int) pa_nil))))))
   (pss_cons (ps_set (i:=7) sc__law_free.nd rfl (Or.inr rfl) (pe_lc rfl ⟨True.intro,True.intro,True.intro,(.inl rfl),(.inl rfl),(.inl rfl),True.intro⟩ (M:=["_law_k","_law_script","_law_town","_law_wide"]) (.own (.free 0 rfl rfl (.free 1 rfl rfl (.free 5 rfl rfl .nil)))) (gk_name rfl) rfl (by decide +kernel) (pi_range1 rfl T.n_range (pa_cons (pv 6) pa_nil)) (fun C fp s1 H1=>⟨pg_name (i:=0) (show (["_law_k","_law_script","_law_town","_law_wide"]:List Str).Nodup by decide +kernel) rfl (Or.inl rfl),pif_nil,(pe_call (ok__law_draw T) (hr.mono (by decide)) rfl T.m__law_draw T.F__law_draw.kp T.b__law_draw .nil pass0 (pa_cons (pv 1) (pa_cons (pv 2) (pa_cons (pv 3) pa_nil))))⟩)))
   (pss_cons (ps_set (i:=8) sc__law_free.nd rfl (Or.inl rfl) (pe_lst pa_nil))
   (pss_cons (ps_for PassesOwn.never rfl (pi_range1 rfl T.n_range (pa_cons (pv 6) pa_nil)) (pg_name (i:=9) sc__law_free.nd rfl (Or.inr rfl)) (pss_one (ps_expr (k_bm K PySem.F.plainAttrs_list PySem.F.slot_list_extend PySem.F.type_list_extend mt_extend (pv 8) (pa_cons (pe_lc rfl ⟨True.intro,True.intro,(.inl rfl),(.inl rfl),(.inl rfl),True.intro⟩ (M:=["_law_other","_law_line_up","_law_one","_law_step"]) (.own (.free 7 rfl rfl (.free 9 rfl rfl (.free 4 rfl rfl .nil)))) (gk_name rfl) rfl (by decide +kernel) (pi_range1 rfl T.n_range (pa_cons (pv 6) pa_nil)) (fun C fp s1 H1=>⟨pg_name (i:=0) (show (["_law_other","_law_line_up","_law_one","_law_step"]:List Str).Nodup by decide +kernel) rfl (Or.inl rfl),pif_one (pt_cmpR (op_ge) (pe_op op_sub (pe_ix (k_ix K) (pv 1) (pv 0) (fun _ _=>rfl)) (pe_ix (k_ix K) (pv 1) (pv 2) (fun _ _=>rfl))) (pv 3) (nomark _)),(pe_tup (pa_cons (pv 2) (pa_cons (pv 0) pa_nil)))⟩)) pa_nil)))))
   (pss_one (ps_ret (pe_tup (pa_cons (pv 6) (pa_cons (pe_callTy (k_tuple K) (by rfl) T.n_tuple bt_tuple (pa_cons (pe_callB (k_sorted K) (by rfl) T.n_sorted bt_sorted (pa_cons (pv 8) pa_nil)) pa_nil)) pa_nil))))))))))),?_⟩
  walk_at "rd"
  refine ⟨a,ns,tw,ts,5,rfl,hs,ht,by lia,by decide,fun r1 H1 ts1 s1 ht1 hl1 r10 r11=>?_⟩
  have hs1:=hs.t ht s1
  walk_at "rd"
  refine ⟨by show 5≤sizeLine;decide,fun l hl'=>?_⟩
  have ntl:l≠tw:=fun z=>by rw [z,ht1] at hl';cases hl'
  have s2:SameT tw H1 (upd H1 l (.lst [V.int 3,V.int 6,V.int 9,V.int 14,V.int 20])):=SameT.of hl'
  walk_at "rd"
  refine ⟨a,ns,tw,ts1,l,_,rfl,hs1.t ht1 s2,by rw [upd_ne (Ne.symm ntl)];exact ht1,by lia,upd_same,ntl,by decide,fun v H2 ts2 s3 ht2 hl2 hv=>?_⟩
  obtain ⟨wd,rfl,wd3,wd20⟩:∃ wd:Int,v=.int wd∧3≤wd∧wd≤20:=by
   simp only [List.mem_cons,List.not_mem_nil,or_false] at hv
   rcases hv with rfl | rfl | rfl | rfl | rfl <;> exact ⟨_,rfl,by decide,by decide⟩
  have s12:SameT tw H H2:=(s1.trans s2).trans s3
  have hs2:=hs.t ht s12
  walk_at "rd"
  refine ⟨a,ns,tw,ts2,hi - lo + 1,rfl,hs2,ht2,by lia,by lia,fun r3 H3 ts3 s4 ht3 hl3 r30 r31=>?_⟩
  have s13:=s12.trans s4
  have hs3:=hs.t ht s13
  obtain ⟨n,hn⟩:∃ n:Nat,lo + r3=(n:Int):=⟨(lo + r3).toNat,by lia⟩
  have n1:1≤n:=by lia
  have n8:n≤8:=by lia
  walk_at "rd"
  rw [hn]
  refine ⟨_,rfl,by lia,by lia,?_⟩
  rw [Int.toNat_natCast]
  refine lp_range (small_ln (by lia)) (fun i ys H'=>SameT tw H H'∧(∃ ts',H' tw=some (.lst ts')∧ts'.length=ts.length + 3 + i)∧∃ line:List Int,ys=line.map V.int∧line.length=i∧∀ v∈line,0≤v∧v≤19)
   ⟨s13,⟨ts3,ht3,by lia⟩,[],rfl,rfl,fun _ h=>nomatch h⟩ (by rintro i ys H' ⟨_,_,line,rfl,rfl,_⟩;simp) ?_ ?_
  ·rintro i ys H4 hi ⟨s5,⟨ts4,ht4,hl4⟩,line,rfl,hli,hlv⟩
   walk_at "rd"
   refine ⟨a,ns,tw,ts4,wd,rfl,hs.t ht s5,ht4,by lia,by lia,fun r H5 ts5 s6 ht5 hl5 r0 r1'=>?_⟩
   refine ⟨s5.trans s6,⟨ts5,ht5,by lia⟩,line++[r],by rw [List.map_append];rfl,by rw [List.length_append,hli];rfl,fun v hv=>?_⟩
   rcases List.mem_append.mp hv with h | h
   ·exact hlv v h
   ·rcases List.mem_singleton.mp h with rfl
    lia
  ·rintro ys H4 ⟨s5,⟨ts4,ht4,hl4⟩,line,rfl,hli,hlv⟩ lu hlu
   subst hli
   have ntu:lu≠tw:=fun z=>by rw [z,ht4] at hlu;cases hlu
   have s6:SameT tw H (upd H4 lu (.lst (line.map V.int))):=s5.trans (SameT.of hlu)
   walk_at "rd"
   refine ⟨Nat.zero_le _,fun pl hpl=>?_⟩
   have ntp:pl≠tw:=fun z=>by
    rw [z,upd_ne (Ne.symm ntu),ht4] at hpl
    cases hpl
   have nup:lu≠pl:=fun z=>by
    rw [←z,upd_same] at hpl
    cases hpl
   have npH:H pl=none:=by
    cases e:H pl with
    | none=>rfl
    | some u=>rw [s6 _ _ e ntp] at hpl;cases hpl
   walk_at "rd"
   refine ⟨_,rfl,by lia,by lia,?_⟩
   rw [Int.toNat_natCast]
   refine fp_range (fun i σ H'=>(∃ v9,σ=[some (.ref a),some (.ref tw),some (.int lo),some (.int hi),some (.int (1 + r1)),some (.int wd),some (.int line.length),some (.ref lu),some (.ref pl),v9])∧SameT tw H H'∧H' tw=some (.lst ts4)∧H' lu=some (.lst (line.map V.int))∧∃ zs,H' pl=some (.lst zs)∧IsAll H' zs ((tlAll (1 + r1) line i).map prD))
    ⟨⟨_,rfl⟩,s6.trans (SameT.of hpl),by rw [upd_ne (Ne.symm ntp),upd_ne (Ne.symm ntu)];exact ht4,by rw [upd_ne nup,upd_same],[],upd_same,.nil⟩ ?_ ?_
   ·rintro i σ H5 hi ⟨⟨v9,rfl⟩,s7,ht5,hlu5,zs,hz,iz⟩
    walk_at "rd"
    refine ⟨tyV_lst hz,?_⟩
    walk_at "rd"
    refine ⟨_,rfl,by lia,by lia,?_⟩
    rw [Int.toNat_natCast]
    refine lp_range (small_ln (by lia)) (fun j ys H'=>Same H5 H'∧IsAll H' ys ((tlRow (1 + r1) line i j).map prD)) ⟨Same.refl _,.nil⟩ (by
     rintro j ys H' ⟨_,h⟩
     rw [h.length,List.length_map]
     exact tlRow_len _ _ _ _) ?_ ?_
    ·rintro j ys H6 hj ⟨s8,iy⟩
     have hlu6:=s8 _ _ hlu5
     rw [tlRow_succ,List.map_append]
     walk_at "rd"
     refine rd_ixL hlu6 (int_at (by lia) (by lia)) ?_
     walk_at "rd"
     refine rd_ixL hlu6 (int_at (by lia) (by lia)) ?_
     rw [Int.zero_add,Int.zero_add,Int.toNat_natCast,Int.toNat_natCast]
     walk_at "rd"
     refine ifB (fun g=>?_) (fun g=>?_)
     ·have g':line.getD j 0 - line.getD i 0≥1 + r1:=of_decide_eq_true g
      walk_at "rd"
      refine ⟨two_ln,fun p hp=>?_⟩
      have s9:=Same.upd (o:=.tup [V.int i,V.int j]) hp
      have e1:tlI (1 + r1) line i j=[((i:Int),(j:Int))]:=by unfold tlI;rw [if_pos g']
      rw [e1]
      refine ⟨s8.trans s9,(iy.same s9).append (.cons (.tup upd_same (.cons (.int _) (.cons (.int _) .nil))) .nil)⟩
     ·have g':¬line.getD j 0 - line.getD i 0≥1 + r1:=of_decide_eq_false g
      have e1:tlI (1 + r1) line i j=[]:=by unfold tlI;rw [if_neg g']
      rw [e1,List.map_nil,List.append_nil]
      walk_at "rd"
      exact ⟨s8,iy⟩
    ·rintro ys H6 ⟨s8,iy⟩ b hb
     have s9:=s8.trans (Same.upd (o:=.lst ys) hb)
     have npb:pl≠b:=ne_of_none (s8 _ _ hz) hb
     have lz:zs.length + ys.length≤1000:=by
      have a1:=iz.length
      have a2:=iy.length
      rw [List.length_map] at a1 a2
      have a3:=tlAll_len (1 + r1) line i
      have a4:=tlRow_len (1 + r1) line i line.length
      have a5:i * line.length≤8 * 8:=Nat.mul_le_mul (by lia) n8
      lia
     walk_at "rd"
     refine rd_extend (s9 _ _ hz) upd_same (small_ln lz) ?_
     walk_at "rd"
     refine ⟨⟨_,rfl⟩,fun c u e g=>?_,?_,?_,_,upd_same,?_⟩
     ·have ec:c≠pl:=fun z=>by rw [z,npH] at e;cases e
      rw [upd_ne ec]
      exact s9 _ _ (s7 _ _ e g)
     ·rw [upd_ne (Ne.symm ntp)]
      exact s9 _ _ ht5
     ·rw [upd_ne nup]
      exact s9 _ _ hlu5
     ·rw [tlAll_succ,List.map_append]
      have km:∀ (c:Addr) (xs:List V),upd H6 b (.lst ys) c=some (.tup xs)→upd (upd H6 b (.lst ys)) pl (.lst (zs++ys)) c=some (.tup xs):=fun c xs e=>by
       have:c≠pl:=ne_of e (s9 _ _ hz) (by intro z;cases z)
       rw [upd_ne this]
       exact e
      refine IsAll.append ((iz.same s9).tmono km (noLs_pr _)) ((iy.same (Same.upd hb)).tmono km (noLs_pr _))
   ·rintro σ H5 ⟨⟨v9,rfl⟩,s7,ht5,hlu5,zs,hz,iz⟩
    have st1:1≤1 + r1:=by lia
    have hpw:=all_up (1 + r1) line line.length
    walk_at "rd"
    refine ⟨pl,zs,[],(toldL (1 + r1) line).map fun p=>[p.1,p.2],2,rfl,.inl (SqL.of hz),by rw [told_nss];exact iz,?_,by decide,?_,by rw [List.length_map];exact told_len st1 n1 n8,fun l2 vs' nss' hl2 hall hperm hpw'=>?_⟩
    ·intro ns hm
     obtain ⟨p,_,rfl⟩:=List.mem_map.mp hm
     rfl
    ·rw [List.nodup_iff_pairwise_ne,List.pairwise_map]
     refine hpw.imp fun {p q} h e=>?_
     have h':HT.lexLt [p.1,p.2] [q.1,q.2]=true:=h
     rw [e,lex_irr] at h'
     cases h'
    have en:nss'=(toldL (1 + r1) line).map fun p=>[p.1,p.2]:=by
     refine sorted_one (lt:=fun a b=>HT.lexLt a b=true) (fun x y h1 h2=>?_) hperm hpw' ?_
     ·rw [lex_asym h1] at h2
      cases h2
     ·rw [List.pairwise_map]
      exact hpw
    rw [en,told_nss] at hall
    have s8:=Same.upd (o:=.lst vs') hl2
    have hvl:upd H5 l2 (.lst vs') l2=some (.lst vs'):=upd_same
    walk_at "rd"
    intro p hp
    have s9:=s8.trans (Same.upd (o:=.tup vs') hp)
    walk_at "rd"
    refine ⟨by show 2≤sizeLine;decide,fun o ho=>?_⟩
    have s10:=s9.trans (Same.upd (o:=.tup [V.int line.length,V.ref p]) ho)
    refine q _ _ (1 + r1) line ts4 (s7.trans s10.t) (s10 _ _ ht5) (by lia) (by lia) (by lia) (by lia) (by lia) n1 n8 hlv ?_
    have npo:p≠o:=ne_of_none upd_same ho
    exact .tup upd_same (.cons (.int _) (.cons (.tup (by rw [upd_ne npo,upd_same]) (hall.same s10)) .nil))
end
end My
namespace My
open PySem L2
section
variable {s0:Int} {line:List Int}
end
end My
namespace My
open PySem L2
section
variable {P:Program} {w:World} {K:PySem.W.Frag} {mg:Str→Option Value} {base:Heap} {t:Ad}
theorem if_pick {b:Bool} {i:Nat} {v u:V} {σ:St} {H:Hp} {Q:VK} (e:σ[i]? =some (some v)) (h:Q (if b=true then v else u) H):if b=true then tVar i σ H Q else tC u σ H Q:=by
 cases b with
 | true=>exact ⟨v,e,h⟩
 | false=>exact h
theorem rot_ne {n a b:Int} (a0:0≤a) (a1:a < n) (b0:0≤b) (b1:b < n - 1):0≤(a + 1 + b) % n∧(a + 1 + b) % n < n∧a≠(a + 1 + b) % n:=by
 refine ⟨Int.emod_nonneg _ (by lia),Int.emod_lt_of_pos _ (by lia),?_⟩
 by_cases h:a + 1 + b < n
 ·rw [Int.emod_eq_of_lt (by lia) h]
  lia
 ·have e:a + 1 + b=(a + 1 + b - n) + n * 1:=by lia
  rw [e,Int.add_mul_emod_self_left,Int.emod_eq_of_lt (by lia) (by lia)]
  lia
noncomputable def outP (q:Int×Int) (ps:List (Int×Int)):List (Int×Int):=ps.filter fun p=> !decide (p=q)
theorem outP_snoc (q p:Int×Int) (ps:List (Int×Int)):outP q (ps++[p])=outP q ps++(if (!decide (p=q))=true then [p] else []):=by
 unfold outP
 rw [List.filter_append,filter_one]
theorem outP_len (q:Int×Int) (ps:List (Int×Int)):(outP q ps).length≤ps.length:=List.length_filter_le _ _
theorem mem_outP {q p:Int×Int} {ps:List (Int×Int)}:p∈outP q ps↔p∈ps∧p≠q:=by
 unfold outP
 rw [List.mem_filter]
 simp
theorem outP_nd {q:Int×Int} {ps:List (Int×Int)} (h:ps.Nodup):(outP q ps).Nodup:=List.Pairwise.filter _ h
theorem nd_snoc {q:Int×Int} {ps:List (Int×Int)} (h:ps.Nodup) (hq:q∉ps):(ps++[q]).Nodup:=by
 unfold List.Nodup
 rw [List.pairwise_append]
 refine ⟨h,List.pairwise_singleton _ _,fun a ha b hb z=>?_⟩
 rcases List.mem_singleton.mp hb with rfl
 exact hq (z▸ha)
theorem pr_get {H:Hp} {ys:List V} {ps:List (Int×Int)} {i:Nat} {x:V} (h:IsAll H ys (ps.map prD)) (e:ys[i]? =some x):∃ p,ps[i]? =some p∧Is H x (prD p):=by
 obtain ⟨d,ed,id⟩:=h.get' e
 rw [List.getElem?_map] at ed
 cases hpi:ps[i]? with
 | none=>rw [hpi] at ed;cases ed
 | some p=>rw [hpi] at ed;cases ed;exact ⟨p,rfl,id⟩
noncomputable def sp_any (K:PySem.W.Frag):Sp:=fun vs H Q _=>∃ a ns tw ts lo hi,vs=[.ref a,.ref tw,.int lo,.int hi]∧1≤lo∧lo≤hi∧hi≤8∧Scr K H a ns∧H tw=some (.lst ts)∧ts.length≤60∧
 ∀ x H' n ps ts',SameT tw H H'→H' tw=some (.lst ts')→ts'.length≤ts.length + 30→lo≤(n:Nat)→(n:Int)≤hi→Is H' x (ordD n ps)→Ord n ps→Q x H'
theorem ok__law_any (T:Txt K mg t):FnOk P w K mg base CX0 6 t.a__law_any t.d__law_any ["_law_script","_law_town","_law_low","_law_most"] (sp_any K):=by
 refine T.F__law_any.ok sc__law_any (fun vs H Q E h=>?_) (fun cdv A outer s H vs Q E hr h=>?_)
 ·obtain ⟨a,ns,tw,ts,lo,hi,rfl,_⟩:=h
  rfl
 ·obtain ⟨a,ns,tw,ts,lo,hi,rfl,lo1,lohi,hi8,hs,ht,hl,q⟩:=h
  refine ⟨_,(pss_cons (ps_set (i:=4) sc__law_any.nd rfl (Or.inl rfl) (pe_call (ok__law_draw T) (hr.mono (by decide)) rfl T.m__law_draw T.F__law_draw.kp T.b__law_draw .nil pass0 (pa_cons (pv 0) (pa_cons (pv 1) (pa_cons pe_int pa_nil)))))
   (pss_cons (ps_asg (pe_call (ok__law_free T) (hr.mono (by decide)) rfl T.m__law_free T.F__law_free.kp T.b__law_free .nil pass0 (pa_cons (pv 0) (pa_cons (pv 1) (pa_cons (pv 2) (pa_cons (pv 3) pa_nil))))) (k_gtup K rfl (pgs_cons (pg_name (i:=5) sc__law_any.nd rfl (Or.inl rfl)) (pgs_cons (pg_name (i:=6) sc__law_any.nd rfl (Or.inl rfl)) pgs_nil))))
   (pss_cons (ps_for PassesOwn.never rfl (pi_range1 rfl T.n_range (pa_cons (pe_ifExp (pt_cmpR (op_gt) (pv 5) pe_int (nomark _)) (pv 4) pe_int) pa_nil)) (pg_name (i:=7) sc__law_any.nd rfl (Or.inl rfl)) (pss_cons (ps_set (i:=8) sc__law_any.nd rfl (Or.inr rfl) (pe_call (ok__law_draw T) (hr.mono (by decide)) rfl T.m__law_draw T.F__law_draw.kp T.b__law_draw .nil pass0 (pa_cons (pv 0) (pa_cons (pv 1) (pa_cons (pv 5) pa_nil)))))
   (pss_cons (ps_set (i:=9) sc__law_any.nd rfl (Or.inr rfl) (pe_op op_mod (pe_op op_add (pe_op op_add (pv 8) pe_int) (pe_call (ok__law_draw T) (hr.mono (by decide)) rfl T.m__law_draw T.F__law_draw.kp T.b__law_draw .nil pass0 (pa_cons (pv 0) (pa_cons (pv 1) (pa_cons (pe_op op_sub (pv 5) pe_int) pa_nil))))) (pv 5)))
   (pss_cons (ps_set (i:=10) sc__law_any.nd rfl (Or.inl rfl) (pe_call (ok__law_draw T) (hr.mono (by decide)) rfl T.m__law_draw T.F__law_draw.kp T.b__law_draw .nil pass0 (pa_cons (pv 0) (pa_cons (pv 1) (pa_cons pe_int pa_nil)))))
   (pss_cons (ps_set (i:=6) sc__law_any.nd rfl (Or.inl rfl) (pe_callTy (k_tuple K) (by rfl) T.n_tuple bt_tuple (pa_cons (pe_lc rfl ⟨True.intro,True.intro,(.inl rfl),(.inl rfl),True.intro⟩ (M:=["_law_pair","_law_one","_law_other"]) (.own (.free 8 rfl rfl (.free 9 rfl rfl .nil))) (gk_name rfl) rfl (by decide +kernel) (k_ptup K (pv 6)) (fun C fp s1 H1=>⟨pg_name (i:=0) (show (["_law_pair","_law_one","_law_other"]:List Str).Nodup by decide +kernel) rfl (Or.inl rfl),pif_one (pt_cmpR (op_neD hr.units) (pv 0) (pe_tup (pa_cons (pv 1) (pa_cons (pv 2) pa_nil))) (nomark _)),(pv 0)⟩)) pa_nil)))
   (pss_cons (ps_if (pt_cmpR (op_gt) (pv 10) pe_int (nomark _)) (pss_one (ps_set (i:=6) sc__law_any.nd rfl (Or.inl rfl) (pe_op op_catU (pv 6) (pe_tup (pa_cons (pe_tup (pa_cons (pv 8) (pa_cons (pv 9) pa_nil))) pa_nil))))) pss_nil)
   (pss_one (ps_if (pt_cmpR (op_eqD hr.units) (pv 10) pe_int (nomark _)) (pss_one (ps_set (i:=6) sc__law_any.nd rfl (Or.inl rfl) (pe_callTy (k_tuple K) (by rfl) T.n_tuple bt_tuple (pa_cons (pe_lc rfl ⟨True.intro,True.intro,(.inl rfl),(.inl rfl),True.intro⟩ (M:=["_law_pair","_law_one","_law_other"]) (.own (.free 8 rfl rfl (.free 9 rfl rfl .nil))) (gk_name rfl) rfl (by decide +kernel) (k_ptup K (pv 6)) (fun C fp s1 H1=>⟨pg_name (i:=0) (show (["_law_pair","_law_one","_law_other"]:List Str).Nodup by decide +kernel) rfl (Or.inl rfl),pif_one (pt_cmpR (op_neD hr.units) (pv 0) (pe_tup (pa_cons (pv 2) (pa_cons (pv 1) pa_nil))) (nomark _)),(pv 0)⟩)) pa_nil)))) pss_nil))))))))
   (pss_one (ps_ret (pe_tup (pa_cons (pv 5) (pa_cons (pe_callTy (k_tuple K) (by rfl) T.n_tuple bt_tuple (pa_cons (pe_callB (k_sorted K) (by rfl) T.n_sorted bt_sorted (pa_cons (pv 6) pa_nil)) pa_nil)) pa_nil)))))))),?_⟩
  walk_at "rd"
  refine ⟨a,ns,tw,ts,4,rfl,hs,ht,by lia,by decide,fun r1 H1 ts1 s1 ht1 hl1 r10 r11=>?_⟩
  walk_at "rd"
  refine ⟨a,ns,tw,ts1,lo,hi,rfl,lo1,lohi,hi8,hs.t ht s1,ht1,by lia,fun x H2 st line ts2 s2 ht2 hl2 st1 st5 nlo nhi n1 n8 hlv hx=>?_⟩
  have ho:=told_ord st1 n1 n8
  generalize toldL st line=ps0 at ho hx
  generalize line.length=n at ho hx nlo nhi n1 n8
  have s12:=s1.trans s2
  obtain ⟨oa,ob,xs,rfl,ea,eb,hxs⟩:=is_ord hx
  refine rd_gtup ea rfl ?_
  walk_at "rd"
  refine if_pick rfl ?_
  obtain ⟨c,hc,c3,cn⟩:∃ c:Nat,(if decide ((n:Int) > 1)=true then V.int r1 else V.int 0)=V.int (c:Nat)∧c≤3∧(0 < c→1 < n):=by
   by_cases g:(n:Int) > 1
   ·refine ⟨r1.toNat,?_,by lia,fun _=>by lia⟩
    rw [if_pos (decide_eq_true g),Int.toNat_of_nonneg r10]
   ·refine ⟨0,?_,by lia,fun z=>absurd z (Nat.lt_irrefl _)⟩
    rw [if_neg (by rw [decide_eq_false g];exact Bool.false_ne_true)]
    rfl
  rw [hc]
  walk_at "rd"
  refine ⟨_,rfl,by lia,by lia,?_⟩
  rw [Int.toNat_natCast]
  refine fp_range (fun i σ H'=>∃ u v7 v8 v9 v10 ps',σ=[some (.ref a),some (.ref tw),some (.int lo),some (.int hi),some (.int r1),some (.int n),some (.ref u),v7,v8,v9,v10]∧SameT tw H H'∧(∃ ts',H' tw=some (.lst ts')∧ts'.length≤ts.length + 12 + 3 * i)∧
   Is H' (.ref u) (.tuple (ps'.map prD))∧ps'.Nodup∧∀ p∈ps',inN n p) ⟨ob,_,_,_,_,ps0,rfl,s12,⟨ts2,ht2,by lia⟩,.tup eb hxs,nd_of (pw_of ho.up),ho.ix⟩ ?_ ?_
  ·rintro i σ H3 hi' ⟨u,v7,v8,v9,v10,ps,rfl,s3,⟨ts3,ht3,hl3⟩,iu,nd,hin⟩
   have hn:=cn (by lia)
   have sml:=small_prs nd fun p hp=>(hin p hp).box n8
   walk_at "rd"
   refine ⟨a,ns,tw,ts3,n,rfl,hs.t ht s3,ht3,by lia,by lia,fun r2 H4 ts4 s4 ht4 hl4 r20 r21=>?_⟩
   have s34:=s3.trans s4
   walk_at "rd"
   refine ⟨a,ns,tw,ts4,(n:Int) - 1,rfl,hs.t ht s34,ht4,by lia,by lia,fun r3 H5 ts5 s5 ht5 hl5 r30 r31=>?_⟩
   have s35:=s34.trans s5
   walk_at "rd"
   refine rd_I (by lia) ?_
   obtain ⟨w0,w1,w2⟩:=rot_ne r20 r21 r30 r31
   generalize (r2 + 1 + r3) % (n:Int)=r4 at w0 w1 w2
   walk_at "rd"
   refine ⟨a,ns,tw,ts5,3,rfl,hs.t ht s35,ht5,by lia,by lia,fun r5 H6 ts6 s6 ht6 hl6 r50 r51=>?_⟩
   have s36:=s35.trans s6
   have iu6:Is H6 (.ref u) (.tuple (ps.map prD)):=by
    have e:∀ (H H':Hp) ts,H tw=some (.lst ts)→SameT tw H H'→Is H (.ref u) (.tuple (ps.map prD))→Is H' (.ref u) (.tuple (ps.map prD)):=fun H H' ts h1 h2 h3=>
     h3.tmono (fun c xs e=>h2 _ _ e (ne_of e h1 (by intro z;cases z))) (by rw [noL];exact noLs_pr ps)
    exact e H5 H6 _ ht5 s6 (e H4 H5 _ ht4 s5 (e H3 H4 _ ht3 s4 iu))
   cases iu6 with
   | @tup _ ys _ eu hys=>
   have hly:ys.length=ps.length:=by rw [hys.length,List.length_map]
   walk_at "rd"
   refine ⟨u,rfl,⟨ys,SqT.of eu⟩,?_⟩
   refine lp_tup (K:=K) (xs:=ys) (small_ln (by lia)) (fun j zs H'=>Same H6 H'∧IsAll H' zs ((outP (r2,r4) (ps.take j)).map prD)) ⟨Same.refl _,.nil⟩ (by
    rintro j zs H' ⟨_,h⟩
    rw [h.length,List.length_map]
    have:=outP_len (r2,r4) (ps.take j)
    rw [List.length_take] at this
    lia) (fun j zs H' _ h=>SqT.of (h.1 _ _ eu)) ?_ ?_
   ·rintro j x zs H7 hx ⟨s7,iz⟩
    obtain ⟨p0,hp0,ip0⟩:=pr_get (hys.same s7) hx
    rw [List.take_add_one,hp0,show (some p0).toList=[p0] from rfl,outP_snoc,List.map_append]
    walk_at "rd"
    refine ⟨two_ln,fun p hp=>?_⟩
    have s8:=Same.upd (o:=.tup [V.int r2,V.int r4]) hp
    refine rd_eqD (d:=prD p0) (e:=prD (r2,r4)) (ip0.same s8) (.tup upd_same (.cons (.int _) (.cons (.int _) .nil))) (ok_pr _) (ok_pr _) ?_
    rw [eqv_pr]
    walk_at "rd"
    refine ifB (fun g=>?_) (fun g=>?_)
    ·walk_at "rd"
     have g':(!decide (p0=(r2,r4)))=true:=g
     rw [if_pos g']
     exact ⟨s7.trans s8,(iz.same s8).append (.cons (ip0.same s8) .nil)⟩
    ·have g':(!decide (p0=(r2,r4)))=false:=g
     rw [if_neg (by rw [g'];exact Bool.false_ne_true),List.map_nil,List.append_nil]
     exact ⟨s7.trans s8,iz.same s8⟩
   ·rintro zs H7 ⟨s7,iz⟩ lp hlp
    rw [hly,List.take_length] at iz
    have elp:upd H7 lp (.lst zs) lp=some (.lst zs):=upd_same
    have s8:=s7.trans (Same.upd (o:=.lst zs) hlp)
    walk_at "rd"
    intro tp htp
    have s9:=s8.trans (Same.upd (o:=.tup zs) htp)
    have etp:upd (upd H7 lp (.lst zs)) tp (.tup zs) tp=some (.tup zs):=upd_same
    have iz9:=(iz.same (Same.upd (o:=.lst zs) hlp)).same (Same.upd (o:=.tup zs) htp)
    have nd1:=outP_nd (q:=(r2,r4)) nd
    have nin:(r2,r4)∉outP (r2,r4) ps:=fun z=>(mem_outP.mp z).2 rfl
    have in1:∀ p∈outP (r2,r4) ps,inN n p:=fun p hp=>hin p (mem_outP.mp hp).1
    have len1:=outP_len (r2,r4) ps
    have lz:zs.length=(outP (r2,r4) ps).length:=by rw [iz.length,List.length_map]
    generalize outP (r2,r4) ps=ps1 at nd1 nin in1 len1 lz iz9
    generalize upd (upd H7 lp (.lst zs)) tp (.tup zs)=H9 at s9 etp iz9
    walk_at "rd"
    refine ifB (fun g=>?_) (fun g=>?_)
    ·walk_at "rd"
     refine ⟨two_ln,fun p hp=>?_⟩
     have s10:=Same.upd (o:=.tup [V.int r2,V.int r4]) hp
     have ep:upd H9 p (.tup [V.int r2,V.int r4]) p=some (.tup [V.int r2,V.int r4]):=upd_same
     walk_at "rd"
     refine ⟨by show 1≤sizeLine;decide,fun p2 hp2=>?_⟩
     have s11:=s10.trans (Same.upd (o:=.tup [V.ref p]) hp2)
     have ep2:=(Same.upd (o:=.tup [V.ref p]) hp2) _ _ ep
     have ep3:upd (upd H9 p (.tup [V.int r2,V.int r4])) p2 (.tup [V.ref p]) p2=some (.tup [V.ref p]):=upd_same
     generalize upd (upd H9 p (.tup [V.int r2,V.int r4])) p2 (.tup [V.ref p])=H11 at s11 ep2 ep3
     refine rd_catU (s11 _ _ etp) ep3 (small_ln (by rw [List.length_singleton];lia)) fun u2 H12 s12' eu2=>?_
     have iu2:IsAll H12 (zs++[V.ref p]) ((ps1++[(r2,r4)]).map prD):=by
      rw [List.map_append]
      exact ((iz9.same s11).same s12').append (.cons (.tup (s12' _ _ ep2) (.cons (.int _) (.cons (.int _) .nil))) .nil)
     have nd2:=nd_snoc nd1 nin
     have in2:∀ p∈ps1++[(r2,r4)],inN n p:=fun p hp=>by
      rcases List.mem_append.mp hp with h | h
      ·exact in1 p h
      ·rcases List.mem_singleton.mp h with rfl
       exact ⟨r20,r21,w0,w1,w2⟩
     have s612:Same H6 H12:=(s9.trans s11).trans s12'
     have sT:SameT tw H H12:=s36.trans s612.t
     have hl2':(zs++[V.ref p]).length=(ps1++[(r2,r4)]).length:=by rw [iu2.length,List.length_map]
     have len2:(ps1++[(r2,r4)]).length≤100:=by rw [List.length_append,List.length_singleton];lia
     generalize ps1++[(r2,r4)]=ps2 at iu2 nd2 in2 hl2' len2
     generalize zs++[V.ref p]=ys2 at iu2 eu2 hl2'
     walk_at "rd"
     refine ifB (fun g2=>?_) (fun g2=>?_)
     ·walk_at "rd"
      refine ⟨u2,rfl,⟨ys2,SqT.of eu2⟩,?_⟩
      refine lp_tup (K:=K) (xs:=ys2) (small_ln (by lia)) (fun j zs H'=>Same H12 H'∧IsAll H' zs ((outP (r4,r2) (ps2.take j)).map prD)) ⟨Same.refl _,.nil⟩ (by
       rintro j zs H' ⟨_,h⟩
       rw [h.length,List.length_map]
       have:=outP_len (r4,r2) (ps2.take j)
       rw [List.length_take] at this
       lia) (fun j zs H' _ h=>SqT.of (h.1 _ _ eu2)) ?_ ?_
      ·rintro j x zs H13 hx ⟨s13,iz⟩
       obtain ⟨p0,hp0,ip0⟩:=pr_get (iu2.same s13) hx
       rw [List.take_add_one,hp0,show (some p0).toList=[p0] from rfl,outP_snoc,List.map_append]
       walk_at "rd"
       refine ⟨two_ln,fun p hp=>?_⟩
       have s8:=Same.upd (o:=.tup [V.int r4,V.int r2]) hp
       refine rd_eqD (d:=prD p0) (e:=prD (r4,r2)) (ip0.same s8) (.tup upd_same (.cons (.int _) (.cons (.int _) .nil))) (ok_pr _) (ok_pr _) ?_
       rw [eqv_pr]
       walk_at "rd"
       refine ifB (fun g=>?_) (fun g=>?_)
       ·walk_at "rd"
        have g':(!decide (p0=(r4,r2)))=true:=g
        rw [if_pos g']
        exact ⟨s13.trans s8,(iz.same s8).append (.cons (ip0.same s8) .nil)⟩
       ·have g':(!decide (p0=(r4,r2)))=false:=g
        rw [if_neg (by rw [g'];exact Bool.false_ne_true),List.map_nil,List.append_nil]
        exact ⟨s13.trans s8,iz.same s8⟩
      ·rintro zs3 H13 ⟨s13,iz3⟩ lp3 hlp3
       rw [hl2',List.take_length] at iz3
       have elp3:upd H13 lp3 (.lst zs3) lp3=some (.lst zs3):=upd_same
       walk_at "rd"
       intro tp3 htp3
       walk_at "rd"
       have sA:=Same.upd (o:=.lst zs3) hlp3
       have sB:=Same.upd (o:=.tup zs3) htp3
       refine ⟨tp3,_,_,_,_,outP (r4,r2) ps2,rfl,((sT.trans s13.t).trans sA.t).trans sB.t,⟨ts6,sB _ _ (sA _ _ (s13 _ _ (s612 _ _ ht6))),by lia⟩,.tup upd_same ((iz3.same sA).same sB),outP_nd nd2,fun p hp=>in2 p (mem_outP.mp hp).1⟩
     ·walk_at "rd"
      refine ⟨u2,_,_,_,_,ps2,rfl,sT,⟨ts6,s612 _ _ ht6,by lia⟩,.tup eu2 iu2,nd2,in2⟩
    ·have g':=of_decide_eq_false g
     have r5z:r5=0:=by lia
     subst r5z
     walk_at "rd"
     refine ⟨tp,_,_,_,_,ps1,rfl,s36.trans s9.t,⟨ts6,s9 _ _ ht6,by lia⟩,.tup etp iz9,nd1,in1⟩
  ·rintro σ H3 ⟨u,v7,v8,v9,v10,ps,rfl,s3,⟨ts3,ht3,hl3⟩,iu,nd,hin⟩
   cases iu with
   | @tup _ ys _ eu hys=>
   walk_at "rd"
   refine rd_sortP (.inr eu) hys nd (fun p hp=>(hin p hp).box n8) fun l vs' qs hl' ha hperm hpw=>?_
   have s4:=Same.upd (o:=.lst vs') hl'
   have ev:upd H3 l (.lst vs') l=some (.lst vs'):=upd_same
   walk_at "rd"
   intro tp htp
   have s5:=Same.upd (o:=.tup vs') htp
   walk_at "rd"
   refine ⟨by show 2≤sizeLine;decide,fun o ho'=>?_⟩
   have nto:tp≠o:=ne_of_none upd_same ho'
   have s6:=Same.upd (o:=.tup [V.int n,V.ref tp]) ho'
   have sA:=(s4.trans s5).trans s6
   refine q _ _ n qs ts3 (s3.trans sA.t) (sA _ _ ht3) (by lia) nlo nhi ?_ (ord_of n1 n8 (fun p hp=>hin p (hperm.mem_iff.mp hp)) hpw)
   exact .tup upd_same (.cons (.int _) (.cons (.tup (by rw [upd_ne nto,upd_same]) (((ha.same s4).same s5).same s6)) .nil))
end
end My
namespace My
open PySem L2
theorem int_get {S:List Int} {i:Nat} {x:V} (h:(S.map V.int)[i]? =some x):∃ t,S[i]? =some t∧x=.int t:=by
 rw [List.getElem?_map] at h
 cases e:S[i]? with
 | none=>rw [e] at h;cases h
 | some t=>rw [e] at h;cases h;exact ⟨t,rfl,rfl⟩
end My
namespace My
open PySem L2
noncomputable def bad3 (n:Nat) (ps:List (Int×Int)) (a d:Int):List Int:=((L2.upTo n).filter fun x=> !has ps a x).filter fun x=> !has ps x d
noncomputable def badP (n:Nat) (ps:List (Int×Int)) (p q:Int×Int):Bool:=(!has ps p.1 q.2&& !has ps q.1 p.2)||(decide (p.2=q.1)&& !decide (bad3 n ps p.1 q.2=[]))
theorem upTo_mem {n:Nat} {x:Int}:x∈L2.upTo n↔0≤x∧x < (n:Int):=by
 unfold L2.upTo
 rw [List.mem_map]
 constructor
 ·rintro ⟨k,hk,rfl⟩
  have:=List.mem_range.mp hk
  lia
 ·rintro ⟨h1,h2⟩
  exact ⟨x.toNat,List.mem_range.mpr (by lia),by lia⟩
theorem bad_bar {n:Nat} {ps:List (Int×Int)} (ho:Ord n ps):(ps.any fun p=>ps.any fun q=>badP n ps p q)=barB n ps:=by
 rw [Bool.eq_iff_iff]
 unfold barB bar2L bar3L
 rw [Bool.or_eq_true]
 constructor
 ·intro h
  obtain ⟨p,hp,h⟩:=List.any_eq_true.mp h
  obtain ⟨q,hq,h⟩:=List.any_eq_true.mp h
  have hp1:has ps p.1 p.2=true:=has_iff.mpr hp
  have hq1:has ps q.1 q.2=true:=has_iff.mpr hq
  unfold badP at h
  rcases Bool.or_eq_true _ _ |>.mp h with h | h
  ·refine .inl (List.any_eq_true.mpr ⟨p,hp,List.any_eq_true.mpr ⟨q,hq,?_⟩⟩)
   unfold bar2B
   rw [hp1,hq1,h]
   rfl
  ·obtain ⟨h1,h2⟩:=Bool.and_eq_true _ _ |>.mp h
   have e1:p.2=q.1:=of_decide_eq_true h1
   have h2':bad3 n ps p.1 q.2≠[]:=by simpa using h2
   obtain ⟨x,hx⟩:=List.exists_mem_of_ne_nil _ h2'
   unfold bad3 at hx
   rw [List.mem_filter,List.mem_filter,upTo_mem] at hx
   obtain ⟨⟨⟨x0,x1⟩,h3⟩,h4⟩:=hx
   obtain ⟨_,_,i3,i4,_⟩:=ho.ix q hq
   refine .inr (List.any_eq_true.mpr ⟨p,hp,List.any_eq_true.mpr ⟨q.2.toNat,List.mem_range.mpr (by lia),List.any_eq_true.mpr ⟨x.toNat,List.mem_range.mpr (by lia),?_⟩⟩⟩)
   unfold bar3B
   rw [Int.toNat_of_nonneg i3,Int.toNat_of_nonneg x0,hp1,e1,hq1,h3,h4]
   rfl
 ·rintro (h | h)
  ·obtain ⟨p,hp,h⟩:=List.any_eq_true.mp h
   obtain ⟨q,hq,h⟩:=List.any_eq_true.mp h
   refine List.any_eq_true.mpr ⟨p,hp,List.any_eq_true.mpr ⟨q,hq,?_⟩⟩
   unfold bar2B at h
   unfold badP
   rw [(Bool.and_eq_true _ _ |>.mp h).2]
   rfl
  ·obtain ⟨p,hp,h⟩:=List.any_eq_true.mp h
   obtain ⟨c,hc,h⟩:=List.any_eq_true.mp h
   obtain ⟨d,hd,h⟩:=List.any_eq_true.mp h
   have hc:=List.mem_range.mp hc
   have hd:=List.mem_range.mp hd
   unfold bar3B at h
   obtain ⟨h12,h34⟩:=Bool.and_eq_true _ _ |>.mp h
   obtain ⟨h1,h2⟩:=Bool.and_eq_true _ _ |>.mp h12
   obtain ⟨h3,h4⟩:=Bool.and_eq_true _ _ |>.mp h34
   refine List.any_eq_true.mpr ⟨p,hp,List.any_eq_true.mpr ⟨(p.2,(c:Int)),has_iff.mp h2,?_⟩⟩
   unfold badP
   have:bad3 n ps p.1 (c:Int)≠[]:=by
    refine List.ne_nil_of_mem (a:=(d:Int)) ?_
    unfold bad3
    rw [List.mem_filter,List.mem_filter,upTo_mem]
    exact ⟨⟨⟨by lia,by lia⟩,h3⟩,h4⟩
   simp [this]
theorem any_next {α:Type} {f:α→Bool} {l:List α} {i:Nat} {a:α} (h:(l.take i).any f=false) (e:l[i]? =some a) (g:f a=false):(l.take (i + 1)).any f=false:=by
 rw [List.take_add_one,e,List.any_append,h]
 simp [g]
theorem any_found {α:Type} {f:α→Bool} {l:List α} {i:Nat} {a:α} (e:l[i]? =some a) (g:f a=true):l.any f=true:=List.any_eq_true.mpr ⟨a,List.mem_of_getElem? e,g⟩
theorem seq_rest {ta tb:TS} {D:Ends} {σ:St} {H:Hp} (C:St→Hp→Prop) (rest:∀ σ' H',C σ' H'→tb D σ' H') (h:∀ D':Ends,D'.rt=D.rt→(∀ σ' H',C σ' H'→D'.nx σ' H')→ta D' σ H):tSeq ta tb D σ H:=h { D with nx:=tb D } rfl rest
section
variable {P:Program} {w:World} {K:PySem.W.Frag} {mg:Str→Option Value} {base:Heap} {t:Ad}
noncomputable def sp_lw_barred:Sp:=fun vs H Q _=>∃ x n ps,vs=[x]∧Is H x (ordD n ps)∧Ord n ps∧∀ H',Same H H'→Q (.bl (barB n ps)) H'
theorem ok__law_barred (T:Txt K mg t):FnOk P w K mg base CX0 1 t.a__law_barred t.d__law_barred ["_law_order"] sp_lw_barred:=by
 refine T.F__law_barred.ok sc__law_barred (fun vs H Q E h=>?_) (fun cdv A outer s H vs Q E hr h=>?_)
 ·obtain ⟨x,n,ps,rfl,_⟩:=h
  rfl
 ·obtain ⟨x,n,ps,rfl,hx,ho,q⟩:=h
  refine ⟨_,(pss_cons (ps_asg (pv 0) (k_gtup K rfl (pgs_cons (pg_name (i:=1) sc__law_barred.nd rfl (Or.inl rfl)) (pgs_cons (pg_name (i:=2) sc__law_barred.nd rfl (Or.inr rfl)) pgs_nil))))
   (pss_cons (ps_for PassesOwn.never rfl (k_ptup K (pv 2)) (k_gtup K rfl (pgs_cons (pg_name (i:=3) sc__law_barred.nd rfl (Or.inr rfl)) (pgs_cons (pg_name (i:=4) sc__law_barred.nd rfl (Or.inl rfl)) pgs_nil))) (pss_one (ps_for PassesOwn.never rfl (k_ptup K (pv 2)) (k_gtup K rfl (pgs_cons (pg_name (i:=5) sc__law_barred.nd rfl (Or.inl rfl)) (pgs_cons (pg_name (i:=6) sc__law_barred.nd rfl (Or.inr rfl)) pgs_nil))) (pss_cons (ps_if (PW.pt (pw_and (pt_cmpR (op_notInD hr.units) (pe_tup (pa_cons (pv 3) (pa_cons (pv 6) pa_nil))) (pv 2) (by rfl)) (pw_and1 (pt_cmpR (op_notInD hr.units) (pe_tup (pa_cons (pv 5) (pa_cons (pv 4) pa_nil))) (pv 2) (by rfl))))) (pss_one (ps_ret pe_bl)) pss_nil)
   (pss_cons (ps_set_lc (i:=7) sc__law_barred.nd rfl rfl rfl rfl ⟨True.intro,True.intro,(.inl rfl),(.inl rfl),True.intro⟩ (M:=["_law_x","_law_a","_law_pairs"]) (.own (.free 3 rfl rfl (.free 2 rfl rfl .nil))) (gk_name rfl) rfl (by decide +kernel) (pi_range1 rfl T.n_range (pa_cons (pv 1) pa_nil)) (fun C fp s1 H1=>⟨pg_name (i:=0) (show (["_law_x","_law_a","_law_pairs"]:List Str).Nodup by decide +kernel) rfl (Or.inl rfl),pif_one (pt_cmpR (op_notInD hr.units) (pe_tup (pa_cons (pv 1) (pa_cons (pv 0) pa_nil))) (pv 2) (by rfl)),(pv 0)⟩))
   (pss_one (ps_if (PW.pt (pw_and (pt_cmpR (op_eqD hr.units) (pv 4) (pv 5) (nomark _)) (pw_and1 (pt_cmpR (op_neD hr.units) (pe_lc rfl ⟨True.intro,True.intro,(.inl rfl),(.inl rfl),True.intro⟩ (M:=["_law_x","_law_d","_law_pairs"]) (.own (.free 6 rfl rfl (.free 2 rfl rfl .nil))) (gk_name rfl) rfl (by decide +kernel) (k_plst K (pv 7)) (fun C fp s1 H1=>⟨pg_name (i:=0) (show (["_law_x","_law_d","_law_pairs"]:List Str).Nodup by decide +kernel) rfl (Or.inl rfl),pif_one (pt_cmpR (op_notInD hr.units) (pe_tup (pa_cons (pv 0) (pa_cons (pv 1) pa_nil))) (pv 2) (by rfl)),(pv 0)⟩)) (pe_lst pa_nil) (nomark _))))) (pss_one (ps_ret pe_bl)) pss_nil)))))))
   (pss_one (ps_ret pe_bl)))),?_⟩
  obtain ⟨oa,ob,xs,rfl,ea,e,hxs⟩:=is_ord hx
  have hl:xs.length=ps.length:=by rw [hxs.length,List.length_map]
  have n8:=ho.hi
  rw [←bad_bar ho] at q
  walk_at "rd"
  refine rd_gtup ea rfl ?_
  walk_at "rd"
  refine ⟨ob,rfl,⟨xs,SqT.of e⟩,?_⟩
  refine fp_tup (K:=K) (xs:=xs) (fun i σ H'=>(∃ va vb vc vd ve,σ=[some (.ref oa),some (.int (n:Int)),some (.ref ob),va,vb,vc,vd,ve])∧Same H H'∧(ps.take i).any (fun p=>ps.any fun q=>badP n ps p q)=false) ⟨⟨_,_,_,_,_,rfl⟩,Same.refl H,rfl⟩ (fun i σ H' _ h=>SqT.of (h.2.1 _ _ e)) ?_ ?_
  ·rintro i x σ H1 hx ⟨⟨va,vb,vc,vd,ve,rfl⟩,s1,n1⟩
   obtain ⟨p,ep,ip⟩:=(hxs.same s1).get' hx
   rw [List.getElem?_map] at ep
   cases hpi:ps[i]? with
   | none=>rw [hpi] at ep;cases ep
   | some p0=>
   rw [hpi] at ep
   cases ep
   unfold prD at ip
   cases ip with
   | @tup r ys _ er hys=>
   obtain rfl:=two_ints hys
   walk_at "rd"
   refine rd_gtup er rfl ?_
   walk_at "rd"
   refine ⟨ob,rfl,⟨xs,SqT.of (s1 _ _ e)⟩,?_⟩
   refine fp_tup (K:=K) (xs:=xs) (fun j σ H'=>(∃ vc vd ve,σ=[some (.ref oa),some (.int (n:Int)),some (.ref ob),some (.int p0.1),some (.int p0.2),vc,vd,ve])∧Same H H'∧(ps.take j).any (fun q=>badP n ps p0 q)=false) ⟨⟨_,_,_,rfl⟩,s1,rfl⟩ (fun i σ H' _ h=>SqT.of (h.2.1 _ _ e)) ?_ ?_
   ·rintro j y σ H2 hy ⟨⟨vc,vd,ve,rfl⟩,s2,n2⟩
    obtain ⟨q2,eq2,iq2⟩:=(hxs.same s2).get' hy
    rw [List.getElem?_map] at eq2
    cases hqj:ps[j]? with
    | none=>rw [hqj] at eq2;cases eq2
    | some q0=>
    rw [hqj] at eq2
    cases eq2
    unfold prD at iq2
    cases iq2 with
    | @tup r2 ys2 _ er2 hys2=>
    obtain rfl:=two_ints hys2
    have found:badP n ps p0 q0=true→(ps.any fun p=>ps.any fun q=>badP n ps p q)=true:=fun g=>any_found hpi (any_found hqj g)
    have hPs:∀ {H':Hp},Same H H'→Is H' (.ref ob) (.tuple (ps.map prD)):=fun {H'} s'=>.tup (s' _ _ e) (hxs.same s')
    walk_at "rd"
    refine rd_gtup er2 rfl ?_
    (repeat (first | with_reducible refine rd_gcons ?_ | with_reducible refine rd_gname ?_ | with_reducible refine rd_gnil ?_ | dsimp only))
    refine seq_rest (fun σ' H'=>σ'=[some (.ref oa),some (.int (n:Int)),some (.ref ob),some (.int p0.1),some (.int p0.2),some (.int q0.1),some (.int q0.2),ve]∧Same H H'∧(!has ps p0.1 q0.2&& !has ps q0.1 p0.2)=false) ?_ (fun D' hrt rest=>?_)
    ·rintro σ' H3 ⟨rfl,s3,hf⟩
     walk_at "rd"
     refine ⟨_,rfl,by lia,by lia,?_⟩
     rw [Int.toNat_natCast]
     refine lp_range (small_ln (by lia)) (fun i ys H'=>Same H H'∧ys=(((L2.upTo n).take i).filter fun x=> !has ps p0.1 x).map V.int) ⟨s3,rfl⟩ (by
      rintro i ys H' ⟨_,rfl⟩
      rw [List.length_map]
      refine Nat.le_trans (List.length_filter_le _ _) ?_
      rw [List.length_take]
      lia) ?_ ?_
     ·rintro k ys H4 hk ⟨s4,rfl⟩
      have hu:(L2.upTo n)[k]? =some (k:Int):=by
       unfold L2.upTo
       rw [List.getElem?_map,List.getElem?_range hk]
       rfl
      rw [List.take_add_one,hu,show (some (k:Int)).toList=[(k:Int)] from rfl,List.filter_append,filter_one,List.map_append]
      walk_at "rd"
      refine ⟨two_ln,fun r3 hr3=>?_⟩
      rw [Int.zero_add] at *
      have s5:=s4.trans (Same.upd (o:=.tup [V.int p0.1,V.int (k:Int)]) hr3)
      walk_at "rd"
      refine rd_ninP upd_same (hPs s5) ?_
      walk_at "rd"
      refine ifB (fun g=>?_) (fun g=>?_)
      ·have g':(!has ps p0.1 (k:Int))=true:=g
       walk_at "rd"
       rw [if_pos g']
       exact ⟨s5,rfl⟩
      ·have g':(!has ps p0.1 (k:Int))=false:=g
       rw [if_neg (by rw [g'];exact Bool.false_ne_true),List.map_nil,List.append_nil]
       exact ⟨s5,rfl⟩
     ·rintro ys H4 ⟨s4,rfl⟩ lr hlr
      rw [show ((L2.upTo n).take n)=L2.upTo n from List.take_of_length_le (by rw [L2.upTo_len];exact Nat.le_refl _)]
      generalize eR:((L2.upTo n).filter fun x=> !has ps p0.1 x)=R
      have lR:R.length≤8:=by
       rw [←eR]
       refine Nat.le_trans (List.length_filter_le _ _) ?_
       rw [L2.upTo_len]
       exact n8
      have s5:=s4.trans (Same.upd (o:=.lst (R.map V.int)) hlr)
      have elr:upd H4 lr (.lst (R.map V.int)) lr=some (.lst (R.map V.int)):=upd_same
      generalize upd H4 lr (.lst (R.map V.int))=H5 at s5 elr
      walk_at "rd"
      refine ifB (fun g1=>?_) (fun g1=>?_)
      ·have g1':p0.2=q0.1:=by simpa using g1
       walk_at "rd"
       refine ⟨lr,rfl,⟨_,SqL.of elr⟩,?_⟩
       refine lp_list (K:=K) (xs:=R.map V.int) (small_ln (by rw [List.length_map];lia)) (fun i ys H'=>Same H5 H'∧ys=((R.take i).filter fun x=> !has ps x q0.2).map V.int) ⟨Same.refl _,rfl⟩ (by
        rintro i ys H' ⟨_,rfl⟩
        rw [List.length_map]
        refine Nat.le_trans (List.length_filter_le _ _) ?_
        rw [List.length_take]
        lia) (fun i ys H' _ h=>SqL.of (h.1 _ _ elr)) ?_ ?_
       ·rintro k x0 ys H6 hx0 ⟨s6,rfl⟩
        obtain ⟨u,hu,rfl⟩:=int_get hx0
        rw [List.take_add_one,hu,show (some u).toList=[u] from rfl,List.filter_append,filter_one,List.map_append]
        walk_at "rd"
        refine ⟨two_ln,fun r3 hr3=>?_⟩
        have s7:=s6.trans (Same.upd (o:=.tup [V.int u,V.int q0.2]) hr3)
        walk_at "rd"
        refine rd_ninP upd_same (hPs (s5.trans s7)) ?_
        walk_at "rd"
        refine ifB (fun g=>?_) (fun g=>?_)
        ·have g':(!has ps u q0.2)=true:=g
         walk_at "rd"
         rw [if_pos g']
         exact ⟨s7,rfl⟩
        ·have g':(!has ps u q0.2)=false:=g
         rw [if_neg (by rw [g'];exact Bool.false_ne_true),List.map_nil,List.append_nil]
         exact ⟨s7,rfl⟩
       ·rintro ys H6 ⟨s6,rfl⟩ lb hlb
        rw [List.length_map,List.take_length]
        have eB:(R.filter fun x=> !has ps x q0.2)=bad3 n ps p0.1 q0.2:=by rw [←eR];rfl
        rw [eB]
        have s7:=(s5.trans s6).trans (Same.upd (o:=.lst ((bad3 n ps p0.1 q0.2).map V.int)) hlb)
        have elb:upd H6 lb (.lst ((bad3 n ps p0.1 q0.2).map V.int)) lb=some (.lst ((bad3 n ps p0.1 q0.2).map V.int)):=upd_same
        generalize upd H6 lb (.lst ((bad3 n ps p0.1 q0.2).map V.int))=H7 at s7 elb
        walk_at "rd"
        refine ⟨Nat.zero_le _,fun le hle=>?_⟩
        have s8:=s7.trans (Same.upd (o:=.lst []) hle)
        have nle:lb≠le:=ne_of_none elb hle
        refine rd_eqD (.lst (Rd.of (show upd H7 le (.lst []) lb=_ by rw [upd_ne nle];exact elb)) (IsAll.ints _)) (.lst (Rd.of (show upd H7 le (.lst []) le=some (.lst (([]:List Int).map V.int)) from upd_same)) (IsAll.ints [])) (ok_ints _) (ok_ints []) ?_
        rw [PyData.eqv,eqvAll_ints]
        walk_at "rd"
        refine ifB (fun g2=>?_) (fun g2=>?_)
        ·have g2':(!decide (bad3 n ps p0.1 q0.2=[]))=true:=g2
         walk_at "rd"
         have:=q _ s8
         rw [found (by unfold badP;rw [hf,decide_eq_true g1',g2'];rfl)] at this
         exact this
        ·have g2':(!decide (bad3 n ps p0.1 q0.2=[]))=false:=g2
         walk_at "rd"
         exact ⟨⟨_,_,_,rfl⟩,s8,any_next n2 hqj (by unfold badP;rw [hf,g2',Bool.and_false];rfl)⟩
      ·have g1':¬p0.2=q0.1:=by simpa using g1
       walk_at "rd"
       exact ⟨⟨_,_,_,rfl⟩,s5,any_next n2 hqj (by unfold badP;rw [hf,decide_eq_false g1'];rfl)⟩
    ·walk_at "rd"
     refine ⟨two_ln,fun r3 hr3=>?_⟩
     have s3:=s2.trans (Same.upd (o:=.tup [V.int p0.1,V.int q0.2]) hr3)
     walk_at "rd"
     refine rd_ninP upd_same (hPs s3) ?_
     walk_at "rd"
     refine ifB (fun g1=>?_) (fun g1=>?_)
     ·walk_at "rd"
      refine ⟨two_ln,fun r4 hr4=>?_⟩
      have s4:=s3.trans (Same.upd (o:=.tup [V.int q0.1,V.int p0.2]) hr4)
      walk_at "rd"
      refine rd_ninP upd_same (hPs s4) ?_
      walk_at "rd"
      refine ifB (fun g2=>?_) (fun g2=>?_)
      ·walk_at "rd"
       rw [hrt]
       have:=q _ s4
       rw [found (by unfold badP;rw [show (!has ps p0.1 q0.2)=true from g1,show (!has ps q0.1 p0.2)=true from g2];rfl)] at this
       exact this
      ·walk_at "rd"
       exact rest _ _ ⟨rfl,s4,by rw [show (!has ps q0.1 p0.2)=false from g2,Bool.and_false]⟩
     ·walk_at "rd"
      exact rest _ _ ⟨rfl,s3,by rw [show (!has ps p0.1 q0.2)=false from g1,Bool.false_and]⟩
   ·rintro σ H2 ⟨⟨vc,vd,ve,rfl⟩,s2,n2⟩
    rw [hl,List.take_length] at n2
    exact ⟨⟨_,_,_,_,_,rfl⟩,s2,any_next n1 hpi n2⟩
  ·rintro σ H1 ⟨⟨va,vb,vc,vd,ve,rfl⟩,s1,n1⟩
   rw [hl,List.take_length] at n1
   rw [n1] at q
   walk_at "rd"
   exact q H1 s1
end
end My
namespace My
open PySem L2
section
variable {P:Program} {w:World} {K:PySem.W.Frag} {mg:Str→Option Value} {base:Heap} {t:Ad}
noncomputable def tellD (ps:List (Int×Int)) (i j:Int):PyData:=.tuple [.bool (has ps i j),.bool (has ps j i)]
noncomputable def sp_tells_of:Sp:=fun vs H Q _=>∃ x i j ps,vs=[x,.int i,.int j]∧Is H x (.tuple (ps.map prD))∧∀ v H',Same H H'→Is H' v (tellD ps i j)→Q v H'
theorem ok_tells_of (T:Txt K mg t):FnOk P w K mg base CX0 1 t.a_tells_of t.d_tells_of ["pairs","first","second"] sp_tells_of:=by
 refine T.F_tells_of.ok sc_tells_of (fun vs H Q E h=>?_) (fun cdv A outer s H vs Q E hr h=>?_)
 ·obtain ⟨x,i,j,ps,rfl,_⟩:=h
  rfl
 ·obtain ⟨x,i,j,ps,rfl,hx,q⟩:=h
  refine ⟨_,(pss_one (ps_ret (pe_tup (pa_cons (pe_cmpR (op_inD hr.units) (pe_tup (pa_cons (pv 1) (pa_cons (pv 2) pa_nil))) (pv 0) (by rfl)) (pa_cons (pe_cmpR (op_inD hr.units) (pe_tup (pa_cons (pv 2) (pa_cons (pv 1) pa_nil))) (pv 0) (by rfl)) pa_nil))))),?_⟩
  walk_at "rd"
  refine ⟨two_ln,fun p1 hp1=>?_⟩
  have s1:=Same.upd (o:=.tup [V.int i,V.int j]) hp1
  walk_at "rd"
  refine rd_inP upd_same (hx.same s1) ?_
  walk_at "rd"
  refine ⟨two_ln,fun p2 hp2=>?_⟩
  have s2:=s1.trans (Same.upd (o:=.tup [V.int j,V.int i]) hp2)
  walk_at "rd"
  refine rd_inP upd_same (hx.same s2) ?_
  walk_at "rd"
  refine ⟨by show 2≤sizeLine;decide,fun p hp=>?_⟩
  exact q _ _ (s2.trans (Same.upd hp)) (.tup upd_same (.cons (.bl _) (.cons (.bl _) .nil)))
theorem eqv_two (a b c d:Bool):PyData.eqvAll [.bool a,.bool b] [.bool c,.bool d]=(decide (a=c)&&decide (b=d)):=by
 cases a <;> cases b <;> cases c <;> cases d <;> rfl
theorem eqv_tell (ps qs:List (Int×Int)) (i j:Int):PyData.eqv (tellD ps i j) (tellD qs i j)=(decide (has ps i j=has qs i j)&&decide (has ps j i=has qs j i)):=by
 unfold tellD
 rw [PyData.eqv]
 exact eqv_two _ _ _ _
theorem ok_tell (ps:List (Int×Int)) (i j:Int):okD (tellD ps i j):=⟨rfl,show 1≤40 by decide⟩
noncomputable def dif (ps qs:List (Int×Int)) (f s:Nat):Bool:= !(decide (has ps f s=has qs f s)&&decide (has ps s f=has qs s f))
noncomputable def farR (d:Nat→Bool):Nat→Nat
 | 0=>0
 | m + 1=>farR d m + (if d m=true then 1 else 0)
noncomputable def farA (d:Nat→Nat→Bool):Nat→Nat
 | 0=>0
 | s + 1=>farA d s + farR (fun f=>d f s) s
theorem far_yes {d:Nat→Bool} (c:Nat) {m:Nat} (h:d m=true):((c + farR d (m + 1):Nat):Int)=((c + farR d m:Nat):Int) + 1:=by
 rw [farR,if_pos h];lia
theorem far_no {d:Nat→Bool} (c:Nat) {m:Nat} (h:d m=false):((c + farR d (m + 1):Nat):Int)=((c + farR d m:Nat):Int):=by
 rw [farR,if_neg (by rw [h];exact Bool.false_ne_true)];lia
noncomputable def sp_unlike:Sp:=fun vs H Q _=>∃ x y n ps qs,vs=[x,y]∧Is H x (ordD n ps)∧Ord n ps∧Is H y (ordD n qs)∧Ord n qs∧∀ H',Same H H'→Q (.int (farA (dif ps qs) n)) H'
theorem ok_unlike (T:Txt K mg t):FnOk P w K mg base CX0 6 t.a_unlike t.d_unlike ["one","other"] sp_unlike:=by
 refine T.F_unlike.ok sc_unlike (fun vs H Q E h=>?_) (fun cdv A outer s H vs Q E hr h=>?_)
 ·obtain ⟨x,y,n,ps,qs,rfl,_⟩:=h
  rfl
 ·obtain ⟨x,y,n,ps,qs,rfl,hx,ho,hy,hp,q2⟩:=h
  refine ⟨_,(pss_cons (ps_expr (pe_call (ok_need_order T) (hr.mono (by decide)) rfl T.m_need_order T.F_need_order.kp T.b_need_order .nil pass0 (pa_cons (pv 0) pa_nil)))
   (pss_cons (ps_expr (pe_call (ok_need_order T) (hr.mono (by decide)) rfl T.m_need_order T.F_need_order.kp T.b_need_order .nil pass0 (pa_cons (pv 1) pa_nil)))
   (pss_cons (ps_if (pt_cmpR (op_neD hr.units) (pe_ix (k_ix K) (pv 0) pe_int (fun _ _=>rfl)) (pe_ix (k_ix K) (pv 1) pe_int (fun _ _=>rfl)) (nomark _)) (pss_one ps_never) pss_nil)
   (pss_cons (ps_set (i:=2) sc_unlike.nd rfl (Or.inl rfl) pe_int)
   (pss_cons (ps_for PassesOwn.never rfl (pi_range1 rfl T.n_range (pa_cons (pe_ix (k_ix K) (pv 0) pe_int (fun _ _=>rfl)) pa_nil)) (pg_name (i:=3) sc_unlike.nd rfl (Or.inl rfl)) (pss_one (ps_for PassesOwn.never rfl (pi_range1 rfl T.n_range (pa_cons (pv 3) pa_nil)) (pg_name (i:=4) sc_unlike.nd rfl (Or.inl rfl)) (pss_one (ps_if (pt_cmpR (op_neD hr.units) (pe_call (ok_tells_of T) (hr.mono (by decide)) rfl T.m_tells_of T.F_tells_of.kp T.b_tells_of .nil pass0 (pa_cons (pe_ix (k_ix K) (pv 0) pe_int (fun _ _=>rfl)) (pa_cons (pv 4) (pa_cons (pv 3) pa_nil)))) (pe_call (ok_tells_of T) (hr.mono (by decide)) rfl T.m_tells_of T.F_tells_of.kp T.b_tells_of .nil pass0 (pa_cons (pe_ix (k_ix K) (pv 1) pe_int (fun _ _=>rfl)) (pa_cons (pv 4) (pa_cons (pv 3) pa_nil)))) (nomark _)) (pss_one (ps_set (i:=2) sc_unlike.nd rfl (Or.inl rfl) (pe_op op_add (pv 2) pe_int))) pss_nil)))))
   (pss_one (ps_ret (pv 2)))))))),?_⟩
  walk_at "rd"
  refine ⟨_,_,rfl,hx,ho.okd,ho.yes,fun H1 s1=>?_⟩
  walk_at "rd"
  refine ⟨_,_,rfl,hy.same s1,hp.okd,hp.yes,fun H2 s2=>?_⟩
  have s12:=s1.trans s2
  obtain ⟨oa,ob,xs,rfl,ea,eb,hxs⟩:=is_ord (hx.same s12)
  obtain ⟨oc,od,ys,rfl,ec,ed,hys⟩:=is_ord (hy.same s12)
  have n8:=ho.hi
  walk_at "rd"
  refine ifF (by simp) ?_
  walk_at "rd"
  refine ⟨_,rfl,by lia,by lia,?_⟩
  rw [Int.toNat_natCast]
  refine fp_range (fun i σ H'=>(∃ v3 v4,σ=[some (.ref oa),some (.ref oc),some (.int (farA (dif ps qs) i:Nat)),v3,v4])∧Same H2 H') ⟨⟨_,_,rfl⟩,Same.refl _⟩ ?_ ?_
  ·rintro i σ H3 hi ⟨⟨v3,v4,rfl⟩,s3⟩
   walk_at "rd"
   refine ⟨_,rfl,by lia,by lia,?_⟩
   rw [Int.zero_add,Int.toNat_natCast]
   refine fp_range (fun j σ H'=>(∃ v4,σ=[some (.ref oa),some (.ref oc),some (.int (farA (dif ps qs) i + farR (fun f=>dif ps qs f i) j:Nat)),some (.int i),v4])∧Same H2 H') ⟨⟨_,rfl⟩,s3⟩ ?_ ?_
   ·rintro j σ H4 hj ⟨⟨v4,rfl⟩,s4⟩
    have ea4:=s4 _ _ ea
    have ec4:=s4 _ _ ec
    walk_at "rd"
    refine ⟨_,_,_,ps,rfl,.tup (s4 _ _ eb) (hxs.same s4),fun v H5 s5 iv=>?_⟩
    have ec5:=s5 _ _ ec4
    have s45:=s4.trans s5
    walk_at "rd"
    refine ⟨_,_,_,qs,rfl,.tup (s45 _ _ ed) (hys.same s45),fun v2 H6 s6 iv2=>?_⟩
    have s46:=s45.trans s6
    rw [Int.zero_add] at iv iv2
    refine rd_eqD (iv.same s6) iv2 (ok_tell _ _ _) (ok_tell _ _ _) ?_
    rw [eqv_tell]
    walk_at "rd"
    rw [Int.zero_add]
    refine ifB (fun g2=>?_) (fun g2=>?_)
    ·walk_at "rd"
     exact ⟨⟨_,by rw [far_yes (d:=fun f=>dif ps qs f i) (m:=j) _ g2];rfl⟩,s46⟩
    ·walk_at "rd"
     exact ⟨⟨_,by rw [far_no (d:=fun f=>dif ps qs f i) (m:=j) _ g2];rfl⟩,s46⟩
   ·rintro σ H4 ⟨⟨v4,rfl⟩,s4⟩
    walk_at "rd"
    exact ⟨⟨_,_,rfl⟩,s4⟩
  ·rintro σ H3 ⟨⟨v3,v4,rfl⟩,s3⟩
   walk_at "rd"
   exact q2 H3 (s12.trans s3)
end
end My
namespace My
open PySem L2
noncomputable def nwI (n k:Nat) (w:Str):List (Int×Int):=(if w="less" then [((n:Int),(k:Int))] else [])++(if w="more" then [((k:Int),(n:Int))] else [])
noncomputable def nwT (n:Nat) (ws:List Str) (i:Nat):List (Int×Int):=(List.range i).flatMap fun k=>nwI n k (ws.getD k "")
theorem nwT_succ (n:Nat) (ws:List Str) (i:Nat):nwT n ws (i + 1)=nwT n ws i++nwI n i (ws.getD i ""):=by
 unfold nwT
 rw [List.range_succ,List.flatMap_append]
 simp
theorem lm:("less":Str)≠"more":=by decide
theorem mem_nwI {n k:Nat} {w:Str} {p:Int×Int}:p∈nwI n k w↔(w="less"∧p=((n:Int),(k:Int)))∨(w="more"∧p=((k:Int),(n:Int))):=by
 unfold nwI
 rw [List.mem_append]
 by_cases h1:w="less"
 ·by_cases h2:w="more"
  ·simp [h1,h2]
  ·rw [if_pos h1,if_neg h2];simp [h1,lm]
 ·by_cases h2:w="more"
  ·rw [if_neg h1,if_pos h2];simp [h2,Ne.symm lm]
  ·rw [if_neg h1,if_neg h2];simp [h1,h2]
theorem nwI_b (n k:Nat):nwI n k "beside"=[]:=by
 unfold nwI
 rw [if_neg (by decide),if_neg (by decide)]
 rfl
theorem mem_nwT {n:Nat} {ws:List Str} {i:Nat} {p:Int×Int}:p∈nwT n ws i↔∃ k,k < i∧p∈nwI n k (ws.getD k ""):=by
 unfold nwT
 rw [List.mem_flatMap]
 constructor
 ·rintro ⟨k,hk,h⟩;exact ⟨k,List.mem_range.mp hk,h⟩
 ·rintro ⟨k,hk,h⟩;exact ⟨k,List.mem_range.mpr hk,h⟩
theorem nwI_nd (n k:Nat) (w:Str):(nwI n k w).Nodup:=by
 unfold nwI
 by_cases h1:w="less"
 ·rw [if_pos h1,if_neg (by rw [h1];exact lm)];simp
 ·rw [if_neg h1]
  split <;> simp
theorem nwT_nd (n:Nat) (ws:List Str):∀ i,i≤n→(nwT n ws i).Nodup
 | 0,_=>by simp [nwT]
 | i + 1,h=>by
  rw [nwT_succ]
  unfold List.Nodup
  rw [List.pairwise_append]
  refine ⟨nwT_nd n ws i (by lia),nwI_nd _ _ _,fun a ha b hb z=>?_⟩
  subst z
  obtain ⟨k,hk,h1⟩:=mem_nwT.mp ha
  rcases mem_nwI.mp h1 with ⟨_,rfl⟩ | ⟨_,rfl⟩ <;> rcases mem_nwI.mp hb with ⟨_,e⟩ | ⟨_,e⟩ <;> simp at e <;> lia
theorem nwT_in {n:Nat} {ws:List Str} {i:Nat} (hi:i≤n) {p:Int×Int} (h:p∈nwT n ws i):inN (n + 1) p∧(p.1=n∨p.2=n):=by
 obtain ⟨k,hk,h1⟩:=mem_nwT.mp h
 unfold inN
 rcases mem_nwI.mp h1 with ⟨_,rfl⟩ | ⟨_,rfl⟩
 ·exact ⟨⟨by simp,by simp;lia,by simp,by simp;lia,by simp;lia⟩,.inl rfl⟩
 ·exact ⟨⟨by simp,by simp;lia,by simp,by simp;lia,by simp;lia⟩,.inr rfl⟩
noncomputable def newO (n:Nat) (ps:List (Int×Int)) (ws:List Str):List (Int×Int):=gAll (fun i j=>has ps i j||has (nwT n ws n) i j) (n + 1) (n + 1)
theorem newO_of {n:Nat} {ps qs:List (Int×Int)} {ws:List Str} (ho:Ord (n + 1) qs) (h:∀ p,p∈qs↔p∈ps∨p∈nwT n ws n):newO n ps ws=qs:=by
 refine g_ord ho fun i j _ _=>?_
 rw [Bool.eq_iff_iff,Bool.or_eq_true,has_iff,has_iff,has_iff,h]
theorem app_nd {n:Nat} {ps:List (Int×Int)} {ws:List Str} (ho:Ord n ps) {i:Nat} (hi:i≤n):(ps++nwT n ws i).Nodup:=by
 unfold List.Nodup
 rw [List.pairwise_append]
 refine ⟨nd_of (pw_of ho.up),nwT_nd n ws i hi,fun a ha b hb z=>?_⟩
 subst z
 obtain ⟨h1,h2,h3,h4,h5⟩:=ho.ix a ha
 rcases (nwT_in hi hb).2 with e | e <;> lia
theorem app_in {n:Nat} {ps:List (Int×Int)} {ws:List Str} (ho:Ord n ps) {i:Nat} (hi:i≤n):∀ p∈ps++nwT n ws i,inN (n + 1) p:=fun p hp=>by
 rcases List.mem_append.mp hp with h | h
 ·obtain ⟨h1,h2,h3,h4,h5⟩:=ho.ix p h
  exact ⟨h1,by lia,h3,by lia,h5⟩
 ·exact (nwT_in hi h).1
noncomputable def tupS (ws:List Str):PyData:=.tuple (ws.map .str)
noncomputable def Wd (w:Str):Prop:=w="less"∨w="more"∨w="beside"
theorem eqv_str (a b:Str):PyData.eqv (.str a) (.str b)=decide (a=b):=by
 rw [PyData.eqv]
 by_cases h:a=b
 ·subst h;simp
 ·simp [h]
theorem ok_wd {w:Str} (h:Wd w):okD (.str w):=by
 refine ⟨?_,show 0≤40 by decide⟩
 rcases h with rfl | rfl | rfl <;> (rw [PyData.canLay0];decide +kernel)
theorem isAll_str {H:Hp}:∀ {xs:List V} {ws:List Str},IsAll H xs (ws.map .str)→xs=ws.map V.str
 | _,[],h=>by cases h;rfl
 | _,w::ws,h=>by
  cases h with
  | cons h1 h2=>
   cases h1
   rw [isAll_str h2]
   rfl
theorem growN {H:Hp} {l p:Addr} {zs:List V} {ds:List PyData} {r:Int×Int} (hz:H l=some (.lst zs)) (hp:H p=none) (iz:IsAll H zs ds) (hn:noLs ds=true:=by first | exact noLs_pr _ | assumption):IsAll (upd (upd H p (.tup [V.int r.1,V.int r.2])) l (.lst (zs++[V.ref p]))) (zs++[V.ref p]) (ds++[r].map prD):=by
 have s:=Same.upd (o:=.tup [V.int r.1,V.int r.2]) hp
 have hlp:l≠p:=ne_of_none hz hp
 refine ((iz.same s).tmono (fun c us e=>?_) hn).append (.cons (.tup ?_ (.cons (.int _) (.cons (.int _) .nil))) .nil)
 ·rw [upd_ne (ne_of e (s _ _ hz) (by intro z;cases z))]
  exact e
 ·rw [upd_ne (Ne.symm hlp),upd_same]
section
variable {P:Program} {w:World} {K:PySem.W.Frag} {mg:Str→Option Value} {base:Heap} {t:Ad}
noncomputable def sp_newest:Sp:=fun vs H Q _=>∃ x y n ps ws,vs=[x,y]∧Is H x (ordD n ps)∧Ord n ps∧n≤7∧Is H y (tupS ws)∧ws.length=n∧(∀ v∈ws,Wd v)∧
 ∀ z H',Same H H'→Is H' z (ordD (n + 1) (newO n ps ws))→Ord (n + 1) (newO n ps ws)→Q z H'
theorem ok_with_newest (T:Txt K mg t):FnOk P w K mg base CX0 1 t.a_with_newest t.d_with_newest ["order","telling"] sp_newest:=by
 refine T.F_with_newest.ok sc_with_newest (fun vs H Q E h=>?_) (fun cdv A outer s H vs Q E hr h=>?_)
 ·obtain ⟨x,y,n,ps,ws,rfl,_⟩:=h
  rfl
 ·obtain ⟨x,y,n,ps,ws,rfl,hx,ho,n7,hy,hlw,hw,q⟩:=h
  refine ⟨_,(pss_cons (ps_set (i:=2) sc_with_newest.nd rfl (Or.inl rfl) (pe_ix (k_ix K) (pv 0) pe_int (fun _ _=>rfl)))
   (pss_cons (ps_set (i:=3) sc_with_newest.nd rfl (Or.inl rfl) (pe_callTy (k_list K) (by rfl) T.n_list bt_list (pa_cons (pe_ix (k_ix K) (pv 0) pe_int (fun _ _=>rfl)) pa_nil)))
   (pss_cons (ps_for PassesOwn.never rfl (k_penum K rfl T.n_enumerate (pa_cons (pv 1) pa_nil)) (k_gtup K rfl (pgs_cons (pg_name (i:=4) sc_with_newest.nd rfl (Or.inl rfl)) (pgs_cons (pg_name (i:=5) sc_with_newest.nd rfl (Or.inl rfl)) pgs_nil))) (pss_cons (ps_if (pt_cmpR (op_eqD hr.units) (pv 5) pe_str (nomark _)) (pss_one (ps_expr (k_bm K PySem.F.plainAttrs_list PySem.F.slot_list_append PySem.F.type_list_append mt_append (pv 3) (pa_cons (pe_tup (pa_cons (pv 2) (pa_cons (pv 4) pa_nil))) pa_nil)))) pss_nil)
   (pss_one (ps_if (pt_cmpR (op_eqD hr.units) (pv 5) pe_str (nomark _)) (pss_one (ps_expr (k_bm K PySem.F.plainAttrs_list PySem.F.slot_list_append PySem.F.type_list_append mt_append (pv 3) (pa_cons (pe_tup (pa_cons (pv 4) (pa_cons (pv 2) pa_nil))) pa_nil)))) pss_nil))))
   (pss_one (ps_ret (pe_tup (pa_cons (pe_op op_add (pv 2) pe_int) (pa_cons (pe_callTy (k_tuple K) (by rfl) T.n_tuple bt_tuple (pa_cons (pe_callB (k_sorted K) (by rfl) T.n_sorted bt_sorted (pa_cons (pv 3) pa_nil)) pa_nil)) pa_nil)))))))),?_⟩
  obtain ⟨oa,ob,xs,rfl,ea,eb,hxs⟩:=is_ord hx
  unfold tupS at hy
  cases hy with
  | @tup ya ys _ ey hys=>
  have eys:=isAll_str hys
  subst eys
  have sml:=ho.small
  have lx:xs.length=ps.length:=by rw [hxs.length,List.length_map]
  walk_at "rd"
  refine rd_lstT eb fun l hl=>?_
  have s1:=Same.upd (o:=.lst xs) hl
  have hys1:=hys.same s1
  walk_at "rd"
  refine rd_enum ?_
  walk_at "rd"
  refine ⟨ya,rfl,⟨_,SqT.of (s1 _ _ ey)⟩,?_⟩
  refine fp_enum (K:=K) (xs:=ws.map V.str) (fun i σ H'=>(∃ va vb,σ=[some (.ref oa),some (.ref ya),some (.int n),some (.ref l),va,vb])∧Same H H'∧∃ zs,H' l=some (.lst zs)∧IsAll H' zs ((ps++nwT n ws i).map prD)) ⟨⟨_,_,rfl⟩,s1,xs,upd_same,by simpa [nwT] using hxs.same s1⟩ (fun i σ H' _ h=>SqT.of (h.2.1 _ _ ey)) ?_ ?_
  ·rintro i x σ H2 T1 hx ⟨⟨va,vb,rfl⟩,s2,zs,hz,iz⟩ hT1
   rw [List.getElem?_map] at hx
   cases hwi:ws[i]? with
   | none=>rw [hwi] at hx;cases hx
   | some wd=>
   rw [hwi] at hx
   cases hx
   have hiw:i < ws.length:=(List.getElem?_eq_some_iff.mp hwi).1
   have egd:ws.getD i ""=wd:=by rw [List.getD_eq_getElem?_getD,hwi];rfl
   have hwd:Wd wd:=hw _ (List.mem_of_getElem? hwi)
   have s3:=s2.trans (Same.upd (o:=.tup [V.int i,V.str wd]) hT1)
   have hz3:=(Same.upd (o:=.tup [V.int i,V.str wd]) hT1) _ _ hz
   have iz3:=iz.same (Same.upd (o:=.tup [V.int i,V.str wd]) hT1)
   have lz:zs.length≤100:=by
    rw [iz.length,List.length_map]
    have:=small_prs (app_nd (ws:=ws) ho (show i≤n by lia)) fun p hp=>(app_in ho (show i≤n by lia) p hp).box (by lia)
    lia
   refine rd_gtup upd_same rfl ?_
   generalize upd H2 T1 (.tup [V.int i,V.str wd])=H3 at s3 hz3 iz3
   rw [nwT_succ,egd,←List.append_assoc,List.map_append]
   rcases hwd with rfl | rfl | rfl
   ·walk_at "rd"
    refine rd_eqD (d:=.str "less") (e:=.str "less") (.str _) (.str _) (ok_wd (.inl rfl)) (ok_wd (.inl rfl)) ?_
    rw [eqv_str]
    walk_at "rd"
    refine ifT (by decide) ?_
    walk_at "rd"
    refine ⟨tyV_lst hz3,?_⟩
    walk_at "rd"
    refine ⟨two_ln,fun p hp=>?_⟩
    have hlp:l≠p:=ne_of_none hz3 hp
    walk_at "rd"
    refine rd_append (xs:=zs) (by rw [upd_ne hlp];exact hz3) (small1000 (by lia)) ?_
    walk_at "rd"
    refine rd_eqD (d:=.str "less") (e:=.str "more") (.str _) (.str _) (ok_wd (.inl rfl)) (ok_wd (.inr (.inl rfl))) ?_
    rw [eqv_str]
    walk_at "rd"
    refine ifF (by decide) ?_
    walk_at "rd"
    refine ⟨⟨_,_,rfl⟩,fun e u h=>?_,_,upd_same,?_⟩
    ·have e3:=s3 e u h
     rw [upd_ne (ne_of_none h hl),upd_ne (ne_of_none e3 hp)]
     exact e3
    ·exact growN (r:=((n:Int),(i:Int))) hz3 hp iz3
   ·walk_at "rd"
    refine rd_eqD (d:=.str "more") (e:=.str "less") (.str _) (.str _) (ok_wd (.inr (.inl rfl))) (ok_wd (.inl rfl)) ?_
    rw [eqv_str]
    walk_at "rd"
    refine ifF (by decide) ?_
    walk_at "rd"
    refine rd_eqD (d:=.str "more") (e:=.str "more") (.str _) (.str _) (ok_wd (.inr (.inl rfl))) (ok_wd (.inr (.inl rfl))) ?_
    rw [eqv_str]
    walk_at "rd"
    refine ifT (by decide) ?_
    walk_at "rd"
    refine ⟨tyV_lst hz3,?_⟩
    walk_at "rd"
    refine ⟨two_ln,fun p hp=>?_⟩
    have hlp:l≠p:=ne_of_none hz3 hp
    walk_at "rd"
    refine rd_append (xs:=zs) (by rw [upd_ne hlp];exact hz3) (small1000 (by lia)) ?_
    walk_at "rd"
    refine ⟨⟨_,_,rfl⟩,fun e u h=>?_,_,upd_same,?_⟩
    ·have e3:=s3 e u h
     rw [upd_ne (ne_of_none h hl),upd_ne (ne_of_none e3 hp)]
     exact e3
    ·exact growN (r:=((i:Int),(n:Int))) hz3 hp iz3
   ·walk_at "rd"
    refine rd_eqD (d:=.str "beside") (e:=.str "less") (.str _) (.str _) (ok_wd (.inr (.inr rfl))) (ok_wd (.inl rfl)) ?_
    rw [eqv_str]
    walk_at "rd"
    refine ifF (by decide) ?_
    walk_at "rd"
    refine rd_eqD (d:=.str "beside") (e:=.str "more") (.str _) (.str _) (ok_wd (.inr (.inr rfl))) (ok_wd (.inr (.inl rfl))) ?_
    rw [eqv_str]
    walk_at "rd"
    refine ifF (by decide) ?_
    walk_at "rd"
    refine ⟨⟨_,_,rfl⟩,s3,zs,hz3,?_⟩
    rw [nwI_b,List.map_nil,List.append_nil]
    exact iz3
  ·rintro σ H2 ⟨⟨va,vb,rfl⟩,s2,zs,hz,iz⟩
   rw [List.length_map,hlw] at iz
   walk_at "rd"
   refine rd_sortP (.inl hz) iz (app_nd ho (Nat.le_refl _)) (fun p hp=>(app_in ho (Nat.le_refl _) p hp).box (by lia)) fun l2 vs' qs hl' ha hperm hpw=>?_
   have s4:=Same.upd (o:=.lst vs') hl'
   have ev:upd H2 l2 (.lst vs') l2=some (.lst vs'):=upd_same
   walk_at "rd"
   intro tp htp
   have s5:=Same.upd (o:=.tup vs') htp
   walk_at "rd"
   refine ⟨by show 2≤sizeLine;decide,fun o ho'=>?_⟩
   have nto:tp≠o:=ne_of_none upd_same ho'
   have s6:=Same.upd (o:=.tup [V.int ((n:Int) + 1),V.ref tp]) ho'
   have oq:Ord (n + 1) qs:=ord_of (by lia) (by lia) (fun p hp=>app_in ho (Nat.le_refl _) p (hperm.mem_iff.mp hp)) hpw
   have eq1:newO n ps ws=qs:=newO_of oq fun p=>(hperm.mem_iff).trans List.mem_append
   refine q _ _ (((s2.trans s4).trans s5).trans s6) ?_ (by rw [eq1];exact oq)
   rw [eq1]
   refine .tup upd_same (.cons ?_ (.cons (.tup (by rw [upd_ne nto,upd_same]) (((ha.same s4).same s5).same s6)) .nil))
   exact .int _
end
end My
namespace My
open PySem L2
noncomputable def W3:List Str:=["less","more","beside"]
noncomputable def extW (t:List Str):List (List Str):=W3.map fun w=>t++[w]
noncomputable def tell:Nat→List (List Str)
 | 0=>[[]]
 | k + 1=>(tell k).flatMap extW
theorem extW_len (t:List Str):(extW t).length=3:=rfl
theorem flat_len:∀ l:List (List Str),(l.flatMap extW).length=3 * l.length
 | []=>rfl
 | t::l=>by rw [List.flatMap_cons,List.length_append,flat_len l,extW_len,List.length_cons];lia
theorem tell_len:∀ k,(tell k).length=3 ^ k
 | 0=>rfl
 | k + 1=>by rw [tell,flat_len,tell_len k,Nat.pow_succ];lia
theorem tell_mem:∀ k (t:List Str),t∈tell k↔t.length=k∧∀ v∈t,Wd v
 | 0,t=>by
  constructor
  ·intro h
   rcases List.mem_singleton.mp h with rfl
   exact ⟨rfl,fun _ h=>nomatch h⟩
  ·rintro ⟨h,_⟩
   rw [List.eq_nil_of_length_eq_zero h]
   exact List.mem_cons_self
 | k + 1,t=>by
  rw [tell,List.mem_flatMap]
  constructor
  ·rintro ⟨u,hu,h⟩
   obtain ⟨h1,h2⟩:=(tell_mem k u).mp hu
   unfold extW at h
   obtain ⟨v,hv,rfl⟩:=List.mem_map.mp h
   refine ⟨by rw [List.length_append,h1];rfl,fun x hx=>?_⟩
   rcases List.mem_append.mp hx with z | z
   ·exact h2 x z
   ·rcases List.mem_singleton.mp z with rfl
    unfold W3 at hv
    simpa [Wd] using hv
  ·rintro ⟨h1,h2⟩
   have hne:t≠[]:=fun z=>by rw [z] at h1;cases h1
   refine ⟨t.dropLast,(tell_mem k _).mpr ⟨by rw [List.length_dropLast,h1];rfl,fun v hv=>h2 v (List.dropLast_subset _ hv)⟩,?_⟩
   unfold extW
   refine List.mem_map.mpr ⟨t.getLast hne,?_,List.dropLast_concat_getLast hne⟩
   have:=h2 _ (List.getLast_mem hne)
   unfold W3
   simpa [Wd] using this
theorem noLs_str:∀ ws:List Str,noLs (ws.map .str)=true
 | []=>rfl
 | w::ws=>by rw [List.map_cons,noLs,noL,noLs_str ws];rfl
theorem noLs_tupS:∀ l:List (List Str),noLs (l.map tupS)=true
 | []=>rfl
 | t::l=>by rw [List.map_cons,noLs,noLs_tupS l,tupS,noL,noLs_str];rfl
theorem isAll_of_str {H:Hp}:∀ ws:List Str,IsAll H (ws.map V.str) (ws.map .str)
 | []=>.nil
 | w::ws=>.cons (.str w) (isAll_of_str ws)
theorem is_tupS {H:Hp} {x:V} {ws:List Str} (h:Is H x (tupS ws)):∃ a,x=.ref a∧H a=some (.tup (ws.map V.str)):=by
 unfold tupS at h
 cases h with
 | @tup a xs _ e hxs=>
  rw [isAll_str hxs] at e
  exact ⟨a,rfl,e⟩
theorem growL {H:Hp} {l:Addr} {zs ys:List V} {ds es:List PyData} (hz:H l=some (.lst zs)) (iz:IsAll H zs ds) (iy:IsAll H ys es) (hn:noLs ds=true) (hm:noLs es=true):IsAll (upd H l (.lst (zs++ys))) (zs++ys) (ds++es):=by
 have km:∀ (c:Addr) (us:List V),H c=some (.tup us)→upd H l (.lst (zs++ys)) c=some (.tup us):=fun c us e=>by
  rw [upd_ne (ne_of e hz (by intro z;cases z))]
  exact e
 exact (iz.tmono km hn).append (iy.tmono km hm)
section
variable {P:Program} {w:World} {K:PySem.W.Frag} {mg:Str→Option Value} {base:Heap} {t:Ad}
noncomputable def sp_tellings:Sp:=fun vs H Q _=>∃ k:Nat,vs=[.int k]∧k≤3∧∀ l zs H',Same H H'→H l=none→H' l=some (.lst zs)→IsAll H' zs ((tell k).map tupS)→Q (.ref l) H'
theorem ok_all_tellings (T:Txt K mg t):FnOk P w K mg base CX0 1 t.a_all_tellings t.d_all_tellings ["many"] sp_tellings:=by
 refine T.F_all_tellings.ok sc_all_tellings (fun vs H Q E h=>?_) (fun cdv A outer s H vs Q E hr h=>?_)
 ·obtain ⟨k,rfl,_⟩:=h
  rfl
 ·obtain ⟨k,rfl,k3,q⟩:=h
  refine ⟨_,(pss_cons (ps_set (i:=1) sc_all_tellings.nd rfl (Or.inl rfl) (pe_lst (pa_cons (pe_tup pa_nil) pa_nil)))
   (pss_cons (ps_for PassesOwn.never rfl (pi_range1 rfl T.n_range (pa_cons (pv 0) pa_nil)) (pg_name (i:=2) sc_all_tellings.nd rfl (Or.inl rfl)) (pss_cons (ps_set (i:=3) sc_all_tellings.nd rfl (Or.inl rfl) (pe_lst pa_nil))
   (pss_cons (ps_for PassesOwn.never rfl (k_plst K (pv 1)) (pg_name (i:=4) sc_all_tellings.nd rfl (Or.inr rfl)) (pss_one (ps_expr (k_bm K PySem.F.plainAttrs_list PySem.F.slot_list_extend PySem.F.type_list_extend mt_extend (pv 3) (pa_cons (pe_lc rfl ⟨True.intro,True.intro,(.inl rfl),True.intro⟩ (M:=["word","telling"]) (.own (.free 4 rfl rfl .nil)) (gk_name rfl) rfl (by decide +kernel) (k_ptup K (pe_glob (v:=.ref t.c_TELLING_WORDS) rfl T.g_TELLING_WORDS rfl)) (fun C fp s1 H1=>⟨pg_name (i:=0) (show (["word","telling"]:List Str).Nodup by decide +kernel) rfl (Or.inl rfl),pif_nil,(pe_op op_catU (pv 1) (pe_tup (pa_cons (pv 0) pa_nil)))⟩)) pa_nil)))))
   (pss_one (ps_set (i:=1) sc_all_tellings.nd rfl (Or.inl rfl) (pv 3))))))
   (pss_one (ps_ret (pv 1))))),?_⟩
  walk_at "rd"
  refine ⟨Nat.zero_le _,fun p0 hp0=>?_⟩
  have s0:=Same.upd (o:=.tup []) hp0
  walk_at "rd"
  refine ⟨by show 1≤sizeLine;decide,fun l hl=>?_⟩
  have s1:=Same.upd (o:=.lst [V.ref p0]) hl
  have np:p0≠l:=ne_of_none upd_same hl
  walk_at "rd"
  refine ⟨_,rfl,by lia,by lia,?_⟩
  rw [Int.toNat_natCast]
  refine fp_range (fun i σ H'=>∃ l zs,(∃ v2 v3 v4,σ=[some (.int k),some (.ref l),v2,v3,v4])∧Same H H'∧H l=none∧H' l=some (.lst zs)∧IsAll H' zs ((tell i).map tupS)) ⟨l,[V.ref p0],⟨_,_,_,rfl⟩,s0.trans s1,s0.free hl,upd_same,.cons (.tup (by rw [upd_ne np,upd_same]) .nil) .nil⟩ ?_ ?_
  ·rintro i σ H1 hi ⟨l,zs,⟨v2,v3,v4,rfl⟩,sH,hlH,hz,iz⟩
   have lz:zs.length=3 ^ i:=by rw [iz.length,List.length_map,tell_len]
   have p3:3 ^ i≤9:=Nat.le_trans (Nat.pow_le_pow_right (by decide) (show i≤2 by lia)) (by decide)
   walk_at "rd"
   refine ⟨Nat.zero_le _,fun l2 hl2=>?_⟩
   have s2:=Same.upd (o:=.lst []) hl2
   walk_at "rd"
   refine ⟨l,rfl,⟨zs,SqL.of (s2 _ _ hz)⟩,?_⟩
   refine fp_list (K:=K) (xs:=zs) (fun j σ H'=>(∃ v4,σ=[some (.int k),some (.ref l),some (.int (0 + i)),some (.ref l2),v4])∧Same H1 H'∧∃ ys,H' l2=some (.lst ys)∧IsAll H' ys ((((tell i).take j).flatMap extW).map tupS)) ⟨⟨_,rfl⟩,s2,[],upd_same,.nil⟩ (fun j σ H' _ h=>SqL.of (h.2.1 _ _ hz)) ?_ ?_
   ·rintro j x σ H2 hx ⟨⟨v4,rfl⟩,s3,ys,hy,iy⟩
    have hj:j < zs.length:=(List.getElem?_eq_some_iff.mp hx).1
    obtain ⟨d,ed,id⟩:=(iz.same s3).get' hx
    rw [List.getElem?_map] at ed
    cases htj:(tell i)[j]? with
    | none=>rw [htj] at ed;cases ed
    | some tl=>
    rw [htj] at ed
    cases ed
    obtain ⟨ta,rfl,eta⟩:=is_tupS id
    have htl:=((tell_mem i tl).mp (List.mem_of_getElem? htj)).1
    have ly:ys.length≤30:=by
     rw [iy.length,List.length_map,flat_len,List.length_take]
     lia
    walk_at "rd"
    refine ⟨tyV_lst hy,?_⟩
    walk_at "rd"
    refine ⟨_,rfl,⟨_,T.s_TELLING_WORDS _⟩,?_⟩
    refine lp_tup (K:=K) (xs:=[V.str "less",V.str "more",V.str "beside"]) (by show 3≤sizeLine;decide) (fun m us H'=>Same H2 H'∧IsAll H' us (((W3.take m).map fun w=>tl++[w]).map tupS)) ⟨Same.refl _,.nil⟩ (by
     rintro m us H' ⟨_,h⟩
     rw [h.length]
     simp [W3]
     lia) (fun m us H' _ h=>T.s_TELLING_WORDS _) ?_ ?_
    ·rintro m x us H3 hx ⟨s4,iu⟩
     obtain ⟨wd,rfl,hwd⟩:∃ wd,x=V.str wd∧W3[m]? =some wd:=by
      match m,hx with
      | 0,hx=>cases hx;exact ⟨_,rfl,rfl⟩
      | 1,hx=>cases hx;exact ⟨_,rfl,rfl⟩
      | 2,hx=>cases hx;exact ⟨_,rfl,rfl⟩
      | m + 3,hx=>exact absurd hx (by simp)
     walk_at "rd"
     refine ⟨by show 1≤sizeLine;decide,fun p1 hp1=>?_⟩
     have s5:=Same.upd (o:=.tup [V.str wd]) hp1
     refine rd_catU (s5 _ _ (s4 _ _ eta)) upd_same (small_ln (by rw [List.length_map,htl];show i + 1≤1000;lia)) fun r H4 s6 er=>?_
     refine ⟨(s4.trans s5).trans s6,?_⟩
     rw [List.take_add_one,hwd,List.map_append,List.map_append]
     refine ((iu.same s5).same s6).append (.cons (.tup er ?_) .nil)
     have:=isAll_of_str (H:=H4) (tl++[wd])
     rw [List.map_append] at this
     exact this
    ·rintro us H3 ⟨s4,iu⟩ p1 hp1
     have s5:=Same.upd (o:=.lst us) hp1
     have iu':IsAll H3 us ((extW tl).map tupS):=iu
     have lu:us.length=3:=by rw [iu'.length];rfl
     walk_at "rd"
     refine rd_extend (s5 _ _ (s4 _ _ hy)) upd_same (small_ln (by lia)) ?_
     walk_at "rd"
     refine ⟨⟨_,rfl⟩,fun b u h=>?_,_,upd_same,?_⟩
     ·rw [upd_ne (ne_of_none h hl2)]
      exact s5 _ _ (s4 _ _ (s3 _ _ h))
     ·rw [List.take_add_one,htj,List.flatMap_append,List.map_append]
      have e1:(some tl).toList.flatMap extW=extW tl:=by simp
      rw [e1]
      exact growL (s5 _ _ (s4 _ _ hy)) ((iy.same s4).same s5) (iu'.same s5) (noLs_tupS _) (noLs_tupS _)
   ·rintro σ H2 ⟨⟨v4,rfl⟩,s3,ys,hy,iy⟩
    walk_at "rd"
    refine ⟨l2,ys,⟨_,_,_,rfl⟩,sH.trans s3,sH.free hl2,hy,?_⟩
    rw [lz,List.take_of_length_le (by rw [tell_len];exact Nat.le_refl _)] at iy
    exact iy
  ·rintro σ H1 ⟨l,zs,⟨v2,v3,v4,rfl⟩,sH,hlH,hz,iz⟩
   walk_at "rd"
   exact q l zs H1 sH hlH hz iz
end
end My
namespace My
open PySem L2
noncomputable def grow (n:Nat) (os:List (List (Int×Int))) (ts:List (List Str)):List (List (Int×Int)):=ts.flatMap fun ws=>os.map fun ps=>newO n ps ws
noncomputable def unb:Nat→List (List (Int×Int))
 | 0=>[]
 | 1=>[[]]
 | n + 2=>(grow (n + 1) (unb (n + 1)) (tell (n + 1))).filter fun g=> !barB (n + 2) g
theorem grow_len (n:Nat) (os:List (List (Int×Int))):∀ ts:List (List Str),(grow n os ts).length=ts.length * os.length
 | []=>by simp [grow]
 | t::ts=>by
  have ih:=grow_len n os ts
  unfold grow at ih ⊢
  rw [List.flatMap_cons,List.length_append,ih,List.length_map,List.length_cons,Nat.add_mul,Nat.one_mul,Nat.add_comm]
theorem unb_len:∀ n,n≤4→(unb n).length≤729
 | 0,_=>by simp [unb]
 | 1,_=>by simp [unb]
 | 2,_=>by
  have h:=List.length_filter_le (fun g=> !barB 2 g) (grow 1 (unb 1) (tell 1))
  rw [grow_len,tell_len] at h
  exact Nat.le_trans h (by decide)
 | 3,_=>by
  have h2:(unb 2).length≤3:=by
   have h:=List.length_filter_le (fun g=> !barB 2 g) (grow 1 (unb 1) (tell 1))
   rw [grow_len,tell_len] at h
   exact Nat.le_trans h (by decide)
  have h:=List.length_filter_le (fun g=> !barB 3 g) (grow 2 (unb 2) (tell 2))
  rw [grow_len,tell_len] at h
  have:3 ^ 2 * (unb 2).length≤729:=by lia
  exact Nat.le_trans h this
 | 4,_=>by
  have h2:(unb 2).length≤3:=by
   have h:=List.length_filter_le (fun g=> !barB 2 g) (grow 1 (unb 1) (tell 1))
   rw [grow_len,tell_len] at h
   exact Nat.le_trans h (by decide)
  have h3:(unb 3).length≤27:=by
   have h:=List.length_filter_le (fun g=> !barB 3 g) (grow 2 (unb 2) (tell 2))
   rw [grow_len,tell_len] at h
   have:3 ^ 2 * (unb 2).length≤27:=by lia
   exact Nat.le_trans h this
  have h:=List.length_filter_le (fun g=> !barB 4 g) (grow 3 (unb 3) (tell 3))
  rw [grow_len,tell_len] at h
  have:3 ^ 3 * (unb 3).length≤729:=by lia
  exact Nat.le_trans h this
 | n + 5,h=>absurd h (by lia)
noncomputable def lowP (n:Nat) (ps:List (Int×Int)):List (Int×Int):=ps.filter fun p=>decide (p.1 < (n:Int))&&decide (p.2 < (n:Int))
theorem mem_low {n:Nat} {ps:List (Int×Int)} {p:Int×Int}:p∈lowP n ps↔p∈ps∧p.1 < n∧p.2 < n:=by
 unfold lowP
 rw [List.mem_filter]
 simp
theorem has_low {n:Nat} {ps:List (Int×Int)} {i j:Int} (hi:i < n) (hj:j < n):has (lowP n ps) i j=has ps i j:=by
 rw [Bool.eq_iff_iff,has_iff,has_iff,mem_low]
 exact ⟨fun h=>h.1,fun h=>⟨h,hi,hj⟩⟩
theorem low_lt {n:Nat} {ps:List (Int×Int)} {i j:Int} (h:has (lowP n ps) i j=true):i < n∧j < n∧has ps i j=true:=by
 obtain ⟨a,b,c⟩:=mem_low.mp (has_iff.mp h)
 exact ⟨b,c,has_iff.mpr a⟩
theorem low_ord {n:Nat} {ps:List (Int×Int)} (ho:Ord (n + 1) ps) (h1:1≤n):Ord n (lowP n ps):=by
 refine ord_of h1 (by have:=ho.hi;lia) (fun p hp=>?_) ((pw_of ho.up).filter _)
 obtain ⟨a,b,c⟩:=mem_low.mp hp
 obtain ⟨g1,g2,g3,g4,g5⟩:=ho.ix p a
 exact ⟨g1,b,g3,c,g5⟩
theorem low_bar {n:Nat} {ps:List (Int×Int)} (ho:Ord (n + 1) ps) (h1:1≤n) (hb:barB (n + 1) ps=false):barB n (lowP n ps)=false:=by
 cases g:barB n (lowP n ps) with
 | false=>rfl
 | true=>
  have hB:Brd (n + 1) ps:=by
   rcases (brd_iff (low_ord ho h1)).mp g with ⟨a,b,c,d,h⟩ | ⟨a,b,c,d,d0,d1,h⟩
   ·left
    refine ⟨a,b,c,d,?_⟩
    unfold bar2B at h ⊢
    simp only [Bool.and_eq_true,Bool.not_eq_true'] at h ⊢
    obtain ⟨⟨h1,h2⟩,h3,h4⟩:=h
    obtain ⟨a1,b1,e1⟩:=low_lt h1
    obtain ⟨c1,d1,e2⟩:=low_lt h2
    rw [has_low a1 d1] at h3
    rw [has_low c1 b1] at h4
    exact ⟨⟨e1,e2⟩,h3,h4⟩
   ·right
    refine ⟨a,b,c,d,d0,by lia,?_⟩
    unfold bar3B at h ⊢
    simp only [Bool.and_eq_true,Bool.not_eq_true'] at h ⊢
    obtain ⟨⟨h1,h2⟩,h3,h4⟩:=h
    obtain ⟨a1,b1,e1⟩:=low_lt h1
    obtain ⟨b2,c1,e2⟩:=low_lt h2
    rw [has_low a1 d1] at h3
    rw [has_low d1 c1] at h4
    exact ⟨⟨e1,e2⟩,h3,h4⟩
  rw [(brd_iff ho).mpr hB] at hb
  cases hb
noncomputable def wordOf (ps:List (Int×Int)) (n k:Nat):Str:=if has ps n k=true then "less" else if has ps k n=true then "more" else "beside"
theorem wordOf_wd (ps:List (Int×Int)) (n k:Nat):Wd (wordOf ps n k):=by
 unfold wordOf Wd
 split
 ·exact .inl rfl
 ·split
  ·exact .inr (.inl rfl)
  ·exact .inr (.inr rfl)
theorem no_both {n:Nat} {ps:List (Int×Int)} (ho:Ord n ps) (hb:barB n ps=false) {a b:Int} (h1:has ps a b=true) (h2:has ps b a=true):False:=by
 have ir:∀ x:Int,has ps x x=false:=fun x=>by
  cases g:has ps x x with
  | false=>rfl
  | true=>exact absurd rfl (ho.in g).2.2.2.2
 have:Brd n ps:=.inl ⟨a,b,b,a,by unfold bar2B;rw [h1,h2,ir,ir];rfl⟩
 rw [(brd_iff ho).mpr this] at hb
 cases hb
theorem newO_low {n:Nat} {ps:List (Int×Int)} (ho:Ord (n + 1) ps) (hb:barB (n + 1) ps=false):newO n (lowP n ps) ((List.range n).map (wordOf ps n))=ps:=by
 refine newO_of ho fun p=>?_
 have gd:∀ k,k < n→((List.range n).map (wordOf ps n)).getD k ""=wordOf ps n k:=fun k hk=>by
  rw [List.getD_eq_getElem?_getD,List.getElem?_map,List.getElem?_range hk]
  rfl
 constructor
 ·intro hp
  obtain ⟨g1,g2,g3,g4,g5⟩:=ho.ix p hp
  by_cases c1:p.1 < n
  ·by_cases c2:p.2 < n
   ·exact .inl (mem_low.mpr ⟨hp,c1,c2⟩)
   ·have e2:p.2=n:=by lia
    obtain ⟨k,hk⟩:∃ k:Nat,p.1=k:=⟨p.1.toNat,by lia⟩
    have hkn:k < n:=by lia
    refine .inr (mem_nwT.mpr ⟨k,hkn,mem_nwI.mpr (.inr ⟨?_,by rw [←hk,←e2]⟩)⟩)
    have hh:has ps k n=true:=has_iff.mpr (by rw [←hk,←e2];exact hp)
    rw [gd k hkn,wordOf,if_neg (fun z=>no_both ho hb z hh),if_pos hh]
  ·have e1:p.1=n:=by lia
   obtain ⟨k,hk⟩:∃ k:Nat,p.2=k:=⟨p.2.toNat,by lia⟩
   have hkn:k < n:=by lia
   refine .inr (mem_nwT.mpr ⟨k,hkn,mem_nwI.mpr (.inl ⟨?_,by rw [←hk,←e1]⟩)⟩)
   have hh:has ps n k=true:=has_iff.mpr (by rw [←hk,←e1];exact hp)
   rw [gd k hkn,wordOf,if_pos hh]
 ·rintro (h | h)
  ·exact (mem_low.mp h).1
  ·obtain ⟨k,hk,h1⟩:=mem_nwT.mp h
   rw [gd k hk] at h1
   rcases mem_nwI.mp h1 with ⟨e,rfl⟩ | ⟨e,rfl⟩
   ·unfold wordOf at e
    split at e
    ·rename_i g;exact has_iff.mp g
    ·split at e <;> exact absurd e (by decide)
   ·unfold wordOf at e
    split at e
    ·exact absurd e (by decide)
    ·split at e
     ·rename_i g;exact has_iff.mp g
     ·exact absurd e (by decide)
theorem unb_all:∀ n ps,1≤n→Ord n ps→barB n ps=false→ps∈unb n
 | 0,_,h,_,_=>absurd h (by decide)
 | 1,ps,_,ho,_=>by
  have:ps=[]:=by
   cases ps with
   | nil=>rfl
   | cons p r=>
    obtain ⟨g1,g2,g3,g4,g5⟩:=ho.ix p List.mem_cons_self
    lia
  rw [this]
  exact List.mem_cons_self
 | n + 2,ps,_,ho,hb=>by
  rw [unb,List.mem_filter]
  refine ⟨?_,by rw [hb];rfl⟩
  unfold grow
  refine List.mem_flatMap.mpr ⟨(List.range (n + 1)).map (wordOf ps (n + 1)),(tell_mem _ _).mpr ⟨by simp,fun v hv=>?_⟩,List.mem_map.mpr ⟨lowP (n + 1) ps,unb_all (n + 1) _ (by lia) (low_ord ho (by lia)) (low_bar ho (by lia) hb),newO_low ho hb⟩⟩
  obtain ⟨k,_,rfl⟩:=List.mem_map.mp hv
  exact wordOf_wd _ _ _
theorem noLs_ords (n:Nat):∀ qss:List (List (Int×Int)),noLs (qss.map (ordD n))=true
 | []=>rfl
 | q::qss=>by
  rw [List.map_cons,noLs,noLs_ords n qss]
  unfold ordD
  rw [noL,noLs,noLs,noLs,noL,noL,noLs_pr]
  rfl
theorem newO_ord {n:Nat} {ps:List (Int×Int)} {ws:List Str} (ho:Ord n ps) (h7:n≤7):Ord (n + 1) (newO n ps ws):=by
 refine ord_of (by lia) (by lia) (fun p hp=>?_) (gAll_up _ _ _)
 obtain ⟨i,j,hi,hj,rfl,hf⟩:=mem_gAll.mp hp
 have hp2:((i:Int),(j:Int))∈ps++nwT n ws n:=by
  rw [Bool.or_eq_true,has_iff,has_iff] at hf
  exact List.mem_append.mpr hf
 exact app_in ho (Nat.le_refl _) _ hp2
theorem grow_ord {n:Nat} {os:List (List (Int×Int))} {ts:List (List Str)} (h7:n≤7) (ho:∀ ps∈os,Ord n ps):∀ g∈grow n os ts,Ord (n + 1) g:=fun g hg=>by
 unfold grow at hg
 obtain ⟨ws,_,h⟩:=List.mem_flatMap.mp hg
 obtain ⟨ps,hps,rfl⟩:=List.mem_map.mp h
 exact newO_ord (ho ps hps) h7
theorem grow_snoc (n:Nat) (os:List (List (Int×Int))) (ts:List (List Str)) (ws:List Str):grow n os (ts++[ws])=grow n os ts++os.map fun ps=>newO n ps ws:=by
 unfold grow
 rw [List.flatMap_append]
 simp
theorem ln20 {n:Nat} (h:n≤30000):n≤sizeLine:=Nat.le_trans h (by decide)
noncomputable def UnbOk (n:Nat) (os:List (List (Int×Int))):Prop:=∀ ps∈os,Ord n ps∧barB n ps=false
section
variable {P:Program} {w:World} {K:PySem.W.Frag} {mg:Str→Option Value} {base:Heap} {t:Ad}
noncomputable def sp_unbarred_orders:Sp:=fun vs H Q _=>∃ n:Nat,vs=[.int n]∧1≤n∧n≤4∧∀ l zs H',Same H H'→H l=none→H' l=some (.lst zs)→IsAll H' zs ((unb n).map (ordD n))→UnbOk n (unb n)→Q (.ref l) H'
theorem ok_unbarred_orders (T:Txt K mg t):FnOk P w K mg base CX0 7 t.a_unbarred_orders t.d_unbarred_orders ["many"] sp_unbarred_orders:=by
 refine T.F_unbarred_orders.ok sc_unbarred_orders (fun vs H Q E h=>?_) (fun cdv A outer s H vs Q E hr h=>?_)
 ·obtain ⟨n,rfl,_⟩:=h
  rfl
 ·obtain ⟨n,rfl,n1,n4,q⟩:=h
  refine ⟨_,(pss_cons (ps_set (i:=1) sc_unbarred_orders.nd rfl (Or.inl rfl) (pe_lst (pa_cons (pe_tup (pa_cons pe_int (pa_cons (pe_tup pa_nil) pa_nil))) pa_nil)))
   (pss_cons (ps_for PassesOwn.never rfl (pi_range2 rfl T.n_range (pa_cons pe_int (pa_cons (pv 0) pa_nil))) (pg_name (i:=2) sc_unbarred_orders.nd rfl (Or.inl rfl)) (pss_cons (ps_set (i:=3) sc_unbarred_orders.nd rfl (Or.inl rfl) (pe_lst pa_nil))
   (pss_cons (ps_for PassesOwn.never rfl (k_plst K (pe_call (ok_all_tellings T) (hr.mono (by decide)) rfl T.m_all_tellings T.F_all_tellings.kp T.b_all_tellings .nil pass0 (pa_cons (pv 2) pa_nil))) (pg_name (i:=4) sc_unbarred_orders.nd rfl (Or.inr rfl)) (pss_one (ps_expr (k_bm K PySem.F.plainAttrs_list PySem.F.slot_list_extend PySem.F.type_list_extend mt_extend (pv 3) (pa_cons (pe_lc rfl ⟨True.intro,True.intro,True.intro,(.inl rfl),True.intro⟩ (M:=["order","telling"]) (.own (.free 4 rfl rfl .nil)) (gk_name rfl) rfl (by decide +kernel) (k_plst K (pv 1)) (fun C fp s1 H1=>⟨pg_name (i:=0) (show (["order","telling"]:List Str).Nodup by decide +kernel) rfl (Or.inl rfl),pif_nil,(pe_call (ok_with_newest T) (hr.mono (by decide)) rfl T.m_with_newest T.F_with_newest.kp T.b_with_newest .nil pass0 (pa_cons (pv 0) (pa_cons (pv 1) pa_nil)))⟩)) pa_nil)))))
   (pss_one (ps_set_lc (i:=1) sc_unbarred_orders.nd rfl rfl rfl rfl ⟨True.intro,True.intro,True.intro,True.intro⟩ (M:=["order"]) (.own .nil) (gk_name rfl) rfl (by decide +kernel) (k_plst K (pv 3)) (fun C fp s1 H1=>⟨pg_name (i:=0) (show (["order"]:List Str).Nodup by decide +kernel) rfl (Or.inl rfl),pif_one (pt_cmpR o_isN (pe_call (ok_bar T) (hr.mono (by decide)) rfl T.m_bar T.F_bar.kp T.b_bar .nil pass0 (pa_cons (pv 0) pa_nil)) pe_non (nomark _)),(pv 0)⟩))))))
   (pss_one (ps_ret (pv 1))))),?_⟩
  walk_at "rd"
  refine ⟨Nat.zero_le _,fun p0 hp0=>?_⟩
  have s0:=Same.upd (o:=.tup []) hp0
  walk_at "rd"
  refine ⟨by show 2≤sizeLine;decide,fun p1 hp1=>?_⟩
  have s1:=Same.upd (o:=.tup [V.int 1,V.ref p0]) hp1
  have n01:p0≠p1:=ne_of_none upd_same hp1
  walk_at "rd"
  refine ⟨by show 1≤sizeLine;decide,fun l hl=>?_⟩
  have s2:=Same.upd (o:=.lst [V.ref p1]) hl
  walk_at "rd"
  refine rd_rng2 ?_
  walk_at "rd"
  refine ⟨1,n,rfl,⟨by lia,by lia,by lia,by lia⟩,?_⟩
  refine fp_range (fun i σ H'=>∃ l zs,(∃ v2 v3 v4,σ=[some (.int n),some (.ref l),v2,v3,v4])∧Same H H'∧H l=none∧H' l=some (.lst zs)∧IsAll H' zs ((unb (i + 1)).map (ordD (i + 1)))∧UnbOk (i + 1) (unb (i + 1)))
   ⟨l,[V.ref p1],⟨_,_,_,rfl⟩,(s0.trans s1).trans s2,(s0.trans s1).free hl,upd_same,.cons (.tup (s2 _ _ upd_same) (.cons (.int _) (.cons (.tup (s2 _ _ (by rw [upd_ne n01,upd_same])) .nil) .nil))) .nil,fun ps hps=>by
    rcases List.mem_singleton.mp hps with rfl
    exact ⟨ord_of (by decide) (by decide) (fun _ h=>nomatch h) .nil,rfl⟩⟩ ?_ ?_
  ·rintro i σ H1 hi ⟨l,zs,⟨v2,v3,v4,rfl⟩,sH,hlH,hz,iz,hU⟩
   have hi3:i + 1≤3:=by lia
   have lz:zs.length=(unb (i + 1)).length:=by rw [iz.length,List.length_map]
   have u729:=unb_len (i + 1) (by lia)
   have t27:3 ^ (i + 1)≤27:=Nat.le_trans (Nat.pow_le_pow_right (by decide) hi3) (by decide)
   rw [show (1:Int) + (i:Int)=((i + 1:Nat):Int) by lia]
   walk_at "rd"
   refine ⟨Nat.zero_le _,fun l2 hl2=>?_⟩
   have s3:=Same.upd (o:=.lst []) hl2
   have el2:upd H1 l2 (.lst []) l2=some (.lst []):=upd_same
   walk_at "rd"
   refine ⟨i + 1,rfl,hi3,fun l3 us H2 s4 hl3 hu iu=>?_⟩
   have lu:us.length=3 ^ (i + 1):=by rw [iu.length,List.length_map,tell_len]
   refine ⟨l3,rfl,⟨us,SqL.of hu⟩,?_⟩
   have n23:l2≠l3:=ne_of_none el2 hl3
   refine fp_list (K:=K) (xs:=us) (fun j σ H'=>(∃ v4,σ=[some (.int n),some (.ref l),some (.int ((i + 1:Nat):Int)),some (.ref l2),v4])∧SameT l2 H2 H'∧∃ ys,H' l2=some (.lst ys)∧IsAll H' ys ((grow (i + 1) (unb (i + 1)) ((tell (i + 1)).take j)).map (ordD (i + 2)))) ⟨⟨_,rfl⟩,SameT.refl _ _,[],s4 _ _ el2,.nil⟩ (fun j σ H' _ h=>SqL.of (h.2.1 _ _ hu (Ne.symm n23))) ?_ ?_
   ·rintro j x σ H3 hx ⟨⟨v4,rfl⟩,s5,ys,hy,iy⟩
    have hj:j < us.length:=(List.getElem?_eq_some_iff.mp hx).1
    have tm:∀ (c:Addr) (vs:List V),H2 c=some (.tup vs)→H3 c=some (.tup vs):=fun c vs e=>s5 _ _ e (ne_of e (s4 _ _ el2) (by intro z;cases z))
    obtain ⟨d,ed,id⟩:=(iu.tmono tm (noLs_tupS _)).get' hx
    rw [List.getElem?_map] at ed
    cases htj:(tell (i + 1))[j]? with
    | none=>rw [htj] at ed;cases ed
    | some tl=>
    rw [htj] at ed
    cases ed
    obtain ⟨htl,htw⟩:=(tell_mem (i + 1) tl).mp (List.mem_of_getElem? htj)
    have nl2:l≠l2:=ne_of_none hz hl2
    have hz3:H3 l=some (.lst zs):=s5 _ _ (s4 _ _ (s3 _ _ hz)) nl2
    have iz3:IsAll H3 zs ((unb (i + 1)).map (ordD (i + 1))):=((iz.same s3).same s4).tmono tm (noLs_ords _ _)
    have ly:ys.length≤27 * 729:=by
     rw [iy.length,List.length_map,grow_len]
     refine Nat.mul_le_mul ?_ u729
     rw [List.length_take]
     lia
    walk_at "rd"
    refine ⟨tyV_lst hy,?_⟩
    walk_at "rd"
    refine ⟨l,rfl,⟨zs,SqL.of hz3⟩,?_⟩
    refine lp_list (K:=K) (xs:=zs) (ln20 (by lia)) (fun m rs H'=>Same H3 H'∧IsAll H' rs ((((unb (i + 1)).take m).map fun ps=>newO (i + 1) ps tl).map (ordD (i + 2)))) ⟨Same.refl _,.nil⟩ (by
     rintro m rs H' ⟨_,h⟩
     rw [h.length,List.length_map,List.length_map,List.length_take]
     lia) (fun m rs H' _ h=>SqL.of (h.1 _ _ hz3)) ?_ ?_
    ·rintro m x2 rs H4 hx2 ⟨s6,ir⟩
     obtain ⟨d2,ed2,id2⟩:=(iz3.same s6).get' hx2
     rw [List.getElem?_map] at ed2
     cases hps:(unb (i + 1))[m]? with
     | none=>rw [hps] at ed2;cases ed2
     | some ps=>
     rw [hps] at ed2
     cases ed2
     walk_at "rd"
     refine ⟨_,_,i + 1,ps,tl,rfl,id2,(hU ps (List.mem_of_getElem? hps)).1,by lia,id.same s6,htl,htw,fun z H5 s7 iz5 _=>⟨s6.trans s7,?_⟩⟩
     rw [List.take_add_one,hps,List.map_append,List.map_append]
     exact (ir.same s7).append (.cons iz5 .nil)
    ·rintro rs H4 ⟨s6,ir⟩ p2 hp2
     have s7:=Same.upd (o:=.lst rs) hp2
     rw [lz,List.take_length] at ir
     have lr:rs.length≤729:=by rw [ir.length,List.length_map,List.length_map];exact u729
     walk_at "rd"
     refine rd_extend (s7 _ _ (s6 _ _ hy)) upd_same (ln20 (by lia)) ?_
     walk_at "rd"
     refine ⟨⟨_,rfl⟩,fun b u h g=>?_,_,upd_same,?_⟩
     ·rw [upd_ne g]
      exact s7 _ _ (s6 _ _ (s5 _ _ h g))
     ·rw [List.take_add_one,htj,show (some tl).toList=[tl] from rfl,grow_snoc,List.map_append]
      exact growL (s7 _ _ (s6 _ _ hy)) ((iy.same s6).same s7) (ir.same s7) (noLs_ords _ _) (noLs_ords _ _)
   ·rintro σ H3 ⟨⟨v4,rfl⟩,s5,ys,hy,iy⟩
    rw [lu,List.take_of_length_le (by rw [tell_len];exact Nat.le_refl _)] at iy
    have gO:=grow_ord (n:=i + 1) (os:=unb (i + 1)) (ts:=tell (i + 1)) (by lia) fun ps h=>(hU ps h).1
    have lG:(grow (i + 1) (unb (i + 1)) (tell (i + 1))).length≤27 * 729:=by
     rw [grow_len,tell_len]
     exact Nat.mul_le_mul t27 u729
    have eG:unb (i + 1 + 1)=(grow (i + 1) (unb (i + 1)) (tell (i + 1))).filter fun g=> !barB (i + 2) g:=rfl
    generalize grow (i + 1) (unb (i + 1)) (tell (i + 1))=G at iy gO lG eG
    have ly:ys.length=G.length:=by rw [iy.length,List.length_map]
    walk_at "rd"
    refine ⟨l2,rfl,⟨ys,SqL.of hy⟩,?_⟩
    refine lp_list (K:=K) (xs:=ys) (ln20 (by lia)) (fun m rs H'=>Same H3 H'∧IsAll H' rs (((G.take m).filter fun g=> !barB (i + 2) g).map (ordD (i + 2)))) ⟨Same.refl _,.nil⟩ (by
     rintro m rs H' ⟨_,h⟩
     rw [h.length,List.length_map]
     refine Nat.le_trans (List.length_filter_le _ _) ?_
     rw [List.length_take]
     lia) (fun m rs H' _ h=>SqL.of (h.1 _ _ hy)) ?_ ?_
    ·rintro m x2 rs H4 hx2 ⟨s6,ir⟩
     obtain ⟨d2,ed2,id2⟩:=(iy.same s6).get' hx2
     rw [List.getElem?_map] at ed2
     cases hps:G[m]? with
     | none=>rw [hps] at ed2;cases ed2
     | some ps=>
     rw [hps] at ed2
     cases ed2
     rw [List.take_add_one,hps,show (some ps).toList=[ps] from rfl,List.filter_append,filter_one,List.map_append]
     walk_at "rd"
     refine ⟨_,i + 2,ps,rfl,id2,gO ps (List.mem_of_getElem? hps),fun v H5 s7 iv=>?_⟩
     walk_at "rd"
     rw [bar_is iv]
     refine ifB (fun g=>?_) (fun g=>?_)
     ·walk_at "rd"
      rw [if_pos g]
      exact ⟨s6.trans s7,(ir.same s7).append (.cons (id2.same s7) .nil)⟩
     ·rw [if_neg (by rw [g];exact Bool.false_ne_true),List.map_nil,List.append_nil]
      exact ⟨s6.trans s7,ir.same s7⟩
    ·rintro rs H4 ⟨s6,ir⟩ p2 hp2
     have s7:=Same.upd (o:=.lst rs) hp2
     rw [ly,List.take_length,←eG] at ir
     walk_at "rd"
     have sA:Same H H4:=fun b u h=>s6 _ _ (s5 _ _ (s4 _ _ (s3 _ _ (sH _ _ h))) (ne_of_none (sH _ _ h) hl2))
     refine ⟨p2,rs,⟨_,_,_,rfl⟩,sA.trans s7,sA.free hp2,upd_same,ir.same s7,fun ps hps=>?_⟩
     rw [eG,List.mem_filter] at hps
     exact ⟨gO ps hps.1,by simpa using hps.2⟩
  ·rintro σ H1 ⟨l,zs,⟨v2,v3,v4,rfl⟩,sH,hlH,hz,iz,hU⟩
   walk_at "rd"
   have e:(((n:Int) - 1).toNat + 1)=n:=by lia
   rw [e] at iz hU
   exact q l zs H1 sH hlH hz iz hU
end
end My
namespace My
open PySem L2
noncomputable def farO (n:Nat) (ps qs:List (Int×Int)):Nat:=farA (dif ps qs) n
noncomputable def keyD (n:Nat) (ps qs:List (Int×Int)):PyData:=.tuple [.int (farO n ps qs:Nat),ordD n qs]
theorem cmp_prs:∀ ps qs:List (Int×Int),cmpDs (ps.map prD) (qs.map prD)=true
 | [],_=>by rw [List.map_nil,cmpDs]
 | p::ps,[]=>by rw [List.map_cons,List.map_nil,cmpDs]
 | p::ps,q::qs=>by
  rw [List.map_cons,List.map_cons,cmpDs]
  split
  ·exact cmp_prs ps qs
  ·unfold prD
   rw [cmpD,cmpDs]
   split
   ·rw [cmpDs]
    split
    ·rw [cmpDs]
    ·rw [cmpD]
   ·rw [cmpD]
theorem cmp_ord (n:Nat) (ps qs:List (Int×Int)):cmpD (ordD n ps) (ordD n qs)=true:=by
 unfold ordD
 rw [cmpD,cmpDs]
 split
 ·rw [cmpDs]
  split
  ·rw [cmpDs]
  ·rw [cmpD];exact cmp_prs ps qs
 ·rw [cmpD]
theorem cmp_key (n:Nat) (ps qs rs:List (Int×Int)):cmpD (keyD n ps qs) (keyD n ps rs)=true:=by
 unfold keyD
 rw [cmpD,cmpDs]
 split
 ·rw [cmpDs]
  split
  ·rw [cmpDs]
  ·exact cmp_ord n qs rs
 ·rw [cmpD]
noncomputable def flP (qs:List (Int×Int)):List Int:=qs.flatMap fun p=>[p.1,p.2]
noncomputable def kc (n:Nat) (ps qs:List (Int×Int)):List Int:=(farO n ps qs:Int)::flP qs
theorem flP_inj:∀ {as bs:List (Int×Int)},flP as=flP bs→as=bs
 | [],[],_=>rfl
 | [],b::bs,h=>by cases h
 | a::as,[],h=>by cases h
 | a::as,b::bs,h=>by
  have h':a.1::a.2::flP as=b.1::b.2::flP bs:=h
  injection h' with h1 h2
  injection h2 with h2 h3
  rw [flP_inj h3,show a=b from Prod.ext h1 h2]
theorem lt_prs:∀ as bs:List (Int×Int),ltDs (as.map prD) (bs.map prD)=HT.lexLt (flP as) (flP bs)
 | [],[]=>rfl
 | [],b::bs=>rfl
 | a::as,[]=>rfl
 | a::as,b::bs=>by
  rw [List.map_cons,List.map_cons,ltDs,eqv_pr]
  show _=HT.lexLt (a.1::a.2::flP as) (b.1::b.2::flP bs)
  rw [HT.lexLt_cons,HT.lexLt_cons,←lt_prs as bs]
  by_cases h:a=b
  ·subst h
   simp
  ·rw [decide_eq_false h,if_neg Bool.false_ne_true]
   unfold prD
   rw [ltD,ltDs]
   by_cases h1:a.1=b.1
   ·have h2:¬a.2=b.2:=fun z=>h (Prod.ext h1 z)
    rw [if_pos (by simp [PyData.eqv,h1]),ltDs,if_neg (by simp [PyData.eqv,h2]),ltD,if_pos h1,if_neg h2]
   ·rw [if_neg (by simp [PyData.eqv,h1]),ltD,if_neg h1]
theorem lt_code (n:Nat) (ps qs rs:List (Int×Int)):ltD (keyD n ps qs) (keyD n ps rs)=HT.lexLt (kc n ps qs) (kc n ps rs):=by
 unfold keyD kc
 rw [ltD,ltDs,HT.lexLt_cons]
 by_cases h:(farO n ps qs:Int)=(farO n ps rs:Int)
 ·rw [if_pos (by simp [PyData.eqv,h]),if_pos h,ltDs]
  unfold ordD
  by_cases hq:qs=rs
  ·subst hq
   have:PyData.eqv (.tuple [.int (n:Int),.tuple (qs.map prD)]) (.tuple [.int (n:Int),.tuple (qs.map prD)])=true:=by
    have:=eqv_ord n n qs qs
    unfold ordD at this
    rw [this]
    simp
   rw [if_pos this,ltDs,lex_irr]
  ·have:PyData.eqv (.tuple [.int (n:Int),.tuple (qs.map prD)]) (.tuple [.int (n:Int),.tuple (rs.map prD)])=false:=by
    have:=eqv_ord n n qs rs
    unfold ordD at this
    rw [this]
    simp [hq]
   rw [this,if_neg Bool.false_ne_true,ltD,ltDs,if_pos (by simp [PyData.eqv]),ltDs]
   have e2:PyData.eqv (.tuple (qs.map prD)) (.tuple (rs.map prD))=false:=by
    rw [←this,PyData.eqv,PyData.eqv,PyData.eqvAll,PyData.eqvAll,PyData.eqvAll,PyData.eqv,PyData.eqv]
    simp
   rw [e2,if_neg Bool.false_ne_true,ltD]
   exact lt_prs qs rs
 ·rw [if_neg (by simp [PyData.eqv,h]),if_neg h,ltD]
noncomputable def Near (n:Nat) (ps qs:List (Int×Int)):Prop:=qs∈unb n∧∀ rs∈unb n,HT.lexLt (kc n ps rs) (kc n ps qs)=false
theorem lex_le {a b c:List Int} (h1:HT.lexLt c b=true) (h2:HT.lexLt a b=false):HT.lexLt a c=false:=by
 cases g:HT.lexLt a c with
 | false=>rfl
 | true=>rw [lex_tr g h1] at h2;cases h2
theorem ok_key (n:Nat) (ps qs:List (Int×Int)):okD (keyD n ps qs):=by
 obtain ⟨a,b⟩:=ok_ord n qs
 unfold keyD
 refine ⟨?_,?_⟩
 ·rw [PyData.canLay0,PyData.canLayAll0,PyData.canLayAll0,PyData.canLayAll0,a,PyData.canLay0]
  rfl
 ·have e:(ordD n qs).depth≤3:=by
   unfold ordD
   rw [PyData.depth,PyData.depthAll,PyData.depthAll,PyData.depthAll,PyData.depth,PyData.depth]
   have:PyData.depthAll (qs.map prD)≤1:=by
    induction qs with
    | nil=>simp [PyData.depthAll]
    | cons p qs ih=>
     rw [List.map_cons,PyData.depthAll]
     have e1:(prD p).depth=1:=rfl
     have:=ih (ok_ord n qs).1 (ok_ord n qs).2
     lia
   simp [PyData.depthAll]
   lia
  rw [PyData.depth,PyData.depthAll,PyData.depthAll,PyData.depthAll,PyData.depth]
  lia
section
variable {P:Program} {w:World} {K:PySem.W.Frag} {mg:Str→Option Value} {base:Heap} {t:Ad}
noncomputable def nqual:Str:="nearest"++".<locals>."++"<lambda>"
noncomputable def npos:Pos:=⟨111,46,111,86⟩
theorem rd_minK {σ:St} {H:Hp} {Q:VK} {Pt:Addr} {qual:Str} {pos:Pos} {fm:List (Option Nat)} {lt:R2} {ta:TA} {te:TE} (h:ta σ H fun vs H1=>TabIn H1 Pt qual pos∧∃ l xs x0,vs=[.ref l]∧xs[0]? =some x0∧
 ∀ (c:Addr) (H2:Hp),SameT Pt H1 H2→TabC H2 Pt qual pos c→H2 l=some (.lst xs)∧∃ W:Nat→Nat→V→Hp→Prop,MinW K σ l xs lt te (fun v=>(fmSt fm σ).set 0 (some v)) (fun H=>H c=some (.ext (codeAtH c qual))) W Q∧
  te ((fmSt fm σ).set 0 (some x0)) H2 fun k H3=>W 1 0 k H3):tMinK K Pt qual pos fm lt ta te σ H Q:=h
theorem tabIn_same {H H':Hp} {Pt:Addr} {qual:Str} {pos:Pos} (h:TabIn H Pt qual pos) (s:Same H H'):TabIn H' Pt qual pos:=by
 rcases h with z | ⟨c,z,y⟩
 ·exact .inl (s _ _ z)
 ·exact .inr ⟨c,s _ _ z,s _ _ y⟩
theorem tabC_same {H H':Hp} {Pt c:Addr} {qual:Str} {pos:Pos} (h:TabC H Pt qual pos c) (s:Same H H'):TabC H' Pt qual pos c:=⟨s _ _ h.1,s _ _ h.2⟩
theorem tabIn_ref {H:Hp} {Pt:Addr} {qual:Str} {pos:Pos} (h:TabIn H Pt qual pos):∃ ps,H Pt=some (.tbl ps):=by
 rcases h with z | ⟨c,z,y⟩
 ·exact ⟨_,z⟩
 ·exact ⟨_,z⟩
theorem is_tT {H H':Hp} {Pt:Addr} {tb:Array Value} (hp:H Pt=some (.tbl tb)) (s:SameT Pt H H') {x:V} {n:Nat} {ps:List (Int×Int)} (h:Is H x (ordD n ps)):Is H' x (ordD n ps):=
 h.tmono (fun c us e=>s _ _ e (ne_of e hp (by intro z;cases z))) (by unfold ordD;rw [noL,noLs,noLs,noLs,noL,noL,noLs_pr];rfl)
theorem all_tT {H H':Hp} {Pt:Addr} {tb:Array Value} (hp:H Pt=some (.tbl tb)) (s:SameT Pt H H') {xs:List V} {n:Nat} {os:List (List (Int×Int))} (h:IsAll H xs (os.map (ordD n))):IsAll H' xs (os.map (ordD n)):=
 h.tmono (fun c us e=>s _ _ e (ne_of e hp (by intro z;cases z))) (noLs_ords _ _)
noncomputable def sp_nearest (Pt:Addr):Sp:=fun vs H Q _=>∃ x n ps,vs=[x]∧Is H x (ordD n ps)∧Ord n ps∧n≤4∧TabIn H Pt nqual npos∧
 ∀ z H' qs,SameT Pt H H'→TabIn H' Pt nqual npos→Is H' z (ordD n qs)→Near n ps qs→UnbOk n (unb n)→Q z H'
theorem unb_pos {n:Nat} (h1:1≤n) (h4:n≤4):0 < (unb n).length:=by
 have:([]:List (Int×Int))∈unb n:=by
  have ho:Ord n []:=ord_of h1 (by lia) (fun _ h=>nomatch h) .nil
  exact unb_all n [] h1 ho rfl
 exact List.length_pos_of_mem this
theorem ok_nearest (T:Txt K mg t) {c Pt:Addr} (B:TabK K base mg "nearest" c Pt):FnOk P w K mg base CX0 9 t.a_nearest t.d_nearest ["order"] (sp_nearest Pt):=by
 refine T.F_nearest.okC B T.m_nearest sc_nearest (fun vs H Q E h=>?_) (fun A outer s H vs Q E hr h=>?_)
 ·obtain ⟨x,n,ps,rfl,_⟩:=h
  rfl
 ·obtain ⟨x,n,ps,rfl,hx,ho,n4,tb,q⟩:=h
  refine ⟨_,(pss_cons (ps_expr (pe_call (ok_need_order T) (hr.mono (by decide)) rfl T.m_need_order T.F_need_order.kp T.b_need_order .nil pass0 (pa_cons (pv 0) pa_nil)))
   (pss_cons (ps_if (pt_cmpR (op_gt) (pe_ix (k_ix K) (pv 0) pe_int (fun _ _=>rfl)) (pe_gint rfl T.c_MOST_MENDED) (nomark _)) (pss_one ps_never) pss_nil)
   (pss_one (ps_ret (pe_minK (c:=c) (P:=Pt) (M:=["near","order"]) (y:="near") rfl hr.depth (by rfl) T.n_min (pa_cons (pe_call (ok_unbarred_orders T) (hr.mono (by decide)) rfl T.m_unbarred_orders T.F_unbarred_orders.kp T.b_unbarred_orders .nil pass0 (pa_cons (pe_ix (k_ix K) (pv 0) pe_int (fun _ _=>rfl)) pa_nil)) pa_nil) B.b rfl rfl rfl ⟨True.intro,(.inl rfl),True.intro,True.intro⟩ rfl rfl rfl (.own (.free 0 rfl rfl .nil)) rfl rfl (fun _ _ _ _ _=>rfl) (op_ltD (hr.in1 (k:=7)).units)
    (fun q cd s1 H1=>pe_tup (pa_cons (pe_call (ok_unlike T) ((hr.in1 (k:=7)).deeper (k:=6) _) rfl T.m_unlike T.F_unlike.kp T.b_unlike .nil pass0 (pa_cons (pv 1) (pa_cons (pv 0) pa_nil))) (pa_cons (pv 0) pa_nil)))))))),?_⟩
  walk_at "rd"
  refine ⟨_,_,rfl,hx,ho.okd,ho.yes,fun H1 s1=>?_⟩
  obtain ⟨oa,ob,xs,rfl,ea,eb,hxs⟩:=is_ord (hx.same s1)
  walk_at "rd"
  refine ifF (decide_eq_false (by lia)) ?_
  walk_at "rd"
  refine rd_minK ?_
  walk_at "rd"
  refine ⟨n,rfl,ho.lo,n4,fun l zs H2 s2 hl hz iz hU=>?_⟩
  walk_at "rd"
  have tb2:TabIn H2 Pt nqual npos:=tabIn_same (tabIn_same tb s1) s2
  have lz:zs.length=(unb n).length:=by rw [iz.length,List.length_map]
  have lp:0 < zs.length:=by rw [lz];exact unb_pos ho.lo n4
  have hx2:Is H2 (.ref oa) (ordD n ps):=(hx.same s1).same s2
  obtain ⟨tbl,htb⟩:=tabIn_ref tb2
  have nlP:l≠Pt:=ne_of hz htb (by intro z;cases z)
  obtain ⟨x0,ex0⟩:∃ x0,zs[0]? =some x0:=⟨_,List.getElem?_eq_getElem lp⟩
  refine ⟨tb2,l,zs,x0,rfl,ex0,fun c' H3 s3 tc=>⟨s3 _ _ hz nlP,?_⟩⟩
  have get:∀ {j:Nat} {x:V} {H:Hp},SameT Pt H2 H→zs[j]? =some x→∃ qs,(unb n)[j]? =some qs∧Is H x (ordD n qs)∧Ord n qs:=fun {j x H} sH e=>by
   obtain ⟨d,ed,id⟩:=(all_tT htb sH iz).get' e
   rw [List.getElem?_map] at ed
   cases hq:(unb n)[j]? with
   | none=>rw [hq] at ed;cases ed
   | some qs=>rw [hq] at ed;cases ed;exact ⟨qs,rfl,id,(hU qs (List.mem_of_getElem? hq)).1⟩
  refine ⟨fun j b k H=>SameT Pt H2 H∧TabC H Pt nqual npos c'∧∃ qs,(unb n)[b]? =some qs∧Is H k (keyD n ps qs)∧∀ j' rs,j' < j→(unb n)[j']? =some rs→HT.lexLt (kc n ps rs) (kc n ps qs)=false,⟨?_,?_,?_⟩,?_⟩
  ·rintro j b k H ⟨sH,hc,_⟩
   exact ⟨sH _ _ hz nlP,hc.2⟩
  ·rintro j b k H4 x ⟨s4,hc,qs,hqs,ik,hmin⟩ hx
   obtain ⟨rs,hrs,ix,hor⟩:=get s4 hx
   have hx4:Is H4 (.ref oa) (ordD n ps):=is_tT htb s4 hx2
   walk_at "rd"
   refine ⟨_,_,n,ps,rs,rfl,hx4,ho,ix,hor,fun H5 s5=>?_⟩
   walk_at "rd"
   refine ⟨by show 2≤sizeLine;decide,fun p hp=>?_⟩
   have s6:=Same.upd (o:=.tup [V.int (farA (dif ps rs) n),x]) hp
   have s46:=s5.trans s6
   have ik6:Is (upd H5 p (.tup [V.int (farA (dif ps rs) n),x])) (.ref p) (keyD n ps rs):=.tup upd_same (.cons (.int _) (.cons (ix.same s46) .nil))
   refine ⟨keyD n ps rs,keyD n ps qs,ik6,ik.same s46,ok_key _ _ _,ok_key _ _ _,cmp_key _ _ _ _,?_⟩
   refine ⟨_,rfl,?_⟩
   cases g:ltD (keyD n ps rs) (keyD n ps qs) with
   | true=>
    rw [if_pos rfl]
    rw [lt_code] at g
    refine ⟨s4.trans s46.t,tabC_same hc s46,rs,hrs,ik6,fun j' ts hj' hts=>?_⟩
    by_cases e:j'=j
    ·subst e
     rw [hrs] at hts
     cases hts
     exact lex_irr _
    ·exact lex_le g (hmin j' ts (by lia) hts)
   | false=>
    rw [if_neg Bool.false_ne_true]
    rw [lt_code] at g
    refine ⟨s4.trans s46.t,tabC_same hc s46,qs,hqs,ik.same s46,fun j' ts hj' hts=>?_⟩
    by_cases e:j'=j
    ·subst e
     rw [hrs] at hts
     cases hts
     exact g
    ·exact hmin j' ts (by lia) hts
  ·rintro b k H4 x ⟨s4,hc,qs,hqs,ik,hmin⟩ hx
   obtain ⟨rs,hrs,ix,hor⟩:=get s4 hx
   rw [hqs] at hrs
   cases hrs
   refine q x H4 qs (((s1.trans s2).t).trans s4) (.inr ⟨c',hc⟩) ix ⟨List.mem_of_getElem? hqs,fun ts hts=>?_⟩ hU
   obtain ⟨j,hj⟩:=List.getElem?_of_mem hts
   exact hmin j ts (by rw [lz];exact (List.getElem?_eq_some_iff.mp hj).1) hj
  ·obtain ⟨rs,hrs,ix,hor⟩:=get s3 ex0
   have hx3:Is H3 (.ref oa) (ordD n ps):=is_tT htb s3 hx2
   walk_at "rd"
   refine ⟨_,_,n,ps,rs,rfl,hx3,ho,ix,hor,fun H5 s5=>?_⟩
   walk_at "rd"
   refine ⟨by show 2≤sizeLine;decide,fun p hp=>?_⟩
   have s6:=Same.upd (o:=.tup [V.int (farA (dif ps rs) n),x0]) hp
   have s46:=s5.trans s6
   refine ⟨s3.trans s46.t,tabC_same tc s46,rs,hrs,.tup upd_same (.cons (.int _) (.cons (ix.same s46) .nil)),fun j' ts hj' hts=>?_⟩
   have e:j'=0:=by lia
   subst e
   rw [hrs] at hts
   cases hts
   exact lex_irr _
noncomputable def sp_how_far (Pt:Addr):Sp:=fun vs H Q _=>∃ x n ps,vs=[x]∧Is H x (ordD n ps)∧Ord n ps∧n≤4∧TabIn H Pt nqual npos∧
 ∀ H' qs,SameT Pt H H'→TabIn H' Pt nqual npos→Near n ps qs→UnbOk n (unb n)→Q (.int (farO n ps qs:Nat)) H'
theorem ok_how_far (T:Txt K mg t) {c Pt:Addr} (B:TabK K base mg "nearest" c Pt):FnOk P w K mg base CX0 10 t.a_how_far t.d_how_far ["order"] (sp_how_far Pt):=by
 refine T.F_how_far.ok sc_how_far (fun vs H Q E h=>?_) (fun cdv A outer s H vs Q E hr h=>?_)
 ·obtain ⟨x,n,ps,rfl,_⟩:=h
  rfl
 ·obtain ⟨x,n,ps,rfl,hx,ho,n4,tb,q⟩:=h
  refine ⟨_,(pss_one (ps_ret (pe_call (ok_unlike T) (hr.mono (by decide)) rfl T.m_unlike T.F_unlike.kp T.b_unlike .nil pass0 (pa_cons (pv 0) (pa_cons (pe_call (ok_nearest T B) (hr.mono (by decide)) rfl T.m_nearest T.F_nearest.kp T.b_nearest .nil pass0 (pa_cons (pv 0) pa_nil)) pa_nil))))),?_⟩
  walk_at "rd"
  refine ⟨x,n,ps,rfl,hx,ho,n4,tb,fun z H1 qs s1 tb1 iz hN hU=>?_⟩
  walk_at "rd"
  obtain ⟨tbl,htb⟩:=tabIn_ref tb
  refine ⟨_,_,n,ps,qs,rfl,is_tT htb s1 hx,ho,iz,(hU qs hN.1).1,fun H2 s2=>?_⟩
  exact q H2 qs (s1.trans s2.t) (tabIn_same tb1 s2) hN hU
end
end My
namespace My
open PySem L2
theorem nd_len {α:Type} [DecidableEq α]:∀ {L M:List α},L.Nodup→(∀ x∈L,x∈M)→L.length≤M.length
 | [],M,_,_=>Nat.zero_le _
 | x::L,M,nd,sub=>by
  rw [List.nodup_cons] at nd
  have hx:=sub x (.head _)
  have:=nd_len (L:=L) (M:=M.erase x) nd.2 fun y hy=>(List.mem_erase_of_ne (fun z:y=x=>nd.1 (z▸hy))).mpr (sub y (.tail _ hy))
  rw [List.length_erase_of_mem hx] at this
  have:=List.length_pos_of_mem hx
  rw [List.length_cons]
  lia
noncomputable def dR (d:Nat→Bool) (s:Nat):Nat→List (Int×Int)
 | 0=>[]
 | m + 1=>dR d s m++(if d m=true then [((m:Int),(s:Int))] else [])
noncomputable def dA (d:Nat→Nat→Bool):Nat→List (Int×Int)
 | 0=>[]
 | n + 1=>dA d n++dR (fun f=>d f n) n n
theorem dR_len (d:Nat→Bool) (s:Nat):∀ m,(dR d s m).length=farR d m
 | 0=>rfl
 | m + 1=>by
  rw [dR,farR,List.length_append,dR_len d s m]
  split <;> rfl
theorem dA_len (d:Nat→Nat→Bool):∀ n,(dA d n).length=farA d n
 | 0=>rfl
 | n + 1=>by rw [dA,farA,List.length_append,dA_len d n,dR_len]
theorem mem_dR {d:Nat→Bool} {s:Nat} {p:Int×Int}:∀ {m:Nat},p∈dR d s m↔∃ f,f < m∧d f=true∧p=((f:Int),(s:Int))
 | 0=>⟨(fun h=>by cases h),fun ⟨f,hf,_⟩=>absurd hf (Nat.not_lt_zero f)⟩
 | m + 1=>by
  rw [dR,List.mem_append,mem_dR]
  constructor
  ·rintro (⟨f,hf,h1,h2⟩ | h)
   ·exact ⟨f,by lia,h1,h2⟩
   ·split at h
    ·rename_i g
     exact ⟨m,by lia,g,List.mem_singleton.mp h⟩
    ·cases h
  ·rintro ⟨f,hf,h1,h2⟩
   by_cases e:f=m
   ·subst e
    rw [if_pos h1]
    exact .inr (by rw [h2];exact .head _)
   ·exact .inl ⟨f,by lia,h1,h2⟩
theorem mem_dA {d:Nat→Nat→Bool} {p:Int×Int}:∀ {n:Nat},p∈dA d n↔∃ f s,f < s∧s < n∧d f s=true∧p=((f:Int),(s:Int))
 | 0=>⟨(fun h=>by cases h),fun ⟨f,s,_,hs,_⟩=>absurd hs (Nat.not_lt_zero s)⟩
 | n + 1=>by
  rw [dA,List.mem_append,mem_dA,mem_dR]
  constructor
  ·rintro (⟨f,s,h1,h2,h3,h4⟩ | ⟨f,h1,h2,h3⟩)
   ·exact ⟨f,s,h1,by lia,h3,h4⟩
   ·exact ⟨f,n,h1,by lia,h2,h3⟩
  ·rintro ⟨f,s,h1,h2,h3,h4⟩
   by_cases e:s=n
   ·subst e
    exact .inr ⟨f,h1,h3,h4⟩
   ·exact .inl ⟨f,s,h1,by lia,h3,h4⟩
theorem dR_nd (d:Nat→Bool) (s:Nat):∀ m,(dR d s m).Nodup
 | 0=>List.nodup_nil
 | m + 1=>by
  rw [dR]
  refine List.nodup_append.mpr ⟨dR_nd d s m,by split <;> simp,fun a ha b hb z=>?_⟩
  subst z
  obtain ⟨f,hf,_,e1⟩:=mem_dR.mp ha
  split at hb
  ·rw [e1] at hb
   have:=List.mem_singleton.mp hb
   injection this with this _
   have:f=m:=Int.ofNat.inj this
   lia
  ·cases hb
theorem dA_nd (d:Nat→Nat→Bool):∀ n,(dA d n).Nodup
 | 0=>List.nodup_nil
 | n + 1=>by
  rw [dA]
  refine List.nodup_append.mpr ⟨dA_nd d n,dR_nd _ _ _,fun a ha b hb z=>?_⟩
  subst z
  obtain ⟨f,s,_,hs,_,e1⟩:=mem_dA.mp ha
  obtain ⟨g,_,_,e2⟩:=mem_dR.mp hb
  rw [e1] at e2
  injection e2 with _ e2
  have:s=n:=Int.ofNat.inj e2
  lia
noncomputable def mm (p:Int×Int):Int×Int:=if p.1≤p.2 then p else (p.2,p.1)
noncomputable def dfL (ps qs:List (Int×Int)):List (Int×Int):=(ps++qs).filter fun p=>has ps p.1 p.2 != has qs p.1 p.2
theorem far_len {n:Nat} {ps qs:List (Int×Int)} (h1:Ord n ps) (h2:Ord n qs):(accP ((dfL ps qs).map mm)).length=farO n ps qs:=by
 have hin:∀ p,p∈dfL ps qs↔(has ps p.1 p.2 != has qs p.1 p.2)=true∧inN n p:=fun p=>by
  unfold dfL
  rw [List.mem_filter,List.mem_append]
  constructor
  ·rintro ⟨h,g⟩
   refine ⟨g,?_⟩
   rcases h with h | h
   ·exact h1.ix p h
   ·exact h2.ix p h
  ·rintro ⟨g,_⟩
   refine ⟨?_,g⟩
   cases ga:has ps p.1 p.2 with
   | true=>exact .inl (has_iff.mp ga)
   | false=>
    cases gb:has qs p.1 p.2 with
    | true=>exact .inr (has_iff.mp gb)
    | false=>rw [ga,gb] at g;cases g
 have key:∀ q,q∈accP ((dfL ps qs).map mm)↔q∈dA (dif ps qs) n:=fun q=>by
  rw [accP_mem,mem_dA,List.mem_map]
  constructor
  ·rintro ⟨p,hp,rfl⟩
   obtain ⟨g,a1,a2,a3,a4,a5⟩:=(hin p).mp hp
   obtain ⟨i,hi⟩:=Int.eq_ofNat_of_zero_le a1
   obtain ⟨j,hj⟩:=Int.eq_ofNat_of_zero_le a3
   rw [hi,hj] at g
   unfold mm
   by_cases h:p.1≤p.2
   ·rw [if_pos h]
    refine ⟨i,j,by lia,by lia,?_,Prod.ext hi hj⟩
    unfold dif
    simp at g ⊢
    exact .inl g
   ·rw [if_neg h]
    refine ⟨j,i,by lia,by lia,?_,Prod.ext hj hi⟩
    unfold dif
    simp at g ⊢
    exact .inr g
  ·rintro ⟨f,s,hf,hs,hd,rfl⟩
   have hfs:f < n:=by lia
   unfold dif at hd
   by_cases h:has ps f s=has qs f s
   ·have h':¬has ps s f=has qs s f:=by
     simp [h] at hd
     exact hd
    refine ⟨((s:Int),(f:Int)),(hin _).mpr ⟨by simpa using h',by dsimp only;lia,by dsimp only;lia,by dsimp only;lia,by dsimp only;lia,by dsimp only;lia⟩,?_⟩
    unfold mm
    rw [if_neg (by dsimp only;lia)]
   ·refine ⟨((f:Int),(s:Int)),(hin _).mpr ⟨by simpa using h,by dsimp only;lia,by dsimp only;lia,by dsimp only;lia,by dsimp only;lia,by dsimp only;lia⟩,?_⟩
    unfold mm
    rw [if_pos (by dsimp only;lia)]
 have e1:=nd_len (accP_nd ((dfL ps qs).map mm)) fun x hx=>(key x).mp hx
 have e2:=nd_len (dA_nd (dif ps qs) n) fun x hx=>(key x).mpr hx
 rw [dA_len] at e1 e2
 unfold farO
 lia
section
variable {P:Program} {w:World} {K:PySem.W.Frag} {mg:Str→Option Value} {base:Heap} {t:Ad}
noncomputable def sp_far:Sp:=fun vs H Q _=>∃ x y n ps qs,vs=[x,y]∧Is H x (ordD n ps)∧Is H y (ordD n qs)∧Ord n ps∧Ord n qs∧ps.length + qs.length≤75∧∀ H',Same H H'→Q (.int (farO n ps qs:Nat)) H'
theorem ok__law_far (T:Txt K mg t):FnOk P w K mg base CX0 1 t.a__law_far t.d__law_far ["_law_one","_law_other"] sp_far:=by
 refine T.F__law_far.ok sc__law_far (fun vs H Q E h=>?_) (fun cdv A outer s H vs Q E hr h=>?_)
 ·obtain ⟨x,y,n,ps,qs,rfl,_⟩:=h
  rfl
 ·obtain ⟨x,y,n,ps,qs,rfl,hx,hy,h1,h2,hl,q⟩:=h
  refine ⟨_,(pss_cons (ps_set_lc (i:=2) sc__law_far.nd rfl rfl rfl rfl ⟨True.intro,True.intro,(.inl rfl),(.inl rfl),True.intro⟩ (M:=["_law_pair","_law_one","_law_other"]) (.own (.free 0 rfl rfl (.free 1 rfl rfl .nil))) (gk_name rfl) rfl (by decide +kernel) (k_ptup K (pe_op op_catU (pe_ix (k_ix K) (pv 0) pe_int (fun _ _=>rfl)) (pe_ix (k_ix K) (pv 1) pe_int (fun _ _=>rfl)))) (fun C fp s1 H1=>⟨pg_name (i:=0) (show (["_law_pair","_law_one","_law_other"]:List Str).Nodup by decide +kernel) rfl (Or.inl rfl),pif_one (pt_cmpR (op_neD hr.units) (pe_cmpR (op_inD hr.units) (pv 0) (pe_ix (k_ix K) (pv 1) pe_int (fun _ _=>rfl)) (by rfl)) (pe_cmpR (op_inD hr.units) (pv 0) (pe_ix (k_ix K) (pv 2) pe_int (fun _ _=>rfl)) (by rfl)) (nomark _)),(pv 0)⟩))
   (pss_one (ps_ret (k_lenSetP K hr.units rfl T.n_len rfl T.n_set (pa_cons (pe_lc rfl ⟨True.intro,True.intro,True.intro,True.intro,True.intro⟩ (M:=["_law_pair"]) (.own .nil) (gk_name rfl) rfl (by decide +kernel) (k_plst K (pv 2)) (fun C fp s1 H1=>⟨pg_name (i:=0) (show (["_law_pair"]:List Str).Nodup by decide +kernel) rfl (Or.inl rfl),pif_nil,(pe_tup (pa_cons (pe_callB (k_minT K) (by rfl) T.n_min bt_min (pa_cons (pv 0) pa_nil)) (pa_cons (pe_callB (k_maxT K) (by rfl) T.n_max bt_max (pa_cons (pv 0) pa_nil)) pa_nil)))⟩)) pa_nil))))),?_⟩
  obtain ⟨oa,ob,xs,rfl,ea,eb,hxs⟩:=is_ord hx
  obtain ⟨oc,od,ys,rfl,ec,ed,hys⟩:=is_ord hy
  have lx:xs.length=ps.length:=by rw [hxs.length,List.length_map]
  have ly:ys.length=qs.length:=by rw [hys.length,List.length_map]
  have ixy:IsAll H (xs++ys) ((ps++qs).map prD):=by rw [List.map_append];exact hxs.append hys
  have box:∀ p∈ps++qs,inBox p:=fun p hp=>by
   rcases List.mem_append.mp hp with h | h
   ·exact h1.box h
   ·exact h2.box h
  walk_at "rd"
  refine rd_catU eb ed (small_ln (by lia)) fun r H1 f1 er=>?_
  have ea1:=f1 _ _ ea
  have ec1:=f1 _ _ ec
  have ix1:=ixy.same f1
  have hx1:Is H1 (.ref ob) (.tuple (ps.map prD)):=.tup (f1 _ _ eb) (hxs.same f1)
  have hy1:Is H1 (.ref od) (.tuple (qs.map prD)):=.tup (f1 _ _ ed) (hys.same f1)
  refine ⟨r,rfl,⟨_,SqT.of er⟩,?_⟩
  have lxy:(xs++ys).length≤75:=by rw [List.length_append];lia
  refine lp_tup (K:=K) (xs:=xs++ys) (small_ln (by lia)) (fun i zs H'=>H'=H1∧IsAll H1 zs ((((ps++qs).take i).filter fun p=>has ps p.1 p.2 != has qs p.1 p.2).map prD)) ⟨rfl,.nil⟩ (by
   rintro i zs H' ⟨_,h⟩
   rw [h.length,List.length_map]
   exact Nat.le_trans (List.length_filter_le _ _) (by rw [List.length_take];lia)) (fun i zs H' _ h=>by rw [h.1];exact SqT.of er) ?_ ?_
  ·rintro i v zs H5 hv ⟨rfl,iz⟩
   obtain ⟨d,edd,id⟩:=ix1.get' hv
   rw [List.getElem?_map] at edd
   cases hpi:(ps++qs)[i]? with
   | none=>rw [hpi] at edd;cases edd
   | some p0=>
   rw [hpi] at edd
   cases edd
   have id':=id
   unfold prD at id
   cases id with
   | @tup rr zz _ err hzz=>
   obtain rfl:=two_ints hzz
   rw [List.take_add_one,hpi,List.filter_append,List.map_append]
   walk_at "rd"
   refine rd_inP err hx1 ?_
   walk_at "rd"
   refine rd_inP err hy1 ?_
   walk_at "rd"
   refine ifB (fun g=>?_) (fun g=>?_)
   ·walk_at "rd"
    refine ⟨rfl,?_⟩
    show IsAll _ _ (_++([p0].filter fun p=>has ps p.1 p.2 != has qs p.1 p.2).map prD)
    rw [filter_one,if_pos (by simpa using g)]
    exact iz.append (.cons id' .nil)
   ·walk_at "rd"
    refine ⟨rfl,?_⟩
    show IsAll _ _ (_++([p0].filter fun p=>has ps p.1 p.2 != has qs p.1 p.2).map prD)
    rw [filter_one,if_neg (by simpa using g),List.map_nil,List.append_nil]
    exact iz
  ·rintro zs H5 ⟨rfl,iz⟩ l hl'
   rw [List.length_append,lx,ly,←List.length_append,List.take_length] at iz
   have iz:IsAll H5 zs ((dfL ps qs).map prD):=iz
   have lz:zs.length≤75:=by
    rw [iz.length,List.length_map]
    unfold dfL
    exact Nat.le_trans (List.length_filter_le _ _) (by rw [List.length_append];lia)
   have lzd:zs.length=(dfL ps qs).length:=by rw [iz.length,List.length_map]
   have f6:=Same.upd (o:=.lst zs) hl'
   have el:upd H5 l (.lst zs) l=some (.lst zs):=upd_same
   have iz6:=iz.same f6
   have s6:=f1.trans f6
   generalize upd H5 l (.lst zs)=H6 at f6 el iz6 s6
   walk_at "rd"
   refine rd_lenSetP ?_
   walk_at "rd"
   refine ⟨l,rfl,⟨_,SqL.of el⟩,?_⟩
   refine lp_list (K:=K) (xs:=zs) (small_ln (by lia)) (fun i us H'=>Same H6 H'∧IsAll H' us ((((dfL ps qs).take i).map mm).map prD)) ⟨Same.refl _,.nil⟩ (by
    rintro i us H' ⟨_,h⟩
    rw [h.length]
    simp
    lia) (fun i us H' _ h=>SqL.of (h.1 _ _ el)) ?_ ?_
   ·rintro i v us H7 hv ⟨s7,iu⟩
    obtain ⟨d,edd,id⟩:=(iz6.same s7).get' hv
    rw [List.getElem?_map] at edd
    cases hpi:(dfL ps qs)[i]? with
    | none=>rw [hpi] at edd;cases edd
    | some p0=>
    rw [hpi] at edd
    cases edd
    unfold prD at id
    cases id with
    | @tup rr zz _ err hzz=>
    obtain rfl:=two_ints hzz
    rw [List.take_add_one,hpi]
    walk_at "rd"
    refine rd_minT (ns:=[p0.1,p0.2]) err (by show 0 < 2;decide) fun M hM hle=>?_
    walk_at "rd"
    refine rd_maxT (ns:=[p0.1,p0.2]) err (by show 0 < 2;decide) fun N hN hge=>?_
    have e1:(M,N)=mm p0:=by
     have a1:=hle p0.1 (.head _)
     have a2:=hle p0.2 (.tail _ (.head _))
     have b1:=hge p0.1 (.head _)
     have b2:=hge p0.2 (.tail _ (.head _))
     simp only [List.mem_cons,List.not_mem_nil,or_false] at hM hN
     unfold mm
     split
     ·exact Prod.ext (by dsimp only;lia) (by dsimp only;lia)
     ·exact Prod.ext (by dsimp only;lia) (by dsimp only;lia)
    walk_at "rd"
    refine ⟨two_ln,fun tp htp=>⟨s7.trans (Same.upd htp),?_⟩⟩
    rw [List.map_append,List.map_append]
    refine (iu.same (Same.upd htp)).append (.cons ?_ .nil)
    show Is _ _ (prD (mm p0))
    rw [←e1]
    exact .tup upd_same (.cons (.int _) (.cons (.int _) .nil))
   ·rintro us H7 ⟨s7,iu⟩ l2 hl2
    rw [lzd,List.take_length] at iu
    have f8:=Same.upd (o:=.lst us) hl2
    walk_at "rd"
    refine ⟨l2,us,(dfL ps qs).map mm,rfl,.inl (SqL.of upd_same),iu.same f8,fun p hp=>?_,by rw [List.length_map];lia,?_⟩
    ·obtain ⟨p0,hp0,rfl⟩:=List.mem_map.mp hp
     obtain ⟨b1,b2,b3,b4,_⟩:=box p0 (List.mem_filter.mp hp0).1
     unfold mm
     split
     ·exact ⟨b1,b2,b3,b4⟩
     ·exact ⟨b3,b4,b1,b2⟩
    ·rw [far_len h1 h2]
     exact q _ ((s6.trans s7).trans f8)
end
end My
namespace My
open PySem L2
noncomputable def stepF (a b:Int) (r:List (Int×Int)):Bool:= !(a==b)&& !has r b a
noncomputable def stepR (rs:List (List (Int×Int))) (a b:Int):List (List (Int×Int)):=rs++(rs.filter (stepF a b)).map fun r=>r++[(a,b)]
noncomputable def Done (i j:Int) (p:Int×Int):Prop:=p.1 < i∨(p.1=i∧p.2 < j)
structure RowsOk (i j:Int) (n:Nat) (rs:List (List (Int×Int))):Prop where
 snd:∀ r∈rs,r.Nodup∧∀ p∈r,Done i j p∧inN n p
 cmp:∀ s:List (Int×Int),(∀ p∈s,Done i j p∧inN n p)→(∀ a b,(a,b)∈s→(b,a)∈s→False)→∃ r∈rs,∀ p,p∈r↔p∈s
theorem rows_one (n:Nat):RowsOk 0 0 n [[]]:=by
 refine ⟨fun r hr=>?_,fun s hs _=>⟨[],.head _,fun p=>⟨(fun h=>nomatch h),fun h=>?_⟩⟩⟩
 ·rw [List.mem_singleton.mp hr]
  exact ⟨List.nodup_nil,fun p hp=>nomatch hp⟩
 ·obtain ⟨d,a1,a2,a3,_⟩:=hs p h
  unfold Done at d
  lia
theorem rows_step {i j:Int} {n:Nat} {rs:List (List (Int×Int))} (h:RowsOk i j n rs) (i0:0≤i) (hi:i < n) (j0:0≤j) (hj:j < n):RowsOk i (j + 1) n (stepR rs i j):=by
 have up:∀ p,Done i j p→Done i (j + 1) p:=fun p d=>by unfold Done at *;lia
 refine ⟨fun r hr=>?_,fun s hs ha=>?_⟩
 ·unfold stepR at hr
  rcases List.mem_append.mp hr with g | g
  ·obtain ⟨a,b⟩:=h.snd r g
   exact ⟨a,fun p hp=>⟨up p (b p hp).1,(b p hp).2⟩⟩
  ·obtain ⟨q,hq,rfl⟩:=List.mem_map.mp g
   obtain ⟨hq,g2⟩:=List.mem_filter.mp hq
   unfold stepF at g2
   have ne:i≠j:=fun z=>by subst z;simp at g2
   obtain ⟨a,b⟩:=h.snd q hq
   refine ⟨List.nodup_append.mpr ⟨a,by simp,fun x hx y hy z=>?_⟩,fun p hp=>?_⟩
   ·subst z
    rw [List.mem_singleton.mp hy] at hx
    have:=(b _ hx).1
    unfold Done at this
    dsimp only at this
    lia
   ·rcases List.mem_append.mp hp with hp | hp
    ·exact ⟨up p (b p hp).1,(b p hp).2⟩
    ·rw [List.mem_singleton.mp hp]
     exact ⟨by unfold Done;dsimp only;lia,i0,hi,j0,hj,ne⟩
 ·obtain ⟨r,hr,e⟩:=h.cmp (s.filter fun p=>decide (p≠(i,j))) (fun p hp=>by
   obtain ⟨hp,g⟩:=List.mem_filter.mp hp
   have g:=of_decide_eq_true g
   obtain ⟨d,q⟩:=hs p hp
   refine ⟨?_,q⟩
   unfold Done at *
   by_cases e1:p.1=i
   ·have:p.2≠j:=fun z=>g (Prod.ext e1 z)
    lia
   ·lia) (fun a b h1 h2=>ha a b (List.mem_filter.mp h1).1 (List.mem_filter.mp h2).1)
  have e':∀ p,p∈r↔p∈s∧p≠(i,j):=fun p=>by
   rw [e p,List.mem_filter]
   exact ⟨fun ⟨a,b⟩=>⟨a,of_decide_eq_true b⟩,fun ⟨a,b⟩=>⟨a,decide_eq_true b⟩⟩
  by_cases g:(i,j)∈s
  ·have ne:i≠j:=(hs _ g).2.2.2.2.2
   have nb:has r j i=false:=by
    cases z:has r j i with
    | false=>rfl
    | true=>exact (ha i j g ((e' _).mp (has_iff.mp z)).1).elim
   refine ⟨r++[(i,j)],?_,fun p=>?_⟩
   ·unfold stepR
    refine List.mem_append.mpr (.inr (List.mem_map.mpr ⟨r,List.mem_filter.mpr ⟨hr,?_⟩,rfl⟩))
    unfold stepF
    rw [nb]
    simp [ne]
   ·rw [List.mem_append,List.mem_singleton,e']
    constructor
    ·rintro (h | h)
     ·exact h.1
     ·rw [h];exact g
    ·intro h
     by_cases z:p=(i,j)
     ·exact .inr z
     ·exact .inl ⟨h,z⟩
  ·refine ⟨r,List.mem_append.mpr (.inl hr),fun p=>?_⟩
   rw [e']
   exact ⟨fun h=>h.1,fun h=>⟨h,fun z=>g (z▸h)⟩⟩
theorem rows_next {i:Int} {n:Nat} {rs:List (List (Int×Int))} (h:RowsOk i n n rs):RowsOk (i + 1) 0 n rs:=by
 have e:∀ p,inN n p→(Done i n p↔Done (i + 1) 0 p):=fun p ⟨a1,a2,a3,a4,a5⟩=>by unfold Done;lia
 refine ⟨fun r hr=>⟨(h.snd r hr).1,fun p hp=>?_⟩,fun s hs ha=>h.cmp s (fun p hp=>?_) ha⟩
 ·obtain ⟨a,b⟩:=(h.snd r hr).2 p hp
  exact ⟨(e p b).mp a,b⟩
 ·obtain ⟨a,b⟩:=hs p hp
  exact ⟨(e p b).mpr a,b⟩
theorem step_len (rs:List (List (Int×Int))) (a b:Int):(stepR rs a b).length≤2 * rs.length:=by
 unfold stepR
 rw [List.length_append,List.length_map]
 have:=List.length_filter_le (stepF a b) rs
 lia
structure AllOk (n:Nat) (os:List (List (Int×Int))):Prop where
 ord:∀ o∈os,Ord n o
 all:∀ o,Ord n o→barB n o=false→o∈os
theorem all_ok {n:Nat} {rs os:List (List (Int×Int))} (h:RowsOk n 0 n rs) (h1:∀ o∈os,Ord n o) (h2:∀ r∈rs,∃ o∈os,∀ p,p∈o↔p∈r):AllOk n os:=by
 refine ⟨h1,fun o ho hb=>?_⟩
 obtain ⟨r,hr,er⟩:=h.cmp o (fun p hp=>by
  have:=ho.ix p hp
  refine ⟨?_,this⟩
  unfold Done
  exact .inl this.2.1) (fun a b g1 g2=>no_both ho hb (has_iff.mpr g1) (has_iff.mpr g2))
 obtain ⟨o',ho',eo⟩:=h2 r hr
 have:o'=o:=pw_ext (pw_of (h1 o' ho').up) (pw_of ho.up) fun x=>(eo x).trans (er x)
 rw [←this]
 exact ho'
noncomputable def rwD (s:List (Int×Int)):PyData:=.tuple (s.map prD)
theorem rw_get {H:Hp} {ys:List V} {l:List (List (Int×Int))} {i:Nat} {x:V} (h:IsAll H ys (l.map rwD)) (hx:ys[i]? =some x):∃ s a xs,l[i]? =some s∧x=.ref a∧H a=some (.tup xs)∧IsAll H xs (s.map prD):=by
 obtain ⟨d,ed,id⟩:=h.get' hx
 rw [List.getElem?_map] at ed
 cases e:l[i]? with
 | none=>rw [e] at ed;cases ed
 | some s=>
  rw [e] at ed
  cases ed
  unfold rwD at id
  cases id with
  | @tup a xs _ ea hxs=>exact ⟨s,a,xs,rfl,rfl,ea,hxs⟩
theorem rw_len {H:Hp} {ys:List V} {l:List (List (Int×Int))} (h:IsAll H ys (l.map rwD)):ys.length=l.length:=by rw [h.length,List.length_map]
theorem pow_ln {m n:Nat} (h:n≤2 ^ m) (hm:m≤17):n≤sizeLine:=by
 have:(2:Nat) ^ m≤2 ^ 17:=Nat.pow_le_pow_right (by decide) hm
 rw [sizeLine_eq]
 lia
section
variable {P:Program} {w:World} {K:PySem.W.Frag} {mg:Str→Option Value} {base:Heap} {t:Ad}
noncomputable def sp_all:Sp:=fun vs H Q _=>∃ n:Nat,vs=[.int n]∧1≤n∧n≤4∧∀ l zs H' os,Same H H'→H' l=some (.lst zs)→IsAll H' zs (os.map (ordD n))→AllOk n os→Q (.ref l) H'
theorem ok__law_all (T:Txt K mg t):FnOk P w K mg base CX0 1 t.a__law_all t.d__law_all ["_law_many"] sp_all:=by
 refine T.F__law_all.ok sc__law_all (fun vs H Q E h=>?_) (fun cdv A outer s H vs Q E hr h=>?_)
 ·obtain ⟨n,rfl,_⟩:=h
  rfl
 ·obtain ⟨n,rfl,n1,n4,q⟩:=h
  refine ⟨_,(pss_cons (ps_set (i:=1) sc__law_all.nd rfl (Or.inl rfl) (pe_lst (pa_cons (pe_tup pa_nil) pa_nil)))
   (pss_cons (ps_for PassesOwn.never rfl (pi_range1 rfl T.n_range (pa_cons (pv 0) pa_nil)) (pg_name (i:=2) sc__law_all.nd rfl (Or.inr rfl)) (pss_one (ps_for PassesOwn.never rfl (pi_range1 rfl T.n_range (pa_cons (pv 0) pa_nil)) (pg_name (i:=3) sc__law_all.nd rfl (Or.inr rfl)) (pss_cons (ps_set_lc (i:=4) sc__law_all.nd rfl rfl rfl rfl ⟨True.intro,True.intro,(.inl rfl),(.inl rfl),True.intro⟩ (M:=["_law_line_up","_law_one","_law_other"]) (.own (.free 2 rfl rfl (.free 3 rfl rfl .nil))) (gk_name rfl) rfl (by decide +kernel) (k_plst K (pv 1)) (fun C fp s1 H1=>⟨pg_name (i:=0) (show (["_law_line_up","_law_one","_law_other"]:List Str).Nodup by decide +kernel) rfl (Or.inl rfl),pif_one (PW.pt (pw_and (pt_cmpR (op_neD hr.units) (pv 1) (pv 2) (nomark _)) (pw_and1 (pt_cmpR (op_notInD hr.units) (pe_tup (pa_cons (pv 2) (pa_cons (pv 1) pa_nil))) (pv 0) (by rfl))))),(pv 0)⟩))
   (pss_one (ps_set (i:=1) sc__law_all.nd rfl (Or.inl rfl) (pe_op op_cat (pv 1) (pe_lc rfl ⟨True.intro,True.intro,(.inl rfl),(.inl rfl),True.intro⟩ (M:=["_law_line_up","_law_one","_law_other"]) (.own (.free 2 rfl rfl (.free 3 rfl rfl .nil))) (gk_name rfl) rfl (by decide +kernel) (k_plst K (pv 4)) (fun C fp s1 H1=>⟨pg_name (i:=0) (show (["_law_line_up","_law_one","_law_other"]:List Str).Nodup by decide +kernel) rfl (Or.inl rfl),pif_nil,(pe_op op_catU (pv 0) (pe_tup (pa_cons (pe_tup (pa_cons (pv 1) (pa_cons (pv 2) pa_nil))) pa_nil)))⟩)))))))))
   (pss_one (ps_ret (pe_lc rfl ⟨True.intro,True.intro,True.intro,True.intro,(.inl rfl),True.intro⟩ (M:=["_law_line_up","_law_many"]) (.own (.free 0 rfl rfl .nil)) (gk_name rfl) rfl (by decide +kernel) (k_plst K (pv 1)) (fun C fp s1 H1=>⟨pg_name (i:=0) (show (["_law_line_up","_law_many"]:List Str).Nodup by decide +kernel) rfl (Or.inl rfl),pif_nil,(pe_tup (pa_cons (pv 1) (pa_cons (pe_callTy (k_tuple K) (by rfl) T.n_tuple bt_tuple (pa_cons (pe_callB (k_sorted K) (by rfl) T.n_sorted bt_sorted (pa_cons (pv 0) pa_nil)) pa_nil)) pa_nil)))⟩)))))),?_⟩
  walk_at "rd"
  refine ⟨Nat.zero_le _,fun e0 he0=>?_⟩
  have s0:=Same.upd (o:=.tup []) he0
  walk_at "rd"
  refine ⟨by show 1≤sizeLine;decide,fun c0 hc0=>?_⟩
  have s1:=s0.trans (Same.upd (o:=.lst [V.ref e0]) hc0)
  have i1:IsAll (upd (upd H e0 (.tup [])) c0 (.lst [V.ref e0])) [V.ref e0] (([[]]:List (List (Int×Int))).map rwD):=.cons (.tup (by rw [upd_ne (ne_of_none upd_same hc0),upd_same]) .nil) .nil
  have ec1:upd (upd H e0 (.tup [])) c0 (.lst [V.ref e0]) c0=some (.lst [V.ref e0]):=upd_same
  generalize upd (upd H e0 (.tup [])) c0 (.lst [V.ref e0])=H1 at s1 i1 ec1
  clear s0 he0 hc0
  walk_at "rd"
  refine ⟨_,rfl,by lia,by lia,?_⟩
  rw [Int.toNat_natCast]
  refine fp_range (fun i σ H'=>Same H H'∧∃ c ys rs,(∃ v2 v3 v4,σ=[some (.int n),some (.ref c),v2,v3,v4])∧H' c=some (.lst ys)∧IsAll H' ys (rs.map rwD)∧RowsOk i 0 n rs∧rs.length≤2 ^ (i * n)) ⟨s1,c0,_,_,⟨_,_,_,rfl⟩,ec1,i1,rows_one n,by rw [Nat.zero_mul];exact Nat.le_refl 1⟩ ?_ ?_
  ·rintro i σ H3 hi ⟨s3,c,ys,rs,⟨v2,v3,v4,rfl⟩,ec,iy,ok,len⟩
   walk_at "rd"
   refine ⟨_,rfl,by lia,by lia,?_⟩
   rw [Int.toNat_natCast]
   refine fp_range (fun j σ H'=>Same H H'∧∃ c ys rs,(∃ v3 v4,σ=[some (.int n),some (.ref c),some (.int (0 + i)),v3,v4])∧H' c=some (.lst ys)∧IsAll H' ys (rs.map rwD)∧RowsOk i j n rs∧rs.length≤2 ^ (i * n + j)) ⟨s3,c,ys,rs,⟨_,_,rfl⟩,ec,iy,ok,len⟩ ?_ ?_
   rotate_left
   ·rintro σ H4 ⟨s4,c,ys,rs,⟨v3,v4,rfl⟩,ec,iy,ok,len⟩
    refine ⟨s4,c,ys,rs,⟨_,_,_,rfl⟩,ec,iy,?_,?_⟩
    ·have:=rows_next ok
     rw [Int.natCast_succ]
     exact this
    ·rw [Nat.succ_mul]
     exact len
   clear s1 i1 ec1 s3 ec iy ok len c ys rs v2 v3 v4
   rintro j σ H4 hj ⟨s4,c,ys,rs,⟨v3,v4,rfl⟩,ec,iy,ok,len⟩
   have hm:i * n + j + 1≤16:=by
    have h3:i * n≤3 * 4:=Nat.mul_le_mul (by lia) n4
    lia
   have ly:ys.length≤sizeLine:=pow_ln (m:=i * n + j) (by rw [rw_len iy];exact len) (by lia)
   have lr:∀ r∈rs,r.length < 64:=fun r hr=>small_prs (ok.snd r hr).1 fun p hp=>((ok.snd r hr).2 p hp).2.box (by lia)
   walk_at "rd"
   refine ⟨c,rfl,⟨ys,SqL.of ec⟩,?_⟩
   refine lp_list (K:=K) (xs:=ys) ly (fun k ws H'=>Same H4 H'∧IsAll H' ws (((rs.take k).filter (stepF i j)).map rwD)) ⟨Same.refl _,.nil⟩ (by
    rintro k ws H' ⟨_,h⟩
    rw [rw_len h]
    exact Nat.le_trans (List.length_filter_le _ _) (by rw [List.length_take];lia)) (fun k ws H' _ h=>SqL.of (h.1 _ _ ec)) ?_ ?_
   ·rintro k y ws H5 hy ⟨s5,iw⟩
    obtain ⟨s',a',xs,hs',rfl,ea,hxs⟩:=rw_get (iy.same s5) hy
    rw [List.take_add_one,hs',List.filter_append,List.map_append]
    walk_at "rd"
    have eij:stepF i j s'=(!((0:Int) + (i:Int)==0 + (j:Int))&& !has s' (0 + j) (0 + i)):=by
     unfold stepF
     rw [Int.zero_add,Int.zero_add]
    have one:[s'].filter (stepF i j)=if stepF i j s'=true then [s'] else []:=filter_one _ _
    rw [show (some s').toList=[s'] from rfl,one,eij]
    cases g1:(!((0:Int) + (i:Int)==0 + (j:Int))) with
    | false=>
     rw [if_neg Bool.false_ne_true,if_neg Bool.false_ne_true,Bool.false_and,if_neg Bool.false_ne_true,List.map_nil,List.append_nil]
     exact ⟨s5,iw⟩
    | true=>
     rw [if_pos rfl,Bool.true_and]
     walk_at "rd"
     refine ⟨two_ln,fun p1 hp1=>?_⟩
     have f1:=Same.upd (o:=.tup [V.int (0 + (j:Int)),V.int (0 + (i:Int))]) hp1
     walk_at "rd"
     refine rd_ninP (ps:=s') upd_same (.tup (f1 _ _ ea) (hxs.same f1)) ⟨_,rfl,?_⟩
     refine ifB (fun g=>?_) (fun g=>?_)
     ·walk_at "rd"
      rw [if_pos g]
      refine ⟨s5.trans f1,(iw.same f1).append (.cons (.tup (f1 _ _ ea) (hxs.same f1)) .nil)⟩
     ·rw [if_neg (by rw [g];exact Bool.false_ne_true),List.map_nil,List.append_nil]
      exact ⟨s5.trans f1,iw.same f1⟩
   ·rintro ws H5 ⟨s5,iw⟩ p6 hp6
    have f6:=Same.upd (o:=.lst ws) hp6
    have ep6:upd H5 p6 (.lst ws) p6=some (.lst ws):=upd_same
    rw [rw_len iy,List.take_length] at iw
    have iw6:=iw.same f6
    have lw:ws.length≤rs.length:=by rw [rw_len iw];exact List.length_filter_le _ _
    have s6:=s5.trans f6
    generalize upd H5 p6 (.lst ws)=H6 at f6 ep6 iw6 s6
    clear iw hp6
    walk_at "rd"
    refine ⟨p6,rfl,⟨ws,SqL.of ep6⟩,?_⟩
    refine lp_list (K:=K) (xs:=ws) (by rw [rw_len iy] at ly;lia) (fun k us H'=>Same H6 H'∧IsAll H' us ((((rs.filter (stepF i j)).take k).map fun r=>r++[((i:Int),(j:Int))]).map rwD)) ⟨Same.refl _,.nil⟩ (by
     rintro k us H' ⟨_,h⟩
     rw [rw_len h,List.length_map,List.length_take]
     lia) (fun k us H' _ h=>SqL.of (h.1 _ _ ep6)) ?_ ?_
    ·rintro k y us H7 hy ⟨s7,iu⟩
     obtain ⟨s',a',xs,hs',rfl,ea,hxs⟩:=rw_get (iw6.same s7) hy
     have lx:xs.length < 64:=by
      rw [hxs.length,List.length_map]
      exact lr s' (List.mem_filter.mp (List.mem_of_getElem? hs')).1
     walk_at "rd"
     refine ⟨two_ln,fun q0 hq0=>?_⟩
     have f0:=Same.upd (o:=.tup [V.int (0 + (i:Int)),V.int (0 + (j:Int))]) hq0
     walk_at "rd"
     refine ⟨by show 1≤sizeLine;decide,fun q1 hq1=>?_⟩
     have f1:=Same.upd (o:=.tup [V.ref q0]) hq1
     refine rd_catU (f1 _ _ (f0 _ _ ea)) upd_same (small_ln (by show _ + 1≤1000;lia)) fun u H8 s8 eu=>?_
     have f01:=f0.trans f1
     refine ⟨(s7.trans f01).trans s8,?_⟩
     rw [List.take_add_one,hs',List.map_append,List.map_append]
     refine ((iu.same f01).same s8).append (.cons (.tup eu ?_) .nil)
     rw [List.map_append]
     refine ((hxs.same f01).same s8).append (.cons (.tup (s8 _ _ (f1 _ _ upd_same)) ?_) .nil)
     rw [Int.zero_add,Int.zero_add]
     exact .cons (.int _) (.cons (.int _) .nil)
    ·rintro us H7 ⟨s7,iu⟩ p8 hp8
     rw [rw_len iw6,List.take_length] at iu
     have f8:=Same.upd (o:=.lst us) hp8
     have lu:us.length≤rs.length:=by
      rw [rw_len iu,List.length_map]
      exact List.length_filter_le _ _
     have lsum:ys.length + us.length≤2 ^ (i * n + j + 1):=by
      rw [rw_len iy,Nat.pow_succ]
      lia
     refine rd_cat (f8 _ _ (s7 _ _ (s6 _ _ ec))) upd_same (pow_ln lsum (by lia)) fun p9 hp9=>?_
     have f9:=Same.upd (o:=.lst (ys++us)) hp9
     have s9:=((s6.trans s7).trans f8).trans f9
     walk_at "rd"
     refine ⟨s4.trans s9,p9,_,stepR rs i j,⟨_,_,rfl⟩,upd_same,?_,?_,?_⟩
     ·unfold stepR
      rw [List.map_append]
      exact (iy.same s9).append ((iu.same f8).same f9)
     ·rw [Int.natCast_succ]
      exact rows_step ok (by lia) (by lia) (by lia) (by lia)
     ·have:=step_len rs i j
      rw [←Nat.add_assoc,Nat.pow_succ]
      lia
  ·rintro σ H3 ⟨s3,c,ys,rs,⟨v2,v3,v4,rfl⟩,ec,iy,ok,len⟩
   have ly:ys.length≤sizeLine:=pow_ln (m:=n * n) (by rw [rw_len iy];exact len) (by
    have:n * n≤4 * 4:=Nat.mul_le_mul n4 n4
    lia)
   walk_at "rd"
   refine ⟨c,rfl,⟨ys,SqL.of ec⟩,?_⟩
   refine lp_list (K:=K) (xs:=ys) ly (fun k us H'=>Same H3 H'∧∃ os,IsAll H' us (os.map (ordD n))∧os.length=k∧(∀ o∈os,Ord n o)∧∀ r∈rs.take k,∃ o∈os,∀ p,p∈o↔p∈r) ⟨Same.refl _,[],.nil,rfl,(fun _ h=>nomatch h),fun _ h=>by rw [List.take_zero] at h;cases h⟩ (by
    rintro k us H' ⟨_,os,h,e,_⟩
    rw [h.length,List.length_map,e]
    exact Nat.le_refl _) (fun k us H' _ h=>SqL.of (h.1 _ _ ec)) ?_ ?_
   ·rintro k y us H5 hy ⟨s5,os,iu,lo,oo,al⟩
    obtain ⟨s',a',xs,hs',rfl,ea,hxs⟩:=rw_get (iy.same s5) hy
    obtain ⟨nd,mem⟩:=ok.snd s' (List.mem_of_getElem? hs')
    walk_at "rd"
    refine rd_sortP (.inr ea) hxs nd (fun p hp=>(mem p hp).2.box (by lia)) fun l vs' ps' hl iv pm pw=>?_
    have f6:=Same.upd (o:=.lst vs') hl
    walk_at "rd"
    refine rd_tupL upd_same fun p7 hp7=>?_
    have f7:=Same.upd (o:=.tup vs') hp7
    walk_at "rd"
    refine ⟨by show 2≤sizeLine;decide,fun p8 hp8=>?_⟩
    have f8:=Same.upd (o:=.tup [V.int (n:Int),V.ref p7]) hp8
    have s8:=(f6.trans f7).trans f8
    refine ⟨s5.trans s8,os++[ps'],?_,by rw [List.length_append,lo];rfl,fun o ho=>?_,fun r hr=>?_⟩
    ·rw [List.map_append]
     exact (iu.same s8).append (.cons (.tup upd_same (.cons (.int _) (.cons (.tup (f8 _ _ upd_same) (iv.same s8)) .nil))) .nil)
    ·rcases List.mem_append.mp ho with h | h
     ·exact oo o h
     ·rw [List.mem_singleton.mp h]
      exact ord_of n1 (by lia) (fun p hp=>(mem p (pm.mem_iff.mp hp)).2) pw
    ·rw [List.take_add_one,hs'] at hr
     rcases List.mem_append.mp hr with h | h
     ·obtain ⟨o,h1,h2⟩:=al r h
      exact ⟨o,List.mem_append.mpr (.inl h1),h2⟩
     ·have e:r=s':=List.mem_singleton.mp h
      subst e
      exact ⟨ps',List.mem_append.mpr (.inr (.head _)),fun p=>pm.mem_iff⟩
   ·rintro us H5 ⟨s5,os,iu,lo,oo,al⟩ l hl
    have f6:=Same.upd (o:=.lst us) hl
    rw [rw_len iy,List.take_length] at al
    walk_at "rd"
    exact q l us _ os ((s3.trans s5).trans f6) upd_same (iu.same f6) (all_ok ok oo al)
end
end My
namespace My
open PySem L2
noncomputable def sq4:List (Int×Int):=(List.range 4).flatMap fun i:Nat=>(List.range 4).map fun j:Nat=>((i:Int),(j:Int))
theorem in_len {n:Nat} {ps:List (Int×Int)} (n4:n≤4) (nd:ps.Nodup) (h:∀ p∈ps,inN n p):ps.length≤16:=by
 have e:sq4.length=16:=by decide
 rw [←e]
 refine nd_len (M:=sq4) nd fun p hp=>?_
 obtain ⟨a1,a2,a3,a4,_⟩:=h p hp
 obtain ⟨i,hi⟩:=Int.eq_ofNat_of_zero_le a1
 obtain ⟨j,hj⟩:=Int.eq_ofNat_of_zero_le a3
 unfold sq4
 rw [List.mem_flatMap]
 refine ⟨i,List.mem_range.mpr (by lia),List.mem_map.mpr ⟨j,List.mem_range.mpr (by lia),?_⟩⟩
 exact Prod.ext hi.symm hj.symm
theorem near_uniq {n:Nat} {ps q1 q2:List (Int×Int)} (h1:Near n ps q1) (h2:Near n ps q2):q1=q2:=by
 by_cases e:kc n ps q1=kc n ps q2
 ·unfold kc at e
  injection e with _ e
  exact flP_inj e
 ·have:=lex_tot e (h2.2 q1 h1.1)
  rw [h1.2 q2 h2.1] at this
  cases this
structure Best (n:Nat) (ps:List (Int×Int)) (os:List (List (Int×Int))) (qs:List (Int×Int)):Prop where
 mem:qs∈os
 bar:barB n qs=false
 min:∀ rs∈os,barB n rs=false→HT.lexLt (kc n ps rs) (kc n ps qs)=false
noncomputable def BestI (n:Nat) (ps:List (Int×Int)) (os:List (List (Int×Int))) (H:Hp) (bv:V):Prop:=(bv=.non∧∀ o∈os,barB n o=true)∨∃ k qs,bv=.ref k∧Is H (.ref k) (keyD n ps qs)∧Best n ps os qs
theorem best_skip {n:Nat} {ps qs o:List (Int×Int)} {os:List (List (Int×Int))} (h:Best n ps os qs) (g:barB n o=true∨HT.lexLt (kc n ps o) (kc n ps qs)=false):Best n ps (os++[o]) qs:=by
 refine ⟨List.mem_append.mpr (.inl h.mem),h.bar,fun rs hr hb=>?_⟩
 rcases List.mem_append.mp hr with hr | hr
 ·exact h.min rs hr hb
 ·rw [List.mem_singleton.mp hr] at hb ⊢
  rcases g with g | g
  ·rw [g] at hb;cases hb
  ·exact g
theorem best_take {n:Nat} {ps qs o:List (Int×Int)} {os:List (List (Int×Int))} (h:Best n ps os qs) (hb:barB n o=false) (g:HT.lexLt (kc n ps o) (kc n ps qs)=true):Best n ps (os++[o]) o:=by
 refine ⟨List.mem_append.mpr (.inr (.head _)),hb,fun rs hr hb=>?_⟩
 rcases List.mem_append.mp hr with hr | hr
 ·exact lex_le g (h.min rs hr hb)
 ·rw [List.mem_singleton.mp hr]
  exact lex_irr _
theorem best_none {n:Nat} {ps o:List (Int×Int)} {os:List (List (Int×Int))} (h:∀ o∈os,barB n o=true) (hb:barB n o=false):Best n ps (os++[o]) o:=by
 refine ⟨List.mem_append.mpr (.inr (.head _)),hb,fun rs hr hb=>?_⟩
 rcases List.mem_append.mp hr with hr | hr
 ·rw [h rs hr] at hb;cases hb
 ·rw [List.mem_singleton.mp hr]
  exact lex_irr _
theorem best_near {n:Nat} {ps qs:List (Int×Int)} {os:List (List (Int×Int))} (h:Best n ps os qs) (n1:1≤n) (ok:AllOk n os) (hU:UnbOk n (unb n)):Near n ps qs:=
 ⟨unb_all n qs n1 (ok.ord qs h.mem) h.bar,fun rs hr=>h.min rs (ok.all rs (hU rs hr).1 (hU rs hr).2) (hU rs hr).2⟩
theorem eqv_key (n:Nat) (ps qs:List (Int×Int)):PyData.eqv (keyD n ps qs) (keyD n ps qs)=true:=by
 unfold keyD
 rw [PyData.eqv,PyData.eqvAll,PyData.eqvAll,PyData.eqvAll,eqv_ord,PyData.eqv]
 simp
theorem key_tT {H H':Hp} {Pt:Addr} {tb:Array Value} (hp:H Pt=some (.tbl tb)) (s:SameT Pt H H') {x:V} {n:Nat} {ps qs:List (Int×Int)} (h:Is H x (keyD n ps qs)):Is H' x (keyD n ps qs):=
 h.tmono (fun c us e=>s _ _ e (ne_of e hp (by intro z;cases z))) (by unfold keyD ordD;rw [noL,noLs,noLs,noLs,noL,noL,noLs,noLs,noLs,noL,noL,noLs_pr];rfl)
theorem tabIn_t {H H':Hp} {Pt tw:Addr} {ts:List V} (hw:H tw=some (.lst ts)) (s:SameT tw H H') (h:TabIn H Pt nqual npos):TabIn H' Pt nqual npos:=by
 rcases h with z | ⟨c,z,y⟩
 ·exact .inl (s _ _ z (ne_of z hw (by intro z;cases z)))
 ·exact .inr ⟨c,s _ _ z (ne_of z hw (by intro z;cases z)),s _ _ y (ne_of y hw (by intro z;cases z))⟩
section
variable {P:Program} {w:World} {K:PySem.W.Frag} {mg:Str→Option Value} {base:Heap} {t:Ad}
noncomputable def spLaw (K:PySem.W.Frag) (Pt:Addr):Sp:=fun vs H Q _=>∃ a ns,vs=[.ref a]∧Scr K H a ns∧H Pt=some (.tbl #[])∧∀ H',Q (.bl true) H'
theorem ok_law (T:Txt K mg t) {c Pt:Addr} (B:TabK K base mg "nearest" c Pt):FnOk P w K mg base CX0 11 t.a_law t.d_law ["_law_script"] (spLaw K Pt):=by
 refine T.F_law.ok sc_law (fun vs H Q E h=>?_) (fun cdv A outer s H vs Q E hr h=>?_)
 ·obtain ⟨a,ns,rfl,_⟩:=h
  rfl
 ·obtain ⟨a,ns,rfl,hs,hP,q⟩:=h
  refine ⟨_,(pss_cons (ps_set (i:=1) sc_law.nd rfl (Or.inl rfl) (pe_lst pa_nil))
   (pss_cons (ps_set (i:=2) sc_law.nd rfl (Or.inl rfl) (pe_call (ok__law_draw T) (hr.mono (by decide)) rfl T.m__law_draw T.F__law_draw.kp T.b__law_draw .nil pass0 (pa_cons (pv 0) (pa_cons (pv 1) (pa_cons pe_int pa_nil)))))
   (pss_cons (ps_set (i:=3) sc_law.nd rfl (Or.inl rfl) (pe_call (ok__law_any T) (hr.mono (by decide)) rfl T.m__law_any T.F__law_any.kp T.b__law_any .nil pass0 (pa_cons (pv 0) (pa_cons (pv 1) (pa_cons pe_int (pa_cons pe_int pa_nil))))))
   (pss_cons (ps_if (PW.pt (pw_and (pt_cmpR (op_eqD hr.units) (pv 2) pe_int (nomark _)) (pw_and1 (pt_cmpR (op_gt) (pe_ix (k_ix K) (pv 3) pe_int (fun _ _=>rfl)) pe_int (nomark _))))) (pss_one (ps_set (i:=3) sc_law.nd rfl (Or.inl rfl) (pe_tup (pa_cons (pe_ix (k_ix K) (pv 3) pe_int (fun _ _=>rfl)) (pa_cons (pe_callTy (k_tuple K) (by rfl) T.n_tuple bt_tuple (pa_cons (k_sortSetP K hr.units rfl T.n_sorted rfl T.n_set (pa_cons (pe_op op_catU (pe_ix (k_ix K) (pv 3) pe_int (fun _ _=>rfl)) (pe_tup (pa_cons (pe_tup (pa_cons pe_int (pa_cons pe_int pa_nil))) (pa_cons (pe_tup (pa_cons pe_int (pa_cons pe_int pa_nil))) (pa_cons (pe_tup (pa_cons pe_int (pa_cons pe_int pa_nil))) pa_nil))))) pa_nil)) pa_nil)) pa_nil))))) pss_nil)
   (pss_cons (ps_set (i:=4) sc_law.nd rfl (Or.inl rfl) pe_non)
   (pss_cons (ps_for PassesOwn.never rfl (k_plst K (pe_call (ok__law_all T) (hr.mono (by decide)) rfl T.m__law_all T.F__law_all.kp T.b__law_all .nil pass0 (pa_cons (pe_ix (k_ix K) (pv 3) pe_int (fun _ _=>rfl)) pa_nil))) (pg_name (i:=5) sc_law.nd rfl (Or.inl rfl)) (pss_cons (ps_set (i:=6) sc_law.nd rfl (Or.inl rfl) (pe_tup (pa_cons (pe_call (ok__law_far T) (hr.mono (by decide)) rfl T.m__law_far T.F__law_far.kp T.b__law_far .nil pass0 (pa_cons (pv 3) (pa_cons (pv 5) pa_nil))) (pa_cons (pv 5) pa_nil))))
   (pss_one (ps_if (PW.pt (pw_and (PW.pt (pw_or (pt_cmpR o_isN (pv 4) pe_non (nomark _)) (pw_or1 (pt_cmpR ((op_ltD hr.units)) (pv 6) (pv 4) (nomark _))))) (pw_and1 (pt_not (pt_val (pe_call (ok__law_barred T) (hr.mono (by decide)) rfl T.m__law_barred T.F__law_barred.kp T.b__law_barred .nil pass0 (pa_cons (pv 5) pa_nil))))))) (pss_one (ps_set (i:=4) sc_law.nd rfl (Or.inl rfl) (pv 6))) pss_nil))))
   (pss_one (ps_ret (pe_cmpR (op_eqD hr.units) (pe_tup (pa_cons (pe_call (ok_how_far T B) (hr.mono (by decide)) rfl T.m_how_far T.F_how_far.kp T.b_how_far .nil pass0 (pa_cons (pv 3) pa_nil)) (pa_cons (pe_call (ok_nearest T B) (hr.mono (by decide)) rfl T.m_nearest T.F_nearest.kp T.b_nearest .nil pass0 (pa_cons (pv 3) pa_nil)) pa_nil))) (pv 4) (nomark _)))))))))),?_⟩
  walk_at "rd"
  refine ⟨Nat.zero_le _,fun tw htw=>?_⟩
  have s0:=Same.upd (o:=.lst []) htw
  have hs0:=hs.same s0
  have tb0:TabIn (upd H tw (.lst [])) Pt nqual npos:=.inl (s0 _ _ hP)
  have et0:upd H tw (.lst []) tw=some (.lst []):=upd_same
  generalize upd H tw (.lst [])=H0 at s0 hs0 tb0 et0
  walk_at "rd"
  refine ⟨a,ns,tw,[],3,rfl,hs0,et0,by decide,by decide,fun r0 H1 ts1 s1 ht1 hl1 r00 r01=>?_⟩
  walk_at "rd"
  refine ⟨a,ns,tw,ts1,1,4,rfl,by decide,by decide,by decide,hs0.t et0 s1,ht1,by simp at hl1;lia,fun x H2 n ps ts2 s2 ht2 hl2 nlo nhi hx ho=>?_⟩
  have tb2:TabIn H2 Pt nqual npos:=tabIn_t ht1 s2 (tabIn_t et0 s1 tb0)
  have n1:1≤n:=by lia
  have n4:n≤4:=by lia
  clear hs hP s0 hs0 tb0 et0 htw s1 ht1 hl1 s2 ht2 hl2
  (repeat (first | with_reducible refine rd_gname ?_ | dsimp only))
  refine seq_rest (fun σ' H'=>∃ oa ps,σ'=[some (.ref a),some (.ref tw),some (.int r0),some (.ref oa),none,none,none]∧Is H' (.ref oa) (ordD n ps)∧Ord n ps∧TabIn H' Pt nqual npos) ?_ (fun D' hrt hnx=>?_)
  rotate_left
  ·obtain ⟨oa,ob,xs,rfl,ea,eb,hxs⟩:=is_ord hx
   have same:D'.nx [some (.ref a),some (.ref tw),some (.int r0),some (.ref oa),none,none,none] H2:=hnx _ _ ⟨oa,ps,rfl,hx,ho,tb2⟩
   walk_at "rd"
   refine ifB (fun g1=>?_) (fun g1=>?_)
   rotate_left
   ·walk_at "rd"
    exact same
   ·walk_at "rd"
    refine ifB (fun g2=>?_) (fun g2=>?_)
    rotate_left
    ·walk_at "rd"
     exact same
    ·have n3:2 < n:=by
      have:=of_decide_eq_true g2
      lia
     walk_at "rd"
     refine rd_sortSetP ?_
     walk_at "rd"
     refine ⟨two_ln,fun p1 hp1=>?_⟩
     have f1:=Same.upd (o:=.tup [V.int 0,V.int 1]) hp1
     walk_at "rd"
     refine ⟨two_ln,fun p2 hp2=>?_⟩
     have f2:=Same.upd (o:=.tup [V.int 1,V.int 2]) hp2
     walk_at "rd"
     refine ⟨two_ln,fun p3 hp3=>?_⟩
     have f3:=Same.upd (o:=.tup [V.int 2,V.int 0]) hp3
     walk_at "rd"
     refine ⟨by show 3≤sizeLine;decide,fun p4 hp4=>?_⟩
     have f4:=Same.upd (o:=.tup [V.ref p1,V.ref p2,V.ref p3]) hp4
     have lx:xs.length≤16:=by
      rw [hxs.length,List.length_map]
      exact in_len n4 (nd_of (pw_of ho.up)) ho.ix
     have s4:=((f1.trans f2).trans f3).trans f4
     refine rd_catU (s4 _ _ eb) upd_same (small_ln (by show _ + 3≤1000;lia)) fun r H5 s5 er=>?_
     have iall:IsAll H5 (xs++[V.ref p1,V.ref p2,V.ref p3]) ((ps++[((0:Int),(1:Int)),(1,2),(2,0)]).map prD):=by
      rw [List.map_append]
      refine ((hxs.same s4).same s5).append (.cons (.tup (s5 _ _ (f4 _ _ (f3 _ _ (f2 _ _ upd_same)))) (.cons (.int _) (.cons (.int _) .nil))) (.cons (.tup (s5 _ _ (f4 _ _ (f3 _ _ upd_same))) (.cons (.int _) (.cons (.int _) .nil))) (.cons (.tup (s5 _ _ (f4 _ _ upd_same)) (.cons (.int _) (.cons (.int _) .nil))) .nil)))
     have hin:∀ p∈ps++[((0:Int),(1:Int)),(1,2),(2,0)],inN n p:=fun p hp=>by
      rcases List.mem_append.mp hp with h | h
      ·exact ho.ix p h
      ·simp only [List.mem_cons,List.not_mem_nil,or_false] at h
       unfold inN
       rcases h with rfl | rfl | rfl <;> dsimp only <;> lia
     have s6:=s4.trans s5
     walk_at "rd"
     refine ⟨r,_,_,rfl,.inr (SqT.of er),iall,fun p hp=>?_,?_,fun l zs' qs hl iz nub=>?_⟩
     ·obtain ⟨b1,b2,b3,b4,_⟩:=(hin p hp).box (by lia)
      exact ⟨b1,b2,b3,b4⟩
     ·rw [List.length_append]
      have:ps.length≤16:=in_len n4 (nd_of (pw_of ho.up)) ho.ix
      show ps.length + 3 < 64
      lia
     have f7:=Same.upd (o:=.lst zs') hl
     walk_at "rd"
     refine rd_tupL upd_same fun p8 hp8=>?_
     have f8:=Same.upd (o:=.tup zs') hp8
     walk_at "rd"
     refine ⟨by show 2≤sizeLine;decide,fun p9 hp9=>?_⟩
     have f9:=Same.upd (o:=.tup [V.int (n:Int),V.ref p8]) hp9
     have s9:=((s6.trans f7).trans f8).trans f9
     walk_at "rd"
     refine hnx _ _ ⟨p9,qs,rfl,.tup upd_same (.cons (.int _) (.cons (.tup (f9 _ _ upd_same) (((IsAll.same f7 iz).same f8).same f9)) .nil)),ord_of n1 (by lia) (fun p hp=>hin p ((nub.mem p).mp hp)) nub.up,tabIn_same tb2 s9⟩
  ·clear hx ho tb2 ps x
   rintro σ' H3 ⟨oa,ps,rfl,hx,ho,tb3⟩
   obtain ⟨oa',ob,xs,e0,ea,eb,hxs⟩:=is_ord hx
   cases e0
   have lps:ps.length≤16:=in_len n4 (nd_of (pw_of ho.up)) ho.ix
   walk_at "rd"
   refine ⟨n,rfl,n1,n4,fun l zs H4 os s4 hl iz ok=>?_⟩
   have lz:zs.length=os.length:=by rw [iz.length,List.length_map]
   walk_at "rd"
   refine ⟨l,rfl,⟨zs,SqL.of hl⟩,?_⟩
   refine fp_list (K:=K) (xs:=zs) (fun i σ H'=>Same H4 H'∧∃ bv v5 v6,σ=[some (.ref a),some (.ref tw),some (.int r0),some (.ref oa),some bv,v5,v6]∧BestI n ps (os.take i) H' bv) ⟨Same.refl _,_,_,_,rfl,.inl ⟨rfl,fun _ h=>by rw [List.take_zero] at h;cases h⟩⟩ (fun i σ H' _ h=>SqL.of (h.1 _ _ hl)) ?_ ?_
   ·rintro i x σ H5 hx5 ⟨s5,bv,v5,v6,rfl,hb⟩
    obtain ⟨d,ed,id⟩:=(iz.same s5).get' hx5
    rw [List.getElem?_map] at ed
    cases ho5:os[i]? with
    | none=>rw [ho5] at ed;cases ed
    | some o=>
    rw [ho5] at ed
    cases ed
    have hoo:=ok.ord o (List.mem_of_getElem? ho5)
    have lo:o.length≤16:=in_len n4 (nd_of (pw_of hoo.up)) hoo.ix
    rw [List.take_add_one,ho5,show (some o).toList=[o] from rfl]
    walk_at "rd"
    refine ⟨_,_,n,ps,o,rfl,(hx.same s4).same s5,id,ho,hoo,by lia,fun H6 s6=>?_⟩
    walk_at "rd"
    refine ⟨by show 2≤sizeLine;decide,fun p hp=>?_⟩
    have s7:=Same.upd (o:=.tup [V.int (farO n ps o:Nat),x]) hp
    have s57:=s6.trans s7
    have ik:Is (upd H6 p (.tup [V.int (farO n ps o:Nat),x])) (.ref p) (keyD n ps o):=.tup upd_same (.cons (.int _) (.cons (id.same s57) .nil))
    have id7:=id.same s57
    generalize upd H6 p (.tup [V.int (farO n ps o:Nat),x])=H7 at s7 s57 ik id7
    clear hp
    rcases hb with ⟨rfl,hn⟩ | ⟨k,qs,rfl,hk,hB⟩
    ·walk_at "rd"
     refine ⟨_,n,o,rfl,id7,hoo,fun H8 s8=>?_⟩
     walk_at "rd"
     cases gb:barB n o with
     | true=>
      walk_at "rd"
      refine ⟨s5.trans (s57.trans s8),_,_,_,rfl,.inl ⟨rfl,fun o' ho'=>?_⟩⟩
      rcases List.mem_append.mp ho' with h | h
      ·exact hn o' h
      ·rw [List.mem_singleton.mp h];exact gb
     | false=>
      walk_at "rd"
      exact ⟨s5.trans (s57.trans s8),_,_,_,rfl,.inr ⟨_,o,rfl,ik.same s8,best_none hn gb⟩⟩
    ·have hk7:=hk.same s57
     walk_at "rd"
     refine ⟨keyD n ps o,keyD n ps qs,ik,hk7,ok_key _ _ _,ok_key _ _ _,cmp_key _ _ _ _,?_⟩
     refine ⟨_,rfl,?_⟩
     rw [lt_code]
     cases g:HT.lexLt (kc n ps o) (kc n ps qs) with
     | false=>
      walk_at "rd"
      exact ⟨s5.trans s57,_,_,_,rfl,.inr ⟨_,qs,rfl,hk7,best_skip hB (.inr g)⟩⟩
     | true=>
      walk_at "rd"
      refine ⟨_,n,o,rfl,id7,hoo,fun H8 s8=>?_⟩
      walk_at "rd"
      cases gb:barB n o with
      | true=>
       walk_at "rd"
       exact ⟨s5.trans (s57.trans s8),_,_,_,rfl,.inr ⟨_,qs,rfl,hk7.same s8,best_skip hB (.inl gb)⟩⟩
      | false=>
       walk_at "rd"
       exact ⟨s5.trans (s57.trans s8),_,_,_,rfl,.inr ⟨_,o,rfl,ik.same s8,best_take hB gb g⟩⟩
   ·rintro σ H5 ⟨s5,bv,v5,v6,rfl,hb⟩
    rw [lz,List.take_length] at hb
    have s35:=s4.trans s5
    have tb5:=tabIn_same tb3 s35
    have hx5:=hx.same s35
    obtain ⟨tbl,htb⟩:=tabIn_ref tb5
    walk_at "rd"
    refine ⟨_,n,ps,rfl,hx5,ho,n4,tb5,fun H6 q1 s6 tb6 hN1 hU=>?_⟩
    walk_at "rd"
    obtain ⟨tbl6,htb6⟩:=tabIn_ref tb6
    refine ⟨_,n,ps,rfl,is_tT htb s6 hx5,ho,n4,tb6,fun z H7 q2 s7 tb7 iz7 hN2 _=>?_⟩
    walk_at "rd"
    refine ⟨by show 2≤sizeLine;decide,fun p hp=>?_⟩
    have s8:=Same.upd (o:=.tup [V.int (farO n ps q1:Nat),z]) hp
    obtain rfl:=near_uniq hN1 hN2
    have ik:Is (upd H7 p (.tup [V.int (farO n ps q1:Nat),z])) (.ref p) (keyD n ps q1):=.tup upd_same (.cons (.int _) (.cons (iz7.same s8) .nil))
    rcases hb with ⟨rfl,hn⟩ | ⟨k,qs,rfl,hk,hB⟩
    ·have:=hn q1 (ok.all q1 (hU q1 hN1.1).1 (hU q1 hN1.1).2)
     rw [(hU q1 hN1.1).2] at this
     cases this
    ·obtain rfl:=near_uniq hN1 (best_near hB n1 ok hU)
     walk_at "rd"
     refine rd_eqD ik ((key_tT htb6 s7 (key_tT htb s6 hk)).same s8) (ok_key _ _ _) (ok_key _ _ _) ?_
     rw [eqv_key]
     walk_at "rd"
     exact q _
end
end My
namespace My
open PySem L2
theorem of0 {P:List Value→Prop} (h:P []) (us:List Value) (e:us.length=0):P us:=by
 cases us with
 | nil=>exact h
 | cons a us=>cases e
theorem of1 {P:List Value→Prop} (h:∀ a,P [a]) (us:List Value) (e:us.length=1):P us:=by
 cases us with
 | nil=>cases e
 | cons a us=>exact of0 (P:=fun us=>P (a::us)) (h a) us (Nat.succ.inj e)
theorem of2 {P:List Value→Prop} (h:∀ a b,P [a,b]) (us:List Value) (e:us.length=2):P us:=by
 cases us with
 | nil=>cases e
 | cons a us=>exact of1 (P:=fun us=>P (a::us)) (h a) us (Nat.succ.inj e)
theorem of3 {P:List Value→Prop} (h:∀ a b c,P [a,b,c]) (us:List Value) (e:us.length=3):P us:=by
 cases us with
 | nil=>cases e
 | cons a us=>exact of2 (P:=fun us=>P (a::us)) (h a) us (Nat.succ.inj e)
theorem of4 {P:List Value→Prop} (h:∀ a b c d,P [a,b,c,d]) (us:List Value) (e:us.length=4):P us:=by
 cases us with
 | nil=>cases e
 | cons a us=>exact of3 (P:=fun us=>P (a::us)) (h a) us (Nat.succ.inj e)
theorem of5 {P:List Value→Prop} (h:∀ a b c d f,P [a,b,c,d,f]) (us:List Value) (e:us.length=5):P us:=by
 cases us with
 | nil=>cases e
 | cons a us=>exact of4 (P:=fun us=>P (a::us)) (h a) us (Nat.succ.inj e)
theorem mkF {K:PySem.W.Frag} {h:Heap} {mg:Str→Option Value} (X:K.In h) (G:h.Ns mainGlobals mg) {f:Str} {st:Stmt} {ps:List Str} {a:Addr} {od an:Option Addr} {sl:Array (Option Value)} {oc kV dc pm cd ct:Value}
  (hb:∀ (kV doc pm:Value) (an:Option Addr) (cdv ct:Value) (us:List Value),us.length=ps.length→bindArgs (PySem.W.fnOf f f (defArgs st) (defBody st) (defScope st) .none kV doc pm an cdv ct) ⟨us,[]⟩=pure (ps.zip us))
  (e:PySem.W.nsIn K mainGlobals f=some (some (.ref a))) (l:K.lookup a=some ⟨oc,od,.func (PySem.W.fnOf f f (defArgs st) (defBody st) (defScope st) .none kV dc pm an cd ct),sl⟩) (c:PySem.W.codeIn K cd f=true) (k:PySem.W.keepIn K (.ref a)=true):
  ∃ a d,mg f=some (.ref a)∧Fun K f f st a d∧Binds K d ps []:=by
 have F:=fun_mk (st:=st) l c k
 exact ⟨a,_,PySem.W.mg_of X G e,F,F.binds hb⟩
theorem mkN {K:PySem.W.Frag} {h:Heap} {mg:Str→Option Value} (X:K.In h) (G:h.Ns mainGlobals mg) {f:Str} (e:PySem.W.nsIn K mainGlobals f=some none):mg f=none:=PySem.W.mg_none_of X G e
theorem mkM {K:PySem.W.Frag} {h:Heap} {mg:Str→Option Value} (X:K.In h) (G:h.Ns mainGlobals mg) {f:Str} {C:Addr} (e:PySem.W.nsIn K mainGlobals f=some (some (.ref C))):mg f=some (.ref C):=PySem.W.mg_of X G e
theorem mkC {K:PySem.W.Frag} {h:Heap} {mg:Str→Option Value} (X:K.In h) (G:h.Ns mainGlobals mg) {f:Str} {n:Int} {tk:Tok} (e:PySem.W.nsIn K mainGlobals f=some (some (.int n tk))):∃ tk,mg f=some (.int n tk):=⟨tk,PySem.W.mg_of X G e⟩
theorem law_binds {K:PySem.W.Frag} {a:Addr} {fd:FuncData} (F:Fun K "law" "law" s_law a fd) (s:Shared) (v:Value):BindsTo s fd ⟨[v],[]⟩ [("_law_script",v)]:=by
 obtain ⟨oc,od,kV,doc,pm,an,cdv,ct,osl,rfl,lk,hcd⟩:=F.ex
 exact .of_eq rfl
theorem mkT {K:PySem.W.Frag} {h:Heap} {mg:Str→Option Value} (X:K.In h) (G:h.Ns mainGlobals mg) {f:Str} {c:Addr} {od:Option Addr} {n:Nat} {its:Array Value} {sl:Array (Option Value)} {xs:List V} (e:PySem.W.nsIn K mainGlobals f=some (some (.ref c))) (l:K.lookup c=some ⟨.type "tuple",od,.seq its n,sl⟩) (z:its.size≤sizeLine) (v:Vals xs its.toList):
  ∃ c,mg f=some (.ref c)∧∀ H:Hp,SqT K H c xs:=⟨c,PySem.W.mg_of X G e,fun H=>.inr ⟨_,its,n,l,rfl,rfl,z,v⟩⟩
theorem walk {l:PySem.W.OpenLaw} {q:Program} {loose:List Str} {XP:(Str→Option Value)→Heap→Prop} {YP:World→Heap→Prop} {d:DefRec} {K:Params→PySem.W.Frag} {ts:List Addr} (hn:l.most=some 63) (hdf:d.params.defaults=[])
  (hY:∀ (w:World) (h:Heap),YP w h→(K w.params).In h) (hT:∀ (w:World) (h:Heap),YP w h→∀ P∈ts,h.get? P=some (PySem.W.tabObj #[])) (htab:∀ p,tabOk (K p) "nearest" ts=true)
  (F:∀ (w:World) (mg:Str→Option Value) (fa:Addr) (h:Heap),(K w.params).In h→h.Ns mainGlobals mg→mg d.name=some (.ref fa)→
   ∃ fd:FuncData,(∀ (s:Shared) (u:Value),BindsTo s fd ⟨[u],[]⟩ [("_law_script",u)])∧∀ (base:Heap) (c P:Addr),TabK (K w.params) base mg "nearest" c P→FnOk l.prog w (K w.params) mg base CX0 11 fa fd ["_law_script"] (spLaw (K w.params) P)):
  PySem.W.WalkO q loose XP YP l.row.toRowW d [] (fun f vs=>PySem.call f vs):=
 L2.walk_ofT (n:=63) (k:=11) (x:="_law_script") (xt:="nearest") (sp:=fun w=>spLaw (K w.params)) hn (by decide) hdf ⟨rfl,by decide,by decide⟩ hY hT htab F (fun _ _ a P ns _ hS hP=>⟨a,ns,rfl,hS,hP,fun _=>rfl⟩)
end My
open PySem PySem.W PyProof.Rows
def PySem.W.Fast.tw11023498051137236879:Nat:=0
def PySem.W.Fast.tw16086691056677077248:Nat:=0
def PySem.W.Fast.tw17138498370771571786:Nat:=0
def PySem.W.Fast.tw3654478508878611271:Nat:=0
def PySem.W.Fast.tw5568982425574599383:Nat:=0
def PySem.W.Fast.tw494391324454184939:Nat:=0
def PySem.W.Fast.tw16676519980746615125:Nat:=0
def PySem.W.Fast.tw14656780827017600362:Nat:=0
def PySem.W.Fast.tw1255877251112556203:Nat:=0
def PySem.W.Fast.tw14796647935867177253:Nat:=0
def PySem.W.Fast.tw5720800136058507110:Nat:=0
def PySem.W.Fast.tw2247969967683391227:Nat:=0
def PySem.W.Fast.tw8180179005747813896:Nat:=0
def PySem.W.Fast.tw10618954987366396501:Nat:=0
def PySem.W.Fast.tw16760807444081261297:Nat:=0
def PySem.W.Fast.tw9709178358066192000:Nat:=0
def PySem.W.Fast.tw3757399530476732006:Nat:=0
def PySem.W.Fast.tw2927619839086094575:Nat:=0
def PySem.W.Fast.tw10804568694880390632:Nat:=0
def PySem.W.Fast.tw17016418135449920677:Nat:=0
def PySem.W.Fast.tw17324358769511734786:Nat:=0
def PySem.W.Fast.tw17521225511499994292:Nat:=0
def PySem.W.Fast.tw13665549465847263453:Nat:=0
def PySem.W.Fast.tw3425723172922469949:Nat:=0
def PySem.W.Fast.tw13004679545425469850:Nat:=0
def PySem.W.Fast.tw17302095535099682553:Nat:=0
def PySem.W.Fast.tw5523474781711352820:Nat:=0
def PySem.W.Fast.tw15230124402840543000:Nat:=0
def PySem.W.Fast.tw17111636304381460377:Nat:=0
def PySem.W.Fast.tw12648964528247992098:Nat:=0
def PySem.W.Fast.tw4548617656292855108:Nat:=0
def PySem.W.Fast.tw12119710224739940563:Nat:=0
def PySem.W.Fast.tw18004192147629416880:Nat:=0
def PySem.W.Fast.tw1657655516342339202:Nat:=0
def PySem.W.Fast.tw10669071987082576910:Nat:=0
def PySem.W.Fast.tw10077934149612032323:Nat:=0
def PySem.W.Fast.tw8874553739489768492:Nat:=0
def PySem.W.Fast.tw15708895705448561759:Nat:=0
def PySem.W.Fast.tw1731892725019042050:Nat:=0
def PySem.W.Fast.tw9100626224731149876:Nat:=0
def PySem.W.Fast.tw3092064860391142493:Nat:=0
def PySem.W.Fast.tw3115901224446504794:Nat:=0
def PySem.W.Fast.tw13412642131322426254:Nat:=0
def PySem.W.Fast.tw203305156534748127:Nat:=0
def PySem.W.Fast.tw16537344429962425330:Nat:=0
def PySem.W.Fast.tw15063155313647562025:Nat:=0
def PySem.W.Fast.tw14277493509646379942:Nat:=0
def PySem.W.Fast.tw7344723277628793620:Nat:=0
def PySem.W.Fast.tw6488000878275502061:Nat:=0
def PySem.W.Fast.tw12220791022558906235:Nat:=0
def PySem.W.Fast.tw18409315579053150344:Nat:=0
def PySem.W.Fast.tw9754042545490017377:Nat:=0
def PySem.W.Fast.tw7599854968047820180:Nat:=0
def PySem.W.Fast.tw16806974273279094289:Nat:=0
def PySem.W.Fast.tw4165634998001094606:Nat:=0
def PySem.W.Fast.tw5872638955756974925:Nat:=0
def PySem.W.Fast.tw8535600575028839499:Nat:=0
def PySem.W.Fast.tw11076321841101725971:Nat:=0
def PySem.W.Fast.tw5938756891906705274:Nat:=0
def PySem.W.Fast.tw572944227268935672:Nat:=0
def PySem.W.Fast.tw16760416971626071405:Nat:=0
def PySem.W.Fast.tw15019213360570790195:Nat:=0
def PySem.W.Fast.tw17760629791521152765:Nat:=0
def PySem.W.Fast.tw8818465245343341489:Nat:=0
def PySem.W.Fast.tw1089787946127890599:Nat:=0
def PySem.W.Fast.tw10112249463649556604:Nat:=0
def PySem.W.Fast.tw10820100123569955001:Nat:=0
def PySem.W.Fast.tw2084926385584664558:Nat:=0
set_option maxRecDepth 100000 in
set_option maxHeartbeats 0 in
theorem PySem.Challenge.cw_noticed_k20_whole_nearest_holds : PySem.Challenge.rw_noticed_k20_whole_nearest.Holds := by
 w_on;o_law;k_head;(case hw=>w_witness2)
 k_fill
 refine My.walk (l:=PySem.Challenge.rw_noticed_k20_whole_nearest) rfl rfl (fun w h Y=>PySem.W.km_in_of Y) (fun w h Y=>PySem.W.km_tabs_of Y) ?T ?F
 case T=>intro p;kernel_rfl
 case F=>
  intro w mg fa h KX G hmg
  have TS:(∃ a d,mg "is_whole"=some (PySem.Value.ref a)∧L2.Fun (L2.KOf KX) "is_whole" "is_whole" My.s_is_whole a d∧L2.Binds (L2.KOf KX) d ["value","low","high"] [])∧(∃ a d,mg "is_thing"=some (PySem.Value.ref a)∧L2.Fun (L2.KOf KX) "is_thing" "is_thing" My.s_is_thing a d∧L2.Binds (L2.KOf KX) d ["value","many"] [])∧(∃ a d,mg "is_pair"=some (PySem.Value.ref a)∧L2.Fun (L2.KOf KX) "is_pair" "is_pair" My.s_is_pair a d∧L2.Binds (L2.KOf KX) d ["value","many"] [])∧(∃ a d,mg "is_rising"=some (PySem.Value.ref a)∧L2.Fun (L2.KOf KX) "is_rising" "is_rising" My.s_is_rising a d∧L2.Binds (L2.KOf KX) d ["pairs"] [])∧(∃ a d,mg "is_order"=some (PySem.Value.ref a)∧L2.Fun (L2.KOf KX) "is_order" "is_order" My.s_is_order a d∧L2.Binds (L2.KOf KX) d ["value"] [])∧(∃ a d,mg "need_order"=some (PySem.Value.ref a)∧L2.Fun (L2.KOf KX) "need_order" "need_order" My.s_need_order a d∧L2.Binds (L2.KOf KX) d ["value"] [])∧(∃ a d,mg "bars_as_two"=some (PySem.Value.ref a)∧L2.Fun (L2.KOf KX) "bars_as_two" "bars_as_two" My.s_bars_as_two a d∧L2.Binds (L2.KOf KX) d ["pairs","a","b","c","d"] [])∧(∃ a d,mg "bars_as_three"=some (PySem.Value.ref a)∧L2.Fun (L2.KOf KX) "bars_as_three" "bars_as_three" My.s_bars_as_three a d∧L2.Binds (L2.KOf KX) d ["pairs","a","b","c","d"] [])∧(∃ a d,mg "first_two"=some (PySem.Value.ref a)∧L2.Fun (L2.KOf KX) "first_two" "first_two" My.s_first_two a d∧L2.Binds (L2.KOf KX) d ["pairs"] [])∧(∃ a d,mg "first_three"=some (PySem.Value.ref a)∧L2.Fun (L2.KOf KX) "first_three" "first_three" My.s_first_three a d∧L2.Binds (L2.KOf KX) d ["many","pairs"] [])∧(∃ a d,mg "bar"=some (PySem.Value.ref a)∧L2.Fun (L2.KOf KX) "bar" "bar" My.s_bar a d∧L2.Binds (L2.KOf KX) d ["order"] [])∧(∃ a d,mg "with_newest"=some (PySem.Value.ref a)∧L2.Fun (L2.KOf KX) "with_newest" "with_newest" My.s_with_newest a d∧L2.Binds (L2.KOf KX) d ["order","telling"] [])∧(∃ a d,mg "tells_of"=some (PySem.Value.ref a)∧L2.Fun (L2.KOf KX) "tells_of" "tells_of" My.s_tells_of a d∧L2.Binds (L2.KOf KX) d ["pairs","first","second"] [])∧(∃ a d,mg "unlike"=some (PySem.Value.ref a)∧L2.Fun (L2.KOf KX) "unlike" "unlike" My.s_unlike a d∧L2.Binds (L2.KOf KX) d ["one","other"] [])∧(∃ a d,mg "all_tellings"=some (PySem.Value.ref a)∧L2.Fun (L2.KOf KX) "all_tellings" "all_tellings" My.s_all_tellings a d∧L2.Binds (L2.KOf KX) d ["many"] [])∧(∃ a d,mg "unbarred_orders"=some (PySem.Value.ref a)∧L2.Fun (L2.KOf KX) "unbarred_orders" "unbarred_orders" My.s_unbarred_orders a d∧L2.Binds (L2.KOf KX) d ["many"] [])∧(∃ a d,mg "nearest"=some (PySem.Value.ref a)∧L2.Fun (L2.KOf KX) "nearest" "nearest" My.s_nearest a d∧L2.Binds (L2.KOf KX) d ["order"] [])∧(∃ a d,mg "how_far"=some (PySem.Value.ref a)∧L2.Fun (L2.KOf KX) "how_far" "how_far" My.s_how_far a d∧L2.Binds (L2.KOf KX) d ["order"] [])∧(∃ a d,mg "_law_cell_at"=some (PySem.Value.ref a)∧L2.Fun (L2.KOf KX) "_law_cell_at" "_law_cell_at" My.s__law_cell_at a d∧L2.Binds (L2.KOf KX) d ["_law_script","_law_k"] [])∧(∃ a d,mg "_law_mixed"=some (PySem.Value.ref a)∧L2.Fun (L2.KOf KX) "_law_mixed" "_law_mixed" My.s__law_mixed a d∧L2.Binds (L2.KOf KX) d ["_law_script","_law_k","_law_many"] [])∧(∃ a d,mg "_law_draw"=some (PySem.Value.ref a)∧L2.Fun (L2.KOf KX) "_law_draw" "_law_draw" My.s__law_draw a d∧L2.Binds (L2.KOf KX) d ["_law_script","_law_town","_law_many"] [])∧(∃ a d,mg "_law_pick"=some (PySem.Value.ref a)∧L2.Fun (L2.KOf KX) "_law_pick" "_law_pick" My.s__law_pick a d∧L2.Binds (L2.KOf KX) d ["_law_script","_law_town","_law_some"] [])∧(∃ a d,mg "_law_free"=some (PySem.Value.ref a)∧L2.Fun (L2.KOf KX) "_law_free" "_law_free" My.s__law_free a d∧L2.Binds (L2.KOf KX) d ["_law_script","_law_town","_law_low","_law_most"] [])∧(∃ a d,mg "_law_any"=some (PySem.Value.ref a)∧L2.Fun (L2.KOf KX) "_law_any" "_law_any" My.s__law_any a d∧L2.Binds (L2.KOf KX) d ["_law_script","_law_town","_law_low","_law_most"] [])∧(∃ a d,mg "_law_barred"=some (PySem.Value.ref a)∧L2.Fun (L2.KOf KX) "_law_barred" "_law_barred" My.s__law_barred a d∧L2.Binds (L2.KOf KX) d ["_law_order"] [])∧(∃ a d,mg "_law_all"=some (PySem.Value.ref a)∧L2.Fun (L2.KOf KX) "_law_all" "_law_all" My.s__law_all a d∧L2.Binds (L2.KOf KX) d ["_law_many"] [])∧(∃ a d,mg "_law_far"=some (PySem.Value.ref a)∧L2.Fun (L2.KOf KX) "_law_far" "_law_far" My.s__law_far a d∧L2.Binds (L2.KOf KX) d ["_law_one","_law_other"] [])∧(∃ a d,mg "law"=some (PySem.Value.ref a)∧L2.Fun (L2.KOf KX) "law" "law" My.s_law a d∧L2.Binds (L2.KOf KX) d ["_law_script"] [])∧(mg "all"=none)∧(mg "bool"=none)∧(mg "enumerate"=none)∧(mg "int"=none)∧(mg "isinstance"=none)∧(mg "len"=none)∧(mg "list"=none)∧(mg "max"=none)∧(mg "min"=none)∧(mg "range"=none)∧(mg "set"=none)∧(mg "sorted"=none)∧(mg "tuple"=none)∧(∃ tk,mg "MOST_MENDED"=some (PySem.Value.int 4 tk))∧(∃ tk,mg "MOST_THINGS"=some (PySem.Value.int 8 tk))∧(∃ c:PySem.Addr,mg "TELLING_WORDS"=some (PySem.Value.ref c)∧∀ H:L2.Hp,L2.SqT (L2.KOf KX) H c [L2.V.str "less",L2.V.str "more",L2.V.str "beside"]):=by
   refine' ⟨?t0,?t1,?t2,?t3,?t4,?t5,?t6,?t7,?t8,?t9,?t10,?t11,?t12,?t13,?t14,?t15,?t16,?t17,?t18,?t19,?t20,?t21,?t22,?t23,?t24,?t25,?t26,?t27,?t28,?t29,?t30,?t31,?t32,?t33,?t34,?t35,?t36,?t37,?t38,?t39,?t40,?t41,?t42,?t43⟩
   case t0=>
    dsimp only [L2.KOf]
    refine' My.mkF KX G ?hb ?e ?l ?c ?k
    (case hb=>exact fun _ _ _ _ _ _=>My.of3 (fun _ _ _=>rfl))
    (case e=>k_is);(case l=>k_is);(case c=>k_is);(case k=>k_is)
   case t1=>
    dsimp only [L2.KOf]
    refine' My.mkF KX G ?hb ?e ?l ?c ?k
    (case hb=>exact fun _ _ _ _ _ _=>My.of2 (fun _ _=>rfl))
    (case e=>k_is);(case l=>k_is);(case c=>k_is);(case k=>k_is)
   case t2=>
    dsimp only [L2.KOf]
    refine' My.mkF KX G ?hb ?e ?l ?c ?k
    (case hb=>exact fun _ _ _ _ _ _=>My.of2 (fun _ _=>rfl))
    (case e=>k_is);(case l=>k_is);(case c=>k_is);(case k=>k_is)
   case t3=>
    dsimp only [L2.KOf]
    refine' My.mkF KX G ?hb ?e ?l ?c ?k
    (case hb=>exact fun _ _ _ _ _ _=>My.of1 (fun _=>rfl))
    (case e=>k_is);(case l=>k_is);(case c=>k_is);(case k=>k_is)
   case t4=>
    dsimp only [L2.KOf]
    refine' My.mkF KX G ?hb ?e ?l ?c ?k
    (case hb=>exact fun _ _ _ _ _ _=>My.of1 (fun _=>rfl))
    (case e=>k_is);(case l=>k_is);(case c=>k_is);(case k=>k_is)
   case t5=>
    dsimp only [L2.KOf]
    refine' My.mkF KX G ?hb ?e ?l ?c ?k
    (case hb=>exact fun _ _ _ _ _ _=>My.of1 (fun _=>rfl))
    (case e=>k_is);(case l=>k_is);(case c=>k_is);(case k=>k_is)
   case t6=>
    dsimp only [L2.KOf]
    refine' My.mkF KX G ?hb ?e ?l ?c ?k
    (case hb=>exact fun _ _ _ _ _ _=>My.of5 (fun _ _ _ _ _=>rfl))
    (case e=>k_is);(case l=>k_is);(case c=>k_is);(case k=>k_is)
   case t7=>
    dsimp only [L2.KOf]
    refine' My.mkF KX G ?hb ?e ?l ?c ?k
    (case hb=>exact fun _ _ _ _ _ _=>My.of5 (fun _ _ _ _ _=>rfl))
    (case e=>k_is);(case l=>k_is);(case c=>k_is);(case k=>k_is)
   case t8=>
    dsimp only [L2.KOf]
    refine' My.mkF KX G ?hb ?e ?l ?c ?k
    (case hb=>exact fun _ _ _ _ _ _=>My.of1 (fun _=>rfl))
    (case e=>k_is);(case l=>k_is);(case c=>k_is);(case k=>k_is)
   case t9=>
    dsimp only [L2.KOf]
    refine' My.mkF KX G ?hb ?e ?l ?c ?k
    (case hb=>exact fun _ _ _ _ _ _=>My.of2 (fun _ _=>rfl))
    (case e=>k_is);(case l=>k_is);(case c=>k_is);(case k=>k_is)
   case t10=>
    dsimp only [L2.KOf]
    refine' My.mkF KX G ?hb ?e ?l ?c ?k
    (case hb=>exact fun _ _ _ _ _ _=>My.of1 (fun _=>rfl))
    (case e=>k_is);(case l=>k_is);(case c=>k_is);(case k=>k_is)
   case t11=>
    dsimp only [L2.KOf]
    refine' My.mkF KX G ?hb ?e ?l ?c ?k
    (case hb=>exact fun _ _ _ _ _ _=>My.of2 (fun _ _=>rfl))
    (case e=>k_is);(case l=>k_is);(case c=>k_is);(case k=>k_is)
   case t12=>
    dsimp only [L2.KOf]
    refine' My.mkF KX G ?hb ?e ?l ?c ?k
    (case hb=>exact fun _ _ _ _ _ _=>My.of3 (fun _ _ _=>rfl))
    (case e=>k_is);(case l=>k_is);(case c=>k_is);(case k=>k_is)
   case t13=>
    dsimp only [L2.KOf]
    refine' My.mkF KX G ?hb ?e ?l ?c ?k
    (case hb=>exact fun _ _ _ _ _ _=>My.of2 (fun _ _=>rfl))
    (case e=>k_is);(case l=>k_is);(case c=>k_is);(case k=>k_is)
   case t14=>
    dsimp only [L2.KOf]
    refine' My.mkF KX G ?hb ?e ?l ?c ?k
    (case hb=>exact fun _ _ _ _ _ _=>My.of1 (fun _=>rfl))
    (case e=>k_is);(case l=>k_is);(case c=>k_is);(case k=>k_is)
   case t15=>
    dsimp only [L2.KOf]
    refine' My.mkF KX G ?hb ?e ?l ?c ?k
    (case hb=>exact fun _ _ _ _ _ _=>My.of1 (fun _=>rfl))
    (case e=>k_is);(case l=>k_is);(case c=>k_is);(case k=>k_is)
   case t16=>
    dsimp only [L2.KOf]
    refine' My.mkF KX G ?hb ?e ?l ?c ?k
    (case hb=>exact fun _ _ _ _ _ _=>My.of1 (fun _=>rfl))
    (case e=>k_is);(case l=>k_is);(case c=>k_is);(case k=>k_is)
   case t17=>
    dsimp only [L2.KOf]
    refine' My.mkF KX G ?hb ?e ?l ?c ?k
    (case hb=>exact fun _ _ _ _ _ _=>My.of1 (fun _=>rfl))
    (case e=>k_is);(case l=>k_is);(case c=>k_is);(case k=>k_is)
   case t18=>
    dsimp only [L2.KOf]
    refine' My.mkF KX G ?hb ?e ?l ?c ?k
    (case hb=>exact fun _ _ _ _ _ _=>My.of2 (fun _ _=>rfl))
    (case e=>k_is);(case l=>k_is);(case c=>k_is);(case k=>k_is)
   case t19=>
    dsimp only [L2.KOf]
    refine' My.mkF KX G ?hb ?e ?l ?c ?k
    (case hb=>exact fun _ _ _ _ _ _=>My.of3 (fun _ _ _=>rfl))
    (case e=>k_is);(case l=>k_is);(case c=>k_is);(case k=>k_is)
   case t20=>
    dsimp only [L2.KOf]
    refine' My.mkF KX G ?hb ?e ?l ?c ?k
    (case hb=>exact fun _ _ _ _ _ _=>My.of3 (fun _ _ _=>rfl))
    (case e=>k_is);(case l=>k_is);(case c=>k_is);(case k=>k_is)
   case t21=>
    dsimp only [L2.KOf]
    refine' My.mkF KX G ?hb ?e ?l ?c ?k
    (case hb=>exact fun _ _ _ _ _ _=>My.of3 (fun _ _ _=>rfl))
    (case e=>k_is);(case l=>k_is);(case c=>k_is);(case k=>k_is)
   case t22=>
    dsimp only [L2.KOf]
    refine' My.mkF KX G ?hb ?e ?l ?c ?k
    (case hb=>exact fun _ _ _ _ _ _=>My.of4 (fun _ _ _ _=>rfl))
    (case e=>k_is);(case l=>k_is);(case c=>k_is);(case k=>k_is)
   case t23=>
    dsimp only [L2.KOf]
    refine' My.mkF KX G ?hb ?e ?l ?c ?k
    (case hb=>exact fun _ _ _ _ _ _=>My.of4 (fun _ _ _ _=>rfl))
    (case e=>k_is);(case l=>k_is);(case c=>k_is);(case k=>k_is)
   case t24=>
    dsimp only [L2.KOf]
    refine' My.mkF KX G ?hb ?e ?l ?c ?k
    (case hb=>exact fun _ _ _ _ _ _=>My.of1 (fun _=>rfl))
    (case e=>k_is);(case l=>k_is);(case c=>k_is);(case k=>k_is)
   case t25=>
    dsimp only [L2.KOf]
    refine' My.mkF KX G ?hb ?e ?l ?c ?k
    (case hb=>exact fun _ _ _ _ _ _=>My.of1 (fun _=>rfl))
    (case e=>k_is);(case l=>k_is);(case c=>k_is);(case k=>k_is)
   case t26=>
    dsimp only [L2.KOf]
    refine' My.mkF KX G ?hb ?e ?l ?c ?k
    (case hb=>exact fun _ _ _ _ _ _=>My.of2 (fun _ _=>rfl))
    (case e=>k_is);(case l=>k_is);(case c=>k_is);(case k=>k_is)
   case t27=>
    dsimp only [L2.KOf]
    refine' My.mkF KX G ?hb ?e ?l ?c ?k
    (case hb=>exact fun _ _ _ _ _ _=>My.of1 (fun _=>rfl))
    (case e=>k_is);(case l=>k_is);(case c=>k_is);(case k=>k_is)
   case t28=>
    refine' My.mkN KX G ?e
    (case e=>k_is)
   case t29=>
    refine' My.mkN KX G ?e
    (case e=>k_is)
   case t30=>
    refine' My.mkN KX G ?e
    (case e=>k_is)
   case t31=>
    refine' My.mkN KX G ?e
    (case e=>k_is)
   case t32=>
    refine' My.mkN KX G ?e
    (case e=>k_is)
   case t33=>
    refine' My.mkN KX G ?e
    (case e=>k_is)
   case t34=>
    refine' My.mkN KX G ?e
    (case e=>k_is)
   case t35=>
    refine' My.mkN KX G ?e
    (case e=>k_is)
   case t36=>
    refine' My.mkN KX G ?e
    (case e=>k_is)
   case t37=>
    refine' My.mkN KX G ?e
    (case e=>k_is)
   case t38=>
    refine' My.mkN KX G ?e
    (case e=>k_is)
   case t39=>
    refine' My.mkN KX G ?e
    (case e=>k_is)
   case t40=>
    refine' My.mkN KX G ?e
    (case e=>k_is)
   case t41=>
    refine' My.mkC KX G ?e
    (case e=>k_is)
   case t42=>
    refine' My.mkC KX G ?e
    (case e=>k_is)
   case t43=>
    dsimp only [L2.KOf]
    refine' My.mkT KX G ?e ?l ?z ?v
    (case e=>k_is);(case l=>k_is)
    (case z=>decide)
    (case v=>exact (.cons ⟨_,rfl⟩ (.cons ⟨_,rfl⟩ (.cons ⟨_,rfl⟩ .nil))))
  obtain ⟨⟨a0,d0,m0,F0,b0⟩,⟨a1,d1,m1,F1,b1⟩,⟨a2,d2,m2,F2,b2⟩,⟨a3,d3,m3,F3,b3⟩,⟨a4,d4,m4,F4,b4⟩,⟨a5,d5,m5,F5,b5⟩,⟨a6,d6,m6,F6,b6⟩,⟨a7,d7,m7,F7,b7⟩,⟨a8,d8,m8,F8,b8⟩,⟨a9,d9,m9,F9,b9⟩,⟨a10,d10,m10,F10,b10⟩,⟨a11,d11,m11,F11,b11⟩,⟨a12,d12,m12,F12,b12⟩,⟨a13,d13,m13,F13,b13⟩,⟨a14,d14,m14,F14,b14⟩,⟨a15,d15,m15,F15,b15⟩,⟨a16,d16,m16,F16,b16⟩,⟨a17,d17,m17,F17,b17⟩,⟨a18,d18,m18,F18,b18⟩,⟨a19,d19,m19,F19,b19⟩,⟨a20,d20,m20,F20,b20⟩,⟨a21,d21,m21,F21,b21⟩,⟨a22,d22,m22,F22,b22⟩,⟨a23,d23,m23,F23,b23⟩,⟨a24,d24,m24,F24,b24⟩,⟨a25,d25,m25,F25,b25⟩,⟨a26,d26,m26,F26,b26⟩,⟨a27,d27,m27,F27,b27⟩,N0,N1,N2,N3,N4,N5,N6,N7,N8,N9,N10,N11,N12,C0,C1,⟨w0,W0,V0⟩⟩:=TS
  have T:My.Txt (L2.KOf KX) mg ⟨a0,d0,a1,d1,a2,d2,a3,d3,a4,d4,a5,d5,a6,d6,a7,d7,a8,d8,a9,d9,a10,d10,a11,d11,a12,d12,a13,d13,a14,d14,a15,d15,a16,d16,a17,d17,a18,d18,a19,d19,a20,d20,a21,d21,a22,d22,a23,d23,a24,d24,a25,d25,a26,d26,a27,d27,w0⟩:=⟨m0,F0,b0,m1,F1,b1,m2,F2,b2,m3,F3,b3,m4,F4,b4,m5,F5,b5,m6,F6,b6,m7,F7,b7,m8,F8,b8,m9,F9,b9,m10,F10,b10,m11,F11,b11,m12,F12,b12,m13,F13,b13,m14,F14,b14,m15,F15,b15,m16,F16,b16,m17,F17,b17,m18,F18,b18,m19,F19,b19,m20,F20,b20,m21,F21,b21,m22,F22,b22,m23,F23,b23,m24,F24,b24,m25,F25,b25,m26,F26,b26,m27,F27,b27,N0,N1,N2,N3,N4,N5,N6,N7,N8,N9,N10,N11,N12,C0,C1,W0,V0⟩
  have e:=hmg.symm.trans m27
  cases e
  exact ⟨_,My.law_binds F27,fun base _ _ B=>My.ok_law T B⟩
#print axioms PySem.Challenge.cw_noticed_k20_whole_nearest_holds
