import PyProof.Rows.All
import Wide.All
import OpenK.AllK
import Wide.FinOn
import Lean
import PyProof.EqAt
import PyProof.EqKinds
import PyProof.TupleCall
import PyProof.P3Eq
import PyProof.P3In
import PyProof.NeData
import KE.KSortTup
import KE.LcSums
import PyProof.Rows.TupAdd
import KE.KTryMore
import OpenK.KOwn
import PyProof.NsDelKeeps
import PyProof.ExcArgsOwn
import KE.KIsAll
import KE.KDictOf
import KE.KLam
import KE.KMinKey
import KE.KNest
import KE.KNestM
import KE.KRevIter
import OpenK.KTop
import PyProof.AttrMissHeap
import PyProof.DictStraight
import PyProof.Draws
import PyProof.EnumMake
import PyProof.FactsAll.tuple
import PyProof.ListMulRoad
import PyProof.ListRange
import PyProof.Rows.FStr
import PyProof.Rows.MinMaxN
import PyProof.Rows.Range3
import PyProof.Rows.SetFrom
import PyProof.Rows.StrItems
import PyProof.Rows.StrSplitCount
import PyProof.Rows.SumAny
import PyProof.SliceList
import PyProof.SliceStr2
import PyProof.StrCalls2
import PyProof.StrLawsChain
import PyProof.StrLawsIdx
import PyProof.StrLawsTight
import PyProof.StrLoop
import PyProof.StrOps2
import PyProof.StrWalks
import PyProof.TupleOfSeq
import PyProof.WalkInts
import PyProof.WalksMore
import PyProof.ZipIter
import PySem.Challenge.RW_noticed_k38_keepers_texts_refused
set_option Elab.async false
set_option linter.all false
set_option maxRecDepth 100000
namespace L2
open PySem PySem.Spec PyProof.Rows
noncomputable abbrev Key:=Sum Int Str
noncomputable def keyIs:Key→Value→Bool
 | .inl k,v=>Value.isInt k v
 | .inr x,v=>Value.isStrOf x v
noncomputable def keyH (w:World):Key→Int
 | .inl k=>hashInt k
 | .inr x=>hashStr w x
theorem keyIs_shape:∀ {k:Key} {v:Value},keyIs k v=true→(∃ i t,k=Sum.inl i∧v=Value.int i t)∨(∃ x t,k=Sum.inr x∧v=Value.str x t)
 | .inl i,v,h=>by
  obtain ⟨t,e⟩:=Value.isInt_shape (k:=i) (v:=v) h
  exact .inl ⟨i,t,rfl,e⟩
 | .inr x,v,h=>by
  obtain ⟨t,e⟩:=Value.isStrOf_shape (x:=x) (v:=v) h
  exact .inr ⟨x,t,rfl,e⟩
theorem key_ll (a b:Int):decide ((Sum.inl a:Key)=Sum.inl b)=(a==b):=by
 by_cases e:a=b
 ·subst e;simp
 ·have h:¬(Sum.inl a:Key)=Sum.inl b:=fun q=>e (Sum.inl.inj q)
  rw [decide_eq_false h]
  exact (beq_eq_false_iff_ne.mpr e).symm
theorem key_rr (a b:Str):decide ((Sum.inr a:Key)=Sum.inr b)=decide (a=b):=by
 by_cases e:a=b
 ·subst e;simp
 ·have h:¬(Sum.inr a:Key)=Sum.inr b:=fun q=>e (Sum.inr.inj q)
  rw [decide_eq_false h,decide_eq_false e]
theorem key_lr (a:Int) (b:Str):decide ((Sum.inl a:Key)=Sum.inr b)=false:=decide_eq_false (fun q=>nomatch q)
theorem key_rl (a:Str) (b:Int):decide ((Sum.inr a:Key)=Sum.inl b)=false:=decide_eq_false (fun q=>nomatch q)
noncomputable def mixKind (prog:Program) (w:World):PySem.KeyKind prog w Key where
 is:=keyIs
 hash:=keyH w
 inj:=fun v a b ha hb=>by
  rcases keyIs_shape ha with ⟨i,t,rfl,rfl⟩ | ⟨x,t,rfl,rfl⟩
  ·rcases keyIs_shape hb with ⟨j,u,rfl,e⟩ | ⟨y,u,rfl,e⟩
   ·injection e with e1 _;rw [e1]
   ·exact nomatch e
  ·rcases keyIs_shape hb with ⟨j,u,rfl,e⟩ | ⟨y,u,rfl,e⟩
   ·exact nomatch e
   ·injection e with e1 _;rw [e1]
 byValue:=fun k v h=>by
  rcases keyIs_shape h with ⟨i,t,rfl,rfl⟩ | ⟨x,t,rfl,rfl⟩ <;> rfl
 pyHash:=fun hv h=>by
  rcases keyIs_shape hv with ⟨i,t,rfl,rfl⟩ | ⟨x,t,rfl,rfl⟩
  ·exact wpAny_pyHash_int h
  ·exact wpAny_pyHash_str h
 eqBool:=fun hu hv h=>by
  rcases keyIs_shape hu with ⟨i,t,rfl,rfl⟩ | ⟨x,t,rfl,rfl⟩
  ·rcases keyIs_shape hv with ⟨j,u,rfl,rfl⟩ | ⟨y,u,rfl,rfl⟩
   ·rw [key_ll] at h;exact wpAny_eqBool_int h
   ·rw [key_lr] at h;exact SeqAt.EqAt.int_str i t y u _ _ _ _ h
  ·rcases keyIs_shape hv with ⟨j,u,rfl,rfl⟩ | ⟨y,u,rfl,rfl⟩
   ·rw [key_rl] at h;exact SeqAt.EqAt.str_int x t j u _ _ _ _ h
   ·rw [key_rr] at h;exact wpAny_eqBool_str h
 «strs»:=fun k x t v h=>by
  rcases keyIs_shape h with ⟨i,u,rfl,e⟩ | ⟨y,u,rfl,e⟩
  ·exact nomatch e
  ·injection e with e1 _
   subst e1
   cases v <;> rfl
end L2
namespace L2
open PySem PySem.Spec PyProof.Rows
inductive V where
 | non | bl (b:Bool) | int (i:Int) | str (x:Str) | byt (b:Array UInt8) | flt (b:UInt64) | ref (a:Addr) | ty (n:String)
 deriving DecidableEq
noncomputable def RelV:V→Value→Prop
 | .non,u=>u=Value.none
 | .bl b,u=>u=Value.bool b
 | .int i,u=>∃ t,u=Value.int i t
 | .str x,u=>∃ t,u=Value.str x t
 | .byt b,u=>∃ t,u=Value.bytes b t
 | .flt b,u=>∃ t,u=Value.float b t
 | .ref a,u=>u=Value.ref a
 | .ty n,u=>u=Value.type n
noncomputable abbrev Vals:List V→List Value→Prop:=Paired RelV
theorem Vals.length {xs:List V} {us:List Value} (r:Vals xs us):xs.length=us.length:=Paired.length r
theorem Vals.get:∀ {xs:List V} {us:List Value} {i:Nat} {x:V},Vals xs us→xs[i]? =some x→∃ u,us[i]? =some u∧RelV x u
 | _,_,_,_,.nil,e=>by simp at e
 | _,_,0,_,.cons r _,e=>by simp at e;subst e;exact ⟨_,rfl,r⟩
 | _,_,i + 1,x,.cons _ t,e=>by
  obtain ⟨u,h1,h2⟩:=Vals.get (i:=i) (x:=x) t (by simpa using e)
  exact ⟨u,by simpa using h1,h2⟩
theorem Vals.set {x:V} {u:Value} (r:RelV x u):∀ {xs:List V} {us:List Value} (i:Nat),Vals xs us→Vals (xs.set i x) (us.set i u)
 | _,_,_,.nil=>.nil
 | _,_,0,.cons _ t=>.cons r t
 | _,_,i + 1,.cons q t=>.cons q (Vals.set r i t)
theorem Vals.append:∀ {xs ys:List V} {us ws:List Value},Vals xs us→Vals ys ws→Vals (xs++ys) (us++ws)
 | _,_,_,_,.nil,s=>s
 | _,_,_,_,.cons r t,s=>.cons r (Vals.append t s)
theorem Vals.take:∀ {xs:List V} {us:List Value} (n:Nat),Vals xs us→Vals (xs.take n) (us.take n)
 | _,_,0,_=>.nil
 | _,_,_ + 1,.nil=>.nil
 | _,_,n + 1,.cons r t=>.cons r (Vals.take n t)
theorem Vals.drop:∀ {xs:List V} {us:List Value} (n:Nat),Vals xs us→Vals (xs.drop n) (us.drop n)
 | _,_,0,r=>r
 | _,_,_ + 1,.nil=>.nil
 | _,_,n + 1,.cons _ t=>Vals.drop n t
theorem Vals.none_of:∀ {xs:List V} {us:List Value} {i:Nat},Vals xs us→xs[i]? =none→us[i]? =none:=fun {xs us i} r e=>by
 have h1:=r.length
 have h2:xs.length≤i:=List.getElem?_eq_none_iff.mp e
 exact List.getElem?_eq_none_iff.mpr (by lia)
noncomputable def RelO:Option V→Option Value→Prop
 | some v,some u=>RelV v u
 | none,none=>True
 | _,_=>False
noncomputable def KV {κ:Type}:List (κ×V)→List (κ×Value)→Prop:=Paired fun (p:κ×V) (q:κ×Value)=>p.1=q.1∧RelV p.2 q.2
noncomputable def kV:Key→V
 | .inl i=>.int i
 | .inr x=>.str x
inductive HO where
 | lst (xs:List V)
 | tup (xs:List V)
 | dK (kvs:List (Key×V)) | dT (kvs:List (List Key×V))
 | set (S:Int→Bool) (n:Nat)
 | ins (C dx:Addr) (fs:List (Str×V))
 | own (x:Addr)
 | xd (fs:List (Str×V))
 | met (f x:Addr)
 | rng (lo hi:Int)
 | frz (o:Obj) (u:HO)
 | tbl (ps:Array Value)
 | ext (φ:Heap→Prop)
noncomputable abbrev Hp:=Addr→Option HO
noncomputable def upd (H:Hp) (a:Addr) (o:HO):Hp:=fun b=>if b=a then some o else H b
theorem upd_same {H:Hp} {a:Addr} {o:HO}:upd H a o a=some o:=by unfold upd;rw [if_pos rfl]
theorem upd_ne {H:Hp} {a b:Addr} {o:HO} (h:b≠a):upd H a o b=H b:=by unfold upd;rw [if_neg h]
theorem ne_of {H:Hp} {a b:Addr} {o u:HO} (h:H a=some o) (h':H b=some u) (d:o≠u):a≠b:=by
 intro e;subst e;rw [h] at h';exact d (Option.some.inj h')
theorem ne_of_none {H:Hp} {a b:Addr} {o:HO} (h:H a=some o) (h':H b=none):a≠b:=by
 intro e;subst e;rw [h] at h';cases h'
noncomputable def IsTupN (h:Heap) (a:Addr) (items:Array Value):Prop:=IsTup h a items∧∃ o,h.get? a=some o∧o.dict=none
theorem IsTupN.new (h:Heap) (items:Array Value):IsTupN (h.push { cls:=.type "tuple",data:=.seq items }) h.objs.size items:=⟨IsTup.new h items,_,Heap.get?_push_size _ rfl,rfl⟩
section
variable (P:Program) (w:World)
noncomputable def ObjOk (H:Hp) (h:Heap) (a:Addr):HO→Prop
 | .lst xs=>xs.length≤sizeLine∧∃ (its:List Value) (n:Nat),Vals xs its∧h.get? a=some { cls:=.type "list",data:=.seq its.toArray n }
 | .tup xs=>xs.length≤sizeLine∧∃ its:List Value,Vals xs its∧IsTupN h a its.toArray
 | .dK kvs=>kvs.length≤sizeLine∧(a==sysModules)=false∧∃ vs,KV kvs vs∧h.DictOf (mixKind P w) a vs
 | .dT kvs=>kvs.length≤sizeLine∧(a==sysModules)=false∧∃ xs:List (List Key×Addr×Value),
   Paired (fun (p:List Key×V) (q:List Key×Addr×Value)=>p.1=q.1∧H q.2.1=some (.tup (p.1.map kV))∧RelV p.2 q.2.2) kvs xs∧
   ∃ o es ep,h.get? a=some o∧o.ExactDict∧o.data=.dict es ep∧es.toList=xs.map (entryOfKey (tupleKind (mixKind P w)))∧(xs.map (·.1)).Nodup
 | .set S n=>h.SetOf (intKind P w) a S n
 | .ins C dx fs=>H dx=some (.own a)∧fs.length≤1000∧dx≠a∧h.get? a=some (PySem.W.instObj C dx)∧
   ∃ mA,h.Ns1 dx mA∧(∀ f,RelO (fs.lookup f) (mA f))∧PySem.Within mA (fs.map (·.1))
 | .own _=>∃ o,h.get? a=some o
 | .xd fs=>∃ mA,h.Ns1 a mA∧∀ f,RelO (fs.lookup f) (mA f)
 | .rng lo hi=>∃ t u v,h.get? a=some { cls:=.type "range",data:=.fields #[.int lo t,.int hi u,.int 1 v] }
 | .frz o u=>h.get? a=some o∧ObjOk H h a u
 | .tbl ps=>h.get? a=some { cls:=.none,data:=.fields ps }
 | .met f x=>h.get? a=some (PySem.W.methodObj (.ref f) (.ref x))
 | .ext φ=>φ h∧(∃ o,h.get? a=some o)∧∀ h1 h2:Heap,φ h1→(∀ o,h1.get? a=some o→h2.get? a=some o)→φ h2
noncomputable def HOk (H:Hp) (h:Heap):Prop:=∀ a o,H a=some o→ObjOk P w H h a o
end
section
variable {P:Program} {w:World} {H H':Hp} {h h':Heap} {a:Addr} {o:HO}
theorem ObjOk.lt (x:ObjOk P w H h a o):a < h.objs.size:=by
 cases o with
 | lst xs=>obtain ⟨_,_,_,_,e⟩:=x;exact Heap.lt_size e
 | tup xs=>obtain ⟨_,_,_,p⟩:=x;exact p.1.lt
 | dK kvs=>obtain ⟨_,_,_,_,o,_,_,e,_⟩:=x;exact Heap.lt_size e
 | dT kvs=>obtain ⟨_,_,_,_,o,_,_,e,_⟩:=x;exact Heap.lt_size e
 | set S n=>obtain ⟨o,_,_,_,e,_⟩:=x;exact Heap.lt_size e
 | ins C dx fs=>obtain ⟨_,_,_,e,_⟩:=x;exact Heap.lt_size e
 | own y=>obtain ⟨_,e⟩:=x;exact Heap.lt_size e
 | xd fs=>obtain ⟨_,⟨_,_,_,e,_⟩,_⟩:=x;exact Heap.lt_size e
 | rng lo hi=>obtain ⟨_,_,_,e⟩:=x;exact Heap.lt_size e
 | frz ob u=>obtain ⟨e,_⟩:=x;exact Heap.lt_size e
 | tbl ps=>exact Heap.lt_size (show h.get? a=some _ from x)
 | met f y=>exact Heap.lt_size (show h.get? a=some _ from x)
 | ext φ=>obtain ⟨_,⟨_,e⟩,_⟩:=x;exact Heap.lt_size e
theorem Paired.mapP {α β:Type} {F G:α→β→Prop}:∀ {l₁:List α} {l₂:List β},Paired F l₁ l₂→(∀ a b,F a b→G a b)→Paired G l₁ l₂
 | _,_,.nil,_=>.nil
 | _,_,.cons r t,f=>.cons (f _ _ r) (Paired.mapP t f)
theorem ObjOk.stay (x:ObjOk P w H h a o) (k:∀ b u,(b=a∨H b=some (.own a))→h.get? b=some u→h'.get? b=some u)
  (ho:∀ b,H b=some (.own a)→H' b=some (.own a)) (ht:∀ b xs,H b=some (.tup xs)→H' b=some (.tup xs)):ObjOk P w H' h' a o:=by
 induction o with
 | lst xs=>obtain ⟨z,its,n,r,e⟩:=x;exact ⟨z,its,n,r,k _ _ (.inl rfl) e⟩
 | tup xs=>obtain ⟨z,its,r,⟨ob,e,c⟩,ob2,e2,c2⟩:=x;exact ⟨z,its,r,⟨ob,k _ _ (.inl rfl) e,c⟩,ob2,k _ _ (.inl rfl) e2,c2⟩
 | dK kvs=>obtain ⟨z,y,vs,r,ob,es,ep,e,c⟩:=x;exact ⟨z,y,vs,r,ob,es,ep,k _ _ (.inl rfl) e,c⟩
 | dT kvs=>
  obtain ⟨z,y,xs,r,ob,es,ep,e,c⟩:=x
  exact ⟨z,y,xs,Paired.mapP r fun p q z=>⟨z.1,ht _ _ z.2.1,z.2.2⟩,ob,es,ep,k _ _ (.inl rfl) e,c⟩
 | set S n=>obtain ⟨ob,es,ep,t,e,c⟩:=x;exact ⟨ob,es,ep,t,k _ _ (.inl rfl) e,c⟩
 | ins C dx fs=>
  obtain ⟨d,z,ne,e,mA,⟨od,es,ep,e2,c⟩,r⟩:=x
  exact ⟨ho _ d,z,ne,k _ _ (.inl rfl) e,mA,⟨od,es,ep,k _ _ (.inr d) e2,c⟩,r⟩
 | own y=>obtain ⟨ob,e⟩:=x;exact ⟨ob,k _ _ (.inl rfl) e⟩
 | xd fs=>obtain ⟨mA,⟨od,es,ep,e,c⟩,r⟩:=x;exact ⟨mA,⟨od,es,ep,k _ _ (.inl rfl) e,c⟩,r⟩
 | rng lo hi=>obtain ⟨t,u,v,e⟩:=x;exact ⟨t,u,v,k _ _ (.inl rfl) e⟩
 | frz ob u ih=>obtain ⟨e,q⟩:=x;exact ⟨k _ _ (.inl rfl) e,ih q⟩
 | tbl ps=>
  have e:h.get? a=some { cls:=.none,data:=.fields ps }:=x
  show h'.get? a=some { cls:=.none,data:=.fields ps }
  exact k a _ (.inl rfl) e
 | met f y=>
  have e:h.get? a=some (PySem.W.methodObj (.ref f) (.ref y)):=x
  show h'.get? a=some (PySem.W.methodObj (.ref f) (.ref y))
  exact k a _ (.inl rfl) e
 | ext φ=>obtain ⟨p,⟨o,e⟩,st⟩:=x;exact ⟨st _ _ p fun o q=>k _ _ (.inl rfl) q,⟨o,k _ _ (.inl rfl) e⟩,st⟩
theorem HOk.lt (x:HOk P w H h) (e:H a=some o):a < h.objs.size:=(x a o e).lt
theorem HOk.fresh (x:HOk P w H h) (e:h.objs.size≤a):H a=none:=by
 cases q:H a with
 | none=>rfl
 | some u=>exact absurd (Nat.lt_of_lt_of_le (x.lt q) e) (Nat.lt_irrefl _)
theorem HOk.kept (x:HOk P w H h) (k:∀ b u,h.get? b=some u→h'.get? b=some u):HOk P w H h':=fun a o e=>
 (x a o e).stay (fun b u _ q=>k b u q) (fun _ q=>q) fun _ _ q=>q
theorem HOk.laid (x:HOk P w H h) (k:∀ b u,h.get? b=some u→h'.get? b=some u) (hp:h.objs.size≤a) (new:ObjOk P w (upd H a o) h' a o):HOk P w (upd H a o) h':=fun b u e=>by
 have hn:=x.fresh hp
 by_cases hb:b=a
 ·subst hb;rw [upd_same] at e;cases e;exact new
 ·rw [upd_ne hb] at e
  exact (x b u e).stay (fun c v _ q=>k c v q) (fun c q=>by rw [upd_ne (ne_of_none q hn)];exact q) fun c xs q=>by rw [upd_ne (ne_of_none q hn)];exact q
end
noncomputable def Rd (H:Hp) (a:Addr) (u:HO):Prop:=H a=some u∨∃ o,H a=some (.frz o u)
theorem Rd.of {H:Hp} {a:Addr} {u:HO} (h:H a=some u):Rd H a u:=.inl h
theorem Rd.ok {P:Program} {w:World} {H:Hp} {h:Heap} {a:Addr} {u:HO} (r:Rd H a u) (x:HOk P w H h):ObjOk P w H h a u:=by
 rcases r with r | ⟨o,r⟩
 ·exact x a u r
 ·obtain ⟨_,q⟩:=x a _ r
  exact q
noncomputable def Mut:Option HO→Prop
 | some (.lst _)=>True
 | some (.dK _)=>True
 | some (.dT _)=>True
 | some (.set _ _)=>True
 | some (.ins _ _ _)=>True
 | some (.ext _)=>True
 | _=>False
section
variable {P:Program} {w:World} {H:Hp} {h h':Heap} {x e:Addr} {o':HO}
theorem HOk.write (ok:HOk P w H h) (mu:Mut (H x)) (he:e=x∨H e=some (.own x)) (k:∀ b u,b≠e→h.get? b=some u→h'.get? b=some u) (heo:∃ u,h'.get? e=some u)
  (new:ObjOk P w (upd H x o') h' x o'):HOk P w (upd H x o') h':=fun b u q=>by
 have nown:∀ c y,H c=some (.own y)→c≠x:=fun c y r z=>by subst z;rw [r] at mu;exact mu
 have ntup:∀ c xs,H c=some (.tup xs)→c≠x:=fun c xs r z=>by subst z;rw [r] at mu;exact mu
 by_cases hb:b=x
 ·subst hb;rw [upd_same] at q;cases q;exact new
 ·rw [upd_ne hb] at q
  by_cases hbe:b=e
  ·have q':H b=some (.own x):=by
    rcases he with z | z
    ·exact absurd (hbe.trans z) hb
    ·rw [hbe];exact z
   rw [q] at q';cases q'
   obtain ⟨v,hv⟩:=heo
   exact ⟨v,by rw [hbe];exact hv⟩
  ·refine (ok b u q).stay (fun c v hc r=>k c v ?_ r) (fun c r=>by rw [upd_ne (nown c b r)];exact r) fun c xs r=>by rw [upd_ne (ntup c xs r)];exact r
   rcases hc with rfl | hc
   ·exact hbe
   ·rintro rfl
    rcases he with z | z
    ·exact nown c b hc z
    ·rw [hc] at z;cases z;exact hb rfl
end
structure Un (fs ex:List Addr) (H H':Hp) (h h':Heap):Prop where
 keep:∀ b o,h.get? b=some o→H b=none→b∉fs→b∉ex→h'.get? b=some o
 slot:∀ b o,h.get? b=some o→H b=none→b∈fs→b∉ex→∃ sl,h'.get? b=some { o with slots:=sl }
 free:∀ b o,h.get? b=some o→H b=none→b∉ex→H' b=none
 there:∀ b o,h.get? b=some o→b∉ex→∃ o',h'.get? b=some o'
 tups:∀ b xs,H b=some (.tup xs)→H' b=some (.tup xs)
 frzs:∀ b o u,H b=some (.frz o u)→H' b=some (.frz o u)
 tbls:∀ b ps,H b=some (.tbl ps)→∃ more,H' b=some (.tbl (ps++more))
section
variable {fs fs' ex ex':List Addr} {H H1 H2:Hp} {h h1 h2 h':Heap} {a x e:Addr} {o:HO}
theorem Un.any (u:Un fs ex H H1 h h1) {b:Addr} {ob:Obj} (q:h.get? b=some ob) (n:H b=none) (hx:b∉ex):∃ sl,h1.get? b=some { ob with slots:=sl }:=by
 by_cases hb:b∈fs
 ·exact u.slot b ob q n hb hx
 ·exact ⟨ob.slots,u.keep b ob q n hb hx⟩
theorem Un.trans (a:Un fs ex H H1 h h1) (b:Un fs ex H1 H2 h1 h2):Un fs ex H H2 h h2 where
 keep:=fun c ob q n hc hx=>b.keep c ob (a.keep c ob q n hc hx) (a.free c ob q n hx) hc hx
 slot:=fun c ob q n hc hx=>by
  obtain ⟨sl,e1⟩:=a.slot c ob q n hc hx
  obtain ⟨sl',e2⟩:=b.slot c _ e1 (a.free c ob q n hx) hc hx
  exact ⟨sl',e2⟩
 free:=fun c ob q n hx=>by
  obtain ⟨o',e1⟩:=a.there c ob q hx
  exact b.free c o' e1 (a.free c ob q n hx) hx
 there:=fun c ob q hx=>by
  obtain ⟨o',e1⟩:=a.there c ob q hx
  exact b.there c o' e1 hx
 tups:=fun c xs q=>b.tups c xs (a.tups c xs q)
 frzs:=fun c ob xs q=>b.frzs c ob xs (a.frzs c ob xs q)
 tbls:=fun c ps q=>by
  obtain ⟨m1,e1⟩:=a.tbls c ps q
  obtain ⟨m2,e2⟩:=b.tbls c _ e1
  exact ⟨m1++m2,by rw [e2,Array.append_assoc]⟩
theorem Un.kept (k:∀ b u,h.get? b=some u→h'.get? b=some u):Un fs ex H H h h':=
 ⟨fun b ob q _ _ _=>k b ob q,fun b ob q _ _ _=>⟨ob.slots,k b ob q⟩,fun _ _ _ n _=>n,fun b ob q _=>⟨ob,k b ob q⟩,fun _ _ q=>q,fun _ _ _ q=>q,fun _ ps q=>⟨#[],by rw [q];simp⟩⟩
theorem Un.refl:Un fs ex H H h h:=Un.kept fun _ _ q=>q
theorem Un.laid (k:∀ b u,h.get? b=some u→h'.get? b=some u) (hp:h.objs.size≤a) (hn:H a=none):Un fs ex H (upd H a o) h h' where
 keep:=fun b u q _ _ _=>k b u q
 slot:=fun b u q _ _ _=>⟨u.slots,k b u q⟩
 free:=fun b u q n _=>by rw [upd_ne (Nat.ne_of_lt (Nat.lt_of_lt_of_le (Heap.lt_size q) hp))];exact n
 there:=fun b u q _=>⟨u,k b u q⟩
 tups:=fun b xs q=>by rw [upd_ne (ne_of_none q hn)];exact q
 frzs:=fun b u xs q=>by rw [upd_ne (ne_of_none q hn)];exact q
 tbls:=fun b ps q=>⟨#[],by rw [upd_ne (ne_of_none q hn),q];simp⟩
theorem Un.write (mu:Mut (H x)) (he:e=x∨H e=some (.own x)) (k:∀ b u,b≠e→h.get? b=some u→h'.get? b=some u) (heo:∃ u,h'.get? e=some u):Un fs ex H (upd H x o) h h':=by
 have hx:∀ b,H b=none→b≠x:=fun b n z=>by subst z;rw [n] at mu;exact mu
 have hb:∀ b,H b=none→b≠e:=fun b n z=>by
  subst z
  rcases he with r | r
  ·exact hx b n r
  ·rw [n] at r;cases r
 have hm:∀ b u,H b=some u→¬Mut (some u)→b≠x:=fun b u q nm z=>by subst z;rw [q] at mu;exact nm mu
 refine ⟨fun b u q n _ _=>k b u (hb b n) q,fun b u q n _ _=>⟨u.slots,k b u (hb b n) q⟩,fun b u q n _=>by rw [upd_ne (hx b n)];exact n,fun b u q _=>?_,
  fun b xs q=>by rw [upd_ne (hm b _ q fun z=>z)];exact q,fun b u xs q=>by rw [upd_ne (hm b _ q fun z=>z)];exact q,fun b ps q=>⟨#[],by rw [upd_ne (hm b _ q fun z=>z),q];simp⟩⟩
 by_cases hbe:b=e
 ·subst hbe;exact heo
 ·exact ⟨u,k b u hbe q⟩
theorem Un.mono (u:Un fs ex H H1 h h1) (hs:∀ b∈fs,b∈fs') (hx:∀ b∈ex,b∈ex'):Un fs' ex' H H1 h h1:=
 ⟨fun b ob q n hb he=>u.keep b ob q n (fun z=>hb (hs b z)) fun z=>he (hx b z),fun _ _ q n _ he=>u.any q n fun z=>he (hx _ z),fun b ob q n he=>u.free b ob q n fun z=>he (hx b z),fun b ob q he=>u.there b ob q fun z=>he (hx b z),u.tups,u.frzs,u.tbls⟩
end
noncomputable def trk (h:Heap) (H:Hp):List Addr:=(List.range h.objs.size).filter fun a=>(H a).isSome
noncomputable def hidT (h:Heap) (H:Hp):Heap:=PySem.W.hideAll h (trk h H)
theorem hidT_size (h:Heap) (H:Hp):(hidT h H).objs.size=h.objs.size:=PySem.W.hideAll_size _ _
theorem hidT_get {h:Heap} {H:Hp} {b:Addr} {o:Obj} (e:h.get? b=some o) (n:H b=none):(hidT h H).get? b=some o:=
 PySem.W.hideAll_get _ e fun hm=>by
  have q:(H b).isSome=true:=(List.mem_filter.mp hm).2
  rw [n] at q;simp at q
theorem of_hidT {h:Heap} {H:Hp} {b:Addr} {o:Obj} (e:(hidT h H).get? b=some o):h.get? b=some o∧H b=none:=by
 have e':h.get? b=some o:=PySem.W.of_hideAll (trk h H) e
 refine ⟨e',?_⟩
 cases q:H b with
 | none=>rfl
 | some x=>
  have hm:b∈trk h H:=List.mem_filter.mpr ⟨List.mem_range.mpr (Heap.lt_size e'),by simp [q]⟩
  have z:(hidT h H).get? b=none:=PySem.W.hideAll_none (trk h H) hm
  rw [z] at e;cases e
noncomputable def allNews (g h:Heap) (L:Addr):List (Addr×Obj):=(List.range h.objs.size).filterMap fun a=>if a=L∨(g.get? a).isSome=true then none else (h.get? a).map fun o=>(a,o)
theorem mem_allNews {g h:Heap} {L a:Addr} {o:Obj} (h1:a≠L) (h2:g.get? a=none) (h3:h.get? a=some o):(a,o)∈allNews g h L:=
 List.mem_filterMap.mpr ⟨a,List.mem_range.mpr (Heap.lt_size h3),by simp [h1,h2,h3]⟩
theorem of_mem_allNews {g h:Heap} {L:Addr} {p:Addr×Obj} (hp:p∈allNews g h L):p.1≠L∧g.get? p.1=none∧h.get? p.1=some p.2:=by
 obtain ⟨b,_,e⟩:=List.mem_filterMap.mp hp
 split at e
 ·cases e
 ·rename_i hn
  cases q:h.get? b with
  | none=>rw [q] at e;simp at e
  | some u=>
   rw [q] at e
   simp only [Option.map_some,Option.some.injEq] at e
   subst e
   refine ⟨fun z=>hn (.inl z),?_,q⟩
   show g.get? b=none
   cases r:g.get? b with
   | none=>rfl
   | some v=>exact (hn (.inr (by simp [r]))).elim
noncomputable def rest (g h:Heap) (L d:Addr):List (Addr×Obj):=(allNews g h L).filter fun p=>decide (p.1≠d)
theorem news_all {g h:Heap} {L:Addr}:News g L h (allNews g h L):=fun p hp=>let ⟨a,b,c⟩:=of_mem_allNews hp;⟨c,a,b⟩
end L2
namespace L2
open PySem PySem.Spec PyProof.Rows
structure Mod (K:PySem.W.Frag) (mg:Str→Option Value) (base:Heap):Prop where
 kin:K.In base
 glob:base.Ns mainGlobals mg
 blt:∃ mb,base.Ns builtinsNs mb∧∀ x:Str,x≠"__name__"→mb x=bootBuiltins x
 nolimit:base.NoLimit
structure Cx where
 prog:Program
 w:World
 K:PySem.W.Frag
 mg:Str→Option Value
 base:Heap
 A:Around
 N:List Str
 s₀:Shared
 H₀:Hp
 env:Env
 outer:List Env
 stack:List Env
 ex:List Addr
 fn:Str→Bool
 calm:Bool
 pn:List (Addr×Obj)
 xe:Value→Shared→Prop
noncomputable def frs (l:List Env):List Addr:=l.filterMap (·.frame)
noncomputable abbrev Cx.fs (X:Cx):List Addr:=frs X.outer
noncomputable def Vis (sc:Scope) (x:Str):Prop:=sc.names.lookup x=some .local∨sc.names.lookup x=some .cell∨sc.names.lookup x=some .free
noncomputable def Loc (sc:Scope) (x:Str):Prop:=sc.names.lookup x=some .local∨sc.names.lookup x=some .cell
noncomputable def Look (env:Env) (h:Heap) (m:Str→Option Value) (x:Str) (u:Value):Prop:=
 (env.kindOf x=some .local∧m x=some u)∨((env.kindOf x=some .cell∨env.kindOf x=some .free)∧∃ c,env.cells.lookup x=some c∧h.IsCell c (some u))
structure Cx.Ok (X:Cx):Prop where
 mod:Mod X.K X.mg X.base
 kind:X.env.scope.kind=.function
 glob:X.env.globals=mainGlobals
 blt:X.env.builtins=builtinsNs
 above:X.s₀.heap.objs.size≤X.env.locals
 inj:∀ x y c,X.env.cells.lookup x=some c→X.env.cells.lookup y=some c→x=y
 has:∀ x,(X.env.kindOf x=some .cell∨X.env.kindOf x=some .free)→∃ c,X.env.cells.lookup x=some c
 cab:∀ x c,X.fn x=true→X.env.cells.lookup x=some c→X.s₀.heap.objs.size≤c
 hd:X.calm=true→X.A.handled=none
 frames:X.A.frames=some X.stack
 stk:X.stack=X.outer∨(X.stack=X.env::X.outer∧X.env.frame=some X.env.locals)
 exf:∀ b∈X.ex,b≠X.env.locals∧∀ x c,X.env.cells.lookup x=some c→c≠b
 bs:∀ b o,X.base.get? b=some o→X.s₀.heap.get? b=some o∧X.H₀ b=none
 bsz:X.base.objs.size≤X.s₀.heap.objs.size
 noex:∀ b o,X.base.get? b=some o→b∉X.ex
 exfs:∀ b∈X.ex,b∉X.fs
 funs:X.s₀.heap.FunFrames X.base X.outer
 frf:∀ b∈X.fs,X.H₀ b=none
structure Inv (X:Cx) (pins:List (Addr×Obj)) (σ:List (Option V)) (H:Hp) (s:Shared):Prop where
 ok:X.Ok
 os:s.os=X.s₀.os
 bare:AllBare s.gens
 base:Un X.fs X.ex X.H₀ H X.s₀.heap s.heap
 loc:∃ m,s.heap.Ns X.env.locals m∧∀ (i:Nat) (x:Str) (v:V),X.N[i]? =some x→σ[i]? =some (some v)→Vis X.env.scope x→∃ u,RelV v u∧Look X.env s.heap m x u
 cell:∀ x c,X.env.cells.lookup x=some c→∃ v,s.heap.IsCell c v
 free:H X.env.locals=none
 freeC:∀ x c,X.env.cells.lookup x=some c→H c=none
 pin:∀ p∈X.pn++pins,s.heap.get? p.1=some p.2∧H p.1=none∧p.1≠X.env.locals∧p.1∉X.fs∧∀ v,p.2.data≠.cell v
 hok:HOk X.prog X.w H s.heap
 len:σ.length=X.N.length
section
variable {X:Cx} {pins:List (Addr×Obj)} {σ:List (Option V)} {H H':Hp} {s:Shared} {h':Heap}
theorem Cx.Ok.nofr (ok:X.Ok) {b:Addr} {o:Obj} (e:X.base.get? b=some o):b∉X.fs:=fun hb=>by
 have:=(ok.funs.mem hb).1
 rw [e] at this;cases this
theorem Inv.bs (I:Inv X pins σ H s):∀ b o,X.base.get? b=some o→s.heap.get? b=some o∧H b=none:=fun b o e=>
 ⟨I.base.keep b o (I.ok.bs b o e).1 (I.ok.bs b o e).2 (I.ok.nofr e) (I.ok.noex b o e),I.base.free b o (I.ok.bs b o e).1 (I.ok.bs b o e).2 (I.ok.noex b o e)⟩
theorem Inv.bk (I:Inv X pins σ H s):∀ b o,X.base.get? b=some o→s.heap.get? b=some o:=fun b o e=>(I.bs b o e).1
theorem Inv.mod (I:Inv X pins σ H s):Mod X.K X.mg X.base:=I.ok.mod
theorem Inv.kIn (I:Inv X pins σ H s):X.K.In s.heap:=I.ok.mod.kin.keeps I.bk
theorem Inv.nolimit (I:Inv X pins σ H s):s.heap.NoLimit:=I.ok.mod.nolimit.keeps I.bk
theorem Inv.fr (I:Inv X pins σ H s):∃ m,Fr X.base X.env.locals s.heap m:=
 let ⟨m,hn,_⟩:=I.loc
 ⟨m,hn,I.bk,Nat.le_trans I.ok.bsz I.ok.above⟩
theorem Inv.lt (I:Inv X pins σ H s):X.env.locals < s.heap.objs.size:=let ⟨_,hn,_⟩:=I.loc;hn.lt
theorem Inv.sz (I:Inv X pins σ H s):X.s₀.heap.objs.size≤s.heap.objs.size:=Nat.le_trans I.ok.above (Nat.le_of_lt I.lt)
theorem Inv.nofs (I:Inv X pins σ H s) {a:Addr} (h:s.heap.objs.size≤a):a∉X.fs:=fun hb=>by
 obtain ⟨_,o,ho,_⟩:=I.ok.funs.mem hb
 exact absurd (Nat.lt_of_lt_of_le (Heap.lt_size ho) (Nat.le_trans I.sz h)) (Nat.lt_irrefl _)
theorem Inv.cne (I:Inv X pins σ H s):∀ x c,X.env.cells.lookup x=some c→c≠X.env.locals:=fun x c e z=>by
 obtain ⟨v,o,ho,hd⟩:=I.cell x c e
 obtain ⟨m,⟨o',es,ep,ho',hd',_⟩,_⟩:=I.loc
 rw [z,ho'] at ho;cases ho;rw [hd'] at hd;cases hd
theorem Inv.funs (I:Inv X pins σ H s):s.heap.FunFrames X.base X.outer:=by
 have all:∀ (l:List Env),(∀ b∈frs l,b∈X.fs)→X.s₀.heap.FunFrames X.base l→s.heap.FunFrames X.base l:=by
  intro l
  induction l with
  | nil=>intro _ _;trivial
  | cons env r ih=>
   intro hs hl
   obtain ⟨hk,⟨L,o,hf,hn,ho,hd⟩,hr⟩:=hl
   have hL:L∈X.fs:=hs L (by unfold frs;rw [List.filterMap_cons,hf];exact List.mem_cons_self)
   obtain ⟨sl,e⟩:=I.base.slot L o ho (I.ok.frf L hL) hL fun z=>I.ok.exfs L z hL
   exact ⟨hk,⟨L,_,hf,hn,e,hd⟩,ih (fun b hb=>hs b (by unfold frs;rw [List.filterMap_cons,hf];exact List.mem_cons_of_mem _ hb)) hr⟩
 exact all X.outer (fun _ hb=>hb) I.ok.funs
theorem Inv.stack (I:Inv X pins σ H s):s.heap.FunFrames X.base X.stack:=by
 rcases I.ok.stk with e | ⟨e,hf⟩
 ·rw [e];exact I.funs
 ·rw [e]
  obtain ⟨m,hn,_⟩:=I.loc
  refine .cons (by rw [I.ok.kind];decide) hf hn ?_ I.funs
  exact Heap.get?_none_of_le (Nat.le_trans I.ok.bsz I.ok.above)
theorem Inv.stkSub (I:Inv X pins σ H s):∀ b∈frs X.stack,b∈X.env.locals::X.fs:=fun b hb=>by
 rcases I.ok.stk with e | ⟨e,hf⟩
 ·rw [e] at hb;exact List.mem_cons_of_mem _ hb
 ·rw [e] at hb
  unfold frs at hb
  rw [List.filterMap_cons,hf] at hb
  exact hb
theorem Inv.stkFree (I:Inv X pins σ H s):∀ b∈frs X.stack,H b=none:=fun b hb=>by
 rcases List.mem_cons.mp (I.stkSub b hb) with e | hb
 ·rw [e];exact I.free
 ·obtain ⟨_,o,ho,_⟩:=I.ok.funs.mem hb
  exact I.base.free b o ho (I.ok.frf b hb) fun z=>I.ok.exfs b z hb
theorem Inv.step {g':Array GenState} {t':Nat} {d':Drawn} {ch:List Addr} (I:Inv X pins σ H s)
  (hch:∀ b∈ch,(b∈X.ex∨X.s₀.heap.objs.size≤b)∧b≠X.env.locals∧(∀ x c,X.env.cells.lookup x=some c→c≠b)∧∀ p∈X.pn++pins,p.1≠b)
  (keep:∀ b o,b≠X.env.locals→b∉X.fs→b∉ch→s.heap.get? b=some o→H b=none→h'.get? b=some o)
  (slot:∀ b o,b≠X.env.locals→b∈X.fs→b∉ch→s.heap.get? b=some o→H b=none→∃ sl,h'.get? b=some { o with slots:=sl }) (free:∀ b o,b∉ch→s.heap.get? b=some o→H b=none→H' b=none)
  (there:∀ b o,b∉ch→s.heap.get? b=some o→∃ o',h'.get? b=some o')
  (tups:∀ b xs,H b=some (.tup xs)→H' b=some (.tup xs)) (frzs:∀ b o u,H b=some (.frz o u)→H' b=some (.frz o u)) (tbls:∀ b ps,H b=some (.tbl ps)→∃ more,H' b=some (.tbl (ps++more)))
  (ns:∀ m,s.heap.Ns X.env.locals m→h'.Ns X.env.locals m) (hok:HOk X.prog X.w H' h') (hg:AllBare g'):
  Inv X pins σ H' { s with heap:=h',gens:=g',drawn:=d',toks:=t' }:=by
 have neL:∀ b o,X.s₀.heap.get? b=some o→b≠X.env.locals:=fun b o e=>Nat.ne_of_lt (Nat.lt_of_lt_of_le (Heap.lt_size e) I.ok.above)
 have neC:∀ b o,X.s₀.heap.get? b=some o→b∉X.ex→b∉ch:=fun b o e hx hb=>by
  rcases (hch b hb).1 with z | z
  ·exact hx z
  ·exact absurd (Nat.lt_of_lt_of_le (Heap.lt_size e) z) (Nat.lt_irrefl _)
 have cellK:∀ x c,X.env.cells.lookup x=some c→∀ v,s.heap.IsCell c v→h'.IsCell c v:=fun x c e v ⟨o,ho,hd⟩=>by
  have nch:c∉ch:=fun z=>(hch c z).2.2.1 x c e rfl
  by_cases hc:c∈X.fs
  ·obtain ⟨sl,q⟩:=slot c o (I.cne x c e) hc nch ho (I.freeC x c e)
   exact ⟨_,q,hd⟩
  ·exact ⟨o,keep c o (I.cne x c e) hc nch ho (I.freeC x c e),hd⟩
 refine ⟨I.ok,I.os,hg,⟨fun b o e n hb hx=>?_,fun b o e n hb hx=>?_,fun b o e n hx=>?_,fun b o e hx=>?_,fun b xs e=>tups b xs (I.base.tups b xs e),fun b o xs e=>frzs b o xs (I.base.frzs b o xs e),fun b ps e=>?_⟩,?_,fun x c e=>?_,?_,fun x c e=>?_,fun p hp=>?_,hok,I.len⟩
 ·exact keep b o (neL b o e) hb (neC b o e hx) (I.base.keep b o e n hb hx) (I.base.free b o e n hx)
 ·obtain ⟨sl,e1⟩:=I.base.slot b o e n hb hx
  obtain ⟨sl',e2⟩:=slot b _ (neL b o e) hb (neC b o e hx) e1 (I.base.free b o e n hx)
  exact ⟨sl',e2⟩
 ·obtain ⟨o',e1⟩:=I.base.there b o e hx
  exact free b o' (neC b o e hx) e1 (I.base.free b o e n hx)
 ·obtain ⟨o',e1⟩:=I.base.there b o e hx
  exact there b o' (neC b o e hx) e1
 ·obtain ⟨m1,e1⟩:=I.base.tbls b ps e
  obtain ⟨m2,e2⟩:=tbls b _ e1
  exact ⟨m1++m2,by rw [e2,Array.append_assoc]⟩
 ·obtain ⟨m,hn,hl⟩:=I.loc
  refine ⟨m,ns m hn,fun i x v e1 e2 e3=>?_⟩
  obtain ⟨u,r,l⟩:=hl i x v e1 e2 e3
  refine ⟨u,r,?_⟩
  rcases l with l | ⟨k,c,e,z⟩
  ·exact .inl l
  ·exact .inr ⟨k,c,e,cellK x c e _ z⟩
 ·obtain ⟨v,z⟩:=I.cell x c e
  exact ⟨v,cellK x c e v z⟩
 ·obtain ⟨m,⟨o,_,_,ho,_⟩,_⟩:=I.loc
  exact free _ o (fun z=>(hch _ z).2.1 rfl) ho I.free
 ·obtain ⟨v,o,ho,hd⟩:=I.cell x c e
  exact free c o (fun z=>(hch c z).2.2.1 x c e rfl) ho (I.freeC x c e)
 ·obtain ⟨e,n,ne,nf,d⟩:=I.pin p hp
  have nch:p.1∉ch:=fun z=>(hch p.1 z).2.2.2 p hp rfl
  exact ⟨keep p.1 p.2 ne nf nch e n,free p.1 p.2 nch e n,ne,nf,d⟩
theorem Inv.un {t':Nat} (I:Inv X pins σ H s) (u:Un X.fs [] H H' s.heap h') (hok:HOk X.prog X.w H' h'):Inv X pins σ H' { s with heap:=h',toks:=t' }:=by
 obtain ⟨m,⟨o,es,ep,ho,r⟩,_⟩:=id I.loc
 obtain ⟨sl,hL⟩:=u.any ho I.free (by simp)
 exact I.step (g':=s.gens) (d':=s.drawn) (ch:=[]) (fun _ z=>nomatch z) (fun b o _ hb _ e n=>u.keep b o e n hb (by simp)) (fun b o _ hb _ e n=>u.slot b o e n hb (by simp)) (fun b o _ e n=>u.free b o e n (by simp)) (fun b o _ e=>u.there b o e (by simp)) u.tups u.frzs u.tbls (fun m' hm=>by
  obtain ⟨o',es',ep',ho',r'⟩:=hm
  rw [ho] at ho';cases ho'
  exact ⟨_,es',ep',hL,r'⟩) hok I.bare
theorem Inv.call {g':Array GenState} {t':Nat} {d':Drawn} {ch:List Addr} (I:Inv X pins σ H s) (u:Un (frs X.stack) ch H H' s.heap h') (hok:HOk X.prog X.w H' h') (hg:AllBare g')
  (hch:∀ b∈ch,(b∈X.ex∨X.s₀.heap.objs.size≤b)∧b≠X.env.locals∧(∀ x c,X.env.cells.lookup x=some c→c≠b)∧∀ p∈X.pn++pins,p.1≠b):
  Inv X pins σ H' { s with heap:=h',gens:=g',drawn:=d',toks:=t' }:=by
 obtain ⟨m,⟨o,es,ep,ho,r⟩,_⟩:=id I.loc
 obtain ⟨sl,hL⟩:=u.any ho I.free fun z=>(hch _ z).2.1 rfl
 exact I.step (ch:=ch) hch (fun b o hL hb hc e n=>u.keep b o e n (fun z=>(List.mem_cons.mp (I.stkSub b z)).elim hL hb) hc) (fun b o _ _ hc e n=>u.any e n hc) (fun b o hc e n=>u.free b o e n hc) (fun b o hc e=>u.there b o e hc) u.tups u.frzs u.tbls (fun m' hm=>by
  obtain ⟨o',es',ep',ho',r'⟩:=hm
  rw [ho] at ho';cases ho'
  exact ⟨_,es',ep',hL,r'⟩) hok hg
theorem Inv.turned {t':Nat} {it:Addr} (I:Inv X pins σ H s) (k:∀ b o,b≠it→s.heap.get? b=some o→h'.get? b=some o) (hn:H it=none) (hL:it≠X.env.locals)
  (h1:it∈X.ex∨X.s₀.heap.objs.size≤it) (h2:∀ x c,X.env.cells.lookup x=some c→c≠it) (h3:∀ p∈X.pn++pins,p.1≠it):Inv X pins σ H { s with heap:=h',toks:=t' }:=by
 have nit:∀ b u,H b=some u→b≠it:=fun b u e z=>by rw [z,hn] at e;cases e
 refine I.step (g':=s.gens) (d':=s.drawn) (ch:=[it]) (fun b hb=>?_) (fun b o _ _ hc e _=>k b o (fun z=>hc (by simp [z])) e) (fun b o _ _ hc e _=>⟨o.slots,k b o (fun z=>hc (by simp [z])) e⟩) (fun _ _ _ _ n=>n)
  (fun b o hc e=>⟨o,k b o (fun z=>hc (by simp [z])) e⟩) (fun _ _ e=>e) (fun _ _ _ e=>e) (fun b ps e=>⟨#[],by rw [e];simp⟩) (fun m hm=>?_) (fun b u e=>?_) I.bare
 ·have e:b=it:=by simpa using hb
  subst e
  exact ⟨h1,hL,h2,h3⟩
 ·obtain ⟨o,es,ep,ho,r⟩:=hm
  exact ⟨o,es,ep,k _ o (Ne.symm hL) ho,r⟩
 ·refine (I.hok b u e).stay (fun c v hc q=>k c v ?_ q) (fun _ q=>q) fun _ _ q=>q
  rcases hc with z | z
  ·rw [z];exact nit b u e
  ·exact nit c _ z
theorem Inv.tok (I:Inv X pins σ H s) (t:Nat):Inv X pins σ H { s with toks:=t }:=I.un (h':=s.heap) (t':=t) Un.refl I.hok
theorem Inv.kept {t':Nat} (I:Inv X pins σ H s) (k:∀ b u,s.heap.get? b=some u→h'.get? b=some u):Inv X pins σ H { s with heap:=h',toks:=t' }:=I.un (Un.kept k) (I.hok.kept k)
theorem Inv.laid {a:Addr} {o:HO} {t':Nat} (I:Inv X pins σ H s) (k:∀ b u,s.heap.get? b=some u→h'.get? b=some u) (hp:s.heap.objs.size≤a) (new:ObjOk X.prog X.w (upd H a o) h' a o):
  Inv X pins σ (upd H a o) { s with heap:=h',toks:=t' }:=I.un (Un.laid k hp (I.hok.fresh hp)) (I.hok.laid k hp new)
theorem Inv.write {x e:Addr} {o:HO} {t':Nat} (I:Inv X pins σ H s) (mu:Mut (H x)) (he:e=x∨H e=some (.own x)) (k:∀ b u,b≠e→s.heap.get? b=some u→h'.get? b=some u) (heo:∃ u,h'.get? e=some u)
  (new:ObjOk X.prog X.w (upd H x o) h' x o):Inv X pins σ (upd H x o) { s with heap:=h',toks:=t' }:=I.un (Un.write mu he k heo) (I.hok.write mu he k heo new)
theorem Inv.weak {σ':List (Option V)} (I:Inv X pins σ H s) (hl:σ'.length=σ.length) (w:∀ (i:Nat) v,σ'[i]? =some (some v)→σ[i]? =some (some v)):Inv X pins σ' H s:=
 ⟨I.ok,I.os,I.bare,I.base,let ⟨m,hn,hl'⟩:=I.loc;⟨m,hn,fun i x v e1 e2 e3=>hl' i x v e1 (w i v e2) e3⟩,I.cell,I.free,I.freeC,I.pin,I.hok,hl.trans I.len⟩
theorem Inv.pins_of {pins':List (Addr×Obj)} (I:Inv X pins σ H s) (h:∀ p∈pins',s.heap.get? p.1=some p.2∧H p.1=none∧p.1≠X.env.locals∧p.1∉X.fs∧∀ v,p.2.data≠.cell v):Inv X pins' σ H s:=
 ⟨I.ok,I.os,I.bare,I.base,I.loc,I.cell,I.free,I.freeC,fun p hp=>(List.mem_append.mp hp).elim (fun z=>I.pin p (List.mem_append_left _ z)) (h p),I.hok,I.len⟩
theorem nodup_ix {N:List Str} (hN:N.Nodup) {i j:Nat} {x:Str} (a:N[i]? =some x) (b:N[j]? =some x):i=j:=by
 obtain ⟨h1,e1⟩:=List.getElem?_eq_some_iff.mp a
 obtain ⟨h2,e2⟩:=List.getElem?_eq_some_iff.mp b
 exact (List.getElem_inj hN).mp (e1.trans e2.symm)
theorem store_ok2 {M:Model} {A:Around} {E:Value→Shared→Prop} {i:Nat} {x:Str} {v:V} {u:Value} {Q:Unit→Shared→Prop} (I:Inv X pins σ H s) (hN:X.N.Nodup) (hi:X.N[i]? =some x) (hx:Loc X.env.scope x) (r:RelV v u)
  (h:∀ s',Inv X pins (σ.set i (some v)) H s'→(∃ a,Heap.SameBut a s.heap s'.heap∧(a=X.env.locals∨X.env.cells.lookup x=some a))→Q () s') (hf:X.fn x=true∨X.env.scope.names.lookup x=some .local:=by first | exact .inl rfl | exact .inr rfl | assumption):wpAny M A (storeName X.env x u) Q E s:=by
 obtain ⟨m,hn,hl⟩:=id I.loc
 have hcls:(X.env.scope.kind==.class||(X.env.scope.kind==.module&&X.env.locals != X.env.globals))=false:=by rw [I.ok.kind];rfl
 have hiσ:i < σ.length:=by rw [I.len];exact (List.getElem?_eq_some_iff.mp hi).1
 have cne:=I.cne
 have tracked:∀ {a:Addr} {h':Heap},(∃ o,s.heap.get? a=some o∧H a=none)→Heap.SameBut a s.heap h'→HOk X.prog X.w H h':=fun {a h'} ha hs b ob e=>by
  obtain ⟨_,_,hfree⟩:=ha
  refine (I.hok b ob e).stay (fun c w' hc q=>(hs.2 c ?_).trans q) (fun _ q=>q) fun _ _ q=>q
  rintro rfl
  rcases hc with rfl | hc
  ·rw [hfree] at e;cases e
  ·rw [hfree] at hc;cases hc
 rcases hx with hk | hk
 ·refine wpAny_storeName_local hk hn (fun h' hn' hs=>?_) hcls
  obtain ⟨oL,_,_,hoL,_⟩:=id hn
  refine h _ ⟨I.ok,I.os,I.bare,⟨fun b o e n hb hx=>?_,fun b o e n hb hx=>?_,I.base.free,fun b o e hx=>?_,I.base.tups,I.base.frzs,I.base.tbls⟩,⟨_,hn',fun j y v' e1 e2 e3=>?_⟩,fun y c e=>?_,I.free,I.freeC,fun p hp=>?_,tracked ⟨oL,hoL,I.free⟩ hs,by simpa using I.len⟩ ⟨_,hs,.inl rfl⟩
  ·exact (hs.2 b (Nat.ne_of_lt (Nat.lt_of_lt_of_le (Heap.lt_size e) I.ok.above))).trans (I.base.keep b o e n hb hx)
  ·obtain ⟨sl,e1⟩:=I.base.slot b o e n hb hx
   exact ⟨sl,(hs.2 b (Nat.ne_of_lt (Nat.lt_of_lt_of_le (Heap.lt_size e) I.ok.above))).trans e1⟩
  ·obtain ⟨o',e1⟩:=I.base.there b o e hx
   exact ⟨o',(hs.2 b (Nat.ne_of_lt (Nat.lt_of_lt_of_le (Heap.lt_size e) I.ok.above))).trans e1⟩
  ·by_cases hj:j=i
   ·subst hj
    rw [hi] at e1;cases e1
    rw [List.getElem?_set_self hiσ] at e2
    cases e2
    exact ⟨u,r,.inl ⟨hk,by simp⟩⟩
   ·rw [List.getElem?_set_ne (Ne.symm hj)] at e2
    obtain ⟨u',r',q⟩:=hl j y v' e1 e2 e3
    refine ⟨u',r',?_⟩
    rcases q with ⟨k,e⟩ | ⟨k,c,e,z⟩
    ·refine .inl ⟨k,?_⟩
     have:y≠x:=fun e=>hj (nodup_ix hN e1 (e▸hi))
     simp [this,e]
    ·exact .inr ⟨k,c,e,z.sameBut hs (cne y c e)⟩
  ·obtain ⟨w',z⟩:=I.cell y c e
   exact ⟨w',z.sameBut hs (cne y c e)⟩
  ·obtain ⟨e,n,ne,nf,d⟩:=I.pin p hp
   exact ⟨(hs.2 p.1 ne).trans e,n,ne,nf,d⟩
 ·have hfn:X.fn x=true:=by
   rcases hf with z | z
   ·exact z
   ·rw [z] at hk;cases hk
  obtain ⟨c,hc⟩:=I.ok.has x (.inl hk)
  obtain ⟨w',z⟩:=I.cell x c hc
  refine wpAny_storeName_cell I.ok.kind hk hc z (fun h' hc' hs=>?_)
  obtain ⟨oc,hoc,hocd⟩:=id z
  refine h { s with heap:=h' } ⟨I.ok,I.os,I.bare,⟨fun b o e n hb hx=>?_,fun b o e n hb hx=>?_,I.base.free,fun b o e hx=>?_,I.base.tups,I.base.frzs,I.base.tbls⟩,⟨m,hn.sameBut hs (Ne.symm (cne x c hc)),fun j y v' e1 e2 e3=>?_⟩,fun y c' e=>?_,I.free,I.freeC,fun p hp=>?_,tracked ⟨oc,hoc,I.freeC x c hc⟩ hs,by simpa using I.len⟩ ⟨c,hs,.inr hc⟩
  ·exact (hs.2 b (Nat.ne_of_lt (Nat.lt_of_lt_of_le (Heap.lt_size e) (I.ok.cab x c hfn hc)))).trans (I.base.keep b o e n hb hx)
  ·obtain ⟨sl,e1⟩:=I.base.slot b o e n hb hx
   exact ⟨sl,(hs.2 b (Nat.ne_of_lt (Nat.lt_of_lt_of_le (Heap.lt_size e) (I.ok.cab x c hfn hc)))).trans e1⟩
  ·obtain ⟨o',e1⟩:=I.base.there b o e hx
   exact ⟨o',(hs.2 b (Nat.ne_of_lt (Nat.lt_of_lt_of_le (Heap.lt_size e) (I.ok.cab x c hfn hc)))).trans e1⟩
  ·by_cases hj:j=i
   ·subst hj
    rw [hi] at e1;cases e1
    rw [List.getElem?_set_self hiσ] at e2
    cases e2
    exact ⟨u,r,.inr ⟨.inl hk,c,hc,hc'⟩⟩
   ·rw [List.getElem?_set_ne (Ne.symm hj)] at e2
    obtain ⟨u',r',q⟩:=hl j y v' e1 e2 e3
    refine ⟨u',r',?_⟩
    rcases q with q | ⟨k,c',e,z'⟩
    ·exact .inl q
    ·refine .inr ⟨k,c',e,z'.sameBut hs ?_⟩
     rintro rfl
     exact hj (nodup_ix hN e1 (I.ok.inj _ _ _ e hc▸hi))
  ·by_cases hcc:c'=c
   ·subst hcc;exact ⟨_,hc'⟩
   ·obtain ⟨w2,z2⟩:=I.cell y c' e
    exact ⟨w2,z2.sameBut hs hcc⟩
  ·obtain ⟨e,n,ne,nf,d⟩:=I.pin p hp
   refine ⟨(hs.2 p.1 ?_).trans e,n,ne,nf,d⟩
   intro q
   rw [q,hoc] at e
   have q':oc=p.2:=Option.some.inj e
   exact d w' (by rw [←q'];exact hocd)
theorem store_ok {M:Model} {A:Around} {E:Value→Shared→Prop} {i:Nat} {x:Str} {v:V} {u:Value} {Q:Unit→Shared→Prop} (I:Inv X pins σ H s) (hN:X.N.Nodup) (hi:X.N[i]? =some x) (hx:Loc X.env.scope x) (r:RelV v u)
  (h:∀ s',Inv X pins (σ.set i (some v)) H s'→Q () s') (hf:X.fn x=true∨X.env.scope.names.lookup x=some .local:=by first | exact .inl rfl | exact .inr rfl | assumption):wpAny M A (storeName X.env x u) Q E s:=
 store_ok2 I hN hi hx r (fun s' I' _=>h s' I') hf
theorem Inv.call' {s':Shared} {ch:List Addr} (I:Inv X pins σ H s) (ho:s'.os=s.os) (u:Un (frs X.stack) ch H H' s.heap s'.heap) (hok:HOk X.prog X.w H' s'.heap) (hg:AllBare s'.gens)
  (hch:∀ b∈ch,(b∈X.ex∨X.s₀.heap.objs.size≤b)∧b≠X.env.locals∧(∀ x c,X.env.cells.lookup x=some c→c≠b)∧∀ p∈X.pn++pins,p.1≠b):Inv X pins σ H' s':=by
 obtain ⟨h',g',d',t',o'⟩:=s'
 have e:o'=s.os:=ho
 subst e
 exact I.call (g':=g') (t':=t') (d':=d') u hok hg hch
end
noncomputable abbrev XK:=Value→Option Addr→Hp→Prop
noncomputable abbrev St:=List (Option V)
noncomputable abbrev VK:=V→Hp→Prop
noncomputable abbrev TE:=St→Hp→VK→Prop
noncomputable abbrev TT:=St→Hp→(Bool→Hp→Prop)→Prop
noncomputable abbrev TA:=St→Hp→(List V→Hp→Prop)→Prop
structure Ends where
 nx:St→Hp→Prop
 rt:VK
 bk:St→Hp→Prop:=fun _ _=>False
 ct:St→Hp→Prop:=fun _ _=>False
noncomputable abbrev TS:=Ends→St→Hp→Prop
noncomputable def EP (X:Cx) (pins:List (Addr×Obj)) (σ:St) (Q:VK) (u:Value) (s':Shared):Prop:=∃ v H',Inv X pins σ H' s'∧RelV v u∧Q v H'
noncomputable def TP (X:Cx) (pins:List (Addr×Obj)) (σ:St) (Q:Bool→Hp→Prop) (b:Bool) (s':Shared):Prop:=∃ H',Inv X pins σ H' s'∧Q b H'
noncomputable def AP (X:Cx) (pins:List (Addr×Obj)) (σ:St) (Q:List V→Hp→Prop) (us:List Value) (s':Shared):Prop:=∃ vs H',Inv X pins σ H' s'∧Vals vs us∧Q vs H'
noncomputable def SP (X:Cx) (pins:List (Addr×Obj)) (D:Ends) (f:Flow) (s':Shared):Prop:=
 match f with
 | .next=>∃ σ' H',Inv X pins σ' H' s'∧D.nx σ' H'
 | .brk=>∃ σ' H',Inv X pins σ' H' s'∧D.bk σ' H'
 | .cont=>∃ σ' H',Inv X pins σ' H' s'∧D.ct σ' H'
 | .ret u=>∃ v σ' H',Inv X pins σ' H' s'∧RelV v u∧D.rt v H'
noncomputable def PE (X:Cx) (e:Expr) (t:TE):Prop:=
 ∀ (pins:List (Addr×Obj)) (s:Shared) (σ:St) (H:Hp) (Q:VK),Inv X pins σ H s→t σ H Q→wpAny (model X.prog X.w) X.A (eval e X.env) (EP X pins σ Q) X.xe s
noncomputable def PT (X:Cx) (e:Expr) (t:TT):Prop:=
 ∀ (pins:List (Addr×Obj)) (s:Shared) (σ:St) (H:Hp) (Q:Bool→Hp→Prop),Inv X pins σ H s→t σ H Q→wpAny (model X.prog X.w) X.A (isTrue e X.env (eval e X.env)) (TP X pins σ Q) X.xe s
noncomputable def PW (X:Cx) (e:Expr) (t:TT):Prop:=
 ∀ (whole:Sem Value) (pins:List (Addr×Obj)) (s:Shared) (σ:St) (H:Hp) (Q:Bool→Hp→Prop),Inv X pins σ H s→t σ H Q→wpAny (model X.prog X.w) X.A (isTrue e X.env whole) (TP X pins σ Q) X.xe s
theorem PW.pt {X:Cx} {e:Expr} {t:TT} (h:PW X e t):PT X e t:=h _
noncomputable def PA (X:Cx) (es:List Expr) (t:TA):Prop:=
 ∀ (pos:Pos) (pins:List (Addr×Obj)) (s:Shared) (σ:St) (H:Hp) (Q:List V→Hp→Prop),Inv X pins σ H s→t σ H Q→wpAny (model X.prog X.w) X.A (spliced (backTo pos (starEach es X.env))) (AP X pins σ Q) X.xe s
noncomputable def PS (X:Cx) (st:Stmt) (t:TS):Prop:=
 ∀ (pins:List (Addr×Obj)) (s:Shared) (σ:St) (H:Hp) (D:Ends),Inv X pins σ H s→t D σ H→wpAny (model X.prog X.w) X.A (exec st X.env) (SP X pins D) X.xe s
noncomputable def PSs (X:Cx) (st:List Stmt) (t:TS):Prop:=
 ∀ (pins:List (Addr×Obj)) (s:Shared) (σ:St) (H:Hp) (D:Ends),Inv X pins σ H s→t D σ H→wpAny (model X.prog X.w) X.A (execs st X.env) (SP X pins D) X.xe s
theorem thn {α:Type} {t:Sem α} {Q Q':α→Shared→Prop} {M:Model} {A:Around} {E:Value→Shared→Prop} {s:Shared} (h:wpAny M A t Q E s) (hQ:∀ a s,Q a s→Q' a s):wpAny M A t Q' E s:=wpAny_mono h hQ fun _ _ x=>x
end L2
namespace L2
open PySem PySem.Spec PyProof.Rows
section
variable {X:Cx}
noncomputable def tVar (i:Nat):TE:=fun σ H Q=>∃ v,σ[i]? =some (some v)∧Q v H
noncomputable def tC (v:V):TE:=fun _ H Q=>Q v H
theorem pe_var {i:Nat} {x:Str} {pos:Pos} (hN:X.N[i]? =some x) (hv:Vis X.env.scope x) (hd:(x==("__debug__":Str))=false:=by decide) (hcd:(x==("__classdict__":Str))=false:=by decide):PE X (.Name x pos) (tVar i):=by
 intro pins s σ H Q I h
 obtain ⟨v,e,h⟩:=h
 obtain ⟨m,hn,hl⟩:=I.loc
 obtain ⟨u,r,l⟩:=hl i x v hN e hv
 have fin:EP X pins σ Q u s:=⟨v,H,I,r,h⟩
 rcases l with ⟨hk,hm⟩ | ⟨hk,c,hc,hcell⟩
 ·exact wpAny_Name (wpAny_loadName_local I.ok.kind hk hn hm fin) hd
 ·rcases hk with hk | hk
  ·exact wpAny_Name (wpAny_loadName_cell I.ok.kind hk hc hcell fin) hd
  ·exact wpAny_Name (wpAny_loadName_free I.ok.kind hk hc hcell fin hcd) hd
theorem pe_int {i j pos}:PE X (.Constant (.int i) j pos) (tC (.int i)):=fun _ _ _ H _ I h=>wpAny_Constant_int ⟨.int i,H,I.tok _,⟨_,rfl⟩,h⟩
theorem pe_bl {b j pos}:PE X (.Constant (.bool b) j pos) (tC (.bl b)):=fun _ _ _ H _ I h=>Constant_bool ⟨.bl b,H,I,rfl,h⟩
theorem pe_non {j pos}:PE X (.Constant .none j pos) (tC .non):=fun _ _ _ H _ I h=>Constant_none ⟨.non,H,I,rfl,h⟩
theorem pe_str {x j pos}:PE X (.Constant (.str x) j pos) (tC (.str x)):=fun _ _ _ H _ I h=>Calls.Constant_str ⟨.str x,H,I.tok _,⟨_,rfl⟩,h⟩
noncomputable def Gl (X:Cx) (x:Str):Prop:=X.env.kindOf x=some .globalImplicit
theorem ld_glob {E:Value→Shared→Prop} {pins:List (Addr×Obj)} {s:Shared} {σ:St} {H:Hp} {x:Str} {u:Value} {pos:Pos} {Q:Value→Shared→Prop} (I:Inv X pins σ H s) (hg:Gl X x) (hm:X.mg x=some u) (h:Q u s)
  (hd:(x==("__debug__":Str))=false:=by decide):wpAny (model X.prog X.w) X.A (eval (.Name x pos) X.env) Q E s:=
 Calls.Name_function_global I.ok.kind hg (Calls.loadGlobal_global (by rw [I.ok.glob];exact I.mod.glob.keeps I.bk) hm h) hd
theorem ld_blt {E:Value→Shared→Prop} {pins:List (Addr×Obj)} {s:Shared} {σ:St} {H:Hp} {x:Str} {u:Value} {pos:Pos} {Q:Value→Shared→Prop} (I:Inv X pins σ H s) (hg:Gl X x) (hm:X.mg x=none) (hv:bootBuiltins x=some u) (h:Q u s)
  (hn:x≠"__name__":=by decide) (hd:(x==("__debug__":Str))=false:=by decide):wpAny (model X.prog X.w) X.A (eval (.Name x pos) X.env) Q E s:=by
 obtain ⟨mb,h1,h2⟩:=I.mod.blt
 exact Calls.Name_function_global I.ok.kind hg (Calls.loadGlobal_builtin (by rw [I.ok.glob];exact I.mod.glob.keeps I.bk) hm (by rw [I.ok.blt];exact h1.keeps I.bk) ((h2 x hn).trans hv) h) hd
theorem pe_glob {x:Str} {v:V} {u:Value} {pos:Pos} (hg:Gl X x) (hm:X.mg x=some u) (r:RelV v u) (hd:(x==("__debug__":Str))=false:=by decide):PE X (.Name x pos) (tC v):=
 fun _ _ _ H _ I h=>ld_glob I hg hm ⟨v,H,I,r,h⟩ hd
theorem pe_bltn {x:Str} {v:V} {u:Value} {pos:Pos} (hg:Gl X x) (hm:X.mg x=none) (hv:bootBuiltins x=some u) (r:RelV v u) (hn:x≠"__name__":=by decide) (hd:(x==("__debug__":Str))=false:=by decide):PE X (.Name x pos) (tC v):=
 fun _ _ _ H _ I h=>ld_blt I hg hm hv ⟨v,H,I,r,h⟩ hn hd
variable {a b:Expr} {ta tb:TE} {pos:Pos}
noncomputable def tB (t:TE):TT:=fun σ H Q=>t σ H fun x H1=>∃ c,x=.bl c∧Q c H1
theorem pt_val {e:Expr} {t:TE} (h:PE X e t) (he:∀ whole,isTrue e X.env whole=(do let v ←whole;standAt e.pos;holding [v] (truthy v)):=by intro _;rfl):PT X e (tB t):=by
 intro pins s σ H Q I hw
 refine isTrue_plain (thn (h pins s σ H _ I hw) fun v s1 ⟨x,H1,I1,r1,q1⟩=>?_) (he _)
 obtain ⟨d,rfl,q⟩:=q1
 cases r1
 exact wpAny_truthy_bool ⟨H1,I1,q⟩
variable {tA tB':TT} {rest:List Expr}
noncomputable def tAnd (t u:TT):TT:=fun σ H Q=>t σ H fun c H1=>if c=true then u σ H1 Q else Q false H1
noncomputable def tOr (t u:TT):TT:=fun σ H Q=>t σ H fun c H1=>if c=true then Q true H1 else u σ H1 Q
noncomputable def tNot (t:TT):TT:=fun σ H Q=>t σ H fun c H1=>Q (!c) H1
theorem pw_and1 (ha:PT X a tA):PW X (.BoolOp .And [a] pos) tA:=by
 intro wh pins s σ H Q I h
 refine isTrue_and (thn (ha pins s σ H Q I h) fun c s1 e=>?_)
 cases c with
 | true=>exact isTrue_and_nil e
 | false=>exact e
theorem pw_or1 (ha:PT X a tA):PW X (.BoolOp .Or [a] pos) tA:=by
 intro wh pins s σ H Q I h
 refine isTrue_or (thn (ha pins s σ H Q I h) fun c s1 e=>?_)
 cases c with
 | false=>exact isTrue_or_nil e
 | true=>exact e
theorem pw_and (ha:PT X a tA) (hb:PW X (.BoolOp .And (b::rest) pos) tB'):PW X (.BoolOp .And (a::b::rest) pos) (tAnd tA tB'):=by
 intro wh pins s σ H Q I h
 refine isTrue_and (thn (ha pins s σ H _ I h) fun c s1 ⟨H1,I1,q1⟩=>?_)
 cases c with
 | true=>exact hb wh pins s1 σ H1 Q I1 q1
 | false=>exact ⟨H1,I1,q1⟩
theorem pw_or (ha:PT X a tA) (hb:PW X (.BoolOp .Or (b::rest) pos) tB'):PW X (.BoolOp .Or (a::b::rest) pos) (tOr tA tB'):=by
 intro wh pins s σ H Q I h
 refine isTrue_or (thn (ha pins s σ H _ I h) fun c s1 ⟨H1,I1,q1⟩=>?_)
 cases c with
 | true=>exact ⟨H1,I1,q1⟩
 | false=>exact hb wh pins s1 σ H1 Q I1 q1
theorem pt_not (ha:PT X a tA):PT X (.UnaryOp .Not a pos) (tNot tA):=by
 intro pins s σ H Q I h
 exact isTrue_not (ha pins s σ H (fun c H1=>Q (!c) H1) I h)
noncomputable def tAndV (ta tb:TE):TE:=fun σ H Q=>ta σ H fun x H1=>∃ c,x=.bl c∧if c=true then tb σ H1 Q else Q (.bl false) H1
noncomputable def tOrV (ta tb:TE):TE:=fun σ H Q=>ta σ H fun x H1=>∃ c,x=.bl c∧if c=true then Q (.bl true) H1 else tb σ H1 Q
noncomputable def tNotV (ta:TE):TE:=fun σ H Q=>ta σ H fun x H1=>∃ c,x=.bl c∧Q (.bl (!c)) H1
theorem pe_one {op} {t:TE} (h:PE X a t):PE X (.BoolOp op [a] pos) t:=fun pins s σ H Q I hw=>BoolOp_one (h pins s σ H Q I hw)
theorem pe_and (ha:PE X a ta) (hb:PE X (.BoolOp .And (b::rest) pos) tb):PE X (.BoolOp .And (a::b::rest) pos) (tAndV ta tb):=by
 intro pins s σ H Q I h
 refine BoolOp_and (thn (ha pins s σ H _ I h) fun v s1 ⟨x,H1,I1,r1,q1⟩=>?_)
 obtain ⟨c,rfl,q1⟩:=q1
 cases r1
 refine wpAny_truthy_bool ?_
 cases c with
 | true=>exact hb pins s1 σ H1 Q I1 q1
 | false=>exact ⟨.bl false,H1,I1,rfl,q1⟩
theorem pe_not (ha:PE X a ta):PE X (.UnaryOp .Not a pos) (tNotV ta):=by
 intro pins s σ H Q I h
 refine UnaryOp_ (thn (ha pins s σ H _ I h) fun v s1 ⟨x,H1,I1,r1,q1⟩=>?_)
 obtain ⟨c,rfl,q1⟩:=q1
 cases r1
 exact not_of (wpAny_truthy_bool ⟨.bl (!c),H1,I1,rfl,q1⟩)
noncomputable def tIf (t:TT) (ta tb:TE):TE:=fun σ H Q=>t σ H fun c H1=>if c=true then ta σ H1 Q else tb σ H1 Q
theorem pe_ifExp {c:Expr} (hc:PT X c tA) (ha:PE X a ta) (hb:PE X b tb):PE X (.IfExp c a b pos) (tIf tA ta tb):=by
 intro pins s σ H Q I h
 refine wpAny_IfExp (thn (hc pins s σ H _ I h) fun d s1 ⟨H1,I1,q1⟩=>?_)
 cases d with
 | true=>exact ha pins s1 σ H1 Q I1 q1
 | false=>exact hb pins s1 σ H1 Q I1 q1
end
end L2
namespace L2
open PySem PySem.Spec PyProof.Rows
noncomputable def SqL (K:PySem.W.Frag) (H:Hp) (a:Addr) (xs:List V):Prop:=
 Rd H a (.lst xs)∨
  ∃ (o:Obj) (its:Array Value) (n:Nat),K.lookup a=some o∧o.cls=.type "list"∧o.dict=none∧o.data=.seq its n∧its.size≤sizeLine∧Vals xs its.toList
noncomputable def SqT (K:PySem.W.Frag) (H:Hp) (a:Addr) (xs:List V):Prop:=
 Rd H a (.tup xs)∨
  ∃ (o:Obj) (its:Array Value) (n:Nat),K.lookup a=some o∧o.cls=.type "tuple"∧o.data=.seq its n∧its.size≤sizeLine∧Vals xs its.toList
noncomputable def absV:Value→Option V
 | .none=>some .non
 | .bool b=>some (.bl b)
 | .int i _=>some (.int i)
 | .str x _=>some (.str x)
 | .bytes b _=>some (.byt b)
 | .float b _=>some (.flt b)
 | .ref a=>some (.ref a)
 | .type n=>some (.ty n)
 | _=>none
theorem RelV.abs {x:V} {u:Value} (r:RelV x u):absV u=some x:=by
 cases x with
 | non=>cases r;rfl
 | bl _=>cases r;rfl
 | int _=>obtain ⟨t,rfl⟩:=r;rfl
 | str _=>obtain ⟨t,rfl⟩:=r;rfl
 | byt _=>obtain ⟨t,rfl⟩:=r;rfl
 | flt _=>obtain ⟨t,rfl⟩:=r;rfl
 | ref _=>cases r;rfl
 | ty _=>cases r;rfl
theorem RelV.inj {x y:V} {u:Value} (r:RelV x u) (q:RelV y u):x=y:=Option.some.inj (r.abs.symm.trans q.abs)
theorem Vals.inj:∀ {xs ys:List V} {us:List Value},Vals xs us→Vals ys us→xs=ys
 | _,_,_,.nil,.nil=>rfl
 | _,_,_,.cons r t,.cons r' t'=>by rw [r.inj r',Vals.inj t t']
section
variable {X:Cx} {pins:List (Addr×Obj)} {σ:St} {H:Hp} {s:Shared} {a:Addr} {xs ys:List V}
theorem SqL.of {K:PySem.W.Frag} (h:H a=some (.lst xs)):SqL K H a xs:=.inl (.inl h)
theorem SqT.of {K:PySem.W.Frag} (h:H a=some (.tup xs)):SqT K H a xs:=.inl (.inl h)
theorem Inv.list (I:Inv X pins σ H s) (h:SqL X.K H a xs):∃ its:List Value,Vals xs its∧PlainL s.heap a its.toArray∧xs.length≤sizeLine:=by
 rcases h with h | ⟨o,its,n,hk,hc,hd,hs,hz,r⟩
 ·obtain ⟨z,its,n,r,e⟩:=h.ok I.hok
  exact ⟨its,r,⟨_,n,e,rfl,rfl,rfl⟩,z⟩
 ·refine ⟨its.toList,r,⟨o,n,I.kIn a o hk,hc,hd,by simpa using hs⟩,?_⟩
  have e:=r.length
  simp only [Array.length_toList] at e
  lia
theorem Inv.tuple (I:Inv X pins σ H s) (h:SqT X.K H a xs):∃ its:List Value,Vals xs its∧IsTup s.heap a its.toArray∧xs.length≤sizeLine:=by
 rcases h with h | ⟨o,its,n,hk,hc,hs,hz,r⟩
 ·obtain ⟨z,its,r,p⟩:=h.ok I.hok
  exact ⟨its,r,p.1,z⟩
 ·refine ⟨its.toList,r,⟨o,I.kIn a o hk,hc,n,by simpa using hs⟩,?_⟩
  have e:=r.length
  simp only [Array.length_toList] at e
  lia
theorem Inv.list_inj (I:Inv X pins σ H s) (h:SqL X.K H a xs) (h':SqL X.K H a ys):xs=ys:=by
 obtain ⟨its,r,⟨o,n,e,_,_,d⟩,_⟩:=I.list h
 obtain ⟨its',r',⟨o',n',e',_,_,d'⟩,_⟩:=I.list h'
 rw [e] at e';cases e'
 rw [d] at d'
 injection d' with d1 _
 have:its=its':=by simpa using congrArg Array.toList d1
 subst this
 exact r.inj r'
theorem Inv.tuple_inj (I:Inv X pins σ H s) (h:SqT X.K H a xs) (h':SqT X.K H a ys):xs=ys:=by
 obtain ⟨its,r,⟨o,e,_,n,d⟩,_⟩:=I.tuple h
 obtain ⟨its',r',⟨o',e',_,n',d'⟩,_⟩:=I.tuple h'
 rw [e] at e';cases e'
 rw [d] at d'
 injection d' with d1 _
 have:its=its':=by simpa using congrArg Array.toList d1
 subst this
 exact r.inj r'
end
noncomputable abbrev Cx.wish (X:Cx) (E:Value→Shared→Prop):Cx:={ X with xe:=E }
noncomputable abbrev Cx.nox (X:Cx):Cx:=X.wish fun _ _=>False
theorem Cx.Ok.wish {X:Cx} (ok:X.Ok) (E:Value→Shared→Prop):(X.wish E).Ok:=
 ⟨ok.mod,ok.kind,ok.glob,ok.blt,ok.above,ok.inj,ok.has,ok.cab,ok.hd,ok.frames,ok.stk,ok.exf,ok.bs,ok.bsz,ok.noex,ok.exfs,ok.funs,ok.frf⟩
theorem Cx.Ok.unwish {X:Cx} {E:Value→Shared→Prop} (ok:(X.wish E).Ok):X.Ok:=
 ⟨ok.mod,ok.kind,ok.glob,ok.blt,ok.above,ok.inj,ok.has,ok.cab,ok.hd,ok.frames,ok.stk,ok.exf,ok.bs,ok.bsz,ok.noex,ok.exfs,ok.funs,ok.frf⟩
section
variable {X:Cx} {pins:List (Addr×Obj)} {σ:St} {H:Hp} {s:Shared} {E:Value→Shared→Prop}
theorem Inv.wish (I:Inv X pins σ H s) (E:Value→Shared→Prop):Inv (X.wish E) pins σ H s:=⟨I.ok.wish E,I.os,I.bare,I.base,I.loc,I.cell,I.free,I.freeC,I.pin,I.hok,I.len⟩
theorem Inv.unwish (I:Inv (X.wish E) pins σ H s):Inv X pins σ H s:=⟨I.ok.unwish,I.os,I.bare,I.base,I.loc,I.cell,I.free,I.freeC,I.pin,I.hok,I.len⟩
theorem SP.unwish {D:Ends} {f:Flow} {s':Shared} (h:SP (X.wish E) pins D f s'):SP X pins D f s':=by
 cases f with
 | next=>obtain ⟨σ',H',I,q⟩:=h;exact ⟨σ',H',I.unwish,q⟩
 | brk=>obtain ⟨σ',H',I,q⟩:=h;exact ⟨σ',H',I.unwish,q⟩
 | cont=>obtain ⟨σ',H',I,q⟩:=h;exact ⟨σ',H',I.unwish,q⟩
 | ret u=>obtain ⟨v,σ',H',I,r,q⟩:=h;exact ⟨v,σ',H',I.unwish,r,q⟩
theorem PE.nox {e:Expr} {t:TE} (h:PE X.nox e t):PE X e t:=fun pins s σ H Q I hw=>
 wpAny_mono (h pins s σ H Q (I.wish _) hw) (fun _ _ ⟨v,H',I',r,q⟩=>⟨v,H',I'.unwish,r,q⟩) fun _ _ z=>False.elim z
theorem PT.nox {e:Expr} {t:TT} (h:PT X.nox e t):PT X e t:=fun pins s σ H Q I hw=>
 wpAny_mono (h pins s σ H Q (I.wish _) hw) (fun _ _ ⟨H',I',q⟩=>⟨H',I'.unwish,q⟩) fun _ _ z=>False.elim z
theorem PSs.nox {st:List Stmt} {t:TS} (h:PSs X.nox st t):PSs X st t:=fun pins s σ H D I hw=>
 wpAny_mono (h pins s σ H D (I.wish _) hw) (fun _ _ q=>q.unwish) fun _ _ z=>False.elim z
end
section
variable {X:Cx} {st:Stmt} {rest:List Stmt} {t u:TS} {e:Expr} {te:TE} {pos:Pos}
noncomputable def tNext:TS:=fun D σ H=>D.nx σ H
noncomputable def tSeq (t u:TS):TS:=fun D σ H=>t { D with nx:=u D } σ H
theorem pss_nil:PSs X [] tNext:=fun _ _ σ H _ I h=>wpAny_execs_nil ⟨σ,H,I,h⟩
theorem pss_cons (h1:PS X st t) (h2:PSs X rest u):PSs X (st::rest) (tSeq t u):=by
 intro pins s σ H D I h
 refine wpAny_execs_cons (thn (h1 pins s σ H { D with nx:=u D } I h) fun f s1 q=>?_)
 cases f with
 | next=>
  obtain ⟨σ',H',I',q⟩:=q
  exact h2 pins s1 σ' H' D I' q
 | ret v=>exact q
 | brk=>exact q
 | cont=>exact q
theorem pss_one (h1:PS X st t):PSs X [st] t:=by
 intro pins s σ H D I h
 refine wpAny_execs_cons (thn (h1 pins s σ H D I h) fun f s1 q=>?_)
 cases f with
 | next=>exact wpAny_execs_nil q
 | ret v=>exact q
 | brk=>exact q
 | cont=>exact q
theorem Inv.quiet {pins:List (Addr×Obj)} {σ:St} {H:Hp} {s:Shared} (I:Inv X pins σ H s):interactive X.env=false:=by simp [interactive,I.ok.kind]
noncomputable def tDrop (te:TE):TS:=fun D σ H=>te σ H fun _ H1=>D.nx σ H1
theorem ps_expr (he:PE X e te) (hs:swapsWith e none pos.line X.env=pure false:=by rfl):PS X (.Expr e pos) (tDrop te):=by
 intro pins s σ H D I h
 exact wpAny_Expr_any (thn (he pins s σ H _ I h) fun v s1 ⟨x,H1,I1,r1,q1⟩=>⟨σ,H1,I1,q1⟩) I.quiet hs
noncomputable def tRet (te:TE):TS:=fun D σ H=>te σ H D.rt
theorem ps_ret (he:PE X e te):PS X (.Return (some e) pos) (tRet te):=by
 intro pins s σ H D I h
 exact wpAny_Return_some (thn (he pins s σ H _ I h) fun v s1 ⟨x,H1,I1,r1,q1⟩=>⟨x,σ,H1,I1,r1,q1⟩)
noncomputable def tIfS (c:TT) (t u:TS):TS:=fun D σ H=>c σ H fun b H1=>if b=true then t D σ H1 else u D σ H1
theorem ps_if {c:Expr} {a b:List Stmt} {tc:TT} (hc:PT X c tc) (ha:PSs X a t) (hb:PSs X b u):PS X (.If c a b pos) (tIfS tc t u):=by
 intro pins s σ H D I h
 refine wpAny_If (thn (hc pins s σ H _ I h) fun d s1 ⟨H1,I1,q1⟩=>?_)
 cases d with
 | true=>exact ha pins s1 σ H1 D I1 q1
 | false=>exact hb pins s1 σ H1 D I1 q1
noncomputable def tNever:TS:=fun _ _ _=>False
theorem ps_never:PS X st tNever:=fun _ _ _ _ _ _ h=>h.elim
end
noncomputable abbrev TG:=V→St→Hp→(St→Hp→Prop)→Prop
noncomputable abbrev TGs:=List V→St→Hp→(St→Hp→Prop)→Prop
noncomputable def PG (X:Cx) (target:Expr) (t:TG):Prop:=
 ∀ (pins:List (Addr×Obj)) (s:Shared) (σ:St) (H:Hp) (v:V) (u:Value) (Q:St→Hp→Prop),Inv X pins σ H s→RelV v u→t v σ H Q→
  wpAny (model X.prog X.w) X.A (assign target X.env u) (fun _ s'=>∃ σ' H',Inv X pins σ' H' s'∧Q σ' H') X.xe s
noncomputable def PGs (X:Cx) (ts:List Expr) (t:TGs):Prop:=
 ∀ (pins:List (Addr×Obj)) (s:Shared) (σ:St) (H:Hp) (vs:List V) (us:List Value) (Q:St→Hp→Prop),Inv X pins σ H s→Vals vs us→t vs σ H Q→
  wpAny (model X.prog X.w) X.A (assignInOrder ((assignEach ts X.env).map (·.2)) us) (fun _ s'=>∃ σ' H',Inv X pins σ' H' s'∧Q σ' H') X.xe s
noncomputable abbrev TSet:=V→V→V→Hp→(Hp→Prop)→Prop
noncomputable def PSet (X:Cx) (t:TSet):Prop:=
 ∀ (pins:List (Addr×Obj)) (s:Shared) (σ:St) (H:Hp) (o i v:V) (ov iv u:Value) (Q:Hp→Prop),Inv X pins σ H s→RelV o ov→RelV i iv→RelV v u→t o i v H Q→
  wpAny (model X.prog X.w) X.A (setItem ov iv u) (fun _ s'=>∃ H',Inv X pins σ H' s'∧Q H') X.xe s
section
variable {X:Cx} {pos:Pos}
noncomputable def gName (i:Nat):TG:=fun v σ H Q=>Q (σ.set i (some v)) H
theorem pg_name {i:Nat} {x:Str} (hN:X.N.Nodup) (hi:X.N[i]? =some x) (hx:Loc X.env.scope x) (hf:X.fn x=true∨X.env.scope.names.lookup x=some .local:=by first | exact .inl rfl | exact .inr rfl | assumption):PG X (.Name x pos) (gName i):=by
 intro pins s σ H v u Q I r h
 exact wpAny_assign_Name (store_ok I hN hi hx r (fun s' I'=>⟨_,H,I',h⟩) hf)
noncomputable def gNil:TGs:=fun vs σ H Q=>vs=[]∧Q σ H
noncomputable def gCons (t:TG) (u:TGs):TGs:=fun vs σ H Q=>∃ v r,vs=v::r∧t v σ H fun σ' H'=>u r σ' H' Q
theorem pgs_nil:PGs X [] gNil:=by
 intro pins s σ H vs us Q I r h
 obtain ⟨e,h⟩:=h
 subst e
 cases r
 exact assignInOrder_nil ⟨σ,H,I,h⟩
theorem pgs_cons {e:Expr} {es:List Expr} {t:TG} {u:TGs} (h1:PG X e t) (h2:PGs X es u)
  (hs:(assignEach (e::es) X.env).map (·.2)=assign e X.env::(assignEach es X.env).map (·.2):=by rfl):PGs X (e::es) (gCons t u):=by
 intro pins s σ H vs us Q I r h
 obtain ⟨v,vr,e1,h⟩:=h
 subst e1
 cases r with
 | cons r rr=>
  rw [hs]
  refine assignInOrder_cons (thn (h1 pins s σ H _ _ _ I r h) fun _ s1 ⟨σ1,H1,I1,q1⟩=>?_)
  exact h2 pins s1 σ1 H1 _ _ Q I1 rr q1
noncomputable def gTup (K:PySem.W.Frag) (n:Nat) (t:TGs):TG:=fun v σ H Q=>∃ a xs,v=.ref a∧SqT K H a xs∧xs.length=n∧t xs σ H Q
theorem pg_tup {es:List Expr} {k:Nat} {t:TGs} {n:Nat} (hc:X.calm=true) (h:PGs X es t)
  (hn:(assignEach es X.env).length=n:=by rfl) (hst:(assignEach es X.env).findIdx? (·.1)=none:=by rfl):PG X (.Tuple es k pos) (gTup X.K n t):=by
 intro pins s σ H v u Q I r hw
 obtain ⟨a,xs,e1,hq,hl,hw⟩:=hw
 subst e1
 cases r
 obtain ⟨its,rv,ht,hz⟩:=I.tuple hq
 refine assign_Tuple_tuple (I.ok.hd hc) ht (by simp [hn,←hl,rv.length]) hst fun h' hx=>?_
 have I1:Inv X pins σ H { s with heap:=h' }:=I.kept (t':=s.toks) fun b o e=>hx b o (Nat.ne_of_lt (Heap.lt_size e)) e
 exact h pins _ σ H xs _ Q I1 (by simpa using rv) hw
noncomputable def gSub (to ti:TE) (t:TSet):TG:=fun v σ H Q=>to σ H fun o H1=>ti σ H1 fun i H2=>t o i v H2 fun H3=>Q σ H3
theorem pg_sub {o i:Expr} {to ti:TE} {t:TSet} (ho:PE X o to) (hi:PE X i ti) (hs:PSet X t)
  (ha:∀ v,assign (.Subscript o i pos) X.env v=(do
   let ov ←holding [v] (eval o X.env)
   let iv ←holding [v,ov] (eval i X.env)
   standAt pos
   holding [v,ov,iv] (setItem ov iv v)
   release [v,ov,iv] []):=by intro _;rfl):PG X (.Subscript o i pos) (gSub to ti t):=by
 intro pins s σ H v u Q I r h
 rw [ha]
 refine wpAny_bind (wpAny_holding (thn (ho pins s σ H _ I h) fun ov s1 ⟨x,H1,I1,r1,q1⟩=>?_))
 refine wpAny_bind (wpAny_holding (thn (hi pins s1 σ H1 _ I1 q1) fun iv s2 ⟨y,H2,I2,r2,q2⟩=>?_))
 refine wpAny_bind (wpAny_standAt (wpAny_bind (wpAny_holding (thn (hs pins s2 σ H2 x y v ov iv u _ I2 r1 r2 r q2) fun _ s3 ⟨H3,I3,q3⟩=>?_))))
 exact wpAny_release ⟨σ,H3,I3,q3⟩
noncomputable def tAsg (te:TE) (g:TG):TS:=fun D σ H=>te σ H fun x H1=>g x σ H1 D.nx
theorem ps_asg {tg e:Expr} {te:TE} {g:TG} (he:PE X e te) (hg:PG X tg g) (hs:swapsWithSole [tg] e pos.line X.env=pure false:=by rfl) (hw:swappedStores [tg] e X.env=pure none:=by rfl)
  (h1:(assignEach [tg] X.env).map (·.2)=[assign tg X.env]:=by rfl):PS X (.Assign [tg] e pos) (tAsg te g):=by
 intro pins s σ H D I h
 refine wpAny_Assign_stores (thn (he pins s σ H _ I h) fun v s1 ⟨x,H1,I1,r1,q1⟩=>?_) hs hw
 rw [h1]
 exact thn (hg pins s1 σ H1 x v _ I1 r1 q1) fun _ s2 q=>q
theorem ps_set {i:Nat} {x:Str} {e:Expr} {te:TE} {pos':Pos} (hN:X.N.Nodup) (hi:X.N[i]? =some x) (hx:Loc X.env.scope x) (he:PE X e te) (hs:swapsWith e (some (.Name x pos')) pos.line X.env=pure false:=by rfl) (hf:X.fn x=true∨X.env.scope.names.lookup x=some .local:=by first | exact .inl rfl | exact .inr rfl | assumption):
  PS X (.Assign [.Name x pos'] e pos) (tAsg te (gName i)):=by
 intro pins s σ H D I h
 refine wpAny_Assign_Name (thn (he pins s σ H _ I h) fun v s1 ⟨y,H1,I1,r1,q1⟩=>?_) hs
 exact store_ok I1 hN hi hx r1 (fun s2 I2=>⟨_,H1,I2,q1⟩) hf
end
section
variable {X:Cx} {pos:Pos}
noncomputable def tWhile (c:TT) (tb:TS):TS:=fun D σ H=>∃ W:Nat→St→Hp→Prop,(∃ m,W m σ H)∧∀ m σ H,W m σ H→
 c σ H fun b H1=>if b=true then ∃ N:St→Hp→Prop,(∀ σ' H',N σ' H'→∃ m',m' < m∧W m' σ' H')∧tb { D with nx:=N,ct:=N,bk:=D.nx } σ H1 else D.nx σ H1
end
structure It where
 go:Nat→Hp→Prop
 yld:Nat→Hp→V→Hp→Prop
 stop:Nat→Hp→Prop
noncomputable def FpOk (X:Cx) (pins:List (Addr×Obj)) (H:Hp) (b:Addr):Prop:=
 H b=none∧b≠X.env.locals∧b∉X.fs∧(b∈X.ex∨X.s₀.heap.objs.size≤b)∧(∀ x c,X.env.cells.lookup x=some c→c≠b)∧∀ p∈X.pn++pins,p.1≠b
theorem Inv.fpOk {X:Cx} {pins:List (Addr×Obj)} {σ:St} {H H':Hp} {s:Shared} {b:Addr} (I:Inv X pins σ H s) (hb:s.heap.objs.size≤b) (hn:H' b=none):FpOk X pins H' b:=by
 refine ⟨hn,Nat.ne_of_gt (Nat.lt_of_lt_of_le I.lt hb),I.nofs hb,.inr (Nat.le_trans I.sz hb),fun x c e z=>?_,fun p hp z=>?_⟩
 ·obtain ⟨v,q⟩:=I.cell x c e
  exact absurd (Nat.lt_of_lt_of_le q.lt (by rw [z];exact hb)) (Nat.lt_irrefl _)
 ·exact absurd (Nat.lt_of_lt_of_le (Heap.lt_size (I.pin p hp).1) (by rw [z];exact hb)) (Nat.lt_irrefl _)
structure Turn (P:Program) (w:World) (K:PySem.W.Frag) (tg:Expr) (J:It) (fp:List Addr) (it:Addr) (tn:Nat→Heap→Prop):Prop where
 mem:it∈fp
 obj:∀ i h,tn i h→∀ b∈fp,∃ o,h.get? b=some o∧∀ v,o.data≠.cell v
 keep:∀ i h h',tn i h→(∀ b∈fp,∀ o,h.get? b=some o→h'.get? b=some o)→tn i h'
 item:∀ (X:Cx),X.prog=P→X.w=w→X.K=K→X.calm=true→∀ (i:Nat) (pins:List (Addr×Obj)) (s:Shared) (σ:St) (H:Hp) (E:Value→Shared→Prop),Inv X pins σ H s→(∀ b∈fp,FpOk X pins H b)→tn i s.heap→J.go i H→
  wpAny (model P w) X.A (pyNext (.ref it)) (fun r s1=>∃ u,r=some u∧
   wpAny (model P w) X.A (letOwnedTupleGo tg (.ref it) u) (fun _ s2=>∃ x H',Inv X pins σ H' s2∧RelV x u∧J.yld i H x H'∧tn (i + 1) s2.heap∧∀ b∈fp,H' b=none) E s1) E s
 done:∀ (X:Cx),X.prog=P→X.w=w→X.K=K→X.calm=true→∀ (i:Nat) (pins:List (Addr×Obj)) (s:Shared) (σ:St) (H:Hp) (E:Value→Shared→Prop),Inv X pins σ H s→(∀ b∈fp,FpOk X pins H b)→tn i s.heap→J.stop i H→
  wpAny (model P w) X.A (pyNext (.ref it)) (fun r s1=>r=none∧Inv X pins σ H s1) E s
 self:∀ (A:Around) (i:Nat) (s:Shared) (Q:Value→Shared→Prop) (E:Value→Shared→Prop),tn i s.heap→Q (.ref it) s→wpAny (model P w) A (pyIter (.ref it)) Q E s
noncomputable abbrev TI:=St→Hp→(It→Hp→Prop)→Prop
noncomputable def PIE (X:Cx) (pins:List (Addr×Obj)) (σ:St) (tg:Expr) (R:It→Hp→Prop) (itv:Value) (s2:Shared):Prop:=
 ∃ (it:Addr) (fp:List Addr) (tn:Nat→Heap→Prop) (J:It) (H':Hp),itv=.ref it∧Inv X pins σ H' s2∧Turn X.prog X.w X.K tg J fp it tn∧tn 0 s2.heap∧(∀ b∈fp,FpOk X pins H' b)∧R J H'
noncomputable def PI (X:Cx) (tg iter:Expr) (wi:TI):Prop:=
 ∀ (pins:List (Addr×Obj)) (s:Shared) (σ:St) (H:Hp) (R:It→Hp→Prop),Inv X pins σ H s→wi σ H R→
  wpAny (model X.prog X.w) X.A (eval iter X.env) (fun v s1=>wpAny (model X.prog X.w) X.A (pyIter v) (PIE X pins σ tg R) X.xe s1) X.xe s
theorem go_of {M:Model} {A:Around} {E:Value→Shared→Prop} {s:Shared} {tg:Expr} {it:Addr} {u:Value} {o:Obj} {n:String} {vs:Array Value} {Q:Unit→Shared→Prop} (ho:s.heap.get? it=some o) (hc:o.cls=.type n) (hd:o.data=.fields vs)
    (hn:["enumerate","zip","dict_itemiterator","dict_reverseitemiterator","odict_iterator","itertools.zip_longest","itertools.pairwise"].contains n=false) (hQ:Q () s):wpAny M A (letOwnedTupleGo tg (.ref it) u) Q E s:=by
  unfold letOwnedTupleGo
  cases tg <;> first
    | exact wpAny_pure hQ
    | (cases u <;> first
        | exact wpAny_pure hQ
        | (refine wpAny_bind (wpAny_load ho ?_)
           rw [hc,hd]
           show wpAny M A (if (["enumerate","zip","dict_itemiterator","dict_reverseitemiterator","odict_iterator","itertools.zip_longest","itertools.pairwise"].contains n&&vs[0]? ==some (rawInt _))=true then _ else _) Q E s
           rw [if_neg (by intro h;rw [hn,Bool.false_and] at h;cases h)]
           exact wpAny_pure hQ))
noncomputable def Itl (K:PySem.W.Frag) (a:Addr):It:=
 ⟨fun i H=>∃ xs x,SqL K H a xs∧xs[i]? =some x,fun i H x H'=>H'=H∧∀ xs,SqL K H a xs→xs[i]? =some x,fun i H=>∃ xs,SqL K H a xs∧xs.length≤i⟩
noncomputable def Itt (K:PySem.W.Frag) (a:Addr):It:=
 ⟨fun i H=>∃ xs x,SqT K H a xs∧xs[i]? =some x,fun i H x H'=>H'=H∧∀ xs,SqT K H a xs→xs[i]? =some x,fun i H=>∃ xs,SqT K H a xs∧xs.length≤i⟩
noncomputable def Itr (lo:Int) (n:Nat):It:=⟨fun i _=>i < n,fun i H x H'=>H'=H∧x=.int (lo + i),fun i _=>n≤i⟩
theorem turn_list {P:Program} {w:World} {K:PySem.W.Frag} {tg:Expr} (a it:Addr):Turn P w K tg (Itl K a) [it] it (fun i h=>h.IsListIter it a i) where
 mem:=by simp
 obj:=fun i h st b hb=>by
  have e:b=it:=by simpa using hb
  subst e
  obtain ⟨o,e,c,d⟩:=st
  exact ⟨o,e,fun v z=>by rw [d] at z;cases z⟩
 keep:=fun i h h' st k=>st.at fun o e=>k it (by simp) o e
 item:=by
  intro X hP hw hK hc i pins s σ H E I hf st hg
  subst hP hw hK
  obtain ⟨xs,x,hq,hx⟩:=hg
  obtain ⟨its,rv,p,hz⟩:=I.list hq
  obtain ⟨u,hu,ru⟩:=rv.get hx
  obtain ⟨f0,f1,f2,f3,f4,f5⟩:=hf it (by simp)
  refine wpAny_pyNext_list_item st p.isList (x:=u) (by simpa using hu) fun h' st' sb=>?_
  have I1:Inv X pins σ H { s with heap:=h' }:=I.turned (t':=s.toks) (fun b o hb e=>(sb.2 b hb).trans e) f0 f1 f3 f4 f5
  obtain ⟨o,e,c,d⟩:=id st'
  exact ⟨u,rfl,go_of (s:={ s with heap:=h' }) e c d (by decide) ⟨x,H,I1,ru,⟨rfl,fun ys hy=>by rw [I.list_inj hy hq];exact hx⟩,st',fun b hb=>(hf b hb).1⟩⟩
 done:=by
  intro X hP hw hK hc i pins s σ H E I hf st hg
  subst hP hw hK
  obtain ⟨xs,hq,hx⟩:=hg
  obtain ⟨its,rv,p,hz⟩:=I.list hq
  obtain ⟨f0,f1,f2,f3,f4,f5⟩:=hf it (by simp)
  have hl:=rv.length
  exact wpAny_pyNext_list_end (I.ok.hd hc) st p.isList (by simp;lia) fun h' eb=>⟨rfl,I.turned (t':=s.toks) (fun b o hb e=>eb b o hb e) f0 f1 f3 f4 f5⟩
 self:=fun _ _ _ _ _ st h=>wpAny_pyIter_listiter st h
theorem turn_tuple {P:Program} {w:World} {K:PySem.W.Frag} {tg:Expr} (a it:Addr):Turn P w K tg (Itt K a) [it] it (fun i h=>h.IsTupleIter it a i) where
 mem:=by simp
 obj:=fun i h st b hb=>by
  have e:b=it:=by simpa using hb
  subst e
  obtain ⟨o,e,c,d⟩:=st
  exact ⟨o,e,fun v z=>by rw [d] at z;cases z⟩
 keep:=fun i h h' st k=>st.at fun o e=>k it (by simp) o e
 item:=by
  intro X hP hw hK hc i pins s σ H E I hf st hg
  subst hP hw hK
  obtain ⟨xs,x,hq,hx⟩:=hg
  obtain ⟨its,rv,p,hz⟩:=I.tuple hq
  obtain ⟨u,hu,ru⟩:=rv.get hx
  obtain ⟨f0,f1,f2,f3,f4,f5⟩:=hf it (by simp)
  refine wpAny_pyNext_tuple_item st (show s.heap.IsTuple a its.toArray from p) (x:=u) (by simpa using hu) fun h' st' sb=>?_
  have I1:Inv X pins σ H { s with heap:=h' }:=I.turned (t':=s.toks) (fun b o hb e=>(sb.2 b hb).trans e) f0 f1 f3 f4 f5
  obtain ⟨o,e,c,d⟩:=id st'
  exact ⟨u,rfl,go_of (s:={ s with heap:=h' }) e c d (by decide) ⟨x,H,I1,ru,⟨rfl,fun ys hy=>by rw [I.tuple_inj hy hq];exact hx⟩,st',fun b hb=>(hf b hb).1⟩⟩
 done:=by
  intro X hP hw hK hc i pins s σ H E I hf st hg
  subst hP hw hK
  obtain ⟨xs,hq,hx⟩:=hg
  obtain ⟨its,rv,p,hz⟩:=I.tuple hq
  obtain ⟨f0,f1,f2,f3,f4,f5⟩:=hf it (by simp)
  have hl:=rv.length
  exact wpAny_pyNext_tuple_end (I.ok.hd hc) st (show s.heap.IsTuple a its.toArray from p) (by simp;lia) fun h' eb=>⟨rfl,I.turned (t':=s.toks) (fun b o hb e=>eb b o hb e) f0 f1 f3 f4 f5⟩
 self:=fun _ _ _ _ _ st h=>wpAny_pyIter_tupleiter st h
theorem turn_range {P:Program} {w:World} {K:PySem.W.Frag} {tg:Expr} (it:Addr) (lo:Int) (n:Nat):Turn P w K tg (Itr lo n) [it] it (fun i h=>IsRangeIter h it (lo + (i:Nat) * 1) ((n:Int) - (i:Nat)) 1) where
 mem:=by simp
 obj:=fun i h st b hb=>by
  have e:b=it:=by simpa using hb
  subst e
  exact ⟨_,st,fun v z=>by
   have z':Data.fields _=Data.cell v:=z
   cases z'⟩
 keep:=fun i h h' st k=>k it (by simp) _ st
 item:=by
  intro X hP hw hK hc i pins s σ H E I hf st hg
  subst hP hw hK
  obtain ⟨f0,f1,f2,f3,f4,f5⟩:=hf it (by simp)
  have W:=Walks.range (prog:=X.prog) (w:=X.w) (I.ok.hd hc) it lo 1 n
  refine W.item i s _ _ hg st fun v h' tk hv st' kk=>?_
  obtain ⟨t,rfl⟩:=hv
  have I1:Inv X pins σ H { s with heap:=h',toks:=tk }:=I.turned (fun b o hb e=>kk b o (by simpa using hb) e) f0 f1 f3 f4 f5
  refine ⟨_,rfl,go_of (s:={ s with heap:=h',toks:=tk }) (n:="range_iterator") st' rfl rfl (by decide) ⟨.int (lo + i),H,I1,⟨t,?_⟩,⟨rfl,rfl⟩,st',fun b hb=>(hf b hb).1⟩⟩
  rw [Int.mul_one]
 done:=by
  intro X hP hw hK hc i pins s σ H E I hf st hg
  subst hP hw hK
  obtain ⟨f0,f1,f2,f3,f4,f5⟩:=hf it (by simp)
  exact wpAny_pyNext_range_end (I.ok.hd hc) st (by have:n≤i:=hg;lia) fun h' eb=>⟨rfl,I.turned (t':=s.toks) (fun b o hb e=>eb b o hb e) f0 f1 f3 f4 f5⟩
 self:=fun _ _ _ _ _ st h=>wpAny_pyIter_rangeiter st h
end L2
namespace L2
open PySem PySem.Spec PyProof.Rows
section
variable {X:Cx} {tg:Expr}
noncomputable def iList (K:PySem.W.Frag) (tl:TE):TI:=fun σ H R=>tl σ H fun x H1=>∃ a,x=.ref a∧(∃ xs,SqL K H1 a xs)∧R (Itl K a) H1
noncomputable def iTup (K:PySem.W.Frag) (tl:TE):TI:=fun σ H R=>tl σ H fun x H1=>∃ a,x=.ref a∧(∃ xs,SqT K H1 a xs)∧R (Itt K a) H1
theorem pi_list {l:Expr} {tl:TE} (hl:PE X l tl):PI X tg l (iList X.K tl):=by
 intro pins s σ H R I h
 refine thn (hl pins s σ H _ I h) fun v s1 ⟨x,H1,I1,r1,q1⟩=>?_
 obtain ⟨a,e,⟨xs,hq⟩,q⟩:=q1
 subst e
 cases r1
 obtain ⟨its,rv,p,hz⟩:=I1.list hq
 refine wpAny_pyIter_list p.isList ?_
 refine ⟨s1.heap.objs.size,[s1.heap.objs.size],_,_,H1,rfl,I1.kept (t':=s1.toks) fun b o e=>Heap.get?_push_of_some _ e,turn_list a _,⟨_,Heap.get?_push_size _ rfl,rfl,rfl⟩,fun b hb=>?_,q⟩
 have e:b=s1.heap.objs.size:=by simpa using hb
 subst e
 exact I1.fpOk (Nat.le_refl _) (I1.hok.fresh (Nat.le_refl _))
theorem pi_tup {l:Expr} {tl:TE} (hl:PE X l tl):PI X tg l (iTup X.K tl):=by
 intro pins s σ H R I h
 refine thn (hl pins s σ H _ I h) fun v s1 ⟨x,H1,I1,r1,q1⟩=>?_
 obtain ⟨a,e,⟨xs,hq⟩,q⟩:=q1
 subst e
 cases r1
 obtain ⟨its,rv,p,hz⟩:=I1.tuple hq
 refine wpAny_pyIter_tuple (show s1.heap.IsTuple a its.toArray from p) ?_
 refine ⟨s1.heap.objs.size,[s1.heap.objs.size],_,_,H1,rfl,I1.kept (t':=s1.toks) fun b o e=>Heap.get?_push_of_some _ e,turn_tuple a _,⟨_,Heap.get?_push_size _ rfl,rfl,rfl⟩,fun b hb=>?_,q⟩
 have e:b=s1.heap.objs.size:=by simpa using hb
 subst e
 exact I1.fpOk (Nat.le_refl _) (I1.hok.fresh (Nat.le_refl _))
theorem range_it {pins:List (Addr×Obj)} {σ:St} {H:Hp} {s:Shared} {R:It→Hp→Prop} {E:Value→Shared→Prop} {lo hi:Int} {t u v:Tok} {tk:Nat} (I:Inv X pins σ H s) (h1:-(2 ^ 62)≤lo) (h2:lo < 2 ^ 62) (h3:-(2 ^ 62)≤hi) (h4:hi < 2 ^ 62)
  (q:R (Itr lo (hi - lo).toNat) H):wpAny (model X.prog X.w) X.A (pyIter (.ref s.heap.objs.size)) (PIE X pins σ tg R) E { s with heap:=s.heap.push { cls:=.type "range",data:=.fields #[.int lo t,.int hi u,.int 1 v] },toks:=tk }:=by
 refine wpAny_pyIter_range (IsRange.new ..) (small_one h1 h2 h3 h4) ?_
 have I1:Inv X pins σ H { s with heap:=s.heap.push { cls:=.type "range",data:=.fields #[.int lo t,.int hi u,.int 1 v] },toks:=tk }:=I.kept fun b o e=>Heap.get?_push_of_some _ e
 refine ⟨(s.heap.push { cls:=.type "range",data:=.fields #[.int lo t,.int hi u,.int 1 v] }).objs.size,[(s.heap.push { cls:=.type "range",data:=.fields #[.int lo t,.int hi u,.int 1 v] }).objs.size],_,_,H,rfl,
  I1.kept (t':=tk) fun b o e=>Heap.get?_push_of_some _ e,turn_range _ lo (hi - lo).toNat,?_,fun b hb=>?_,q⟩
 ·have e1:lo + ((0:Nat):Int) * 1=lo:=by simp
  have e2:(((hi - lo).toNat:Nat):Int) - ((0:Nat):Int)=Builtin.Range.rangeSize lo hi 1:=by rw [rangeSize_one];split <;> lia
  show IsRangeIter _ _ (lo + ((0:Nat):Int) * 1) ((((hi - lo).toNat:Nat):Int) - ((0:Nat):Int)) 1
  rw [e1,e2]
  exact Heap.get?_push_size _ rfl
 ·have e:b=(s.heap.push { cls:=.type "range",data:=.fields #[.int lo t,.int hi u,.int 1 v] }).objs.size:=by simpa using hb
  subst e
  exact I1.fpOk (Nat.le_refl _) (I1.hok.fresh (Nat.le_refl _))
noncomputable def iRng1 (ta:TA):TI:=fun σ H R=>ta σ H fun vs H1=>∃ j:Int,vs=[.int j]∧-(2 ^ 62)≤j∧j < 2 ^ 62∧R (Itr 0 j.toNat) H1
noncomputable def iRng2 (ta:TA):TI:=fun σ H R=>ta σ H fun vs H1=>∃ i j:Int,vs=[.int i,.int j]∧(-(2 ^ 62)≤i∧i < 2 ^ 62∧-(2 ^ 62)≤j∧j < 2 ^ 62)∧R (Itr i (j - i).toNat) H1
theorem pi_range1 {a:Expr} {ta:TA} {p pos:Pos} (hg:Gl X "range") (hm:X.mg "range"=none) (ha:PA X [a] ta) (hs:starEach [a] X.env=[(false,eval a X.env)]:=by rfl):PI X tg (.Call (.Name "range" p) [a] [] pos) (iRng1 ta):=by
 intro pins s σ H R I h
 refine Call_ (ld_blt I hg hm boot_range (PyProof.Rows.callWith_type1 (thn (ha pos pins s σ H _ I h) fun us s1 ⟨vs,H1,I1,r1,q1⟩=>?_) hs rfl))
 obtain ⟨j,e,q1,q2,q⟩:=q1
 subst e
 cases r1 with
 | cons r rr=>
  cases rr
  obtain ⟨t,rfl⟩:=r
  exact call_range_1 (range_it I1 (by lia) (by lia) q1 q2 (by simpa using q))
theorem pi_range2 {a b:Expr} {ta:TA} {p pos:Pos} (hg:Gl X "range") (hm:X.mg "range"=none) (ha:PA X [a,b] ta) (hs:starEach [a,b] X.env=[(false,eval a X.env),(false,eval b X.env)]:=by rfl) (hs2:starEach [b] X.env=[(false,eval b X.env)]:=by rfl):
  PI X tg (.Call (.Name "range" p) [a,b] [] pos) (iRng2 ta):=by
 intro pins s σ H R I h
 refine Call_ (ld_blt I hg hm boot_range (PyProof.Rows.callWith_type1 (thn (ha pos pins s σ H _ I h) fun us s1 ⟨vs,H1,I1,r1,q1⟩=>?_) (by rw [hs,hs2]) (by rw [hs2];rfl)))
 obtain ⟨i,j,e,⟨q1,q2,q3,q4⟩,q⟩:=q1
 subst e
 cases r1 with
 | cons r rr=>
  cases rr with
  | cons r' rr=>
   cases rr
   obtain ⟨t,rfl⟩:=r
   obtain ⟨t',rfl⟩:=r'
   exact call_range_2 (range_it I1 q1 q2 q3 q4 q)
noncomputable def tFor (wi:TI) (g:TG) (tb:TS):TS:=fun D σ H=>wi σ H fun J H1=>∃ W:Nat→Nat→St→Hp→Prop,(∃ m,W 0 m σ H1)∧∀ i m σ H,W i m σ H→
 (J.stop i H∧D.nx σ H)∨(J.go i H∧∃ N:St→Hp→Prop,(∀ σ' H',N σ' H'→∃ m',m' < m∧W (i + 1) m' σ' H')∧∀ x H',J.yld i H x H'→g x σ H' fun σ2 H2=>tb { D with nx:=N,ct:=N,bk:=D.nx } σ2 H2)
noncomputable def pinsAt (fp:List Addr) (h:Heap):List (Addr×Obj):=fp.filterMap fun b=>(h.get? b).map fun o=>(b,o)
theorem mem_pinsAt {fp:List Addr} {h:Heap} {b:Addr} {o:Obj} (hb:b∈fp) (e:h.get? b=some o):(b,o)∈pinsAt fp h:=List.mem_filterMap.mpr ⟨b,hb,by rw [e];rfl⟩
theorem of_pinsAt {fp:List Addr} {h:Heap} {p:Addr×Obj} (hp:p∈pinsAt fp h):p.1∈fp∧h.get? p.1=some p.2:=by
 obtain ⟨b,hb,e⟩:=List.mem_filterMap.mp hp
 cases q:h.get? b with
 | none=>rw [q] at e;cases e
 | some o=>
  rw [q] at e
  have e':(b,o)=p:=Option.some.inj e
  subst e'
  exact ⟨hb,q⟩
theorem Inv.pinned {pins:List (Addr×Obj)} {σ:St} {H:Hp} {s:Shared} {fp:List Addr} (I:Inv X pins σ H s) (hf:∀ b∈fp,FpOk X pins H b) (ho:∀ b∈fp,∃ o,s.heap.get? b=some o∧∀ v,o.data≠.cell v):Inv X (pins++pinsAt fp s.heap) σ H s:=
 I.pins_of fun p hp=>(List.mem_append.mp hp).elim (fun z=>I.pin p (List.mem_append_right _ z)) fun z=>by
  obtain ⟨hb,e⟩:=of_pinsAt z
  obtain ⟨f0,f1,f2,_⟩:=hf p.1 hb
  obtain ⟨o,e',d⟩:=ho p.1 hb
  rw [e] at e';cases e'
  exact ⟨e,f0,f1,f2,d⟩
theorem Inv.unpinned {pins pl:List (Addr×Obj)} {σ:St} {H:Hp} {s:Shared} (I:Inv X (pins++pl) σ H s):Inv X pins σ H s:=I.pins_of fun p hp=>I.pin p (List.mem_append_right _ (List.mem_append_left _ hp))
theorem ps_for {iter:Expr} {body:List Stmt} {wi:TI} {g:TG} {tb:TS} {pos:Pos} (hp:PassesOwn (model X.prog X.w) X.A X.env X.xe) (hc:X.calm=true) (hi:PI X tg iter wi) (hg:PG X tg g) (hb:PSs X body tb)
  (hs:∀ x,foldedSetIterable iter X.env x=pure x:=by intro _;rfl):PS X (.For tg iter body [] pos) (tFor wi g tb):=by
 intro pins s σ H D I h
 refine wpAny_For (thn (hi pins s σ H _ I h) fun v s1 h1=>thn h1 fun itv s2 h2=>?_) hs
 obtain ⟨it,fp,tn,J,H2,e,I2,T,st2,f2,W,⟨m0,w0⟩,turn⟩:=h2
 subst e
 have stat:∀ {H':Hp},(∀ b∈fp,H' b=none)→∀ b∈fp,FpOk X pins H' b:=fun hn b hb=>⟨hn b hb,(f2 b hb).2⟩
 refine codeAny_forLoop_any (fun n s'=>∃ i σ' H',Inv X pins σ' H' s'∧tn i s'.heap∧(∀ b∈fp,H' b=none)∧W i n σ' H') ?_ m0 ⟨0,σ,H2,I2,st2,fun b hb=>(f2 b hb).1,w0⟩
 rintro n s3 ⟨i,σ3,H3,I3,st3,fr3,w3⟩
 rcases turn i n σ3 H3 w3 with ⟨stop,qn⟩ | ⟨go,N,hN,step⟩
 ·refine wpAny_passesOwn hp (thn (T.done X rfl rfl rfl hc i pins s3 σ3 H3 X.xe I3 (stat fr3) st3 stop) fun r s4 ⟨hr,I4⟩=>?_)
  subst hr
  exact wpAny_execs_nil ⟨σ3,H3,I4,qn⟩
 ·refine wpAny_passesOwn hp (thn (T.item X rfl rfl rfl hc i pins s3 σ3 H3 X.xe I3 (stat fr3) st3 go) fun r s4 ⟨u,hr,h4⟩=>?_)
  subst hr
  refine wpAny_passesOwn hp (thn h4 fun _ s5 ⟨x,H5,I5,r5,y5,st5,fr5⟩=>?_)
  have I5':=I5.pinned (stat fr5) (T.obj _ _ st5)
  refine wpAny_passesOwn hp (thn (hg _ s5 σ3 H5 x u _ I5' r5 (step x H5 y5)) fun _ s6 ⟨σ6,H6,I6,q6⟩=>?_)
  refine wpAny_passesOwn hp (thn (hb _ s6 σ6 H6 _ I6 q6) fun f s7 q7=>?_)
  have again:∀ {σ7:St} {H7:Hp},Inv X (pins++pinsAt fp s5.heap) σ7 H7 s7→N σ7 H7→∃ m,m < n∧∃ i σ' H',Inv X pins σ' H' s7∧tn i s7.heap∧(∀ b∈fp,H' b=none)∧W i m σ' H':=fun {σ7 H7} I7 n7=>by
   obtain ⟨m',hm,w7⟩:=hN σ7 H7 n7
   refine ⟨m',hm,i + 1,σ7,H7,I7.unpinned,T.keep _ _ _ st5 fun b hb o e=>(I7.pin (b,o) (List.mem_append_right _ (List.mem_append_right _ (mem_pinsAt hb e)))).1,fun b hb=>?_,w7⟩
   obtain ⟨o,e,d⟩:=T.obj _ _ st5 b hb
   exact (I7.pin (b,o) (List.mem_append_right _ (List.mem_append_right _ (mem_pinsAt hb e)))).2.1
  cases f with
  | next=>obtain ⟨σ7,H7,I7,n7⟩:=q7;exact again I7 n7
  | cont=>obtain ⟨σ7,H7,I7,n7⟩:=q7;exact again I7 n7
  | brk=>obtain ⟨σ7,H7,I7,q7⟩:=q7;exact ⟨σ7,H7,I7.unpinned,q7⟩
  | ret v=>obtain ⟨x7,σ7,H7,I7,r7,q7⟩:=q7;exact ⟨x7,σ7,H7,I7.unpinned,r7,q7⟩
end
end L2
namespace L2
open PySem PySem.Spec PyProof.Rows
noncomputable abbrev R2:=V→V→Hp→VK→Prop
noncomputable def OpR (X:Cx) (f:Value→Value→Sem Value) (r:R2):Prop:=
 ∀ (pins:List (Addr×Obj)) (s:Shared) (σ:St) (H:Hp) (x y:V) (v u:Value) (Q:VK),Inv X pins σ H s→RelV x v→RelV y u→r x y H Q→
  wpAny (model X.prog X.w) X.A (f v u) (EP X pins σ Q) X.xe s
noncomputable def UnR (X:Cx) (f:Value→Sem Value) (r:V→Hp→VK→Prop):Prop:=
 ∀ (pins:List (Addr×Obj)) (s:Shared) (σ:St) (H:Hp) (x:V) (v:Value) (Q:VK),Inv X pins σ H s→RelV x v→r x H Q→
  wpAny (model X.prog X.w) X.A (f v) (EP X pins σ Q) X.xe s
noncomputable def CallR (X:Cx) (f:Value) (r:List V→Hp→VK→Prop):Prop:=
 ∀ (pins:List (Addr×Obj)) (s:Shared) (σ:St) (H:Hp) (xs:List V) (us:List Value) (Q:VK),Inv X pins σ H s→Vals xs us→r xs H Q→
  wpAny (model X.prog X.w) X.A (call f us) (EP X pins σ Q) X.xe s
noncomputable def tOp (r:R2) (ta tb:TE):TE:=fun σ H Q=>ta σ H fun x H1=>tb σ H1 fun y H2=>r x y H2 Q
noncomputable def tUn (r:V→Hp→VK→Prop) (ta:TE):TE:=fun σ H Q=>ta σ H fun x H1=>r x H1 Q
noncomputable def rI (C:Int→Int→Prop) (g:Int→Int→V):R2:=fun x y H Q=>∃ i j,x=.int i∧y=.int j∧C i j∧Q (g i j) H
noncomputable def rI0 (g:Int→Int→V):R2:=fun x y H Q=>∃ i j,x=.int i∧y=.int j∧Q (g i j) H
noncomputable def rU (g:Int→V):V→Hp→VK→Prop:=fun x H Q=>∃ i,x=.int i∧Q (g i) H
section
variable {X:Cx} {a b c:Expr} {ta tb tc:TE} {pos:Pos}
theorem binT (ha:PE X a ta) (hb:PE X b tb) {pins:List (Addr×Obj)} {s:Shared} {σ:St} {H:Hp} {R:V→V→Hp→Prop} (I:Inv X pins σ H s)
  (h:ta σ H fun x H1=>tb σ H1 fun y H2=>R x y H2) {Q:Value→Shared→Prop} {f:Value→Value→Sem Value}
  (hf:∀ v u s2 x y H2,Inv X pins σ H2 s2→RelV x v→RelV y u→R x y H2→wpAny (model X.prog X.w) X.A (f v u) Q X.xe s2):
  wpAny (model X.prog X.w) X.A (eval a X.env) (fun v s₁=>wpAny (model X.prog X.w) X.A (eval b X.env) (fun u s₂=>wpAny (model X.prog X.w) X.A (f v u) Q X.xe s₂) X.xe s₁) X.xe s:=by
 refine thn (ha pins s σ H _ I h) fun v s1 ⟨x,H1,I1,r1,q1⟩=>?_
 refine thn (hb pins s1 σ H1 _ I1 q1) fun u s2 ⟨y,H2,I2,r2,q2⟩=>?_
 exact hf v u s2 x y H2 I2 r1 r2 q2
theorem pe_op {op:Operator} {r:R2} (ho:OpR X (binaryOp op) r) (ha:PE X a ta) (hb:PE X b tb):PE X (.BinOp a op b pos) (tOp r ta tb):=by
 intro pins s σ H Q I h
 exact wpAny_BinOp (binT ha hb I h fun v u s2 x y H2 I2 rx ry q=>ho pins s2 σ H2 x y v u Q I2 rx ry q)
theorem pe_un {op:UnaryOp} {r:V→Hp→VK→Prop} (ho:UnR X (unaryOp op) r) (ha:PE X a ta):PE X (.UnaryOp op a pos) (tUn r ta):=by
 intro pins s σ H Q I h
 exact UnaryOp_ (thn (ha pins s σ H _ I h) fun v s1 ⟨x,H1,I1,r1,q1⟩=>ho pins s1 σ H1 x v Q I1 r1 q1)
theorem opI {f:Value→Value→Sem Value} {C:Int→Int→Prop} {g:Int→Int→Int}
  (rule:∀ (i j:Int) (t u:Tok) (s:Shared) (Q:Value→Shared→Prop) (E:Value→Shared→Prop),C i j→Q (.int (g i j) s.toks) { s with toks:=s.toks + 1 }→wpAny (model X.prog X.w) X.A (f (.int i t) (.int j u)) Q E s):
  OpR X f (rI C fun i j=>.int (g i j)):=by
 intro pins s σ H x y v u Q I rx ry h
 obtain ⟨i,j,rfl,rfl,hc,q⟩:=h
 obtain ⟨t,rfl⟩:=rx
 obtain ⟨t',rfl⟩:=ry
 exact rule i j t t' s _ _ hc ⟨.int (g i j),H,I.tok _,⟨_,rfl⟩,q⟩
theorem opI0 {f:Value→Value→Sem Value} {g:Int→Int→Int}
  (rule:∀ (i j:Int) (t u:Tok) (s:Shared) (Q:Value→Shared→Prop) (E:Value→Shared→Prop),Q (.int (g i j) s.toks) { s with toks:=s.toks + 1 }→wpAny (model X.prog X.w) X.A (f (.int i t) (.int j u)) Q E s):
  OpR X f (rI0 fun i j=>.int (g i j)):=by
 intro pins s σ H x y v u Q I rx ry h
 obtain ⟨i,j,rfl,rfl,q⟩:=h
 obtain ⟨t,rfl⟩:=rx
 obtain ⟨t',rfl⟩:=ry
 exact rule i j t t' s _ _ ⟨.int (g i j),H,I.tok _,⟨_,rfl⟩,q⟩
theorem opB0 {f:Value→Value→Sem Value} {g:Int→Int→Bool}
  (rule:∀ (i j:Int) (t u:Tok) (s:Shared) (Q:Value→Shared→Prop) (E:Value→Shared→Prop),Q (.bool (g i j)) s→wpAny (model X.prog X.w) X.A (f (.int i t) (.int j u)) Q E s):
  OpR X f (rI0 fun i j=>.bl (g i j)):=by
 intro pins s σ H x y v u Q I rx ry h
 obtain ⟨i,j,rfl,rfl,q⟩:=h
 obtain ⟨t,rfl⟩:=rx
 obtain ⟨t',rfl⟩:=ry
 exact rule i j t t' s _ _ ⟨.bl (g i j),H,I,rfl,q⟩
noncomputable def CPow (i j:Int):Prop:=0≤j∧j≤1000000∧i.natAbs < 2 ^ 64
noncomputable def CMul (i j:Int):Prop:=(-(2 ^ 64) < i∧i < 2 ^ 64)∨(-(2 ^ 64) < j∧j < 2 ^ 64)
theorem CMul.ok {i j:Int} (h:CMul i j):IntMulOk i j:=by
 rcases h with ⟨h1,h2⟩ | ⟨h1,h2⟩
 ·exact .of_left (intBits_le_64 h1 h2)
 ·exact .of_right (intBits_le_64 h1 h2)
theorem op_add:OpR X (binaryOp .Add) (rI0 fun i j=>.int (i + j)):=opI0 fun _ _ _ _ _ _ _ q=>add_int q
theorem op_sub:OpR X (binaryOp .Sub) (rI0 fun i j=>.int (i - j)):=opI0 fun _ _ _ _ _ _ _ q=>sub_int q
theorem op_mul:OpR X (binaryOp .Mult) (rI CMul fun i j=>.int (i * j)):=opI fun _ _ _ _ _ _ _ hc q=>mul_int q hc.ok
theorem op_mod:OpR X (binaryOp .Mod) (rI (fun _ j=>0 < j) fun i j=>.int (i % j)):=opI fun i j _ _ _ _ _ hc q=>by
 have h1:(0:Int) < j:=hc
 exact mod_int' (by lia) (by rw [Int.fmod_eq_emod_of_nonneg i (by lia)];exact q)
theorem op_pow:OpR X (binaryOp .Pow) (rI CPow fun i j=>.int (i ^ j.toNat)):=opI fun _ _ _ _ _ _ _ hc q=>pow_int_small hc.1 hc.2.1 hc.2.2 q
theorem unI {f:Value→Sem Value} {g:Int→Int}
  (rule:∀ (i:Int) (t:Tok) (s:Shared) (Q:Value→Shared→Prop) (E:Value→Shared→Prop),Q (.int (g i) s.toks) { s with toks:=s.toks + 1 }→wpAny (model X.prog X.w) X.A (f (.int i t)) Q E s):
  UnR X f (rU fun i=>.int (g i)):=by
 intro pins s σ H x v Q I rx h
 obtain ⟨i,rfl,q⟩:=h
 obtain ⟨t,rfl⟩:=rx
 exact rule i t s _ _ ⟨.int (g i),H,I.tok _,⟨_,rfl⟩,q⟩
theorem un_neg:UnR X (unaryOp .USub) (rU fun i=>.int (-i)):=unI fun _ _ _ _ _ q=>neg_int q
end
section
variable {X:Cx} {a b c:Expr} {ta tb tc:TE} {pos:Pos}
theorem fin_bl {pins:List (Addr×Obj)} {σ:St} {H:Hp} {s:Shared} {Q:VK} {k k':Bool} (I:Inv X pins σ H s) (q:Q (.bl k) H) (e:k=k'):EP X pins σ Q (.bool k') s:=by
 subst e
 exact ⟨.bl k,H,I,rfl,q⟩
theorem op_lt:OpR X (compareOp .Lt) (rI0 fun i j=>.bl (decide (i < j))):=opB0 fun _ _ _ _ _ _ _ q=>lt_int q
theorem op_le:OpR X (compareOp .LtE) (rI0 fun i j=>.bl (decide (i≤j))):=opB0 fun _ _ _ _ _ _ _ q=>le_int q
theorem op_ge:OpR X (compareOp .GtE) (rI0 fun i j=>.bl (decide (j≤i))):=opB0 fun _ _ _ _ _ _ _ q=>ge_int q
theorem op_isN:OpR X (compareOp .Is) (fun x y H Q=>y=.non∧Q (.bl (decide (x=.non))) H):=by
 intro pins s σ H x y v u Q I rx ry h
 obtain ⟨rfl,q⟩:=h
 cases ry
 refine is_none_gen (fin_bl I q ?_)
 cases x <;> first
  | (cases rx;rfl)
  | (obtain ⟨t,rfl⟩:=rx;rfl)
theorem op_notN:OpR X (compareOp .IsNot) (fun x y H Q=>y=.non∧Q (.bl (!decide (x=.non))) H):=by
 intro pins s σ H x y v u Q I rx ry h
 obtain ⟨rfl,q⟩:=h
 cases ry
 refine isnot_none_gen (fin_bl I q ?_)
 cases x <;> first
  | (cases rx;rfl)
  | (obtain ⟨t,rfl⟩:=rx;rfl)
theorem OpR.or {f:Value→Value→Sem Value} {r r':R2} (h:OpR X f r) (h':OpR X f r'):OpR X f (fun x y H Q=>r x y H Q∨r' x y H Q):=by
 intro pins s σ H x y v u Q I rx ry q
 rcases q with q | q
 ·exact h pins s σ H x y v u Q I rx ry q
 ·exact h' pins s σ H x y v u Q I rx ry q
theorem nomark (b:Expr) {op:CmpOp} (h:op≠.In:=by decide) (h2:op≠.NotIn:=by decide):behindInMarks op b=false:=by
 have e1:(op==CmpOp.In)=false:=by cases op <;> first | rfl | exact absurd rfl h
 have e2:(op==CmpOp.NotIn)=false:=by cases op <;> first | rfl | exact absurd rfl h2
 cases b <;> simp [behindInMarks,e1,e2]
theorem pe_cmpR {op:CmpOp} {r:R2} (ho:OpR X (compareOp op) r) (ha:PE X a ta) (hb:PE X b tb) (hm:behindInMarks op b=false):PE X (.Compare a [op] [b] pos) (tOp r ta tb):=by
 intro pins s σ H Q I h
 exact wpAny_Compare1 (binT ha hb I h fun v u s2 x y H2 I2 rx ry q=>ho pins s2 σ H2 x y v u Q I2 rx ry q) hm
noncomputable def tTest (t:TE):TT:=fun σ H Q=>t σ H fun x H'=>∃ k,x=.bl k∧Q k H'
theorem pt_cmpR {op:CmpOp} {r:R2} (ho:OpR X (compareOp op) r) (ha:PE X a ta) (hb:PE X b tb) (hm:behindInMarks op b=false):PT X (.Compare a [op] [b] pos) (tTest (tOp r ta tb)):=by
 intro pins s σ H Q I h
 refine wpAny_isTrue_Compare1 (thn (ha pins s σ H _ I h) fun v s1 ⟨x,H1,I1,r1,q1⟩=>thn (hb pins s1 σ H1 _ I1 q1) fun u s2 ⟨y,H2,I2,r2,q2⟩=>
  thn (ho pins s2 σ H2 x y v u _ I2 r1 r2 q2) fun c s3 ⟨z,H3,I3,r3,k,e,q3⟩=>?_) hm
 subst e
 cases r3
 exact wpAny_truthy_bool ⟨H3,I3,q3⟩
noncomputable def tChain (r r':R2) (ta tb tc:TE):TE:=fun σ H Q=>ta σ H fun x H1=>tb σ H1 fun y H2=>r x y H2 fun z H3=>∃ k,z=.bl k∧
 (if k=true then tc σ H3 fun w' H4=>r' y w' H4 Q else Q (.bl false) H3)
theorem pe_chain {op op':CmpOp} {r r':R2} (ho:OpR X (compareOp op) r) (ho':OpR X (compareOp op') r') (ha:PE X a ta) (hb:PE X b tb) (hc:PE X c tc)
  (hm:lastMarks [op,op'] [b,c]=false:=by with_unfolding_all rfl):PE X (.Compare a [op,op'] [b,c] pos) (tChain r r' ta tb tc):=by
 intro pins s σ H Q I h
 refine Compare_chain (thn (ha pins s σ H _ I h) fun v s1 ⟨x,H1,I1,r1,q1⟩=>chain_link (thn (hb pins s1 σ H1 _ I1 q1) fun u s2 ⟨y,H2,I2,r2,q2⟩=>
  thn (ho pins s2 σ H2 x y v u _ I2 r1 r2 q2) fun d s3 ⟨z,H3,I3,r3,k,e,q3⟩=>?_)) hm
 subst e
 cases r3
 refine wpAny_truthy_bool ?_
 cases k with
 | false=>exact ite_ff ⟨.bl false,H3,I3,rfl,q3⟩
 | true=>exact ite_tt (chain_last (thn (hc pins s3 σ H3 _ I3 q3) fun w' s4 ⟨z',H4,I4,r4,q4⟩=>ho' pins s4 σ H4 y z' u w' Q I4 r2 r4 q4))
theorem line63:(sizeLine:Nat) < 2 ^ 63:=by rw [sizeLine_eq];decide
theorem op_add_str:OpR X (binaryOp .Add) (fun x y H Q=>∃ i j,x=.str i∧y=.str j∧i.length + j.length≤sizeLine∧Q (.str (i++j)) H):=by
 intro pins s σ H x y v u Q I rx ry h
 obtain ⟨i,j,rfl,rfl,hz,q⟩:=h
 obtain ⟨t,rfl⟩:=rx
 obtain ⟨t',rfl⟩:=ry
 exact add_str (fun t' tk=>⟨.str (i++j),H,I.tok _,⟨_,rfl⟩,q⟩) hz
theorem vals1 {x:V} {us:List Value} (r:Vals [x] us):∃ u,us=[u]∧RelV x u:=by
 cases r with
 | cons r1 r2=>cases r2;exact ⟨_,rfl,r1⟩
end
end L2
namespace L2
open PySem PySem.Spec PyProof.Rows
structure ObjM (h:Heap) (x dx C:Addr) (mA:Str→Option Value):Prop where
 obj:h.get? x=some (PySem.W.instObj C dx)
 ns:h.Ns1 dx mA
 ne:dx≠x
theorem lookIn_ns {h:Heap} {dx:Addr} {mA:Str→Option Value} (n:h.Ns1 dx mA):∃ od,h.get? dx=some od∧∀ name,PySem.W.lookIn name od=some (mA name):=by
 obtain ⟨o,es,ep,ho,hd,hk,_,hm⟩:=n
 refine ⟨o,ho,fun name=>?_⟩
 have e:=hm name
 unfold nsFind findBy at e
 rw [←Array.find?_toList] at e
 unfold PySem.W.lookIn
 rw [hd]
 dsimp only
 split
 ·rename_i y q
  rw [q] at e
  exact congrArg some e
 ·rename_i q
  rw [q] at e
  have a:es.toList.any (·.refKey)=false:=by
   rw [List.any_eq_false]
   intro y hy
   obtain ⟨z,t,hkey⟩:=hk y (Array.mem_toList_iff.mp hy)
   simp [DictEntry.refKey,hkey]
  have a':¬es.toList.any (·.refKey)=true:=by rw [a];exact Bool.false_ne_true
  rw [if_neg a']
  exact congrArg some e
theorem ObjM.look {h:Heap} {x dx C:Addr} {mA:Str→Option Value} (I:ObjM h x dx C mA):∃ od,PySem.W.InstAt h x (PySem.W.instObj C dx) C (some od)∧∀ name,PySem.W.lookIn name od=some (mA name):=
 let ⟨od,ho,hl⟩:=lookIn_ns I.ns
 ⟨od,⟨I.obj,rfl,rfl,ho⟩,hl⟩
section
variable {prog:Program} {w:World} {A:Around} {E:Value→Shared→Prop} {s:Shared} {K:PySem.W.Frag} {x dx C f:Addr} {mA:Str→Option Value} {name:Str} {v:Value}
theorem get_map {expr:Bool} {Q:Value→Shared→Prop} (X:K.In s.heap) (I:ObjM s.heap x dx C mA) (hg:PySem.W.plainGet K C name=true) (hh:PySem.W.hasDictIn K C=true)
  (ha:PySem.W.findIn K (.ref C) name=some none) (hv:mA name=some v) (hv':PySem.W.handedIn v=true) (h:Q v { s with toks:=s.toks + 1 }):
  wpAny (model prog w) A (getAttr (.ref x) name expr) Q E s:=by
 obtain ⟨od,J,hl⟩:=I.look
 exact PySem.W.get_value X J (PySem.W.plainGet_of hg).1 (PySem.W.findObj_own hh ha rfl (by rw [hl,hv])) hv' h
theorem get_meth {pl:Sem Bool} {Q:Value×List Value→Shared→Prop} (X:K.In s.heap) (I:ObjM s.heap x dx C mA) (hg:PySem.W.plainGet K C name=true)
  (hf:PySem.W.findIn K (.ref C) name=some (some (.ref f))) (ht:PySem.W.isFn K (.ref f)=true) (hv:mA name=none) (h:Q (.ref f,[.ref x]) s):
  wpAny (model prog w) A (getMethod (.ref x) name pl) Q E s:=by
 obtain ⟨od,J,hl⟩:=I.look
 exact PySem.W.method_fn X J (PySem.W.plainGet_of hg).1 (PySem.W.plainGet_of hg).2 hf (beq_iff_eq.mp ht) (by show (PySem.W.lookIn name od).map (·.isSome)=some false;rw [hl,hv];rfl) h
theorem set_map {ns:List Str} {Q:Unit→Shared→Prop} (X:K.In s.heap) (I:ObjM s.heap x dx C mA)
  (hs:PySem.W.findIn K (.ref C) "__setattr__"=some (some (.builtin "object.__setattr__"))) (hp:PySem.W.plainOver K C=true) (ht:PySem.W.takerIn K C name=some none) (hh:PySem.W.hasDictIn K C=true)
  (hw:PySem.Within mA ns) (hsz:ns.length≤sizeLine)
  (h:∀ h',ObjM h' x dx C (fun y=>if y=name then some v else mA y)→Heap.SameBut dx s.heap h'→Q () { s with heap:=h',toks:=s.toks + 2 }):
  wpAny (model prog w) A (setAttr (.ref x) name v) Q E s:=by
 obtain ⟨od,J,hl⟩:=I.look
 refine PySem.W.set_plain X J hs (PySem.W.osa_open (s:={ s with toks:=s.toks + 1 }) (r:=none) X J hp ht fun b=>?_)
 obtain ⟨cd,hc,hd'⟩:=PySem.W.any_some hh
 have hx:s.heap.get? x=some ⟨.ref C,some dx,.plain,#[]⟩:=I.obj
 refine wpAny_bind (wpAny_pure (wpAny_bind (wpAny_bind (wpAny_loadPart hx (wpAny_bind (PySem.W.Looks.here (s:={ s with toks:=s.toks + 1 }) (PySem.W.looks_clsIn X hc) ?_))))))
 rw [hd']
 refine wpAny_pure (a:=some dx) (wpAny_bind (wpAny_pure (wpAny_bind ?_)))
 refine wpAny_nsSet1 (s:={ s with toks:=s.toks + 1 }) I.ns fun h' hn2 hs2=>?_
 obtain ⟨oD,esD,epD,hoD,hdD,hcD⟩:=hn2.count (PySem.Within.cons name v hw)
 refine wpAny_bind (wpAny_lookBehind hoD (by rw [hdD];exact pastItsLine_dict (Nat.le_trans hcD (by rw [List.length_cons];lia))) ?_)
 exact wpAny_pure (h _ ⟨(hs2.2 _ (Ne.symm I.ne)).trans I.obj,hn2,I.ne⟩ hs2)
theorem make_map {R:Result→Shared→Prop} {vs:List Value} {kw:List (Str×Value)} (X:K.In s.heap) (hm:PySem.W.makesIn K C=true)
  (hi:PySem.W.findIn K (.ref C) "__init__"=some (some (.ref f))) (hf:PySem.W.typeIn K (.ref f)=some (.type "function"))
  (h:codeAny (model prog w) (A.under (.builtin "type.__call__" ⟨.ref C::vs,kw⟩)) (.call (.ref f) ⟨.ref (s.heap.objs.size + 1)::vs,kw⟩) (PySem.W.InitBack (s.heap.objs.size + 1) R)
   { s with heap:=(s.heap.push PySem.W.emptyDict).push (PySem.W.instObj C s.heap.objs.size) }):
  codeAny (model prog w) A (.call (.ref C) ⟨vs,kw⟩) R s:=by
 obtain ⟨hh,g,d,t,os⟩:=s
 exact PySem.W.make_core (PySem.W.makes_of X hm) (PySem.W.looks_findIn X hi) (fun self=>PySem.W.bind_fn X self hf) (.inl rfl) h
end
noncomputable def putF (f:Str) (v:V):List (Str×V)→List (Str×V)
 | []=>[(f,v)]
 | (g,x)::r=>if g=f then (g,v)::r else (g,x)::putF f v r
theorem lookup_putF (f g:Str) (v:V):∀ fs:List (Str×V),(putF f v fs).lookup g=if g=f then some v else fs.lookup g
 | []=>by
  show List.lookup g [(f,v)]=_
  by_cases h:g=f
  ·have hb:(g==f)=true:=beq_iff_eq.mpr h
   simp only [List.lookup,hb,if_pos h]
  ·have hb:(g==f)=false:=beq_eq_false_iff_ne.mpr h
   simp only [List.lookup,hb,if_neg h]
 | (k,x)::r=>by
  have ih:=lookup_putF f g v r
  rw [show putF f v ((k,x)::r)=(if k=f then (k,v)::r else (k,x)::putF f v r) from rfl]
  by_cases hk:k=f
  ·rw [if_pos hk]
   by_cases h:g=k
   ·have hb:(g==k)=true:=beq_iff_eq.mpr h
    simp only [List.lookup,hb,if_pos (h.trans hk)]
   ·have hb:(g==k)=false:=beq_eq_false_iff_ne.mpr h
    simp only [List.lookup,hb,if_neg (fun e:g=f=>h (e.trans hk.symm))]
  ·rw [if_neg hk]
   by_cases h:g=k
   ·have hb:(g==k)=true:=beq_iff_eq.mpr h
    simp only [List.lookup,hb,if_neg (fun e:g=f=>hk (h.symm.trans e))]
   ·have hb:(g==k)=false:=beq_eq_false_iff_ne.mpr h
    simp only [List.lookup,hb]
    exact ih
theorem keys_putF (f:Str) (v:V):∀ fs:List (Str×V),f∈(putF f v fs).map (·.1)∧∀ g,g∈fs.map (·.1)→g∈(putF f v fs).map (·.1)
 | []=>⟨by simp [putF],fun g h=>by simp at h⟩
 | (k,x)::r=>by
  obtain ⟨i1,i2⟩:=keys_putF f v r
  rw [show putF f v ((k,x)::r)=(if k=f then (k,v)::r else (k,x)::putF f v r) from rfl]
  by_cases hk:k=f
  ·rw [if_pos hk]
   subst hk
   exact ⟨by simp,fun g h=>by simpa using h⟩
  ·rw [if_neg hk]
   refine ⟨?_,fun g h=>?_⟩
   ·rw [List.map_cons]
    exact List.mem_cons_of_mem _ i1
   ·rw [List.map_cons] at h ⊢
    rcases List.mem_cons.mp h with e | e
    ·exact List.mem_cons.mpr (.inl e)
    ·exact List.mem_cons_of_mem _ (i2 g e)
theorem length_putF (f:Str) (v:V):∀ fs:List (Str×V),(putF f v fs).length≤fs.length + 1
 | []=>by simp [putF]
 | (k,x)::r=>by
  have ih:=length_putF f v r
  rw [show putF f v ((k,x)::r)=(if k=f then (k,v)::r else (k,x)::putF f v r) from rfl]
  by_cases hk:k=f
  ·rw [if_pos hk,List.length_cons,List.length_cons];lia
  ·rw [if_neg hk,List.length_cons,List.length_cons];lia
theorem RelO.some_of {v:V} {o:Option Value} (r:RelO (some v) o):∃ u,o=some u∧RelV v u:=by
 cases o with
 | none=>exact (show False from r).elim
 | some u=>exact ⟨u,rfl,r⟩
theorem RelO.none_of {o:Option Value} (r:RelO none o):o=none:=by
 cases o with
 | none=>rfl
 | some u=>exact (show False from r).elim
theorem handed_of {v:V} {u:Value} (r:RelV v u):PySem.W.handedIn u=true:=by
 cases v with
 | non=>cases (show u=Value.none from r);rfl
 | bl b=>cases (show u=Value.bool b from r);rfl
 | int i=>obtain ⟨t,e⟩:=(show ∃ t,u=Value.int i t from r);cases e;rfl
 | str x=>obtain ⟨t,e⟩:=(show ∃ t,u=Value.str x t from r);cases e;rfl
 | byt b=>obtain ⟨t,e⟩:=(show ∃ t,u=Value.bytes b t from r);cases e;rfl
 | flt b=>obtain ⟨t,e⟩:=(show ∃ t,u=Value.float b t from r);cases e;rfl
 | ref a=>cases (show u=Value.ref a from r);rfl
 | ty n=>cases (show u=Value.type n from r);rfl
section
variable {P:Program} {w:World} {H H':Hp} {h h':Heap} {a C dx:Addr} {fs fs':List (Str×V)}
theorem ins_get (hok:HOk P w H h) (e:H a=some (.ins C dx fs)):∃ mA,ObjM h a dx C mA∧(∀ f,RelO (fs.lookup f) (mA f))∧PySem.Within mA (fs.map (·.1))∧fs.length≤1000∧H dx=some (.own a):=by
 obtain ⟨d,z,ne,ob,mA,n,r,q⟩:=(show ObjOk P w H h a (.ins C dx fs) from hok a _ e)
 exact ⟨mA,⟨ob,n,ne⟩,r,q,z,d⟩
end
structure Cls (K:PySem.W.Frag) (C:Addr):Prop where
 pg:PySem.W.plainGet K C Str.empty=true
 hd:PySem.W.hasDictIn K C=true
 po:PySem.W.plainOver K C=true
 sa:PySem.W.findIn K (.ref C) "__setattr__"=some (some (.builtin "object.__setattr__"))
theorem Cls.get {K:PySem.W.Frag} {C:Addr} (c:Cls K C) (f:Str):PySem.W.plainGet K C f=true:=c.pg
noncomputable def NoAttr (K:PySem.W.Frag) (C:Addr) (f:Str):Prop:=PySem.W.findIn K (.ref C) f=some none
theorem NoAttr.taker {K:PySem.W.Frag} {C:Addr} {f:Str} (n:NoAttr K C f):PySem.W.takerIn K C f=some none:=by
 unfold PySem.W.takerIn
 rw [show PySem.W.findIn K (.ref C) f=some none from n]
 rfl
structure Con (K:PySem.W.Frag) (C:Addr) (f:Str) (v:V) (u:Value):Prop where
 at_:PySem.W.findIn K (.ref C) f=some (some u)
 rel:RelV v u
 get:PySem.W.specialIn K u "__get__"=some none
 cp:PySem.W.copiedNames.contains f=false
structure Meth (K:PySem.W.Frag) (C:Addr) (m:Str) (f:Addr):Prop where
 at_:PySem.W.findIn K (.ref C) m=some (some (.ref f))
 fn:PySem.W.isFn K (.ref f)=true
 kp:PySem.W.keepIn K (.ref f)=true
section
variable {X:Cx} {pins:List (Addr×Obj)} {σ:St} {H:Hp} {s:Shared} {a C dx:Addr} {fs:List (Str×V)} {f:Str} {v:V} {A:Around} {E:Value→Shared→Prop}
theorem getattr_ok {b:Bool} {Q:Value→Shared→Prop} (I:Inv X pins σ H s) (e:H a=some (.ins C dx fs)) (c:Cls X.K C) (n:NoAttr X.K C f) (l:fs.lookup f=some v)
  (h:∀ u s',Inv X pins σ H s'→RelV v u→Q u s'):wpAny (model X.prog X.w) A (getAttr (.ref a) f b) Q E s:=by
 obtain ⟨mA,O,r,_,_,_⟩:=ins_get I.hok e
 obtain ⟨u,hu,ru⟩:=RelO.some_of (v:=v) (o:=mA f) (by rw [←l];exact r f)
 exact get_map I.kIn O (c.get f) c.hd n hu (handed_of ru) (h u _ (I.tok _) ru)
theorem getmeth_ok {m:Str} {g:Addr} {pl:Sem Bool} {Q:Value×List Value→Shared→Prop} (I:Inv X pins σ H s) (e:H a=some (.ins C dx fs)) (c:Cls X.K C) (k:Meth X.K C m g) (l:fs.lookup m=none)
  (h:Q (.ref g,[.ref a]) s):wpAny (model X.prog X.w) A (getMethod (.ref a) m pl) Q E s:=by
 obtain ⟨mA,O,r,_,_,_⟩:=ins_get I.hok e
 have hn:mA m=none:=RelO.none_of (by rw [←l];exact r m)
 exact get_meth I.kIn O (c.get m) k.at_ k.fn hn h
theorem setattr_ok {y:V} {u:Value} {Q:Unit→Shared→Prop} (I:Inv X pins σ H s) (e:H a=some (.ins C dx fs)) (c:Cls X.K C) (n:NoAttr X.K C f) (hl:fs.length < 1000) (ry:RelV y u)
  (h:∀ s',Inv X pins σ (upd H a (.ins C dx (putF f y fs))) s'→Q () s'):wpAny (model X.prog X.w) A (setAttr (.ref a) f u) Q E s:=by
 obtain ⟨mA,O,r,wi,_,ho⟩:=ins_get I.hok e
 have hz:(fs.map (·.1)).length≤sizeLine:=by rw [List.length_map,sizeLine_eq];lia
 refine set_map I.kIn O c.sa c.po n.taker c.hd wi hz fun h' O' sb=>h _ ?_
 have hd:∃ o,h'.get? dx=some o:=let ⟨o,_,_,e',_⟩:=O'.ns;⟨o,e'⟩
 refine I.write (x:=a) (e:=dx) (by rw [e];exact True.intro) (.inr ho) (fun b q hb z=>(sb.2 b hb).trans z) hd ?_
 refine ⟨by rw [upd_ne O.ne];exact ho,?_,O.ne,O'.obj,_,O'.ns,fun g=>?_,fun g hg=>?_⟩
 ·have:=length_putF f y fs;lia
 ·show RelO ((putF f y fs).lookup g) (if g=f then some u else mA g)
  rw [lookup_putF]
  by_cases q:g=f
  ·rw [if_pos q,if_pos q];exact ry
  ·rw [if_neg q,if_neg q];exact r g
 ·by_cases q:g=f
  ·rw [q];exact (keys_putF f y fs).1
  ·refine (keys_putF f y fs).2 g (wi g fun z=>hg ?_)
   show (if g=f then some u else mA g)=none
   rw [if_neg q];exact z
theorem Inv.made (I:Inv X pins σ H s):Inv X pins σ (upd (upd H s.heap.objs.size (.own (s.heap.objs.size + 1))) (s.heap.objs.size + 1) (.ins C s.heap.objs.size []))
  { s with heap:=(s.heap.push PySem.W.emptyDict).push (PySem.W.instObj C s.heap.objs.size) }:=by
 have e1:(s.heap.push PySem.W.emptyDict).get? s.heap.objs.size=some PySem.W.emptyDict:=Heap.get?_push_size s.heap rfl
 have e2:((s.heap.push PySem.W.emptyDict).push (PySem.W.instObj C s.heap.objs.size)).get? (s.heap.objs.size + 1)=some (PySem.W.instObj C s.heap.objs.size):=by
  have:=Heap.get?_push_size (s.heap.push PySem.W.emptyDict) (o:=PySem.W.instObj C s.heap.objs.size) rfl
  rwa [Heap.size_push] at this
 have e3:(s.heap.push PySem.W.emptyDict).Ns s.heap.objs.size (fun _=>none):=⟨PySem.W.emptyDict,#[],_,e1,rfl,(fun e he=>absurd he (by simp)),fun _=>rfl⟩
 have I1:=I.laid (a:=s.heap.objs.size) (o:=.own (s.heap.objs.size + 1)) (h':=s.heap.push PySem.W.emptyDict) (t':=s.toks) (fun b u q=>Heap.get?_push_of_some _ q) (Nat.le_refl _) ⟨_,e1⟩
 refine I1.laid (a:=s.heap.objs.size + 1) (o:=.ins C s.heap.objs.size []) (t':=s.toks) (fun b u q=>Heap.get?_push_of_some _ q) (Nat.le_of_eq (Heap.size_push _ _)) ?_
 have ne:s.heap.objs.size≠s.heap.objs.size + 1:=Nat.ne_of_lt (Nat.lt_succ_self _)
 refine ⟨by rw [upd_ne ne,upd_same],Nat.zero_le _,ne,e2,fun _=>none,(Heap.Ns1.of_empty e3).at fun o q=>Heap.get?_push_of_some _ q,fun _=>True.intro,fun y hy=>absurd rfl hy⟩
theorem attr_of {prog:Program} {w:World} {env:Env} {e:Expr} {f:Str} {pos:Pos} {s:Shared} {Q:Value→Shared→Prop} (hb:attributeBase e f env (eval e env)=eval e env)
  (h:wpAny (model prog w) A (eval e env) (fun o s₁=>wpAny (model prog w) A (getAttr o f true) Q E s₁) E s):wpAny (model prog w) A (eval (.Attribute e f pos) env) Q E s:=
 Attribute_any_ h (by rw [arm_eval_Attribute,hb])
end
noncomputable def tFld (K:PySem.W.Frag) (ta:TE) (f:Str):TE:=fun σ H Q=>ta σ H fun x H1=>∃ a C dx fs v,x=.ref a∧H1 a=some (.ins C dx fs)∧Cls K C∧NoAttr K C f∧fs.lookup f=some v∧Q v H1
noncomputable def sFld (K:PySem.W.Frag) (ta tv:TE) (f:Str):TS:=fun D σ H=>tv σ H fun y H1=>ta σ H1 fun x H2=>∃ a C dx fs,x=.ref a∧H2 a=some (.ins C dx fs)∧Cls K C∧NoAttr K C f∧fs.length < 1000∧
 D.nx σ (upd H2 a (.ins C dx (putF f y fs)))
section
variable {X:Cx} {o e value:Expr} {f:Str} {pos pos' tpos:Pos} {ta tv:TE}
theorem pe_fld (he:PE X e ta) (hb:attributeBase e f X.env (eval e X.env)=eval e X.env):PE X (.Attribute e f pos) (tFld X.K ta f):=by
 intro pins s σ H Q I h
 refine attr_of hb (thn (he pins s σ H _ I h) fun u s1 ⟨x,H1,I1,rx,a,C,dx,fs,v,ex,ea,c,n,l,q⟩=>?_)
 subst ex
 obtain rfl:u=Value.ref a:=rx
 exact getattr_ok I1 ea c n l fun u' s2 I2 ru=>⟨v,H1,I2,ru,q⟩
theorem ps_fld (ha:PE X o ta) (hv:PE X value tv) (hs:swapsWith value (some (.Attribute o f pos')) pos.line X.env=pure false):PS X (.Assign [.Attribute o f pos'] value pos) (sFld X.K ta tv f):=by
 intro pins s σ H D I h
 refine plainObj_wpAny_Assign_Attribute (thn (hv pins s σ H _ I h) fun u s1 ⟨y,H1,I1,ry,q⟩=>thn (ha pins s1 σ H1 _ I1 q) fun ov s2 ⟨x,H2,I2,rx,a,C,dx,fs,ex,ea,c,n,l,q2⟩=>?_) hs
 subst ex
 obtain rfl:ov=Value.ref a:=rx
 exact setattr_ok I2 ea c n l ry fun s3 I3=>⟨σ,_,I3,q2⟩
end
section
variable {X:Cx} {pins:List (Addr×Obj)} {σ:St} {H:Hp} {s:Shared} {A:Around} {E:Value→Shared→Prop} {Q:Value→Shared→Prop} {c:Value} {b:Bool}
inductive TyOf (K:PySem.W.Frag) (H:Hp):V→Value→Prop where
 | non:TyOf K H .non (.type "NoneType")
 | bl (x:Bool):TyOf K H (.bl x) (.type "bool")
 | int (i:Int):TyOf K H (.int i) (.type "int")
 | str (x:Str):TyOf K H (.str x) (.type "str")
 | flt (x:UInt64):TyOf K H (.flt x) (.type "float")
 | lst {a:Addr} {xs:List V} (e:H a=some (.lst xs)):TyOf K H (.ref a) (.type "list")
 | frz {a:Addr} {o:Obj} {xs:List V} (e:H a=some (.frz o (.lst xs))):TyOf K H (.ref a) (.type "list")
 | tup {a:Addr} {xs:List V} (e:H a=some (.tup xs)):TyOf K H (.ref a) (.type "tuple")
 | dK {a:Addr} {kvs:List (Key×V)} (e:H a=some (.dK kvs)):TyOf K H (.ref a) (.type "dict")
 | dT {a:Addr} {kvs:List (List Key×V)} (e:H a=some (.dT kvs)):TyOf K H (.ref a) (.type "dict")
 | ins {a C dx:Addr} {fs:List (Str×V)} (e:H a=some (.ins C dx fs)) (cl:Cls K C) (ha:PySem.W.findIn K (.ref C) "__class__"=some (some (.builtin "object.__class__")))
   (hn:PySem.W.specialIn K (.builtin "object.__class__") "__get__"=some (some (.builtin "getset_descriptor.__get__"))) (htk:PySem.W.takesIn K (.builtin "object.__class__")=some true)
   (hm:PySem.W.mroIn K C (.type "object")=some true):TyOf K H (.ref a) (.ref C)
theorem isinst_ok {x:V} {u t:Value} (I:Inv X pins σ H s) (rx:RelV x u) (ty:TyOf X.K H x t) (e:PySem.W.kitOne X.K t c=some b) (h:∀ tk,Q (.bool b) { s with toks:=tk }):
  wpAny (model X.prog X.w) A (call (.builtin "isinstance") [u,c]) Q E s:=by
 cases ty with
 | non=>cases (show u=Value.none from rx);exact PySem.W.kia_one PySem.W.kitx_none I.kIn True.intro e (fun z=>nomatch z) h
 | bl y=>cases (show u=Value.bool y from rx);exact PySem.W.kia_one PySem.W.kitx_bool I.kIn True.intro e (fun z=>nomatch z) h
 | int i=>obtain ⟨t,q⟩:=(show ∃ t,u=Value.int i t from rx);cases q;exact PySem.W.kia_one PySem.W.kitx_int I.kIn True.intro e (fun z=>nomatch z) h
 | str y=>obtain ⟨t,q⟩:=(show ∃ t,u=Value.str y t from rx);cases q;exact PySem.W.kia_one PySem.W.kitx_str I.kIn True.intro e (fun z=>nomatch z) h
 | flt y=>obtain ⟨t,q⟩:=(show ∃ t,u=Value.float y t from rx);cases q;exact PySem.W.kia_one PySem.W.kitx_float I.kIn True.intro e (fun z=>nomatch z) h
 | @lst a xs ea=>
  cases (show u=Value.ref a from rx)
  obtain ⟨_,_,n,_,h1⟩:=(show ObjOk X.prog X.w H s.heap a (.lst xs) from I.hok a _ ea)
  exact PySem.W.kia_one PySem.W.kitx_list I.kIn ⟨_,h1,rfl⟩ e (fun z=>nomatch z) h
 | @frz a ob xs ea=>
  cases (show u=Value.ref a from rx)
  obtain ⟨_,_,_,n,_,h1⟩:=(show ObjOk X.prog X.w H s.heap a (.frz ob (.lst xs)) from I.hok a _ ea)
  exact PySem.W.kia_one PySem.W.kitx_list I.kIn ⟨_,h1,rfl⟩ e (fun z=>nomatch z) h
 | @tup a xs ea=>
  cases (show u=Value.ref a from rx)
  obtain ⟨_,_,_,p⟩:=(show ObjOk X.prog X.w H s.heap a (.tup xs) from I.hok a _ ea)
  obtain ⟨o,h1,h2,_⟩:=p.1
  exact PySem.W.kia_one PySem.W.kitx_tuple I.kIn ⟨o,h1,h2⟩ e (fun z=>nomatch z) h
 | @dK a kvs ea=>
  cases (show u=Value.ref a from rx)
  obtain ⟨_,_,vs,_,p⟩:=(show ObjOk X.prog X.w H s.heap a (.dK kvs) from I.hok a _ ea)
  obtain ⟨o,es,ep,h1,h2,_⟩:=p
  exact PySem.W.kia_one PySem.W.kitx_dict I.kIn ⟨o,h1,h2.1⟩ e (fun z=>nomatch z) h
 | @dT a kvs ea=>
  cases (show u=Value.ref a from rx)
  obtain ⟨_,_,xs,_,o,es,ep,h1,h2,_⟩:=(show ObjOk X.prog X.w H s.heap a (.dT kvs) from I.hok a _ ea)
  exact PySem.W.kia_one PySem.W.kitx_dict I.kIn ⟨o,h1,h2.1⟩ e (fun z=>nomatch z) h
 | @ins a C dx fs ea cl ha hn htk hm=>
  cases (show u=Value.ref a from rx)
  obtain ⟨mA,O,_⟩:=ins_get I.hok ea
  obtain ⟨od,J,_⟩:=O.look
  exact PySem.W.kia_one (PySem.W.kitx_own (cl.get _) cl.hd ha hn htk hm) I.kIn J e (fun z=>nomatch z) h
end
end L2
namespace L2
open PySem PySem.Spec PyProof.Rows
structure Room (k:Nat) (A:Around):Prop where
 hd:A.handled=none
 dp:A.depth + 3 * k + 5 < recursionLimit
 un:A.units + 16 * k + 200 < cLine
theorem Room.mono {j k:Nat} {A:Around} (r:Room k A) (h:j≤k):Room j A:=⟨r.hd,by have:=r.dp;lia,by have:=r.un;lia⟩
theorem Room.deeper {k:Nat} {A:Around} (r:Room (k + 1) A) (env:Env):Room k (A.deeper env):=
 ⟨r.hd,by have:=r.dp;show A.depth + 1 + 3 * k + 5 < _;lia,by have:=r.un;show A.units + 3 + 16 * k + 200 < _;lia⟩
theorem Room.in1 {k:Nat} {A:Around} (r:Room (k + 1) A):Room k A.in1:=
 ⟨r.hd,by have:=r.dp;show A.depth + 3 * k + 5 < _;lia,by have:=r.un;show A.units + 1 + 16 * k + 200 < _;lia⟩
theorem make_depth {A:Around} {C:Addr} {us:List Value} {kw:List (Str×Value)}:(A.under (.builtin "type.__call__" ⟨.ref C::us,kw⟩)).depth=A.depth + 1:=by
 first | rfl | simp [Around.under,Code.weight,Code.isCreation,Code.isGuard,Code.isCaller,Code.frames,Code.isFrame,guardIds]
theorem make_units {A:Around} {C:Addr} {us:List Value} {kw:List (Str×Value)}:(A.under (.builtin "type.__call__" ⟨.ref C::us,kw⟩)).units=A.units + 1:=by
 first | rfl | simp [Around.under,Code.cUnits,Code.frames,Code.isFrame]
theorem Room.make {k:Nat} {A:Around} (r:Room (k + 1) A) (C:Addr) (us:List Value) (kw:List (Str×Value)):Room k (A.under (.builtin "type.__call__" ⟨.ref C::us,kw⟩)):=
 ⟨r.hd,by have:=r.dp;rw [make_depth];lia,by have:=r.un;rw [make_units];lia⟩
theorem Room.depth {k:Nat} {A:Around} (r:Room k A):A.depth < recursionLimit:=by have:=r.dp;lia
theorem Room.units {k:Nat} {A:Around} (r:Room k A):A.units + 64 < cLine:=by have:=r.un;lia
theorem Room.units0 {k:Nat} {A:Around} (r:Room k A):A.units < cLine:=by have:=r.un;lia
noncomputable def tNil:TA:=fun _ H Q=>Q [] H
noncomputable def tCons (ta:TE) (tr:TA):TA:=fun σ H Q=>ta σ H fun x H1=>tr σ H1 fun xs H2=>Q (x::xs) H2
section
variable {X:Cx} {e:Expr} {es:List Expr} {te:TE} {t:TA} {pos:Pos}
theorem pa_nil:PA X [] tNil:=fun _ _ _ _ H Q I h=>Calls.spliced_nil ⟨[],H,I,.nil,h⟩
theorem pa_cons (ha:PE X e te) (hr:PA X es t) (hs:starEach (e::es) X.env=(false,eval e X.env)::starEach es X.env:=by rfl):PA X (e::es) (tCons te t):=by
 intro pos pins s σ H Q I h
 rw [hs]
 show wpAny _ _ (spliced ((false,eval e X.env)::backTo pos (starEach es X.env))) _ _ s
 refine Calls.spliced_cons (thn (ha pins s σ H _ I h) fun u s1 ⟨x,H1,I1,r1,q1⟩=>?_)
 exact thn (hr pos pins s1 σ H1 _ I1 q1) fun us s2 ⟨xs,H2,I2,r2,q2⟩=>⟨x::xs,H2,I2,.cons r1 r2,q2⟩
noncomputable def tTup (t:TA):TE:=fun σ H Q=>t σ H fun xs H1=>xs.length≤sizeLine∧∀ p,H1 p=none→Q (.ref p) (upd H1 p (.tup xs))
noncomputable def tLst (t:TA):TE:=fun σ H Q=>t σ H fun xs H1=>xs.length≤sizeLine∧∀ p,H1 p=none→Q (.ref p) (upd H1 p (.lst xs))
theorem pe_tup {x1} (h:PA X es t):PE X (.Tuple es x1 pos) (tTup t):=by
 intro pins s σ H Q I hq
 refine wpAny_Tuple_spliced (thn (h pos pins s σ H _ I hq) fun us s1 ⟨xs,H1,I1,r,z,q⟩=>⟨by rw [←r.length];exact z,?_⟩)
 have hf:H1 s1.heap.objs.size=none:=I1.hok.fresh (Nat.le_refl _)
 refine ⟨.ref s1.heap.objs.size,upd H1 s1.heap.objs.size (.tup xs),I1.laid (t':=s1.toks) (fun b u e=>Heap.get?_push_of_some _ e) (Nat.le_refl _) ?_,rfl,q _ hf⟩
 exact ⟨z,us,r,⟨_,Heap.get?_push_size _ rfl,rfl,_,rfl⟩,_,Heap.get?_push_size _ rfl,rfl⟩
theorem pe_lst (h:PA X es t):PE X (.List es pos) (tLst t):=by
 intro pins s σ H Q I hq
 refine wpAny_List_spliced (thn (h pos pins s σ H _ I hq) fun us s1 ⟨xs,H1,I1,r,z,q⟩=>⟨by rw [←r.length];exact z,?_⟩)
 have hf:H1 s1.heap.objs.size=none:=I1.hok.fresh (Nat.le_refl _)
 refine ⟨.ref s1.heap.objs.size,upd H1 s1.heap.objs.size (.lst xs),I1.laid (t':=s1.toks) (fun b u e=>Heap.get?_push_of_some _ e) (Nat.le_refl _) ?_,rfl,q _ hf⟩
 exact ⟨z,us,0,r,Heap.get?_push_size _ rfl⟩
end
noncomputable abbrev Sp:=List V→Hp→VK→XK→Prop
noncomputable abbrev CXT:=List Env→Hp→Shared→XK→Value→Shared→Prop
structure Env0 (P:Program) (w:World) (K:PySem.W.Frag) (mg:Str→Option Value) (base:Heap) (A:Around) (outer:List Env) (s:Shared) (H:Hp):Prop where
 frames:A.frames=some outer
 mod:Mod K mg base
 bs:∀ b o,base.get? b=some o→s.heap.get? b=some o∧H b=none
 bsz:base.objs.size≤s.heap.objs.size
 funs:s.heap.FunFrames base outer
 frf:∀ b∈frs outer,H b=none
 hok:HOk P w H s.heap
 bare:AllBare s.gens
noncomputable def CE (outer:List Env) (P:Program) (w:World) (H:Hp) (s:Shared) (Q:VK) (u:Value) (s':Shared):Prop:=
 ∃ v H',s'.os=s.os∧AllBare s'.gens∧Un (frs outer) [] H H' s.heap s'.heap∧HOk P w H' s'.heap∧RelV v u∧Q v H'
noncomputable def CR (CX:CXT) (outer:List Env) (P:Program) (w:World) (H:Hp) (s:Shared) (Q:VK) (E:XK) (r:Result) (s':Shared):Prop:=
 match r with
 | .ok (.ret u)=>CE outer P w H s Q u s'
 | .ok _=>False
 | .error e=>CX outer H s E e s'
structure FnOk (P:Program) (w:World) (K:PySem.W.Frag) (mg:Str→Option Value) (base:Heap) (CX:CXT) (k:Nat) (f:Addr) (fd:FuncData) (ps:List Str) (sp:Sp):Prop where
 len:∀ vs H Q E,sp vs H Q E→vs.length=ps.length
 run:∀ (A:Around) (outer:List Env) (s:Shared) (H:Hp) (args:Args) (us:List Value) (vs:List V) (Q:VK) (E:XK),Room k A→Env0 P w K mg base A outer s H→BindsTo s fd args (ps.zip us)→Vals vs us→sp vs H Q E→
  codeAny (model P w) A (.call (.ref f) args) (CR CX outer P w H s Q E) s
theorem FnOk.mono {P:Program} {w:World} {K:PySem.W.Frag} {mg:Str→Option Value} {base:Heap} {CX:CXT} {j k:Nat} {f:Addr} {fd:FuncData} {ps:List Str} {sp:Sp} (F:FnOk P w K mg base CX j f fd ps sp) (h:j≤k):
  FnOk P w K mg base CX k f fd ps sp:=⟨F.len,fun A outer s H args us vs Q E hr=>F.run A outer s H args us vs Q E (hr.mono h)⟩
theorem FnOk.imp {P:Program} {w:World} {K:PySem.W.Frag} {mg:Str→Option Value} {base:Heap} {CX:CXT} {k:Nat} {f:Addr} {fd:FuncData} {ps:List Str} {sp sp':Sp} (F:FnOk P w K mg base CX k f fd ps sp)
  (h:∀ vs H Q E,sp' vs H Q E→sp vs H Q E):FnOk P w K mg base CX k f fd ps sp':=
 ⟨fun vs H Q E q=>F.len vs H Q E (h _ _ _ _ q),fun A outer s H args us vs Q E hr he hb hv hs=>F.run A outer s H args us vs Q E hr he hb hv (h _ _ _ _ hs)⟩
theorem Env0.make {P:Program} {w:World} {K:PySem.W.Frag} {mg:Str→Option Value} {base:Heap} {A:Around} {outer:List Env} {s:Shared} {H:Hp} (e:Env0 P w K mg base A outer s H) (C:Addr) (us:List Value) (kw:List (Str×Value)):
  Env0 P w K mg base (A.under (.builtin "type.__call__" ⟨.ref C::us,kw⟩)) outer s H:=⟨by first | exact e.frames | (simpa [Around.under,Code.envs,Code.isFrame,pushEnvs] using e.frames),e.mod,e.bs,e.bsz,e.funs,e.frf,e.hok,e.bare⟩
theorem Env0.in1 {P:Program} {w:World} {K:PySem.W.Frag} {mg:Str→Option Value} {base:Heap} {A:Around} {outer:List Env} {s:Shared} {H:Hp} (e:Env0 P w K mg base A outer s H):
  Env0 P w K mg base A.in1 outer s H:=⟨e.frames,e.mod,e.bs,e.bsz,e.funs,e.frf,e.hok,e.bare⟩
section
variable {X:Cx} {pins:List (Addr×Obj)} {σ:St} {H:Hp} {s s':Shared}
theorem Inv.env0 (I:Inv X pins σ H s):Env0 X.prog X.w X.K X.mg X.base X.A X.stack s H:=
 ⟨I.ok.frames,I.ok.mod,I.bs,Nat.le_trans I.ok.bsz I.sz,I.stack,I.stkFree,I.hok,I.bare⟩
theorem Inv.after {Q:VK} {u:Value} (I:Inv X pins σ H s) (h:CE X.stack X.prog X.w H s Q u s'):EP X pins σ Q u s':=by
 obtain ⟨v,H',os,bare,un,hok,r,q⟩:=h
 obtain ⟨hh,g,d,t,os'⟩:=s'
 obtain rfl:os'=s.os:=os
 exact ⟨v,H',I.call (h':=hh) (g':=g) (d':=d) (t':=t) (ch:=[]) un hok bare (fun b z=>absurd z (by simp)),r,q⟩
end
noncomputable def tCall (sp:Sp) (dvs:List V) (E:XK) (t:TA):TE:=fun σ H Q=>t σ H fun vs H1=>sp (vs++dvs) H1 Q E
noncomputable def tMeth (C:Addr) (m:Str) (sp:Sp) (dvs:List V) (E:XK) (ta:TE) (t:TA):TE:=fun σ H Q=>ta σ H fun x H1=>∃ a dx fs,x=.ref a∧H1 a=some (.ins C dx fs)∧fs.lookup m=none∧
 t σ H1 fun vs H2=>sp (x::(vs++dvs)) H2 Q E
noncomputable def tMake (C:Addr) (sp:Sp) (dvs:List V) (E:XK) (t:TA):TE:=fun σ H Q=>t σ H fun vs H1=>∀ x dx,H1 x=none→H1 dx=none→dx≠x→
 sp (.ref x::(vs++dvs)) (upd (upd H1 dx (.own x)) x (.ins C dx [])) (fun v H2=>v=.non∧Q (.ref x) H2) E
noncomputable def Binds (K:PySem.W.Frag) (fd:FuncData) (ps:List Str) (ds:List Value):Prop:=
 ∀ (s:Shared) (us:List Value),K.In s.heap→(us++ds).length=ps.length→BindsTo s fd ⟨us,[]⟩ (ps.zip (us++ds))
theorem Binds.all {K:PySem.W.Frag} {fd:FuncData} {ps:List Str} (h:∀ us:List Value,us.length=ps.length→bindArgs fd ⟨us,[]⟩=pure (ps.zip us)):Binds K fd ps []:=fun s us _ hl=>by
 rw [List.append_nil] at hl ⊢
 exact .of_eq (h us hl)
noncomputable def Passes (CX:CXT) (X:Cx) (E:XK):Prop:=∀ (pins:List (Addr×Obj)) (σ:St) (H:Hp) (s:Shared) (e:Value) (s':Shared),Inv X pins σ H s→CX X.stack H s E e s'→X.xe e s'
section
variable {X:Cx} {CX:CXT} {k:Nat} {f C:Addr} {fd:FuncData} {ps:List Str} {sp:Sp} {dvs:List V} {ds:List Value} {E:XK} {x m:Str} {p pos apos:Pos} {e o:Expr} {es:List Expr} {ta:TE} {t:TA}
theorem run_fn {pins:List (Addr×Obj)} {σ:St} {H:Hp} {s:Shared} {Q:VK} {us:List Value} {vs:List V} (F:FnOk X.prog X.w X.K X.mg X.base CX k f fd ps sp) (hr:Room k X.A) (hb:Binds X.K fd ps ds) (hd:Vals dvs ds) (hx:Passes CX X E)
  (I:Inv X pins σ H s) (r:Vals vs us) (h:sp (vs++dvs) H Q E):wpAny (model X.prog X.w) X.A (call (.ref f) us) (EP X pins σ Q) X.xe s:=by
 have r2:Vals (vs++dvs) (us++ds):=r.append hd
 have hl:(us++ds).length=ps.length:=by rw [←r2.length];exact F.len _ _ _ _ h
 refine wpAny_call (codeAny_mono (F.run X.A X.stack s H ⟨us,[]⟩ (us++ds) (vs++dvs) Q E hr I.env0 (hb s us I.kIn hl) r2 h) fun r s' hq=>?_)
 cases r with
 | error e=>exact hx pins σ H s e s' I hq
 | ok fl=>
  cases fl with
  | ret u=>exact I.after hq
  | next=>exact False.elim hq
  | brk=>exact False.elim hq
  | cont=>exact False.elim hq
theorem pe_call (F:FnOk X.prog X.w X.K X.mg X.base CX k f fd ps sp) (hr:Room k X.A) (hg:Gl X x) (hm:X.mg x=some (.ref f)) (hk:PySem.W.keepIn X.K (.ref f)=true) (hb:Binds X.K fd ps ds) (hd:Vals dvs ds) (hx:Passes CX X E)
  (ha:PA X (e::es) t) (hdb:(x==("__debug__":Str))=false:=by decide) (he:starEach (e::es) X.env=(false,eval e X.env)::starEach es X.env:=by rfl) (hpl:(backTo pos (starEach es X.env)).any (·.1)=false:=by rfl):
  PE X (.Call (.Name x p) (e::es) [] pos) (tCall sp dvs E t):=by
 intro pins s σ H Q I h
 refine wpAny_Call_Name_kw (ld_glob I hg hm ?_ hdb)
 refine PySem.W.callWith_K (h₀:=X.base) I.ok.mod.kin hk (thn (ha pos pins s σ H _ I h) fun us s1 ⟨vs,H1,I1,r,q⟩=>⟨I1.kIn,?_⟩) he hpl
 exact run_fn F hr hb hd hx I1 r q
theorem pe_meth {pl:Sem Bool} (he:PE X o ta) (c:Cls X.K C) (hm:Meth X.K C m f) (F:FnOk X.prog X.w X.K X.mg X.base CX k f fd ps sp) (hr:Room k X.A) (hb:Binds X.K fd ps ds) (hd:Vals dvs ds) (hx:Passes CX X E) (ha:PA X (e::es) t)
  (hst:starEach (e::es) X.env=(false,eval e X.env)::starEach es X.env:=by rfl) (hpl:(backTo pos (starEach es X.env)).any (·.1)=false:=by rfl)
  (ht:eval (.Call (.Attribute o m apos) (e::es) [] pos) X.env=(do
   let ov ←eval o X.env
   standAt apos.atName
   let (f,first) ←holding [ov] (getMethod ov m pl)
   callWith pos f first (backTo pos (starEach (e::es) X.env)) (backToKw pos (keywordEach [] X.env))):=by rfl):
  PE X (.Call (.Attribute o m apos) (e::es) [] pos) (tMeth C m sp dvs E ta t):=by
 intro pins s σ H Q I h
 refine PySem.W.methodCall_KW (pl:=pl) (thn (he pins s σ H _ I h) fun u s1 ⟨x,H1,I1,rx,a,dx,fs,ex,ea,l,q⟩=>?_) ht
 subst ex
 obtain rfl:u=Value.ref a:=rx
 refine getmeth_ok I1 ea c hm l ?_
 refine PySem.W.callWith_K (first:=[.ref a]) (h₀:=X.base) I.ok.mod.kin hm.kp (thn (ha pos pins s1 σ H1 _ I1 q) fun us s2 ⟨vs,H2,I2,r,q2⟩=>⟨I2.kIn,?_⟩) hst hpl
 exact run_fn (us:=.ref a::us) (vs:=.ref a::vs) F hr hb hd hx I2 (.cons rfl r) q2
theorem pe_meth0 {pl:Sem Bool} (he:PE X o ta) (c:Cls X.K C) (hm:Meth X.K C m f) (F:FnOk X.prog X.w X.K X.mg X.base CX k f fd ps sp) (hr:Room k X.A) (hb:Binds X.K fd ps ds) (hd:Vals dvs ds) (hx:Passes CX X E)
  (ht:eval (.Call (.Attribute o m apos) [] [] pos) X.env=(do
   let ov ←eval o X.env
   standAt apos.atName
   let (f,first) ←holding [ov] (getMethod ov m pl)
   callWith pos f first (backTo pos (starEach [] X.env)) (backToKw pos (keywordEach [] X.env))):=by rfl):
  PE X (.Call (.Attribute o m apos) [] [] pos) (tMeth C m sp dvs E ta tNil):=by
 intro pins s σ H Q I h
 refine PySem.W.methodCall_KW (pl:=pl) (thn (he pins s σ H _ I h) fun u s1 ⟨x,H1,I1,rx,a,dx,fs,ex,ea,l,q⟩=>?_) ht
 subst ex
 obtain rfl:u=Value.ref a:=rx
 refine getmeth_ok I1 ea c hm l ?_
 exact PySem.W.callWith_K0 (first:=[.ref a]) I1.kIn hm.kp (run_fn (us:=[.ref a]) (vs:=[.ref a]) F hr hb hd hx I1 (.cons rfl .nil) q)
structure Mk (K:PySem.W.Frag) (C f:Addr):Prop where
 makes:PySem.W.makesIn K C=true
 init:PySem.W.findIn K (.ref C) "__init__"=some (some (.ref f))
 fn:PySem.W.isFn K (.ref f)=true
 kp:PySem.W.keepIn K (.ref C)=true
theorem run_make {pins:List (Addr×Obj)} {σ:St} {H:Hp} {s:Shared} {Q:VK} {us:List Value} {vs:List V} (M:Mk X.K C f) (F:FnOk X.prog X.w X.K X.mg X.base CX k f fd ps sp) (hr:Room (k + 1) X.A) (hb:Binds X.K fd ps ds) (hd:Vals dvs ds)
  (hx:Passes CX X E) (I:Inv X pins σ H s) (r:Vals vs us)
  (h:∀ x dx,H x=none→H dx=none→dx≠x→sp (.ref x::(vs++dvs)) (upd (upd H dx (.own x)) x (.ins C dx [])) (fun v H2=>v=.non∧Q (.ref x) H2) E):
  wpAny (model X.prog X.w) X.A (call (.ref C) us) (EP X pins σ Q) X.xe s:=by
 have hq:=h (s.heap.objs.size + 1) s.heap.objs.size (I.hok.fresh (Nat.le_succ _)) (I.hok.fresh (Nat.le_refl _)) (Nat.ne_of_lt (Nat.lt_succ_self _))
 have I2:=Inv.made (C:=C) I
 have r2:Vals (V.ref (s.heap.objs.size + 1)::(vs++dvs)) (Value.ref (s.heap.objs.size + 1)::(us++ds)):=.cons rfl (r.append hd)
 have hl:(Value.ref (s.heap.objs.size + 1)::us++ds).length=ps.length:=by
  have e:=r2.length
  rw [F.len _ _ _ _ hq] at e
  exact e.symm
 refine wpAny_call (make_map (f:=f) I.kIn M.makes M.init (beq_iff_eq.mp M.fn) (codeAny_mono (F.run _ X.stack _ _ ⟨Value.ref (s.heap.objs.size + 1)::us,[]⟩ (Value.ref (s.heap.objs.size + 1)::(us++ds)) _ _ E (hr.make C us [])
  (I2.env0.make C us []) (hb _ (Value.ref (s.heap.objs.size + 1)::us) I2.kIn hl) r2 hq) fun r s' hq'=>?_))
 cases r with
 | error e=>exact hx pins σ _ _ e s' I2 hq'
 | ok fl=>
  cases fl with
  | ret u=>
   obtain ⟨v,H',I3,rv,ev,q3⟩:=I2.after hq'
   subst ev
   exact ⟨rv,⟨V.ref (s.heap.objs.size + 1),H',I3,rfl,q3⟩⟩
  | next=>exact False.elim hq'
  | brk=>exact False.elim hq'
  | cont=>exact False.elim hq'
theorem pe_make0 (M:Mk X.K C f) (F:FnOk X.prog X.w X.K X.mg X.base CX k f fd ps sp) (hr:Room (k + 1) X.A) (hg:Gl X x) (hm:X.mg x=some (.ref C)) (hb:Binds X.K fd ps ds) (hd:Vals dvs ds) (hx:Passes CX X E)
  (hdb:(x==("__debug__":Str))=false:=by decide):PE X (.Call (.Name x p) [] [] pos) (tMake C sp dvs E tNil):=by
 intro pins s σ H Q I h
 refine wpAny_Call_Name_kw (ld_glob I hg hm ?_ hdb)
 exact PySem.W.callWith_K0 I.kIn M.kp (run_make (us:=[]) M F hr hb hd hx I .nil h)
end
section
variable {X:Cx} {CX:CXT} {k:Nat} {f C:Addr} {fd:FuncData} {ps ks:List Str} {sp:Sp} {E:XK} {x m:Str} {p pos apos kpos:Pos} {e o:Expr} {es:List Expr} {kws:List Keyword} {te ta:TE} {t tk:TA} {nm:Option Str}
structure KBinds (K:PySem.W.Frag) (fd:FuncData) (ps ks:List Str) (g:List Value→List Value→List Value) (gV:List V→List V→List V):Prop where
 to:∀ (s:Shared) (us ws:List Value),K.In s.heap→(g us ws).length=ps.length→BindsTo s fd ⟨us,ks.zip ws⟩ (ps.zip (g us ws))
 rel:∀ {vs:List V} {us:List Value} {zs:List V} {ws:List Value},Vals vs us→Vals zs ws→Vals (gV vs zs) (g us ws)
variable {g:List Value→List Value→List Value} {gV:List V→List V→List V}
end
structure FnScope (N P:List Str) (sc:Scope):Prop where
 kind:sc.kind=.function
 co:sc.isCoroutine=false
 gen:sc.isGenerator=false
 nd:N.Nodup
 pre:N.take P.length=P
 par:∀ x∈P,sc.names.lookup x=some .local∨sc.names.lookup x=some .cell
 nofree:∀ y∈sc.names,y.2≠.free
theorem bindL_out {kindOf:Str→Option NameKind} {x:Str}:∀ {binds:List (Str×Value)} {m:Str→Option Value},(∀ v,(x,v)∉binds)→bindL kindOf binds m x=m x
 | [],_,_=>rfl
 | (n,v)::r,m,h=>by
  unfold bindL
  rw [bindL_out fun w hw=>h w (List.mem_cons_of_mem _ hw)]
  split
  ·have:x≠n:=by rintro rfl;exact h v List.mem_cons_self
   simp [this]
  ·rfl
theorem bindC_out {kindOf:Str→Option NameKind} {x:Str}:∀ {binds:List (Str×Value)} {m:Str→Option Value},(∀ v,(x,v)∉binds)→bindC kindOf binds m x=m x
 | [],_,_=>rfl
 | (n,v)::r,m,h=>by
  unfold bindC
  rw [bindC_out fun w hw=>h w (List.mem_cons_of_mem _ hw)]
  split
  ·rfl
  ·have:x≠n:=by rintro rfl;exact h v List.mem_cons_self
   simp [this]
theorem bindL_get {kindOf:Str→Option NameKind} {x:Str} {v:Value}:∀ {P:List Str} {vs:List Value} {i:Nat} {m:Str→Option Value},P.Nodup→P[i]? =some x→vs[i]? =some v→kindOf x=some .local→
  bindL kindOf (P.zip vs) m x=some v
 | [],_,_,_,_,h,_,_=>by simp at h
 | _::_,[],_,_,_,_,h,_=>by simp at h
 | p::P,w::vs,0,m,nd,h1,h2,hk=>by
  simp at h1 h2;subst h1;subst h2
  show bindL kindOf ((p,w)::P.zip vs) m p=_
  unfold bindL
  rw [bindL_out fun v hv=>(List.nodup_cons.mp nd).1 (List.of_mem_zip hv).1,if_pos hk]
  simp
 | p::P,w::vs,i + 1,m,nd,h1,h2,hk=>by
  show bindL kindOf ((p,w)::P.zip vs) m x=_
  unfold bindL
  exact bindL_get (i:=i) (List.nodup_cons.mp nd).2 (by simpa using h1) (by simpa using h2) hk
theorem bindC_get {kindOf:Str→Option NameKind} {x:Str} {v:Value}:∀ {P:List Str} {vs:List Value} {i:Nat} {m:Str→Option Value},P.Nodup→P[i]? =some x→vs[i]? =some v→kindOf x≠some .local→
  bindC kindOf (P.zip vs) m x=some v
 | [],_,_,_,_,h,_,_=>by simp at h
 | _::_,[],_,_,_,_,h,_=>by simp at h
 | p::P,w::vs,0,m,nd,h1,h2,hk=>by
  simp at h1 h2;subst h1;subst h2
  show bindC kindOf ((p,w)::P.zip vs) m p=_
  unfold bindC
  rw [bindC_out fun v hv=>(List.nodup_cons.mp nd).1 (List.of_mem_zip hv).1,if_neg hk]
  simp
 | p::P,w::vs,i + 1,m,nd,h1,h2,hk=>by
  show bindC kindOf ((p,w)::P.zip vs) m x=_
  unfold bindC
  exact bindC_get (i:=i) (List.nodup_cons.mp nd).2 (by simpa using h1) (by simpa using h2) hk
noncomputable def start (N:List Str) (vs:List V):St:=vs.map some++List.replicate (N.length - vs.length) none
noncomputable def cxOf (CX:CXT) (P:Program) (w:World) (K:PySem.W.Frag) (mg:Str→Option Value) (base:Heap) (N:List Str) (qual:Str) (scope:Scope) (f:Addr) (cd:Value) (A:Around) (outer:List Env) (s:Shared) (H:Hp) (E:XK):Cx where
 prog:=P
 w:=w
 K:=K
 mg:=mg
 base:=base
 A:=A.deeper (envOfC qual scope s.heap.objs.size f cd)
 N:=N
 s₀:=s
 H₀:=H
 env:=envOfC qual scope s.heap.objs.size f cd
 outer:=outer
 stack:=envOfC qual scope s.heap.objs.size f cd::outer
 ex:=[]
 calm:=true
 fn:=fun _=>true
 pn:=[]
 xe:=fun e s'=>wpAny (model P w) (A.deeper (envOfC qual scope s.heap.objs.size f cd)) (leaving (envOfC qual scope s.heap.objs.size f cd) e) (fun _ s''=>CX outer H s E e s'') (fun e' s''=>CX outer H s E e' s'') s'
theorem cell_has {sc:Scope} {n:Nat} {x:Str} (h:sc.names.lookup x=some .cell):∃ c,(cellsFrom n sc.names []).lookup x=some c:=by
 have q:=PySem.W.cellsFrom_some sc.names n [] (.inl h)
 exact Option.isSome_iff_exists.mp q
theorem inv_start {CX:CXT} {P:Program} {w:World} {K:PySem.W.Frag} {mg:Str→Option Value} {base:Heap} {N ps:List Str} {qual:Str} {scope:Scope} {f:Addr} {cd:Value} {A:Around} {outer:List Env} {s s1:Shared} {H:Hp} {E:XK} {us:List Value} {vs:List V}
  (S:FnScope N ps scope) (hd:A.handled=none) (e0:Env0 P w K mg base A outer s H) (hl:vs.length=ps.length) (r:Vals vs us)
  (x:InCallC s s.heap.objs.size (bindL (envOfC qual scope s.heap.objs.size f cd).kindOf (ps.zip us) fun _=>none) (cellsFrom (s.heap.objs.size + 1) scope.names []) (bindC (envOfC qual scope s.heap.objs.size f cd).kindOf (ps.zip us) fun _=>none) s1):
  Inv (cxOf CX P w K mg base N qual scope f cd A outer s H E) [] (start N vs) H s1:=by
 have hpl:ps.length≤N.length:=by have:=congrArg List.length S.pre;rw [List.length_take] at this;lia
 obtain ⟨h1,tk,rfl,hk⟩:=x.done
 have noA:∀ b:Addr,b∉(cxOf CX P w K mg base N qual scope f cd A outer s H E).ex:=fun b z=>absurd (show b∈([]:List Addr) from z) (by simp)
 refine ⟨⟨e0.mod,S.kind,rfl,rfl,Nat.le_refl _,fun y z c h1 h2=>?_,fun y hy=>?_,fun y c _ h=>?_,fun _=>hd,Around.frames_deeper e0.frames,.inr ⟨rfl,rfl⟩,fun b z=>absurd z (noA b),e0.bs,e0.bsz,fun b _ _=>noA b,fun b z=>absurd z (noA b),e0.funs,e0.frf⟩,
  rfl,e0.bare,Un.kept hk,⟨_,x.toInCall.ns,fun i y v h1 h2 h3=>?_⟩,fun y c h=>⟨_,x.cell y c h⟩,e0.hok.fresh (Nat.le_refl _),fun y c h=>?_,fun p hp=>absurd (show p∈([]:List (Addr×Obj)) from hp) (by simp),e0.hok.kept hk,?_⟩
 ·exact name_of_addr x.apart (PySem.mem_of_lookup h1) (PySem.mem_of_lookup h2)
 ·have hy:scope.names.lookup y=some .cell∨scope.names.lookup y=some .free:=hy
  rcases hy with hy | hy
  ·exact cell_has hy
  ·exact absurd rfl (S.nofree _ (PySem.mem_of_lookup hy))
 ·exact Nat.le_of_lt (x.above y c (PySem.mem_of_lookup h))
 ·have hi:i < vs.length:=by
   unfold start at h2
   by_cases hi:i < vs.length
   ·exact hi
   ·rw [List.getElem?_append_right (by simpa using hi)] at h2
    rw [List.getElem?_replicate] at h2
    split at h2 <;> cases h2
  have ha:vs[i]? =some v:=by
   unfold start at h2
   rw [List.getElem?_append_left (by simpa using hi),List.getElem?_map] at h2
   cases e:vs[i]? with
   | none=>rw [e] at h2;cases h2
   | some a=>rw [e] at h2;cases h2;rfl
  obtain ⟨u,hu,rv⟩:=r.get ha
  have hp:ps[i]? =some y:=by
   rw [←S.pre,List.getElem?_take_of_lt (by lia)];exact h1
  have ndP:ps.Nodup:=by rw [←S.pre];exact S.nd.sublist (List.take_sublist _ _)
  refine ⟨u,rv,?_⟩
  rcases S.par y (List.mem_of_getElem? hp) with k | k
  ·exact .inl ⟨k,bindL_get ndP hp hu k⟩
  ·obtain ⟨c,e⟩:=cell_has (n:=s.heap.objs.size + 1) k
   refine .inr ⟨.inl k,c,e,?_⟩
   have q:=x.cell y c e
   rw [bindC_get ndP hp hu (by show scope.names.lookup y≠_;rw [k];decide)] at q
   exact q
 ·exact e0.hok.fresh (Nat.le_of_lt (x.above y c (PySem.mem_of_lookup h)))
 ·unfold start
  show _=N.length
  rw [List.length_append,List.length_map,List.length_replicate]
  lia
theorem fn_of {CX:CXT} {P:Program} {w:World} {K:PySem.W.Frag} {mg:Str→Option Value} {base:Heap} {k:Nat} {f:Addr} {name qual:Str} {params:Arguments} {body:List Stmt} {scope:Scope} {dV kV doc pm cdv ct oc:Value} {an od:Option Addr}
  {osl:Array (Option Value)} {N ps:List Str} {sp:Sp} (lk:K.lookup f=some ⟨oc,od,.func (PySem.W.fnOf name qual params body scope dV kV doc pm an cdv ct),osl⟩) (hcd:PySem.W.codeIn K cdv qual=true) (S:FnScope N ps scope)
  (len:∀ vs H Q E,sp vs H Q E→vs.length=ps.length)
  (hbody:∀ (A:Around) (outer:List Env) (s:Shared) (H:Hp) (vs:List V) (Q:VK) (E:XK),Room k (A.deeper (envOfC qual scope s.heap.objs.size f cdv))→sp vs H Q E→
   ∃ t,PSs (cxOf CX P w K mg base N qual scope f cdv A outer s H E) body t∧t { nx:=fun _ H'=>Q .non H',rt:=Q } (start N vs) H):
  FnOk P w K mg base CX (k + 1) f (PySem.W.fnOf name qual params body scope dV kV doc pm an cdv ct) ps sp:=by
 refine ⟨len,fun A outer s H args us vs Q E hr e0 hb r hsp=>?_⟩
 have hl:=len _ _ _ _ hsp
 have KX:K.In s.heap:=e0.mod.kin.keeps fun b o e=>(e0.bs b o e).1
 have lim:s.heap.NoLimit:=e0.mod.nolimit.keeps fun b o e=>(e0.bs b o e).1
 have hkind:∀ y∈ps.zip us,scope.names.lookup y.1=some .local∨(scope.names.lookup y.1=some .cell∧((cellsFrom (s.heap.objs.size + 1) scope.names []).lookup y.1).isSome=true):=fun ⟨n,v⟩ hy=>by
  rcases S.par n (List.of_mem_zip hy).1 with q | q
  ·exact .inl q
  ·exact .inr ⟨q,PySem.W.cellsFrom_some _ _ _ (.inl q)⟩
 refine codeAny_call_function hr.depth (KX _ _ lk) rfl S.co S.gen rfl (PySem.W.codeRec_of KX hcd) (hb _ _ _ _ ?_)
 refine wpAny_newFunctionEnv_cells S.kind hkind fun env he s1 x=>?_
 subst he
 refine ⟨lim.keeps x.toInCall.keep,codeAny_func ?_⟩
 obtain ⟨t,ht,hq⟩:=hbody A outer s H vs Q E (hr.deeper _) hsp
 have I:Inv (cxOf CX P w K mg base N qual scope f cdv A outer s H E) [] (start N vs) H s1:=inv_start S hr.hd e0 hl r x
 refine wpAny_mono (ht [] s1 (start N vs) H _ I hq) (fun fl s' hs=>?_) fun e s' hs=>hs
 have fin:∀ {σ':St} {H':Hp} {v:V} {u:Value},Inv (cxOf CX P w K mg base N qual scope f cdv A outer s H E) [] σ' H' s'→RelV v u→Q v H'→CE outer P w H s Q u s':=
  fun {σ' H' v u} J rv q=>⟨v,H',J.os,J.bare,J.base,J.hok,rv,q⟩
 cases fl with
 | ret u=>
  obtain ⟨v,σ',H',J,rv,q⟩:=hs
  exact fin J rv q
 | next=>
  obtain ⟨σ',H',J,q⟩:=hs
  exact fin (v:=V.non) (u:=Value.none) J rfl q
 | brk=>
  obtain ⟨_,_,_,q⟩:=hs
  exact False.elim q
 | cont=>
  obtain ⟨_,_,_,q⟩:=hs
  exact False.elim q
end L2
namespace L2
open PySem PySem.Spec PyProof.Rows
section
variable {X:Cx} {x:Str} {p pos:Pos} {e:Expr} {es:List Expr} {t:TA} {id T:String} {r:List V→Hp→VK→Prop}
noncomputable def tCB (r:List V→Hp→VK→Prop) (t:TA):TE:=fun σ H Q=>t σ H fun vs H1=>r vs H1 Q
theorem pe_callB (hc:CallR X (.builtin id) r) (hg:Gl X x) (hm:X.mg x=none) (hv:bootBuiltins x=some (.builtin id)) (ha:PA X (e::es) t) (hn:x≠"__name__":=by decide) (hdb:(x==("__debug__":Str))=false:=by decide)
  (he:starEach (e::es) X.env=(false,eval e X.env)::starEach es X.env:=by rfl) (hpl:(backTo pos (starEach es X.env)).any (·.1)=false:=by rfl):PE X (.Call (.Name x p) (e::es) [] pos) (tCB r t):=by
 intro pins s σ H Q I h
 refine wpAny_Call_Name_kw (ld_blt I hg hm hv ?_ hn hdb)
 exact PyProof.Rows.callWith_builtin1 (thn (ha pos pins s σ H _ I h) fun us s1 ⟨vs,H1,I1,r1,q1⟩=>hc pins s1 σ H1 vs us Q I1 r1 q1) he hpl
theorem pe_callTy (hc:CallR X (.type T) r) (hg:Gl X x) (hm:X.mg x=none) (hv:bootBuiltins x=some (.type T)) (ha:PA X (e::es) t) (hn:x≠"__name__":=by decide) (hdb:(x==("__debug__":Str))=false:=by decide)
  (he:starEach (e::es) X.env=(false,eval e X.env)::starEach es X.env:=by rfl) (hpl:(backTo pos (starEach es X.env)).any (·.1)=false:=by rfl):PE X (.Call (.Name x p) (e::es) [] pos) (tCB r t):=by
 intro pins s σ H Q I h
 refine wpAny_Call_Name_kw (ld_blt I hg hm hv ?_ hn hdb)
 exact PyProof.Rows.callWith_type1 (thn (ha pos pins s σ H _ I h) fun us s1 ⟨vs,H1,I1,r1,q1⟩=>hc pins s1 σ H1 vs us Q I1 r1 q1) he hpl
end
end L2
namespace HT
open PySem PyProof.Rows
noncomputable def lexLt:List Int→List Int→Bool
 | [],[]=>false
 | [],_::_=>true
 | _::_,[]=>false
 | x::xs,y::ys=>if x=y then lexLt xs ys else decide (x < y)
theorem lexLt_cons (x y:Int) (xs ys:List Int):lexLt (x::xs) (y::ys)=if x=y then lexLt xs ys else decide (x < y):=rfl
theorem lexLt_nil_nil:lexLt [] []=false:=rfl
theorem lexLt_nil_cons (y:Int) (ys:List Int):lexLt [] (y::ys)=true:=rfl
theorem lexLt_cons_nil (x:Int) (xs:List Int):lexLt (x::xs) []=false:=rfl
theorem eqAt_int (A:Around) (s:Shared) (a:Int) (t:Tok) (c:Int) (u:Tok):∃ e,SeqAt.EqAt A s (.int a t) (.int c u) e∧(e=true↔a=c):=
 ⟨(a==c),SeqAt.EqAt.int_int a t c u,by simp⟩
theorem rcLt_int (A:Around) (s:Shared) (a:Int) (t:Tok) (c:Int) (u:Tok) (prog:Program) (w:World) (E:Value→Shared→Prop) (Q:Value→Shared→Prop) (h:Q (.bool (decide (a < c))) s):
  wpAny (model prog w) A (richCompare .Lt (.int a t) (.int c u)) Q E s:=
 (PyProof.Rows.lt_int h:wpAny (model prog w) A (compareOp .Lt (.int a t) (.int c u)) Q E s)
section
open PySem.SeqAt
open PySem.AutoSeq1 (wpAny_loadPart')
open PySem.MeetsSeq PySem.MeetsSeq2 PySem.MeetsSeq3
theorem tuple_lt_ints (l b:Addr) (items items2:Array Value) (n n2:Nat) (dd dd2:Option Addr) (sl sl2:Array (Option Value)) (ns ms:List Int) (hi:IntsAre items.toList ns) (hj:IntsAre items2.toList ms):
  Meets (Builtin.«tuple.__lt__» ⟨[.ref l,.ref b],[]⟩)
   (fun _ R s=>s.heap.get? l=some { cls:=.type "tuple",dict:=dd,data:=.seq items n,slots:=sl }∧s.heap.get? b=some { cls:=.type "tuple",dict:=dd2,data:=.seq items2 n2,slots:=sl2 }∧
    R (.ok (.ret (.bool (lexLt ns ms)))) s):=
 .of_wp fun prog w A R s h=>by
  obtain ⟨hp,g,d,tk,os⟩:=s;obtain ⟨hl,hb,h⟩:=h
  have f2:=AutoSeq1.sub_tuple_tuple
  have z1:items.size=ns.length:=by rw [←hi.length];simp
  have z2:items2.size=ms.length:=by rw [←hj.length];simp
  wp_walk using wpAny_loadPart' hl,wpAny_loadPart' hb,wpAny_forIn_list _ (fun rest b s'=>b.1=none∧s'=⟨hp,g,d,tk,os⟩∧∃ (vs ws:List Value) (ns' ms':List Int),rest=vs.zip ws∧
   IntsAre vs ns'∧IntsAre ws ms'∧ns'.length + items2.size=ms'.length + items.size∧R (.ok (.ret (.bool (lexLt ns' ms')))) ⟨hp,g,d,tk,os⟩) _
  case turn=>
   rintro ⟨y,x⟩ rest b s' ⟨hb',rfl,vs,ws,ns',ms',hz,hvi,hwi,hlen,hR⟩
   cases hvi with
   | nil=>rw [List.zip_nil_left] at hz;cases hz
   | cons a t hvi'=>
    cases hwi with
    | nil=>rw [List.zip_nil_right] at hz;cases hz
    | cons c u hwi'=>
     rw [List.zip_cons_cons] at hz
     injection hz with hyx hrest
     injection hyx with hy hx
     subst hy hx
     rw [lexLt_cons] at hR
     simp only [List.length_cons] at hlen
     obtain ⟨e,he,hiff⟩:=eqAt_int A.in1 ⟨hp,g,d,tk,os⟩ a t c u
     refine wpAny_bind (he prog w _ _ ?_)
     cases e with
     | true=>
      rw [if_pos (hiff.mp rfl)] at hR
      wp_walk
      exact ⟨rfl,rfl,_,_,_,_,hrest,hvi',hwi',by lia,hR⟩
     | false=>
      rw [if_neg (fun q=>absurd (hiff.mpr q) Bool.false_ne_true)] at hR
      have hri:=rcLt_int A.in1 ⟨hp,g,d,tk,os⟩ a t c u prog w
      wp_walk using hri
      exact ⟨_,rfl,by simpa using hR⟩
  case fin=>
   rintro ⟨b1,b2⟩ s' ⟨hb',rfl,vs,ws,ns',ms',hz,hvi,hwi,hlen,hR⟩
   simp only at hb'
   subst hb'
   have hv:lexLt ns' ms'=decide (items.size < items2.size):=by
    cases hvi with
    | nil=>
     cases hwi with
     | nil=>
      simp only [List.length_nil] at hlen
      rw [lexLt_nil_nil]
      exact (decide_eq_false (by lia)).symm
     | cons c u hw=>
      simp only [List.length_nil,List.length_cons] at hlen
      rw [lexLt_nil_cons]
      exact (decide_eq_true (by lia)).symm
    | cons a t hv=>
     cases hwi with
     | nil=>
      simp only [List.length_nil,List.length_cons] at hlen
      rw [lexLt_cons_nil]
      exact (decide_eq_false (by lia)).symm
     | cons c u hw=>
      rw [List.zip_cons_cons] at hz
      cases hz
   rw [hv] at hR
   wp_walk
   exact ⟨_,rfl,by simpa [Builtin.Tuple.tupleCompareSizes] using hR⟩
  case h=>
   exact ⟨rfl,rfl,items.toList,items2.toList,ns,ms,rfl,hi,hj,by lia,h⟩
end
section
variable {prog:Program} {w:World} {A:Around} {E:Value→Shared→Prop} {s:Shared}
theorem lt_tupInts {l b:Addr} {items items2:Array Value} {ns ms:List Int} {Q:Value→Shared→Prop} (hl:IsTup s.heap l items) (hb:IsTup s.heap b items2) (hi:IntsAre items.toList ns) (hj:IntsAre items2.toList ms)
  (hu:A.units < cLine) (h:Q (.bool (lexLt ns ms)) s):wpAny (model prog w) A (compareOp .Lt (.ref l) (.ref b)) Q E s:=by
 obtain ⟨⟨cls,dd,data,sl⟩,ho,hc,n,hd⟩:=id hl
 obtain ⟨⟨cls2,dd2,data2,sl2⟩,ho2,hc2,n2,hd2⟩:=id hb
 simp only at hc hd hc2 hd2
 subst hc hd hc2 hd2
 exact richCompare_meets_room (op:=.Lt) ⟨_,ho,rfl⟩ ⟨_,ho2,rfl⟩ PySem.F.slot_tuple_lt PySem.F.entry_tuple_lt (PySem.F.args_tuple_lt_2 _ _) (tuple_lt_ints l b items items2 n n2 dd dd2 sl sl2 ns ms hi hj)
  ⟨ho,ho2,show Value.bool (lexLt ns ms)≠Value.notImplemented∧Q (.bool (lexLt ns ms)) s from ⟨(fun x=>nomatch x),h⟩⟩ hu
noncomputable def sIx (n d:Nat):Option Int→Nat
 | none=>d
 | some v=>if v < 0 then (v + (n:Int)).toNat else min v.toNat n
theorem sIx_none (n d:Nat):sIx n d none=d:=rfl
theorem sIx_nat (n d k:Nat):sIx n d (some (k:Int))=min k n:=by
 show (if (k:Int) < 0 then ((k:Int) + (n:Int)).toNat else min (k:Int).toNat n)=min k n
 rw [if_neg (by lia),Int.toNat_natCast]
end
end HT
namespace L2
open PySem PySem.Spec PyProof.Rows
noncomputable abbrev TO:=St→Hp→(Option Int→Hp→Prop)→Prop
noncomputable def PO (X:Cx) (e:Option Expr) (t:TO):Prop:=
 ∀ (pins:List (Addr×Obj)) (s:Shared) (σ:St) (H:Hp) (Q:Option Int→Hp→Prop),Inv X pins σ H s→t σ H Q→
  wpAny (model X.prog X.w) X.A (evalPart e X.env) (fun u s'=>∃ o H',Inv X pins σ H' s'∧IsPart u o∧Q o H') X.xe s
noncomputable def tNoPart:TO:=fun _ H Q=>Q none H
noncomputable def tPart (t:TE):TO:=fun σ H Q=>t σ H fun x H1=>∃ i,x=.int i∧Q (some i) H1
theorem intsAre_of {ns:List Int}:∀ {us:List Value},Vals (ns.map V.int) us→IntsAre us ns:=by
 induction ns with
 | nil=>intro us r;rw [List.map_nil] at r;cases r;exact .nil
 | cons n ns ih=>
  intro us r
  rw [List.map_cons] at r
  cases r with
  | cons r1 r2=>
   obtain ⟨t,e⟩:=r1
   subst e
   exact .cons n t (ih r2)
section
variable {X:Cx} {e:Expr} {te:TE} {lo hi:Option Expr} {tl th:TO} {pos p2:Pos}
theorem po_none:PO X none tNoPart:=by
 intro pins s σ H Q I h
 rw [evalPart_none]
 exact wpAny_pure ⟨none,H,I,.none,h⟩
theorem po_some (h:PE X e te):PO X (some e) (tPart te):=by
 intro pins s σ H Q I hw
 rw [evalPart_some]
 refine thn (h pins s σ H _ I hw) fun u s1 ⟨x,H1,I1,r1,q1⟩=>?_
 obtain ⟨i,rfl,q⟩:=q1
 obtain ⟨t,rfl⟩:=r1
 exact ⟨some i,H1,I1,.int i t,q⟩
noncomputable def SlR (X:Cx) (r:V→Option Int→Option Int→Hp→VK→Prop):Prop:=
 ∀ (pins:List (Addr×Obj)) (s:Shared) (σ:St) (H:Hp) (x:V) (v vl vu:Value) (lo hi:Option Int) (sl:Addr) (Q:VK),Inv X pins σ H s→RelV x v→s.heap.IsSliceOf sl vl vu .none→IsPart vl lo→IsPart vu hi→r x lo hi H Q→
  ∃ T id,typeLookup (.type T) "__getitem__"=pure (some (.builtin id))∧s.TypeIs v T∧wpAny (model X.prog X.w) X.A (getItem v (.ref sl)) (EP X pins σ Q) X.xe s
theorem SlR.or {r r':V→Option Int→Option Int→Hp→VK→Prop} (h:SlR X r) (h':SlR X r'):SlR X (fun x lo hi H Q=>r x lo hi H Q∨r' x lo hi H Q):=by
 intro pins s σ H x v vl vu lo hi sl Q I rx hs pl pu q
 rcases q with q | q
 ·exact h pins s σ H x v vl vu lo hi sl Q I rx hs pl pu q
 ·exact h' pins s σ H x v vl vu lo hi sl Q I rx hs pl pu q
noncomputable def tSl (r:V→Option Int→Option Int→Hp→VK→Prop) (te:TE) (tl th:TO):TE:=fun σ H Q=>te σ H fun x H1=>tl σ H1 fun l H2=>th σ H2 fun u H3=>r x l u H3 Q
theorem pe_slice {r:V→Option Int→Option Int→Hp→VK→Prop} (hr:SlR X r) (he:PE X e te) (hl:PO X lo tl) (hu:PO X hi th):PE X (.Subscript e (.Slice lo hi none p2) pos) (tSl r te tl th):=by
 intro pins s σ H Q I h
 refine Subscript_ (thn (he pins s σ H _ I h) fun v s1 ⟨x,H1,I1,r1,q1⟩=>?_)
 refine wpAny_Slice (thn (hl pins s1 σ H1 _ I1 q1) fun vl s2 ⟨l,H2,I2,pl,q2⟩=>thn (hu pins s2 σ H2 _ I2 q2) fun vu s3 ⟨u,H3,I3,pu,q3⟩=>?_)
 rw [evalPart_none]
 refine wpAny_pure ?_
 have I4:Inv X pins σ H3 { s3 with heap:=s3.heap.push { cls:=.type "slice",data:=.fields #[vl,vu,.none] } }:=I3.kept (t':=s3.toks) fun b ob q=>Heap.get?_push_of_some _ q
 obtain ⟨T,id,hT,ht,hg⟩:=hr pins { s3 with heap:=s3.heap.push { cls:=.type "slice",data:=.fields #[vl,vu,.none] } } σ H3 x v vl vu l u s3.heap.objs.size Q I4 r1 (Heap.IsSliceOf.new ..) pl pu q3
 show wpAny (model X.prog X.w) X.A (subscriptTail e (.Slice lo hi none p2) v (.ref s3.heap.objs.size)) (EP X pins σ Q) X.xe { s3 with heap:=s3.heap.push { cls:=.type "slice",data:=.fields #[vl,vu,.none] } }
 exact tail_any (ops:=[.ref s3.heap.objs.size,v]) ht hT hg (by with_unfolding_all rfl)
noncomputable def cutV (xs:List V) (lo hi:Option Int):List V:=(xs.drop (HT.sIx xs.length 0 lo)).take (HT.sIx xs.length xs.length hi - HT.sIx xs.length 0 lo)
theorem cutV_length (xs:List V) (lo hi:Option Int):(cutV xs lo hi).length≤xs.length:=by
 unfold cutV
 rw [List.length_take,List.length_drop]
 lia
noncomputable def rLtT (K:PySem.W.Frag):R2:=fun x y H Q=>∃ a b ns ms,x=.ref a∧y=.ref b∧SqT K H a (ns.map V.int)∧SqT K H b (ms.map V.int)∧Q (.bl (HT.lexLt ns ms)) H
theorem op_ltT (hu:X.A.units < cLine):OpR X (compareOp .Lt) (rLtT X.K):=by
 intro pins s σ H x y v u Q I rx ry h
 obtain ⟨a,b,ns,ms,rfl,rfl,ha,hb,q⟩:=h
 cases rx
 cases ry
 obtain ⟨its,r1,p1,_⟩:=I.tuple ha
 obtain ⟨its2,r2,p2,_⟩:=I.tuple hb
 have i1:IntsAre its.toArray.toList ns:=intsAre_of r1
 have i2:IntsAre its2.toArray.toList ms:=intsAre_of r2
 exact HT.lt_tupInts p1 p2 i1 i2 hu ⟨.bl (HT.lexLt ns ms),H,I,rfl,q⟩
end
end L2
namespace L2
open PySem PySem.Spec PyProof.Rows
noncomputable def ixN (n:Nat) (i:Int):Option Nat:=if 0≤i then (if i < n then some i.toNat else none) else if -(n:Int)≤i then some (i + n).toNat else none
noncomputable def atI {α:Type} (xs:List α) (i:Int):Option α:=(ixN xs.length i).bind fun j=>xs[j]?
theorem ixN_seq {n:Nat} {i:Int} {j:Nat} (h:ixN n i=some j):seqIndex? i n=some j∧j < n∧-(n:Int)≤i∧i < n:=by
 unfold ixN at h
 by_cases h0:0≤i
 ·rw [if_pos h0] at h
  by_cases h1:i < n
  ·rw [if_pos h1] at h
   have e:i.toNat=j:=Option.some.inj h
   exact ⟨by rw [seqIndex_of h0 h1,e],by lia,by lia,h1⟩
  ·rw [if_neg h1] at h;cases h
 ·rw [if_neg h0] at h
  by_cases h1:-(n:Int)≤i
  ·rw [if_pos h1] at h
   have e:(i + n).toNat=j:=Option.some.inj h
   exact ⟨by rw [seqIndex_neg (by lia) h1,e],by lia,h1,by lia⟩
  ·rw [if_neg h1] at h;cases h
theorem atI_get {α:Type} {xs:List α} {i:Int} {v:α} (h:atI xs i=some v):∃ j,seqIndex? i xs.length=some j∧xs[j]? =some v∧j < xs.length∧-(xs.length:Int)≤i∧i < xs.length:=by
 unfold atI at h
 cases e:ixN xs.length i with
 | none=>rw [e] at h;cases h
 | some j=>
  rw [e] at h
  obtain ⟨h1,h2,h3,h4⟩:=ixN_seq e
  exact ⟨j,h1,h,h2,h3,h4⟩
theorem atI_nat {α:Type} {xs:List α} {j:Nat} {v:α} (h:xs[j]? =some v):atI xs (j:Int)=some v:=by
 have hj:j < xs.length:=(List.getElem?_eq_some_iff.mp h).1
 have e:ixN xs.length (j:Int)=some j:=by
  unfold ixN
  rw [if_pos (by lia),if_pos (by lia)];simp
 unfold atI;rw [e];exact h
noncomputable def PlainIx (b:Expr):Prop:=∀ o i,subscripted b false o i=operate [o,i] (getItem o i)
noncomputable def IxR (X:Cx) (r:R2):Prop:=
 ∀ (value slice:Expr) (pins:List (Addr×Obj)) (s:Shared) (σ:St) (H:Hp) (x y:V) (v u:Value) (Q:VK),Inv X pins σ H s→RelV x v→RelV y u→r x y H Q→
  subscripted slice false v u=operate [v,u] (getItem v u)→wpAny (model X.prog X.w) X.A (subscriptTail value slice v u) (EP X pins σ Q) X.xe s
noncomputable def MtR (X:Cx) (id:String) (r:V→List V→Hp→VK→Prop):Prop:=
 ∀ (pins:List (Addr×Obj)) (s:Shared) (σ:St) (H:Hp) (x:V) (xs:List V) (v:Value) (us:List Value) (Q:VK),Inv X pins σ H s→RelV x v→Vals xs us→r x xs H Q→
  wpAny (model X.prog X.w) X.A (call (.builtin id) (v::us)) (EP X pins σ Q) X.xe s
section
variable {X:Cx} {a b:Expr} {ta tb:TE} {pos:Pos}
theorem IxR.or {r r':R2} (h:IxR X r) (h':IxR X r'):IxR X (fun x y H Q=>r x y H Q∨r' x y H Q):=by
 intro value slice pins s σ H x y v u Q I rx ry q hs
 rcases q with q | q
 ·exact h value slice pins s σ H x y v u Q I rx ry q hs
 ·exact h' value slice pins s σ H x y v u Q I rx ry q hs
theorem MtR.or {id:String} {r r':V→List V→Hp→VK→Prop} (h:MtR X id r) (h':MtR X id r'):MtR X id (fun x xs H Q=>r x xs H Q∨r' x xs H Q):=by
 intro pins s σ H x xs v us Q I rx rs q
 rcases q with q | q
 ·exact h pins s σ H x xs v us Q I rx rs q
 ·exact h' pins s σ H x xs v us Q I rx rs q
theorem pe_ix {r:R2} (hr:IxR X r) (ha:PE X a ta) (hb:PE X b tb) (hs:PlainIx b):PE X (.Subscript a b pos) (tOp r ta tb):=by
 intro pins s σ H Q I h
 exact Subscript_ (binT ha hb I h fun v u s2 x y H2 I2 rx ry q=>hr a b pins s2 σ H2 x y v u Q I2 rx ry q (hs _ _))
noncomputable def rIxL (K:PySem.W.Frag):R2:=fun x y H Q=>∃ p xs i v,x=.ref p∧y=.int i∧SqL K H p xs∧atI xs i=some v∧Q v H
noncomputable def rIxT (K:PySem.W.Frag):R2:=fun x y H Q=>∃ p xs i v,x=.ref p∧y=.int i∧SqT K H p xs∧atI xs i=some v∧Q v H
noncomputable def rIxS:R2:=fun x y H Q=>∃ z i c,x=.str z∧y=.int i∧z.length≤sizeLine∧atI z.cps.toList i=some c∧Q (.str ⟨#[c]⟩) H
theorem ix_list:IxR X (rIxL X.K):=by
 intro value slice pins s σ H x y v u Q I rx ry h hs
 obtain ⟨p,xs,i,z,rfl,rfl,hq,he,q⟩:=h
 cases rx
 obtain ⟨t,rfl⟩:=ry
 obtain ⟨its,r,pl,hz⟩:=I.list hq
 obtain ⟨j,h1,h2,h3,h4,h5⟩:=atI_get he
 obtain ⟨w,ew,rw'⟩:=r.get h2
 have hl:=r.length
 have hn:=line63
 have fin:EP X pins σ Q w s:=⟨z,H,I,rw',q⟩
 by_cases h0:0≤i
 ·have hj:i.toNat=j:=by
   rw [seqIndex_of h0 h5] at h1
   exact Option.some.inj h1
  exact item_listR pl.isList h0 (by lia) (by rw [hj];simpa using ew) fin hs
 ·have hj:(i + (its.toArray.size:Int)).toNat=j:=by
   rw [seqIndex_neg (by lia) h4] at h1
   rw [List.size_toArray,←hl]
   exact Option.some.inj h1
  exact subscriptTail_builtinR (x:=w) pl.isList.typeIs slot_list_getitem.lookup
   (wpAny_getItem_list_neg (Q:=fun r s'=>r=w∧EP X pins σ Q r s') pl.isList (by lia) (by rw [List.size_toArray] <;> lia) (by lia) (by rw [hj];simpa using ew) ⟨rfl,fin⟩) hs
theorem ix_tup:IxR X (rIxT X.K):=by
 intro value slice pins s σ H x y v u Q I rx ry h hs
 obtain ⟨p,xs,i,z,rfl,rfl,hq,he,q⟩:=h
 cases rx
 obtain ⟨t,rfl⟩:=ry
 obtain ⟨its,r,pl,hz⟩:=I.tuple hq
 obtain ⟨j,h1,h2,h3,h4,h5⟩:=atI_get he
 obtain ⟨w,ew,rw'⟩:=r.get h2
 have hl:=r.length
 have hn:=line63
 have fin:EP X pins σ Q w s:=⟨z,H,I,rw',q⟩
 exact subscriptTail_builtinR (x:=w) pl.typeIs slot_tuple_getitem.lookup
  (getItem_tuple (j:=j) (Q:=fun r s'=>r=w∧EP X pins σ Q r s') pl (by lia) (by lia) (by rw [List.size_toArray,←hl];exact h1) (by simpa using ew) ⟨rfl,fin⟩) hs
theorem ix_str:IxR X rIxS:=by
 intro value slice pins s σ H x y v u Q I rx ry h hs
 obtain ⟨z,i,c,rfl,rfl,hz,he,q⟩:=h
 obtain ⟨t,rfl⟩:=rx
 obtain ⟨t',rfl⟩:=ry
 obtain ⟨j,h1,h2,h3,h4,h5⟩:=atI_get he
 have hl:z.cps.toList.length=z.length:=by simp [Str.length]
 rw [hl] at h1 h4 h5
 have hn:=line63
 exact tail_any (typeIs_str s z t) slot_str_getitem.lookup (getItem_str (c:=c) (by
  have e1:decide (i < -(2 ^ 63:Int))=false:=decide_eq_false (by lia)
  have e2:decide (i≥2 ^ 63)=false:=decide_eq_false (by lia)
  rw [e1,e2,Bool.or_false]) (by rw [h1];simpa using h2) ⟨.str ⟨#[c]⟩,H,I.tok _,⟨_,rfl⟩,q⟩) hs
theorem mapSeq_set (its:List Value) (n j:Nat) (u:Value):Obj.mapSeq (·.setIfInBounds j u) { cls:=.type "list",data:=.seq its.toArray n }={ cls:=.type "list",data:=.seq (its.set j u).toArray n }:=by
 simp [Obj.mapSeq]
theorem Inv.lst {pins:List (Addr×Obj)} {σ:St} {H:Hp} {s:Shared} {p:Addr} {xs:List V} (I:Inv X pins σ H s) (h:H p=some (.lst xs)):
  ∃ (its:List Value) (n:Nat),Vals xs its∧s.heap.get? p=some { cls:=.type "list",data:=.seq its.toArray n }∧xs.length≤sizeLine:=by
 obtain ⟨z,its,n,r,e⟩:=I.hok p _ h
 exact ⟨its,n,r,e,z⟩
theorem Inv.lstUpd {pins:List (Addr×Obj)} {σ:St} {H:Hp} {s:Shared} {p:Addr} {xs ys:List V} {its its':List Value} {n n':Nat} {f:Obj→Obj} (I:Inv X pins σ H s) (h:H p=some (.lst xs))
  (ho:s.heap.get? p=some { cls:=.type "list",data:=.seq its.toArray n }) (hf:f { cls:=.type "list",data:=.seq its.toArray n }={ cls:=.type "list",data:=.seq its'.toArray n' }) (r:Vals ys its') (hz:ys.length≤sizeLine) (t:Nat):
  Inv X pins σ (upd H p (.lst ys)) { s with heap:=s.heap.update p f,toks:=t }:=by
 have e:(s.heap.update p f).get? p=some { cls:=.type "list",data:=.seq its'.toArray n' }:=by
  rw [Heap.get?_update_self f ho (by rw [hf] <;> rfl),hf]
 refine I.write (x:=p) (e:=p) (by rw [h];trivial) (.inl rfl) (fun b u hb q=>(Heap.get?_update_other _ _ (Ne.symm hb)).trans q) ⟨_,e⟩ ?_
 exact ⟨hz,its',n',r,e⟩
noncomputable def rSetL:V→V→V→Hp→(Hp→Prop)→Prop:=fun o i v H Q=>∃ p xs k j,o=.ref p∧i=.int k∧H p=some (.lst xs)∧ixN xs.length k=some j∧Q (upd H p (.lst (xs.set j v)))
theorem set_list:PSet X rSetL:=by
 intro pins s σ H o i v ov iv u Q I ro ri rv h
 obtain ⟨p,xs,k,j,rfl,rfl,hp,hj,q⟩:=h
 cases ro
 obtain ⟨t,rfl⟩:=ri
 obtain ⟨its,n,r,ho,hz⟩:=I.lst hp
 obtain ⟨h1,h2,h3,h4⟩:=ixN_seq hj
 have hl:=r.length
 have hn:=line63
 have I':Inv X pins σ (upd H p (.lst (xs.set j v))) { s with heap:=s.heap.update p (Obj.mapSeq (·.setIfInBounds j u)) }:=
  I.lstUpd hp ho (mapSeq_set its n j u) (r.set rv j) (by rw [List.length_set];exact hz) s.toks
 by_cases h0:0≤k
 ·have hk:k.toNat=j:=by
   rw [seqIndex_of h0 h4] at h1
   exact Option.some.inj h1
  exact PySem.W.ki_setAt ho h0 (by lia) (by rw [List.size_toArray,←hl];exact h4) (by rw [hk];exact ⟨_,I',q⟩)
 ·have hk:(k + (its.toArray.size:Int)).toNat=j:=by
   rw [seqIndex_neg (by lia) h3] at h1
   rw [List.size_toArray,←hl]
   exact Option.some.inj h1
  exact PySem.W.ki_setBack ho (by lia) (by rw [List.size_toArray,←hl];exact h3) (by lia) (by rw [hk];exact ⟨_,I',q⟩)
theorem slice_bounds (lo hi:Option Int) (n:Nat):(sliceBounds lo hi none n).1=((HT.sIx n 0 lo:Nat):Int)∧(sliceBounds lo hi none n).2.1=((HT.sIx n n hi:Nat):Int)∧(sliceBounds lo hi none n).2.2=1:=by
 refine ⟨?_,?_,rfl⟩
 ·cases lo with
  | none=>simp [sliceBounds,HT.sIx]
  | some i=>
   simp only [sliceBounds,HT.sIx,Option.getD_none,show (1:Int) > 0 by decide,if_true]
   by_cases h:i < 0
   ·simp only [h,if_true] <;> lia
   ·simp only [h,if_false] <;> lia
 ·cases hi with
  | none=>simp [sliceBounds,HT.sIx]
  | some i=>
   simp only [sliceBounds,HT.sIx,Option.getD_none,show (1:Int) > 0 by decide,if_true]
   by_cases h:i < 0
   ·simp only [h,if_true] <;> lia
   ·simp only [h,if_false] <;> lia
theorem slicePick_cut (its:List Value) (lo hi:Option Int):slicePick its.toArray lo hi none=((its.drop (HT.sIx its.length 0 lo)).take (HT.sIx its.length its.length hi - HT.sIx its.length 0 lo)).toArray:=by
 obtain ⟨h1,h2,h3⟩:=slice_bounds lo hi its.toArray.size
 unfold slicePick
 rw [h1,h2,h3]
 simp only [sliceRange_one,pick_run,List.size_toArray] <;> rfl
noncomputable def rSlL (K:PySem.W.Frag):V→Option Int→Option Int→Hp→VK→Prop:=fun x lo hi H Q=>∃ a xs,x=.ref a∧SqL K H a xs∧∀ p,H p=none→Q (.ref p) (upd H p (.lst (cutV xs lo hi)))
theorem sl_list:SlR X (rSlL X.K):=by
 intro pins s σ H x v vl vu lo hi sl Q I rx hs pl pu h
 obtain ⟨a,xs,rfl,hx,q⟩:=h
 cases rx
 obtain ⟨its,r,ht,hz⟩:=I.list hx
 have hlen:=r.length
 refine ⟨"list",_,slot_list_getitem.lookup,ht.isList.typeIs,?_⟩
 refine wpAny_getItem_list_slice ht.isList hs pl pu .none (by simp) ?_ (by rw [List.size_toArray] <;> lia)
 rw [slicePick_cut,←hlen]
 refine ⟨.ref s.heap.objs.size,_,I.laid (t':=s.toks) (o:=.lst (cutV xs lo hi)) (fun b ob q=>Heap.get?_push_of_some _ q) (Nat.le_refl _) ?_,rfl,q _ (I.hok.fresh (Nat.le_refl _))⟩
 exact ⟨Nat.le_trans (cutV_length xs lo hi) hz,_,0,(r.drop (HT.sIx xs.length 0 lo)).take (HT.sIx xs.length xs.length hi - HT.sIx xs.length 0 lo),Heap.get?_push_size _ rfl⟩
theorem op_notIn_str:OpR X (compareOp .NotIn) (fun x y H Q=>∃ i j,x=.str i∧y=.str j∧Q (.bl (!(!(Builtin.Str.occurrences j i 0 j.length 1).isEmpty))) H):=by
 intro pins s σ H x y v u Q I rx ry h
 obtain ⟨i,j,rfl,rfl,q⟩:=h
 obtain ⟨t,rfl⟩:=rx
 obtain ⟨t',rfl⟩:=ry
 exact notIn_str ⟨.bl _,H,I,rfl,q⟩
theorem call_len_seq:CallR X (.builtin "len") (fun xs H Q=>∃ p ys,xs=[.ref p]∧(SqL X.K H p ys∨SqT X.K H p ys)∧Q (.int ys.length) H):=by
 intro pins s σ H xs us Q I r h
 obtain ⟨p,ys,rfl,hq,q⟩:=h
 obtain ⟨u,rfl,rx⟩:=vals1 r
 cases rx
 have hn:=line63
 rcases hq with hq | hq
 ·obtain ⟨its,r',pl,hz⟩:=I.list hq
  have hlen:=r'.length
  exact Calls.call_len_list pl.isList (by simp only [List.size_toArray] <;> lia) ⟨.int ys.length,H,I.tok _,⟨s.toks + 1,by rw [List.size_toArray,hlen]⟩,q⟩
 ·obtain ⟨its,r',pl,hz⟩:=I.tuple hq
  have hlen:=r'.length
  exact len_tuple pl (by simp only [List.size_toArray] <;> lia) ⟨.int ys.length,H,I.tok _,⟨s.toks + 1,by rw [List.size_toArray,hlen]⟩,q⟩
theorem call_len_str:CallR X (.builtin "len") (fun xs H Q=>∃ z,xs=[.str z]∧z.length≤sizeLine∧Q (.int z.length) H):=by
 intro pins s σ H xs us Q I r h
 obtain ⟨z,rfl,hz,q⟩:=h
 obtain ⟨u,rfl,t,rfl⟩:=vals1 r
 have hn:=line63
 exact len_str (by lia) ⟨.int z.length,H,I.tok _,⟨_,rfl⟩,q⟩
theorem CallR.or {f:Value} {r r':List V→Hp→VK→Prop} (h:CallR X f r) (h':CallR X f r'):CallR X f (fun xs H Q=>r xs H Q∨r' xs H Q):=by
 intro pins s σ H xs us Q I rs q
 rcases q with q | q
 ·exact h pins s σ H xs us Q I rs q
 ·exact h' pins s σ H xs us Q I rs q
theorem call_list_of:CallR X (.type "list") (fun xs H Q=>∃ p ys,xs=[.ref p]∧(SqL X.K H p ys∨SqT X.K H p ys)∧∀ l,H l=none→Q (.ref l) (upd H l (.lst ys))):=by
 intro pins s σ H xs us Q I r h
 obtain ⟨p,ys,rfl,hq,q⟩:=h
 obtain ⟨u,rfl,rx⟩:=vals1 r
 cases rx
 have fin:∀ (its:List Value),Vals ys its→ys.length≤sizeLine→∀ (h':Heap) (c':Nat),(∀ b o',s.heap.get? b=some o'→h'.get? b=some o')→
   h'.get? s.heap.objs.size=some { cls:=.type "list",dict:=none,data:=.seq its.toArray c',slots:=#[] }→EP X pins σ Q (.ref s.heap.objs.size) { s with heap:=h' }:=fun its r' hz h' c' kp e=>
  ⟨.ref s.heap.objs.size,_,I.laid (t':=s.toks) kp (Nat.le_refl _) (show ObjOk X.prog X.w _ h' _ (.lst ys) from ⟨hz,its,c',r',e⟩),rfl,q _ (I.hok.fresh (Nat.le_refl _))⟩
 rcases hq with hq | hq
 ·obtain ⟨its,r',pl,hz⟩:=I.list hq
  have hlen:=r'.length
  obtain ⟨o,ho,hc,n,hd⟩:=pl.isList
  exact call_list_seq p (.inl rfl) ho hc hd (fun h' c' kp e=>fin its r' hz h' c' kp e) (by simp only [List.size_toArray] <;> lia)
 ·obtain ⟨its,r',pl,hz⟩:=I.tuple hq
  have hlen:=r'.length
  obtain ⟨o,ho,hc,n,hd⟩:=pl
  exact call_list_seq p (.inr rfl) ho hc hd (fun h' c' kp e=>fin its r' hz h' c' kp e) (by simp only [List.size_toArray] <;> lia)
theorem call_tuple_of:CallR X (.type "tuple") (fun xs H Q=>∃ p ys,xs=[.ref p]∧((SqL X.K H p ys∧∀ l,H l=none→Q (.ref l) (upd H l (.tup ys)))∨(SqT X.K H p ys∧Q (.ref p) H))):=by
 intro pins s σ H xs us Q I r h
 obtain ⟨p,ys,rfl,h⟩:=h
 obtain ⟨u,rfl,rx⟩:=vals1 r
 cases rx
 rcases h with ⟨hq,q⟩ | ⟨hq,q⟩
 ·obtain ⟨its,r',pl,hz⟩:=I.list hq
  have hlen:=r'.length
  refine call_tuple_list pl.isList (fun h' kp=>?_) (by simp only [List.size_toArray] <;> lia)
  have I1:Inv X pins σ H { s with heap:=h' }:=I.kept (t':=s.toks) kp
  have I2:Inv X pins σ (upd H h'.objs.size (.tup ys)) { s with heap:=h'.push { cls:=.type "tuple",data:=.seq its.toArray } }:=
   I1.laid (t':=s.toks) (fun b o e=>Heap.get?_push_of_some _ e) (Nat.le_refl _) (show ObjOk X.prog X.w _ _ _ (.tup ys) from ⟨hz,its,r',IsTupN.new _ _⟩)
  exact ⟨.ref h'.objs.size,_,I2,rfl,q _ (I1.hok.fresh (Nat.le_refl _))⟩
 ·obtain ⟨its,r',pl,hz⟩:=I.tuple hq
  exact call_tuple_same pl ⟨.ref p,H,I,rfl,q⟩
noncomputable def tyV (K:PySem.W.Frag) (T:String) (x:V) (H:Hp):Prop:=match x with
 | .str _=>T="str"
 | .int _=>T="int"
 | .ref p=>(T="list"∧∃ xs,SqL K H p xs)∨(T="tuple"∧∃ o,K.lookup p=some o∧o.cls=.type "tuple"∧o.dict=none)∨
   (T="dict"∧((∃ kvs,H p=some (.dK kvs))∨∃ kvs,H p=some (.dT kvs)))∨(T="set"∧∃ S n,H p=some (.set S n))
 | _=>False
theorem tyV_is {pins:List (Addr×Obj)} {σ:St} {H:Hp} {s:Shared} {T:String} {x:V} {v:Value} (I:Inv X pins σ H s) (r:RelV x v) (ty:tyV X.K T x H):
  s.TypeIs v T∧∀ a,v=.ref a→∃ ob,s.heap.get? a=some ob∧ob.dict=none:=by
 cases x with
 | str z=>
  obtain ⟨t,rfl⟩:=r
  cases (show T="str" from ty)
  exact ⟨typeIs_str s z t,fun _ e=>nomatch e⟩
 | int i=>
  obtain ⟨t,rfl⟩:=r
  cases (show T="int" from ty)
  exact ⟨typeIs_int s i t,fun _ e=>nomatch e⟩
 | ref p=>
  cases r
  rcases ty with ⟨rfl,xs,hq⟩ | ⟨rfl,o,hk,hc,hd⟩ | ⟨rfl,hk⟩ | ⟨rfl,S,n,hk⟩
  ·obtain ⟨its,_,pl,_⟩:=I.list hq
   refine ⟨pl.isList.typeIs,fun a e=>?_⟩
   cases e
   obtain ⟨o,n,e,c,hd,_⟩:=pl
   exact ⟨o,e,hd⟩
  ·refine ⟨⟨o,I.kIn p o hk,hc⟩,fun a e=>?_⟩
   cases e
   exact ⟨o,I.kIn _ o hk,hd⟩
  ·have z:∃ o,s.heap.get? p=some o∧o.ExactDict:=by
    rcases hk with ⟨kvs,hk⟩ | ⟨kvs,hk⟩
    ·obtain ⟨_,_,_,_,o,_,_,e,ex,_⟩:=I.hok p _ hk
     exact ⟨o,e,ex⟩
    ·obtain ⟨_,_,_,_,o,_,_,e,ex,_⟩:=I.hok p _ hk
     exact ⟨o,e,ex⟩
   obtain ⟨o,e,ex⟩:=z
   refine ⟨⟨o,e,ex.1⟩,fun a e2=>?_⟩
   cases e2
   exact ⟨o,e,ex.2.1⟩
  ·obtain ⟨o,_,_,_,e,ex,_⟩:=I.hok p _ hk
   refine ⟨⟨o,e,ex.1⟩,fun a e2=>?_⟩
   cases e2
   exact ⟨o,e,ex.2.1⟩
 | _=>exact False.elim ty
noncomputable def tBM0 (K:PySem.W.Frag) (T:String) (r:V→List V→Hp→VK→Prop) (to:TE):TE:=fun σ H Q=>to σ H fun x H1=>tyV K T x H1∧r x [] H1 Q
noncomputable def tBM (K:PySem.W.Frag) (T:String) (r:V→List V→Hp→VK→Prop) (to:TE) (t:TA):TE:=fun σ H Q=>to σ H fun x H1=>tyV K T x H1∧t σ H1 fun xs H2=>r x xs H2 Q
variable {o e:Expr} {es:List Expr} {to:TE} {t:TA} {name:Str} {apos cpos:Pos} {T id:String} {r:V→List V→Hp→VK→Prop}
theorem pe_bm (pa:PlainAttrs T) (slot:Slot T name id) (hty:typeOf (.builtin id)=pure (.type "method_descriptor")) (hm:MtR X id r) (ho:PE X o to) (ha:PA X (e::es) t)
  (hbase:attributeBase o name X.env (eval o X.env)=eval o X.env:=by rfl)
  (hfew:((backTo cpos (starEach (e::es) X.env)).all (fun x=> !x.1)&&(backToKw cpos (keywordEach [] X.env)).all (fun x=>x.1.isSome)
   &&decide ((e::es).length + ([]:List Keyword).length + (if ([]:List Keyword).isEmpty then 0 else 1) < 30))=true:=by rfl)
  (hline:(apos.endLine==cpos.line)=true:=by rfl) (hs:starEach (e::es) X.env=(false,eval e X.env)::starEach es X.env:=by rfl) (hplain:(backTo cpos (starEach es X.env)).any (·.1)=false:=by rfl):
  PE X (.Call (.Attribute o name apos) (e::es) [] cpos) (tBM X.K T r to t):=by
 intro pins s σ H Q I h
 refine wpAny_Call_method_late hbase hfew hline rfl (thn (ho pins s σ H _ I h) fun v s1 ⟨x,H1,I1,r1,ty,q1⟩=>?_)
 obtain ⟨h1,h2⟩:=tyV_is I1 r1 ty
 refine ⟨T,id,pa,slot,hty,h1,h2,?_⟩
 have hA:=ha cpos pins s1 σ H1 _ I1 q1
 rw [hs] at hA ⊢
 refine Calls.callWith_builtin (by show (false||(backTo cpos (starEach es X.env)).any (·.1))=false;rw [hplain] <;> rfl) (Calls.evalArgs_plain ?_)
 exact thn hA fun us s2 ⟨vs,H2,I2,r2,q2⟩=>hm pins s2 σ H2 x vs v us Q I2 r1 r2 q2
end
end L2
namespace L2
open PySem PySem.Spec PyProof.Rows
noncomputable def MtM (X:Cx) (id:String) (r:V→List V→Hp→VK→Prop):Prop:=
 ∀ (pins:List (Addr×Obj)) (s:Shared) (σ:St) (H:Hp) (x:V) (xs:List V) (v:Value) (us:List Value) (Q:VK),Inv X pins σ H s→RelV x v→Vals xs us→r x xs H Q→
  wpAny (model X.prog X.w) X.A (call (.builtin id) (v::us)) (EP X pins σ Q) X.xe s
theorem Vals.one:∀ {x:V} {us:List Value},Vals [x] us→∃ u,us=[u]∧RelV x u
 | _,_,.cons r .nil=>⟨_,rfl,r⟩
theorem Vals.two {x y:V} {us:List Value} (h:Vals [x,y] us):∃ u v,us=[u,v]∧RelV x u∧RelV y v:=by
 cases h with
 | cons r t=>
 cases t with
 | cons q t=>
 cases t
 exact ⟨_,_,rfl,r,q⟩
theorem Vals.dropLast {xs:List V} {us:List Value} (h:Vals xs us):Vals xs.dropLast us.dropLast:=by
 induction h with
 | nil=>exact .nil
 | cons r t ih=>
  cases t with
  | nil=>exact .nil
  | cons q t'=>exact .cons r ih
section
variable {X:Cx} {pins:List (Addr×Obj)} {σ:St} {H:Hp} {s:Shared} {l b:Addr} {xs ys zs:List V}
theorem Inv.lset {its its':List Value} {n:Nat} {f:Array Value→Array Value} {t':Nat} (I:Inv X pins σ H s) (hH:H l=some (.lst xs))
  (e:s.heap.get? l=some { cls:=.type "list",data:=.seq its.toArray n }) (hf:f its.toArray=its'.toArray) (hv:Vals ys its') (hz:ys.length≤sizeLine):
  Inv X pins σ (upd H l (.lst ys)) { s with heap:=s.heap.update l (Obj.mapSeq f),toks:=t' }:=by
 have q:=PySem.IsL.update e f
 rw [hf] at q
 refine I.write (x:=l) (e:=l) (by rw [hH];exact trivial) (.inl rfl) (fun b' u hb hu=>(Heap.get?_update_other s.heap (Obj.mapSeq f) (Ne.symm hb)).trans hu) ⟨_,q⟩ ?_
 exact ⟨hz,its',_,hv,q⟩
theorem Inv.lnew {its:List Value} {t':Nat} (I:Inv X pins σ H s) (hv:Vals ys its) (hz:ys.length≤sizeLine):
  Inv X pins σ (upd H s.heap.objs.size (.lst ys)) { s with heap:=s.heap.push { cls:=.type "list",data:=.seq its.toArray },toks:=t' }:=
 I.laid (fun _ _ q=>Heap.get?_push_of_some _ q) (Nat.le_refl _) ⟨hz,its,0,hv,Heap.get?_push_size _ rfl⟩
theorem Inv.fresh (I:Inv X pins σ H s):H s.heap.objs.size=none:=I.hok.fresh (Nat.le_refl _)
theorem Inv.lstM (I:Inv X pins σ H s) (hH:H l=some (.lst xs)):xs.length≤sizeLine∧∃ (its:List Value) (n:Nat),Vals xs its∧xs.length=its.length∧s.heap.get? l=some { cls:=.type "list",data:=.seq its.toArray n }:=by
 obtain ⟨z,its,n,r,e⟩:=I.hok l _ hH
 exact ⟨z,its,n,r,r.length,e⟩
theorem notLongL {n:Nat} (h:n≤sizeLine):Builtin.List.listTooLong n=false:=by
 unfold Builtin.List.listTooLong
 exact decide_eq_false (by lia)
end
section
variable {X:Cx}
noncomputable def rAppend:V→List V→Hp→VK→Prop:=fun x vs H Q=>∃ l xs y,x=.ref l∧vs=[y]∧H l=some (.lst xs)∧xs.length < sizeLine∧Q .non (upd H l (.lst (xs++[y])))
theorem mt_append:MtM X "list.append" rAppend:=by
 intro pins s σ H x vs v us Q I rx rv h
 obtain ⟨l,xs,y,rfl,rfl,hH,hz,q⟩:=h
 cases rx
 obtain ⟨u,rfl,ru⟩:=rv.one
 obtain ⟨z,its,n,r,hl,e⟩:=I.lstM hH
 refine call_meets F.slot_list_append ⟨_,e,rfl⟩ F.entry_list_append (F.args_list_append_2 _ _) (PySem.list_append l its.toArray n u (by rw [List.size_toArray];lia)) ⟨e,?_⟩
 refine ⟨.non,_,I.lset (its':=its++[u]) hH e (by simp) (r.append (.cons ru .nil)) ?_,rfl,q⟩
 rw [List.length_append,List.length_singleton]
 lia
noncomputable def rExtend:V→List V→Hp→VK→Prop:=fun x vs H Q=>∃ l b xs zs,x=.ref l∧vs=[.ref b]∧H l=some (.lst xs)∧H b=some (.lst zs)∧xs.length + zs.length≤sizeLine∧Q .non (upd H l (.lst (xs++zs)))
theorem mt_extend:MtM X "list.extend" rExtend:=by
 intro pins s σ H x vs v us Q I rx rv h
 obtain ⟨l,b,xs,zs,rfl,rfl,hH,hB,hz,q⟩:=h
 cases rx
 obtain ⟨u,rfl,ru⟩:=rv.one
 cases ru
 obtain ⟨z,its,n,r,hl,e⟩:=I.lstM hH
 obtain ⟨z2,its2,n2,r2,hl2,e2⟩:=I.lstM hB
 have hsz:its.toArray.size + its2.toArray.size≤sizeLine:=by rw [List.size_toArray,List.size_toArray];lia
 have hlong:¬(!its.toArray.isEmpty&&Builtin.List.listTooLong (its.toArray.size + its2.toArray.size))=true:=by
  rw [notLongL hsz,Bool.and_false]
  exact Bool.false_ne_true
 refine call_meets F.slot_list_extend ⟨_,e,rfl⟩ F.entry_list_extend (F.args_list_extend_2 _ _)
  (AutoSeq1.list_extend_list_list_0 l its.toArray n b its2.toArray n2 hlong (by rw [List.size_toArray];lia) (by lia)) ⟨e,e2,?_⟩
 refine ⟨.non,_,I.lset (its':=its++its2) hH e (by simp) (r.append r2) ?_,rfl,q⟩
 rw [List.length_append]
 lia
end
section
variable {prog:Program} {w:World} {A:Around} {E:Value→Shared→Prop} {s:Shared}
end
section
variable {X:Cx}
end
end L2
namespace Att
open PySem PySem.W PySem.Calls PyProof.Rows
theorem ints_of_wellAll {P:Params} {h:Heap}:∀ (ns:List Int) (vs:List Value),WellAll P h vs (ns.map WData.int)→IntsAre vs ns:=by
 intro ns
 induction ns with
 | nil=>
  intro vs w
  rw [List.map_nil] at w
  cases w
  exact .nil
 | cons n ns ih=>
  intro vs w
  rw [List.map_cons] at w
  cases w with
  | cons a b=>
   cases a
   exact .cons _ _ (ih _ b)
theorem script_of {l:OpenLaw} {n:Nat} (hn:l.most=some n) {P:Params} {h:Heap} {args:List WData} {vals:List Value}
  (hpre:l.row.toRowW.claim.pre args=true) (hwl:WellAll P h vals args):
  ∃ a vs ns,vals=[Value.ref a]∧args=[WData.list (ns.map WData.int)]∧h.get? a=some { cls:=.type "list",data:=.seq vs.toArray }∧IntsAre vs ns∧ns.length≤n:=by
 have hsh:WShape.hasAll [] args [.list .int]=true:=(pre_splitW hpre).1
 have hc:l.pre.holds [] { args:=args }=true:=(pre_splitW hpre).2
 obtain ⟨d,r,rfl,h1,h2⟩:=hasAllW_cons hsh
 obtain rfl:=hasAllW_nil h2
 obtain ⟨xs,rfl,h3⟩:=hasW_list h1
 obtain ⟨ns,rfl⟩:=items_int h3
 have hlen:ns.length≤n:=by
  unfold OpenLaw.pre at hc
  have h4:(WTm.not (.lt (.lit (.int (n:Int))) (.len (.arg 0)))).holds [] { args:=[.list (ns.map .int)] }=true:=by
   have h4:=(holds_andW hc).1
   rw [hn] at h4
   exact h4
  have h5:=condW_of h4 (w_not (w_lt w_lit (w_len_list (w_arg rfl))))
  rw [List.length_map] at h5
  refine Nat.le_of_not_lt fun q=>?_
  have q':(n:Int) < ((ns.length:Nat):Int):=by lia
  first
   | (rw [decide_eq_true q'] at h5;exact absurd h5 (by decide))
   | (simp at h5;lia)
 cases hwl with
 | cons w1 w2=>
  cases w2
  cases w1 with
  | list ho hall=>exact ⟨_,_,ns,rfl,rfl,ho,ints_of_wellAll ns _ hall,hlen⟩
theorem post_true (l:OpenLaw) (args:List WData):l.row.toRowW.claim.post args (.bool true) args=true:=
 postW_of (r:=l.row.toRowW) (X:=(true==true))
  (show WShape.has [] (.bool true) .bool=true by first | rfl | decide | simp [WShape.has,WShape.arms,WShape.armsAll])
  (show (WTm.eq .res (.lit (.bool true))).value [] { args:=args,res:=some (.bool true),after:=args }=some (.bool (true==true)) from w_eq_bool (w_res rfl) w_lit) rfl
theorem attach_call {l:OpenLaw} {n:Nat} {q:Program} {loose:List Str} {XP:(Str→Option Value)→Heap→Prop} {YP:World→Heap→Prop} {d:DefRec}
  (hn:l.most=some n) (hdf:d.params.defaults=[])
  (call:∀ (w:World) (s₀ s₁:Shared) (mg mb:Str→Option Value) (fa:Addr) (o:Obj) (pm cd doc:Value) (a:Addr) (vs:List Value) (ns:List Int),
   Ground q loose [] XP w s₀ mg mb s₁.heap→YP w s₁.heap→
   s₁.heap.get? fa=some o→o.data=.func (docDef d.name d.params d.body d.scope pm cd doc)→s₁.heap.CodeRec cd d.name→mg d.name=some (.ref fa)→
   s₁.heap.get? a=some { cls:=.type "list",data:=.seq vs.toArray }→IntsAre vs ns→ns.length≤n→s₁.gens=#[]→
   codeAny (model l.prog w) callerA (.call (.ref fa) ⟨[.ref a],[]⟩) (fun r s'=>r=.ok (.ret (.bool true))∧OldK s₁.heap s'.heap∧s'.os=s₁.os∧AllBare s'.gens) s₁):
  WalkO q loose XP YP l.row.toRowW d [] (fun f vs=>PySem.call f vs):=by
 intro w s₀ s₁ mg mb G Y fa o pm cd doc dV kV ho hd hcd hD hmg hg args vals as hpre hlay hrd hwl hlo
 obtain rfl:dV=.none:=Dflts.none hD hdf
 obtain rfl:kV=.none:=Dflts.noKw hD
 obtain ⟨a,vs,ns,rfl,rfl,hobj,hints,hlen⟩:=script_of hn hpre hwl
 refine enter_call (codeAny_mono (call w s₀ s₁ mg mb fa o pm cd doc a vs ns G Y ho (fd_plain hd) hcd hmg hobj hints hlen hg) fun r s' hq=>?_)
 obtain ⟨rfl,h2,h3,h4⟩:=hq
 exact ⟨.inl ⟨.bool true,.bool true,[],rfl,fun _=>rfl,.bool true,post_true l _,fun _=>⟨List.Pairwise.nil,fun _ hm=>(nomatch hm)⟩⟩,h2,h3,h4⟩
section
variable {prog:Program} {w:World} {A:Around} {E:Value→Shared→Prop} {s:Shared} {K:Frag}
end
end Att
namespace L2
open PySem PySem.Spec PyProof.Rows
theorem vals_ints:∀ {vs:List Value} {ns:List Int},IntsAre vs ns→Vals (ns.map V.int) vs
 | _,_,.nil=>.nil
 | _,_,.cons n t h=>.cons ⟨t,rfl⟩ (vals_ints h)
noncomputable def Only (H:Hp):Prop:=∀ b,H b=none∨∃ o xs,H b=some (.frz o (.lst xs))
theorem law_call {P:Program} {w:World} {K:PySem.W.Frag} {mg mb:Str→Option Value} {CX:CXT} {k:Nat} {fa a:Addr} {fd:FuncData} {x:Str} {sp:Sp} {s₁:Shared} {vs:List Value} {ns:List Int}
  (KX:K.In s₁.heap) (hns:s₁.heap.Ns mainGlobals mg) (hb:s₁.heap.Ns builtinsNs mb) (hbb:∀ x:Str,x≠"__name__"→mb x=bootBuiltins x) (hlim:s₁.heap.NoLimit) (hg:s₁.gens=#[])
  (ha:s₁.heap.get? a=some { cls:=.type "list",data:=.seq vs.toArray }) (hi:IntsAre vs ns) (hl:ns.length≤sizeLine) (hr:Room k callerA)
  (F:∀ base:Heap,K.In base→base.Ns mainGlobals mg→FnOk P w K mg base CX k fa fd [x] sp) (hbind:∀ (s:Shared) (u:Value),BindsTo s fd ⟨[u],[]⟩ [(x,u)])
  (hsp:∀ H:Hp,Only H→SqL K H a (ns.map V.int)→sp [.ref a] H (fun v _=>v=.bl true) fun _ _ _=>False)
  (hCX:∀ H e s',CX [] H s₁ (fun _ _ _=>False) e s'→False):
  codeAny (model P w) callerA (.call (.ref fa) ⟨[.ref a],[]⟩) (fun r s'=>r=.ok (.ret (.bool true))∧OldK s₁.heap s'.heap∧s'.os=s₁.os∧AllBare s'.gens) s₁:=by
 have rv:=vals_ints hi
 have lenV:=hi.length
 have core:∀ H:Hp,Only H→SqL K H a (ns.map V.int)→HOk P w H s₁.heap→(∀ b,H b≠none→b=a)→(H a≠none→K.lookup a=none)→
   codeAny (model P w) callerA (.call (.ref fa) ⟨[.ref a],[]⟩) (fun r s'=>r=.ok (.ret (.bool true))∧OldK s₁.heap s'.heap∧s'.os=s₁.os∧AllBare s'.gens) s₁:=by
  intro H hO hS hok hA hK
  have base_of:∀ {b:Addr} {o:Obj},s₁.heap.get? b=some o→H b=none→(hidT s₁.heap H).get? b=some o:=fun e n=>hidT_get e n
  have noA:∀ {b:Addr} {o:Obj} {es:Array DictEntry} {ep:Nat},s₁.heap.get? b=some o→o.data=.dict es ep→H b=none:=fun {b o es ep} e d=>by
   cases q:H b with
   | none=>rfl
   | some u=>
    have e':b=a:=hA b (by rw [q];simp)
    subst e'
    rw [ha] at e;cases e
    have d':Data.seq vs.toArray _=Data.dict es ep:=d
    cases d'
  have nsK:∀ {b:Addr} {m:Str→Option Value},s₁.heap.Ns b m→(hidT s₁.heap H).Ns b m:=fun {b m} ⟨o,es,ep,e,d,r⟩=>⟨o,es,ep,base_of e (noA e d),d,r⟩
  have hKb:K.In (hidT s₁.heap H):=fun b o e=>base_of (KX b o e) (by
   cases q:H b with
   | none=>rfl
   | some u=>
    have e':b=a:=hA b (by rw [q];simp)
    subst e'
    rw [hK (by rw [q];simp)] at e;cases e)
  have hM:Mod K mg (hidT s₁.heap H):=⟨hKb,nsK hns,⟨mb,nsK hb,hbb⟩,let ⟨mc,h1,h2⟩:=hlim;⟨mc,nsK h1,h2⟩⟩
  have e0:Env0 P w K mg (hidT s₁.heap H) callerA [] s₁ H:=⟨rfl,hM,fun b o e=>of_hidT e,Nat.le_of_eq (hidT_size _ _),trivial,fun b hb=>absurd (show b∈([]:List Addr) from hb) (by simp),hok,.of_eq hg⟩
  refine codeAny_mono ((F _ hKb (nsK hns)).run callerA [] s₁ H ⟨[.ref a],[]⟩ [.ref a] [.ref a] _ _ hr e0 (hbind s₁ (.ref a)) (.cons rfl .nil) (hsp H hO hS)) fun r s' h=>?_
  cases r with
  | error e=>exact (hCX H e s' h).elim
  | ok fl=>
   cases fl with
   | next=>exact False.elim h
   | brk=>exact False.elim h
   | cont=>exact False.elim h
   | ret u=>
    obtain ⟨v,H',os,bare,un,hok',r',q⟩:=h
    have q':v=.bl true:=q
    subst q'
    obtain rfl:u=Value.bool true:=r'
    refine ⟨rfl,OldK.of_keep fun b o e=>?_,os,bare⟩
    cases q:H b with
    | none=>exact un.keep b o e q (by intro z;exact absurd (show b∈([]:List Addr) from z) (by simp)) (by simp)
    | some u=>
     rcases hO b with z | ⟨ob,xs,z⟩
     ·rw [q] at z;cases z
     ·have z2:=un.frzs b ob _ z
      obtain ⟨e1,_⟩:=hok b _ z
      obtain ⟨e2,_⟩:=hok' b _ z2
      rw [e] at e1;cases e1
      exact e2
 cases hk:K.lookup a with
 | some o=>
  have e:=KX a o hk
  rw [ha] at e
  cases e
  refine core (fun _=>none) (fun _=>.inl rfl) (.inr ⟨_,vs.toArray,_,hk,rfl,rfl,rfl,by rw [List.size_toArray,lenV];exact hl,by simpa using rv⟩) (fun b u z=>by have z':(none:Option HO)=some u:=z;cases z') (fun b z=>absurd rfl z) fun z=>absurd rfl z
 | none=>
  refine core (fun b=>if b=a then some (.frz { cls:=.type "list",data:=.seq vs.toArray } (.lst (ns.map V.int))) else none) (fun b=>?_) (.inl (.inr ⟨{ cls:=.type "list",data:=.seq vs.toArray },if_pos rfl⟩)) (fun b u z=>?_) (fun b z=>?_) fun _=>hk
  ·by_cases hb:b=a
   ·exact .inr ⟨_,_,if_pos hb⟩
   ·exact .inl (if_neg hb)
  ·by_cases hb:b=a
   ·have z':=(if_pos hb).symm.trans z
    cases z'
    subst hb
    exact ⟨ha,by rw [List.length_map];exact hl,vs,_,rv,ha⟩
   ·have z':=(if_neg hb).symm.trans z
    cases z'
  ·by_cases hb:b=a
   ·exact hb
   ·exact absurd (if_neg hb) z
end L2
namespace L2
open PySem PySem.Spec PyProof.Rows
noncomputable abbrev KOf {K:PySem.W.Frag} {h:Heap} (_:K.In h):PySem.W.Frag:=K
theorem walk_of {l:PySem.W.OpenLaw} {n k:Nat} {q:Program} {loose:List Str} {XP:(Str→Option Value)→Heap→Prop} {YP:World→Heap→Prop} {d:DefRec} {K:Params→PySem.W.Frag} {CX:World→CXT} {sp:World→Sp} {x:Str}
  (hn:l.most=some n) (hn2:n≤sizeLine) (hdf:d.params.defaults=[]) (hr:Room k callerA)
  (hY:∀ (w:World) (h:Heap),YP w h→(K w.params).In h)
  (F:∀ (w:World) (mg:Str→Option Value) (fa:Addr) (h:Heap),(K w.params).In h→h.Ns mainGlobals mg→mg d.name=some (.ref fa)→
   ∃ fd:FuncData,(∀ (s:Shared) (u:Value),BindsTo s fd ⟨[u],[]⟩ [(x,u)])∧
    ∀ base:Heap,(K w.params).In base→base.Ns mainGlobals mg→FnOk l.prog w (K w.params) mg base (CX w) k fa fd [x] (sp w))
  (hsp:∀ (w:World) (H:Hp) (a:Addr) (ns:List Int),ns.length≤n→Only H→SqL (K w.params) H a (ns.map V.int)→sp w [.ref a] H (fun v _=>v=.bl true) fun _ _ _=>False)
  (hCX:∀ (w:World) (H:Hp) (s:Shared) (e:Value) (s':Shared),CX w [] H s (fun _ _ _=>False) e s'→False):
  PySem.W.WalkO q loose XP YP l.row.toRowW d [] (fun f vs=>PySem.call f vs):=by
 refine Att.attach_call hn hdf fun w s₀ s₁ mg mb fa o pm cd doc a vs ns G Y ho hd hcd hmg hobj hints hlen hg=>?_
 have KX:=hY w _ Y
 obtain ⟨fd,hb,hF⟩:=F w mg fa _ KX G.T.g hmg
 exact law_call KX G.T.g G.T.b G.T.builtins G.T.nolimit hg hobj hints (Nat.le_trans hlen hn2) hr hF hb (fun H hO hS=>hsp w H a ns hlen hO hS) fun H e s'=>hCX w H s₁ e s'
end L2
namespace L2
open PySem PySem.Spec PyProof.Rows
noncomputable def inClass (s:Stmt) (j:Nat):Stmt:=match s with
 | .ClassDef _ _ _ body _ _ _ _ _ _ _=>body.getD j (.Pass ⟨0,0,0,0⟩)
 | _=>.Pass ⟨0,0,0,0⟩
noncomputable def defArgs (s:Stmt):Arguments:=match s with
 | .FunctionDef _ a _ _ _ _ _ _ _ _=>a
 | _=>{ posonlyargs:=[],args:=[],vararg:=none,kwonlyargs:=[],kw_defaults:=[],kwarg:=none,defaults:=[] }
noncomputable def defBody (s:Stmt):List Stmt:=match s with
 | .FunctionDef _ _ b _ _ _ _ _ _ _=>b
 | _=>[]
noncomputable def defScope (s:Stmt):Scope:=match s with
 | .FunctionDef _ _ _ _ _ _ sc _ _ _=>sc
 | _=>{ kind:=.function,names:=[],isGenerator:=false,isCoroutine:=false }
noncomputable abbrev CX0:CXT:=fun _ _ _ _ _ _=>False
noncomputable abbrev E0:XK:=fun _ _ _=>False
theorem pass0 {X:Cx}:Passes CX0 X E0:=fun _ _ _ _ _ _ _ h=>h.elim
structure Fun (K:PySem.W.Frag) (x qual:Str) (st:Stmt) (f:Addr) (fd:FuncData):Prop where
 ex:∃ (oc:Value) (od:Option Addr) (kV doc pm:Value) (an:Option Addr) (cdv ct:Value) (osl:Array (Option Value)),
  fd=PySem.W.fnOf x qual (defArgs st) (defBody st) (defScope st) .none kV doc pm an cdv ct∧K.lookup f=some ⟨oc,od,.func fd,osl⟩∧PySem.W.codeIn K cdv qual=true
 kp:PySem.W.keepIn K (.ref f)=true
section
variable {P:Program} {w:World} {K:PySem.W.Frag} {mg:Str→Option Value} {base:Heap}
theorem Fun.ok {x qual:Str} {st:Stmt} {f:Addr} {fd:FuncData} {N ps:List Str} {k:Nat} {sp:Sp} (F:Fun K x qual st f fd) (S:FnScope N ps (defScope st)) (len:∀ vs H Q E,sp vs H Q E→vs.length=ps.length)
  (hbody:∀ (cdv:Value) (A:Around) (outer:List Env) (s:Shared) (H:Hp) (vs:List V) (Q:VK) (E:XK),Room k (A.deeper (envOfC qual (defScope st) s.heap.objs.size f cdv))→sp vs H Q E→
   ∃ t,PSs (cxOf CX0 P w K mg base N qual (defScope st) f cdv A outer s H E).nox (defBody st) t∧t { nx:=fun _ H'=>Q .non H',rt:=Q } (start N vs) H):FnOk P w K mg base CX0 (k + 1) f fd ps sp:=by
 obtain ⟨oc,od,kV,doc,pm,an,cdv,ct,osl,rfl,lk,hcd⟩:=F.ex
 refine fn_of lk hcd S len fun A outer s H vs Q E hr hsp=>?_
 obtain ⟨t,h,q⟩:=hbody cdv A outer s H vs Q E hr hsp
 exact ⟨t,h.nox,q⟩
theorem Fun.binds {x qual:Str} {st:Stmt} {f:Addr} {fd:FuncData} {ps:List Str} (F:Fun K x qual st f fd)
  (h:∀ (kV doc pm:Value) (an:Option Addr) (cdv ct:Value) (us:List Value),us.length=ps.length→bindArgs (PySem.W.fnOf x qual (defArgs st) (defBody st) (defScope st) .none kV doc pm an cdv ct) ⟨us,[]⟩=pure (ps.zip us)):Binds K fd ps []:=by
 obtain ⟨oc,od,kV,doc,pm,an,cdv,ct,osl,rfl,lk,hcd⟩:=F.ex
 exact .all (h kV doc pm an cdv ct)
theorem fun_mk {x qual:Str} {st:Stmt} {f:Addr} {oc:Value} {od an:Option Addr} {osl:Array (Option Value)} {kV doc pm cdv ct:Value} (l:K.lookup f=some ⟨oc,od,.func (PySem.W.fnOf x qual (defArgs st) (defBody st) (defScope st) .none kV doc pm an cdv ct),osl⟩)
  (c:PySem.W.codeIn K cdv qual=true) (k:PySem.W.keepIn K (.ref f)=true):Fun K x qual st f (PySem.W.fnOf x qual (defArgs st) (defBody st) (defScope st) .none kV doc pm an cdv ct):=⟨⟨oc,od,kV,doc,pm,an,cdv,ct,osl,rfl,l,c⟩,k⟩
end
theorem small1000 {n:Nat} (h:n≤1000):n < sizeLine:=Nat.lt_of_le_of_lt h (by decide)
section
variable {X:Cx}
theorem pv (i:Nat) {x:Str} {pos:Pos} (hN:X.N[i]? =some x:=by rfl) (hv:Vis X.env.scope x:=by first | exact Or.inl rfl | exact Or.inr (Or.inl rfl) | exact Or.inr (Or.inr rfl)) (hd:(x==("__debug__":Str))=false:=by decide)
  (hcd:(x==("__classdict__":Str))=false:=by decide):PE X (.Name x pos) (tVar i):=pe_var hN hv hd hcd
end
theorem iteF {A B:Prop} (h:B):if false=true then A else B:=by
 rw [if_neg Bool.false_ne_true]
 exact h
theorem iteT {A B:Prop} (h:A):if true=true then A else B:=by
 rw [if_pos rfl]
 exact h
noncomputable def Same (H H':Hp):Prop:=∀ b o,H b=some o→H' b=some o
theorem Same.refl (H:Hp):Same H H:=fun _ _ h=>h
theorem Same.trans {H H1 H2:Hp} (a:Same H H1) (b:Same H1 H2):Same H H2:=fun c o h=>b c o (a c o h)
theorem Same.free {H H':Hp} (e:Same H H') {l:Addr} (h:H' l=Option.none):H l=Option.none:=by
 cases q:H l with
 | none=>rfl
 | some o=>
  rw [e l o q] at h
  cases h
theorem Same.seq {K:PySem.W.Frag} {H H':Hp} {a:Addr} {xs:List V} (e:Same H H') (h:SqL K H a xs):SqL K H' a xs:=by
 rcases h with (h | ⟨o,h⟩) | h
 ·exact .inl (.inl (e _ _ h))
 ·exact .inl (.inr ⟨o,e _ _ h⟩)
 ·exact .inr h
end L2
namespace L2
open PySem PySem.Spec PyProof.Rows
noncomputable def closL (env:Env):List (Str×NameKind)→List (Str×Addr)→List (Str×Addr)
 | [],cs=>cs
 | (n,k)::r,cs=>closL env r (if k==.free then (match env.cells.lookup n with | some a=>(n,a)::cs | none=>cs) else cs)
noncomputable def FrOk (env:Env):List (Str×NameKind)→Prop
 | []=>True
 | (n,k)::r=>(match k with | .free=>(env.kindOf n=some .cell∨env.kindOf n=some .free) | .cell=>False | _=>True)∧FrOk env r
theorem FrOk.free {env:Env}:∀ {ns:List (Str×NameKind)} {n:Str},FrOk env ns→(n,NameKind.free)∈ns→env.kindOf n=some .cell∨env.kindOf n=some .free
 | [],_,_,h=>by cases h
 | (m,k)::r,n,f,h=>by
  obtain ⟨a,b⟩:=f
  rcases List.mem_cons.mp h with e | e
  ·cases e;exact a
  ·exact b.free e
theorem FrOk.nocell {env:Env}:∀ {ns:List (Str×NameKind)},FrOk env ns→∀ y∈ns,y.2≠.cell
 | [],_,_,h=>by cases h
 | (m,k)::r,f,y,h=>by
  obtain ⟨a,b⟩:=f
  rcases List.mem_cons.mp h with e | e
  ·subst e
   intro e
   have e':k=.cell:=e
   subst e'
   exact a
  ·exact b.nocell y e
theorem closure_go {env:Env}:∀ (ns:List (Str×NameKind)) (cs:List (Str×Addr)),(∀ n,(n,NameKind.free)∈ns→∃ a,env.cells.lookup n=some a)→
  (forIn (m:=Sem) ns cs fun x r=>match x with | (name,kind)=>(if (kind==NameKind.free)=true then (do let a ←cellOf env name;pure (ForInStep.yield ((name,a)::r))) else pure (ForInStep.yield r)))=pure (closL env ns cs)
 | [],cs,_=>rfl
 | (n,k)::r,cs,h=>by
  rw [List.forIn_cons]
  cases hk:(k==NameKind.free) with
  | false=>
   simp only [hk,Bool.false_eq_true,if_false]
   rw [pure_bind]
   show forIn (m:=Sem) r cs _=pure (closL env r (if (k==NameKind.free)=true then _ else cs))
   rw [hk]
   exact closure_go r cs fun n hn=>h n (List.mem_cons_of_mem _ hn)
  | true=>
   have ek:k=.free:=by simpa using hk
   subst ek
   obtain ⟨a,ha⟩:=h n List.mem_cons_self
   simp only [hk,if_true]
   unfold cellOf
   rw [ha]
   simp only [pure_bind]
   show forIn (m:=Sem) r ((n,a)::cs) _=pure (closL env r (if (NameKind.free==NameKind.free)=true then (match env.cells.lookup n with | some a=>(n,a)::cs | none=>cs) else cs))
   rw [hk,if_pos rfl,ha]
   exact closure_go r _ fun n hn=>h n (List.mem_cons_of_mem _ hn)
theorem closure_eq {env:Env} {sc:Scope} (h:∀ n,(n,NameKind.free)∈sc.names→∃ a,env.cells.lookup n=some a):closureFor sc env=pure (closL env sc.names []):=by
 unfold closureFor
 exact (congrArg (fun z=>z >>=fun r=>pure r) (closure_go sc.names [] h)).trans (by simp)
theorem closL_sub {env:Env}:∀ {ns:List (Str×NameKind)} {cs:List (Str×Addr)},(∀ x c,cs.lookup x=some c→env.cells.lookup x=some c)→∀ x c,(closL env ns cs).lookup x=some c→env.cells.lookup x=some c
 | [],_,h,x,c,e=>h x c e
 | (n,k)::r,cs,h,x,c,e=>by
  refine closL_sub (ns:=r) (fun y d q=>?_) x c e
  by_cases hk:(k==NameKind.free)=true
  ·rw [if_pos hk] at q
   cases hn:env.cells.lookup n with
   | none=>rw [hn] at q;exact h y d q
   | some a=>
    rw [hn] at q
    simp only [List.lookup_cons] at q
    cases hy:(y==n) with
    | true=>
     rw [hy] at q
     have:y=n:=by simpa using hy
     subst this
     rw [hn];exact q
    | false=>rw [hy] at q;exact h y d q
  ·rw [if_neg hk] at q;exact h y d q
theorem closL_has {env:Env}:∀ {ns:List (Str×NameKind)} {cs:List (Str×Addr)} {x:Str},((∃ c,cs.lookup x=some c)∨((x,NameKind.free)∈ns∧∃ a,env.cells.lookup x=some a))→∃ c,(closL env ns cs).lookup x=some c
 | [],cs,x,h=>by
  rcases h with h | ⟨h,_⟩
  ·exact h
  ·cases h
 | (n,k)::r,cs,x,h=>by
  refine closL_has (ns:=r) ?_
  rcases h with ⟨c,h⟩ | ⟨h,a,ha⟩
  ·left
   by_cases hk:(k==NameKind.free)=true
   ·rw [if_pos hk]
    cases hn:env.cells.lookup n with
    | none=>exact ⟨c,h⟩
    | some a=>
     simp only [List.lookup_cons]
     cases hy:(x==n) with
     | true=>exact ⟨a,rfl⟩
     | false=>exact ⟨c,h⟩
   ·rw [if_neg hk];exact ⟨c,h⟩
  ·rcases List.mem_cons.mp h with e | e
   ·left
    cases e
    rw [if_pos (by rfl),ha]
    exact ⟨a,by simp⟩
   ·exact .inr ⟨e,a,ha⟩
theorem lookup_mem {α:Type}:∀ {ns:List (Str×α)} {x:Str} {k:α},ns.lookup x=some k→(x,k)∈ns
 | [],_,_,h=>by cases h
 | (n,j)::r,x,k,h=>by
  simp only [List.lookup_cons] at h
  cases hx:(x==n) with
  | true=>
   rw [hx] at h
   cases h
   have:x=n:=by simpa using hx
   subst this
   exact List.mem_cons_self
  | false=>rw [hx] at h;exact List.mem_cons_of_mem _ (lookup_mem h)
noncomputable def rlb (env:Env) (p:Str×NameKind):Str×NameKind:=if (p.2==NameKind.free&&env.scope.kind==.function&&env.kindOf p.1==some .cell) then (p.1,NameKind.cell) else (p.1,p.2)
theorem rlb_fst (env:Env) (p:Str×NameKind):(rlb env p).1=p.1:=by
 unfold rlb
 split <;> rfl
theorem rlb_free (env:Env) (n:Str):(rlb env (n,.free)).2=.cell∨(rlb env (n,.free)).2=.free:=by
 unfold rlb
 split
 ·exact .inl rfl
 ·exact .inr rfl
theorem rlb_back (env:Env) (p:Str×NameKind) (hn:p.2≠.cell) (h:(rlb env p).2=.cell∨(rlb env p).2=.free):p.2=.free:=by
 unfold rlb at h
 split at h
 ·rename_i hc
  have h1:=(Bool.and_eq_true _ _).mp hc
  have h2:=(Bool.and_eq_true _ _).mp h1.1
  simpa using h2.1
 ·rcases h with h | h
  ·exact absurd h hn
  ·exact h
theorem lookup_consP {α:Type} (x:Str) (p:Str×α) (r:List (Str×α)):(p::r).lookup x=if (x==p.1)=true then some p.2 else r.lookup x:=by
 obtain ⟨n,k⟩:=p
 rw [List.lookup_cons]
 cases (x==n) <;> rfl
theorem relabel_free {env:Env}:∀ {names:List (Str×NameKind)} {x:Str},names.lookup x=some .free→(names.map (rlb env)).lookup x=some .cell∨(names.map (rlb env)).lookup x=some .free
 | [],_,h=>by cases h
 | (n,k)::r,x,h=>by
  have ih:=@relabel_free env r x
  rw [List.map_cons,lookup_consP,rlb_fst]
  rw [lookup_consP] at h
  by_cases hx:(x==n)=true
  ·rw [if_pos hx] at h ⊢
   cases h
   rcases rlb_free env n with e | e
   ·exact .inl (congrArg some e)
   ·exact .inr (congrArg some e)
  ·rw [if_neg hx] at h ⊢
   exact ih h
theorem relabel_back {env:Env}:∀ {names:List (Str×NameKind)} {x:Str},(∀ y∈names,y.2≠.cell)→((names.map (rlb env)).lookup x=some .cell∨(names.map (rlb env)).lookup x=some .free)→(x,NameKind.free)∈names
 | [],_,_,h=>by rcases h with h | h <;> cases h
 | (n,k)::r,x,hn,h=>by
  have ih:=@relabel_back env r x (fun y hy=>hn y (List.mem_cons_of_mem _ hy))
  rw [List.map_cons,lookup_consP,rlb_fst] at h
  by_cases hx:(x==n)=true
  ·rw [if_pos hx] at h
   have ex:x=n:=by simpa using hx
   subst ex
   have e:=rlb_back env (x,k) (hn _ List.mem_cons_self) (h.imp Option.some.inj Option.some.inj)
   have e':k=.free:=e
   subst e'
   exact List.mem_cons_self
  ·rw [if_neg hx] at h
   exact List.mem_cons_of_mem _ (ih h)
noncomputable def blk (X:Cx) (sc:Scope) (M:List Str) (C:Addr) (fp:List Addr) (s:Shared) (H:Hp):Cx:=
 { X with N:=M,s₀:=s,H₀:=H,env:=compEnvC sc (closL X.env sc.names []) C X.env,outer:=X.stack,stack:=X.stack,ex:=fp,fn:=fun _=>false,pn:=[],xe:=fun _ _=>False }
inductive FmOk (N:List Str) (sc:Scope):List Str→List (Option Nat)→Prop
 | nil:FmOk N sc [] []
 | own {x M fm}:FmOk N sc M fm→FmOk N sc (x::M) (none::fm)
 | free {x M fm} (j:Nat):N[j]? =some x→sc.names.lookup x=some .free→FmOk N sc M fm→FmOk N sc (x::M) (some j::fm)
noncomputable def fmSt (fm:List (Option Nat)) (σ:St):St:=fm.map fun o=>match o with | none=>none | some j=>(σ[j]?).join
theorem FmOk.len {N:List Str} {sc:Scope}:∀ {M:List Str} {fm:List (Option Nat)},FmOk N sc M fm→fm.length=M.length
 | _,_,.nil=>rfl
 | _,_,.own h=>by simp [h.len]
 | _,_,.free _ _ _ h=>by simp [h.len]
theorem FmOk.get {N:List Str} {sc:Scope} {σ:St}:∀ {M:List Str} {fm:List (Option Nat)} {i:Nat} {x:Str} {v:V},FmOk N sc M fm→M[i]? =some x→(fmSt fm σ)[i]? =some (some v)→∃ (j:Nat),N[j]? =some x∧sc.names.lookup x=some .free∧σ[j]? =some (some v)
 | _,_,i,x,v,.nil,e,_=>by simp at e
 | _,_,0,x,v,.own h,e,q=>by simp [fmSt] at q
 | _,_,0,x,v,.free j a b h,e,q=>by
  simp at e
  subst e
  refine ⟨j,a,b,?_⟩
  have q':(σ[j]?).join=some v:=by simpa [fmSt] using q
  cases hs:σ[j]? with
  | none=>rw [hs] at q';cases q'
  | some o=>
   rw [hs] at q'
   have:o=some v:=q'
   rw [this]
 | _,_,i + 1,x,v,.own h,e,q=>h.get (i:=i) (by simpa using e) (by simpa [fmSt] using q)
 | _,_,i + 1,x,v,.free j a b h,e,q=>h.get (i:=i) (by simpa using e) (by simpa [fmSt] using q)
section
variable {X:Cx} {pins:List (Addr×Obj)} {σ:St} {H:Hp} {s:Shared} {sc:Scope} {M:List Str} {C:Addr} {fp:List Addr}
theorem blk_ok (I:Inv X pins σ H s) (hf:∀ b∈fp,FpOk X pins H b) (hl:∀ b∈fp,b < s.heap.objs.size) (hC:s.heap.objs.size≤C) (fr:FrOk X.env sc.names) (hk:sc.kind=.function):(blk X sc M C fp s H).Ok where
 mod:=I.ok.mod
 kind:=hk
 glob:=I.ok.glob
 blt:=I.ok.blt
 above:=hC
 inj:=fun x y c e1 e2=>I.ok.inj x y c (closL_sub (fun _ _ z=>by cases z) x c e1) (closL_sub (fun _ _ z=>by cases z) y c e2)
 has:=fun x h=>by
  have hm:(x,NameKind.free)∈sc.names:=relabel_back (env:=X.env) fr.nocell h
  exact closL_has (.inr ⟨hm,I.ok.has x (fr.free hm)⟩)
 cab:=fun x c h _=>by cases h
 hd:=I.ok.hd
 frames:=I.ok.frames
 stk:=.inl rfl
 exf:=fun b hb=>⟨Nat.ne_of_lt (Nat.lt_of_lt_of_le (hl b hb) hC),fun x c e=>(hf b hb).2.2.2.2.1 x c (closL_sub (fun _ _ z=>by cases z) x c e)⟩
 bs:=I.bs
 bsz:=Nat.le_trans I.ok.bsz I.sz
 noex:=fun b o e hb=>by
  rcases (hf b hb).2.2.2.1 with z | z
  ·exact I.ok.noex b o e z
  ·exact absurd (Nat.lt_of_lt_of_le (Heap.lt_size (I.ok.bs b o e).1) z) (Nat.lt_irrefl _)
 exfs:=fun b hb hs=>by
  rcases List.mem_cons.mp (I.stkSub b hs) with e | e
  ·exact (hf b hb).2.1 e
  ·exact (hf b hb).2.2.1 e
 funs:=I.stack
 frf:=I.stkFree
theorem blk_in {h₁:Heap} {t:Nat} {pl:List (Addr×Obj)} {m:Str→Option Value} {fm:List (Option Nat)} (I:Inv X pins σ H s) (hf:∀ b∈fp,FpOk X pins H b) (hl:∀ b∈fp,b < s.heap.objs.size) (hC:s.heap.objs.size≤C) (fr:FrOk X.env sc.names) (hk:sc.kind=.function)
  (hfm:FmOk X.N sc M fm) (k:∀ b o,s.heap.get? b=some o→h₁.get? b=some o) (hn:h₁.Ns C m)
  (hp:∀ p∈pl,h₁.get? p.1=some p.2∧H p.1=none∧p.1≠C∧p.1∉frs X.stack∧∀ v,p.2.data≠.cell v):Inv (blk X sc M C fp s H) pl (fmSt fm σ) H { s with heap:=h₁,toks:=t } where
 ok:=blk_ok I hf hl hC fr hk
 os:=rfl
 bare:=I.bare
 base:=Un.kept k
 loc:=⟨m,hn,fun i x v e1 e2 e3=>by
  obtain ⟨j,a,b,c⟩:=hfm.get e1 e2
  obtain ⟨m',hn',hl'⟩:=I.loc
  have hm:=lookup_mem b
  have hk':=fr.free hm
  have vis:Vis X.env.scope x:=by
   rcases hk' with z | z
   ·exact .inr (.inl z)
   ·exact .inr (.inr z)
  obtain ⟨u,r,l⟩:=hl' j x v a c vis
  refine ⟨u,r,.inr ⟨relabel_free b,?_⟩⟩
  rcases l with ⟨z,_⟩ | ⟨_,cc,hcc,hcell⟩
  ·rcases hk' with y | y <;> (rw [z] at y;cases y)
  ·obtain ⟨c2,e2⟩:=closL_has (env:=X.env) (ns:=sc.names) (cs:=[]) (x:=x) (.inr ⟨hm,cc,hcc⟩)
   have e3:=closL_sub (fun _ _ z=>by cases z) x c2 e2
   rw [hcc] at e3
   cases e3
   refine ⟨cc,e2,?_⟩
   obtain ⟨o,ho,hd⟩:=hcell
   exact ⟨o,k _ _ ho,hd⟩⟩
 cell:=fun x c e=>by
  obtain ⟨v,o,ho,hd⟩:=I.cell x c (closL_sub (fun _ _ z=>by cases z) x c e)
  exact ⟨v,o,k _ _ ho,hd⟩
 free:=I.hok.fresh hC
 freeC:=fun x c e=>I.freeC x c (closL_sub (fun _ _ z=>by cases z) x c e)
 pin:=fun p hp'=>by
  have hp':p∈pl:=by simpa [blk] using hp'
  exact hp p hp'
 hok:=I.hok.kept k
 len:=by simp [fmSt,hfm.len,blk]
end
end L2
namespace L2
open PySem PySem.Spec PyProof.Rows
theorem compLoop_any {prog:Program} {w:World} {A:Around} {R:Result→Shared→Prop} {s:Shared} {elt target iter:Expr} {ifs:List Expr} {scope:Scope} {pos:Pos} {it acc:Value} {env:Env} (I:Nat→Shared→Prop)
  (turn:∀ n s,I n s→wpAny (model prog w) A (pyNext it) (fun r s₁=>match r with
   | none=>R (.ok .next) s₁
   | some v=>wpAny (model prog w) A (letOwnedTupleGo target it v) (fun _ s₁'=>wpAny (model prog w) A (assign target env v) (fun _ s₂=>
     wpAny (model prog w) A (forIn ifs true fun c r=>if r=true then do let ok ←isTrue c env (eval c env);pure (ForInStep.yield ok) else pure (ForInStep.yield r)) (fun ok s₃=>
      if ok=true then wpAny (model prog w) A (eval elt env) (fun x s₄=>
       wpAny (model prog w) A (call (.builtin "list.append") [acc,x]) (fun _ s₅=>∃ m,m < n∧I m s₅) (fun _ _=>False) s₄) (fun _ _=>False) s₃
      else ∃ m,m < n∧I m s₃) (fun _ _=>False) s₂) (fun _ _=>False) s₁') (fun _ _=>False) s₁) (fun _ _=>False) s)
  (n:Nat) (h:I n s):
  codeAny (model prog w) A (.compLoop (.ListComp elt [⟨target,iter,ifs,0⟩] scope pos) 0 it acc env) R s:=by
 refine codeAny_loop rfl I (fun n s hI=>?_) n h
 show wpAny _ A ((compTurn (.ListComp elt [⟨target,iter,ifs,0⟩] scope pos) 0 it acc env).onRaise (fun x=>do noteFrame x env;theTreesLotGoes x)) _ _ s
 refine wpAny_noted ?_
 rw [compTurn_list]
 refine wpAny_bind (wpAny_standAt (wpAny_bind (wpAny_mono (turn n s hI) (fun r s₁ h₁=>?_) fun _ _ h'=>h'.elim)))
 cases r with
 | none=>exact wpAny_pure h₁
 | some v=>
  refine wpAny_bind (wpAny_mono h₁ (fun _ s₁' h₁'=>?_) fun _ _ h'=>h'.elim)
  refine wpAny_bind (wpAny_mono h₁' (fun _ s₂ h₂=>wpAny_bind (wpAny_mono h₂ (fun ok s₃ h₃=>?_) fun _ _ h'=>h'.elim)) fun _ _ h'=>h'.elim)
  cases ok with
  | false=>exact wpAny_pure ⟨rfl,h₃⟩
  | true=>
   exact wpAny_bind (wpAny_bind (wpAny_mono h₃ (fun x s₄ h₄=>wpAny_bind (wpAny_mono h₄ (fun _ s₅ h₅=>wpAny_pure (wpAny_pure ⟨rfl,h₅⟩)) fun _ _ h'=>h'.elim)) fun _ _ h'=>h'.elim))
noncomputable def PIf (X:Cx) (ifs:List Expr) (t:TT):Prop:=
 ∀ (pins:List (Addr×Obj)) (s:Shared) (σ:St) (H:Hp) (Q:Bool→Hp→Prop),Inv X pins σ H s→t σ H Q→
  wpAny (model X.prog X.w) X.A (forIn ifs true fun c r=>if r=true then do let ok ←isTrue c X.env (eval c X.env);pure (ForInStep.yield ok) else pure (ForInStep.yield r)) (TP X pins σ Q) X.xe s
noncomputable def tYes:TT:=fun _ H Q=>Q true H
theorem pif_nil {X:Cx}:PIf X [] tYes:=fun pins s σ H Q I h=>wpAny_tests_nil ⟨H,I,h⟩
theorem pif_one {X:Cx} {c:Expr} {t:TT} (h:PT X c t):PIf X [c] t:=fun pins s σ H Q I hw=>wpAny_tests_one (h pins s σ H Q I hw)
noncomputable def GK (fm:List (Option Nat)) (g:TG):Prop:=∀ (x:V) (σ:St) (H:Hp) (Q:St→Hp→Prop),g x σ H Q→g x σ H fun σ' H'=>Q σ' H'∧∀ (i j:Nat),fm[i]? =some (some j)→σ'[i]? =σ[i]?
theorem gk_name {fm:List (Option Nat)} {i:Nat} (h:fm[i]? =some none):GK fm (gName i):=fun x σ H Q q=>⟨q,fun i' j e=>by
 by_cases hi:i=i'
 ·subst hi;rw [h] at e;cases e
 ·exact List.getElem?_set_ne hi⟩
theorem fm_slot {fm:List (Option Nat)} {σ:St} {i:Nat} {v:V} (e:(fmSt fm σ)[i]? =some (some v)):∃ j,fm[i]? =some (some j):=by
 unfold fmSt at e
 rw [List.getElem?_map] at e
 cases h:fm[i]? with
 | none=>rw [h] at e;cases e
 | some o=>
  cases o with
  | none=>rw [h] at e;cases e
  | some j=>exact ⟨j,rfl⟩
noncomputable def tLC (wi:TI) (fm:List (Option Nat)) (g:TG) (tt:TT) (te:TE):TE:=fun σ H Q=>wi σ H fun J H1=>∃ W:Nat→Nat→List V→Hp→Prop,(∃ m,W 0 m [] H1)∧∀ i m ys H,W i m ys H→
 (J.stop i H∧∀ p,H p=none→Q (.ref p) (upd H p (.lst ys)))∨
 (J.go i H∧ys.length < sizeLine∧∃ N:List V→Hp→Prop,(∀ ys' H',N ys' H'→∃ m',m' < m∧W (i + 1) m' ys' H')∧
  ∀ x H',J.yld i H x H'→g x (fmSt fm σ) H' fun σ2 H2=>tt σ2 H2 fun ok H3=>if ok=true then te σ2 H3 fun v H4=>N (ys++[v]) H4 else N ys H3)
section
variable {X:Cx} {pins:List (Addr×Obj)} {σ:St} {sc:Scope} {M:List Str} {fm:List (Option Nat)} {tg iter elt:Expr} {ifs:List Expr} {pos:Pos} {g:TG} {tt:TT} {te:TE}
theorem comp_core {it:Addr} {fp:List Addr} {tn:Nat→Heap→Prop} {J:It} {H2:Hp} {s2:Shared} {E:Value→Shared→Prop} {RR:Value→Addr→Result→Shared→Prop} {Q:VK} (hc:X.calm=true)
  (I2:Inv X pins σ H2 s2) (T:Turn X.prog X.w X.K tg J fp it tn) (st:tn 0 s2.heap) (hf:∀ b∈fp,FpOk X pins H2 b) (fr:FrOk X.env sc.names) (hk:sc.kind=.function) (hfm:FmOk X.N sc M fm) (hgk:GK fm g)
  (hB:∀ C fp s H,PG (blk X sc M C fp s H) tg g∧PIf (blk X sc M C fp s H) ifs tt∧PE (blk X sc M C fp s H) elt te)
  (W:Nat→Nat→List V→Hp→Prop) (hw:∃ m,W 0 m [] H2)
  (turn:∀ i m ys H,W i m ys H→(J.stop i H∧∀ p,H p=none→Q (.ref p) (upd H p (.lst ys)))∨
   (J.go i H∧ys.length < sizeLine∧∃ N:List V→Hp→Prop,(∀ ys' H',N ys' H'→∃ m',m' < m∧W (i + 1) m' ys' H')∧
    ∀ x H',J.yld i H x H'→g x (fmSt fm σ) H' fun σ2 H2=>tt σ2 H2 fun ok H3=>if ok=true then te σ2 H3 fun v H4=>N (ys++[v]) H4 else N ys H3))
  (hRR:∀ D C H' m s',s'.heap.Ns C m→Inv X pins σ H' s'→FpOk X pins H' C→Q (.ref D) H'→RR (.ref D) C (.ok .next) s'):
  wpAny (model X.prog X.w) X.A (newList []) (fun acc s₃=>wpAny (model X.prog X.w) X.A (newFunctionEnv sc X.env.globals (closL X.env sc.names []) [] X.env.qual none .none (some X.env)) (fun cenv s₄=>
   codeAny (model X.prog X.w) X.A (.compStart (.ListComp elt [⟨tg,iter,ifs,0⟩] sc pos) 0 (.ref it) acc { cenv with scope:=relabel sc X.env }) (RR acc cenv.locals) s₄) E s₃) E s2:=by
 have hl:∀ b∈fp,b < s2.heap.objs.size:=fun b hb=>by
  obtain ⟨o,e,_⟩:=T.obj _ _ st b hb
  exact Heap.lt_size e
 refine wpAny_newObj_type (wpAny_newFunctionEnv fr.nocell (by intro y hy;simp at hy) (fun h₁ hns₁ hsb₁=>?_) hk)
 dsimp only at hns₁ hsb₁ ⊢
 generalize hH2:s2.heap.push { cls:=.type "list",dict:=none,data:=.seq ([]:List Value).toArray }=G2 at hns₁ hsb₁ ⊢
 have hC:G2.objs.size=s2.heap.objs.size + 1:=by rw [←hH2,Heap.size_push]
 have hCle:s2.heap.objs.size≤G2.objs.size:=by rw [hC];exact Nat.le_succ _
 have hDC:s2.heap.objs.size≠G2.objs.size:=by rw [hC];exact Nat.ne_of_lt (Nat.lt_succ_self _)
 have below:∀ b,b < s2.heap.objs.size→b≠G2.objs.size:=fun b hb=>Nat.ne_of_lt (Nat.lt_of_lt_of_le hb hCle)
 have old:∀ b o,s2.heap.get? b=some o→h₁.get? b=some o:=fun b o e=>hsb₁.extBut b o (below b (Heap.lt_size e)) (Heap.get?_push_of_some _ (hH2▸Heap.get?_push_of_some _ e))
 have hacc:h₁.PlainList s2.heap.objs.size #[]:=⟨_,hsb₁.extBut _ _ hDC (Heap.get?_push_of_some _ (hH2▸Heap.get?_push_size _ rfl))⟩
 have hst₁:tn 0 h₁:=T.keep _ _ _ st fun b _ o e=>old b o e
 obtain ⟨B1,B2,B3⟩:=hB G2.objs.size fp s2 H2
 have hDfs:s2.heap.objs.size∉frs X.stack:=fun hb=>by
  rcases List.mem_cons.mp (I2.stkSub _ hb) with e | e
  ·exact absurd I2.lt (by rw [←e];exact Nat.lt_irrefl _)
  ·exact I2.nofs (Nat.le_refl _) e
 have hDf:s2.heap.objs.size∉fp:=fun hb=>Nat.lt_irrefl _ (hl _ hb)
 have fpB:∀ {pl:List (Addr×Obj)} {H':Hp},(∀ b∈fp,H' b=none)→(∀ p∈pl,p.1∉fp)→∀ b∈fp,FpOk (blk X sc M G2.objs.size fp s2 H2) pl H' b:=fun {pl H'} hn hp b hb=>by
  refine ⟨hn b hb,below b (hl b hb),fun z=>?_,.inl hb,fun x c e=>(hf b hb).2.2.2.2.1 x c (closL_sub (fun _ _ z=>by cases z) x c e),fun p hp' z=>?_⟩
  ·rcases List.mem_cons.mp (I2.stkSub b z) with e | e
   ·exact (hf b hb).2.1 e
   ·exact (hf b hb).2.2.1 e
  ·have hp'':p∈pl:=by simpa [blk] using hp'
   exact hp p hp'' (z▸hb)
 have loop:∀ s₃:Shared,s₃={ s2 with heap:=h₁,toks:=s2.toks + ([]:List (Str×Value)).length }→
   codeAny (model X.prog X.w) X.A (.compLoop (.ListComp elt [⟨tg,iter,ifs,0⟩] sc pos) 0 (.ref it) (.ref s2.heap.objs.size) (compEnvC sc (closL X.env sc.names []) G2.objs.size X.env)) (RR (.ref s2.heap.objs.size) G2.objs.size) s₃:=by
  rintro s₃ rfl
  obtain ⟨m0,w0⟩:=hw
  refine compLoop_any (fun n s'=>∃ (i:Nat) (ys:List V) (its:List Value) (k:Nat) (H':Hp),Inv (blk X sc M G2.objs.size fp s2 H2) [(s2.heap.objs.size,{ cls:=.type "list",data:=.seq its.toArray k })] (fmSt fm σ) H' s'∧Vals ys its∧ys.length≤sizeLine∧
   tn i s'.heap∧(∀ b∈fp,H' b=none)∧W i n ys H') ?_ m0 ?_
  ·rintro n s' ⟨i,ys,its,k,H',I',rv,hz,st',fn',w'⟩
   have np:∀ p∈[((s2.heap.objs.size,{ cls:=.type "list",data:=.seq its.toArray k }):Addr×Obj)],p.1∉fp:=fun p hp=>by
    rcases List.mem_singleton.mp hp with rfl
    exact hDf
   rcases turn i n ys H' w' with ⟨stop,qn⟩ | ⟨go,hz',N,hN,step⟩
   ·refine thn (T.done (blk X sc M G2.objs.size fp s2 H2) rfl rfl rfl hc i _ s' _ H' _ I' (fpB fn' np) st' stop) fun r s4 ⟨hr,I4⟩=>?_
    subst hr
    obtain ⟨eD,nD,_,_,_⟩:=I4.pin _ (List.mem_append_right _ List.mem_cons_self)
    obtain ⟨m4,hn4,_⟩:=I4.loc
    have u4:Un (frs X.stack) fp H2 H' s2.heap s4.heap:=I4.base
    have eD':s4.heap.get? s2.heap.objs.size=some { cls:=.type "list",data:=.seq its.toArray k }:=eD
    have nD':H' s2.heap.objs.size=none:=nD
    have ne:∀ b,b < s2.heap.objs.size→b≠s2.heap.objs.size:=fun b hb=>Nat.ne_of_lt hb
    have hok:HOk X.prog X.w (upd H' s2.heap.objs.size (.lst ys)) s4.heap:=fun b ob e=>by
     by_cases hb:b=s2.heap.objs.size
     ·subst hb
      rw [upd_same] at e
      cases e
      exact ⟨hz,its,k,rv,eD'⟩
     ·rw [upd_ne hb] at e
      exact (I4.hok b ob e).stay (fun _ _ _ q=>q) (fun c q=>by rw [upd_ne (ne_of_none q nD')];exact q) fun c xs q=>by rw [upd_ne (ne_of_none q nD')];exact q
    have u5:Un (frs X.stack) fp H2 (upd H' s2.heap.objs.size (.lst ys)) s2.heap s4.heap:=
     ⟨u4.keep,u4.slot,fun b o e n hx=>by rw [upd_ne (ne b (Heap.lt_size e))];exact u4.free b o e n hx,u4.there,
      fun b xs e=>by have:=u4.tups b xs e;rw [upd_ne (ne_of_none this nD')];exact this,
      fun b o u e=>by have:=u4.frzs b o u e;rw [upd_ne (ne_of_none this nD')];exact this,
      fun b ps e=>by obtain ⟨mo,this⟩:=u4.tbls b ps e;exact ⟨mo,by rw [upd_ne (ne_of_none this nD')];exact this⟩⟩
    have I5:Inv X pins σ (upd H' s2.heap.objs.size (.lst ys)) s4:=
     I2.call' I4.os u5 hok I4.bare fun b hb=>⟨(hf b hb).2.2.2.1,(hf b hb).2.1,(hf b hb).2.2.2.2.1,(hf b hb).2.2.2.2.2⟩
    refine hRR _ _ _ m4 s4 hn4 I5 (I2.fpOk hCle ?_) (qn _ nD')
    rw [upd_ne (Ne.symm hDC)]
    exact I4.free
   ·refine thn (T.item (blk X sc M G2.objs.size fp s2 H2) rfl rfl rfl hc i _ s' _ H' _ I' (fpB fn' np) st' go) fun r s4 ⟨u,hr,h4⟩=>?_
    subst hr
    refine thn h4 fun _ s5 ⟨x,H5,I5,r5,y5,st5,fr5⟩=>?_
    have I5':=I5.pinned (fpB fr5 np) (T.obj _ _ st5)
    refine thn (B1 _ s5 _ H5 x u _ I5' r5 (hgk _ _ _ _ (step x H5 y5))) fun _ s6 ⟨σ6,H6,I6,q6,k6⟩=>?_
    refine thn (B2 _ s6 σ6 H6 _ I6 q6) fun ok s7 ⟨H7,I7,q7⟩=>?_
    have len6:(fmSt fm σ).length=σ6.length:=I'.len.trans I6.len.symm
    have wk:∀ (j:Nat) (v:V),(fmSt fm σ)[j]? =some (some v)→σ6[j]? =some (some v):=fun j v e=>by
     obtain ⟨j',e'⟩:=fm_slot e
     rw [k6 j j' e']
     exact e
    have back:∀ {σ8:St} {H8:Hp} {s8:Shared},Inv (blk X sc M G2.objs.size fp s2 H2) ([(s2.heap.objs.size,{ cls:=.type "list",data:=.seq its.toArray k })]++pinsAt fp s5.heap) σ8 H8 s8→tn (i + 1) s8.heap∧∀ b∈fp,H8 b=none:=fun {σ8 H8 s8} I8=>by
     refine ⟨T.keep _ _ _ st5 fun b hb o e=>(I8.pin (b,o) (List.mem_append_right _ (List.mem_append_right _ (mem_pinsAt hb e)))).1,fun b hb=>?_⟩
     obtain ⟨o,e,d⟩:=T.obj _ _ st5 b hb
     exact (I8.pin (b,o) (List.mem_append_right _ (List.mem_append_right _ (mem_pinsAt hb e)))).2.1
    cases ok with
    | false=>
     rw [if_neg Bool.false_ne_true] at q7
     rw [if_neg Bool.false_ne_true]
     obtain ⟨m',hm,w7⟩:=hN ys H7 q7
     exact ⟨m',hm,i + 1,ys,its,k,H7,(I7.weak len6 wk).unpinned,rv,hz,(back I7).1,(back I7).2,w7⟩
    | true=>
     rw [if_pos rfl] at q7
     rw [if_pos rfl]
     refine thn (B3 _ s7 σ6 H7 _ I7 q7) fun y s8 ⟨v,H8,I8,r8,q8⟩=>?_
     obtain ⟨st8,fr8⟩:=back I8
     obtain ⟨m',hm,w8⟩:=hN _ H8 q8
     obtain ⟨eD,nD,_,_,_⟩:=I8.pin _ (List.mem_append_right _ (List.mem_append_left _ List.mem_cons_self))
     have hits:its.toArray.size=ys.length:=by simp [rv.length]
     refine wpAny_list_append_plain (items:=its.toArray) ⟨k,eD⟩ (fun h' hpl hsb=>?_) (by rw [hits];exact hz)
     obtain ⟨k',ek⟩:=hpl
     have ek':h'.get? s2.heap.objs.size=some { cls:=.type "list",data:=.seq (its++[y]).toArray k' }:=by simpa using ek
     have np8:∀ p∈pinsAt fp s5.heap,p.1≠s2.heap.objs.size:=fun p hp z=>hDf (z▸(of_pinsAt hp).1)
     have I9:Inv (blk X sc M G2.objs.size fp s2 H2) (pinsAt fp s5.heap) σ6 H8 s8:=I8.pins_of fun p hp=>I8.pin p (List.mem_append_right _ (List.mem_append_right _ hp))
     have I10:Inv (blk X sc M G2.objs.size fp s2 H2) (pinsAt fp s5.heap) σ6 H8 { s8 with heap:=h',toks:=s8.toks }:=
      I9.turned (it:=s2.heap.objs.size) (fun b o hb e=>hsb.extBut b o hb e) nD hDC (.inr (Nat.le_refl _)) (fun x c e z=>by
       obtain ⟨v',q⟩:=I2.cell x c (closL_sub (fun _ _ z=>by cases z) x c e)
       exact absurd (show c < s2.heap.objs.size from q.lt) (by rw [z];exact Nat.lt_irrefl _)) fun p hp=>np8 p (by simpa [blk] using hp)
     have I11:Inv (blk X sc M G2.objs.size fp s2 H2) [(s2.heap.objs.size,{ cls:=.type "list",data:=.seq (its++[y]).toArray k' })] (fmSt fm σ) H8 { s8 with heap:=h',toks:=s8.toks }:=
      (I10.weak len6 wk).pins_of fun p hp=>by
       rcases List.mem_singleton.mp hp with rfl
       exact ⟨ek',nD,hDC,hDfs,fun _ z=>nomatch z⟩
     refine ⟨m',hm,i + 1,ys++[v],its++[y],k',H8,I11,rv.append (.cons r8 .nil),?_,?_,fr8,w8⟩
     ·rw [List.length_append];exact hz'
     ·exact T.keep _ _ _ st8 fun b hb o e=>hsb.extBut b o (fun z=>hDf (z▸hb)) e
  ·obtain ⟨k0,e0⟩:=hacc
   refine ⟨0,[],[],k0,H2,blk_in I2 hf hl hCle fr hk hfm old hns₁ fun p hp=>?_,.nil,Nat.zero_le _,hst₁,fun b hb=>(hf b hb).1,w0⟩
   rcases List.mem_singleton.mp hp with rfl
   exact ⟨e0,I2.hok.fresh (Nat.le_refl _),hDC,hDfs,fun _ z=>nomatch z⟩
 exact codeAny_compStart_list (loop _ rfl) (T.self _ 0 _ _ _ hst₁ (loop _ rfl))
end
end L2
namespace L2
open PySem PySem.Spec PyProof.Rows
section
variable {X:Cx} {sc:Scope} {M:List Str} {fm:List (Option Nat)} {tg iter elt:Expr} {ifs:List Expr} {pos:Pos} {g:TG} {tt:TT} {te:TE} {wi:TI}
theorem Inv.letGo {pins:List (Addr×Obj)} {σ:St} {H:Hp} {s:Shared} {C:Addr} {h':Heap} (I:Inv X pins σ H s) (f:FpOk X pins H C) (hs:Heap.SameBut C s.heap h'):Inv X pins σ H { s with heap:=h' }:=
 I.turned (t':=s.toks) (it:=C) (fun b o hb e=>hs.extBut b o hb e) f.1 f.2.1 f.2.2.2.1 f.2.2.2.2.1 f.2.2.2.2.2
theorem pe_lc (hc:X.calm=true) (fr:FrOk X.env sc.names) (hfm:FmOk X.N sc M fm) (hgk:GK fm g) (hk:sc.kind=.function) (hnm:∀ y∈sc.names,y.2=.local→sc.names.lookup y.1=some .local) (hi:PI X tg iter wi)
  (hB:∀ C fp s H,PG (blk X sc M C fp s H) tg g∧PIf (blk X sc M C fp s H) ifs tt∧PE (blk X sc M C fp s H) elt te) (hs:∀ x,foldedSetIterable iter X.env x=pure x:=by intro _;rfl):
  PE X (.ListComp elt [⟨tg,iter,ifs,0⟩] sc pos) (tLC wi fm g tt te):=by
 intro pins s σ H Q I h
 rw [eval_ListComp]
 have hclos:=closure_eq (env:=X.env) (sc:=sc) fun n hn=>I.ok.has n (fr.free hn)
 refine wpAny_comprehension_free (use:=none) rfl hs hclos hk hnm (thn (hi pins s σ H _ I h) fun v s1 h1=>thn h1 fun itv s2 h2=>?_)
 obtain ⟨it,fp,tn,J,H2,e,I2,T,st2,f2,W,w0,turn⟩:=h2
 subst e
 refine comp_core (Q:=Q) (RR:=fun acc C=>compPost (model X.prog X.w) X.A X.xe none (EP X pins σ Q) acc C) hc I2 T st2 f2 fr hk hfm hgk hB W w0 turn ?_
 intro D C H' m s' hn I' f' q
 exact ⟨m,hn,fun h' hs'=>⟨.ref D,H',I'.letGo f' hs',rfl,q⟩⟩
theorem ps_set_lc {i:Nat} {x:Str} {px pst:Pos} (hN:X.N.Nodup) (hix:X.N[i]? =some x) (hx:X.env.kindOf x=some .local) (hsw:swapsWith (.ListComp elt [⟨tg,iter,ifs,0⟩] sc pos) (some (.Name x px)) pst.line X.env=pure true)
  (hc:X.calm=true) (fr:FrOk X.env sc.names) (hfm:FmOk X.N sc M fm) (hgk:GK fm g) (hk:sc.kind=.function) (hnm:∀ y∈sc.names,y.2=.local→sc.names.lookup y.1=some .local) (hi:PI X tg iter wi)
  (hB:∀ C fp s H,PG (blk X sc M C fp s H) tg g∧PIf (blk X sc M C fp s H) ifs tt∧PE (blk X sc M C fp s H) elt te) (hs:∀ x,foldedSetIterable iter X.env x=pure x:=by intro _;rfl):
  PS X (.Assign [.Name x px] (.ListComp elt [⟨tg,iter,ifs,0⟩] sc pos) pst) (tAsg (tLC wi fm g tt te) (gName i)):=by
 intro pins s σ H D I h
 rw [exec_Assign_Name_used _ _ _ _ hsw]
 refine wpAny_bind (wpAny_standAt (wpAny_bind ?_))
 show wpAny _ _ (do let _ ←comprehension (.ListComp elt [⟨tg,iter,ifs,0⟩] sc pos) sc X.env _ (newList []) false (eval iter X.env) (some (assign (.Name x px) X.env))) _ _ s
 have hclos:=closure_eq (env:=X.env) (sc:=sc) fun n hn=>I.ok.has n (fr.free hn)
 refine wpAny_bind (wpAny_mono (wpAny_comprehension_free (use:=some (assign (.Name x px) X.env)) (Q:=fun _ s'=>SP X pins D .next s') rfl hs hclos hk hnm (thn (hi pins s σ H _ I h) fun v s1 h1=>thn h1 fun itv s2 h2=>?_))
  (fun _ s' hq=>wpAny_pure (wpAny_pure hq)) fun _ _ e=>e)
 obtain ⟨it,fp,tn,J,H2,e,I2,T,st2,f2,W,w0,turn⟩:=h2
 subst e
 refine comp_core (Q:=fun v H'=>gName i v σ H' D.nx) (RR:=fun acc C=>compPost (model X.prog X.w) X.A X.xe (some (assign (.Name x px) X.env)) (fun _ s'=>SP X pins D .next s') acc C) hc I2 T st2 f2 fr hk hfm hgk hB W w0 turn ?_
 intro Da C H' m s' hn I' f' q
 show wpAny _ _ (assign (.Name x px) X.env (.ref Da)) _ _ s'
 refine wpAny_assign_Name (store_ok2 (v:=.ref Da) I' hN hix (.inl hx) rfl (fun s2 I2' hs2=>?_) (.inr hx))
 obtain ⟨a,hsb,ha⟩:=hs2
 have hCa:C≠a:=by
  rcases ha with rfl | ha
  ·exact f'.2.1
  ·exact (f'.2.2.2.2.1 x a ha).symm
 exact ⟨m,hn.sameBut hsb hCa,fun h' hs'=>⟨_,H',I2'.letGo f' hs',q⟩⟩
end
end L2
namespace L2
open PySem PySem.Spec PyProof.Rows
mutual
inductive Is (H:Hp):V→PyData→Prop
 | non:Is H .non .none
 | bl (b:Bool):Is H (.bl b) (.bool b)
 | int (i:Int):Is H (.int i) (.int i)
 | str (x:Str):Is H (.str x) (.str x)
 | tup {a:Addr} {xs:List V} {ds:List PyData}:H a=some (.tup xs)→IsAll H xs ds→Is H (.ref a) (.tuple ds)
 | lst {a:Addr} {xs:List V} {ds:List PyData}:Rd H a (.lst xs)→IsAll H xs ds→Is H (.ref a) (.list ds)
inductive IsAll (H:Hp):List V→List PyData→Prop
 | nil:IsAll H [] []
 | cons {v:V} {d:PyData} {vs:List V} {ds:List PyData}:Is H v d→IsAll H vs ds→IsAll H (v::vs) (d::ds)
end
theorem IsAll.length {H:Hp}:∀ {vs:List V} {ds:List PyData},IsAll H vs ds→vs.length=ds.length
 | _,_,.nil=>rfl
 | _,_,.cons _ t=>by simp [t.length]
theorem IsAll.get {H:Hp}:∀ {vs:List V} {ds:List PyData} {i:Nat} {d:PyData},IsAll H vs ds→ds[i]? =some d→∃ v,vs[i]? =some v∧Is H v d
 | _,_,_,_,.nil,e=>by simp at e
 | _,_,0,_,.cons h t,e=>by simp at e;subst e;exact ⟨_,rfl,h⟩
 | _,_,i + 1,d,.cons h t,e=>by
  obtain ⟨v,a,b⟩:=t.get (i:=i) (d:=d) (by simpa using e)
  exact ⟨v,by simpa using a,b⟩
theorem IsAll.get' {H:Hp}:∀ {vs:List V} {ds:List PyData} {i:Nat} {v:V},IsAll H vs ds→vs[i]? =some v→∃ d,ds[i]? =some d∧Is H v d
 | _,_,_,_,.nil,e=>by simp at e
 | _,_,0,_,.cons h t,e=>by simp at e;subst e;exact ⟨_,rfl,h⟩
 | _,_,i + 1,d,.cons h t,e=>by
  obtain ⟨v,a,b⟩:=t.get' (i:=i) (v:=d) (by simpa using e)
  exact ⟨v,by simpa using a,b⟩
theorem IsAll.append {H:Hp}:∀ {vs:List V} {ds:List PyData} {us:List V} {es:List PyData},IsAll H vs ds→IsAll H us es→IsAll H (vs++us) (ds++es)
 | _,_,_,_,.nil,s=>s
 | _,_,_,_,.cons h t,s=>.cons h (t.append s)
theorem IsAll.take {H:Hp}:∀ {vs:List V} {ds:List PyData} (n:Nat),IsAll H vs ds→IsAll H (vs.take n) (ds.take n)
 | _,_,0,_=>.nil
 | _,_,_ + 1,.nil=>.nil
 | _,_,n + 1,.cons h t=>.cons h (t.take n)
theorem IsAll.drop {H:Hp}:∀ {vs:List V} {ds:List PyData} (n:Nat),IsAll H vs ds→IsAll H (vs.drop n) (ds.drop n)
 | _,_,0,h=>h
 | _,_,_ + 1,.nil=>.nil
 | _,_,n + 1,.cons h t=>t.drop n
theorem IsAll.ints {H:Hp}:∀ ns:List Int,IsAll H (ns.map V.int) (ns.map PyData.int)
 | []=>.nil
 | n::ns=>.cons (.int n) (IsAll.ints ns)
theorem IsAll.of_ints {H:Hp}:∀ {vs:List V} {ns:List Int},IsAll H vs (ns.map PyData.int)→vs=ns.map V.int
 | _,[],h=>by cases h;rfl
 | _,n::ns,h=>by
  rw [List.map_cons] at h
  cases h with
  | cons h1 t=>
  cases h1
  rw [List.map_cons,t.of_ints]
mutual
theorem Is.mono {H H':Hp} (ht:∀ a xs,H a=some (.tup xs)→H' a=some (.tup xs)) (hl:∀ a xs,Rd H a (.lst xs)→Rd H' a (.lst xs)):∀ {v:V} {d:PyData},Is H v d→Is H' v d
 | _,_,.non=>.non
 | _,_,.bl b=>.bl b
 | _,_,.int i=>.int i
 | _,_,.str x=>.str x
 | _,_,.tup e h=>.tup (ht _ _ e) (IsAll.mono ht hl h)
 | _,_,.lst e h=>.lst (hl _ _ e) (IsAll.mono ht hl h)
theorem IsAll.mono {H H':Hp} (ht:∀ a xs,H a=some (.tup xs)→H' a=some (.tup xs)) (hl:∀ a xs,Rd H a (.lst xs)→Rd H' a (.lst xs)):∀ {vs:List V} {ds:List PyData},IsAll H vs ds→IsAll H' vs ds
 | _,_,.nil=>.nil
 | _,_,.cons h t=>.cons (Is.mono ht hl h) (IsAll.mono ht hl t)
end
mutual
noncomputable def noL:PyData→Bool
 | .none | .bool _ | .int _ | .str _=>true
 | .tuple xs=>noLs xs
 | .list _ | .dict _=>false
noncomputable def noLs:List PyData→Bool
 | []=>true
 | x::xs=>noL x&&noLs xs
end
mutual
theorem Is.tmono {H H':Hp} (ht:∀ a xs,H a=some (.tup xs)→H' a=some (.tup xs)):∀ {v:V} {d:PyData},noL d=true→Is H v d→Is H' v d
 | _,_,_,.non=>.non
 | _,_,_,.bl b=>.bl b
 | _,_,_,.int i=>.int i
 | _,_,_,.str x=>.str x
 | _,_,n,.tup e h=>.tup (ht _ _ e) (IsAll.tmono ht (by simpa [noL] using n) h)
 | _,_,n,.lst e h=>by simp [noL] at n
theorem IsAll.tmono {H H':Hp} (ht:∀ a xs,H a=some (.tup xs)→H' a=some (.tup xs)):∀ {vs:List V} {ds:List PyData},noLs ds=true→IsAll H vs ds→IsAll H' vs ds
 | _,_,_,.nil=>.nil
 | _,_,n,.cons h t=>by
  rw [noLs,Bool.and_eq_true] at n
  exact .cons (Is.tmono ht n.1 h) (IsAll.tmono ht n.2 t)
end
theorem Same.rd {H H':Hp} (e:Same H H') {a:Addr} {u:HO} (h:Rd H a u):Rd H' a u:=by
 rcases h with h | ⟨o,h⟩
 ·exact .inl (e _ _ h)
 ·exact .inr ⟨o,e _ _ h⟩
theorem Is.same {H H':Hp} (e:Same H H') {v:V} {d:PyData} (h:Is H v d):Is H' v d:=h.mono (fun _ _ q=>e _ _ q) fun _ _ q=>e.rd q
theorem IsAll.same {H H':Hp} (e:Same H H') {v:List V} {d:List PyData} (h:IsAll H v d):IsAll H' v d:=h.mono (fun _ _ q=>e _ _ q) fun _ _ q=>e.rd q
section
variable {X:Cx} {pins:List (Addr×Obj)} {σ:St} {H:Hp} {s:Shared}
mutual
theorem Is.reads (I:Inv X pins σ H s):∀ {v:V} {d:PyData} {u:Value},Is H v d→RelV v u→∃ as,Reads s.heap u d as
 | _,_,_,.non,r=>by cases (show _=Value.none from r);exact ⟨_,.none⟩
 | _,_,_,.bl b,r=>by cases (show _=Value.bool b from r);exact ⟨_,.bool b⟩
 | _,_,_,.int i,r=>by obtain ⟨t,rfl⟩:=r;exact ⟨_,.int i t⟩
 | _,_,_,.str x,r=>by obtain ⟨t,rfl⟩:=r;exact ⟨_,.str x t⟩
 | _,_,_,.tup (a:=a) e h,r=>by
  cases (show _=Value.ref a from r)
  obtain ⟨its,rv,⟨o,h1,h2,n,h3⟩,_⟩:=I.tuple (SqT.of e)
  obtain ⟨as,ra⟩:=IsAll.reads I h rv
  exact ⟨_,.tuple h1 h2 h3 (by simpa using ra)⟩
 | _,_,_,.lst (a:=a) e h,r=>by
  cases (show _=Value.ref a from r)
  obtain ⟨its,rv,⟨o,n,h1,h2,_,h3⟩,_⟩:=I.list (.inl e)
  obtain ⟨as,ra⟩:=IsAll.reads I h rv
  exact ⟨_,.list h1 h2 h3 (by simpa using ra)⟩
theorem IsAll.reads (I:Inv X pins σ H s):∀ {vs:List V} {ds:List PyData} {us:List Value},IsAll H vs ds→Vals vs us→∃ as,ReadsAll s.heap us ds as
 | _,_,_,.nil,.nil=>⟨_,.nil⟩
 | _,_,_,.cons h t,.cons r q=>by
  obtain ⟨as,ra⟩:=Is.reads I h r
  obtain ⟨bs,rb⟩:=IsAll.reads I t q
  exact ⟨_,.cons ra rb⟩
end
end
noncomputable def okD (d:PyData):Prop:=d.canLay0=true∧d.depth≤40
noncomputable def okDs (ds:List PyData):Prop:=PyData.canLayAll0 ds=true∧PyData.depthAll ds≤40
section
variable {X:Cx}
noncomputable def rEqD (neg:Bool):R2:=fun x y H Q=>∃ d e,Is H x d∧Is H y e∧okD d∧okD e∧Q (.bl (if neg then !PyData.eqv d e else PyData.eqv d e)) H
theorem op_eqD (hu:X.A.units + 64 < cLine):OpR X (compareOp .Eq) (rEqD false):=by
 intro pins s σ H x y v u Q I rx ry h
 obtain ⟨d,e,hx,hy,od,oe,q⟩:=h
 obtain ⟨as,ra⟩:=hx.reads I rx
 obtain ⟨bs,rb⟩:=hy.reads I ry
 exact SeqAt.compareEq_reads ra rb od.1 oe.1 (by have:=od.2;lia) ⟨.bl _,H,I,rfl,q⟩
theorem op_neD (hu:X.A.units + 64 < cLine):OpR X (compareOp .NotEq) (rEqD true):=by
 intro pins s σ H x y v u Q I rx ry h
 obtain ⟨d,e,hx,hy,od,oe,q⟩:=h
 obtain ⟨as,ra⟩:=hx.reads I rx
 obtain ⟨bs,rb⟩:=hy.reads I ry
 exact SeqAt.compareNe_reads ra rb od.1 oe.1 (by have:=od.2;lia) ⟨.bl _,H,I,rfl,q⟩
noncomputable def inD (d:PyData) (ds:List PyData):Bool:=ds.any fun y=>PyData.eqv y d
noncomputable def rInD (neg:Bool):R2:=fun x y H Q=>∃ d ds,Is H x d∧(Is H y (.tuple ds)∨Is H y (.list ds))∧okD d∧okDs ds∧Q (.bl (if neg then !inD d ds else inD d ds)) H
theorem op_inD (hu:X.A.units + 64 < cLine):OpR X (compareOp .In) (rInD false):=by
 intro pins s σ H x y v u Q I rx ry h
 obtain ⟨d,ds,hx,hy,od,oe,q⟩:=h
 obtain ⟨as,ra⟩:=hx.reads I rx
 rcases hy with hy | hy
 ·obtain ⟨bs,rb⟩:=hy.reads I ry
  exact SeqAt.in_tuple_reads rb ra oe.1 od.1 (by have:=od.2;lia) ⟨.bl _,H,I,rfl,q⟩
 ·obtain ⟨bs,rb⟩:=hy.reads I ry
  exact SeqAt.in_list_reads rb ra oe.1 od.1 (by have:=od.2;lia) ⟨.bl _,H,I,rfl,q⟩
theorem op_notInD (hu:X.A.units + 64 < cLine):OpR X (compareOp .NotIn) (rInD true):=by
 intro pins s σ H x y v u Q I rx ry h
 obtain ⟨d,ds,hx,hy,od,oe,q⟩:=h
 obtain ⟨as,ra⟩:=hx.reads I rx
 rcases hy with hy | hy
 ·obtain ⟨bs,rb⟩:=hy.reads I ry
  exact SeqAt.notIn_tuple_reads rb ra oe.1 od.1 (by have:=od.2;lia) ⟨.bl _,H,I,rfl,q⟩
 ·obtain ⟨bs,rb⟩:=hy.reads I ry
  exact SeqAt.notIn_list_reads rb ra oe.1 od.1 (by have:=od.2;lia) ⟨.bl _,H,I,rfl,q⟩
end
noncomputable def tyD:PyData→String
 | .none=>"NoneType"
 | .bool _=>"bool"
 | .int _=>"int"
 | .str _=>"str"
 | .list _=>"list"
 | .tuple _=>"tuple"
 | .dict _=>"dict"
theorem Is.ty {K:PySem.W.Frag} {H:Hp} {v:V} {d:PyData} (h:Is H v d):TyOf K H v (.type (tyD d)):=by
 cases h with
 | non=>exact .non
 | bl b=>exact .bl b
 | int i=>exact .int i
 | str x=>exact .str x
 | tup e _=>exact .tup e
 | lst e _=>
  rcases e with e | ⟨o,e⟩
  ·exact .lst e
  ·exact .frz e
noncomputable def isTy (T:String) (d:PyData):Bool:=tyD d==T||(T=="int"&&tyD d=="bool")
theorem kit_bool {K:PySem.W.Frag} (d:PyData):PySem.W.kitOne K (.type (tyD d)) (.type "bool")=some (isTy "bool" d):=by cases d <;> with_unfolding_all rfl
theorem kit_int {K:PySem.W.Frag} (d:PyData):PySem.W.kitOne K (.type (tyD d)) (.type "int")=some (isTy "int" d):=by cases d <;> with_unfolding_all rfl
theorem kit_tuple {K:PySem.W.Frag} (d:PyData):PySem.W.kitOne K (.type (tyD d)) (.type "tuple")=some (isTy "tuple" d):=by cases d <;> with_unfolding_all rfl
theorem kit_list {K:PySem.W.Frag} (d:PyData):PySem.W.kitOne K (.type (tyD d)) (.type "list")=some (isTy "list" d):=by cases d <;> with_unfolding_all rfl
theorem kit_str {K:PySem.W.Frag} (d:PyData):PySem.W.kitOne K (.type (tyD d)) (.type "str")=some (isTy "str" d):=by cases d <;> with_unfolding_all rfl
theorem kit_dict {K:PySem.W.Frag} (d:PyData):PySem.W.kitOne K (.type (tyD d)) (.type "dict")=some (isTy "dict" d):=by cases d <;> with_unfolding_all rfl
section
variable {X:Cx}
theorem call_isinst:CallR X (.builtin "isinstance") (fun xs H Q=>∃ x T d,xs=[x,.ty T]∧T∈(["bool","int","tuple","list","str","dict"]:List String)∧Is H x d∧Q (.bl (isTy T d)) H):=by
 intro pins s σ H xs us Q I r h
 obtain ⟨x,T,d,rfl,hT,hx,q⟩:=h
 obtain ⟨u,v,rfl,rx,ry⟩:=Vals.two r
 cases (show v=Value.type T from ry)
 have fin:∀ {b:Bool},PySem.W.kitOne X.K (.type (tyD d)) (.type T)=some b→b=isTy T d→wpAny (model X.prog X.w) X.A (call (.builtin "isinstance") [u,.type T]) (EP X pins σ Q) X.xe s:=fun {b} e eb=>by
  subst eb
  exact isinst_ok I rx hx.ty e fun tk=>⟨.bl _,H,I.tok tk,rfl,q⟩
 simp only [List.mem_cons,List.not_mem_nil,or_false] at hT
 rcases hT with rfl | rfl | rfl | rfl | rfl | rfl
 ·exact fin (kit_bool d) rfl
 ·exact fin (kit_int d) rfl
 ·exact fin (kit_tuple d) rfl
 ·exact fin (kit_list d) rfl
 ·exact fin (kit_str d) rfl
 ·exact fin (kit_dict d) rfl
end
end L2
set_option maxHeartbeats 8000000
namespace L2
open PySem PySem.Spec PyProof.Rows
noncomputable def Run {α:Type} (lt:Nat→Nat→Bool) (n:Nat):PySem.W.KasT α→(α→Prop)→Prop
 | .ret a,Q=>Q a
 | .ask i j k,Q=>i < n∧j < n∧Run lt n (k (lt i j)) Q
section
variable {lt:Nat→Nat→Bool} {n:Nat}
theorem Run.mono {α:Type} {Q Q':α→Prop} (h:∀ a,Q a→Q' a):∀ {t:PySem.W.KasT α},Run lt n t Q→Run lt n t Q'
 | .ret a,q=>h a q
 | .ask i j k,⟨a,b,q⟩=>⟨a,b,Run.mono h q⟩
theorem Run.bind {α β:Type} {f:α→PySem.W.KasT β} {Q:β→Prop}:∀ {t:PySem.W.KasT α},Run lt n t (fun a=>Run lt n (f a) Q)→Run lt n (t.bind f) Q
 | .ret a,q=>q
 | .ask i j k,⟨a,b,q⟩=>⟨a,b,Run.bind q⟩
theorem Run.wp {α:Type} {cmp:Nat→Nat→(Bool→Shared→Prop)→Shared→Prop} {Q:α→Prop} {R:α→Shared→Prop} {s:Shared} (hc:∀ i j C,i < n→j < n→C (lt i j) s→cmp i j C s) (hR:∀ a,Q a→R a s):
  ∀ {t:PySem.W.KasT α},Run lt n t Q→t.kasWp cmp R s
 | .ret a,q=>hR a q
 | .ask i j k,⟨a,b,q⟩=>hc i j _ a b (Run.wp hc hR q)
structure Str1 (lt:Nat→Nat→Bool) (n:Nat):Prop where
 tr:∀ i j k,i < n→j < n→k < n→lt i j=true→lt j k=true→lt i k=true
 tot:∀ i j,i < n→j < n→i≠j→lt i j=false→lt j i=true
 irr:∀ i j,i < n→j < n→lt i j=true→lt j i=false
structure Plc (n:Nat) (p:Array Nat):Prop where
 sz:p.size=n
 lt:∀ i,i < n→p.getD i 0 < n
 ne:∀ i j,i < n→j < n→i≠j→p.getD i 0≠p.getD j 0
 pm:p.toList.Perm (List.range n)
noncomputable def Up (lt:Nat→Nat→Bool) (p:Array Nat) (k:Nat):Prop:=∀ i j,i < j→j < k→lt (p.getD i 0) (p.getD j 0)=true
noncomputable def Dn (lt:Nat→Nat→Bool) (p:Array Nat) (k:Nat):Prop:=∀ i j,i < j→j < k→lt (p.getD j 0) (p.getD i 0)=true
variable (S:Str1 lt n)
include S
theorem up_next {p:Array Nat} {k:Nat} (P:Plc n p) (h1:1≤k) (hk:k < n) (u:Up lt p k) (h:lt (p.getD (k - 1) 0) (p.getD k 0)=true):Up lt p (k + 1):=fun i j hij hj=>by
 by_cases e:j=k
 ·subst e
  by_cases e2:i=j - 1
  ·subst e2;exact h
  ·exact S.tr _ _ _ (P.lt _ (by lia)) (P.lt _ (by lia)) (P.lt _ (by lia)) (u i (j - 1) (by lia) (by lia)) h
 ·exact u i j hij (by lia)
theorem dn_next {p:Array Nat} {k:Nat} (P:Plc n p) (h1:1≤k) (hk:k < n) (u:Dn lt p k) (h:lt (p.getD k 0) (p.getD (k - 1) 0)=true):Dn lt p (k + 1):=fun i j hij hj=>by
 by_cases e:j=k
 ·subst e
  by_cases e2:i=j - 1
  ·subst e2;exact h
  ·exact S.tr _ _ _ (P.lt _ (by lia)) (P.lt _ (by lia)) (P.lt _ (by lia)) h (u i (j - 1) (by lia) (by lia))
 ·exact u i j hij (by lia)
theorem run_asc {p:Array Nat} (P:Plc n p):∀ (f k:Nat),1≤k→k + f≤n→Up lt p k→Run lt n (PySem.W.kas_asc p f k) fun r=>k≤r∧r≤k + f∧Up lt p r∧(r < k + f→lt (p.getD r 0) (p.getD (r - 1) 0)=true)
 | 0,k,_,_,u=>⟨Nat.le_refl _,Nat.le_refl _,u,fun h=>absurd h (Nat.lt_irrefl _)⟩
 | f + 1,k,h1,hn,u=>by
  refine ⟨P.lt _ (by lia),P.lt _ (by lia),?_⟩
  cases c:lt (p.getD k 0) (p.getD (k - 1) 0) with
  | true=>exact ⟨Nat.le_refl _,by lia,u,fun _=>c⟩
  | false=>
   have c':=S.tot _ _ (P.lt _ (by lia)) (P.lt _ (by lia)) (P.ne k (k - 1) (by lia) (by lia) (by lia)) c
   exact (run_asc P f (k + 1) (by lia) (by lia) (up_next S P h1 (by lia) u c')).mono fun r ⟨a,b,c,d⟩=>⟨by lia,by lia,c,fun h=>d (by lia)⟩
theorem run_desc {p:Array Nat} (P:Plc n p):∀ (f k:Nat),1≤k→k + f≤n→Dn lt p k→Run lt n (PySem.W.kas_desc f p k 0) fun r=>r.1=p∧r.2.2=0∧k≤r.2.1∧r.2.1≤k + f∧Dn lt p r.2.1
 | 0,k,_,_,u=>⟨rfl,rfl,Nat.le_refl _,Nat.le_refl _,u⟩
 | f + 1,k,h1,hn,u=>by
  refine ⟨P.lt _ (by lia),P.lt _ (by lia),?_⟩
  cases c:lt (p.getD k 0) (p.getD (k - 1) 0) with
  | true=>
   show Run lt n (if (0:Nat) > 0 then PySem.W.kas_desc f (PySem.W.kas_rev p (k - (0 + 1)) k) (k + 1) 0 else PySem.W.kas_desc f p (k + 1) 0) _
   rw [if_neg (Nat.lt_irrefl 0)]
   exact (run_desc P f (k + 1) (by lia) (by lia) (dn_next S P h1 (by lia) u c)).mono fun r ⟨a,b,c,d,e⟩=>⟨a,b,by lia,by lia,e⟩
  | false=>
   have c':=S.tot _ _ (P.lt _ (by lia)) (P.lt _ (by lia)) (P.ne k (k - 1) (by lia) (by lia) (by lia)) c
   refine ⟨P.lt _ (by lia),P.lt _ (by lia),?_⟩
   rw [c']
   exact ⟨rfl,rfl,Nat.le_refl _,Nat.le_add_right _ _,u⟩
omit S in
theorem getD_rev {p:Array Nat} {k:Nat} (hk:k≤p.size) (i:Nat):(PySem.W.kas_rev p 0 k).getD i 0=if i < k then p.getD (k - 1 - i) 0 else p.getD i 0:=by
 have e:∀ (q:Array Nat) (i:Nat),q.getD i 0=(q[i]?).getD 0:=fun q i=>by
  by_cases h:i < q.size
  ·simp [Array.getD,h]
  ·simp [Array.getD,h]
 rw [e,e,e]
 unfold PySem.W.kas_rev
 rw [getElem?_mirror hk _ (by lia)]
 by_cases h:i < k
 ·rw [if_pos h]
  by_cases h2:(0≤i∧i < 0 + (k - 0) / 2)∨(k - (k - 0) / 2≤i∧i < k)
  ·rw [if_pos h2]
   congr 2
   lia
  ·rw [if_neg h2]
   have:k - 1 - i=i:=by lia
   rw [this]
 ·rw [if_neg h,if_neg (by lia)]
omit S in
theorem rev_plc {p:Array Nat} (P:Plc n p) {k:Nat} (hk:k≤n):Plc n (PySem.W.kas_rev p 0 k) where
 sz:=(mirror_size _ _ _ _).trans P.sz
 lt:=fun i hi=>by
  rw [getD_rev (by rw [P.sz];exact hk)]
  split
  ·exact P.lt _ (by lia)
  ·exact P.lt _ hi
 ne:=fun i j hi hj hne=>by
  rw [getD_rev (by rw [P.sz];exact hk),getD_rev (by rw [P.sz];exact hk)]
  split <;> split <;> exact P.ne _ _ (by lia) (by lia) (by lia)
 pm:=(Array.perm_iff_toList_perm.mp (mirror_perm _ _ _ _)).trans P.pm
omit S in
theorem rev_up {p:Array Nat} (P:Plc n p) {k:Nat} (hk:k≤n) (d:Dn lt p k):Up lt (PySem.W.kas_rev p 0 k) k:=fun i j hij hj=>by
 rw [getD_rev (by rw [P.sz];exact hk),getD_rev (by rw [P.sz];exact hk),if_pos (by lia),if_pos hj]
 exact d _ _ (by lia) (by lia)
theorem run_tail3 {p:Array Nat} (P:Plc n p) {k:Nat} (h1:1≤k) (hk:k≤n) (d:Dn lt p k):Run lt n (PySem.W.kas_tail3 k n p) fun r=>1≤r.1∧r.1≤n∧Plc n r.2∧Up lt r.2 r.1:=by
 unfold PySem.W.kas_tail3
 refine Run.bind ((run_asc S (rev_plc P hk) (n - k) k h1 (by lia) (rev_up P hk d)).mono fun r ⟨a,b,c,_⟩=>?_)
 exact ⟨by lia,by lia,rev_plc P hk,c⟩
theorem run_count {p:Array Nat} (P:Plc n p) (h1:1≤n):Run lt n (PySem.W.kas_count n p) fun r=>1≤r.1∧r.1≤n∧Plc n r.2∧Up lt r.2 r.1:=by
 unfold PySem.W.kas_count
 refine Run.bind ((run_asc S P (n - 1) 1 (Nat.le_refl _) (by lia) (fun i j hij hj=>by lia)).mono fun r ⟨a,b,u,c⟩=>?_)
 by_cases hr:(r==n)=true
 ·rw [if_pos hr]
  exact ⟨a,by lia,P,u⟩
 ·rw [if_neg hr]
  have hr':r≠n:=by simpa using hr
  by_cases h2:r > 1
  ·rw [if_pos h2]
   refine ⟨P.lt _ (by lia),P.lt _ (by lia),?_⟩
   rw [u 0 (r - 1) (by lia) (by lia)]
   exact ⟨a,by lia,P,u⟩
  ·rw [if_neg h2]
   have er:r=1:=by lia
   subst er
   unfold PySem.W.kas_descPart
   have c0:=c (by lia)
   have d2:Dn lt p 2:=fun i j hij hj=>by
    have ei:i=0:=by lia
    have ej:j=1:=by lia
    subst ei ej
    exact c0
   refine Run.bind ((run_desc S P (n - (1 + 1)) (1 + 1) (by lia) (by lia) d2).mono fun q ⟨e1,e2,e3,e4,e5⟩=>?_)
   rw [e2,if_neg (Nat.lt_irrefl 0),e1]
   exact run_tail3 S P (by lia) (by lia) e5
theorem run_place {p:Array Nat} (P:Plc n p) {k:Nat} (hk:k < n):∀ (f l r:Nat),r≤l + f→l≤r→r≤k→(∀ i,i < l→lt (p.getD i 0) (p.getD k 0)=true)→(∀ i,r≤i→i < k→lt (p.getD k 0) (p.getD i 0)=true)→Up lt p k→
  Run lt n (PySem.W.kas_place p k f l r) fun x=>x≤k∧(∀ i,i < x→lt (p.getD i 0) (p.getD k 0)=true)∧(∀ i,x≤i→i < k→lt (p.getD k 0) (p.getD i 0)=true)
 | 0,l,r,h1,h2,h3,hl,hr,_=>by
  have e:l=r:=by lia
  subst e
  exact ⟨h3,hl,hr⟩
 | f + 1,l,r,h1,h2,h3,hl,hr,u=>by
  unfold PySem.W.kas_place
  by_cases h:l≥r
  ·rw [if_pos h]
   have e:l=r:=by lia
   subst e
   exact ⟨h3,hl,hr⟩
  ·rw [if_neg h]
   refine ⟨P.lt _ (by lia),P.lt _ (by lia),?_⟩
   cases c:lt (p.getD k 0) (p.getD ((l + r) / 2) 0) with
   | true=>
    refine run_place P hk f l ((l + r) / 2) (by lia) (by lia) (by lia) hl (fun i hi1 hi2=>?_) u
    by_cases e:i=(l + r) / 2
    ·subst e;exact c
    ·exact S.tr _ _ _ (P.lt _ (by lia)) (P.lt _ (by lia)) (P.lt _ (by lia)) c (u _ _ (by lia) (by lia))
   | false=>
    have c':=S.tot _ _ (P.lt _ (by lia)) (P.lt _ (by lia)) (P.ne k ((l + r) / 2) (by lia) (by lia) (by lia)) c
    refine run_place P hk f ((l + r) / 2 + 1) r (by lia) (by lia) h3 (fun i hi=>?_) hr u
    by_cases e:i=(l + r) / 2
    ·subst e;exact c'
    ·exact S.tr _ _ _ (P.lt _ (by lia)) (P.lt _ (by lia)) (P.lt _ (by lia)) (u _ _ (by lia) (by lia)) c'
omit S in
theorem getD_bubble {p:Array Nat} {k d:Nat} (hk:k < p.size) (hd:d≤k) (i:Nat):(bubble p k d).getD i 0=if i=k - d then p.getD k 0 else if k - d < i∧i≤k then p.getD (i - 1) 0 else p.getD i 0:=by
 have e:∀ (q:Array Nat) (i:Nat),q.getD i 0=(q[i]?).getD 0:=fun q i=>by
  by_cases h:i < q.size
  ·simp [Array.getD,h]
  ·simp [Array.getD,h]
 rw [e,e,e,e,getElem?_bubble hk d hd]
 split
 ·rfl
 ·split <;> rfl
omit S in
theorem bubble_plc {p:Array Nat} (P:Plc n p) {k d:Nat} (hk:k < n) (hd:d≤k):Plc n (bubble p k d) where
 sz:=(bubble_size _ _ _).trans P.sz
 lt:=fun i hi=>by
  rw [getD_bubble (by rw [P.sz];exact hk) hd]
  split
  ·exact P.lt _ hk
  ·split
   ·exact P.lt _ (by lia)
   ·exact P.lt _ hi
 ne:=fun i j hi hj hne=>by
  rw [getD_bubble (by rw [P.sz];exact hk) hd,getD_bubble (by rw [P.sz];exact hk) hd]
  split <;> split <;> first | (split <;> first | exact P.ne _ _ (by lia) (by lia) (by lia) | (split <;> exact P.ne _ _ (by lia) (by lia) (by lia))) | exact P.ne _ _ (by lia) (by lia) (by lia) | lia
 pm:=(Array.perm_iff_toList_perm.mp (bubble_perm _ _ _)).trans P.pm
theorem run_bin:∀ (f:Nat) (p:Array Nat) (k:Nat),Plc n p→k + f=n→1≤k→Up lt p k→Run lt n (PySem.W.kas_bin f p k) fun q=>Plc n q∧Up lt q n
 | 0,p,k,P,e,_,u=>by
  have e':k=n:=by lia
  subst e'
  exact ⟨P,u⟩
 | f + 1,p,k,P,e,h1,u=>by
  unfold PySem.W.kas_bin
  refine Run.bind ((run_place S P (by lia:k < n) k 0 k (by lia) (by lia) (Nat.le_refl _) (fun i hi=>by lia) (fun i h1 h2=>by lia) u).mono fun l ⟨hl,ha,hb⟩=>?_)
  have hp:k < p.size:=by rw [P.sz];lia
  refine run_bin f _ (k + 1) (bubble_plc P (by lia) (by lia)) (by lia) (by lia) fun i j hij hj=>?_
  rw [getD_bubble hp (by lia),getD_bubble hp (by lia)]
  have el:k - (k - l)=l:=by lia
  rw [el]
  by_cases hi:i=l
  ·rw [if_pos hi]
   rw [if_neg (by lia:¬j=l),if_pos (by lia)]
   exact hb _ (by lia) (by lia)
  ·rw [if_neg hi]
   by_cases hj':j=l
   ·rw [if_pos hj',if_neg (by lia)]
    exact ha _ (by lia)
   ·rw [if_neg hj']
    by_cases c1:l < i∧i≤k
    ·rw [if_pos c1,if_pos (by lia)]
     exact u _ _ (by lia) (by lia)
    ·rw [if_neg c1]
     by_cases c2:l < j∧j≤k
     ·rw [if_pos c2]
      exact u _ _ (by lia) (by lia)
     ·rw [if_neg c2]
      exact u _ _ (by lia) (by lia)
theorem run_sort (h1:1≤n):Run lt n (PySem.W.kas_sort n) fun q=>Plc n q∧Up lt q n:=by
 unfold PySem.W.kas_sort
 have P0:Plc n (List.toArray (List.range n)):=by
  have e:∀ i,i < n→(List.toArray (List.range n)).getD i 0=i:=fun i hi=>by simp [Array.getD,hi]
  exact ⟨by simp,fun i hi=>by rw [e i hi];exact hi,fun i j hi hj hne=>by rw [e i hi,e j hj];exact hne,List.Perm.refl _⟩
 refine Run.bind ((run_count S P0 h1).mono fun r ⟨a,b,P,u⟩=>?_)
 by_cases h:r.1 < n
 ·rw [if_pos h]
  have em:max r.1 1=r.1:=by lia
  rw [em]
  exact run_bin S _ _ _ P (by lia) a u
 ·rw [if_neg h]
  have e:r.1=n:=by lia
  rw [e] at u
  exact ⟨P,u⟩
end
end L2
namespace L2
open PySem PySem.Spec PyProof.Rows
theorem ns_one {h:Heap} {a:Addr} {m m':Str→Option Value} (x:h.Ns a m) (y:h.Ns a m'):m=m':=by
 obtain ⟨o,es,ep,e,d,_,f⟩:=x
 obtain ⟨o',es',ep',e',d',_,f'⟩:=y
 rw [e] at e';cases e'
 rw [d] at d';cases d'
 funext z
 rw [←f z,←f' z]
theorem ObjOk.there {P:Program} {w:World} {H:Hp} {h:Heap} {a:Addr} {o:HO} (x:ObjOk P w H h a o):∃ u,h.get? a=some u:=by
 cases o with
 | lst xs=>obtain ⟨_,_,_,_,e⟩:=x;exact ⟨_,e⟩
 | tup xs=>obtain ⟨_,_,_,_,o,e,_⟩:=x;exact ⟨_,e⟩
 | dK kvs=>obtain ⟨_,_,_,_,o,_,_,e,_⟩:=x;exact ⟨_,e⟩
 | dT kvs=>obtain ⟨_,_,_,_,o,_,_,e,_⟩:=x;exact ⟨_,e⟩
 | set S n=>obtain ⟨o,_,_,_,e,_⟩:=x;exact ⟨_,e⟩
 | ins C dx fs=>obtain ⟨_,_,_,e,_⟩:=x;exact ⟨_,e⟩
 | own y=>obtain ⟨_,e⟩:=x;exact ⟨_,e⟩
 | xd fs=>obtain ⟨_,⟨_,_,_,e,_⟩,_⟩:=x;exact ⟨_,e⟩
 | rng lo hi=>obtain ⟨_,_,_,e⟩:=x;exact ⟨_,e⟩
 | frz ob u=>obtain ⟨e,_⟩:=x;exact ⟨_,e⟩
 | tbl ps=>exact ⟨_,show h.get? a=some _ from x⟩
 | met f y=>exact ⟨_,show h.get? a=some _ from x⟩
 | ext φ=>obtain ⟨_,⟨_,e⟩,_⟩:=x;exact ⟨_,e⟩
section
variable {X:Cx} {pins:List (Addr×Obj)} {σ:St} {H:Hp} {s:Shared}
theorem Inv.none_of (I:Inv X pins σ H s) {a:Addr} (h:s.heap.get? a=none):H a=none:=by
 cases q:H a with
 | none=>rfl
 | some o=>
  obtain ⟨u,e⟩:=(I.hok a o q).there
  rw [h] at e;cases e
theorem Inv.laidBut {a:Addr} {xs:List V} {its:List Value} {n t':Nat} {h':Heap} {m:Str→Option Value} (I:Inv X pins σ H s) (k:∀ b u,b≠X.env.locals→s.heap.get? b=some u→h'.get? b=some u) (hm:s.heap.Ns X.env.locals m) (hm':h'.Ns X.env.locals m)
  (hp:s.heap.get? a=none) (rv:Vals xs its) (hz:xs.length≤sizeLine) (ho:h'.get? a=some { cls:=.type "list",data:=.seq its.toArray n }):Inv X pins σ (upd H a (.lst xs)) { s with heap:=h',toks:=t' }:=by
 have hn:H a=none:=I.none_of hp
 have neL:∀ b u,H b=some u→b≠X.env.locals:=fun b u e z=>by rw [z,I.free] at e;cases e
 refine I.step (g':=s.gens) (d':=s.drawn) (ch:=[]) (fun _ z=>nomatch z) (fun b o h1 _ _ e _=>k b o h1 e) (fun b o h1 _ _ e _=>⟨o.slots,k b o h1 e⟩)
  (fun b o _ e q=>by rw [upd_ne (fun z=>by rw [z,hp] at e;cases e)];exact q) (fun b o _ e=>?_)
  (fun b xs q=>by rw [upd_ne (ne_of_none q hn)];exact q) (fun b o u q=>by rw [upd_ne (ne_of_none q hn)];exact q) (fun b ps q=>⟨#[],by rw [upd_ne (ne_of_none q hn),q];simp⟩) (fun m2 h2=>?_) (fun b u e=>?_) I.bare
 ·by_cases hb:b=X.env.locals
  ·subst hb
   obtain ⟨o',_,_,e',_⟩:=hm'
   exact ⟨o',e'⟩
  ·exact ⟨o,k b o hb e⟩
 ·rw [ns_one h2 hm];exact hm'
 ·by_cases hb:b=a
  ·subst hb
   rw [upd_same] at e
   cases e
   exact ⟨hz,its,n,rv,ho⟩
  ·rw [upd_ne hb] at e
   refine (I.hok b u e).stay (fun c v hc q=>k c v ?_ q) (fun c q=>by rw [upd_ne (ne_of_none q hn)];exact q) fun c xs q=>by rw [upd_ne (ne_of_none q hn)];exact q
   rcases hc with rfl | hc
   ·exact neL _ _ e
   ·exact neL _ _ hc
end
section
variable {X:Cx}
theorem bools_of:∀ {bs:List Bool} {vs:List Value},Vals (bs.map V.bl) vs→LSm.BoolsAre vs bs
 | [],_,.nil=>.nil
 | b::bs,_,.cons r t=>by
  cases (show _=Value.bool b from r)
  exact .cons b (bools_of t)
theorem call_all (hc:X.calm=true):CallR X (.builtin "all") (fun xs H Q=>∃ (p:Addr) (bs:List Bool),xs=[.ref p]∧SqL X.K H p (bs.map V.bl)∧Q (.bl (bs.all id)) H):=by
 intro pins s σ H xs us Q I r h
 obtain ⟨p,bs,rfl,hq,q⟩:=h
 obtain ⟨u,rfl,rx⟩:=Vals.one r
 cases (show u=Value.ref p from rx)
 obtain ⟨its,rv,pl,hz⟩:=I.list hq
 obtain ⟨m,F⟩:=I.fr
 have hb:=bools_of rv
 have hl:s.heap.IsList p its.toArray:=pl.isList
 have hlt:p < s.heap.objs.size:=by obtain ⟨_,e,_⟩:=hl;exact Heap.lt_size e
 refine call_all_walk (wpAny_pyIter_list hl ?_)
 refine ⟨s.heap.objs.size,[s.heap.objs.size,p],[s.heap.objs.size],its.toArray.size,_,_,fun i=>(bs[i]?).getD true,rfl,Walks.list (A:=X.A.in1) (I.ok.hd hc) _ p (Nat.ne_of_lt hlt) its.toArray,
  ⟨⟨_,Heap.get?_push_size _ rfl,rfl,rfl⟩,hl.push _⟩,fun i v s' Q' E' hP hQ=>?_,fun h' tk hk=>?_⟩
 ·obtain ⟨b,e,rfl⟩:=hb.get i v (by simpa using hP)
  simp only [e,Option.getD_some] at hQ
  exact wpAny_truthy_bool hQ
 ·have e:((List.range its.toArray.size).all fun i=>(bs[i]?).getD true)=bs.all id:=by
   rw [List.size_toArray,hb.length];exact LSm.range_all bs
  rw [e]
  exact ⟨.bl _,H,I.kept (LSm.kept_iter hk),rfl,q⟩
end
section
variable {prog:Program} {w:World} {A:Around} {E:Value→Shared→Prop} {s:Shared}
noncomputable def Col (prog:Program) (w:World) (s:Shared) (l:Addr) (vs:List Value):Prop:=∀ (A:Around) (E:Value→Shared→Prop) (Q:List Value→Shared→Prop),
 Q vs { s with heap:=(s.heap.push (seqObj "list" #[] 0)).update s.heap.objs.size (Obj.mapSeq (· ++vs.toArray)) }→wpAny (model prog w) A (collect (.ref l)) Q E s
theorem Col.list {l:Addr} {vs:List Value} (hl:s.heap.IsList l vs.toArray) (hz:vs.length≤sizeLine):Col prog w s l vs:=fun _ _ _ h=>collect_list hl h hz
theorem Col.tup {l:Addr} {vs:List Value} (hl:IsTup s.heap l vs.toArray) (hz:vs.length≤sizeLine):Col prog w s l vs:=by
 intro A E Q h
 obtain ⟨o,ho,hc,n,hd⟩:=hl
 have ho':(s.heap.push (seqObj "list" #[] 0)).get? l=some o:=Heap.get?_push_of_some _ ho
 have e0:((#[]:Array Value)++vs.toArray).toList=vs:=by simp
 unfold collect
 refine wpAny_bind (wpAny_runValue (codeAny_builtin entry_proto_collect' ?_))
 show wpAny _ _ (do again (.builtin "list.__iadd__" ⟨[←newList [],.ref l],[]⟩)) _ _ s
 refine wpAny_bind (wpAny_newList (wpAny_pure ⟨Code.quiet_builtin _ (by decide +kernel),codeAny_builtin entry_list_iadd' ?_⟩))
 show wpAny _ _ (Builtin.List.listExtendWith (.ref s.heap.objs.size) (.ref l) (.ref s.heap.objs.size)) _ _ { s with heap:=s.heap.push (seqObj "list" #[] 0) }
 unfold Builtin.List.listExtendWith
 refine wpAny_bind (wpAny_typeOf (T:="tuple") ⟨o,ho',hc⟩ ?_)
 have ht2:(Value.type "tuple"==Value.type "tuple")=true:=by rfl
 rw [if_pos (by rw [ht2];simp)]
 refine wpAny_bind (listItems_at ho' hd ?_)
 refine wpAny_bind (listItems_at (xs:=#[]) (n:=0) (Heap.get?_push_size _ rfl) rfl ?_)
 rw [if_neg (by simp)]
 refine wpAny_bind (listUpdate_at (xs:=#[]) (n:=0) (Heap.get?_push_size _ rfl) rfl ?_ (Nat.zero_le _) (Nat.le_trans (Nat.le_of_eq (by rw [←Array.length_toList,e0])) (Nat.le_succ_of_le hz)))
 refine wpAny_pure ?_
 show wpAny (model prog w) A (do
   let ob ←load s.heap.objs.size
   match ob.data with
   | .seq xs _=>pure xs.toList
   | _=>unsupported "internal:collect") Q E { s with heap:=(s.heap.push (seqObj "list" #[] 0)).update s.heap.objs.size (Obj.mapSeq (· ++vs.toArray)) }
 refine wpAny_bind (wpAny_load (get?_update_seq (Heap.get?_push_size _ rfl) _) ?_)
 show wpAny _ _ (pure ((#[]:Array Value)++vs.toArray).toList) Q E _
 rw [e0]
 exact wpAny_pure h
theorem sorted_many {l:Addr} {vs:List Value} {Q:Value→Shared→Prop} {h₀:Heap} {L:Addr} {m:Str→Option Value} {news:List (Addr×Obj)} (F:Fr h₀ L s.heap m) (N:News h₀ L s.heap news) (hl:Col prog w s l vs) (h2:2≤vs.length) (h64:vs.length < 64)
  (h:∀ D e1 h',Fr h₀ L h' m→News h₀ L h' ((D,seqObj "list" #[] e1)::news)→(∀ q∈news,q.1 < D)→
   wpAny (model prog w) A.in1.in1 (keyKind' vs.toArray) (fun κ s'=>(PySem.W.kas_sort vs.length).kasWp (PySem.W.kas_ask prog w A.in1.in1 κ vs) (fun p s''=>PySem.W.KasFin h₀ L m D e1 (p.toList.map fun i=>vs.getD i Value.none) (fun s3=>Q (.ref D) s3) s'') s') (fun _ _=>False) { s with heap:=h' }):
  wpAny (model prog w) A (call (.builtin "sorted") [.ref l]) Q E s:=by
 have hsl:vs.length≤sizeLine:=by rw [sizeLine_eq];lia
 refine Calls.call_function_entry kind_sorted plain_sorted entry_sorted (args_sorted1 _) ?_
 unfold Builtin.«sorted»
 refine wpAny_bind (m:=checkCount "sorted" 1 1 _) (wpAny_pure ?_)
 refine wpAny_bind (hl _ _ _ ?_)
 refine wpAny_bind (wpAny_newList ?_ hsl)
 have hsz:((s.heap.push (seqObj "list" #[] 0)).update s.heap.objs.size (Obj.mapSeq (· ++vs.toArray))).objs.size=s.heap.objs.size + 1:=by
  rw [Heap.size_update,size_push']
 have hoL:(((s.heap.push (seqObj "list" #[] 0)).update s.heap.objs.size (Obj.mapSeq (· ++vs.toArray))).push (seqObj "list" vs.toArray 0)).get? (s.heap.objs.size + 1)=some (seqObj "list" vs.toArray 0):=by
  rw [←hsz];exact Heap.get?_push_size _ rfl
 have keep:∀ b o,s.heap.get? b=some o→(((s.heap.push (seqObj "list" #[] 0)).update s.heap.objs.size (Obj.mapSeq (· ++vs.toArray))).push (seqObj "list" vs.toArray 0)).get? b=some o:=fun b o q=>by
  have hlt:b < s.heap.objs.size:=Heap.lt_size q
  rw [Heap.get?_push_ne _ _ _ (by rw [hsz];exact Nat.ne_of_lt (Nat.lt_succ_of_lt hlt)),Heap.get?_update_ne _ _ _ _ (Nat.ne_of_lt hlt),Heap.get?_push_ne _ _ _ (Nat.ne_of_lt hlt)]
  exact q
 have hL:L < s.heap.objs.size:=F.ns.lt
 show wpAny _ _ _ _ _ { s with heap:=((s.heap.push (seqObj "list" #[] 0)).update s.heap.objs.size (Obj.mapSeq (· ++vs.toArray))).push (seqObj "list" vs.toArray 0) }
 rw [hsz]
 refine wpAny_bind (wpAny_holding (wpAny_call_entry slot_list_sort ⟨_,hoL,rfl⟩ entry_list_sort ?body (args_list_sort _)))
 case body=>
  refine PySem.W.kat_list_sort (s:={ s with heap:=((s.heap.push (seqObj "list" #[] 0)).update s.heap.objs.size (Obj.mapSeq (· ++vs.toArray))).push (seqObj "list" vs.toArray 0) })
   (F.kept keep) (N.grown keep) hoL (Nat.ne_of_gt (Nat.lt_succ_of_lt hL)) (Heap.get?_none_of_le (Nat.le_trans F.above (Nat.le_succ_of_le (Nat.le_of_lt hL))))
   (fun p hp=>Nat.ne_of_lt (Nat.lt_succ_of_lt (Heap.lt_size (N p hp).1))) h2 h64 fun e1 h' F' N'=>?_
  refine wpAny_mono (h _ e1 h' F' N' fun q hq=>Nat.lt_succ_of_lt (Heap.lt_size (N q hq).1)) (fun κ s' hk=>?_) fun _ _ x=>x
  rw [PySem.W.kat_ask_eq rfl] at hk ⊢
  exact PySem.W.kas_wp_mono hk fun p s'' hk'=>hk'.mono fun s3 hq=>⟨_,rfl,wpAny_pure ⟨_,rfl,hq⟩⟩
theorem sorted_few {l:Addr} {vs:List Value} {Q:Value→Shared→Prop} (hl:Col prog w s l vs) (h2:vs.length < 2)
  (h:∀ D h' n,s.heap.objs.size≤D→(∀ b o,s.heap.get? b=some o→h'.get? b=some o)→h'.get? D=some { cls:=.type "list",data:=.seq vs.toArray n }→Q (.ref D) { s with heap:=h' }):
  wpAny (model prog w) A (call (.builtin "sorted") [.ref l]) Q E s:=by
 have hsl:vs.length≤sizeLine:=by rw [sizeLine_eq];lia
 refine Calls.call_function_entry kind_sorted plain_sorted entry_sorted (args_sorted1 _) ?_
 unfold Builtin.«sorted»
 refine wpAny_bind (m:=checkCount "sorted" 1 1 _) (wpAny_pure ?_)
 refine wpAny_bind (hl _ _ _ ?_)
 refine wpAny_bind (wpAny_newList ?_ hsl)
 have hsz:((s.heap.push (seqObj "list" #[] 0)).update s.heap.objs.size (Obj.mapSeq (· ++vs.toArray))).objs.size=s.heap.objs.size + 1:=by
  rw [Heap.size_update,size_push']
 have hoL:(((s.heap.push (seqObj "list" #[] 0)).update s.heap.objs.size (Obj.mapSeq (· ++vs.toArray))).push (seqObj "list" vs.toArray 0)).get? (s.heap.objs.size + 1)=some (seqObj "list" vs.toArray 0):=by
  rw [←hsz];exact Heap.get?_push_size _ rfl
 have keep:∀ b o,s.heap.get? b=some o→(((s.heap.push (seqObj "list" #[] 0)).update s.heap.objs.size (Obj.mapSeq (· ++vs.toArray))).push (seqObj "list" vs.toArray 0)).get? b=some o:=fun b o q=>by
  have hlt:b < s.heap.objs.size:=Heap.lt_size q
  rw [Heap.get?_push_ne _ _ _ (by rw [hsz];exact Nat.ne_of_lt (Nat.lt_succ_of_lt hlt)),Heap.get?_update_ne _ _ _ _ (Nat.ne_of_lt hlt),Heap.get?_push_ne _ _ _ (Nat.ne_of_lt hlt)]
  exact q
 show wpAny _ _ _ _ _ { s with heap:=((s.heap.push (seqObj "list" #[] 0)).update s.heap.objs.size (Obj.mapSeq (· ++vs.toArray))).push (seqObj "list" vs.toArray 0) }
 rw [hsz]
 generalize ((s.heap.push (seqObj "list" #[] 0)).update s.heap.objs.size (Obj.mapSeq (· ++vs.toArray))).push (seqObj "list" vs.toArray 0)=g at hoL keep ⊢
 refine wpAny_bind (wpAny_holding (wpAny_call_entry slot_list_sort ⟨_,hoL,rfl⟩ entry_list_sort ?body (args_list_sort _)))
 case body=>
  rw [list_sort_plain]
  have ha:s.heap.objs.size + 1 < g.objs.size:=Heap.lt_size hoL
  refine wpAny_bind (listItems_at hoL rfl ?_)
  refine wpAny_bind (listUpdate_at hoL rfl ?_ (by rw [List.size_toArray];exact hsl) (Nat.zero_le _))
  obtain ⟨e1,ho1⟩:∃ e1,(g.update (s.heap.objs.size + 1) (Obj.mapSeq fun _=>(#[]:Array Value))).get? (s.heap.objs.size + 1)=some (seqObj "list" #[] e1):=⟨_,get?_update_seq hoL (fun _=>#[])⟩
  refine wpAny_bind (seqEpoch_at ho1 rfl ?_)
  refine wpAny_bind (wpAny_newTuple ?_ hsl)
  refine wpAny_bind (wpAny_newList ?_ (Nat.zero_le _))
  refine wpAny_holding ?_
  have ho6:(((g.update (s.heap.objs.size + 1) (Obj.mapSeq fun _=>(#[]:Array Value))).push (seqObj "tuple" vs.toArray 0)).push (seqObj "list" #[] 0)).get? (s.heap.objs.size + 1)=some (seqObj "list" #[] e1):=by
   rw [Heap.get?_push_ne _ _ _ (by rw [size_push',Heap.size_update];exact Nat.ne_of_lt (Nat.lt_succ_of_lt ha)),Heap.get?_push_ne _ _ _ (by rw [Heap.size_update];exact Nat.ne_of_lt ha)]
   exact ho1
  show wpAny (model prog w) _ _ _ _ { s with heap:=((g.update (s.heap.objs.size + 1) (Obj.mapSeq fun _=>(#[]:Array Value))).push (seqObj "tuple" vs.toArray 0)).push (seqObj "list" #[] 0) }
  dsimp only
  have h2':vs.toArray.size < 2:=by simpa using h2
  rw [if_pos h2',if_pos h2']
  refine wpAny_bind (wpAny_pure ?_)
  rw [StateT.run_pure]
  refine wpAny_bind (wpAny_pure ?_)
  dsimp only
  refine wpAny_bind (seqEpoch_at ho6 rfl ?_)
  have earr:(arrOf (SortSt.mk' general' (vs.toArray.zip vs.toArray) #[] 7 none)).map (·.2)=vs.toArray:=by
   show (pairsOf vs).map (·.2)=vs.toArray
   apply Array.toList_inj.mp
   rw [Array.toList_map,pairsOf_toList]
   have e:∀ l:List Value,(l.zip l).map (·.2)=l:=fun l=>by
    induction l with
    | nil=>rfl
    | cons a r ih=>rw [List.zip_cons_cons,List.map_cons,ih]
   rw [e]
  refine wpAny_bind (listUpdate_at ho6 rfl ?_ (Nat.zero_le _) (hsz2:=by rw [earr,List.size_toArray];exact Nat.le_succ_of_le hsl))
  simp only [bne_self_eq_false,Bool.false_eq_true,if_false]
  refine wpAny_pure ⟨_,rfl,wpAny_pure ⟨_,rfl,?_⟩⟩
  have s2:=get?_update_seq ho6 fun _=>vs.toArray
  rw [earr]
  refine h _ _ _ (Nat.le_succ _) (fun b o q=>?_) s2
  have hlt:b < s.heap.objs.size:=Heap.lt_size q
  have hlt2:b < g.objs.size:=Heap.lt_size (keep b o q)
  rw [Heap.get?_update_ne _ _ _ _ (Nat.ne_of_lt (Nat.lt_succ_of_lt hlt)),Heap.get?_push_ne _ _ _ (by rw [size_push',Heap.size_update];exact Nat.ne_of_lt (Nat.lt_succ_of_lt hlt2)),Heap.get?_push_ne _ _ _ (by rw [Heap.size_update];exact Nat.ne_of_lt hlt2),
   Heap.get?_update_ne _ _ _ _ (Nat.ne_of_lt (Nat.lt_succ_of_lt hlt))]
  exact keep b o q
end
end L2
namespace L2
open PySem PySem.Spec PyProof.Rows
theorem lex_asym:∀ {a b:List Int},HT.lexLt a b=true→HT.lexLt b a=false
 | [],[],h=>by cases h
 | [],_::_,_=>rfl
 | _::_,[],h=>by cases h
 | x::a,y::b,h=>by
  rw [HT.lexLt_cons] at h ⊢
  by_cases e:x=y
  ·rw [if_pos e] at h
   rw [if_pos e.symm]
   exact lex_asym h
  ·rw [if_neg e] at h
   rw [if_neg (Ne.symm e)]
   have:=of_decide_eq_true h
   exact decide_eq_false (by lia)
theorem lex_tot:∀ {a b:List Int},a≠b→HT.lexLt a b=false→HT.lexLt b a=true
 | [],[],h,_=>(h rfl).elim
 | [],_::_,_,h=>by cases h
 | _::_,[],_,_=>rfl
 | x::a,y::b,hne,h=>by
  rw [HT.lexLt_cons] at h ⊢
  by_cases e:x=y
  ·rw [if_pos e] at h
   rw [if_pos e.symm]
   exact lex_tot (fun z=>hne (by rw [e,z])) h
  ·rw [if_neg e] at h
   rw [if_neg (Ne.symm e)]
   have:=of_decide_eq_false h
   exact decide_eq_true (by lia)
theorem lex_tr:∀ {a b c:List Int},HT.lexLt a b=true→HT.lexLt b c=true→HT.lexLt a c=true
 | [],_,[],h1,h2=>by
  rename_i b
  cases b
  ·exact h1
  ·cases h2
 | [],_,_::_,_,_=>rfl
 | _::_,[],_,h,_=>by cases h
 | _::_,_::_,[],_,h=>by cases h
 | x::a,y::b,z::c,h1,h2=>by
  rw [HT.lexLt_cons] at h1 h2 ⊢
  by_cases e1:x=y
  ·rw [if_pos e1] at h1
   by_cases e2:y=z
   ·rw [if_pos e2] at h2
    rw [if_pos (e1.trans e2)]
    exact lex_tr h1 h2
   ·rw [if_neg e2] at h2
    rw [if_neg (by rw [e1];exact e2),e1]
    exact h2
  ·rw [if_neg e1] at h1
   by_cases e2:y=z
   ·rw [if_pos e2] at h2
    rw [if_neg (by rw [←e2];exact e1),←e2]
    exact h1
   ·rw [if_neg e2] at h2
    have p:=of_decide_eq_true h1
    have q:=of_decide_eq_true h2
    rw [if_neg (by lia)]
    exact decide_eq_true (by lia)
section
variable {prog:Program} {w:World} {A:Around} {E:Value→Shared→Prop} {s:Shared}
theorem lex_ints {b:Bool} {Q:Bool→Shared→Prop}:∀ {ns ms:List Int} {vs us:List Value} (i:Nat),Vals (ns.map V.int) vs→Vals (ms.map V.int) us→ns.length=ms.length→Q (HT.lexLt ns ms) s→
  PySem.W.KatLex prog w A b false Q (vs.zip us) i s
 | [],[],_,_,_,.nil,.nil,_,q=>q
 | [],_::_,_,_,_,_,_,h,_=>by simp at h
 | _::_,[],_,_,_,_,_,h,_=>by simp at h
 | n::ns,m::ms,_,_,i,.cons r1 t1,.cons r2 t2,h,q=>by
  obtain ⟨t,rfl⟩:=r1
  obtain ⟨u,rfl⟩:=r2
  rw [List.zip_cons_cons]
  refine PySem.W.kat_cons (SeqAt.EqAt.int_int n t m u prog w _ _ ?_)
  rw [HT.lexLt_cons] at q
  by_cases e:n=m
  ·rw [if_pos e] at q
   rw [show (n==m)=true by simpa using e]
   exact PySem.W.kat_yes (lex_ints (i + 1) t1 t2 (by simpa using h) q)
  ·rw [if_neg e] at q
   rw [show (n==m)=false by simpa using e]
   refine PySem.W.kat_no ?_
   cases hb:(b&&i==0) with
   | true=>exact oneLt_int q
   | false=>exact PySem.W.kat_one _ _ (lt_int (show PySem.W.BoolBack Q (.bool (decide (n < m))) s from q))
theorem lex_pre {b:Bool} {Q:Bool→Shared→Prop} {ns ms:List Int}:∀ {ps:List Str} {vs us:List Value} (i:Nat),Vals (ps.map V.str++ns.map V.int) vs→Vals (ps.map V.str++ms.map V.int) us→ns.length=ms.length→Q (HT.lexLt ns ms) s→
  PySem.W.KatLex prog w A b false Q (vs.zip us) i s
 | [],_,_,i,h1,h2,h,q=>lex_ints i h1 h2 h q
 | p::ps,_,_,i,.cons r1 t1,.cons r2 t2,h,q=>by
  obtain ⟨t,rfl⟩:=r1
  obtain ⟨u,rfl⟩:=r2
  rw [List.zip_cons_cons]
  refine PySem.W.kat_cons (SeqAt.EqAt.str_str p t p u prog w _ _ ?_)
  rw [beq_self_eq_true]
  exact PySem.W.kat_yes (lex_pre (i + 1) t1 t2 h q)
end
noncomputable def tupOf (ps:List Str) (ns:List Int):PyData:=.tuple (ps.map .str++ns.map .int)
theorem IsAll.preInts {H:Hp} {ns:List Int}:∀ {ps:List Str} {vs:List V},IsAll H vs (ps.map PyData.str++ns.map PyData.int)→vs=ps.map V.str++ns.map V.int
 | [],_,h=>h.of_ints
 | p::ps,_,h=>by
  rw [List.map_cons,List.cons_append] at h
  cases h with
  | cons h1 t=>
  cases h1
  have:=IsAll.preInts (ps:=ps) t
  rw [this]
  rfl
theorem katTups_of {h:Heap} {G:Value→Prop}:∀ (its:List Value),(∀ (i:Nat) u,its[i]? =some u→∃ (a:Addr) (o:Obj) (zs:Array Value) (n:Nat) (f:Value),u=.ref a∧h.get? a=some o∧o.cls=.type "tuple"∧o.data=.seq zs n∧zs[0]? =some f∧G f)→
  ∃ fs,PySem.W.KatTups h its fs∧fs.length=its.length∧∀ v∈fs,G v
 | [],_=>⟨[],PySem.W.KatTups.nil,rfl,fun _ h=>nomatch h⟩
 | u::its,hi=>by
  obtain ⟨fs,t,l,g⟩:=katTups_of its fun i u e=>hi (i + 1) u (by simpa using e)
  obtain ⟨a,o,zs,n,f,rfl,h1,h2,h3,h4,h5⟩:=hi 0 u rfl
  refine ⟨f::fs,PySem.W.KatTups.cons h1 h2 h3 h4 t,by simp [l],fun v hv=>?_⟩
  rcases List.mem_cons.mp hv with rfl | hv
  ·exact h5
  ·exact g v hv
theorem map_getD_range {α:Type} (d:α) (l:List α):(List.range l.length).map (fun i=>l.getD i d)=l:=by
 apply List.ext_getElem?
 intro i
 rw [List.getElem?_map]
 by_cases h:i < l.length
 ·rw [List.getElem?_range h]
  simp [h]
 ·rw [List.getElem?_eq_none (by simpa using h),List.getElem?_eq_none (by simpa using h)]
  rfl
section
variable {X:Cx}
noncomputable def rSorted (K:PySem.W.Frag):List V→Hp→VK→Prop:=fun xs H Q=>∃ (p:Addr) (vs:List V) (ps:List Str) (nss:List (List Int)) (k:Nat),xs=[.ref p]∧(SqL K H p vs∨SqT K H p vs)∧IsAll H vs (nss.map (tupOf ps))∧(∀ ns∈nss,ns.length=k)∧0 < ps.length + k∧nss.Nodup∧nss.length < 64∧
 ∀ (l:Addr) (vs':List V) (nss':List (List Int)),H l=none→IsAll H vs' (nss'.map (tupOf ps))→nss'.Perm nss→nss'.Pairwise (fun a b=>HT.lexLt a b=true)→Q (.ref l) (upd H l (.lst vs'))
theorem call_sorted:CallR X (.builtin "sorted") (rSorted X.K):=by
 intro pins s σ H xs us Q I r h
 obtain ⟨p,vs,ps,nss,k,rfl,hq,ha,hk,hpos,hnd,h64,q⟩:=h
 obtain ⟨u,rfl,rx⟩:=Vals.one r
 cases (show u=Value.ref p from rx)
 obtain ⟨its,rv,hl,hz⟩:∃ its,Vals vs its∧Col X.prog X.w s p its∧vs.length≤sizeLine:=by
  rcases hq with hq | hq
  ·obtain ⟨its,rv,pl,hz⟩:=I.list hq
   exact ⟨its,rv,Col.list pl.isList (by rw [←rv.length];exact hz),hz⟩
  ·obtain ⟨its,rv,pl,hz⟩:=I.tuple hq
   exact ⟨its,rv,Col.tup pl (by rw [←rv.length];exact hz),hz⟩
 have e1:vs.length=nss.length:=by rw [ha.length,List.length_map]
 have e2:its.length=nss.length:=by rw [←rv.length,e1]
 by_cases h2:its.length < 2
 ·refine sorted_few hl h2 fun D h' n hD hkeep ho=>?_
  refine ⟨.ref D,_,I.laid (t':=s.toks) (o:=.lst vs) hkeep hD ⟨hz,its,n,rv,ho⟩,rfl,q D vs nss (I.hok.fresh hD) ha (List.Perm.refl _) ?_⟩
  match nss,e2,h2 with
  | [],_,_=>exact .nil
  | [a],_,_=>exact List.pairwise_singleton _ _
  | a::b::r,e2,h2=>simp at e2;lia
 ·obtain ⟨m,F⟩:=I.fr
  refine sorted_many F (news:=allNews X.base s.heap X.env.locals) news_all hl (by lia) (by lia) fun D e0 h' F' N' hD=>?_
  have hkeep:∀ b o,b≠X.env.locals→s.heap.get? b=some o→h'.get? b=some o:=fun b o hb e=>by
   cases qb:X.base.get? b with
   | some u=>
    have:=I.bk b u qb
    rw [e] at this;cases this
    exact F'.keep b _ qb
   | none=>exact (N' (b,o) (List.mem_cons_of_mem _ (mem_allNews hb qb e))).1
  have item:∀ (i:Nat) (ns:List Int),nss[i]? =some ns→∃ (a:Addr) (o:Obj) (zs:List Value) (n:Nat),its.getD i Value.none=.ref a∧h'.get? a=some o∧o.cls=.type "tuple"∧o.data=.seq zs.toArray n∧Vals (ps.map V.str++ns.map V.int) zs:=fun i ns e=>by
   obtain ⟨v,ev,iv⟩:=ha.get (i:=i) (d:=tupOf ps ns) (by rw [List.getElem?_map,e];rfl)
   obtain ⟨u,eu,ru⟩:=rv.get ev
   unfold tupOf at iv
   cases iv with
   | @tup a xs _ ea hxs=>
    obtain rfl:=hxs.preInts
    obtain ⟨zs,rz,⟨o,h1,h2,n,h3⟩,_⟩:=I.tuple (SqT.of ea)
    have hL:a≠X.env.locals:=fun z=>by rw [z,I.free] at ea;cases ea
    refine ⟨a,o,zs,n,?_,hkeep a o hL h1,h2,h3,rz⟩
    rw [List.getD_eq_getElem?_getD,eu]
    exact ru
  obtain ⟨T,fs,tups,hfl,hT,hTT⟩:∃ (T:String) (fs:List Value),PySem.W.KatTups h' its fs∧fs.length=its.length∧(∀ v∈fs,typeOf v=pure (Value.type T))∧(Value.type T==Value.type T)=true:=by
   have go:∀ T:String,(∀ (ns:List Int) (zs:List Value),ns.length=k→Vals (ps.map V.str++ns.map V.int) zs→∃ f,zs.toArray[0]? =some f∧typeOf f=pure (Value.type T))→
     ∃ (fs:List Value),PySem.W.KatTups h' its fs∧fs.length=its.length∧(∀ v∈fs,typeOf v=pure (Value.type T)):=fun T hf=>
    katTups_of its fun i u eu=>by
     have hi:i < nss.length:=by rw [←e2];exact (List.getElem?_eq_some_iff.mp eu).1
     obtain ⟨a,o,zs,n,g1,g2,g3,g4,g5⟩:=item i nss[i] (List.getElem?_eq_getElem hi)
     rw [List.getD_eq_getElem?_getD,eu] at g1
     obtain ⟨f,f1,f2⟩:=hf _ zs (hk _ (List.getElem_mem hi)) g5
     exact ⟨a,o,zs.toArray,n,f,g1,g2,g3,g4,f1,f2⟩
   cases hps:ps with
   | nil=>
    obtain ⟨fs,a,b,c⟩:=go "int" fun ns zs hn rz=>by
     subst hps
     match ns,zs,rz,hn with
     | [],_,_,hn=>simp at hpos;subst hn;simp at hpos
     | n::ns,_,.cons r _,_=>
      obtain ⟨t,rfl⟩:=r
      exact ⟨_,rfl,rfl⟩
    exact ⟨"int",fs,a,b,c,rfl⟩
   | cons p1 pr=>
    obtain ⟨fs,a,b,c⟩:=go "str" fun ns zs hn rz=>by
     subst hps
     match zs,rz with
     | _,.cons r _=>
      obtain ⟨t,rfl⟩:=r
      exact ⟨_,rfl,rfl⟩
    exact ⟨"str",fs,a,b,c,rfl⟩
  refine PySem.W.kat_kind tups (by lia) (fun v hv=>PySem.W.Looks.of_pure (hT v hv)) hTT ?_
  have S:Str1 (fun i j=>HT.lexLt (nss.getD i []) (nss.getD j [])) its.length:=⟨fun i j k _ _ _ a b=>lex_tr a b,fun i j hi hj hne a=>lex_tot (fun z=>hne ?_) a,fun i j _ _ a=>lex_asym a⟩
  ·rw [e2]
   rw [e2] at S
   refine Run.wp (fun i j C hi hj hC=>?_) (fun pq hpq=>?_) (run_sort S (by lia))
   ·show wpAny _ _ (keyLt' _ (its.getD i Value.none) (its.getD j Value.none)) C _ _
    obtain ⟨a,o,zs,n,g1,g2,g3,g4,g5⟩:=item i nss[i] (List.getElem?_eq_getElem hi)
    obtain ⟨a',o',zs',n',g1',g2',g3',g4',g5'⟩:=item j nss[j] (List.getElem?_eq_getElem hj)
    rw [g1,g1']
    refine PySem.W.kat_lt g2 g4 g2' g4' ?_
    have hn1:=hk _ (List.getElem_mem hi)
    have hn2:=hk _ (List.getElem_mem hj)
    have ez:decide (zs.toArray.size < zs'.toArray.size)=false:=by
     have l1:=g5.length
     have l2:=g5'.length
     simp only [List.length_append,List.length_map] at l1 l2
     simp only [List.size_toArray]
     exact decide_eq_false (by lia)
    rw [ez]
    refine lex_pre 0 (by simpa using g5) (by simpa using g5') (by lia) ?_
    have e1':nss.getD i []=nss[i]:=by simp [hi]
    have e2':nss.getD j []=nss[j]:=by simp [hj]
    rw [←e1',←e2']
    exact hC
   ·obtain ⟨P,up⟩:=hpq
    refine PySem.W.KasFin.intro F' N' (.head fun x hx=>Nat.ne_of_lt (hD x hx)) fun h'' c F'' N''=>?_
    have hnD:s.heap.get? D=none:=by
     cases qd:s.heap.get? D with
     | none=>rfl
     | some o=>
      have hh:=N' (D,_) List.mem_cons_self
      have hm:=hD (D,o) (mem_allNews hh.2.1 hh.2.2 qd)
      exact absurd hm (Nat.lt_irrefl _)
    have hkeep2:∀ b o,b≠X.env.locals→s.heap.get? b=some o→h''.get? b=some o:=fun b o hb e=>by
     cases qb:X.base.get? b with
     | some u=>
      have:=I.bk b u qb
      rw [e] at this;cases this
      exact F''.keep b _ qb
     | none=>exact (N'' (b,o) (List.mem_cons_of_mem _ (mem_allNews hb qb e))).1
    have hlt:∀ x∈pq.toList,x < nss.length:=fun x hx=>List.mem_range.mp (P.pm.mem_iff.mp hx)
    have rv2:∀ l:List Nat,(∀ x∈l,x < nss.length)→Vals (l.map fun i=>vs.getD i .non) (l.map fun i=>its.getD i Value.none)∧IsAll H (l.map fun i=>vs.getD i .non) ((l.map fun i=>nss.getD i []).map (tupOf ps)):=fun l=>by
     induction l with
     | nil=>exact fun _=>⟨.nil,.nil⟩
     | cons x l ih=>
      intro hx
      obtain ⟨ih1,ih2⟩:=ih fun y hy=>hx y (List.mem_cons_of_mem _ hy)
      have hxn:=hx x List.mem_cons_self
      obtain ⟨v,ev,iv⟩:=ha.get (i:=x) (d:=tupOf ps nss[x]) (by rw [List.getElem?_map,List.getElem?_eq_getElem hxn];rfl)
      obtain ⟨u,eu,ru⟩:=rv.get ev
      have a1:vs.getD x .non=v:=by rw [List.getD_eq_getElem?_getD,ev];rfl
      have a2:its.getD x Value.none=u:=by rw [List.getD_eq_getElem?_getD,eu];rfl
      have a3:nss.getD x []=nss[x]:=by simp [hxn]
      simp only [List.map_cons,a1,a2,a3]
      exact ⟨.cons ru ih1,.cons iv ih2⟩
    obtain ⟨rv3,ia3⟩:=rv2 pq.toList hlt
    have ho:=(N'' (D,_) List.mem_cons_self).1
    have hpl:pq.toList.length=nss.length:=by rw [Array.length_toList];exact P.sz
    refine ⟨.ref D,_,I.laidBut (t':=s.toks) hkeep2 F.ns F''.ns hnD rv3 (by rw [List.length_map,hpl,sizeLine_eq];lia) ho,rfl,q D _ _ (I.none_of hnD) ia3 ?_ ?_⟩
    ·have:=P.pm.map fun i=>nss.getD i []
     rw [map_getD_range] at this
     exact this
    ·rw [List.pairwise_iff_getElem]
     intro i j hi hj hij
     simp only [List.length_map] at hi hj
     have:=up i j hij (by rw [←hpl];exact hj)
     have z:∀ x (hx:x < pq.toList.length),pq.getD x 0=pq.toList[x]:=fun x hx=>by
      have hx':x < pq.size:=by simpa using hx
      simp [Array.getD,hx']
     rw [z i hi,z j hj] at this
     simpa using this
  ·rw [e2] at hi hj
   have e1':nss.getD i []=nss[i]:=by simp [hi]
   have e2':nss.getD j []=nss[j]:=by simp [hj]
   rw [e1',e2'] at z
   exact (List.getElem_inj hnd).mp z
end
end L2
namespace L2
open PySem PySem.Spec PyProof.Rows
theorem bt_len:bootBuiltins "len"=some (.builtin "len"):=by decide +kernel
theorem bt_isinstance:bootBuiltins "isinstance"=some (.builtin "isinstance"):=by decide +kernel
theorem bt_all:bootBuiltins "all"=some (.builtin "all"):=by decide +kernel
theorem bt_sorted:bootBuiltins "sorted"=some (.builtin "sorted"):=by decide +kernel
theorem bt_enumerate:bootBuiltins "enumerate"=some (.type "enumerate"):=by decide +kernel
theorem bt_tuple:bootBuiltins "tuple"=some (.type "tuple"):=by decide +kernel
theorem bt_list:bootBuiltins "list"=some (.type "list"):=by decide +kernel
theorem bt_int:bootBuiltins "int"=some (.type "int"):=by decide +kernel
theorem bt_bool:bootBuiltins "bool"=some (.type "bool"):=by decide +kernel
theorem bt_str:bootBuiltins "str"=some (.type "str"):=by decide +kernel
theorem pe_gint {X:Cx} {x:Str} {n:Int} {pos:Pos} (hg:Gl X x) (hm:∃ tk,X.mg x=some (.int n tk)) (hd:(x==("__debug__":Str))=false:=by decide):PE X (.Name x pos) (tC (.int n)):=
 fun _ _ _ H _ I h=>let ⟨tk,e⟩:=hm;ld_glob I hg e ⟨.int n,H,I,⟨tk,rfl⟩,h⟩ hd
noncomputable def rIxA (K:PySem.W.Frag):R2:=fun x y H Q=>∃ p xs i v,x=.ref p∧y=.int i∧(SqL K H p xs∨SqT K H p xs)∧atI xs i=some v∧Q v H
theorem ix_any {X:Cx}:IxR X (rIxA X.K):=by
 intro value slice pins s σ H x y v u Q I rx ry h hs
 obtain ⟨p,xs,i,w,e1,e2,hq,ha,q⟩:=h
 rcases hq with hq | hq
 ·exact ix_list value slice pins s σ H x y v u Q I rx ry ⟨p,xs,i,w,e1,e2,hq,ha,q⟩ hs
 ·exact ix_tup value slice pins s σ H x y v u Q I rx ry ⟨p,xs,i,w,e1,e2,hq,ha,q⟩ hs
noncomputable def rIsinst:List V→Hp→VK→Prop:=fun xs H Q=>∃ x T d,xs=[x,.ty T]∧T∈(["bool","int","tuple","list","str","dict"]:List String)∧Is H x d∧Q (.bl (isTy T d)) H
noncomputable def rLen (K:PySem.W.Frag):List V→Hp→VK→Prop:=fun xs H Q=>∃ p ys,xs=[.ref p]∧(SqL K H p ys∨SqT K H p ys)∧Q (.int ys.length) H
noncomputable def rAll (K:PySem.W.Frag):List V→Hp→VK→Prop:=fun xs H Q=>∃ (p:Addr) (bs:List Bool),xs=[.ref p]∧SqL K H p (bs.map V.bl)∧Q (.bl (bs.all id)) H
noncomputable def rAny (K:PySem.W.Frag):List V→Hp→VK→Prop:=fun xs H Q=>∃ (p:Addr) (bs:List Bool),xs=[.ref p]∧SqL K H p (bs.map V.bl)∧Q (.bl (bs.any id)) H
noncomputable def rIsN:R2:=fun x y H Q=>y=.non∧Q (.bl (decide (x=.non))) H
noncomputable def rNotN:R2:=fun x y H Q=>y=.non∧Q (.bl (!decide (x=.non))) H
section
variable {X:Cx}
theorem c_isinst:CallR X (.builtin "isinstance") rIsinst:=call_isinst
theorem c_len:CallR X (.builtin "len") (rLen X.K):=call_len_seq
theorem c_all (hc:X.calm=true):CallR X (.builtin "all") (rAll X.K):=call_all hc
theorem o_isN:OpR X (compareOp .Is) rIsN:=op_isN
theorem o_notN:OpR X (compareOp .IsNot) rNotN:=op_notN
noncomputable def rTupOf (K:PySem.W.Frag):List V→Hp→VK→Prop:=fun xs H Q=>∃ p ys,xs=[.ref p]∧((SqL K H p ys∧∀ l,H l=none→Q (.ref l) (upd H l (.tup ys)))∨(SqT K H p ys∧Q (.ref p) H))
noncomputable def rLstOf (K:PySem.W.Frag):List V→Hp→VK→Prop:=fun xs H Q=>∃ p ys,xs=[.ref p]∧(SqL K H p ys∨SqT K H p ys)∧∀ l,H l=none→Q (.ref l) (upd H l (.lst ys))
theorem c_list:CallR X (.type "list") (rLstOf X.K):=call_list_of
theorem c_tuple:CallR X (.type "tuple") (rTupOf X.K):=call_tuple_of
noncomputable def rMax2:List V→Hp→VK→Prop:=fun xs H Q=>∃ i j:Int,xs=[.int i,.int j]∧Q (.int (if j > i then j else i)) H
noncomputable def rInt1:List V→Hp→VK→Prop:=fun xs H Q=>(∃ i,xs=[.int i]∧Q (.int i) H)∨∃ k,xs=[.bl k]∧Q (.int (if k then 1 else 0)) H
end
@[reducible] def isBoolD:PyData→Bool | .bool _=>true | _=>false
@[reducible] def isIntD:PyData→Bool | .bool _=>true | .int _=>true | _=>false
@[reducible] def isTupD:PyData→Bool | .tuple _=>true | _=>false
@[reducible] def isLstD:PyData→Bool | .list _=>true | _=>false
@[reducible] def isStrD:PyData→Bool | .str _=>true | _=>false
section
variable {σ:St} {H:Hp} {Q:VK} {D:Ends} {K:PySem.W.Frag}
theorem rd_seq {t u:TS} (h:t { D with nx:=u D } σ H):tSeq t u D σ H:=h
theorem rd_next (h:D.nx σ H):tNext D σ H:=h
theorem rd_ifS {c:TT} {t u:TS} (h:c σ H fun b H1=>if b=true then t D σ H1 else u D σ H1):tIfS c t u D σ H:=h
theorem rd_ret {te:TE} (h:te σ H D.rt):tRet te D σ H:=h
theorem rd_drop {te:TE} (h:te σ H fun _ H1=>D.nx σ H1):tDrop te D σ H:=h
theorem rd_asg {te:TE} {g:TG} (h:te σ H fun x H1=>g x σ H1 D.nx):tAsg te g D σ H:=h
theorem rd_gname {i:Nat} {v:V} {P:St→Hp→Prop} (h:P (σ.set i (some v)) H):gName i v σ H P:=h
theorem rd_var {i:Nat} {v:V} (e:σ[i]? =some (some v)) (h:Q v H):tVar i σ H Q:=⟨v,e,h⟩
theorem rd_C {v:V} (h:Q v H):tC v σ H Q:=h
theorem rd_test {te:TE} {P:Bool→Hp→Prop} (h:te σ H fun x H'=>∃ k,x=.bl k∧P k H'):tTest te σ H P:=h
theorem rd_B {te:TE} {P:Bool→Hp→Prop} (h:te σ H fun x H'=>∃ k,x=.bl k∧P k H'):tB te σ H P:=h
theorem rd_bl {b:Bool} {P:Bool→Hp→Prop} (h:P b H):∃ k,V.bl b=.bl k∧P k H:=⟨b,rfl,h⟩
theorem rd_op {r:R2} {ta tb:TE} (h:ta σ H fun x H1=>tb σ H1 fun y H2=>r x y H2 Q):tOp r ta tb σ H Q:=h
theorem rd_un {r:V→Hp→VK→Prop} {ta:TE} (h:ta σ H fun x H1=>r x H1 Q):tUn r ta σ H Q:=h
theorem rd_I0 {g:Int→Int→V} {i j:Int} (h:Q (g i j) H):rI0 g (.int i) (.int j) H Q:=⟨i,j,rfl,rfl,h⟩
theorem rd_I {C:Int→Int→Prop} {g:Int→Int→V} {i j:Int} (hc:C i j) (h:Q (g i j) H):rI C g (.int i) (.int j) H Q:=⟨i,j,rfl,rfl,hc,h⟩
theorem rd_and {t u:TT} {P:Bool→Hp→Prop} (h:t σ H fun c H1=>if c=true then u σ H1 P else P false H1):tAnd t u σ H P:=h
theorem rd_or {t u:TT} {P:Bool→Hp→Prop} (h:t σ H fun c H1=>if c=true then P true H1 else u σ H1 P):tOr t u σ H P:=h
theorem rd_not {t:TT} {P:Bool→Hp→Prop} (h:t σ H fun c H1=>P (!c) H1):tNot t σ H P:=h
theorem rd_andV {ta tb:TE} (h:ta σ H fun x H1=>∃ c,x=.bl c∧if c=true then tb σ H1 Q else Q (.bl false) H1):tAndV ta tb σ H Q:=h
theorem rd_orV {ta tb:TE} (h:ta σ H fun x H1=>∃ c,x=.bl c∧if c=true then Q (.bl true) H1 else tb σ H1 Q):tOrV ta tb σ H Q:=h
theorem rd_notV {ta:TE} (h:ta σ H fun x H1=>∃ c,x=.bl c∧Q (.bl (!c)) H1):tNotV ta σ H Q:=h
theorem rd_blE {b:Bool} {P:Bool→Prop} (h:P b):∃ c,V.bl b=.bl c∧P c:=⟨b,rfl,h⟩
theorem rd_nil {P:List V→Hp→Prop} (h:P [] H):tNil σ H P:=h
theorem rd_cons {ta:TE} {tr:TA} {P:List V→Hp→Prop} (h:ta σ H fun x H1=>tr σ H1 fun xs H2=>P (x::xs) H2):tCons ta tr σ H P:=h
theorem rd_tup {t:TA} (h:t σ H fun xs H1=>xs.length≤sizeLine∧∀ p,H1 p=none→Q (.ref p) (upd H1 p (.tup xs))):tTup t σ H Q:=h
theorem rd_lst {t:TA} (h:t σ H fun xs H1=>xs.length≤sizeLine∧∀ p,H1 p=none→Q (.ref p) (upd H1 p (.lst xs))):tLst t σ H Q:=h
theorem rd_call {sp:Sp} {dvs:List V} {E:XK} {t:TA} (h:t σ H fun vs H1=>sp (vs++dvs) H1 Q E):tCall sp dvs E t σ H Q:=h
theorem rd_cb {r:List V→Hp→VK→Prop} {t:TA} (h:t σ H fun vs H1=>r vs H1 Q):tCB r t σ H Q:=h
theorem rd_ixT {p:Addr} {xs:List V} {i:Int} {v:V} (e:H p=some (.tup xs)) (a:atI xs i=some v) (h:Q v H):rIxA K (.ref p) (.int i) H Q:=⟨p,xs,i,v,rfl,rfl,.inr (SqT.of e),a,h⟩
theorem rd_ixL {p:Addr} {xs:List V} {i:Int} {v:V} (e:H p=some (.lst xs)) (a:atI xs i=some v) (h:Q v H):rIxA K (.ref p) (.int i) H Q:=⟨p,xs,i,v,rfl,rfl,.inl (SqL.of e),a,h⟩
theorem rd_chain {r r':R2} {ta tb tc:TE} (h:ta σ H fun x H1=>tb σ H1 fun y H2=>r x y H2 fun z H3=>∃ k,z=.bl k∧(if k=true then tc σ H3 fun w' H4=>r' y w' H4 Q else Q (.bl false) H3)):tChain r r' ta tb tc σ H Q:=h
theorem ifT {b:Bool} {A B:Prop} (h:b=true) (x:A):if b=true then A else B:=by rw [if_pos h];exact x
theorem ifF {b:Bool} {A B:Prop} (h:b=false) (x:B):if b=true then A else B:=by rw [if_neg (by rw [h];exact Bool.false_ne_true)];exact x
theorem ifB {b:Bool} {A B:Prop} (h1:b=true→A) (h0:b=false→B):if b=true then A else B:=by
 cases b with
 | true=>rw [if_pos rfl];exact h1 rfl
 | false=>rw [if_neg Bool.false_ne_true];exact h0 rfl
theorem rd_isN {x:V} (h:Q (.bl (decide (x=.non))) H):rIsN x .non H Q:=⟨rfl,h⟩
theorem rd_notN {x:V} (h:Q (.bl (!decide (x=.non))) H):rNotN x .non H Q:=⟨rfl,h⟩
theorem rd_isBool {x:V} {d:PyData} (hx:Is H x d) (h:Q (.bl (isBoolD d)) H):rIsinst [x,.ty "bool"] H Q:=⟨x,"bool",d,rfl,by decide,hx,by cases d <;> exact h⟩
theorem rd_isInt {x:V} {d:PyData} (hx:Is H x d) (h:Q (.bl (isIntD d)) H):rIsinst [x,.ty "int"] H Q:=⟨x,"int",d,rfl,by decide,hx,by cases d <;> exact h⟩
theorem rd_isTup {x:V} {d:PyData} (hx:Is H x d) (h:Q (.bl (isTupD d)) H):rIsinst [x,.ty "tuple"] H Q:=⟨x,"tuple",d,rfl,by decide,hx,by cases d <;> exact h⟩
theorem rd_isLst {x:V} {d:PyData} (hx:Is H x d) (h:Q (.bl (isLstD d)) H):rIsinst [x,.ty "list"] H Q:=⟨x,"list",d,rfl,by decide,hx,by cases d <;> exact h⟩
theorem rd_isStr {x:V} {d:PyData} (hx:Is H x d) (h:Q (.bl (isStrD d)) H):rIsinst [x,.ty "str"] H Q:=⟨x,"str",d,rfl,by decide,hx,by cases d <;> exact h⟩
theorem ifNT {A B:Prop} (h:B):if (!true)=true then A else B:=iteF h
theorem ifNF {A B:Prop} (h:A):if (!false)=true then A else B:=iteT h
theorem rd_all {p:Addr} {bs:List Bool} (e:H p=some (.lst (bs.map V.bl))) (h:Q (.bl (bs.all id)) H):rAll K [.ref p] H Q:=⟨p,bs,rfl,SqL.of e,h⟩
theorem rd_any {p:Addr} {bs:List Bool} (e:H p=some (.lst (bs.map V.bl))) (h:Q (.bl (bs.any id)) H):rAny K [.ref p] H Q:=⟨p,bs,rfl,SqL.of e,h⟩
theorem rd_max2 {i j:Int} (h:Q (.int (if j > i then j else i)) H):rMax2 [.int i,.int j] H Q:=⟨i,j,rfl,h⟩
theorem rd_int1 {k:Bool} (h:Q (.int (if k then 1 else 0)) H):rInt1 [.bl k] H Q:=.inr ⟨k,rfl,h⟩
theorem rd_tupL {p:Addr} {ys:List V} (e:H p=some (.lst ys)) (h:∀ l,H l=none→Q (.ref l) (upd H l (.tup ys))):rTupOf K [.ref p] H Q:=⟨p,ys,rfl,.inl ⟨SqL.of e,h⟩⟩
theorem rd_eqD {neg:Bool} {x y:V} {d e:PyData} (hx:Is H x d) (hy:Is H y e) (od:okD d) (oe:okD e) (h:Q (.bl (if neg then !PyData.eqv d e else PyData.eqv d e)) H):rEqD neg x y H Q:=⟨d,e,hx,hy,od,oe,h⟩
theorem rd_eqI {x y:Int} (h:Q (.bl (x==y)) H):rEqD false (.int x) (.int y) H Q:=⟨.int x,.int y,.int x,.int y,⟨rfl,Nat.zero_le _⟩,⟨rfl,Nat.zero_le _⟩,h⟩
theorem rd_neI {x y:Int} (h:Q (.bl (!(x==y))) H):rEqD true (.int x) (.int y) H Q:=⟨.int x,.int y,.int x,.int y,⟨rfl,Nat.zero_le _⟩,⟨rfl,Nat.zero_le _⟩,h⟩
theorem rd_eqB {x y:Bool} (h:Q (.bl (x==y)) H):rEqD false (.bl x) (.bl y) H Q:=⟨.bool x,.bool y,.bl x,.bl y,⟨rfl,Nat.zero_le _⟩,⟨rfl,Nat.zero_le _⟩,h⟩
theorem rd_neB {x y:Bool} (h:Q (.bl (!(x==y))) H):rEqD true (.bl x) (.bl y) H Q:=⟨.bool x,.bool y,.bl x,.bl y,⟨rfl,Nat.zero_le _⟩,⟨rfl,Nat.zero_le _⟩,h⟩
theorem rd_inD {neg:Bool} {x y:V} {d:PyData} {ds:List PyData} (hx:Is H x d) (hy:Is H y (.tuple ds)) (od:okD d) (oe:okDs ds) (h:Q (.bl (if neg then !inD d ds else inD d ds)) H):rInD neg x y H Q:=⟨d,ds,hx,.inl hy,od,oe,h⟩
theorem rd_lenT {p:Addr} {xs:List V} (e:H p=some (.tup xs)) (h:Q (.int xs.length) H):rLen K [.ref p] H Q:=⟨p,xs,rfl,.inr (SqT.of e),h⟩
theorem rd_lenL {p:Addr} {xs:List V} (e:H p=some (.lst xs)) (h:Q (.int xs.length) H):rLen K [.ref p] H Q:=⟨p,xs,rfl,.inl (SqL.of e),h⟩
end
end L2
namespace L2
open PySem PySem.Spec PyProof.Rows
section
variable {σ:St} {H:Hp} {Q:VK} {D:Ends} {K:PySem.W.Frag} {R:It→Hp→Prop}
theorem rd_for {wi:TI} {g:TG} {tb:TS} (h:wi σ H fun J H1=>∃ W:Nat→Nat→St→Hp→Prop,(∃ m,W 0 m σ H1)∧∀ i m σ H,W i m σ H→
 (J.stop i H∧D.nx σ H)∨(J.go i H∧∃ N:St→Hp→Prop,(∀ σ' H',N σ' H'→∃ m',m' < m∧W (i + 1) m' σ' H')∧∀ x H',J.yld i H x H'→g x σ H' fun σ2 H2=>tb { D with nx:=N,ct:=N,bk:=D.nx } σ2 H2)):tFor wi g tb D σ H:=h
theorem rd_lc {wi:TI} {fm:List (Option Nat)} {g:TG} {tt:TT} {te:TE} (h:wi σ H fun J H1=>∃ W:Nat→Nat→List V→Hp→Prop,(∃ m,W 0 m [] H1)∧∀ i m ys H,W i m ys H→
 (J.stop i H∧∀ p,H p=none→Q (.ref p) (upd H p (.lst ys)))∨
 (J.go i H∧ys.length < sizeLine∧∃ N:List V→Hp→Prop,(∀ ys' H',N ys' H'→∃ m',m' < m∧W (i + 1) m' ys' H')∧
  ∀ x H',J.yld i H x H'→g x (fmSt fm σ) H' fun σ2 H2=>tt σ2 H2 fun ok H3=>if ok=true then te σ2 H3 fun v H4=>N (ys++[v]) H4 else N ys H3)):tLC wi fm g tt te σ H Q:=h
theorem rd_rng1 {ta:TA} (h:ta σ H fun vs H1=>∃ j:Int,vs=[.int j]∧-(2 ^ 62)≤j∧j < 2 ^ 62∧R (Itr 0 j.toNat) H1):iRng1 ta σ H R:=h
theorem rd_itup {tl:TE} (h:tl σ H fun x H1=>∃ a,x=.ref a∧(∃ xs,SqT K H1 a xs)∧R (Itt K a) H1):iTup K tl σ H R:=h
theorem rd_ilst {tl:TE} (h:tl σ H fun x H1=>∃ a,x=.ref a∧(∃ xs,SqL K H1 a xs)∧R (Itl K a) H1):iList K tl σ H R:=h
theorem rd_yes {P:Bool→Hp→Prop} (h:P true H):tYes σ H P:=h
theorem rd_gtup {n:Nat} {t:TGs} {a:Addr} {xs:List V} {P:St→Hp→Prop} (e:H a=some (.tup xs)) (l:xs.length=n) (h:t xs σ H P):gTup K n t (.ref a) σ H P:=⟨a,xs,rfl,SqT.of e,l,h⟩
theorem rd_gcons {t:TG} {u:TGs} {v:V} {r:List V} {P:St→Hp→Prop} (h:t v σ H fun σ' H'=>u r σ' H' P):gCons t u (v::r) σ H P:=⟨v,r,rfl,h⟩
theorem rd_gnil {P:St→Hp→Prop} (h:P σ H):gNil [] σ H P:=⟨rfl,h⟩
end
theorem Same.upd {H:Hp} {l:Addr} {o:HO} (h:H l=none):Same H (upd H l o):=fun b u e=>by rw [upd_ne (ne_of_none e h)];exact e
theorem Same.tup {H H':Hp} (e:Same H H') {a:Addr} {xs:List V} (h:H a=some (.tup xs)):H' a=some (.tup xs):=e _ _ h
end L2
namespace L2
open PySem PySem.Spec PyProof.Rows
section
variable {X:Cx}
theorem k_ix (K:PySem.W.Frag) (h:X.K=K:=by rfl):IxR X (rIxA K):=h▸ix_any
theorem k_len (K:PySem.W.Frag) (h:X.K=K:=by rfl):CallR X (.builtin "len") (rLen K):=h▸c_len
theorem k_all (K:PySem.W.Frag) (hc:X.calm=true:=by rfl) (h:X.K=K:=by rfl):CallR X (.builtin "all") (rAll K):=h▸c_all hc
theorem k_tuple (K:PySem.W.Frag) (h:X.K=K:=by rfl):CallR X (.type "tuple") (rTupOf K):=h▸c_tuple
theorem k_list (K:PySem.W.Frag) (h:X.K=K:=by rfl):CallR X (.type "list") (rLstOf K):=h▸c_list
theorem k_sorted (K:PySem.W.Frag) (h:X.K=K:=by rfl):CallR X (.builtin "sorted") (rSorted K):=h▸call_sorted
theorem k_ltT (K:PySem.W.Frag) (hu:X.A.units < cLine) (h:X.K=K:=by rfl):OpR X (compareOp .Lt) (rLtT K):=h▸op_ltT hu
theorem k_slL (K:PySem.W.Frag) (h:X.K=K:=by rfl):SlR X (rSlL K):=h▸sl_list
theorem k_ptup (K:PySem.W.Frag) {tg l:Expr} {tl:TE} (hl:PE X l tl) (h:X.K=K:=by rfl):PI X tg l (iTup K tl):=h▸pi_tup hl
theorem k_plst (K:PySem.W.Frag) {tg l:Expr} {tl:TE} (hl:PE X l tl) (h:X.K=K:=by rfl):PI X tg l (iList K tl):=h▸pi_list hl
theorem k_gtup (K:PySem.W.Frag) {pos:Pos} {es:List Expr} {k:Nat} {t:TGs} {n:Nat} (hc:X.calm=true) (hh:PGs X es t)
  (hn:(assignEach es X.env).length=n:=by rfl) (hst:(assignEach es X.env).findIdx? (·.1)=none:=by rfl) (h:X.K=K:=by rfl):PG X (.Tuple es k pos) (gTup K n t):=h▸pg_tup hc hh hn hst
theorem k_bm (K:PySem.W.Frag) {o e:Expr} {es:List Expr} {to:TE} {t:TA} {name:Str} {apos cpos:Pos} {T id:String} {r:V→List V→Hp→VK→Prop} (pa:PlainAttrs T) (slot:Slot T name id) (hty:typeOf (.builtin id)=pure (.type "method_descriptor")) (hm:MtR X id r) (ho:PE X o to) (ha:PA X (e::es) t)
  (hbase:attributeBase o name X.env (eval o X.env)=eval o X.env:=by rfl)
  (hfew:((backTo cpos (starEach (e::es) X.env)).all (fun x=> !x.1)&&(backToKw cpos (keywordEach [] X.env)).all (fun x=>x.1.isSome)
   &&decide ((e::es).length + ([]:List Keyword).length + (if ([]:List Keyword).isEmpty then 0 else 1) < 30))=true:=by rfl)
  (hline:(apos.endLine==cpos.line)=true:=by rfl) (hs:starEach (e::es) X.env=(false,eval e X.env)::starEach es X.env:=by rfl) (hplain:(backTo cpos (starEach es X.env)).any (·.1)=false:=by rfl) (h:X.K=K:=by rfl):
  PE X (.Call (.Attribute o name apos) (e::es) [] cpos) (tBM K T r to t):=h▸pe_bm pa slot hty hm ho ha hbase hfew hline hs hplain
end
section
variable {σ:St} {H:Hp} {Q:VK} {D:Ends} {K:PySem.W.Frag}
theorem rd_ltT {a b:Addr} {i j k l:Int} (h1:H a=some (.tup [.int i,.int j])) (h2:H b=some (.tup [.int k,.int l])) (h:Q (.bl (HT.lexLt [i,j] [k,l])) H):rLtT K (.ref a) (.ref b) H Q:=
 ⟨a,b,[i,j],[k,l],rfl,rfl,SqT.of h1,SqT.of h2,h⟩
theorem rd_bm {T:String} {r:V→List V→Hp→VK→Prop} {to:TE} {t:TA} (h:to σ H fun x H1=>tyV K T x H1∧t σ H1 fun xs H2=>r x xs H2 Q):tBM K T r to t σ H Q:=h
theorem rd_append {l:Addr} {xs:List V} {v:V} (e:H l=some (.lst xs)) (hz:xs.length < sizeLine) (h:Q .non (upd H l (.lst (xs++[v])))):rAppend (.ref l) [v] H Q:=⟨l,xs,v,rfl,rfl,e,hz,h⟩
theorem tyV_lst {l:Addr} {xs:List V} (e:H l=some (.lst xs)):tyV K "list" (.ref l) H:=.inl ⟨rfl,_,SqL.of e⟩
end
theorem if_nn {A B:Prop} (h:A):if decide (V.non=V.non)=true then A else B:=by rw [decide_eq_true rfl];exact iteT h
theorem if_rn {a:Addr} {A B:Prop} (h:B):if decide (V.ref a=V.non)=true then A else B:=by rw [decide_eq_false (fun z=>nomatch z)];exact iteF h
theorem if_in {a:Int} {A B:Prop} (h:B):if decide (V.int a=V.non)=true then A else B:=by rw [decide_eq_false (fun z=>nomatch z)];exact iteF h
theorem if_nnN {A B:Prop} (h:B):if (!decide (V.non=V.non))=true then A else B:=by rw [decide_eq_true rfl];exact iteF h
theorem if_rnN {a:Addr} {A B:Prop} (h:A):if (!decide (V.ref a=V.non))=true then A else B:=by rw [decide_eq_false (fun z=>nomatch z)];exact iteT h
theorem if_inN {a:Int} {A B:Prop} (h:A):if (!decide (V.int a=V.non))=true then A else B:=by rw [decide_eq_false (fun z=>nomatch z)];exact iteT h
section
variable {σ:St} {H:Hp} {Q:VK} {D:Ends}
theorem rd_while {c:TT} {tb:TS} (h:∃ W:Nat→St→Hp→Prop,(∃ m,W m σ H)∧∀ m σ H,W m σ H→c σ H fun b H1=>if b=true then ∃ N:St→Hp→Prop,(∀ σ' H',N σ' H'→∃ m',m' < m∧W m' σ' H')∧tb { D with nx:=N,ct:=N,bk:=D.nx } σ H1 else D.nx σ H1):tWhile c tb D σ H:=h
theorem rd_gsub {to ti:TE} {t:TSet} {v:V} {P:St→Hp→Prop} (h:to σ H fun o H1=>ti σ H1 fun i H2=>t o i v H2 fun H3=>P σ H3):gSub to ti t v σ H P:=h
theorem ixN_of {n j:Nat} {k:Int} (hk:k=(j:Int)) (hj:j < n):ixN n k=some j:=by
 subst hk
 unfold ixN
 rw [if_pos (Int.natCast_nonneg _),if_pos (by lia),Int.toNat_natCast]
theorem rd_setL {p:Addr} {xs:List V} {k:Int} {j:Nat} {v:V} {P:Hp→Prop} (e:H p=some (.lst xs)) (hk:k=(j:Int)) (hj:j < xs.length) (h:P (upd H p (.lst (xs.set j v)))):rSetL (.ref p) (.int k) v H P:=⟨p,xs,k,j,rfl,rfl,e,ixN_of hk hj,h⟩
end
section
variable {H:Hp} {K:PySem.W.Frag}
theorem lp_range {lo:Int} {n:Nat} {G:List V→Hp→Prop} {B:(List V→Hp→Prop)→List V→V→Hp→Prop} (hn:n≤sizeLine) (Pv:Nat→List V→Hp→Prop) (h0:Pv 0 [] H) (hlen:∀ i ys H,Pv i ys H→ys.length≤i)
  (hs:∀ i ys H,i < n→Pv i ys H→B (Pv (i + 1)) ys (.int (lo + i)) H) (hd:∀ ys H,Pv n ys H→G ys H):
  ∃ W:Nat→Nat→List V→Hp→Prop,(∃ m,W 0 m [] H)∧∀ i m ys H,W i m ys H→((Itr lo n).stop i H∧G ys H)∨((Itr lo n).go i H∧ys.length < sizeLine∧
   ∃ N:List V→Hp→Prop,(∀ ys' H',N ys' H'→∃ m',m' < m∧W (i + 1) m' ys' H')∧∀ x H',(Itr lo n).yld i H x H'→B N ys x H'):=by
 refine ⟨fun i m ys H=>m=n - i∧i≤n∧Pv i ys H,⟨n,by simp,Nat.zero_le _,h0⟩,?_⟩
 rintro i m ys H ⟨rfl,hi,p⟩
 have hl:=hlen i ys H p
 by_cases hlt:i < n
 ·refine .inr ⟨hlt,by lia,Pv (i + 1),fun ys' H' p'=>⟨n - (i + 1),by lia,rfl,hlt,p'⟩,fun x H' y=>?_⟩
  obtain ⟨e,y⟩:=y
  subst e y
  exact hs i ys _ hlt p
 ·have e:i=n:=by lia
  subst e
  exact .inl ⟨Nat.le_refl _,hd ys H p⟩
theorem lp_tup {a:Addr} {xs:List V} {G:List V→Hp→Prop} {B:(List V→Hp→Prop)→List V→V→Hp→Prop} (hn:xs.length≤sizeLine) (Pv:Nat→List V→Hp→Prop) (h0:Pv 0 [] H) (hlen:∀ i ys H,Pv i ys H→ys.length≤i)
  (hl:∀ i ys H,i≤xs.length→Pv i ys H→SqT K H a xs) (hs:∀ i x ys H,xs[i]? =some x→Pv i ys H→B (Pv (i + 1)) ys x H) (hd:∀ ys H,Pv xs.length ys H→G ys H):
  ∃ W:Nat→Nat→List V→Hp→Prop,(∃ m,W 0 m [] H)∧∀ i m ys H,W i m ys H→((Itt K a).stop i H∧G ys H)∨((Itt K a).go i H∧ys.length < sizeLine∧
   ∃ N:List V→Hp→Prop,(∀ ys' H',N ys' H'→∃ m',m' < m∧W (i + 1) m' ys' H')∧∀ x H',(Itt K a).yld i H x H'→B N ys x H'):=by
 refine ⟨fun i m ys H=>m=xs.length - i∧i≤xs.length∧Pv i ys H,⟨xs.length,by simp,Nat.zero_le _,h0⟩,?_⟩
 rintro i m ys H ⟨rfl,hi,p⟩
 have hly:=hlen i ys H p
 have q:=hl i ys H hi p
 by_cases hlt:i < xs.length
 ·refine .inr ⟨⟨xs,xs[i],q,by simp [hlt]⟩,by lia,Pv (i + 1),fun ys' H' p'=>⟨xs.length - (i + 1),by lia,rfl,hlt,p'⟩,fun x H' y=>?_⟩
  obtain ⟨e,y⟩:=y
  subst e
  exact hs i x ys _ (y xs q) p
 ·have e:i=xs.length:=by lia
  subst e
  exact .inl ⟨⟨xs,q,Nat.le_refl _⟩,hd ys H p⟩
theorem lp_list {a:Addr} {xs:List V} {G:List V→Hp→Prop} {B:(List V→Hp→Prop)→List V→V→Hp→Prop} (hn:xs.length≤sizeLine) (Pv:Nat→List V→Hp→Prop) (h0:Pv 0 [] H) (hlen:∀ i ys H,Pv i ys H→ys.length≤i)
  (hl:∀ i ys H,i≤xs.length→Pv i ys H→SqL K H a xs) (hs:∀ i x ys H,xs[i]? =some x→Pv i ys H→B (Pv (i + 1)) ys x H) (hd:∀ ys H,Pv xs.length ys H→G ys H):
  ∃ W:Nat→Nat→List V→Hp→Prop,(∃ m,W 0 m [] H)∧∀ i m ys H,W i m ys H→((Itl K a).stop i H∧G ys H)∨((Itl K a).go i H∧ys.length < sizeLine∧
   ∃ N:List V→Hp→Prop,(∀ ys' H',N ys' H'→∃ m',m' < m∧W (i + 1) m' ys' H')∧∀ x H',(Itl K a).yld i H x H'→B N ys x H'):=by
 refine ⟨fun i m ys H=>m=xs.length - i∧i≤xs.length∧Pv i ys H,⟨xs.length,by simp,Nat.zero_le _,h0⟩,?_⟩
 rintro i m ys H ⟨rfl,hi,p⟩
 have hly:=hlen i ys H p
 have q:=hl i ys H hi p
 by_cases hlt:i < xs.length
 ·refine .inr ⟨⟨xs,xs[i],q,by simp [hlt]⟩,by lia,Pv (i + 1),fun ys' H' p'=>⟨xs.length - (i + 1),by lia,rfl,hlt,p'⟩,fun x H' y=>?_⟩
  obtain ⟨e,y⟩:=y
  subst e
  exact hs i x ys _ (y xs q) p
 ·have e:i=xs.length:=by lia
  subst e
  exact .inl ⟨⟨xs,q,Nat.le_refl _⟩,hd ys H p⟩
theorem fp_range {σ:St} {lo:Int} {n:Nat} {G:St→Hp→Prop} {B:(St→Hp→Prop)→V→St→Hp→Prop} (Pv:Nat→St→Hp→Prop) (h0:Pv 0 σ H) (hs:∀ i σ H,i < n→Pv i σ H→B (Pv (i + 1)) (.int (lo + i)) σ H) (hd:∀ σ H,Pv n σ H→G σ H):
  ∃ W:Nat→Nat→St→Hp→Prop,(∃ m,W 0 m σ H)∧∀ i m σ H,W i m σ H→((Itr lo n).stop i H∧G σ H)∨((Itr lo n).go i H∧
   ∃ N:St→Hp→Prop,(∀ σ' H',N σ' H'→∃ m',m' < m∧W (i + 1) m' σ' H')∧∀ x H',(Itr lo n).yld i H x H'→B N x σ H'):=by
 refine ⟨fun i m σ H=>m=n - i∧i≤n∧Pv i σ H,⟨n,by simp,Nat.zero_le _,h0⟩,?_⟩
 rintro i m σ H ⟨rfl,hi,p⟩
 by_cases hlt:i < n
 ·refine .inr ⟨hlt,Pv (i + 1),fun σ' H' p'=>⟨n - (i + 1),by lia,rfl,hlt,p'⟩,fun x H' y=>?_⟩
  obtain ⟨e,y⟩:=y
  subst e y
  exact hs i σ _ hlt p
 ·have e:i=n:=by lia
  subst e
  exact .inl ⟨Nat.le_refl _,hd σ H p⟩
theorem fp_tup {σ:St} {a:Addr} {xs:List V} {G:St→Hp→Prop} {B:(St→Hp→Prop)→V→St→Hp→Prop} (Pv:Nat→St→Hp→Prop) (h0:Pv 0 σ H) (hl:∀ i σ H,i≤xs.length→Pv i σ H→SqT K H a xs)
  (hs:∀ i x σ H,xs[i]? =some x→Pv i σ H→B (Pv (i + 1)) x σ H) (hd:∀ σ H,Pv xs.length σ H→G σ H):
  ∃ W:Nat→Nat→St→Hp→Prop,(∃ m,W 0 m σ H)∧∀ i m σ H,W i m σ H→((Itt K a).stop i H∧G σ H)∨((Itt K a).go i H∧
   ∃ N:St→Hp→Prop,(∀ σ' H',N σ' H'→∃ m',m' < m∧W (i + 1) m' σ' H')∧∀ x H',(Itt K a).yld i H x H'→B N x σ H'):=by
 refine ⟨fun i m σ H=>m=xs.length - i∧i≤xs.length∧Pv i σ H,⟨xs.length,by simp,Nat.zero_le _,h0⟩,?_⟩
 rintro i m σ H ⟨rfl,hi,p⟩
 have q:=hl i σ H hi p
 by_cases hlt:i < xs.length
 ·refine .inr ⟨⟨xs,xs[i],q,by simp [hlt]⟩,Pv (i + 1),fun σ' H' p'=>⟨xs.length - (i + 1),by lia,rfl,hlt,p'⟩,fun x H' y=>?_⟩
  obtain ⟨e,y⟩:=y
  subst e
  exact hs i x σ _ (y xs q) p
 ·have e:i=xs.length:=by lia
  subst e
  exact .inl ⟨⟨xs,q,Nat.le_refl _⟩,hd σ H p⟩
theorem fp_list {σ:St} {a:Addr} {xs:List V} {G:St→Hp→Prop} {B:(St→Hp→Prop)→V→St→Hp→Prop} (Pv:Nat→St→Hp→Prop) (h0:Pv 0 σ H) (hl:∀ i σ H,i≤xs.length→Pv i σ H→SqL K H a xs)
  (hs:∀ i x σ H,xs[i]? =some x→Pv i σ H→B (Pv (i + 1)) x σ H) (hd:∀ σ H,Pv xs.length σ H→G σ H):
  ∃ W:Nat→Nat→St→Hp→Prop,(∃ m,W 0 m σ H)∧∀ i m σ H,W i m σ H→((Itl K a).stop i H∧G σ H)∨((Itl K a).go i H∧
   ∃ N:St→Hp→Prop,(∀ σ' H',N σ' H'→∃ m',m' < m∧W (i + 1) m' σ' H')∧∀ x H',(Itl K a).yld i H x H'→B N x σ H'):=by
 refine ⟨fun i m σ H=>m=xs.length - i∧i≤xs.length∧Pv i σ H,⟨xs.length,by simp,Nat.zero_le _,h0⟩,?_⟩
 rintro i m σ H ⟨rfl,hi,p⟩
 have q:=hl i σ H hi p
 by_cases hlt:i < xs.length
 ·refine .inr ⟨⟨xs,xs[i],q,by simp [hlt]⟩,Pv (i + 1),fun σ' H' p'=>⟨xs.length - (i + 1),by lia,rfl,hlt,p'⟩,fun x H' y=>?_⟩
  obtain ⟨e,y⟩:=y
  subst e
  exact hs i x σ _ (y xs q) p
 ·have e:i=xs.length:=by lia
  subst e
  exact .inl ⟨⟨xs,q,Nat.le_refl _⟩,hd σ H p⟩
end
end L2
namespace L2
open PySem PySem.Spec PyProof.Rows
noncomputable def rEqNil (K:PySem.W.Frag):R2:=fun x y H Q=>∃ p q ns,x=.ref p∧y=.ref q∧SqL K H p (ns.map V.int)∧SqL K H q []∧Q (.bl (decide (ns=[]))) H
theorem op_eqNil {X:Cx} (hu:X.A.units < cLine):OpR X (compareOp .Eq) (rEqNil X.K):=by
 intro pins s σ H x y v u Q I rx ry h
 obtain ⟨p,q,ns,rfl,rfl,h1,h2,hq⟩:=h
 cases (show v=Value.ref p from rx)
 cases (show u=Value.ref q from ry)
 obtain ⟨its,r1,p1,_⟩:=I.list h1
 obtain ⟨its2,r2,p2,_⟩:=I.list h2
 have e2:its2=[]:=by cases r2;rfl
 subst e2
 have hl:=r1.length
 rw [List.length_map] at hl
 match ns,hl with
 | [],hl=>
  have e1:its=[]:=by
   have:its.length=0:=by simpa using hl.symm
   exact List.length_eq_zero_iff.mp this
  subst e1
  exact SeqAt.eq_listAt (e:=fun _=>true) p1.isList p2.isList rfl hu (fun j g _=>absurd g (Nat.not_lt_zero _)) ⟨.bl true,H,I,rfl,hq⟩
 | n::ns,hl=>
  refine SeqAt.eq_list_lengthsAt p1.isList p2.isList ?_ hu ⟨.bl false,H,I,rfl,hq⟩
  have:its.length=ns.length + 1:=by simpa using hl.symm
  simp [this]
theorem k_eqNil {X:Cx} (K:PySem.W.Frag) (hu:X.A.units < cLine) (h:X.K=K:=by rfl):OpR X (compareOp .Eq) (rEqNil K):=h▸op_eqNil hu
section
variable {σ:St} {H:Hp} {Q:VK} {K:PySem.W.Frag}
theorem rd_rng2 {ta:TA} {R:It→Hp→Prop} (h:ta σ H fun vs H1=>∃ i j:Int,vs=[.int i,.int j]∧(-(2 ^ 62)≤i∧i < 2 ^ 62∧-(2 ^ 62)≤j∧j < 2 ^ 62)∧R (Itr i (j - i).toNat) H1):iRng2 ta σ H R:=h
theorem rd_lenS {p:Addr} {xs:List V} (e:SqL K H p xs) (h:Q (.int xs.length) H):rLen K [.ref p] H Q:=⟨p,xs,rfl,.inl e,h⟩
theorem rd_ixS {p:Addr} {xs:List V} {i:Int} {v:V} (e:SqL K H p xs) (a:atI xs i=some v) (h:Q v H):rIxA K (.ref p) (.int i) H Q:=⟨p,xs,i,v,rfl,rfl,.inl e,a,h⟩
theorem rd_extend {l b:Addr} {xs zs:List V} (e:H l=some (.lst xs)) (e2:H b=some (.lst zs)) (hz:xs.length + zs.length≤sizeLine) (h:Q .non (upd H l (.lst (xs++zs)))):rExtend (.ref l) [.ref b] H Q:=⟨l,b,xs,zs,rfl,rfl,e,e2,hz,h⟩
end
noncomputable def Scr (K:PySem.W.Frag) (H:Hp) (a:Addr) (ns:List Int):Prop:=(∃ o,H a=some (.frz o (.lst (ns.map V.int))))∨
 ∃ (o:Obj) (its:Array Value) (n:Nat),K.lookup a=some o∧o.cls=.type "list"∧o.dict=none∧o.data=.seq its n∧its.size≤sizeLine∧Vals (ns.map V.int) its.toList
theorem Scr.sq {K:PySem.W.Frag} {H:Hp} {a:Addr} {ns:List Int} (h:Scr K H a ns):SqL K H a (ns.map V.int):=by
 rcases h with ⟨o,h⟩ | h
 ·exact .inl (.inr ⟨o,h⟩)
 ·exact .inr h
theorem Scr.of {K:PySem.W.Frag} {H:Hp} {a:Addr} {ns:List Int} (hO:Only H) (h:SqL K H a (ns.map V.int)):Scr K H a ns:=by
 rcases h with (h | ⟨o,h⟩) | h
 ·rcases hO a with g | ⟨o,xs,g⟩
  ·rw [g] at h;cases h
  ·rw [g] at h;cases h
 ·exact .inl ⟨o,h⟩
 ·exact .inr h
noncomputable def SameT (w:Addr) (H H':Hp):Prop:=∀ b u,H b=some u→b≠w→H' b=some u
theorem SameT.refl (w:Addr) (H:Hp):SameT w H H:=fun _ _ h _=>h
theorem SameT.trans {w:Addr} {H H1 H2:Hp} (a:SameT w H H1) (b:SameT w H1 H2):SameT w H H2:=fun c u h g=>b c u (a c u h g) g
theorem Same.t {w:Addr} {H H':Hp} (h:Same H H'):SameT w H H':=fun b u e _=>h b u e
theorem Scr.t {K:PySem.W.Frag} {H H':Hp} {w a:Addr} {ns:List Int} {ts:List V} (hw:H w=some (.lst ts)) (s:SameT w H H') (h:Scr K H a ns):Scr K H' a ns:=by
 rcases h with ⟨o,h⟩ | h
 ·exact .inl ⟨o,s _ _ h (ne_of h hw (by intro z;cases z))⟩
 ·exact .inr h
theorem Scr.same {K:PySem.W.Frag} {H H':Hp} {a:Addr} {ns:List Int} (s:Same H H') (h:Scr K H a ns):Scr K H' a ns:=by
 rcases h with ⟨o,h⟩ | h
 ·exact .inl ⟨o,s _ _ h⟩
 ·exact .inr h
end L2
namespace L2
open PySem PySem.Spec PyProof.Rows
section
variable {σ:St} {H:Hp} {Q:VK} {D:Ends} {K:PySem.W.Frag}
theorem rd_ifE {t:TT} {ta tb:TE} (h:t σ H fun c H1=>if c=true then ta σ H1 Q else tb σ H1 Q):tIf t ta tb σ H Q:=h
theorem rd_lstT {p:Addr} {ys:List V} (e:H p=some (.tup ys)) (h:∀ l,H l=none→Q (.ref l) (upd H l (.lst ys))):rLstOf K [.ref p] H Q:=⟨p,ys,rfl,.inr (SqT.of e),h⟩
end
end L2
namespace Nt
section
variable {n:Nat} {R:Nat→Nat→Prop}
noncomputable def Con (n:Nat) (R:Nat→Nat→Prop) (s:Int) (x:Nat→Int):Prop:=∀ i j,i < n→j < n→(x j - x i≥s↔R i j)
structure TP (n:Nat) (R:Nat→Nat→Prop) (s:Int) (x:Nat→Int) (N:Nat) (v:Nat→Nat) (k:Nat→Bool):Prop where
 lt:∀ t,t≤N→v t < n
 st:x (v 0)=0
 up:∀ t,t < N→k t=true→R (v t) (v (t + 1))∧x (v (t + 1))=x (v t) + s
 dn:∀ t,t < N→k t=false→¬R (v (t + 1)) (v t)∧x (v (t + 1))=x (v t) + 1 - s
noncomputable def D (k:Nat→Bool):Nat→Int
 | 0=>0
 | t + 1=>D k t + (if k t=true then 1 else -1)
noncomputable def Mc (k:Nat→Bool):Nat→Int
 | 0=>0
 | t + 1=>Mc k t + (if k t=true then 0 else 1)
theorem TP.val {s:Int} {x:Nat→Int} {N:Nat} {v:Nat→Nat} {k:Nat→Bool} (p:TP n R s x N v k):∀ t,t≤N→x (v t)=D k t * s + Mc k t
 | 0,_=>by rw [p.st];simp [D,Mc]
 | t + 1,h=>by
  have ih:=p.val t (by lia)
  simp only [D,Mc]
  cases hk:k t with
  | true=>
   rw [(p.up t (by lia) hk).2,ih,if_pos rfl,if_pos rfl,Int.add_mul]
   lia
  | false=>
   rw [(p.dn t (by lia) hk).2,ih,if_neg Bool.false_ne_true,if_neg Bool.false_ne_true,Int.add_mul]
   lia
theorem met (f:Nat→Int) (c:Int):∀ m:Nat,f 0 < c→c≤f m→(∀ j,f (j + 1)≤f j + 1)→∃ j,j≤m∧f j=c
 | 0,h1,h2,_=>by lia
 | m + 1,h1,h2,h3=>by
  by_cases h:c≤f m
  ·obtain ⟨j,a,b⟩:=met f c m h1 h h3
   exact ⟨j,by lia,b⟩
  ·have:=h3 m
   exact ⟨m + 1,Nat.le_refl _,by lia⟩
end
end Nt
namespace Nt
section
variable {n:Nat} {R:Nat→Nat→Prop}
end
end Nt
namespace L2
open PySem PySem.Spec PyProof.Rows
noncomputable def C2 (h:Heap) (e:Addr) (v:Value):Prop:=∃ oe vs,h.get? e=some oe∧oe.data=.fields vs∧vs[2]? =some v
theorem C2.of {h h':Heap} {e:Addr} {v:Value} (c:C2 h e v) (k:h'.get? e=h.get? e):C2 h' e v:=by
 obtain ⟨oe,vs,a,b,d⟩:=c
 exact ⟨oe,vs,k.trans a,b,d⟩
section
variable {M:Model} {A:Around} {E:Value→Shared→Prop} {s:Shared} {base:Heap} {l:List Env} {env:Env} {outer:List Env} {e L:Addr} {cls a0 fl:Value} {Q:Unit→Shared→Prop}
structure Moved (base:Heap) (l:List Env) (e:Addr) (cls a0 fl:Value) (h h':Heap):Prop where
 stays:base.StaysIn h'
 fun_:h'.FunFrames base l
 tr:h'.TracedAtW base e cls a0 fl
 up:h.UpToSlots h'
 c2:∀ v,C2 h e v→C2 h' e v
theorem flight2 {fo:Option Addr} (hk:base.StaysIn s.heap) (hl:s.heap.FunFrames base l) (ht:s.heap.TracedAtW base e cls a0 fl)
  (hQ:∀ h',Moved base l e cls a0 (fo.elim Value.none fun f=>rawInt f) s.heap h'→Q () { s with heap:=h' }):wpAny M A (setFlight (.ref e) fo) Q E s:=by
 obtain ⟨oe,vs,T,oT,ts,he,hc,hd,h1,nT,Te,hT,hdT,h3⟩:=ht
 have lt3:3 < ts.size:=(Array.getElem?_eq_some_iff.mp h3).1
 unfold setFlight
 refine wpAny_bind (wpAny_field he hd h1 ?_)
 rw [if_pos (by simp)]
 have oth:∀ b,b≠T→(s.heap.update T (Obj.mapFields (·.setIfInBounds 3 (fo.elim Value.none fun f=>rawInt f)))).get? b=s.heap.get? b:=fun b q=>Heap.get?_update_other _ _ (Ne.symm q)
 have nrec:∀ b o,s.heap.get? b=some o→(∀ vs,o.data≠.fields vs)→b≠T:=fun b o q n z=>by
  rw [z,hT] at q
  cases q
  exact n _ hdT
 have st:∀ b o,base.get? b=some o→b≠T:=fun b o q z=>by rw [z,nT] at q;cases q
 refine wpAny_setField hT hdT lt3 (hQ _ ⟨fun b o q=>(oth b (st b o q)).trans (hk b o q),?_,?_,?_,?_⟩)
 ·exact hl.of_keeps fun b o q n=>⟨o,(oth b (nrec b o q n)).trans q,rfl⟩
 ·refine ⟨oe,vs,T,_,_,(oth e (Ne.symm Te)).trans he,hc,hd,h1,nT,Te,Heap.get?_update_self _ hT (Obj.isFreed_of_fields (Obj.data_mapFields hdT _)),Obj.data_mapFields hdT _,by simp [lt3]⟩
 ·exact fun b o q n=>⟨o.slots,(oth b (nrec b o q n)).trans q⟩
 ·exact fun v c=>c.of (oth e (Ne.symm Te))
theorem entry2 {oe:Obj} {vs:Array Value} {head:Value} {hn:Bool} (hfr:A.frames=some (env::outer)) (hl:s.heap.FunFrames base (env::outer)) (hf:env.frame=some L)
  (he:s.heap.get? e=some oe) (hk:base.StaysIn s.heap) (hen:base.get? e=none) (hd:oe.data=.fields vs) (lt:1 < vs.size) (h0:vs[0]? =some a0)
  (hQ:∀ h',Moved base (env::outer) e oe.cls a0 (rawInt L) s.heap h'→Q () { s with heap:=h' }):
  wpAny M A (do let a ←frameOf env;let pl ←entryPlaceOf L hn;let b ←EntryCells.newEntry head a .none (rawInt L) .none pl;setField (.ref e) 1 b) Q E s:=by
 have ne:e∉(env::outer).filterMap (·.frame):=fun m=>by
  obtain ⟨_,o,q,n⟩:=hl.mem m
  rw [he] at q
  cases q
  exact n vs hd
 refine wpAny_bind (wpAny_frameOf_fun hfr hl hf fun h1 so=>wpAny_bind (wpAny_entryPlaceOf fun pl hpl=>?_))
 unfold EntryCells.newEntry newFields
 refine wpAny_bind (wpAny_newObj_type ?_ (hpl.sizeOk5 _ _ _ _ _))
 have e1:h1.get? e=some oe:=(so.2.1 e ne).trans he
 have k1:base.StaysIn h1:=fun b o q=>(so.2.1 b fun m=>by rw [(hl.mem m).1] at q;cases q).trans (hk b o q)
 have Te:h1.objs.size≠e:=Nat.ne_of_gt (Heap.lt_size e1)
 have hts:(([head,Value.ref L,Value.none,rawInt L,Value.none]++(if pl.isEmpty then List.replicate 6 Value.none else pl)).toArray)[3]? =some (rawInt L):=by
  first | (simp;done) | (rcases hpl with rfl | ⟨_,_,_,_,_,_,_,rfl⟩ <;> simp)
 generalize hob:(Obj.mk (.type "traceback") none (.fields ([head,Value.ref L,Value.none,rawInt L,Value.none]++(if pl.isEmpty then List.replicate 6 Value.none else pl)).toArray) #[])=ob
 have obd:ob.data=.fields ([head,Value.ref L,Value.none,rawInt L,Value.none]++(if pl.isEmpty then List.replicate 6 Value.none else pl)).toArray:=by rw [←hob]
 have obf:ob.isFreed=false:=by rw [←hob];rfl
 have e2:=Heap.get?_push_of_some (h:=h1) ob e1
 refine wpAny_setField e2 hd lt (hQ _ ?_)
 have d3:=Obj.data_mapFields hd (·.setIfInBounds 1 (Value.ref h1.objs.size))
 have e3:=Heap.get?_update_self (Obj.mapFields (·.setIfInBounds 1 (Value.ref h1.objs.size))) e2 (Obj.isFreed_of_fields d3)
 have T3:=(Heap.get?_update_other (h1.push ob) (Obj.mapFields (·.setIfInBounds 1 (Value.ref h1.objs.size))) (Ne.symm Te)).trans (Heap.get?_push_size h1 obf)
 have kp:∀ b o,b≠e→h1.get? b=some o→((h1.push ob).update e (Obj.mapFields (·.setIfInBounds 1 (Value.ref h1.objs.size)))).get? b=some o:=fun b o n q=>by
  rw [Heap.get?_update_other _ _ (Ne.symm n)]
  exact Heap.get?_push_of_some _ q
 have nrec:∀ b o,s.heap.get? b=some o→(∀ vs,o.data≠.fields vs)→b≠e:=fun b o q n z=>by
  rw [z,he] at q
  cases q
  exact n _ hd
 refine ⟨fun b o q=>kp b o (fun z=>by rw [z,hen] at q;cases q) (k1 b o q),hl.of_keeps fun b o q n=>?_,⟨_,_,h1.objs.size,_,_,e3,⟨Obj.cls_mapFields _ _,by rw [Array.getElem?_setIfInBounds_ne (by decide)];exact h0⟩,d3,by simp [lt],k1.fresh,Te,T3,obd,hts⟩,fun b o q n=>?_,fun v c=>?_⟩
 ·obtain ⟨sl,q1⟩:=so.2.2 b o q
  exact ⟨_,kp b _ (nrec b o q n) q1,rfl⟩
 ·obtain ⟨sl,q1⟩:=so.2.2 b o q
  exact ⟨sl,kp b _ (nrec b o q n) q1⟩
 ·obtain ⟨oe',vs',q1,q2,q3⟩:=c
  rw [he] at q1
  cases q1
  rw [hd] at q2
  cases q2
  exact ⟨_,_,e3,d3,by rw [Array.getElem?_setIfInBounds_ne (by decide)];exact q3⟩
theorem noteF2 {oe:Obj} {vs:Array Value} (hfr:A.frames=some (env::outer)) (hl:s.heap.FunFrames base (env::outer)) (hf:env.frame=some L)
  (he:s.heap.get? e=some oe) (hk:base.StaysIn s.heap) (hen:base.get? e=none) (hd:oe.data=.fields vs) (h1:vs[1]? =some .none) (h0:vs[0]? =some a0)
  (hQ:∀ h',Moved base (env::outer) e oe.cls a0 (rawInt L) s.heap h'→Q () { s with heap:=h' }):wpAny M A (noteFrame (.ref e) env) Q E s:=by
 unfold noteFrame
 simp only [hf]
 refine wpAny_bind (wpAny_field he hd h1 ?_)
 rw [if_neg (by decide)]
 exact entry2 hfr hl hf he hk hen hd (Array.getElem?_eq_some_iff.mp h1).1 h0 hQ
theorem noteN2 (hfr:A.frames=some (env::outer)) (hl:s.heap.FunFrames base (env::outer)) (hf:env.frame=some L) (hk:base.StaysIn s.heap) (hen:base.get? e=none) (ht:s.heap.TracedW base e cls a0)
  (hQ:∀ h',Moved base (env::outer) e cls a0 (rawInt L) s.heap h'→Q () { s with heap:=h' }):wpAny M A (noteFrame (.ref e) env) Q E s:=by
 obtain ⟨oe,vs,T,oT,ts,he,⟨hc,h0⟩,hd,h1,nT,Te,hT,hdT,h3⟩:=ht
 subst hc
 unfold noteFrame
 simp only [hf]
 refine wpAny_bind (wpAny_field he hd h1 ?_)
 rw [if_pos (by simp)]
 refine wpAny_bind (wpAny_field hT hdT h3 ?_)
 rw [if_neg (by simp [rawInt])]
 refine wpAny_bind (wpAny_setField hT hdT (Array.getElem?_eq_some_iff.mp h3).1 ?_)
 have oth:∀ b,b≠T→(s.heap.update T (Obj.mapFields (·.setIfInBounds 3 Value.none))).get? b=s.heap.get? b:=fun b q=>Heap.get?_update_other _ _ (Ne.symm q)
 have nrec:∀ b o,s.heap.get? b=some o→(∀ vs,o.data≠.fields vs)→b≠T:=fun b o q n z=>by
  rw [z,hT] at q
  cases q
  exact n _ hdT
 refine entry2 hfr (hl.of_keeps fun b o q n=>⟨o,(oth b (nrec b o q n)).trans q,rfl⟩) hf ((oth e (Ne.symm Te)).trans he) (fun b o q=>(oth b fun z=>by rw [z,nT] at q;cases q).trans (hk b o q)) hen hd (Array.getElem?_eq_some_iff.mp h1).1 h0
  fun h' m=>hQ h' ⟨m.stays,m.fun_,m.tr,fun b o q n=>m.up b o ((oth b (nrec b o q n)).trans q) n,fun v c=>m.c2 v (c.of (oth e (Ne.symm Te)))⟩
theorem leaves_on2 (hfr:A.frames=some (env::outer)) (hf:env.frame=some L) (x:Heap.FlyingW base (env::outer) e cls a0 s.heap)
  (hQ:∀ h',Heap.FlyingW base outer e cls a0 h'→s.heap.UpToSlots h'→(∀ v,C2 s.heap e v→C2 h' e v)→Q () { s with heap:=h' }):wpAny M A (leaving env (.ref e)) Q E s:=by
 obtain ⟨f1,f2,f3,f4⟩:=x
 unfold leaving
 refine wpAny_bind (noteN2 hfr f3 hf f1 f2 f4 fun h1 m1=>flight2 m1.stays m1.fun_ m1.tr fun h2 m2=>?_)
 exact hQ h2 ⟨m2.stays,f2,m2.fun_.2.2,m2.tr⟩ (m1.up.trans m2.up) fun v c=>m2.c2 v (m1.c2 v c)
theorem leaves_made2 {h:Heap} {args:List Value} (hfr:A.frames=some (env::outer)) (hf:env.frame=some L) (hk:base.StaysIn h) (hl:h.FunFrames base (env::outer)) (hx:Heap.MadeExcOf h s.heap e cls args)
  (hQ:∀ h' t,Heap.FlyingW base outer e cls (.ref t) h'→s.heap.UpToSlots h'→C2 h' e .none→Q () { s with heap:=h' }):wpAny M A (leaving env (.ref e)) Q E s:=by
 obtain ⟨t,he,_,_⟩:=hx.there
 have hen:base.get? e=none:=by
  cases q:base.get? e with
  | none=>rfl
  | some o=>have:=hk _ _ q;rw [hx.new] at this;cases this
 unfold leaving
 refine wpAny_bind (noteF2 (a0:=.ref t) hfr (hl.of_keeps fun b o q _=>⟨o,hx.keeps b o q,rfl⟩) hf he (fun b o q=>hx.keeps b o (hk b o q)) hen rfl rfl rfl fun h1 m1=>flight2 m1.stays m1.fun_ m1.tr fun h2 m2=>?_)
 exact hQ h2 t ⟨m2.stays,hen,m2.fun_.2.2,m2.tr⟩ (m1.up.trans m2.up) (m2.c2 _ (m1.c2 _ ⟨_,_,he,rfl,rfl⟩))
theorem looks_on2 (hfr:A.frames=some (env::outer)) (hf:env.frame=some L) (x:Heap.FlyingW base (env::outer) e cls a0 s.heap)
  (hQ:∀ h',Heap.HeldW base (env::outer) e cls a0 L h'→s.heap.UpToSlots h'→(∀ v,C2 s.heap e v→C2 h' e v)→Q () { s with heap:=h' }):wpAny M A (noteFrame (.ref e) env) Q E s:=by
 obtain ⟨f1,f2,f3,f4⟩:=x
 exact noteN2 hfr f3 hf f1 f2 f4 fun h1 m1=>hQ h1 ⟨m1.stays,f2,m1.fun_,m1.tr⟩ m1.up m1.c2
theorem lands2 (x:Heap.HeldW base l e cls a0 L s.heap)
  (hQ:∀ h',Heap.FlyingW base l e cls a0 h'→s.heap.UpToSlots h'→(∀ v,C2 s.heap e v→C2 h' e v)→Q () { s with heap:=h' }):wpAny M A (setFlight (.ref e) none) Q E s:=by
 obtain ⟨f1,f2,f3,f4⟩:=x
 exact flight2 f1 f3 f4 fun h1 m1=>hQ h1 ⟨m1.stays,f2,m1.fun_,m1.tr⟩ m1.up m1.c2
theorem landsA2 (x:Heap.FlyingW base l e cls a0 s.heap)
  (hQ:∀ h',Heap.FlyingW base l e cls a0 h'→s.heap.UpToSlots h'→(∀ v,C2 s.heap e v→C2 h' e v)→Q () { s with heap:=h' }):wpAny M A (setFlight (.ref e) none) Q E s:=by
 obtain ⟨f1,f2,f3,f4⟩:=x
 exact flight2 f1 f3 f4.at fun h1 m1=>hQ h1 ⟨m1.stays,f2,m1.fun_,m1.tr⟩ m1.up m1.c2
theorem stays2 (hf:env.frame=some L) (x:Heap.HeldW base l e cls a0 L s.heap)
  (hQ:∀ h',Heap.HeldW base l e cls a0 L h'→s.heap.UpToSlots h'→Q () { s with heap:=h' }):wpAny M A (setFlight (.ref e) env.frame) Q E s:=by
 obtain ⟨f1,f2,f3,f4⟩:=x
 rw [hf]
 exact flight2 f1 f3 f4 fun h1 m1=>hQ h1 ⟨m1.stays,f2,m1.fun_,m1.tr⟩ m1.up
end
end L2
namespace L2
open PySem PySem.Spec PyProof.Rows
structure XEnd (P:Program) (w:World) (outer:List Env) (H:Hp) (s:Shared) (e C t:Addr) (H':Hp) (B:Heap) (s':Shared):Prop where
 os:s'.os=s.os
 bare:AllBare s'.gens
 un:Un (frs outer) [] H H' s.heap s'.heap
 cov:∀ b o,s.heap.get? b=some o→H b=none→b∉frs outer→B.get? b=some o
 thr:∀ b o,s.heap.get? b=some o→b∉frs outer→∃ o',B.get? b=some o'
 hok:HOk P w H' B
 fl:Heap.FlyingW B outer e (.ref C) (.ref t) s'.heap
noncomputable abbrev CXE (P:Program) (w:World):CXT:=fun outer H s E ev s'=>∃ e C t H' B c,ev=.ref e∧XEnd P w outer H s e C t H' B s'∧(c=none→C2 s'.heap e .none)∧E (.ref C) c H'
section
variable {CX:CXT} {P:Program} {w:World} {K:PySem.W.Frag} {mg:Str→Option Value} {base:Heap} {N:List Str} {qual:Str} {scope:Scope} {f:Addr} {cd:Value} {A:Around} {outer:List Env} {s₀:Shared} {H₀:Hp} {E:XK}
 {pins:List (Addr×Obj)} {σ:St} {H:Hp} {s:Shared}
theorem frs_sub {b:Addr} (hb:b∈frs (envOfC qual scope s₀.heap.objs.size f cd::outer)):b=s₀.heap.objs.size∨b∈frs outer:=by
 have e:frs (envOfC qual scope s₀.heap.objs.size f cd::outer)=s₀.heap.objs.size::frs outer:=rfl
 rw [e] at hb
 exact List.mem_cons.mp hb
theorem frs_not {b:Addr} {o:Obj} (h:s₀.heap.get? b=some o) (hb:b∉frs outer):b∉frs (envOfC qual scope s₀.heap.objs.size f cd::outer):=fun z=>by
 rcases frs_sub z with e | e
 ·exact Nat.lt_irrefl _ (e▸Heap.lt_size h)
 ·exact hb e
theorem XEnd.out {e C t:Addr} {H':Hp} {B h':Heap} {s':Shared} (I:Inv (cxOf CX P w K mg base N qual scope f cd A outer s₀ H₀ E) pins σ H s) (x:XEnd P w (envOfC qual scope s₀.heap.objs.size f cd::outer) H s e C t H' B s')
  (fl:Heap.FlyingW B outer e (.ref C) (.ref t) h') (up:s'.heap.UpToSlots h'):XEnd P w outer H₀ s₀ e C t H' B { s' with heap:=h' }:=by
 have cov:∀ b o,s₀.heap.get? b=some o→H₀ b=none→b∉frs outer→B.get? b=some o:=fun b o q n nb=>
  x.cov b o (I.base.keep b o q n nb (fun z=>nomatch z)) (I.base.free b o q n (fun z=>nomatch z)) (frs_not q nb)
 have thr:∀ b o,s₀.heap.get? b=some o→b∉frs outer→∃ o',B.get? b=some o':=fun b o q nb=>by
  obtain ⟨o',e'⟩:=I.base.there b o q (fun z=>nomatch z)
  exact x.thr b o' e' (frs_not q nb)
 have slot:∀ b o,s₀.heap.get? b=some o→b∈frs outer→∃ sl,h'.get? b=some { o with slots:=sl }:=fun b o q nb=>by
  have n:H₀ b=none:=I.ok.frf b nb
  obtain ⟨sl,e1⟩:=I.base.slot b o q n nb (fun z=>nomatch z)
  obtain ⟨sl2,e2⟩:=x.un.slot b _ e1 (I.base.free b o q n (fun z=>nomatch z)) (List.mem_cons_of_mem _ nb) (fun z=>nomatch z)
  obtain ⟨_,o3,e3,d3⟩:=I.ok.funs.mem nb
  have:o3=o:=by
   have e3':s₀.heap.get? b=some o3:=e3
   rw [q] at e3'
   exact (Option.some.inj e3').symm
  subst this
  obtain ⟨sl4,e4⟩:=up b _ e2 d3
  exact ⟨sl4,e4⟩
 refine ⟨x.os.trans I.os,x.bare,⟨fun b o q n nb _=>fl.1 b o (cov b o q n nb),fun b o q _ nb _=>slot b o q nb,fun b o q n _=>?_,fun b o q _=>?_,fun b xs q=>?_,fun b o u q=>?_,fun b ps q=>?_⟩,cov,thr,x.hok,fl⟩
 ·obtain ⟨o',e'⟩:=I.base.there b o q (fun z=>nomatch z)
  exact x.un.free b o' e' (I.base.free b o q n (fun z=>nomatch z)) (fun z=>nomatch z)
 ·by_cases nb:b∈frs outer
  ·obtain ⟨sl,e'⟩:=slot b o q nb
   exact ⟨_,e'⟩
  ·obtain ⟨o',e'⟩:=thr b o q nb
   exact ⟨o',fl.1 b o' e'⟩
 ·exact x.un.tups b xs (I.base.tups b xs q)
 ·exact x.un.frzs b o u (I.base.frzs b o u q)
 ·obtain ⟨m1,e1⟩:=I.base.tbls b ps q
  obtain ⟨m2,e2⟩:=x.un.tbls b _ e1
  exact ⟨m1++m2,by rw [e2,Array.append_assoc]⟩
theorem passE:Passes (CXE P w) (cxOf (CXE P w) P w K mg base N qual scope f cd A outer s₀ H₀ E) E:=by
 intro pins σ H s ev s' I h
 obtain ⟨e,C,t,H',B,c,rfl,x,c2,q⟩:=h
 show wpAny (model P w) (A.deeper (envOfC qual scope s₀.heap.objs.size f cd)) (leaving (envOfC qual scope s₀.heap.objs.size f cd) (.ref e)) _ _ s'
 exact leaves_on2 (L:=s₀.heap.objs.size) I.ok.frames rfl x.fl fun h' fl up k2=>⟨e,C,t,H',B,c,rfl,XEnd.out I x fl up,fun z=>k2 _ (c2 z),q⟩
theorem made_leaves {e C:Addr} {h':Heap} {vs:List Value} (I:Inv (cxOf (CXE P w) P w K mg base N qual scope f cd A outer s₀ H₀ E) pins σ H s) (hx:Heap.MadeExcOf s.heap h' e (.ref C) vs) (q:E (.ref C) none H):
  (cxOf (CXE P w) P w K mg base N qual scope f cd A outer s₀ H₀ E).xe (.ref e) { s with heap:=h' }:=by
 have st:s.heap.FunFrames base (envOfC qual scope s₀.heap.objs.size f cd::outer):=I.stack
 have hin:∀ env∈(envOfC qual scope s₀.heap.objs.size f cd::outer),∀ a,env.frame=some a→a∈frs (envOfC qual scope s₀.heap.objs.size f cd::outer):=fun env he a hf=>List.mem_filterMap.mpr ⟨env,he,hf⟩
 have hB:∀ b o,s.heap.get? b=some o→b∉frs (envOfC qual scope s₀.heap.objs.size f cd::outer)→(PySem.W.hideAll s.heap (frs (envOfC qual scope s₀.heap.objs.size f cd::outer))).get? b=some o:=fun b o q nb=>PySem.W.hideAll_get _ q nb
 have hok:HOk P w H (PySem.W.hideAll s.heap (frs (envOfC qual scope s₀.heap.objs.size f cd::outer))):=fun a o ea=>
  (I.hok a o ea).stay (fun b u hb q=>hB b u q fun z=>by
   have n:=I.stkFree b z
   rcases hb with rfl | hb
   ·rw [n] at ea;cases ea
   ·rw [n] at hb;cases hb) (fun _ q=>q) fun _ _ q=>q
 show wpAny (model P w) (A.deeper (envOfC qual scope s₀.heap.objs.size f cd)) (leaving (envOfC qual scope s₀.heap.objs.size f cd) (.ref e)) _ _ { s with heap:=h' }
 refine leaves_made2 (base:=PySem.W.hideAll s.heap (frs (envOfC qual scope s₀.heap.objs.size f cd::outer))) (h:=s.heap) (L:=s₀.heap.objs.size) I.ok.frames rfl (fun b o q=>PySem.W.of_hideAll _ q) (PySem.W.funFrames_hide st hin) hx fun h2 t fl up c2=>?_
 generalize PySem.W.hideAll s.heap (frs (envOfC qual scope s₀.heap.objs.size f cd::outer))=B at hB hok fl
 refine ⟨e,C,t,H,B,none,rfl,?_,fun _=>c2,q⟩
 have cov:∀ b o,s₀.heap.get? b=some o→H₀ b=none→b∉frs outer→B.get? b=some o:=fun b o q n nb=>
  hB b o (I.base.keep b o q n nb (fun z=>nomatch z)) (frs_not q nb)
 have thr:∀ b o,s₀.heap.get? b=some o→b∉frs outer→∃ o',B.get? b=some o':=fun b o q nb=>by
  obtain ⟨o',e'⟩:=I.base.there b o q (fun z=>nomatch z)
  exact ⟨o',hB b o' e' (frs_not q nb)⟩
 have slot:∀ b o,s₀.heap.get? b=some o→b∈frs outer→∃ sl,h2.get? b=some { o with slots:=sl }:=fun b o q nb=>by
  obtain ⟨sl,e1⟩:=I.base.slot b o q (I.ok.frf b nb) nb (fun z=>nomatch z)
  obtain ⟨_,o3,e3,d3⟩:=I.ok.funs.mem nb
  have:o3=o:=by
   have e3':s₀.heap.get? b=some o3:=e3
   rw [q] at e3'
   exact (Option.some.inj e3').symm
  subst this
  obtain ⟨sl4,e4⟩:=up b _ (hx.keeps _ _ e1) d3
  exact ⟨sl4,e4⟩
 refine ⟨I.os,I.bare,⟨fun b o q n nb _=>fl.1 b o (cov b o q n nb),fun b o q _ nb _=>slot b o q nb,fun b o q n _=>I.base.free b o q n (fun z=>nomatch z),fun b o q _=>?_,I.base.tups,I.base.frzs,I.base.tbls⟩,cov,thr,hok,fl⟩
 by_cases nb:b∈frs outer
 ·obtain ⟨sl,e'⟩:=slot b o q nb
  exact ⟨_,e'⟩
 ·obtain ⟨o',e'⟩:=thr b o q nb
  exact ⟨o',fl.1 b o' e'⟩
abbrev bmV:List Value:=[.type "ValueError",.type "Exception",.type "BaseException",.type "object"]
noncomputable def tRaise (E:XK) (C:Addr) (t:TA):TS:=fun _ σ H=>t σ H fun vs H1=>vs.length≤sizeLine∧E (.ref C) none H1
theorem own_at {x:Str} {C:Addr} {bmB:List Value} {newId:String} (M:Mod K mg base) (hm:mg x=some (.ref C)) (q:PySem.W.excIn K C bmB newId=true):OwnCls x C bmB newId mg base:=by
 refine ⟨hm,?_⟩
 have X:=M.kin
 unfold PySem.W.excIn at q
 split at q
 ·rename_i dd cd sl ho
  split at q
  ·rename_i C' bm k0 k1 k2 k3 n k5 h1 h2
   simp only [Bool.and_eq_true,beq_iff_eq,Bool.not_eq_true'] at q
   obtain ⟨⟨⟨⟨⟨rfl,rfl⟩,hdel⟩,ht⟩,hok⟩,hni⟩:=q
   obtain ⟨nm,bs,mro,ns,qn,hd,sn,sub,ab,col,del⟩:=cd
   dsimp only at h1 hdel hok hni
   subst h1 hdel
   have h3:sl=#[k0,k1,k2,k3,some (.builtin n),k5]:=by
    obtain ⟨l⟩:=sl
    simp only at h2
    rw [h2]
   subst h3
   exact ⟨bm,ns,nm,qn,bs,hd,sn,sub,ab,col,dd,k0,k1,k2,k3,k5,_,X _ _ ho,.of_isNs (PySem.W.isNs_of_in X hok),PySem.W.nsMap_none_of_in X hok hni,PySem.W.tail_of_in X ht⟩
  ·cases q
 ·cases q
theorem ps_raise {x:Str} {C:Addr} {np cpos pos:Pos} {e₀:Expr} {rest:List Expr} {t:TA} (hm:mg x=some (.ref C)) (qx:PySem.W.excIn K C bmV "ValueError.__new__"=true)
  (hg:Gl (cxOf (CXE P w) P w K mg base N qual scope f cd A outer s₀ H₀ E) x) (ha:PA (cxOf (CXE P w) P w K mg base N qual scope f cd A outer s₀ H₀ E) (e₀::rest) t)
  (he:starEach (e₀::rest) (cxOf (CXE P w) P w K mg base N qual scope f cd A outer s₀ H₀ E).env=(false,eval e₀ (cxOf (CXE P w) P w K mg base N qual scope f cd A outer s₀ H₀ E).env)::starEach rest (cxOf (CXE P w) P w K mg base N qual scope f cd A outer s₀ H₀ E).env:=by rfl)
  (hpl:(backTo cpos (starEach rest (cxOf (CXE P w) P w K mg base N qual scope f cd A outer s₀ H₀ E).env)).any (·.1)=false:=by rfl) (hdb:(x==("__debug__":Str))=false:=by decide):
  PS (cxOf (CXE P w) P w K mg base N qual scope f cd A outer s₀ H₀ E) (.Raise (some (.Call (.Name x np) (e₀::rest) [] cpos)) none pos) (tRaise E C t):=by
 intro pins s σ H D I h
 have O:OwnCls x C bmV "ValueError.__new__" mg base:=own_at I.ok.mod hm qx
 obtain ⟨tl,Nn,nm,q,bs,hdct,sn,sub,ab,col,dd,k0,k1,k2,k3,k5,mN,hC,hN,hni,T⟩:=O.obj
 refine wpAny_Raise_call_subU (C:=C) (nm:=nm) (q:=q) (N:=Nn) (bs:=bs) (bm:=tl) (hdct:=hdct) (sn:=sn) (sub:=sub) (ab:=ab) (col:=col) (dd:=dd) (k0:=k0) (k1:=k1) (k2:=k2) (k3:=k3) (k5:=k5)
  PySem.F.excBase_ValueError (by decide) PySem.F.excBase_ValueError (mN:=mN) (T.hasType PySem.F.excBase_ValueError.hasBase) (I.ok.hd rfl) (by rw [he];exact hpl) hni (ld_glob I hg O.bound ⟨rfl,?_⟩ hdb)
 have h1:=ha cpos pins s σ H _ I h
 rw [he] at h1 ⊢
 refine Calls.evalArgs_plain (wpAny_mono h1 (fun us s2 ⟨vs,H1,I1,r,q1,q2⟩=>⟨rfl,by rw [←r.length];exact q1,I1.bk _ _ hC,hN.keeps I1.bk,T.keeps I1.bk,fun h' e hm=>made_leaves I1 hm q2⟩) fun _ _ y=>y)
theorem Fun.okX {x qual:Str} {st:Stmt} {f:Addr} {fd:FuncData} {N ps:List Str} {k:Nat} {sp:Sp} (F:Fun K x qual st f fd) (S:FnScope N ps (defScope st)) (len:∀ vs H Q E,sp vs H Q E→vs.length=ps.length)
  (hbody:∀ (cdv:Value) (A:Around) (outer:List Env) (s:Shared) (H:Hp) (vs:List V) (Q:VK) (E:XK),Room k (A.deeper (envOfC qual (defScope st) s.heap.objs.size f cdv))→sp vs H Q E→
   ∃ t,PSs (cxOf (CXE P w) P w K mg base N qual (defScope st) f cdv A outer s H E) (defBody st) t∧t { nx:=fun _ H'=>Q .non H',rt:=Q } (start N vs) H):FnOk P w K mg base (CXE P w) (k + 1) f fd ps sp:=by
 obtain ⟨oc,od,kV,doc,pm,an,cdv,ct,osl,rfl,lk,hcd⟩:=F.ex
 exact fn_of lk hcd S len fun A outer s H vs Q E hr hsp=>hbody cdv A outer s H vs Q E hr hsp
end
end L2
namespace L2
open PySem PySem.Spec PyProof.Rows
section
variable {P:Program} {w:World} {l:List Env} {H H':Hp} {s s':Shared} {e C t:Addr} {B h':Heap}
theorem XEnd.move (x:XEnd P w l H s e C t H' B s') (fr:∀ b∈frs l,H b=none) (fl:Heap.FlyingW B l e (.ref C) (.ref t) h') (up:s'.heap.UpToSlots h'):XEnd P w l H s e C t H' B { s' with heap:=h' }:=by
 have slot:∀ b o,s.heap.get? b=some o→b∈frs l→∃ sl,h'.get? b=some { o with slots:=sl }:=fun b o q nb=>by
  obtain ⟨sl,e1⟩:=x.un.slot b o q (fr b nb) nb (fun z=>nomatch z)
  obtain ⟨_,o3,e3,d3⟩:=x.fl.2.2.1.mem nb
  have:o3={ o with slots:=sl }:=Option.some.inj (e3.symm.trans e1)
  subst this
  obtain ⟨sl2,e2⟩:=up b _ e1 d3
  exact ⟨sl2,e2⟩
 refine ⟨x.os,x.bare,⟨fun b o q n nb _=>fl.1 b o (x.cov b o q n nb),fun b o q _ nb _=>slot b o q nb,x.un.free,fun b o q _=>?_,x.un.tups,x.un.frzs,x.un.tbls⟩,x.cov,x.thr,x.hok,fl⟩
 by_cases nb:b∈frs l
 ·obtain ⟨sl,e1⟩:=slot b o q nb
  exact ⟨_,e1⟩
 ·obtain ⟨o',e1⟩:=x.thr b o q nb
  exact ⟨o',fl.1 b o' e1⟩
theorem XEnd.new (x:XEnd P w l H s e C t H' B s'):s.heap.get? e=none:=by
 cases q:s.heap.get? e with
 | none=>rfl
 | some o=>
  exfalso
  by_cases nb:e∈frs l
  ·obtain ⟨_,o3,e3,d3⟩:=x.fl.2.2.1.mem nb
   obtain ⟨oe,vs,he,_,hd,_⟩:=x.fl.first
   rw [e3] at he
   cases he
   exact d3 vs hd
  ·obtain ⟨o',e1⟩:=x.thr e o q nb
   rw [x.fl.2.1] at e1
   cases e1
theorem XEnd.free (x:XEnd P w l H s e C t H' B s'):H' e=none:=by
 cases q:H' e with
 | none=>rfl
 | some o=>
  obtain ⟨u,e1⟩:=(x.hok e o q).there
  rw [x.fl.2.1] at e1
  cases e1
end
section
variable {X:Cx} {pins:List (Addr×Obj)} {σ:St} {H H':Hp} {s s':Shared} {e C t:Addr} {B:Heap}
theorem Inv.exc (I:Inv X pins σ H s) (x:XEnd X.prog X.w X.stack H s e C t H' B s'):Inv X pins σ H' s':=
 I.call' x.os x.un (x.hok.kept x.fl.1) x.bare (fun _ z=>nomatch z)
noncomputable def excO (e C:Addr):HO:=.ext fun h=>∃ ob,h.get? e=some ob∧ob.cls=.ref C∧∃ vs,ob.data=.fields vs
theorem Inv.track {o:HO} (J:Inv X pins σ H s) (hn:H e=none) (h0:X.s₀.heap.get? e=none) (hL:e≠X.env.locals) (hc:∀ x c,X.env.cells.lookup x=some c→c≠e) (hp:∀ p∈X.pn++pins,p.1≠e)
  (ho:ObjOk X.prog X.w (upd H e o) s.heap e o):Inv X pins σ (upd H e o) s:=by
 have ne:∀ b u,H b=some u→b≠e:=fun b u q z=>by rw [z,hn] at q;cases q
 have up:∀ b u,H b=some u→upd H e o b=some u:=fun b u q=>by rw [upd_ne (ne b u q)];exact q
 refine ⟨J.ok,J.os,J.bare,⟨J.base.keep,J.base.slot,fun b ob q n hx=>?_,J.base.there,fun b xs q=>up _ _ (J.base.tups b xs q),fun b ob u q=>up _ _ (J.base.frzs b ob u q),fun b ps q=>?_⟩,J.loc,J.cell,?_,fun y c q=>?_,fun p hq=>?_,fun b u q=>?_,J.len⟩
 ·have:b≠e:=fun z=>by rw [z,h0] at q;cases q
  rw [upd_ne this]
  exact J.base.free b ob q n hx
 ·obtain ⟨m,q⟩:=J.base.tbls b ps q
  exact ⟨m,up _ _ q⟩
 ·rw [upd_ne (Ne.symm hL)];exact J.free
 ·rw [upd_ne (hc y c q)];exact J.freeC y c q
 ·obtain ⟨a1,a2,a3,a4,a5⟩:=J.pin p hq
  exact ⟨a1,by rw [upd_ne (hp p hq)];exact a2,a3,a4,a5⟩
 ·by_cases z:b=e
  ·subst z
   rw [upd_same] at q
   cases q
   exact ho
  ·rw [upd_ne z] at q
   exact (J.hok b u q).stay (fun _ _ _ q=>q) (fun c q=>up _ _ q) fun c xs q=>up _ _ q
theorem Inv.forget {i:Nat} {x:Str} {m:Str→Option Value} {v:Option Value} {h':Heap} {t':Nat} (I:Inv X pins σ H s) (hN:X.N.Nodup) (hi:X.N[i]? =some x) (hk:X.env.scope.names.lookup x=some .local)
  (hn:s.heap.Ns X.env.locals m) (hn':h'.Ns X.env.locals (fun y=>if y=x then v else m y)) (hs:Heap.SameBut X.env.locals s.heap h'):Inv X pins (σ.set i none) H { s with heap:=h',toks:=t' }:=by
 obtain ⟨m0,hn0,hl0⟩:=id I.loc
 obtain rfl:m0=m:=ns_one hn0 hn
 have nL:∀ b o,X.s₀.heap.get? b=some o→b≠X.env.locals:=fun b o q=>Nat.ne_of_lt (Nat.lt_of_lt_of_le (Heap.lt_size q) I.ok.above)
 refine ⟨I.ok,I.os,I.bare,⟨fun b o q n hb hx=>(hs.2 b (nL b o q)).trans (I.base.keep b o q n hb hx),fun b o q n hb hx=>?_,I.base.free,fun b o q hx=>?_,I.base.tups,I.base.frzs,I.base.tbls⟩,⟨_,hn',fun j y v' e1 e2 e3=>?_⟩,fun y c q=>?_,I.free,I.freeC,fun p hp=>?_,fun b ob q=>?_,by rw [List.length_set];exact I.len⟩
 ·obtain ⟨sl,e1⟩:=I.base.slot b o q n hb hx
  exact ⟨sl,(hs.2 b (nL b o q)).trans e1⟩
 ·obtain ⟨o',e1⟩:=I.base.there b o q hx
  exact ⟨o',(hs.2 b (nL b o q)).trans e1⟩
 ·have hj:j≠i:=fun z=>by
   subst z
   by_cases hlt:j < σ.length
   ·rw [List.getElem?_set_self hlt] at e2;cases e2
   ·rw [List.getElem?_eq_none (by rw [List.length_set];lia)] at e2;cases e2
  rw [List.getElem?_set_ne (Ne.symm hj)] at e2
  obtain ⟨u',r',q⟩:=hl0 j y v' e1 e2 e3
  refine ⟨u',r',?_⟩
  rcases q with ⟨k,q⟩ | ⟨k,c,q,z⟩
  ·refine .inl ⟨k,?_⟩
   have:y≠x:=fun q=>hj (nodup_ix hN e1 (q▸hi))
   simp [this,q]
  ·exact .inr ⟨k,c,q,z.sameBut hs (I.cne y c q)⟩
 ·obtain ⟨w',z⟩:=I.cell y c q
  exact ⟨w',z.sameBut hs (I.cne y c q)⟩
 ·obtain ⟨a1,a2,a3,a4,a5⟩:=I.pin p hp
  exact ⟨(hs.2 p.1 a3).trans a1,a2,a3,a4,a5⟩
 ·refine (I.hok b ob q).stay (fun c w' hc z=>(hs.2 c ?_).trans z) (fun _ z=>z) fun _ _ z=>z
  rintro rfl
  have fr:=I.free
  rcases hc with rfl | hc
  ·rw [fr] at q;cases q
  ·rw [fr] at hc;cases hc
noncomputable abbrev Cx.hand (X:Cx) (e:Addr):Cx:={ X with A:=X.A.mark (some (.ref e)),calm:=false,xe:=fun _ _=>False }
theorem Inv.hand (I:Inv X pins σ H s) (e:Addr):Inv (X.hand e) pins σ H s:=
 ⟨⟨I.ok.mod,I.ok.kind,I.ok.glob,I.ok.blt,I.ok.above,I.ok.inj,I.ok.has,I.ok.cab,(fun z=>absurd z Bool.false_ne_true),I.ok.frames,I.ok.stk,I.ok.exf,I.ok.bs,I.ok.bsz,I.ok.noex,I.ok.exfs,I.ok.funs,I.ok.frf⟩,I.os,I.bare,I.base,I.loc,I.cell,I.free,I.freeC,I.pin,I.hok,I.len⟩
theorem Inv.unhand (hd:X.calm=true→X.A.handled=none) (I:Inv (X.hand e) pins σ H s):Inv X pins σ H s:=
 ⟨⟨I.ok.mod,I.ok.kind,I.ok.glob,I.ok.blt,I.ok.above,I.ok.inj,I.ok.has,I.ok.cab,hd,I.ok.frames,I.ok.stk,I.ok.exf,I.ok.bs,I.ok.bsz,I.ok.noex,I.ok.exfs,I.ok.funs,I.ok.frf⟩,I.os,I.bare,I.base,I.loc,I.cell,I.free,I.freeC,I.pin,I.hok,I.len⟩
noncomputable def tHand (K:PySem.W.Frag) (Dc:Addr) (i:Nat) (th:TS) (D:Ends):XK:=fun cls _ H'=>∃ C,cls=.ref C∧PySem.W.exmOne K (.ref C) (.ref Dc)=some true∧∀ (e:Addr) (σ:St),H' e=none→i < σ.length→
 th { nx:=fun σ H=>D.nx (σ.set i none) H,rt:=D.rt,bk:=fun σ H=>D.bk (σ.set i none) H,ct:=fun σ H=>D.ct (σ.set i none) H } (σ.set i (some (.ref e))) (upd H' e (excO e C))
noncomputable abbrev Cx.pinned (X:Cx) (pn:List (Addr×Obj)) (E1:Value→Shared→Prop):Cx:={ X with pn:=pn,xe:=E1 }
theorem Inv.pn1 (I:Inv X pins σ H s) (E1:Value→Shared→Prop):Inv (X.pinned (X.pn++pins) E1) [] σ H s:=
 ⟨⟨I.ok.mod,I.ok.kind,I.ok.glob,I.ok.blt,I.ok.above,I.ok.inj,I.ok.has,I.ok.cab,I.ok.hd,I.ok.frames,I.ok.stk,I.ok.exf,I.ok.bs,I.ok.bsz,I.ok.noex,I.ok.exfs,I.ok.funs,I.ok.frf⟩,I.os,I.bare,I.base,I.loc,I.cell,I.free,I.freeC,fun p hp=>I.pin p (by simpa using hp),I.hok,I.len⟩
theorem Inv.unpn1 {E1:Value→Shared→Prop} {pins':List (Addr×Obj)} (I:Inv (X.pinned (X.pn++pins) E1) pins' σ H s):Inv X pins σ H s:=
 ⟨⟨I.ok.mod,I.ok.kind,I.ok.glob,I.ok.blt,I.ok.above,I.ok.inj,I.ok.has,I.ok.cab,I.ok.hd,I.ok.frames,I.ok.stk,I.ok.exf,I.ok.bs,I.ok.bsz,I.ok.noex,I.ok.exfs,I.ok.funs,I.ok.frf⟩,I.os,I.bare,I.base,I.loc,I.cell,I.free,I.freeC,fun p hp=>I.pin p (List.mem_append_left _ hp),I.hok,I.len⟩
theorem SP.unpinned {E1:Value→Shared→Prop} {pins':List (Addr×Obj)} {D:Ends} {f:Flow} (h:SP (X.pinned (X.pn++pins) E1) pins' D f s'):SP X pins D f s':=by
 cases f with
 | next=>obtain ⟨σ',H',I,q⟩:=h;exact ⟨σ',H',I.unpn1,q⟩
 | brk=>obtain ⟨σ',H',I,q⟩:=h;exact ⟨σ',H',I.unpn1,q⟩
 | cont=>obtain ⟨σ',H',I,q⟩:=h;exact ⟨σ',H',I.unpn1,q⟩
 | ret u=>obtain ⟨v,σ',H',I,r,q⟩:=h;exact ⟨v,σ',H',I.unpn1,r,q⟩
theorem ps_try {x n:Str} {Dc:Addr} {i:Nat} {np hpos pos:Pos} {body suite:List Stmt} {b₀:Stmt} {tb:XK→TS} {th:TS} (hcalm:X.calm=true) (hN:X.N.Nodup) (hi:X.N[i]? =some n) (hk:X.env.scope.names.lookup n=some .local)
  (hex:X.ex=[]) (hstk:X.stack=X.env::X.outer) (hfr:X.env.frame=some X.env.locals) (hg:Gl X x) (hm:X.mg x=some (.ref Dc))
  (hb:∀ (pn:List (Addr×Obj)) (E1:Value→Shared→Prop) (Eb:XK),Passes (CXE X.prog X.w) (X.pinned pn E1) Eb→PSs (X.pinned pn E1) body (tb Eb)) (hh:∀ e,PSs (X.hand e) (b₀::suite) th) (hdb:(x==("__debug__":Str))=false:=by decide):
  PS X (.Try body [.ExceptHandler (some (.Name x np)) (some n) (b₀::suite) hpos] [] [] pos) (fun D σ H=>tb (tHand X.K Dc i th D) D σ H):=by
 intro pins s σ H D I h
 refine wpAny_Try_except ?_
 refine wpAny_mono (hb (X.pn++pins) (fun ev s₁=>wpAny (model X.prog X.w) X.A (noteFrame ev X.env) (fun _ s₂=>wpAny (model X.prog X.w) X.A (setFlight ev none) (fun _ s₃=>wpAny (model X.prog X.w) X.A (handleBy ev X.env [.ExceptHandler (some (.Name x np)) (some n) (b₀::suite) hpos]) (SP X pins D) X.xe s₃) X.xe s₂) X.xe s₁)
  (tHand X.K Dc i th D) ?_ [] s σ H D (I.pn1 _) h) (fun f s1 hs=>?_) fun _ _ z=>z
 rotate_left
 ·cases f with
  | next=>exact wpAny_execs_nil (SP.unpinned hs)
  | brk=>exact SP.unpinned hs
  | cont=>exact SP.unpinned hs
  | ret u=>exact SP.unpinned hs
 intro pins' σ' H1 s1 ev s' I1 hx
 obtain ⟨e,C,t,H',B,c,rfl,x0,c2,q⟩:=hx
 have I1:Inv X pins σ' H1 s1:=I1.unpn1
 obtain ⟨C',hC',hcm,q⟩:=q
 cases hC'
 have fr:∀ b∈frs X.stack,H1 b=none:=fun b hb=>I1.stkFree b hb
 have fls:=x0.fl
 have ef:(X.pinned (X.pn++pins) (fun ev s₁=>wpAny (model X.prog X.w) X.A (noteFrame ev X.env) (fun _ s₂=>wpAny (model X.prog X.w) X.A (setFlight ev none) (fun _ s₃=>wpAny (model X.prog X.w) X.A (handleBy ev X.env [.ExceptHandler (some (.Name x np)) (some n) (b₀::suite) hpos]) (SP X pins D) X.xe s₃) X.xe s₂) X.xe s₁)).stack=X.stack:=rfl
 rw [ef] at x0 fls
 rw [hstk] at fls
 show wpAny (model X.prog X.w) X.A (noteFrame (.ref e) X.env) _ _ s'
 refine wpAny_looks_onW (outer:=X.outer) (L:=X.env.locals) (by rw [←hstk];exact I1.ok.frames) hfr fls fun h4 held up4=>?_
 refine wpAny_landsW held fun h5 fl5 up5=>?_
 have x5:=x0.move fr (by rw [hstk];exact fl5) (up4.trans up5)
 have J5:=I1.exc x5
 have XI:X.K.In h5:=J5.kIn
 obtain ⟨ob,hob,hoc⟩:=fl5.there
 have LT:PySem.W.Looks (model X.prog X.w) h5 (typeOf (.ref e)) (.ref C):=hoc▸(PySem.W.Looks.ld hob).andThen .now
 have LM:PySem.W.Looks (model X.prog X.w) h5 (excMatches (.ref e) (.ref Dc)) true:=PySem.W.exm_one XI LT hcm
 refine wpAny_handleBy_cons (codeAny_handlers_test ?_) (by intro z;cases z)
 refine ld_glob (X:=X.hand e) (J5.hand e) hg hm ?_ hdb
 refine LM.here ?_
 refine codeAny_handlers_suite_as ?_
 refine lands_againW fl5 fun h6 fl6 up6=>?_
 have x6:=x5.move fr (by rw [hstk];exact fl6) up6
 have J6:Inv X pins σ' H' { s' with heap:=h6 }:=I1.exc x6
 obtain ⟨oe,vs,he,hec,hed,_⟩:=fl6.first
 have new1:s1.heap.get? e=none:=x0.new
 have J7:Inv X pins σ' (upd H' e (excO e C)) { s' with heap:=h6 }:=by
  refine J6.track x6.free ?_ ?_ ?_ ?_ ?_
  ·cases q0:X.s₀.heap.get? e with
   | none=>rfl
   | some o=>
    obtain ⟨o',q1⟩:=I1.base.there e o q0 (by rw [hex];exact fun z=>nomatch z)
    rw [new1] at q1;cases q1
  ·rintro rfl
   obtain ⟨m,⟨o,_,_,ho,_⟩,_⟩:=I1.loc
   rw [new1] at ho;cases ho
  ·rintro y c q1 rfl
   obtain ⟨v,o,ho,_⟩:=I1.cell y c q1
   rw [new1] at ho;cases ho
  ·rintro p hp rfl
   have:=(I1.pin p hp).1
   rw [new1] at this;cases this
  ·exact ⟨⟨oe,he,hec,vs,hed⟩,⟨oe,he⟩,fun h1 h2 ⟨o1,a1,a2⟩ k=>⟨o1,k _ a1,a2⟩⟩
 refine store_ok (X:=X.hand e) (v:=.ref e) (J7.hand e) hN hi (.inl hk) rfl (fun s8 J8=>?_) (.inr hk)
 refine wpAny_mono (hh e pins s8 _ _ _ J8 (q e σ' x6.free (by rw [I1.len];exact (List.getElem?_eq_some_iff.mp hi).1))) (fun f s9 hs=>?_) fun _ _ z=>False.elim z
 have fin:∀ (σ9:St) (H9:Hp),Inv (X.hand e) pins σ9 H9 s9→∀ (Q:Unit→Shared→Prop),(∀ s10,Inv X pins (σ9.set i none) H9 s10→Q () s10)→wpAny (model X.prog X.w) X.A (do bindName X.env n .none;unbindBehindTheSuite X.env n hpos) Q X.xe s9:=fun σ9 H9 J9 Q hQ=>by
  have J9:Inv X pins σ9 H9 s9:=J9.unhand I.ok.hd
  obtain ⟨m,hn,_⟩:=id J9.loc
  refine wpAny_nameGoes_keeps hk hn (by rw [J9.ok.kind];rfl) fun h' v hn' hs'=>hQ _ (J9.forget hN hi hk hn hn' hs')
 cases f with
 | next=>
  obtain ⟨σ9,H9,J9,q9⟩:=hs
  exact fin σ9 H9 J9 _ fun s10 J10=>⟨_,_,J10,q9⟩
 | brk=>
  obtain ⟨σ9,H9,J9,q9⟩:=hs
  exact fin σ9 H9 J9 _ fun s10 J10=>⟨_,_,J10,q9⟩
 | cont=>
  obtain ⟨σ9,H9,J9,q9⟩:=hs
  exact fin σ9 H9 J9 _ fun s10 J10=>⟨_,_,J10,q9⟩
 | ret u=>
  obtain ⟨v,σ9,H9,J9,r9,q9⟩:=hs
  exact fin σ9 H9 J9 _ fun s10 J10=>⟨v,_,_,J10,r9,q9⟩
end
end L2
namespace L2
open PySem PySem.Spec PyProof.Rows
structure ExcC (K:PySem.W.Frag) (C:Addr):Prop where
 exc:PySem.W.excIn K C bmV "ValueError.__new__"=true
 ga:PySem.W.findIn K (.ref C) "__getattribute__"=some (some (.builtin "BaseException.__getattribute__"))
 gn:PySem.W.findIn K (.ref C) "__getattr__"=some none
 gc:PySem.W.findIn K (.ref C) "__class__"=some (some (.builtin "object.__class__"))
 sb:PySem.W.subIn K (.ref C) (.type "BaseException")=some true
 so:PySem.W.subIn K (.ref C) (.type "object")=some true
 cl:∃ cd,PySem.W.clsIn K C=some cd
section
variable {prog:Program} {w:World} {A:Around} {E:Value→Shared→Prop} {h:Heap} {g:Array GenState} {d:Drawn} {t:Nat} {os:OsState} {a C:Addr} {o:Obj} {K:PySem.W.Frag}
theorem class_get_exc {R:Result→Shared→Prop} (X:K.In h) (Z:ExcC K C) (hx:h.get? a=some o) (hc:o.cls=.ref C) (hq:R (.ok (.ret (.ref C))) ⟨h,g,d,t,os⟩):
  codeAny (model prog w) A (.call (.builtin "getset_descriptor.__get__") ⟨[.builtin "object.__class__",.ref a,.ref C],[]⟩) R ⟨h,g,d,t,os⟩:=by
 have hT5:(⟨h,g,d,t,os⟩:Shared).TypeIs (.builtin "object.__class__") "getset_descriptor":=F.typeOf_object_class
 have Ls:PySem.W.Looks (model prog w) h (isSubtype (.ref C) (.type (".".intercalate ("object.__class__".cutAt '.').dropLast))) true:=by
  rw [F.owner_object_class];exact PySem.W.looks_subIn X Z.so
 refine codeAny_call_builtin F.slot_gs_get.plain F.entry_gs_get (F.slot_gs_get.check _ _ _ _ _ _ _ _ hT5 (F.args_gs_get _ _ _) ?_)
 repeat (any_goals (first | assumption | (with_reducible refine wpAny_loadPart_at hx ?_;rw [hc]) | (with_reducible refine PySem.W.Looks.at Ls ?_) | wp_step))
 refine ⟨Code.quiet_builtin _ (by decide +kernel),codeAny_builtin F.entry_object_class ?_⟩
 repeat (any_goals (first | assumption | (with_reducible refine wpAny_loadPart_at hx ?_;rw [hc]) | wp_step))
theorem class_entry_exc {tk:Tok} {Q:Fin→Shared→Prop} (X:K.In h) (Z:ExcC K C) (hx:h.get? a=some o) (hc:o.cls=.ref C) (hq:Q (.done (.ret (.ref C))) ⟨h,g,d,t,os⟩):
  wpAny (model prog w) A (Builtin.«object.__getattribute__» ⟨[.ref a,.str "__class__" tk],[]⟩) Q E ⟨h,g,d,t,os⟩:=by
 have hT5:(⟨h,g,d,t,os⟩:Shared).TypeIs (.builtin "object.__class__") "getset_descriptor":=F.typeOf_object_class
 have f5:=F.typeOf_object_class
 have f6:=F.slot_gs_get.lookup
 have f7:=F.slot_gs_set.lookup
 have Lc:PySem.W.Looks (model prog w) h (typeLookup (.ref C) "__class__") (some (.builtin "object.__class__")):=PySem.W.looks_findIn X Z.gc
 repeat (any_goals (first | assumption | (with_reducible refine wpAny_loadPart_at hx ?_;rw [hc]) | (with_reducible refine PySem.W.Looks.at Lc ?_) | wp_step))
 refine class_get_exc X Z hx hc ?_
 repeat (any_goals (first | assumption | wp_step))
theorem check_ga_exc {M:Model} {nameV:Value} {Q:Unit→Shared→Prop} (X:K.In h) (Z:ExcC K C) (hx:h.get? a=some o) (hc:o.cls=.ref C) (hq:Q () ⟨h,g,d,t,os⟩):
  wpAny M A (checkBuiltinCall "BaseException.__getattribute__" ⟨[.ref a,nameV],[]⟩) Q E ⟨h,g,d,t,os⟩:=by
 have hk:builtinKind "BaseException.__getattribute__"=some .slot:=by decide +kernel
 have hsplit:splitId "BaseException.__getattribute__"=some ("BaseException","__getattribute__"):=by decide +kernel
 have ha:=F.args_bexc_ga (.ref a) nameV
 have Ls:PySem.W.Looks M h (isSubtype (.ref C) (.type "BaseException")) true:=PySem.W.looks_subIn X Z.sb
 simp only [checkBuiltinCall,hk,hsplit]
 refine wpAny_bind ?_
 unfold isInstance
 repeat (first | (with_reducible refine wpAny_loadPart_at hx ?_;rw [hc]) | (with_reducible refine PySem.W.Looks.at Ls ?_) | wp_step)
 exact hq
theorem class_call_exc {tk:Tok} {R:Result→Shared→Prop} (X:K.In h) (Z:ExcC K C) (hx:h.get? a=some o) (hc:o.cls=.ref C) (hq:R (.ok (.ret (.ref C))) ⟨h,g,d,t,os⟩):
  codeAny (model prog w) A (.call (.builtin "BaseException.__getattribute__") ⟨[.ref a,.str "__class__" tk],[]⟩) R ⟨h,g,d,t,os⟩:=
 codeAny_call_builtin PySem.F.excAttr_ValueError.ga.plain F.entry_bexc_ga (check_ga_exc X Z hx hc (class_entry_exc X Z hx hc hq))
theorem class_by_exc {tk:Tok} {Q:Value→Shared→Prop} (X:K.In h) (Z:ExcC K C) (hx:h.get? a=some o) (hc:o.cls=.ref C) (hq:Q (.ref C) ⟨h,g,d,t,os⟩):
  wpAny (model prog w) A (getAttrBy (.ref a) (.str "__class__" tk) false) Q E ⟨h,g,d,t,os⟩:=by
 have f3:=PySem.F.excAttr_ValueError.ga.bind (.ref a)
 have hx2:(Value.builtin "BaseException.__getattribute__"==Value.builtin "object.__getattribute__")=false:=by decide +kernel
 have L1:PySem.W.Looks (model prog w) h (typeLookup (.ref C) "__getattribute__") (some (.builtin "BaseException.__getattribute__")):=PySem.W.looks_findIn X Z.ga
 have L2:PySem.W.Looks (model prog w) h (typeLookup (.ref C) "__getattr__") none:=PySem.W.looks_findIn X Z.gn
 have hx1:(onTheHeap (Value.ref C)&&Value.builtin "BaseException.__getattribute__"==Value.builtin "object.__getattribute__")=false:=by rw [hx2];rfl
 repeat (any_goals (first | assumption | (with_reducible refine wpAny_loadPart_at hx ?_;rw [hc]) | (with_reducible refine PySem.W.Looks.at L1 ?_) | (with_reducible refine PySem.W.Looks.at L2 ?_) | wp_step))
 refine class_call_exc X Z hx hc ?_
 repeat (any_goals (first | assumption | wp_step))
theorem class_attr_exc {Q:Option Value→Shared→Prop} (X:K.In h) (Z:ExcC K C) (hx:h.get? a=some o) (hc:o.cls=.ref C) (hq:Q (some (.ref C)) ⟨h,g,d,t + 1,os⟩):
  wpAny (model prog w) A (getAttr? (.ref a) "__class__") Q E ⟨h,g,d,t,os⟩:=by
 unfold getAttr? getAttrBy?
 repeat (any_goals (first | assumption | with_reducible apply class_by_exc X Z hx hc | wp_step))
end
end L2
namespace L2
open PySem PySem.Spec PyProof.Rows
theorem kitx_exc {K:PySem.W.Frag} {e C:Addr} (Z:ExcC K C):PySem.W.KitX K (.ref e) (.ref C) (fun h=>∃ ob,h.get? e=some ob∧ob.cls=.ref C) where
 ty:=fun _ h _ ⟨ob,h1,h2⟩=>h2▸(PySem.W.Looks.ld h1).andThen .now
 it:=fun _ _ X _=>by
  obtain ⟨_,z⟩:=Z.cl
  unfold PySem.W.clsIn at z
  split at z
  ·rename_i c' d' cd' sl' ho
   intro A' Q' E' s' k q
   unfold isType loadHead
   exact wpAny_bind (wpAny_loadPart (k _ _ (X _ _ ho)) (wpAny_pure q))
  ·cases z
 ne:=fun h tp dd its n sl X htp=>by
  refine Bool.eq_false_iff.mpr fun q=>?_
  have e:C=tp:=Value.ref.inj (beq_iff_eq.mp q)
  subst e
  obtain ⟨_,z⟩:=Z.cl
  unfold PySem.W.clsIn at z
  split at z
  ·rename_i c' d' cd' sl' ho
   have z:=(X _ _ ho).symm.trans htp
   cases z
  ·cases z
 ca:=fun {_ _ _ _ _ s} X p k=>by
  obtain ⟨hh,g,d,t,os⟩:=s
  obtain ⟨ob,h1,h2⟩:=p
  exact class_attr_exc X Z h1 h2 k
theorem bt_ValueError:bootBuiltins "ValueError"=some (.type "ValueError"):=by decide +kernel
section
variable {X:Cx}
noncomputable def rIsX (K:PySem.W.Frag):List V→Hp→VK→Prop:=fun xs H Q=>∃ e C b,H e=some (excO e C)∧ExcC K C∧((∃ D,xs=[.ref e,.ref D]∧PySem.W.kitOne K (.ref C) (.ref D)=some b)∨∃ T,xs=[.ref e,.ty T]∧PySem.W.kitOne K (.ref C) (.type T)=some b)∧Q (.bl b) H
theorem call_isX:CallR X (.builtin "isinstance") (rIsX X.K):=by
 intro pins s σ H xs us Q I r h
 obtain ⟨e,C,b,he,Z,hk,q⟩:=h
 have ho:=I.hok e _ he
 obtain ⟨⟨ob,h1,h2,_⟩,_⟩:=ho
 rcases hk with ⟨D,rfl,hk⟩ | ⟨T,rfl,hk⟩
 ·obtain ⟨u,v,rfl,rx,ry⟩:=Vals.two r
  cases (show u=Value.ref e from rx)
  cases (show v=Value.ref D from ry)
  exact PySem.W.kia_one (kitx_exc Z) I.kIn ⟨ob,h1,h2⟩ hk (fun z=>nomatch z) fun tk=>⟨.bl _,H,I.tok tk,rfl,q⟩
 ·obtain ⟨u,v,rfl,rx,ry⟩:=Vals.two r
  cases (show u=Value.ref e from rx)
  cases (show v=Value.type T from ry)
  exact PySem.W.kia_one (kitx_exc Z) I.kIn ⟨ob,h1,h2⟩ hk (fun z=>nomatch z) fun tk=>⟨.bl _,H,I.tok tk,rfl,q⟩
theorem k_isX (K:PySem.W.Frag) (h:X.K=K:=by rfl):CallR X (.builtin "isinstance") (rIsX K):=h▸call_isX
theorem vals_bl:∀ {bs:List Bool} {us:List Value},Vals (bs.map V.bl) us→us=bs.map Value.bool
 | [],_,.nil=>rfl
 | b::bs,_,.cons r t=>by
  cases (show _=Value.bool b from r)
  rw [vals_bl t]
  rfl
noncomputable def isB (b:Bool):Value→Bool
 | .bool a=>a==b
 | _=>false
noncomputable def rCountB:V→List V→Hp→VK→Prop:=fun x vs H Q=>∃ (l:Addr) (bs:List Bool) (b:Bool),x=.ref l∧vs=[.bl b]∧H l=some (.lst (bs.map V.bl))∧Q (.int (bs.countP (· ==b):Nat)) H
theorem mt_countB:MtM X "list.count" rCountB:=by
 intro pins s σ H x vs v us Q I rx rv h
 obtain ⟨l,bs,b,rfl,rfl,hH,q⟩:=h
 cases (show v=Value.ref l from rx)
 obtain ⟨u,rfl,ru⟩:=rv.one
 cases (show u=Value.bool b from ru)
 obtain ⟨z,its,n,r,hl,e⟩:=I.lstM hH
 obtain rfl:=vals_bl r
 refine call_meets F.slot_list_count ⟨_,e,rfl⟩ F.entry_list_count (F.args_list_count_2 _ _) (SeqAt.list_countAt l _ n none #[] (.bool b) (isB b)) ⟨e,fun y hy=>?_,?_⟩
 ·have hy':y∈bs.map Value.bool:=by simpa using hy
  obtain ⟨a,_,rfl⟩:=List.mem_map.mp hy'
  exact SeqAt.EqAt.bool_bool a b
 ·refine ⟨.int _,H,I.tok _,⟨_,rfl⟩,?_⟩
  have:List.countP (isB b) (List.map Value.bool bs).toArray.toList=bs.countP (· ==b):=by
   rw [List.toList_toArray,List.countP_map]
   rfl
  rw [this]
  exact q
noncomputable def rIndexB:V→List V→Hp→VK→Prop:=fun x vs H Q=>∃ (l:Addr) (bs:List Bool) (b:Bool) (j:Nat),x=.ref l∧vs=[.bl b]∧H l=some (.lst (bs.map V.bl))∧bs[j]? =some b∧(∀ m,m < j→bs[m]? ≠some b)∧Q (.int (j:Nat)) H
theorem mt_indexB:MtM X "list.index" rIndexB:=by
 intro pins s σ H x vs v us Q I rx rv h
 obtain ⟨l,bs,b,j,rfl,rfl,hH,hj,hno,q⟩:=h
 cases (show v=Value.ref l from rx)
 obtain ⟨u,rfl,ru⟩:=rv.one
 cases (show u=Value.bool b from ru)
 obtain ⟨z,its,n,r,hl,e⟩:=I.lstM hH
 obtain rfl:=vals_bl r
 obtain ⟨hlt,hb⟩:=List.getElem?_eq_some_iff.mp hj
 have zz:(bs.map V.bl).length≤sizeLine:=by simpa using z
 rw [List.length_map] at zz
 have hsm:(j:Int) < 2 ^ 63 - 1:=by
  have:sizeLine < 2 ^ 62:=by decide
  lia
 refine call_meets F.slot_list_index ⟨_,e,rfl⟩ F.entry_list_index (F.args_list_index_2 _ _) (SeqAt.list_indexAt l _ n none #[] (.bool b) (isB b) j (by simpa using hlt) hsm (by simp [isB,hb]) (fun m hm hmj=>?_)) ⟨e,fun y hy=>?_,?_⟩
 ·have hm':m < bs.length:=by simpa using hm
  have:=hno m hmj
  rw [List.getElem?_eq_getElem hm'] at this
  have hne:bs[m]≠b:=fun z=>this (by rw [z])
  simp [isB,hne]
 ·have hy':y∈bs.map Value.bool:=by simpa using hy
  obtain ⟨a,_,rfl⟩:=List.mem_map.mp hy'
  exact SeqAt.EqAt.bool_bool a b
 ·exact ⟨.int _,H,I.tok _,⟨_,rfl⟩,q⟩
end
theorem kit_no {K:PySem.W.Frag} {C D:Addr} {cd:ClassData} (h0:(Value.ref C==Value.ref D)=false) (h1:PySem.W.clsIn K D=some cd) (h2:PySem.W.typeIn K (.ref D)=some (.type "type")) (h3:PySem.W.subIn K (.ref C) (.ref D)=some false):PySem.W.kitOne K (.ref C) (.ref D)=some false:=by
 unfold PySem.W.kitOne PySem.W.kitCls
 rw [if_neg (by rw [h0];exact Bool.false_ne_true)]
 dsimp only
 rw [h1,h2]
 exact (if_pos rfl).trans h3
theorem kit_yes {K:PySem.W.Frag} {C:Addr}:PySem.W.kitOne K (.ref C) (.ref C)=some true:=by
 unfold PySem.W.kitOne
 rw [if_pos (by simp)]
theorem kit_val {K:PySem.W.Frag} {C:Addr} (h3:PySem.W.subIn K (.ref C) (.type "ValueError")=some true):PySem.W.kitOne K (.ref C) (.type "ValueError")=some true:=by
 unfold PySem.W.kitOne PySem.W.kitCls
 rw [if_neg (by simp)]
 exact (if_pos (by decide +kernel)).trans h3
theorem exm_of {K:PySem.W.Frag} {C D:Addr} {cd:ClassData} (h0:PySem.W.subIn K (.ref D) (.type "BaseException")=some true) (h1:PySem.W.clsIn K D=some cd) (h2:PySem.W.typeIn K (.ref D)=some (.type "type")) (h3:PySem.W.subIn K (.ref C) (.ref D)=some true):PySem.W.exmOne K (.ref C) (.ref D)=some true:=by
 unfold PySem.W.exmOne PySem.W.kitCls
 rw [h0,if_pos (by rfl)]
 dsimp only
 rw [h1,h2]
 exact (if_pos rfl).trans h3
structure RoomH (k:Nat) (A:Around):Prop where
 dp:A.depth + 3 * k + 5 < recursionLimit
 un:A.units + 16 * k + 200 < cLine
theorem Room.mark {k:Nat} {A:Around} (r:Room k A) (v:Option Value):RoomH k (A.mark v):=⟨r.dp,r.un⟩
theorem RoomH.mono {j k:Nat} {A:Around} (r:RoomH k A) (h:j≤k):RoomH j A:=⟨by have:=r.dp;lia,by have:=r.un;lia⟩
theorem RoomH.deeper {k:Nat} {A:Around} (r:RoomH (k + 1) A) (env:Env):RoomH k (A.deeper env):=⟨by have:=r.dp;show A.depth + 1 + 3 * k + 5 < _;lia,by have:=r.un;show A.units + 3 + 16 * k + 200 < _;lia⟩
theorem RoomH.units {k:Nat} {A:Around} (r:RoomH k A):A.units + 64 < cLine:=by have:=r.un;lia
theorem RoomH.units0 {k:Nat} {A:Around} (r:RoomH k A):A.units < cLine:=by have:=r.un;lia
structure FnOkH (P:Program) (w:World) (K:PySem.W.Frag) (mg:Str→Option Value) (base:Heap) (k:Nat) (f:Addr) (fd:FuncData) (ps:List Str) (sp:Sp):Prop where
 len:∀ vs H Q E,sp vs H Q E→vs.length=ps.length
 run:∀ (A:Around) (outer:List Env) (s:Shared) (H:Hp) (args:Args) (us:List Value) (vs:List V) (Q:VK),RoomH k A→Env0 P w K mg base A outer s H→BindsTo s fd args (ps.zip us)→Vals vs us→sp vs H Q E0→
  codeAny (model P w) A (.call (.ref f) args) (CR CX0 outer P w H s Q E0) s
noncomputable abbrev cxH (P:Program) (w:World) (K:PySem.W.Frag) (mg:Str→Option Value) (base:Heap) (N:List Str) (qual:Str) (scope:Scope) (f:Addr) (cd:Value) (A:Around) (outer:List Env) (s:Shared) (H:Hp):Cx:=
 { cxOf CX0 P w K mg base N qual scope f cd A outer s H E0 with calm:=false,xe:=fun _ _=>False }
section
variable {P:Program} {w:World} {K:PySem.W.Frag} {mg:Str→Option Value} {base:Heap}
theorem Fun.okH {x qual:Str} {st:Stmt} {f:Addr} {fd:FuncData} {N ps:List Str} {k:Nat} {sp:Sp} (F:Fun K x qual st f fd) (S:FnScope N ps (defScope st)) (len:∀ vs H Q E,sp vs H Q E→vs.length=ps.length)
  (hbody:∀ (cdv:Value) (A:Around) (outer:List Env) (s:Shared) (H:Hp) (vs:List V) (Q:VK),RoomH k (A.deeper (envOfC qual (defScope st) s.heap.objs.size f cdv))→sp vs H Q E0→
   ∃ t,PSs (cxH P w K mg base N qual (defScope st) f cdv A outer s H) (defBody st) t∧t { nx:=fun _ H'=>Q .non H',rt:=Q } (start N vs) H):FnOkH P w K mg base (k + 1) f fd ps sp:=by
 obtain ⟨oc,od,kV,doc,pm,an,cdv,ct,osl,rfl,lk,hcd⟩:=F.ex
 refine ⟨len,fun A outer s H args us vs Q hr e0 hb r hsp=>?_⟩
 have hl:=len _ _ _ _ hsp
 have KX:K.In s.heap:=e0.mod.kin.keeps fun b o e=>(e0.bs b o e).1
 have lim:s.heap.NoLimit:=e0.mod.nolimit.keeps fun b o e=>(e0.bs b o e).1
 have hkind:∀ y∈ps.zip us,(defScope st).names.lookup y.1=some .local∨((defScope st).names.lookup y.1=some .cell∧((cellsFrom (s.heap.objs.size + 1) (defScope st).names []).lookup y.1).isSome=true):=fun ⟨n,v⟩ hy=>by
  rcases S.par n (List.of_mem_zip hy).1 with q | q
  ·exact .inl q
  ·exact .inr ⟨q,PySem.W.cellsFrom_some _ _ _ (.inl q)⟩
 refine codeAny_call_function (by have:=hr.dp;lia) (KX _ _ lk) rfl S.co S.gen rfl (PySem.W.codeRec_of KX hcd) (hb _ _ _ _ ?_)
 refine wpAny_newFunctionEnv_cells S.kind hkind fun env he s1 x=>?_
 subst he
 refine ⟨lim.keeps x.toInCall.keep,codeAny_func ?_⟩
 obtain ⟨t,ht,hq⟩:=hbody cdv A outer s H vs Q (hr.deeper _) hsp
 have e0':Env0 P w K mg base { A with handled:=none } outer s H:=⟨e0.frames,e0.mod,e0.bs,e0.bsz,e0.funs,e0.frf,e0.hok,e0.bare⟩
 have I0:Inv (cxOf CX0 P w K mg base N qual (defScope st) f cdv { A with handled:=none } outer s H E0) [] (start N vs) H s1:=inv_start S rfl e0' hl r x
 have I:Inv (cxH P w K mg base N qual (defScope st) f cdv A outer s H) [] (start N vs) H s1:=
  ⟨⟨I0.ok.mod,I0.ok.kind,I0.ok.glob,I0.ok.blt,I0.ok.above,I0.ok.inj,I0.ok.has,I0.ok.cab,(fun z=>absurd z Bool.false_ne_true),Around.frames_deeper e0.frames,I0.ok.stk,I0.ok.exf,I0.ok.bs,I0.ok.bsz,I0.ok.noex,I0.ok.exfs,I0.ok.funs,I0.ok.frf⟩,I0.os,I0.bare,I0.base,I0.loc,I0.cell,I0.free,I0.freeC,I0.pin,I0.hok,I0.len⟩
 refine wpAny_mono (ht [] s1 (start N vs) H _ I hq) (fun fl s' hs=>?_) fun e s' hs=>False.elim hs
 have fin:∀ {σ':St} {H':Hp} {v:V} {u:Value},Inv (cxH P w K mg base N qual (defScope st) f cdv A outer s H) [] σ' H' s'→RelV v u→Q v H'→CE outer P w H s Q u s':=
  fun {σ' H' v u} J rv q=>⟨v,H',J.os,J.bare,J.base,J.hok,rv,q⟩
 cases fl with
 | ret u=>
  obtain ⟨v,σ',H',J,rv,q⟩:=hs
  exact fin J rv q
 | next=>
  obtain ⟨σ',H',J,q⟩:=hs
  exact fin (v:=V.non) (u:=Value.none) J rfl q
 | brk=>
  obtain ⟨_,_,_,q⟩:=hs
  exact False.elim q
 | cont=>
  obtain ⟨_,_,_,q⟩:=hs
  exact False.elim q
end
section
variable {X:Cx} {k:Nat} {f:Addr} {fd:FuncData} {ps:List Str} {sp:Sp} {x:Str} {p pos:Pos} {e:Expr} {es:List Expr} {t:TA}
theorem pe_callH (F:FnOkH X.prog X.w X.K X.mg X.base k f fd ps sp) (hr:RoomH k X.A) (hg:Gl X x) (hm:X.mg x=some (.ref f)) (hk:PySem.W.keepIn X.K (.ref f)=true) (hb:Binds X.K fd ps [])
  (ha:PA X (e::es) t) (hdb:(x==("__debug__":Str))=false:=by decide) (he:starEach (e::es) X.env=(false,eval e X.env)::starEach es X.env:=by rfl) (hpl:(backTo pos (starEach es X.env)).any (·.1)=false:=by rfl):
  PE X (.Call (.Name x p) (e::es) [] pos) (tCall sp [] E0 t):=by
 intro pins s σ H Q I h
 refine wpAny_Call_Name_kw (ld_glob I hg hm ?_ hdb)
 refine PySem.W.callWith_K (h₀:=X.base) I.ok.mod.kin hk (thn (ha pos pins s σ H _ I h) fun us s1 ⟨vs,H1,I1,r,q⟩=>⟨I1.kIn,?_⟩) he hpl
 have q':sp vs H1 Q E0:=by simpa using q
 have hl:us.length=ps.length:=by rw [←r.length];exact F.len _ _ _ _ q'
 have hb':=hb s1 us I1.kIn (by simpa using hl)
 rw [List.append_nil] at hb'
 refine wpAny_call (codeAny_mono (F.run X.A X.stack s1 H1 ⟨us,[]⟩ us vs Q hr I1.env0 hb' r q') fun r s' hq=>?_)
 cases r with
 | error e=>exact hq.elim
 | ok fl=>
  cases fl with
  | ret u=>exact I1.after hq
  | next=>exact False.elim hq
  | brk=>exact False.elim hq
  | cont=>exact False.elim hq
end
section
variable {σ:St} {H:Hp} {Q:VK} {D:Ends} {K:PySem.W.Frag}
theorem rd_isXo {e C D:Addr} {b:Bool} (he:H e=some (excO e C)) (Z:ExcC K C) (hk:PySem.W.kitOne K (.ref C) (.ref D)=some b) (h:Q (.bl b) H):rIsX K [.ref e,.ref D] H Q:=⟨e,C,b,he,Z,.inl ⟨D,rfl,hk⟩,h⟩
theorem rd_isXt {e C:Addr} {T:String} {b:Bool} (he:H e=some (excO e C)) (Z:ExcC K C) (hk:PySem.W.kitOne K (.ref C) (.type T)=some b) (h:Q (.bl b) H):rIsX K [.ref e,.ty T] H Q:=⟨e,C,b,he,Z,.inr ⟨T,rfl,hk⟩,h⟩
theorem rd_countB {l:Addr} {bs:List Bool} {b:Bool} (hl:H l=some (.lst (bs.map V.bl))) (h:Q (.int (bs.countP (· ==b):Nat)) H):rCountB (.ref l) [.bl b] H Q:=⟨l,bs,b,rfl,rfl,hl,h⟩
theorem rd_indexB {l:Addr} {bs:List Bool} {b:Bool} {j:Nat} (hl:H l=some (.lst (bs.map V.bl))) (hj:bs[j]? =some b) (hno:∀ m,m < j→bs[m]? ≠some b) (h:Q (.int (j:Nat)) H):rIndexB (.ref l) [.bl b] H Q:=⟨l,bs,b,j,rfl,rfl,hl,hj,hno,h⟩
theorem rd_raise {E:XK} {C:Addr} {t:TA} (h:t σ H fun vs H1=>vs.length≤sizeLine∧E (.ref C) none H1):tRaise E C t D σ H:=h
end
end L2
namespace L2
open PySem PySem.Spec PyProof.Rows
section
variable {P:Program} {w:World} {A:Around} {E:Value→Shared→Prop}
end
section
variable {X:Cx}
end
section
variable {K:PySem.W.Frag} {σ:St} {H:Hp}
end
end L2
namespace L2
open PySem PySem.Spec PyProof.Rows
section
variable {P:Program} {w:World} {A:Around} {E:Value→Shared→Prop} {s:Shared}
end
section
variable {X:Cx}
end
section
variable {K:PySem.W.Frag} {σ:St} {H:Hp} {Q:VK}
end
end L2
namespace L2
open PySem PyProof.Rows
noncomputable def RcLt (A:Around) (s:Shared) (u v:Value) (r:Bool):Prop:=∀ (prog:Program) (w:World) (E Q:Value→Shared→Prop),Q (.bool r) s→wpAny (model prog w) A (richCompare .Lt u v) Q E s
inductive LtAt (A:Around) (s:Shared):List Value→List Value→Bool→Prop
 | nn:LtAt A s [] [] false
 | nc {v vs}:LtAt A s [] (v::vs) true
 | cn {u us}:LtAt A s (u::us) [] false
 | eq {u v us vs r}:SeqAt.EqAt A s u v true→LtAt A s us vs r→LtAt A s (u::us) (v::vs) r
 | ne {u v us vs r}:SeqAt.EqAt A s u v false→RcLt A s u v r→LtAt A s (u::us) (v::vs) r
section
open PySem.SeqAt
open PySem.AutoSeq1 (wpAny_loadPart')
open PySem.MeetsSeq PySem.MeetsSeq2 PySem.MeetsSeq3
end
end L2
namespace L2
open PySem PySem.Spec PyProof.Rows
noncomputable abbrev Cx.in1 (X:Cx):Cx:={ X with A:=X.A.in1 }
section
variable {X:Cx} {pins:List (Addr×Obj)} {σ:St} {H:Hp} {s:Shared}
theorem Cx.Ok.in1 (ok:X.Ok):X.in1.Ok:=⟨ok.mod,ok.kind,ok.glob,ok.blt,ok.above,ok.inj,ok.has,ok.cab,ok.hd,ok.frames,ok.stk,ok.exf,ok.bs,ok.bsz,ok.noex,ok.exfs,ok.funs,ok.frf⟩
theorem Inv.in1 (I:Inv X pins σ H s):Inv X.in1 pins σ H s:=⟨I.ok.in1,I.os,I.bare,I.base,I.loc,I.cell,I.free,I.freeC,I.pin,I.hok,I.len⟩
end
section
variable {X:Cx} {pins:List (Addr×Obj)} {σ:St} {H:Hp} {s:Shared} {qual:Str} {sc:Scope} {M:List Str} {q:Addr} {cd:Value}
end
end L2
namespace L2
open PySem PySem.Spec PyProof.Rows
structure TabB (base:Heap) (mg:Str→Option Value) (c P:Addr):Prop where
 hd:PySem.W.CodeHd base c P
 bl:base.BuiltinsAt mg P
section
variable {X:Cx} {pins:List (Addr×Obj)} {σ:St} {H:Hp} {s:Shared}
end
end L2
namespace L2
open PySem PySem.Spec PyProof.Rows
structure Ow (X:Cx) (pins:List (Addr×Obj)) (a:Addr):Prop where
 loc:a≠X.env.locals
 fs:a∉X.fs
 new:a∈X.ex∨X.s₀.heap.objs.size≤a
 cel:∀ x c,X.env.cells.lookup x=some c→c≠a
 pin:∀ p∈X.pn++pins,p.1≠a
section
variable {X:Cx} {pins p1 p2:List (Addr×Obj)} {σ:St} {H:Hp} {s:Shared}
structure MinW (K:PySem.W.Frag) (σ:St) (l:Addr) (xs:List V) (lt:R2) (te:TE) (f:V→St) (G:Hp→Prop) (W:Nat→Nat→V→Hp→Prop) (Q:VK):Prop where
 lst:∀ j b k H,W j b k H→H l=some (.lst xs)∧G H
 turn:∀ j b k H x,W j b k H→xs[j]? =some x→te (f x) H fun k' H'=>lt k' k H' fun z H''=>∃ c,z=.bl c∧if c=true then W (j + 1) j k' H'' else W (j + 1) b k H''
 fin:∀ b k H x,W xs.length b k H→xs[b]? =some x→Q x H
end
end L2
namespace L2
open PySem PySem.Spec PyProof.Rows
structure TabK (K:PySem.W.Frag) (base:Heap) (mg:Str→Option Value) (x:Str) (c P:Addr):Prop where
 kin:K.In base
 ns:base.Ns mainGlobals mg
 tab:PySem.W.tabIn K x=some (c,P)
 b:TabB base mg c P
end L2
namespace L2
open PySem PySem.Spec PyProof.Rows
section
variable {X:Cx} {pins:List (Addr×Obj)} {σ:St} {H:Hp} {s:Shared}
end
end L2
namespace L2
open PySem PySem.Spec PyProof.Rows
section
open PySem.AutoSeq1 (wpAny_loadPart')
variable {prog:Program} {w:World} {A:Around} {E:Value→Shared→Prop} {s:Shared}
theorem nextOf_tuple_item {it l:Addr} {i:Nat} {items} {x:Value} {Q:Value→Shared→Prop} (hit:s.heap.IsTupleIter it l i)
  (hl:s.heap.IsTuple l items) (hx:items[i]? =some x)
  (hQ:∀ h',h'.IsTupleIter it l (i + 1)→Heap.SameBut it s.heap h'→Q x { s with heap:=h' }):
  wpAny (model prog w) A (Builtin.SmallTypes.nextOf (.ref it)) Q E s:=by
 obtain ⟨o,ho,hc,hd⟩:=id hit
 obtain ⟨ol,hol,_,nl,hdl⟩:=hl
 unfold Builtin.SmallTypes.nextOf
 refine wpAny_bind (wpAny_callSpecial?_slot (name:=Str.ofString "__next__") hit.typeIs F.slot_tuple_iterator_next
  (wpAny_call_entry F.slot_tuple_iterator_next hit.typeIs F.entry_tuple_iterator_next ?_ (F.args_tuple_iterator_next_1 _)))
 show wpAny _ _ (field (.ref it) 0 >>=_) _ _ s
 refine wpAny_bind (wpAny_field ho hd (x:=.ref l) rfl ?_)
 show wpAny _ _ (if (Value.ref l==Value.none)=true then _ else _) _ _ s
 rw [if_neg (show ¬((Value.ref l==Value.none)=true) from Bool.false_ne_true)]
 show wpAny _ _ (field (.ref it) 1 >>=_) _ _ s
 refine wpAny_bind (wpAny_field ho hd (x:=.int i 0) rfl ?_)
 show wpAny _ _ (seqItems? (.ref l) >>=_) _ _ s
 refine wpAny_bind (wpAny_seqItems hol hdl ?_)
 simp only [Int.toNat_natCast,hx]
 refine wpAny_bind (wpAny_setField ho hd (by simp) (wpAny_pure ⟨x,rfl,wpAny_pure (hQ _ ?_ (Heap.SameBut.update ..))⟩))
 exact ⟨_,Heap.get?_update_self _ ho (Obj.isFreed_of_fields (Obj.data_mapFields hd _)),(Obj.cls_mapFields ..).trans hc,by
  rw [Obj.data_mapFields hd];simp [rawInt]⟩
theorem nextOf_tuple_end {it l:Addr} {i:Nat} {items} {Q:Value→Shared→Prop} (hh:A.handled=none)
  (hit:s.heap.IsTupleIter it l i) (hl:s.heap.IsTuple l items) (hx:items[i]? =none)
  (hE:∀ h' e,Heap.ExtBut it s.heap h'→(∃ o,h'.get? e=some o∧o.cls=.type "StopIteration")→E (.ref e) { s with heap:=h' }):
  wpAny (model prog w) A (Builtin.SmallTypes.nextOf (.ref it)) Q E s:=by
 obtain ⟨o,ho,hc,hd⟩:=id hit
 obtain ⟨ol,hol,_,nl,hdl⟩:=hl
 unfold Builtin.SmallTypes.nextOf
 refine wpAny_bind (wpAny_callSpecial?_slot (name:=Str.ofString "__next__") hit.typeIs F.slot_tuple_iterator_next
  (wpAny_call_entry F.slot_tuple_iterator_next hit.typeIs F.entry_tuple_iterator_next ?_ (F.args_tuple_iterator_next_1 _)))
 show wpAny _ _ (field (.ref it) 0 >>=_) _ _ s
 refine wpAny_bind (wpAny_field ho hd (x:=.ref l) rfl ?_)
 show wpAny _ _ (if (Value.ref l==Value.none)=true then _ else _) _ _ s
 rw [if_neg (show ¬((Value.ref l==Value.none)=true) from Bool.false_ne_true)]
 show wpAny _ _ (field (.ref it) 1 >>=_) _ _ s
 refine wpAny_bind (wpAny_field ho hd (x:=.int i 0) rfl ?_)
 show wpAny _ _ (seqItems? (.ref l) >>=_) _ _ s
 refine wpAny_bind (wpAny_seqItems hol hdl ?_)
 simp only [Int.toNat_natCast,hx]
 refine wpAny_bind (wpAny_rule (wpAny_bind (wpAny_setField ho hd (by simp) ?_)))
 show wpAny _ _ (newExc (.type "StopIteration") [] >>=_) _ _ _
 refine wpAny_bind ?_
 simp only [newExc,newTuple]
 refine wpAny_bind (wpAny_newObj_type ?_ (by size_fits))
 refine wpAny_bind (m:=firstArgMember _ _) (wpAny_of_eq (a:=Value.none) (by first | rfl | (simp only [firstArgMember];rfl)) ?_)
 refine wpAny_newObj_type ?_ (by size_fits)
 simp only [raiseNew]
 refine wpAny_bind (wpAny_handled ?_)
 first | rw [show A.in1.handled=none from hh] | rw [hh]
 refine wpAny_bind (wpAny_pure (wpAny_throw ?_))
 exact hE _ _ (((Heap.SameBut.update ..).extBut.push _).push _) ⟨_,Heap.get?_push_size _ rfl,rfl⟩
theorem draws_tuple (hh:A.handled=none) (it l:Addr) (hne:l≠it) (items:Array Value):
  Draws prog w A it [it,l] items.size (fun i v=>items[i]? =some v) (fun i h=>h.IsTupleIter it l i∧h.IsTuple l items) where
 live:=fun _ _ st=>let ⟨o,ho,_⟩:=st.1;⟨o,ho⟩
 frame:=fun _ _ _ st hk=>⟨st.1.at fun o e=>hk it (by simp) o e,st.2.at fun o e=>hk l (by simp) o e⟩
 item:=fun i s Q E hi st hQ=>by
  refine nextOf_tuple_item st.1 st.2 (x:=items[i]) (by simp [hi]) fun h' hit' hs'=>?_
  exact hQ _ h' s.toks (by simp [hi]) ⟨hit',st.2.extBut hs'.extBut hne⟩ hs'
 done:=fun s Q E st hE=>nextOf_tuple_end hh st.1 st.2 (by simp) hE
theorem meets_enumerate_newT (l:Addr) (items:Array Value) (n:Nat) (dct:Option Addr) (sl:Array (Option Value)):
  Meets (Builtin.«enumerate.__new__» ⟨[.type "enumerate",.ref l],[]⟩) (fun _ R s=>s.heap.get? l=some { cls:=.type "tuple",dict:=dct,data:=.seq items n,slots:=sl }∧
   R (.ok (.ret (.ref (s.heap.push { cls:=.type "tuple_iterator",data:=.fields #[.ref l,.int 0 0] }).objs.size)))
    { s with heap:=(s.heap.push { cls:=.type "tuple_iterator",data:=.fields #[.ref l,.int 0 0] }).push { cls:=.type "enumerate",data:=.fields #[.none,.bool false,.ref s.heap.objs.size,rawInt 0,.none,.none] } }):=
 .of_wp fun prog w A R s h=>by
  obtain ⟨hp,g,d,tk,os⟩:=s;obtain ⟨hl,h⟩:=h
  have hsub:=sub_enumerate
  have hL:Heap.IsTuple (Shared.heap ⟨hp,g,d,tk,os⟩) l items:=⟨_,hl,rfl,n,rfl⟩
  wp_walk using wpAny_loadPart' hl
  refine wpAny_stack_any fun st=>wpAny_pure ?_
  split
  ·rename_i c _ _ _ _ _
   cases (c==Value.type "enumerate")
   ·wp_walk using wpAny_loadPart' hl,wpAny_pyIter_tuple hL
    exact ⟨_,rfl,h⟩
   ·wp_walk using wpAny_loadPart' hl,wpAny_pyIter_tuple hL
    exact ⟨_,rfl,h⟩
  ·wp_walk using wpAny_loadPart' hl,wpAny_pyIter_tuple hL
   exact ⟨_,rfl,h⟩
theorem call_enumerate_tup {l:Addr} {items:Array Value} {Q:Value→Shared→Prop} (hL:s.heap.IsTuple l items)
  (h:∀ h',IsEnum h' (s.heap.objs.size + 1) s.heap.objs.size 0 .none→h'.IsTupleIter s.heap.objs.size l 0→h'.objs.size=s.heap.objs.size + 2→
   (∀ b o,s.heap.get? b=some o→h'.get? b=some o)→Q (.ref (s.heap.objs.size + 1)) { s with heap:=h' }):
  wpAny (model prog w) A (call (.type "enumerate") [.ref l]) Q E s:=by
 obtain ⟨⟨c,dct,dt,sl⟩,hl,hc,n,hd⟩:=hL
 replace hc:c=.type "tuple":=hc
 replace hd:dt=.seq items n:=hd
 subst hc hd
 refine callType_new F.called_enumerate (by decide) (F.typeCall_enumerate_1 _) (F.newCall_enumerate_1 _) (fun obj=>F.args_object_init_2 obj _) F.entry_enumerate_new
  (meets_enumerate_newT l items n dct sl) ⟨hl,?_⟩
 have hz:(s.heap.push { cls:=.type "tuple_iterator",data:=.fields #[.ref l,.int 0 0] }).objs.size=s.heap.objs.size + 1:=Heap.size_push ..
 show _∧_
 rw [hz]
 have he:IsEnum ((s.heap.push { cls:=.type "tuple_iterator",data:=.fields #[.ref l,.int 0 0] }).push
   { cls:=.type "enumerate",data:=.fields #[.none,.bool false,.ref s.heap.objs.size,rawInt 0,.none,.none] }) (s.heap.objs.size + 1) s.heap.objs.size 0 .none:=by
  have:=Heap.get?_push_size (s.heap.push { cls:=.type "tuple_iterator",data:=.fields #[.ref l,.int 0 0] })
   (o:={ cls:=.type "enumerate",data:=.fields #[.none,.bool false,.ref s.heap.objs.size,rawInt 0,.none,.none] }) rfl
  rw [hz] at this;exact this
 refine ⟨⟨_,he,rfl⟩,h _ he ⟨_,Heap.get?_push_of_some _ (Heap.get?_push_size _ rfl),rfl,rfl⟩ (by rw [Heap.size_push,hz]) fun b o x=>Heap.get?_push_of_some _ (Heap.get?_push_of_some _ x)⟩
end
theorem enum_endT {prog:Program} {w:World} {A:Around} {E:Value→Shared→Prop} {s:Shared} {e it l:Addr} {j:Int} {i:Nat} {items:Array Value} {old:Value} {Q:Option Value→Shared→Prop} (hh:A.handled=none)
  (he:IsEnum s.heap e it j old) (hit:s.heap.IsTupleIter it l i) (hl:s.heap.IsTuple l items) (hx:items[i]? =none)
  (hQ:∀ h',Heap.ExtBut it s.heap h'→Q none { s with heap:=h' }):wpAny (model prog w) A (pyNext (.ref e)) Q E s:=by
 have hT:s.TypeIs (.ref e) "enumerate":=⟨_,he,rfl⟩
 unfold pyNext
 refine wpAny_bind (wpAny_attempt (wpAny_callSpecial?_slot (name:=Str.ofString "__next__") hT F.slot_enumerate_next
  (wpAny_call_entry F.slot_enumerate_next hT F.entry_enumerate_next ?_ (F.args_enumerate_next_1 _))))
 show wpAny _ _ (field (.ref e) 2 >>=_) _ _ _
 refine wpAny_bind (wpAny_field he rfl (x:=.ref it) rfl ?_)
 refine wpAny_bind (nextOf_tuple_end hh hit hl hx fun h' x he' hx'=>?_)
 obtain ⟨o,ho,hc⟩:=hx'
 refine wpAny_bind (wpAny_isInstance (T:="StopIteration") (b:=true) ⟨o,ho,hc⟩ isSubtype_stop ?_)
 exact wpAny_pure (hQ _ he')
noncomputable def Ite (K:PySem.W.Frag) (a:Addr):It:=
 ⟨fun i H=>∃ xs x,SqT K H a xs∧xs[i]? =some x,fun i H x H'=>∃ T y,x=.ref T∧H T=none∧(∀ xs,SqT K H a xs→xs[i]? =some y)∧H'=upd H T (.tup [.int i,y]),fun i H=>∃ xs,SqT K H a xs∧xs.length≤i⟩
theorem turn_enum {P:Program} {w:World} {K:PySem.W.Frag} {elts:List Expr} {k:Nat} {pos:Pos} (a e it:Addr) (hei:e≠it):Turn P w K (.Tuple elts k pos) (Ite K a) [e,it] e (fun i h=>(∃ old,IsEnum h e it i old)∧h.IsTupleIter it a i) where
 mem:=by simp
 obj:=fun i h st b hb=>by
  obtain ⟨⟨old,he⟩,o,eo,c,d⟩:=st
  rcases List.mem_cons.mp hb with rfl | hb
  ·exact ⟨_,he,fun v z=>by cases z⟩
  ·rw [List.mem_singleton.mp hb]
   exact ⟨o,eo,fun v z=>by rw [d] at z;cases z⟩
 keep:=fun i h h' st kk=>⟨let ⟨old,he⟩:=st.1;⟨old,kk e (by simp) _ he⟩,st.2.at fun o x=>kk it (by simp) o x⟩
 item:=by
  intro X hP hw hK hc i pins s σ H E I hf st hg
  subst hP hw hK
  obtain ⟨xs,x,hq,hx⟩:=hg
  obtain ⟨its,rv,p,hz⟩:=I.tuple hq
  obtain ⟨u,hu,ru⟩:=rv.get hx
  obtain ⟨f0,f1,f2,f3,f4,f5⟩:=hf e (by simp)
  obtain ⟨g0,g1,g2,g3,g4,g5⟩:=hf it (by simp)
  have nea:∀ b,H b=none→(∃ o,s.heap.get? b=some o∧o.cls≠.type "tuple")→a≠b:=fun b hn ⟨o,eo,co⟩ z=>by
   obtain ⟨o2,e2,c2,_⟩:=p
   rw [z,eo] at e2;cases e2;exact co c2
  have hae:a≠e:=nea e f0 (let ⟨old,he⟩:=st.1;⟨_,he,fun z=>by simp at z⟩)
  have hai:a≠it:=nea it g0 (let ⟨o,eo,c,d⟩:=st.2;⟨o,eo,fun z=>by rw [c] at z;simp at z⟩)
  have W:=WalksT.enumerateD (draws_tuple (prog:=X.prog) (w:=X.w) (A:=X.A.in1) (I.ok.hd hc) it a hai its.toArray) e hei (by simp [hei,Ne.symm hae]) (by simp)
  have hi:i < its.toArray.size:=by
   rw [List.size_toArray,←rv.length]
   exact (List.getElem?_eq_some_iff.mp hx).1
  obtain ⟨⟨old,he⟩,hit⟩:=st
  have D:=draws_tuple (prog:=X.prog) (w:=X.w) (A:=X.A.in1) (I.ok.hd hc) it a hai its.toArray
  have helt:e < s.heap.objs.size:=Heap.lt_size he
  have hilt:it < s.heap.objs.size:=by obtain ⟨_,y,_⟩:=hit;exact Heap.lt_size y
  refine wpAny_pyNext_enum_itemD D he ⟨hit,p⟩ hi hei (by simp [hei,Ne.symm hae]) fun u' h' t hu' ho hs' hT0 hsz hk0=>?_
  have hT:s.heap.objs.size≤s.heap.objs.size:=Nat.le_refl _
  have eu:u'=u:=by
   have:its[i]? =some u':=by simpa using hu'
   rw [hu] at this;cases this;rfl
  subst eu
  have hM:=(⟨⟨_,ho⟩,hs',Nat.ne_of_gt helt,Nat.ne_of_gt hilt⟩:(∃ x,IsEnumOut h' e it ((i:Int) + 1) x s.heap.objs.size)∧(h'.IsTupleIter it a (i + 1)∧h'.IsTuple a its.toArray)∧s.heap.objs.size≠e∧s.heap.objs.size≠it)
  have hk:∀ b o,b∉[e,it]→s.heap.get? b=some o→h'.get? b=some o:=fun b o hb y=>hk0 b o (fun e'=>hb (by simp [e'])) (fun e'=>hb (by simp [e'])) y
  generalize hTT:s.heap.objs.size=T at *
  refine ⟨_,rfl,W.go elts k pos i T _ _ _ hM fun h2 st2 hk2=>?_⟩
  have keep:∀ b o,b≠e→b≠it→s.heap.get? b=some o→h2.get? b=some o:=fun b o h1 h3 eo=>hk2 b o (by simp [h1,h3]) (hk b o (by simp [h1,h3]) eo)
  have hTn:T∉[e,it]:=W.apart i T h' hM
  have hTe:T≠e:=fun z=>hTn (by simp [z])
  have hTi:T≠it:=fun z=>hTn (by simp [z])
  have eT2:=hk2 T _ hTn hT0
  have hTH:H T=none:=I.hok.fresh (Nat.le_of_eq hTT)
  have J:Inv X pins σ (upd H T (.tup [.int i,x])) { s with heap:=h2,toks:=t + 1 }:=by
   refine I.step (g':=s.gens) (d':=s.drawn) (ch:=[e,it]) (fun b hb=>?_) (fun b o _ _ hc eo _=>keep b o (fun z=>hc (by simp [z])) (fun z=>hc (by simp [z])) eo) (fun b o _ _ hc eo _=>⟨o.slots,keep b o (fun z=>hc (by simp [z])) (fun z=>hc (by simp [z])) eo⟩) (fun b o _ eo n=>?_)
    (fun b o hc eo=>⟨o,keep b o (fun z=>hc (by simp [z])) (fun z=>hc (by simp [z])) eo⟩) (fun b xs q=>?_) (fun b o u q=>?_) (fun b ps q=>?_) (fun m hm=>?_) (fun b u q=>?_) I.bare
   ·rcases List.mem_cons.mp hb with rfl | hb
    ·exact ⟨f3,f1,f4,f5⟩
    ·rw [List.mem_singleton.mp hb]
     exact ⟨g3,g1,g4,g5⟩
   ·rw [upd_ne (Nat.ne_of_lt (hTT▸Heap.lt_size eo))];exact n
   ·rw [upd_ne (ne_of_none q hTH)];exact q
   ·rw [upd_ne (ne_of_none q hTH)];exact q
   ·exact ⟨#[],by rw [upd_ne (ne_of_none q hTH),q];simp⟩
   ·obtain ⟨o,es,ep,eo,r⟩:=hm
    exact ⟨o,es,ep,keep _ o (Ne.symm f1) (Ne.symm g1) eo,r⟩
   ·by_cases hb:b=T
    ·subst hb
     rw [upd_same] at q
     cases q
     exact ⟨by show 2≤sizeLine;decide,[.int i t,u'],.cons ⟨t,rfl⟩ (.cons ru .nil),⟨_,eT2,rfl,_,rfl⟩,_,eT2,rfl⟩
    ·rw [upd_ne hb] at q
     refine (I.hok b u q).stay (fun c v hc' r=>keep c v (fun z=>?_) (fun z=>?_) r) (fun c r=>by rw [upd_ne (ne_of_none r hTH)];exact r) fun c xs r=>by rw [upd_ne (ne_of_none r hTH)];exact r
     ·subst z
      rcases hc' with rfl | hc'
      ·rw [f0] at q;cases q
      ·rw [f0] at hc';cases hc'
     ·subst z
      rcases hc' with rfl | hc'
      ·rw [g0] at q;cases q
      ·rw [g0] at hc';cases hc'
  refine ⟨.ref T,_,J,rfl,⟨T,x,rfl,hTH,fun ys hy=>by rw [I.tuple_inj hy hq];exact hx,rfl⟩,⟨st2.1,st2.2.1⟩,fun b hb=>?_⟩
  rcases List.mem_cons.mp hb with rfl | hb
  ·rw [upd_ne (Ne.symm hTe)];exact f0
  ·rw [List.mem_singleton.mp hb,upd_ne (Ne.symm hTi)];exact g0
 done:=by
  intro X hP hw hK hc i pins s σ H E I hf st hg
  subst hP hw hK
  obtain ⟨xs,hq,hx⟩:=hg
  obtain ⟨its,rv,p,hz⟩:=I.tuple hq
  obtain ⟨g0,g1,g2,g3,g4,g5⟩:=hf it (by simp)
  have hl:=rv.length
  obtain ⟨⟨old,he⟩,hit⟩:=st
  refine enum_endT (I.ok.hd hc) he hit p (by simp;lia) fun h' eb=>⟨rfl,I.turned (t':=s.toks) (fun b o hb e=>eb b o hb e) g0 g1 g3 g4 g5⟩
 self:=fun A i s Q E st h=>by
  obtain ⟨⟨old,he⟩,_⟩:=st
  exact wpAny_pyIter_enum he h
noncomputable def iEnum (K:PySem.W.Frag) (ta:TA):TI:=fun σ H R=>ta σ H fun vs H1=>∃ a,vs=[.ref a]∧(∃ xs,SqT K H1 a xs)∧R (Ite K a) H1
theorem pi_enum {X:Cx} {elts:List Expr} {k:Nat} {tp:Pos} {a:Expr} {ta:TA} {p pos:Pos} (hg:Gl X "enumerate") (hm:X.mg "enumerate"=none) (ha:PA X [a] ta) (hs:starEach [a] X.env=[(false,eval a X.env)]:=by rfl):
  PI X (.Tuple elts k tp) (.Call (.Name "enumerate" p) [a] [] pos) (iEnum X.K ta):=by
 intro pins s σ H R I h
 refine Call_ (ld_blt I hg hm bt_enumerate (PyProof.Rows.callWith_type1 (thn (ha pos pins s σ H _ I h) fun us s1 ⟨vs,H1,I1,r1,q1⟩=>?_) hs rfl))
 obtain ⟨b,e,⟨xs,hq⟩,q⟩:=q1
 subst e
 obtain ⟨u,rfl,rx⟩:=Vals.one r1
 obtain rfl:u=Value.ref b:=rx
 obtain ⟨its,rv,pl,hz⟩:=I1.tuple hq
 refine call_enumerate_tup pl fun h' he hit hsz hk=>?_
 refine wpAny_pyIter_enum he ?_
 have I2:Inv X pins σ H1 { s1 with heap:=h',toks:=s1.toks }:=I1.kept hk
 refine ⟨s1.heap.objs.size + 1,[s1.heap.objs.size + 1,s1.heap.objs.size],_,_,H1,rfl,I2,turn_enum b _ _ (Nat.succ_ne_self _),⟨⟨_,he⟩,hit⟩,fun c hb=>?_,q⟩
 rcases List.mem_cons.mp hb with rfl | hb
 ·exact I1.fpOk (by lia) (I1.hok.fresh (by lia))
 ·rw [List.mem_singleton.mp hb]
  exact I1.fpOk (Nat.le_refl _) (I1.hok.fresh (Nat.le_refl _))
section
variable {H:Hp} {K:PySem.W.Frag}
theorem k_penum (K:PySem.W.Frag) {X:Cx} {elts:List Expr} {k:Nat} {tp:Pos} {a:Expr} {ta:TA} {p pos:Pos} (hg:Gl X "enumerate") (hm:X.mg "enumerate"=none) (ha:PA X [a] ta) (hs:starEach [a] X.env=[(false,eval a X.env)]:=by rfl) (h:X.K=K:=by rfl):
  PI X (.Tuple elts k tp) (.Call (.Name "enumerate" p) [a] [] pos) (iEnum K ta):=h▸pi_enum hg hm ha hs
theorem rd_enum {σ:St} {ta:TA} {R:It→Hp→Prop} (h:ta σ H fun vs H1=>∃ a,vs=[.ref a]∧(∃ xs,SqT K H1 a xs)∧R (Ite K a) H1):iEnum K ta σ H R:=h
theorem fp_enum {σ:St} {a:Addr} {xs:List V} {G:St→Hp→Prop} {B:(St→Hp→Prop)→V→St→Hp→Prop} (Pv:Nat→St→Hp→Prop) (h0:Pv 0 σ H) (hl:∀ i σ H,i≤xs.length→Pv i σ H→SqT K H a xs)
  (hs:∀ i x σ H T,xs[i]? =some x→Pv i σ H→H T=none→B (Pv (i + 1)) (.ref T) σ (upd H T (.tup [.int i,x]))) (hd:∀ σ H,Pv xs.length σ H→G σ H):
  ∃ W:Nat→Nat→St→Hp→Prop,(∃ m,W 0 m σ H)∧∀ i m σ H,W i m σ H→((Ite K a).stop i H∧G σ H)∨((Ite K a).go i H∧
   ∃ N:St→Hp→Prop,(∀ σ' H',N σ' H'→∃ m',m' < m∧W (i + 1) m' σ' H')∧∀ x H',(Ite K a).yld i H x H'→B N x σ H'):=by
 refine ⟨fun i m σ H=>m=xs.length - i∧i≤xs.length∧Pv i σ H,⟨xs.length,by simp,Nat.zero_le _,h0⟩,?_⟩
 rintro i m σ H ⟨rfl,hi,p⟩
 have q:=hl i σ H hi p
 by_cases hlt:i < xs.length
 ·refine .inr ⟨⟨xs,xs[i],q,by simp [hlt]⟩,Pv (i + 1),fun σ' H' p'=>⟨xs.length - (i + 1),by lia,rfl,hlt,p'⟩,fun x H' y=>?_⟩
  obtain ⟨T,z,e,hT,hz,e2⟩:=y
  subst e e2
  exact hs i z σ _ T (hz xs q) p hT
 ·have e:i=xs.length:=by lia
  subst e
  exact .inl ⟨⟨xs,q,Nat.le_refl _⟩,hd σ H p⟩
end
end L2
namespace L2
open PySem PySem.Spec PyProof.Rows
section
open PySem.F
variable {prog:Program} {w:World} {A:Around} {E:Value→Shared→Prop} {s:Shared}
end
section
variable {X:Cx}
end
end L2
namespace L2
open PySem PySem.Spec PyProof.Rows
structure ZipD (z TI TO i1 i2:Addr):Prop where
 TIz:TI≠z
 TOz:TO≠z
 i1z:i1≠z
 i2z:i2≠z
 TITO:TI≠TO
 TIi1:TI≠i1
 TIi2:TI≠i2
 TOi1:TO≠i1
 TOi2:TO≠i2
 i12:i1≠i2
theorem nea {a b:Nat} (h:¬a=b):@Ne Addr a b:=h
section
variable {H:Hp} {K:PySem.W.Frag}
end
end L2
namespace L2
open PySem PySem.Spec PyProof.Rows
section
variable {X:Cx}
end
end L2
namespace L2
open PySem PySem.Spec PyProof.Rows
noncomputable def Fresh (H H':Hp) (v:V) (d:PyData):Prop:=∀ H2:Hp,(∀ a u,H a=none→H' a=some u→H2 a=some u)→Is H2 v d
inductive FreshAll (H H':Hp):List V→List PyData→Prop
 | nil:FreshAll H H' [] []
 | cons {v:V} {d:PyData} {vs:List V} {ds:List PyData}:Fresh H H' v d→FreshAll H H' vs ds→FreshAll H H' (v::vs) (d::ds)
theorem Fresh.mono {H H1 H2 H3:Hp} {v:V} {d:PyData} (s1:Same H H1) (s2:Same H2 H3) (h:Fresh H1 H2 v d):Fresh H H3 v d:=fun K k=>h K fun a u n e=>k a u (by
 cases q:H a with
 | none=>rfl
 | some w=>rw [s1 _ _ q] at n;cases n) (s2 _ _ e)
theorem FreshAll.mono {H H1 H2 H3:Hp} (s1:Same H H1) (s2:Same H2 H3):∀ {vs:List V} {ds:List PyData},FreshAll H1 H2 vs ds→FreshAll H H3 vs ds
 | _,_,.nil=>.nil
 | _,_,.cons h t=>.cons (h.mono s1 s2) (t.mono s1 s2)
theorem FreshAll.length {H H':Hp}:∀ {vs:List V} {ds:List PyData},FreshAll H H' vs ds→vs.length=ds.length
 | _,_,.nil=>rfl
 | _,_,.cons _ t=>by rw [List.length_cons,List.length_cons,t.length]
theorem FreshAll.is {H H' H2:Hp} (k:∀ a u,H a=none→H' a=some u→H2 a=some u):∀ {vs:List V} {ds:List PyData},FreshAll H H' vs ds→IsAll H2 vs ds
 | _,_,.nil=>.nil
 | _,_,.cons h t=>.cons (h H2 k) (t.is k)
theorem FreshAll.mem {H H':Hp}:∀ {vs:List V} {ds:List PyData} {v:V},FreshAll H H' vs ds→v∈vs→∃ d∈ds,Fresh H H' v d
 | _,_,_,.nil,h=>nomatch h
 | _,_,_,.cons h t,hv=>by
  rcases List.mem_cons.mp hv with rfl | hv
  ·exact ⟨_,List.mem_cons_self,h⟩
  ·obtain ⟨d,hd,f⟩:=t.mem hv
   exact ⟨d,List.mem_cons_of_mem _ hd,f⟩
section
variable {X:Cx} {e:Expr} {es:List Expr} {pos:Pos} {d:PyData} {ds:List PyData}
theorem PE.imp {t t':TE} (h:PE X e t) (k:∀ σ H Q,t' σ H Q→t σ H Q):PE X e t':=fun pins s σ H Q I q=>h pins s σ H Q I (k σ H Q q)
theorem PA.imp {t t':TA} (h:PA X es t) (k:∀ σ H Q,t' σ H Q→t σ H Q):PA X es t':=fun pos pins s σ H Q I q=>h pos pins s σ H Q I (k σ H Q q)
end
inductive CallL (X:Cx) (E:XK):List (Addr×Sp)→Prop
 | nil:CallL X E []
 | cons {CX:CXT} {k:Nat} {f:Addr} {fd:FuncData} {ps:List Str} {sp:Sp} {l:List (Addr×Sp)} (F:FnOk X.prog X.w X.K X.mg X.base CX k f fd ps sp) (hr:Room k X.A) (hk:PySem.W.keepIn X.K (.ref f)=true) (hb:Binds X.K fd ps []) (hx:Passes CX X E) (r:CallL X E l):CallL X E ((f,sp)::l)
theorem CallL.get {X:Cx} {E:XK}:∀ {l:List (Addr×Sp)} {i:Nat} {f:Addr} {sp:Sp},CallL X E l→l[i]? =some (f,sp)→∃ (CX:CXT) (k:Nat) (fd:FuncData) (ps:List Str),FnOk X.prog X.w X.K X.mg X.base CX k f fd ps sp∧Room k X.A∧PySem.W.keepIn X.K (.ref f)=true∧Binds X.K fd ps []∧Passes CX X E
 | _,_,_,_,.nil,e=>by simp at e
 | _,0,_,_,.cons F hr hk hb hx r,e=>by simp at e;obtain ⟨rfl,rfl⟩:=e;exact ⟨_,_,_,_,F,hr,hk,hb,hx⟩
 | _,i + 1,_,_,.cons F hr hk hb hx r,e=>r.get (i:=i) (by simpa using e)
end L2
namespace L2
open PySem PySem.Spec PyProof.Rows
section
variable {prog:Program} {w:World} {A:Around} {E:Value→Shared→Prop} {s:Shared}
end
section
variable {X:Cx}
noncomputable def upTo (n:Nat):List Int:=(List.range n).map fun (i:Nat)=>(i:Int)
theorem upTo_len (n:Nat):(upTo n).length=n:=by unfold upTo;simp
end
end L2
namespace L2
open PySem PySem.Spec PyProof.Rows
open AutoSeq1 (wpAny_loadPart')
section
variable {prog:Program} {w:World} {A:Around} {E:Value→Shared→Prop} {s:Shared}
end
section
variable {X:Cx}
end
section
variable {σ:St} {H:Hp} {Q:VK} {K:PySem.W.Frag}
end
end L2
namespace L2
open PySem PySem.Spec PyProof.Rows
section
variable {K:PySem.W.Frag} {σ:St} {H:Hp} {Q:VK}
theorem rd_sl {r:V→Option Int→Option Int→Hp→VK→Prop} {te:TE} {tl th:TO} (h:te σ H fun x H1=>tl σ H1 fun l H2=>th σ H2 fun u H3=>r x l u H3 Q):tSl r te tl th σ H Q:=h
theorem rd_noP {P:Option Int→Hp→Prop} (h:P none H):tNoPart σ H P:=h
theorem rd_part {te:TE} {P:Option Int→Hp→Prop} (h:te σ H fun x H1=>∃ i,x=.int i∧P (some i) H1):tPart te σ H P:=h
theorem FreshAll.append {H H':Hp}:∀ {vs:List V} {ds:List PyData} {ws:List V} {es:List PyData},FreshAll H H' vs ds→FreshAll H H' ws es→FreshAll H H' (vs++ws) (ds++es)
 | _,_,_,_,.nil,h=>h
 | _,_,_,_,.cons a t,h=>.cons a (t.append h)
end
inductive Lit:List Expr→List PyData→Prop
 | nil:Lit [] []
 | int {i:Int} {j p es ds}:Lit es ds→Lit (.Constant (.int i) j p::es) (.int i::ds)
 | bl {b:Bool} {j p es ds}:Lit es ds→Lit (.Constant (.bool b) j p::es) (.bool b::ds)
 | non {j p es ds}:Lit es ds→Lit (.Constant .none j p::es) (.none::ds)
 | str {x:Str} {j p es ds}:Lit es ds→Lit (.Constant (.str x) j p::es) (.str x::ds)
 | neg {i:Int} {j p p2 es ds}:Lit es ds→Lit (.UnaryOp .USub (.Constant (.int i) j p2) p::es) (.int (-i)::ds)
 | tup {es' ds' x p es ds}:Lit es' ds'→ds'.length≤100→Lit es ds→Lit (.Tuple es' x p::es) (.tuple ds'::ds)
 | lst {es' ds' p es ds}:Lit es' ds'→ds'.length≤100→Lit es ds→Lit (.List es' p::es) (.list ds'::ds)
end L2
namespace L2
open PySem PySem.Spec PyProof.Rows
section
variable {X:Cx}
theorem strs_of:∀ {ss:List Str} {us:List Value},Vals (ss.map V.str) us→∃ l:List (Str×Tok),us=strValues l∧l.map (·.1)=ss
 | [],_,h=>by cases h;exact ⟨[],rfl,rfl⟩
 | z::ss,_,h=>by
  cases h with
  | cons r t=>
   obtain ⟨tk,rfl⟩:=r
   obtain ⟨l,rfl,e⟩:=strs_of t
   exact ⟨(z,tk)::l,rfl,by rw [List.map_cons,e]⟩
noncomputable def rJoin (K:PySem.W.Frag):V→List V→Hp→VK→Prop:=fun x xs H Q=>∃ (z:Str) (p:Addr) (ss:List Str),x=.str z∧xs=[.ref p]∧SqL K H p (ss.map V.str)∧JoinOk z ss=true∧Q (.str (Txt.join z ss)) H
theorem mt_join:MtR X "str.join" (rJoin X.K):=by
 intro pins s σ H x xs v us Q I rx rv h
 obtain ⟨z,p,ss,rfl,rfl,hq,ok,q⟩:=h
 obtain ⟨t,rfl⟩:=rx
 obtain ⟨u,rfl,ru⟩:=rv.one
 cases (show u=Value.ref p from ru)
 obtain ⟨its,r,pl,hz⟩:=I.list hq
 obtain ⟨l,rfl,e2⟩:=strs_of r
 exact SC.join pl.isList e2 ok fun t' k=>⟨.str _,H,I.kept (t':=k) fun b o e=>e,⟨t',rfl⟩,q⟩
theorem k_join (K:PySem.W.Frag) (h:X.K=K:=by rfl):MtR X "str.join" (rJoin K):=h▸mt_join
theorem rd_join {K:PySem.W.Frag} {H:Hp} {Q:VK} {z:Str} {p:Addr} {ss:List Str} (e:H p=some (.lst (ss.map V.str))) (ok:JoinOk z ss=true) (h:Q (.str (Txt.join z ss)) H):rJoin K (.str z) [.ref p] H Q:=⟨z,p,ss,rfl,rfl,SqL.of e,ok,h⟩
theorem tyV_str {K:PySem.W.Frag} {z:Str} {H:Hp}:tyV K "str" (.str z) H:=rfl
noncomputable def rSlS:V→Option Int→Option Int→Hp→VK→Prop:=fun x lo hi H Q=>∃ z,x=.str z∧z.length≤sizeLine∧Q (.str (Txt.slice z lo hi)) H
theorem sl_str:SlR X rSlS:=by
 intro pins s σ H x v vl vu lo hi sl Q I rx hs pl pu h
 obtain ⟨z,rfl,hz,q⟩:=h
 obtain ⟨t,rfl⟩:=rx
 refine ⟨"str",_,F.slot_str_getitem.lookup,typeIs_str _ _ _,?_⟩
 have fin:∀ t' k,EP X pins σ Q (.str (Txt.slice z lo hi) t') { s with toks:=k }:=fun t' k=>⟨.str _,H,I.kept (t':=k) fun b o e=>e,⟨t',rfl⟩,q⟩
 cases pl with
 | none=>
  cases pu with
  | none=>exact wpAny_getItem_str_slice (l:=none) (u:=none) (st:=none) hs rfl (post_val_or_str ⟨Nat.le_trans (Txt.slice_le z _ _) hz,fin⟩)
  | int j u=>exact wpAny_getItem_str_slice (l:=none) (u:=some (j,u)) (st:=none) hs rfl (post_val_or_str ⟨Nat.le_trans (Txt.slice_le z _ _) hz,fin⟩)
 | int i ti=>
  cases pu with
  | none=>exact wpAny_getItem_str_slice (l:=some (i,ti)) (u:=none) (st:=none) hs rfl (post_val_or_str ⟨Nat.le_trans (Txt.slice_le z _ _) hz,fin⟩)
  | int j u=>exact wpAny_getItem_str_slice (l:=some (i,ti)) (u:=some (j,u)) (st:=none) hs rfl (post_val_or_str ⟨Nat.le_trans (Txt.slice_le z _ _) hz,fin⟩)
theorem rd_slS {H:Hp} {Q:VK} {z:Str} {lo hi:Option Int} (hz:z.length≤sizeLine) (h:Q (.str (Txt.slice z lo hi)) H):rSlS (.str z) lo hi H Q:=⟨z,rfl,hz,h⟩
inductive PJs (X:Cx):List Expr→List TE→Prop
 | nil:PJs X [] []
 | cons {e:Expr} {t:TE} {es:List Expr} {ts:List TE}:PE X e t→PJs X es ts→PJs X (e::es) (t::ts)
variable {tg:Expr}
end
section
variable {H:Hp}
end
end L2
namespace L2
open PySem
noncomputable def mkT (l:List Nat):Str:=⟨l.toArray⟩
theorem mkT_app (a b:List Nat):mkT a++mkT b=mkT (a++b):=by
 show (⟨a.toArray++b.toArray⟩:Str)=⟨(a++b).toArray⟩
 simp
theorem mkT_len (a:List Nat):(mkT a).length=a.length:=by
 show a.toArray.size=a.length
 simp
theorem mkT_inj {a b:List Nat} (h:mkT a=mkT b):a=b:=by
 have:=congrArg (fun s:Str=>s.cps.toList) h
 simpa [mkT] using this
theorem join_nil (ls:List (List Nat)):Txt.join Str.empty (ls.map mkT)=mkT ls.flatten:=by
 unfold Txt.join
 rw [StrLaws.glued_eq_join]
 induction ls with
 | nil=>rfl
 | cons a ls ih=>
  cases ls with
  | nil=>simp [Str.join,List.map]
  | cons b ls=>
   rw [List.map_cons,List.map_cons,Str.join]
   ·have e:Str.join Str.empty (mkT b::ls.map mkT)=mkT (b::ls).flatten:=ih
    rw [e]
    have z:mkT a++Str.empty=mkT a:=by
     show (⟨a.toArray++#[]⟩:Str)=⟨a.toArray⟩
     simp
    rw [z,mkT_app]
    rfl
   ·intro z
    cases z
theorem join_ok (ls:List (List Nat)) (h1:ls.length≤1000) (h2:∀ l∈ls,l.length≤100):JoinOk Str.empty (ls.map mkT)=true:=by
 unfold JoinOk
 rw [StrLaws.joinFits (B:=100)]
 ·rfl
 ·intro y hy
  obtain ⟨l,hl,rfl⟩:=List.mem_map.mp hy
  rw [mkT_len]
  exact h2 l hl
 ·rw [List.length_map]
  show ls.length * 100 + ls.length * 0≤16777216
  lia
theorem ok_txt {l:List Nat} (h:∀ c∈l,c < 200):okD (.str (mkT l)):=by
 refine ⟨?_,Nat.zero_le _⟩
 rw [PyData.canLay0]
 unfold PyData.strOk
 rw [Array.all_eq_true']
 intro c hc
 have:c∈l:=by simpa [mkT] using hc
 have:=h c this
 exact decide_eq_true (by lia)
end L2
namespace L2
open PySem PySem.Spec PyProof.Rows
noncomputable def jnC (c:Nat):List (List Nat)→List Nat
 | []=>[]
 | [a]=>a
 | a::b::r=>a++c::jnC c (b::r)
theorem mkT_list (x:Str):mkT x.cps.toList=x:=by
 obtain ⟨a⟩:=x
 simp [mkT]
theorem join_C (c:Nat) (ls:List (List Nat)):Str.join (mkT [c]) (ls.map mkT)=mkT (jnC c ls):=by
 induction ls with
 | nil=>rfl
 | cons a ls ih=>
  cases ls with
  | nil=>simp [Str.join,List.map,jnC]
  | cons b ls=>
   rw [List.map_cons,List.map_cons,Str.join]
   ·have e:Str.join (mkT [c]) (mkT b::ls.map mkT)=mkT (jnC c (b::ls)):=ih
    rw [e,mkT_app,mkT_app]
    show _=mkT (a++c::jnC c (b::ls))
    simp
   ·intro z
    cases z
theorem join_sp (c:Nat) (ls:List (List Nat)):Txt.join (mkT [c]) (ls.map mkT)=mkT (jnC c ls):=by
 unfold Txt.join
 rw [StrLaws.glued_eq_join]
 exact join_C c ls
theorem cut_eq {c:Nat}:∀ {a b r s:List Nat},c∉a→c∉b→a++c::r=b++c::s→a=b∧r=s
 | [],[],r,s,_,_,h=>by simpa using h
 | [],y::b,r,s,_,hb,h=>by
  simp at h
  exact absurd (by rw [h.1];exact .head _) hb
 | x::a,[],r,s,ha,_,h=>by
  simp at h
  exact absurd (by rw [←h.1];exact .head _) ha
 | x::a,y::b,r,s,ha,hb,h=>by
  simp only [List.cons_append,List.cons.injEq] at h
  obtain ⟨e1,e2⟩:=cut_eq (fun z=>ha (.tail _ z)) (fun z=>hb (.tail _ z)) h.2
  exact ⟨by rw [h.1,e1],e2⟩
theorem jnC_inj {c:Nat}:∀ {as bs:List (List Nat)},as≠[]→bs≠[]→(∀ a∈as,c∉a)→(∀ b∈bs,c∉b)→jnC c as=jnC c bs→as=bs
 | [],_,h,_,_,_,_=>absurd rfl h
 | _,[],_,h,_,_,_=>absurd rfl h
 | [a],[b],_,_,_,_,h=>by rw [show a=b from h]
 | [a],b::b'::r,_,_,ha,_,h=>by
  have h':a=b++c::jnC c (b'::r):=h
  exact absurd (by rw [h'];simp) (ha a (.head _))
 | a::a'::r,[b],_,_,_,hb,h=>by
  have h':a++c::jnC c (a'::r)=b:=h
  exact absurd (by rw [←h'];simp) (hb b (.head _))
 | a::a'::r,b::b'::s,_,_,ha,hb,h=>by
  have h':a++c::jnC c (a'::r)=b++c::jnC c (b'::s):=h
  obtain ⟨e1,e2⟩:=cut_eq (ha a (.head _)) (hb b (.head _)) h'
  rw [e1,jnC_inj (as:=a'::r) (bs:=b'::s) (by simp) (by simp) (fun x hx=>ha x (.tail _ hx)) (fun x hx=>hb x (.tail _ hx)) e2]
theorem split_sp {c:Nat} {ls:List (List Nat)} (h0:ls≠[]) (hf:∀ l∈ls,c∉l):Txt.split (mkT (jnC c ls)) (mkT [c])=ls.map mkT:=by
 have e1:(Txt.split (mkT (jnC c ls)) (mkT [c]))=((Txt.split (mkT (jnC c ls)) (mkT [c])).map fun x=>x.cps.toList).map mkT:=by
  rw [List.map_map]
  conv=>lhs;rw [←List.map_id (Txt.split (mkT (jnC c ls)) (mkT [c]))]
  exact List.map_congr_left fun x _=>(mkT_list x).symm
 have e2:=StrLaws.join_split (mkT (jnC c ls)) (mkT [c])
 rw [e1,join_C] at e2
 have e3:=mkT_inj e2
 have f3:∀ b∈(Txt.split (mkT (jnC c ls)) (mkT [c])).map (fun x=>x.cps.toList),c∉b:=fun b hb=>by
  obtain ⟨x,hx,rfl⟩:=List.mem_map.mp hb
  exact StrLaws.split_free (mkT (jnC c ls)) c x hx
 rw [e1]
 by_cases hz:(Txt.split (mkT (jnC c ls)) (mkT [c])).map (fun x=>x.cps.toList)=[]
 ·exfalso
  rw [hz] at e3
  have ez:jnC c ls=[]:=e3.symm
  rw [ez] at hz
  have:Txt.split (mkT []) (mkT [c])=[mkT []]:=if_pos (by rw [mkT_len,mkT_len];rfl)
  rw [this] at hz
  cases hz
 ·rw [jnC_inj hz h0 f3 hf e3]
theorem join_okC (c:Nat) (ls:List (List Nat)) (h1:ls.length≤1000) (h2:∀ l∈ls,l.length≤100):JoinOk (mkT [c]) (ls.map mkT)=true:=by
 unfold JoinOk
 rw [StrLaws.joinFits (B:=100)]
 ·rfl
 ·intro y hy
  obtain ⟨l,hl,rfl⟩:=List.mem_map.mp hy
  rw [mkT_len]
  exact h2 l hl
 ·rw [List.length_map,mkT_len]
  show ls.length * 100 + ls.length * 1≤16777216
  lia
theorem mem_jnC {c x:Nat}:∀ {ls:List (List Nat)},x∈jnC c ls→x=c∨∃ l∈ls,x∈l
 | [],h=>by cases h
 | [a],h=>.inr ⟨a,.head _,h⟩
 | a::b::r,h=>by
  have h':x∈a++c::jnC c (b::r):=h
  simp only [List.mem_append,List.mem_cons] at h'
  rcases h' with h' | h' | h'
  ·exact .inr ⟨a,.head _,h'⟩
  ·exact .inl h'
  ·rcases mem_jnC (ls:=b::r) h' with h' | ⟨l,h1,h2⟩
   ·exact .inl h'
   ·exact .inr ⟨l,.tail _ h1,h2⟩
theorem jnC_len (c:Nat) {k:Nat}:∀ {ls:List (List Nat)},(∀ l∈ls,l.length≤k)→(jnC c ls).length≤ls.length * (k + 1)
 | [],_=>Nat.zero_le _
 | [a],h=>by
  have:=h a (.head _)
  show a.length≤1 * (k + 1)
  lia
 | a::b::r,h=>by
  have h1:=h a (.head _)
  have h2:=jnC_len c (ls:=b::r) fun l hl=>h l (.tail _ hl)
  show (a++c::jnC c (b::r)).length≤(b::r).length.succ * (k + 1)
  rw [List.length_append,List.length_cons,Nat.succ_mul]
  lia
end L2
namespace L2
open PySem PySem.Spec PyProof.Rows
section
variable {κ:Type} [DecidableEq κ]
noncomputable def valV (kvs:List (κ×V)) (k:κ):Option V:=(kvs.find? fun kv=>decide (kv.1=k)).map (·.2)
noncomputable def putK (kvs:List (κ×V)) (k:κ) (v:V):List (κ×V):=
 if (kvs.any fun kv=>decide (kv.1=k))=true then kvs.map (fun kv=>if kv.1=k then (kv.1,v) else kv) else kvs++[(k,v)]
noncomputable def dropK (kvs:List (κ×V)) (k:κ):List (κ×V):=kvs.filter fun kv=>decide (kv.1≠k)
theorem valV_pos {p:κ×V} {r:List (κ×V)} {k:κ} (e:p.1=k):valV (p::r) k=some p.2:=by simp [valV,List.find?_cons,e]
theorem valV_neg {p:κ×V} {r:List (κ×V)} {k:κ} (e:¬p.1=k):valV (p::r) k=valV r k:=by simp [valV,List.find?_cons,e]
theorem RelO.getD {o:Option V} {u:Option Value} {d:V} {d':Value} (r:RelO o u) (rd:RelV d d'):RelV (o.getD d) (u.getD d'):=by
 cases o with
 | none=>cases u with
  | none=>exact rd
  | some _=>exact (show False from r).elim
 | some _=>cases u with
  | none=>exact (show False from r).elim
  | some _=>exact r
theorem KV.val {kvs:List (κ×V)} {vs:List (κ×Value)} (r:KV kvs vs) (k:κ):RelO (valV kvs k) (valueAt vs k):=by
 unfold KV at r
 induction r with
 | nil=>exact True.intro
 | @cons p q ps qs h t ih=>
  obtain ⟨h1,h2⟩:=h
  by_cases e:p.1=k
  ·have e':q.1=k:=h1.symm.trans e
   have b:valueAt (q::qs) k=some q.2:=by simp [valueAt,List.find?_cons,e']
   rw [valV_pos e,b];exact h2
  ·have e':¬q.1=k:=fun z=>e (h1.trans z)
   have b:valueAt (q::qs) k=valueAt qs k:=by simp [valueAt,List.find?_cons,e']
   rw [valV_neg e,b];exact ih
theorem KV.any {kvs:List (κ×V)} {vs:List (κ×Value)} (r:KV kvs vs) (k:κ):(kvs.any fun kv=>decide (kv.1=k))=vs.any fun kv=>decide (kv.1=k):=by
 unfold KV at r
 induction r with
 | nil=>rfl
 | cons h t ih=>rw [List.any_cons,List.any_cons,ih,h.1]
theorem KV.drop {kvs:List (κ×V)} {vs:List (κ×Value)} (r:KV kvs vs) (k:κ):KV (dropK kvs k) (without vs k):=by
 unfold KV at r ⊢
 unfold dropK without
 induction r with
 | nil=>exact .nil
 | @cons p q ps qs h t ih=>
  obtain ⟨h1,h2⟩:=h
  rw [List.filter_cons,List.filter_cons]
  by_cases e:p.1=k
  ·have a:¬decide (p.1≠k)=true:=by simp [e]
   have b:¬decide (q.1≠k)=true:=by simp [h1.symm.trans e]
   rw [if_neg a,if_neg b];exact ih
  ·have e':¬q.1=k:=fun z=>e (h1.trans z)
   have a:decide (p.1≠k)=true:=by simp [e]
   have b:decide (q.1≠k)=true:=by simp [e']
   rw [if_pos a,if_pos b];exact .cons ⟨h1,h2⟩ ih
theorem KV.length {kvs:List (κ×V)} {vs:List (κ×Value)} (r:KV kvs vs):kvs.length=vs.length:=Paired.length r
end
noncomputable abbrev KT (H:Hp):List (List Key×V)→List (List Key×Addr×Value)→Prop:=Paired fun p q=>p.1=q.1∧H q.2.1=some (.tup (p.1.map kV))∧RelV p.2 q.2.2
theorem KT.val {H:Hp} {kvs:List (List Key×V)} {xs:List (List Key×Addr×Value)} (r:KT H kvs xs) (k:List Key):RelO (valV kvs k) ((atKey xs k).map (·.2)):=by
 induction r with
 | nil=>exact True.intro
 | @cons p q ps qs h t ih=>
  obtain ⟨h1,_,h2⟩:=h
  by_cases e:p.1=k
  ·have e':q.1=k:=h1.symm.trans e
   have b:atKey (q::qs) k=some q.2:=by simp [atKey,List.find?_cons,e']
   rw [valV_pos e,b];exact h2
  ·have e':¬q.1=k:=fun z=>e (h1.trans z)
   have b:atKey (q::qs) k=atKey qs k:=by simp [atKey,List.find?_cons,e']
   rw [valV_neg e,b];exact ih
theorem KT.keeps {H H':Hp} {kvs:List (List Key×V)} {xs:List (List Key×Addr×Value)} (r:KT H kvs xs) (ht:∀ b ys,H b=some (.tup ys)→H' b=some (.tup ys)):KT H' kvs xs:=
 Paired.mapP r fun _ _ z=>⟨z.1,ht _ _ z.2.1,z.2.2⟩
section
variable {P:Program} {w:World} {H:Hp} {h:Heap} {a:Addr}
end
noncomputable def DGet (H:Hp) (a:Addr) (y:V) (r:Option V):Prop:=
 (∃ kvs k,Rd H a (.dK kvs)∧y=kV k∧r=valV kvs k)∨∃ kvs k b,Rd H a (.dT kvs)∧y=.ref b∧H b=some (.tup (k.map kV))∧r=valV kvs k
noncomputable def DPut (H:Hp) (a:Addr) (y v:V) (H':Hp):Prop:=
 (∃ kvs k,H a=some (.dK kvs)∧y=kV k∧kvs.length < sizeLine∧H'=upd H a (.dK (putK kvs k v)))∨
 ∃ kvs k b,H a=some (.dT kvs)∧y=.ref b∧H b=some (.tup (k.map kV))∧kvs.length < sizeLine∧H'=upd H a (.dT (putK kvs k v))
theorem DGet.t {H:Hp} {a b:Addr} {kvs:List (List Key×V)} {k:List Key} (e:H a=some (.dT kvs)) (eb:H b=some (.tup (k.map kV))):DGet H a (.ref b) (valV kvs k):=.inr ⟨kvs,k,b,.inl e,rfl,eb,rfl⟩
theorem DPut.t {H:Hp} {a b:Addr} {kvs:List (List Key×V)} {k:List Key} {v:V} (e:H a=some (.dT kvs)) (eb:H b=some (.tup (k.map kV))) (hl:kvs.length < sizeLine):
  DPut H a (.ref b) v (upd H a (.dT (putK kvs k v))):=.inr ⟨kvs,k,b,e,rfl,eb,hl,rfl⟩
section
variable {X:Cx} {pins:List (Addr×Obj)} {σ:St} {H:Hp} {s:Shared} {a:Addr} {y v:V} {u r:Value} {o:Option V} {A:Around} {E:Value→Shared→Prop}
end
section
variable {X:Cx} {pins:List (Addr×Obj)} {σ:St} {H:Hp} {s:Shared} {a:Addr} {kvs:List (Key×V)} {k:Key} {u:Value} {A:Around} {E:Value→Shared→Prop}
end
section
variable {X:Cx} {o i e value:Expr} {pos pos' tpos:Pos} {td ty tv:TE}
end
section
variable {X:Cx} {pos:Pos}
end
structure M1 (X:Cx) (o:Expr) (m:Str) (apos:Pos) (e:Expr) (cpos:Pos):Prop where
 base:attributeBase o m X.env (eval o X.env)=eval o X.env
 few:((backTo cpos (starEach [e] X.env)).all (fun x=> !x.1)&&(backToKw cpos (keywordEach [] X.env)).all (fun x=>x.1.isSome)
  &&decide (([e]:List Expr).length + ([]:List Keyword).length + (if ([]:List Keyword).isEmpty then 0 else 1) < 30))=true
 line:(apos.endLine==cpos.line)=true
 trees:backTo cpos (starEach [e] X.env)=[(false,eval e X.env)]
structure M2 (X:Cx) (o:Expr) (m:Str) (apos:Pos) (e f:Expr) (cpos:Pos):Prop where
 base:attributeBase o m X.env (eval o X.env)=eval o X.env
 few:((backTo cpos (starEach [e,f] X.env)).all (fun x=> !x.1)&&(backToKw cpos (keywordEach [] X.env)).all (fun x=>x.1.isSome)
  &&decide (([e,f]:List Expr).length + ([]:List Keyword).length + (if ([]:List Keyword).isEmpty then 0 else 1) < 30))=true
 line:(apos.endLine==cpos.line)=true
 trees:backTo cpos (starEach [e,f] X.env)=[(false,eval e X.env),(false,eval f X.env)]
section
variable {X:Cx} {pins:List (Addr×Obj)} {σ:St} {H:Hp} {s:Shared} {a:Addr} {y d:V} {u r:Value} {o:Option V} {A:Around} {E:Value→Shared→Prop}
end
section
variable {X:Cx} {o e f:Expr} {apos cpos:Pos} {td ty tx:TE}
end
section
variable {X:Cx} {pins:List (Addr×Obj)} {σ:St} {H:Hp} {s:Shared} {a:Addr} {kvs:List (Key×V)} {A:Around} {E:Value→Shared→Prop}
end
section
variable {X:Cx} {pins:List (Addr×Obj)} {σ:St} {H:Hp} {s:Shared} {a:Addr} {y:V} {u:Value} {A:Around} {E:Value→Shared→Prop}
end
end L2
namespace L2
open PySem PySem.Spec PyProof.Rows
section
variable {X:Cx}
end
section
variable {K:PySem.W.Frag} {σ:St} {H:Hp} {Q:VK}
end
end L2
namespace L2
open PySem PySem.Spec PyProof.Rows
section
variable {P:Program} {w:World} {K:PySem.W.Frag} {mg:Str→Option Value} {base:Heap} {CX:CXT} {k:Nat} {f:Addr} {fd:FuncData} {ps:List Str} {sp sp':Sp}
theorem FnOk.lift (F:FnOk P w K mg base CX0 k f fd ps sp):FnOk P w K mg base (CXE P w) k f fd ps sp:=
 ⟨F.len,fun A outer s H args us vs Q E hr he hb hv hs=>codeAny_mono (F.run A outer s H args us vs Q E hr he hb hv hs) fun r s' h=>by
  cases r with
  | error e=>exact h.elim
  | ok fl=>
   cases fl with
   | ret u=>exact h
   | _=>exact h.elim⟩
theorem FnOk.or (F:FnOk P w K mg base CX k f fd ps sp) (G:FnOk P w K mg base CX k f fd ps sp'):FnOk P w K mg base CX k f fd ps (fun vs H Q E=>sp vs H Q E∨sp' vs H Q E):=
 ⟨fun vs H Q E h=>h.elim (F.len vs H Q E) (G.len vs H Q E),fun A outer s H args us vs Q E hr he hb hv hs=>hs.elim (F.run A outer s H args us vs Q E hr he hb hv) (G.run A outer s H args us vs Q E hr he hb hv)⟩
end
end L2
namespace L2
open PySem PySem.Spec PyProof.Rows
theorem lk {z x:Str} {c0 c:Addr} {cl:List (Str×Addr)} (h:((z,c0)::cl).lookup x=some c):(x=z∧c=c0)∨(x≠z∧cl.lookup x=some c):=by
 rw [lookup_consP] at h
 by_cases e:(x==z)=true
 ·rw [if_pos e] at h;cases h;exact .inl ⟨by simpa using e,rfl⟩
 ·rw [if_neg e] at h;exact .inr ⟨by simpa using e,h⟩
noncomputable def FrOk2 (env:Env) (z:Str):List (Str×NameKind)→Prop
 | []=>True
 | (n,k)::r=>(match k with | .free=>(env.kindOf n=some .cell∨env.kindOf n=some .free)∧n≠z | .cell=>n=z | _=>True)∧FrOk2 env z r
theorem FrOk2.free {env:Env} {z:Str}:∀ {ns:List (Str×NameKind)} {n:Str},FrOk2 env z ns→(n,NameKind.free)∈ns→(env.kindOf n=some .cell∨env.kindOf n=some .free)∧n≠z
 | [],_,_,h=>by cases h
 | (m,k)::r,n,f,h=>by
  obtain ⟨a,b⟩:=f
  rcases List.mem_cons.mp h with e | e
  ·cases e;exact a
  ·exact b.free e
section
variable {M:Model} {A:Around} {E:Value→Shared→Prop} {s:Shared}
end
section
variable {X:Cx} {pins:List (Addr×Obj)} {σ:St} {H:Hp} {s:Shared} {sc:Scope} {z:Str} {M:List Str} {C:Addr} {fp:List Addr}
end
section
variable {X:Cx} {pins:List (Addr×Obj)} {σ:St} {sc:Scope} {z:Str} {M:List Str} {fm:List (Option Nat)} {tg iter elt:Expr} {ifs:List Expr} {pos:Pos} {g:TG} {tt:TT} {te:TE}
end
section
variable {X:Cx} {sc:Scope} {M:List Str} {fm:List (Option Nat)} {tg iter elt:Expr} {ifs:List Expr} {pos:Pos} {g:TG} {tt:TT} {te:TE} {wi:TI}
end
end L2
namespace L2
open PySem PyProof.Rows
section
open PySem.SeqAt
open PySem.AutoSeq1 (wpAny_loadPart')
open PySem.MeetsSeq PySem.MeetsSeq2 PySem.MeetsSeq3
end
section
variable {X:Cx}
end
end L2
namespace L2
open PySem PyProof.Rows
section
variable {X:Cx}
end
section
variable {X:Cx}
open PySem.AutoSeq1 (wpAny_loadPart')
end
end L2
namespace L2
open PySem PySem.Spec PyProof.Rows
theorem funFrames_to {h h' base:Heap} (k:∀ b o,h.get? b=some o→(∀ vs,o.data≠.fields vs)→∃ o',h'.get? b=some o'∧∀ vs,o'.data≠.fields vs):∀ {l:List Env},h.FunFrames base l→h'.FunFrames base l
 | [],_=>trivial
 | env::l,⟨a,⟨L,o,b,c,d,e⟩,r⟩=>let ⟨o',d',e'⟩:=k L o d e;⟨a,⟨L,o',b,c,d',e'⟩,funFrames_to k r⟩
section
variable {P:Program} {w:World} {A:Around} {E:Value→Shared→Prop} {s:Shared}
theorem entry_unchain:entryFor table "proto.unchain"=some Builtin.«proto.unchain»:=entryFor_of_tree (by kernel_rfl)
theorem unchain_none {e:Value} {a:Addr} {R:Result→Shared→Prop} (c:C2 s.heap a .none) (h:R (.ok (.ret .none)) s):codeAny (model P w) A (.builtin "proto.unchain" ⟨[e,.ref a,.ref a,.bool false],[]⟩) R s:=by
 obtain ⟨oe,vs,c1,c2,c3⟩:=c
 refine codeAny_builtin entry_unchain ?_
 unfold Builtin.«proto.unchain»
 refine wpAny_bind (wpAny_field c1 c2 c3 ?_)
 exact wpAny_pure h
end
structure MadeF (h h':Heap) (e:Addr) (cls:Value):Prop where
 keeps:∀ b o,h.get? b=some o→h'.get? b=some o
 new:h.get? e=none
 there:∃ t oe vs,h'.get? e=some oe∧oe.cls=cls∧oe.data=.fields vs∧vs[0]? =some (.ref t)∧vs[1]? =some .none
section
variable {M:Model} {A:Around} {E:Value→Shared→Prop} {env:Env} {C Cc:Addr}
noncomputable abbrev ClsAt (h:Heap) (C:Addr):Prop:=∃ nm q N bs bm hdct sn sub ab col dd k0 k1 k2 k3 k5,h.get? C=some (excClassObj nm q C N bs bm hdct sn sub ab col dd k0 k1 k2 k3 k5 "ValueError.__new__")∧bm.contains (.type "BaseException")=true
theorem raise_from {s:Shared} {x c:Sem Value} {e:Addr} {P:Program} {w:World} {Q:Flow→Shared→Prop} (hh:A.handled=some (.ref e))
  (h:wpAny (model P w) A x (fun v s1=>∃ h0 e2 vs,v=.ref e2∧ClsAt s1.heap C∧Heap.MadeExcOf h0 s1.heap e2 (.ref C) vs∧(∃ oe,s1.heap.get? e=some oe)∧e2≠e∧
   wpAny (model P w) A c (fun v s2=>v=.ref e∧s2=s1∧ClsAt s1.heap Cc∧(∃ oe,s1.heap.get? e=some oe∧oe.cls=.ref Cc∧∃ vs,oe.data=.fields vs)∧C2 s1.heap e .none∧∀ h',MadeF h0 h' e2 (.ref C)→E (.ref e2) { s1 with heap:=h' }) E s1) E s):
  wpAny (model P w) A (raiseStmt env (some x) (some c)) Q E s:=by
 unfold raiseStmt
 refine wpAny_bind (wpAny_mono h (fun v s1 h1=>?_) fun _ _ x=>x)
 obtain ⟨h0,e2,vs,rfl,⟨nm,q,N,bs,bm,hdct,sn,sub,ab,col,dd,k0,k1,k2,k3,k5,hC,hB⟩,hm,_,ne,h1⟩:=h1
 refine wpAny_bind (wpAny_holding (wpAny_mono h1 (fun v s2 h2=>?_) fun _ _ x=>x))
 obtain ⟨rfl,rfl,⟨nm',q',N',bs',bm',hdct',sn',sub',ab',col',dd',k0',k1',k2',k3',k5',hC',hB'⟩,⟨oe,he,hoc,ws,hod⟩,c2,hE⟩:=h2
 obtain ⟨t,he2,ht1,ht2⟩:=hm.there
 have hcB:(Value.ref C::bm).contains (.type "BaseException")=true:=by rw [List.contains_cons,hB,Bool.or_true]
 have hcB':(Value.ref Cc::bm').contains (.type "BaseException")=true:=by rw [List.contains_cons,hB',Bool.or_true]
 obtain ⟨cl,dct,dat,sl⟩:=oe
 simp only at hoc hod
 subst hoc hod
 obtain ⟨hp,g,d,tk,os⟩:=s2
 refine wpAny_bind (wpAny_pure ?_)
 repeat (first | with_reducible refine wpAny_loadPart_at he2 ?_ | with_reducible refine wpAny_loadPart_at he ?_ | with_reducible refine wpAny_loadPart_at hC ?_ | with_reducible refine wpAny_loadPart_at hC' ?_ | (with_reducible refine wpAny_isSubtype_exc hC ?_;rw [hcB]) | (with_reducible refine wpAny_isSubtype_exc hC' ?_;rw [hcB']) | wp_step)
 have hCe:C≠e2:=fun z=>by subst z;exact absurd (hC.symm.trans he2) (by unfold excClassObj;intro z;cases z)
 have f1:=Heap.get?_update_self (h:=hp) (a:=e2) (Obj.mapFields fun x=>x.setIfInBounds 3 (Value.ref e)) he2 (Obj.isFreed_of_fields (Obj.data_mapFields rfl _))
 have f2:=Heap.get?_update_self (Obj.mapFields fun x=>x.setIfInBounds 4 (Value.bool true)) f1 (Obj.isFreed_of_fields (Obj.data_mapFields (Obj.data_mapFields rfl _) _))
 have oth:∀ b,b≠e2→((hp.update e2 (Obj.mapFields fun x=>x.setIfInBounds 3 (Value.ref e))).update e2 (Obj.mapFields fun x=>x.setIfInBounds 4 (Value.bool true))).get? b=hp.get? b:=fun b n=>by
  rw [Heap.get?_update_other _ _ (Ne.symm n),Heap.get?_update_other _ _ (Ne.symm n)]
 have hC2:=(oth C hCe).trans hC
 have hd2:(Obj.mapFields (fun x=>x.setIfInBounds 4 (Value.bool true)) (Obj.mapFields (fun x=>x.setIfInBounds 3 (Value.ref e)) { cls:=Value.ref C,data:=.fields #[Value.ref t,Value.none,Value.none,Value.none,Value.bool false,Value.none] })).data=.fields #[Value.ref t,Value.none,Value.none,Value.ref e,Value.bool true,Value.none]:=rfl
 generalize hp2d:(hp.update e2 (Obj.mapFields fun x=>x.setIfInBounds 3 (Value.ref e))).update e2 (Obj.mapFields fun x=>x.setIfInBounds 4 (Value.bool true))=hp2 at f2 oth hC2 ⊢
 refine wpAny_loadPart_at hC2 ?_
 refine wpAny_pure ?_
 rw [if_pos (by rfl)]
 refine wpAny_pure ?_
 refine wpAny_bind ?_
 unfold setFlight
 refine wpAny_bind (wpAny_field (x:=Value.none) f2 hd2 rfl ?_)
 rw [if_neg (by decide)]
 refine wpAny_pure ?_
 unfold raiseNew
 refine wpAny_bind (wpAny_handled ?_)
 rw [hh]
 dsimp only
 rw [if_pos (by simpa using fun z=>ne (Value.ref.inj z).symm)]
 refine wpAny_bind (wpAny_holding (wpAny_runValue (unchain_none (c2.of (oth e (Ne.symm ne))) ?_)))
 have hE':=hE (hp2.update e2 (Obj.mapFields fun x=>x.setIfInBounds 2 (Value.ref e))) ?_
 ·show wpAny (model P w) A (do setField (.ref e2) 2 (Value.ref e);throw (Value.ref e2)) Q E _
  exact wpAny_bind (wpAny_setField f2 hd2 (by simp) (wpAny_throw hE'))
 ·refine ⟨fun b o q=>?_,hm.new,t,_,#[Value.ref t,Value.none,Value.ref e,Value.ref e,Value.bool true,Value.none],Heap.get?_update_self _ f2 (Obj.isFreed_of_fields (Obj.data_mapFields hd2 _)),rfl,Obj.data_mapFields hd2 _,rfl,rfl⟩
  have n:b≠e2:=fun z=>by subst z;rw [hm.new] at q;cases q
  rw [Heap.get?_update_other _ _ (Ne.symm n)]
  exact (oth b n).trans (hm.keeps b o q)
end
end L2
namespace L2
open PySem PySem.Spec PyProof.Rows
section
variable {P:Program} {w:World} {K:PySem.W.Frag} {mg:Str→Option Value} {base:Heap} {N:List Str} {qual:Str} {scope:Scope} {f:Addr} {cd:Value} {A:Around} {outer:List Env} {s₀:Shared} {H₀:Hp} {E:XK}
 {pins:List (Addr×Obj)} {σ:St} {H:Hp} {s:Shared}
theorem cls_at {C:Addr} (M:Mod K mg base) (q:PySem.W.excIn K C bmV "ValueError.__new__"=true):∃ bm N nm q bs hdct sn sub ab col dd k0 k1 k2 k3 k5 mN,base.get? C=some (excClassObj nm q C N bs bm hdct sn sub ab col dd k0 k1 k2 k3 k5 "ValueError.__new__")∧base.Ns N mN∧mN "__init__"=none∧OwnTail base bmV bm:=by
 have X:=M.kin
 unfold PySem.W.excIn at q
 split at q
 ·rename_i dd cd sl ho
  split at q
  ·rename_i C' bm k0 k1 k2 k3 n k5 h1 h2
   simp only [Bool.and_eq_true,beq_iff_eq,Bool.not_eq_true'] at q
   obtain ⟨⟨⟨⟨⟨rfl,rfl⟩,hdel⟩,ht⟩,hok⟩,hni⟩:=q
   obtain ⟨nm,bs,mro,ns,qn,hd,sn,sub,ab,col,del⟩:=cd
   dsimp only at h1 hdel hok hni
   subst h1 hdel
   have h3:sl=#[k0,k1,k2,k3,some (.builtin "ValueError.__new__"),k5]:=by
    obtain ⟨l⟩:=sl
    simp only at h2
    rw [h2]
   subst h3
   exact ⟨bm,ns,nm,qn,bs,hd,sn,sub,ab,col,dd,k0,k1,k2,k3,k5,_,X _ _ ho,.of_isNs (PySem.W.isNs_of_in X hok),PySem.W.nsMap_none_of_in X hok hni,PySem.W.tail_of_in X ht⟩
  ·cases q
 ·cases q
theorem ClsAt.of {C:Addr} {h:Heap} (M:Mod K mg base) (k:∀ b o,base.get? b=some o→h.get? b=some o) (q:PySem.W.excIn K C bmV "ValueError.__new__"=true):ClsAt h C:=by
 obtain ⟨bm,Nn,nm,q,bs,hdct,sn,sub,ab,col,dd,k0,k1,k2,k3,k5,mN,hC,hN,hni,T⟩:=cls_at M q
 exact ⟨nm,q,Nn,bs,bm,hdct,sn,sub,ab,col,dd,k0,k1,k2,k3,k5,k _ _ hC,T.hasType PySem.F.excBase_ValueError.hasBase⟩
theorem from_leaves {n:Str} {hpos:Pos} {e e2 C:Addr} {h':Heap} (I:Inv (cxOf (CXE P w) P w K mg base N qual scope f cd A outer s₀ H₀ E) pins σ H s) (hx:MadeF s.heap h' e2 (.ref C)) (hk:scope.names.lookup n=some .local) (q:E (.ref C) (some e) H):
  AsSuiteRaised (model P w) ((A.deeper (envOfC qual scope s₀.heap.objs.size f cd)).mark (some (.ref e))) (envOfC qual scope s₀.heap.objs.size f cd) n hpos
   (notedBy (model P w) ((A.deeper (envOfC qual scope s₀.heap.objs.size f cd)).mark (some (.ref e))) (envOfC qual scope s₀.heap.objs.size f cd) (cameBackBy (model P w) (A.deeper (envOfC qual scope s₀.heap.objs.size f cd)) (envOfC qual scope s₀.heap.objs.size f cd) (cxOf (CXE P w) P w K mg base N qual scope f cd A outer s₀ H₀ E).xe)) (.ref e2) { s with heap:=h' }:=by
 have st:s.heap.FunFrames base (envOfC qual scope s₀.heap.objs.size f cd::outer):=I.stack
 have hin:∀ env∈(envOfC qual scope s₀.heap.objs.size f cd::outer),∀ a,env.frame=some a→a∈frs (envOfC qual scope s₀.heap.objs.size f cd::outer):=fun env he a hf=>List.mem_filterMap.mpr ⟨env,he,hf⟩
 have hB:∀ b o,s.heap.get? b=some o→b∉frs (envOfC qual scope s₀.heap.objs.size f cd::outer)→(PySem.W.hideAll s.heap (frs (envOfC qual scope s₀.heap.objs.size f cd::outer))).get? b=some o:=fun b o q nb=>PySem.W.hideAll_get _ q nb
 have hok:HOk P w H (PySem.W.hideAll s.heap (frs (envOfC qual scope s₀.heap.objs.size f cd::outer))):=fun a o ea=>
  (I.hok a o ea).stay (fun b u hb q=>hB b u q fun z=>by
   have n:=I.stkFree b z
   rcases hb with rfl | hb
   ·rw [n] at ea;cases ea
   ·rw [n] at hb;cases hb) (fun _ q=>q) fun _ _ q=>q
 have stays:(PySem.W.hideAll s.heap (frs (envOfC qual scope s₀.heap.objs.size f cd::outer))).StaysIn s.heap:=fun b o q=>PySem.W.of_hideAll _ q
 have fun0:s.heap.FunFrames (PySem.W.hideAll s.heap (frs (envOfC qual scope s₀.heap.objs.size f cd::outer))) (envOfC qual scope s₀.heap.objs.size f cd::outer):=PySem.W.funFrames_hide st hin
 have hloc:(PySem.W.hideAll s.heap (frs (envOfC qual scope s₀.heap.objs.size f cd::outer))).get? s₀.heap.objs.size=none:=(fun0.mem (List.mem_cons_self ..)).1
 generalize PySem.W.hideAll s.heap (frs (envOfC qual scope s₀.heap.objs.size f cd::outer))=B at hB hok stays fun0 hloc
 obtain ⟨t,oe,vs,he,hc,hd,h0,h1⟩:=hx.there
 have hen:B.get? e2=none:=by
  cases q:B.get? e2 with
  | none=>rfl
  | some o=>have:=stays _ _ q;rw [hx.new] at this;cases this
 have frm:((A.deeper (envOfC qual scope s₀.heap.objs.size f cd)).mark (some (.ref e))).frames=some (envOfC qual scope s₀.heap.objs.size f cd::outer):=I.ok.frames
 refine noteF2 (base:=B) (a0:=.ref t) frm (fun0.of_keeps fun b o q _=>⟨o,hx.keeps b o q,rfl⟩) rfl he (fun b o q=>hx.keeps b o (stays b o q)) hen hd h1 h0 fun h1 m1=>?_
 rw [hc] at m1
 obtain ⟨m,hn,_⟩:=id I.loc
 have hn1:h1.Ns s₀.heap.objs.size m:=m1.up.ns (hn.keeps hx.keeps)
 refine wpAny_nameGoes_keeps (env:=envOfC qual scope s₀.heap.objs.size f cd) hk hn1 (by rw [show (envOfC qual scope s₀.heap.objs.size f cd).scope.kind=.function from I.ok.kind];rfl) fun h2 v hn2 sb=>?_
 have held2:Heap.HeldW B (envOfC qual scope s₀.heap.objs.size f cd::outer) e2 (.ref C) (.ref t) s₀.heap.objs.size h2:=by
  obtain ⟨oe',vs',T,oT,ts,a1,a2,a3,a4,a5,a6,a7,a8,a9⟩:=m1.tr
  obtain ⟨oL,es,ep,hL,hLd,_⟩:=id hn1
  have nf:∀ b o ws,h1.get? b=some o→o.data=.fields ws→b≠s₀.heap.objs.size:=fun b o ws q d z=>by
   rw [z] at q
   have z:=Option.some.inj (hL.symm.trans q)
   subst z
   rw [hLd] at d
   cases d
  refine ⟨fun b o q=>?_,hen,funFrames_to (fun b o q nf=>?_) m1.fun_,oe',vs',T,oT,ts,(sb.2 _ (nf _ _ _ a1 a3)).trans a1,a2,a3,a4,a5,a6,(sb.2 _ (nf _ _ _ a7 a8)).trans a7,a8,a9⟩
  ·exact (sb.2 b fun (z:b=s₀.heap.objs.size)=>by rw [z,hloc] at q;cases q).trans (m1.stays b o q)
  ·by_cases z:b=s₀.heap.objs.size
   ·obtain ⟨o2,es2,ep2,hL2,hLd2,_⟩:=id hn2
    subst z
    exact ⟨o2,hL2,fun vs q=>by rw [hLd2] at q;cases q⟩
   ·exact ⟨o,(sb.2 b z).trans q,nf⟩
 have fld:∀ (h:Heap),Heap.HeldW B (envOfC qual scope s₀.heap.objs.size f cd::outer) e2 (.ref C) (.ref t) s₀.heap.objs.size h→∃ oe vs T,h.get? e2=some oe∧oe.data=.fields vs∧vs[1]? =some (.ref T):=fun h x=>by
  obtain ⟨_,_,_,oe',vs',T,oT,ts,a1,a2,a3,a4,_⟩:=x
  exact ⟨oe',vs',T,a1,a3,a4⟩
 unfold PySem.passOn
 obtain ⟨o2,v2,T2,b1,b2,b3⟩:=fld _ held2
 refine wpAny_bind (wpAny_field b1 b2 b3 ?_)
 rw [if_neg (by simp)]
 refine wpAny_bind (stays2 rfl held2 fun h3 held3 up3=>wpAny_throw ?_)
 refine wpAny_noteFrame_againW rfl held3.2.2.2 ?_
 obtain ⟨o3,v3,T3,c1,c2,c3⟩:=fld _ held3
 unfold cameBackBy
 refine wpAny_bind (wpAny_field c1 c2 c3 ?_)
 rw [if_neg (by simp)]
 refine stays2 rfl held3 fun h4 held4 up4=>?_
 show wpAny (model P w) (A.deeper (envOfC qual scope s₀.heap.objs.size f cd)) (leaving (envOfC qual scope s₀.heap.objs.size f cd) (.ref e2)) _ _ _
 unfold leaving
 refine wpAny_bind (wpAny_noteFrame_againW rfl held4.2.2.2 ?_)
 refine lands2 held4 fun h5 fl5 up5 _=>?_
 have fl:Heap.FlyingW B outer e2 (.ref C) (.ref t) h5:=⟨fl5.1,fl5.2.1,fl5.2.2.1.2.2,fl5.2.2.2⟩
 have up:h2.UpToSlots h5:=(up3.trans up4).trans up5
 refine ⟨e2,C,t,H,B,some e,rfl,?_,(fun z=>nomatch z),q⟩
 have cov:∀ b o,s₀.heap.get? b=some o→H₀ b=none→b∉frs outer→B.get? b=some o:=fun b o q n nb=>
  hB b o (I.base.keep b o q n nb (fun z=>nomatch z)) (frs_not q nb)
 have thr:∀ b o,s₀.heap.get? b=some o→b∉frs outer→∃ o',B.get? b=some o':=fun b o q nb=>by
  obtain ⟨o',e'⟩:=I.base.there b o q (fun z=>nomatch z)
  exact ⟨o',hB b o' e' (frs_not q nb)⟩
 have slot:∀ b o,s₀.heap.get? b=some o→b∈frs outer→∃ sl,h5.get? b=some { o with slots:=sl }:=fun b o q nb=>by
  obtain ⟨sl,e1⟩:=I.base.slot b o q (I.ok.frf b nb) nb (fun z=>nomatch z)
  obtain ⟨_,o3,e3,d3⟩:=I.ok.funs.mem nb
  have:o3=o:=by
   have e3':s₀.heap.get? b=some o3:=e3
   rw [q] at e3'
   exact (Option.some.inj e3').symm
  subst this
  obtain ⟨sl4,e4⟩:=m1.up b _ (hx.keeps _ _ e1) d3
  have e5:=(sb.2 b (Nat.ne_of_lt (Heap.lt_size q))).trans e4
  obtain ⟨sl6,e6⟩:=up b _ e5 d3
  exact ⟨sl6,e6⟩
 refine ⟨I.os,I.bare,⟨fun b o q n nb _=>fl.1 b o (cov b o q n nb),fun b o q _ nb _=>slot b o q nb,fun b o q n _=>I.base.free b o q n (fun z=>nomatch z),fun b o q _=>?_,I.base.tups,I.base.frzs,I.base.tbls⟩,cov,thr,hok,fl⟩
 by_cases nb:b∈frs outer
 ·obtain ⟨sl,e'⟩:=slot b o q nb
  exact ⟨_,e'⟩
 ·obtain ⟨o',e'⟩:=thr b o q nb
  exact ⟨o',fl.1 b o' e'⟩
end
end L2
namespace L2
open PySem PySem.Spec PyProof.Rows
section
variable {P:Program} {w:World} {A:Around} {E:Value→Shared→Prop} {s:Shared} {env:Env}
theorem made_call {x:Str} {C N:Addr} {np cpos:Pos} {args:List Expr} {nm q:Str} {bs bm:List Value} {hdct:Bool} {sn:List Str} {sub:List Value} {ab:Bool} {col:Option Bool} {dd:Option Addr} {k0 k1 k2 k3 k5:Option Value} {mN:Str→Option Value} {Q:Value→Shared→Prop}
  (hplain:(backTo cpos (starEach args env)).any (·.1)=false) (hni:mN "__init__"=none)
  (h:wpAny (model P w) A (eval (.Name x np) env) (fun f s₁=>f=.ref C∧wpAny (model P w) A (evalArgs (.ref C) true (backTo cpos (starEach args env)) [])
   (fun a s₂=>a.kw=[]∧a.pos.length≤sizeLine∧s₂.heap.get? C=some (excClassObj nm q C N bs bm hdct sn sub ab col dd k0 k1 k2 k3 k5 "ValueError.__new__")∧s₂.heap.Ns N mN∧OwnTail s₂.heap bmV bm∧
    ∀ h' e,Heap.MadeExcOf s₂.heap h' e (.ref C) a.pos→Q (.ref e) { s₂ with heap:=h' }) E s₁) E s):
  wpAny (model P w) A (eval (.Call (.Name x np) args [] cpos) env) Q E s:=by
 refine wpAny_Call_ofName (wpAny_mono h (fun f s₁ h₁=>?_) fun _ _ x=>x)
 obtain ⟨rfl,h₁⟩:=h₁
 unfold callWith
 refine wpAny_bind (wpAny_holding (wpAny_mono h₁ (fun a s₂ h₂=>wpAny_bind (wpAny_standAt ?_)) fun _ _ x=>x))
 obtain ⟨apos,akw⟩:=a
 obtain ⟨hkw,hlen,hC,hn,T,h₂⟩:=h₂
 obtain rfl:akw=[]:=hkw
 obtain ⟨hp,g,d,tk,os⟩:=s₂
 simp only [hplain]
 refine wpAny_bind (wpAny_keeperOf_exc hC ?_)
 exact wpAny_bind (wpAny_call_exc_subU (hrest:=hlen) PySem.F.excBase_ValueError (by decide) PySem.F.excBase_ValueError T hC hn hni fun h' e hm=>wpAny_bind (wpAny_holding (wpAny_point (wpAny_pure (h₂ h' e hm)))))
end
noncomputable def excO2 (e C:Addr):HO:=.ext fun h=>∃ ob,h.get? e=some ob∧ob.cls=.ref C∧∃ vs,ob.data=.fields vs∧vs[2]? =some .none
noncomputable def tFrom (K:PySem.W.Frag) (Dc:Addr) (i:Nat) (C:Addr) (E:XK) (ta:TA):XK:=fun cls c H'=>∃ Cc,cls=.ref Cc∧c=none∧PySem.W.exmOne K (.ref Cc) (.ref Dc)=some true∧PySem.W.excIn K Cc bmV "ValueError.__new__"=true∧
 ∀ (e:Addr) (σ:St),H' e=none→i < σ.length→ta (σ.set i (some (.ref e))) (upd H' e (excO2 e Cc)) fun vs H1=>vs.length≤sizeLine∧H1 e=some (excO2 e Cc)∧E (.ref C) (some e) H1
section
variable {X:Cx} {E:XK}
theorem ps_tryF0 {x y n:Str} {Dc C:Addr} {i:Nat} {np hpos pos np2 cpos np3 rpos:Pos} {body:List Stmt} {e₀:Expr} {rest:List Expr} {tb:XK→TS} {ta:TA} (hcalm:X.calm=true) (hN:X.N.Nodup) (hi:X.N[i]? =some n) (hk:X.env.scope.names.lookup n=some .local)
  (hex:X.ex=[]) (hstk:X.stack=X.env::X.outer) (hfr:X.env.frame=some X.env.locals) (hg:Gl X x) (hm:X.mg x=some (.ref Dc)) (hgy:Gl X y) (hmy:X.mg y=some (.ref C)) (qx:PySem.W.excIn X.K C bmV "ValueError.__new__"=true)
  (hb:∀ (pn:List (Addr×Obj)) (E1:Value→Shared→Prop) (Eb:XK),Passes (CXE X.prog X.w) (X.pinned pn E1) Eb→PSs (X.pinned pn E1) body (tb Eb)) (ha:∀ e,PA (X.hand e) (e₀::rest) ta)
  (he:starEach (e₀::rest) X.env=(false,eval e₀ X.env)::starEach rest X.env) (hpl:(backTo cpos (starEach rest X.env)).any (·.1)=false)
  (hout:∀ (e e2:Addr) (pins:List (Addr×Obj)) (σ:St) (H:Hp) (s:Shared) (h':Heap),Inv X pins σ H s→MadeF s.heap h' e2 (.ref C)→E (.ref C) (some e) H→
   AsSuiteRaised (model X.prog X.w) (X.A.mark (some (.ref e))) X.env n hpos (notedBy (model X.prog X.w) (X.A.mark (some (.ref e))) X.env (cameBackBy (model X.prog X.w) X.A X.env X.xe)) (.ref e2) { s with heap:=h' })
  (hdb:(x==("__debug__":Str))=false:=by decide) (hdy:(y==("__debug__":Str))=false:=by decide) (hdn:(n==("__debug__":Str))=false:=by decide):
  PS X (.Try body [.ExceptHandler (some (.Name x np)) (some n) [.Raise (some (.Call (.Name y np2) (e₀::rest) [] cpos)) (some (.Name n np3)) rpos] hpos] [] [] pos) (fun D σ H=>tb (tFrom X.K Dc i C E ta) D σ H):=by
 intro pins s σ H D I h
 refine wpAny_Try_except ?_
 refine wpAny_mono (hb (X.pn++pins) (fun ev s₁=>wpAny (model X.prog X.w) X.A (noteFrame ev X.env) (fun _ s₂=>wpAny (model X.prog X.w) X.A (setFlight ev none) (fun _ s₃=>wpAny (model X.prog X.w) X.A (handleBy ev X.env [.ExceptHandler (some (.Name x np)) (some n) [.Raise (some (.Call (.Name y np2) (e₀::rest) [] cpos)) (some (.Name n np3)) rpos] hpos]) (SP X pins D) X.xe s₃) X.xe s₂) X.xe s₁)
  (tFrom X.K Dc i C E ta) ?_ [] s σ H D (I.pn1 _) h) (fun f s1 hs=>?_) fun _ _ z=>z
 rotate_left
 ·cases f with
  | next=>exact wpAny_execs_nil (SP.unpinned hs)
  | brk=>exact SP.unpinned hs
  | cont=>exact SP.unpinned hs
  | ret u=>exact SP.unpinned hs
 intro pins' σ' H1 s1 ev s' I1 hx
 obtain ⟨e,Cc,t,H',B,c,rfl,x0,c2,q⟩:=hx
 have I1:Inv X pins σ' H1 s1:=I1.unpn1
 obtain ⟨C',hC',hcn,hcm,qc,q⟩:=q
 cases hC'
 have c2:=c2 hcn
 have fr:∀ b∈frs X.stack,H1 b=none:=fun b hb=>I1.stkFree b hb
 have fls:=x0.fl
 have x0:XEnd X.prog X.w X.stack H1 s1 e Cc t H' B s':=x0
 have fls:Heap.FlyingW B X.stack e (.ref Cc) (.ref t) s'.heap:=fls
 rw [hstk] at fls
 show wpAny (model X.prog X.w) X.A (noteFrame (.ref e) X.env) _ _ s'
 refine looks_on2 (outer:=X.outer) (L:=X.env.locals) (by rw [←hstk];exact I1.ok.frames) hfr fls fun h4 held up4 k4=>?_
 refine lands2 held fun h5 fl5 up5 k5=>?_
 have x5:=x0.move fr (by rw [hstk];exact fl5) (up4.trans up5)
 have J5:=I1.exc x5
 have XI:X.K.In h5:=J5.kIn
 obtain ⟨ob,hob,hoc⟩:=fl5.there
 have LT:PySem.W.Looks (model X.prog X.w) h5 (typeOf (.ref e)) (.ref Cc):=hoc▸(PySem.W.Looks.ld hob).andThen .now
 have LM:PySem.W.Looks (model X.prog X.w) h5 (excMatches (.ref e) (.ref Dc)) true:=PySem.W.exm_one XI LT hcm
 refine wpAny_handleBy_cons (codeAny_handlers_test ?_) (by intro z;cases z)
 refine ld_glob (X:=X.hand e) (J5.hand e) hg hm ?_ hdb
 refine LM.here ?_
 refine codeAny_handlers_suite_as ?_
 refine landsA2 fl5 fun h6 fl6 up6 k6=>?_
 have x6:=x5.move fr (by rw [hstk];exact fl6) up6
 have J6:Inv X pins σ' H' { s' with heap:=h6 }:=I1.exc x6
 obtain ⟨oe,vs,hee,hec,hed,_⟩:=fl6.first
 obtain ⟨oe',vs',hee',hed',h2⟩:=k6 _ (k5 _ (k4 _ c2))
 have zz:=Option.some.inj (hee'.symm.trans hee)
 subst zz
 have zz:=hed'.symm.trans hed
 cases zz
 have new1:s1.heap.get? e=none:=x0.new
 have J7:Inv X pins σ' (upd H' e (excO2 e Cc)) { s' with heap:=h6 }:=by
  refine J6.track x6.free ?_ ?_ ?_ ?_ ?_
  ·cases q0:X.s₀.heap.get? e with
   | none=>rfl
   | some o=>
    obtain ⟨o',q1⟩:=I1.base.there e o q0 (by rw [hex];exact fun z=>nomatch z)
    rw [new1] at q1;cases q1
  ·rintro rfl
   obtain ⟨m,⟨o,_,_,ho,_⟩,_⟩:=I1.loc
   rw [new1] at ho;cases ho
  ·rintro y c q1 rfl
   obtain ⟨v,o,ho,_⟩:=I1.cell y c q1
   rw [new1] at ho;cases ho
  ·rintro p hp rfl
   have:=(I1.pin p hp).1
   rw [new1] at this;cases this
  ·exact ⟨⟨oe',hee,hec,vs,hed,h2⟩,⟨oe',hee⟩,fun h1 h2 ⟨o1,a1,a2⟩ k=>⟨o1,k _ a1,a2⟩⟩
 have hil:i < σ'.length:=by rw [I1.len];exact (List.getElem?_eq_some_iff.mp hi).1
 refine store_ok (X:=X.hand e) (v:=.ref e) (J7.hand e) hN hi (.inl hk) rfl (fun s8 J8=>?_) (.inr hk)
 refine wpAny_execs_cons ?_
 rw [arm_exec_Raise]
 refine wpAny_bind (wpAny_standAt ?_)
 obtain ⟨tl,Nn,nm,qq,bs,hdct,sn,sub,ab,col,dd,k0,k1,k2,k3,k5,mN,hC,hN',hni,T⟩:=cls_at I1.ok.mod qx
 refine raise_from (e:=e) (C:=C) (Cc:=Cc) rfl (wpAny_bind (made_call (C:=C) (N:=Nn) (nm:=nm) (q:=qq) (bs:=bs) (bm:=tl) (hdct:=hdct) (sn:=sn) (sub:=sub) (ab:=ab) (col:=col) (dd:=dd) (k0:=k0) (k1:=k1) (k2:=k2) (k3:=k3) (k5:=k5) (by rw [he];exact hpl) hni ?_))
 refine ld_glob (X:=X.hand e) J8 hgy hmy ⟨rfl,?_⟩ hdy
 have h1:=ha e cpos pins s8 _ _ _ J8 (q e σ' x6.free hil)
 rw [show starEach (e₀::rest) (X.hand e).env=(false,eval e₀ X.env)::starEach rest X.env from he] at h1
 rw [he]
 refine Calls.evalArgs_plain (wpAny_mono h1 (fun us s2 hs2=>?_) fun _ _ z=>False.elim z)
 obtain ⟨vs2,H2,I2,r,q1,q2,q3⟩:=hs2
 refine ⟨rfl,by rw [←r.length];exact q1,I2.bk _ _ hC,hN'.keeps I2.bk,T.keeps I2.bk,fun h' e2 hmk=>wpAny_bind (wpAny_standAt (wpAny_pure ?_))⟩
 obtain ⟨⟨ob2,o1,o2,ovs,o3,o4⟩,_⟩:=I2.hok e _ q2
 have ne:e2≠e:=fun z=>by subst z;rw [hmk.new] at o1;cases o1
 refine ⟨s2.heap,e2,us,rfl,ClsAt.of I1.ok.mod (fun b o z=>hmk.keeps _ _ (I2.bk _ _ z)) qx,hmk,⟨_,hmk.keeps _ _ o1⟩,ne,?_⟩
 have kd:(X.hand e).env.scope.kind=.function:=I2.ok.kind
 obtain ⟨m,hn,hl⟩:=id I2.loc
 obtain ⟨u,ru,lu⟩:=hl i n (.ref e) hi (by rw [List.getElem?_set_self hil]) (.inl hk)
 have ru:u=.ref e:=ru
 subst ru
 rcases lu with ⟨_,hmn⟩ | ⟨hk',_⟩
 ·refine wpAny_bind (wpAny_Name (wpAny_loadName_local (m:=m) kd hk (hn.keeps hmk.keeps) hmn ?_) hdn)
  refine wpAny_bind (wpAny_standAt (wpAny_pure ⟨rfl,rfl,ClsAt.of I1.ok.mod (fun b o z=>hmk.keeps _ _ (I2.bk _ _ z)) qc,⟨_,hmk.keeps _ _ o1,o2,ovs,o3⟩,⟨_,_,hmk.keeps _ _ o1,o3,o4⟩,fun h9 mf=>?_⟩))
  exact hout e e2 pins _ _ s2 h9 (I2.unhand I.ok.hd) mf q3
 ·exfalso
  have hk:(X.hand e).env.scope.names.lookup n=some .local:=hk
  rcases hk' with z | z <;> (have:=hk.symm.trans z;cases this)
end
section
variable {P:Program} {w:World} {K:PySem.W.Frag} {mg:Str→Option Value} {base:Heap} {N:List Str} {qual:Str} {scope:Scope} {f:Addr} {cd:Value} {A:Around} {outer:List Env} {s₀:Shared} {H₀:Hp} {E:XK}
theorem ps_tryF {x y n:Str} {Dc C:Addr} {i:Nat} {np hpos pos np2 cpos np3 rpos:Pos} {body:List Stmt} {e₀:Expr} {rest:List Expr} {tb:XK→TS} {ta:TA} (hcalm:(cxOf (CXE P w) P w K mg base N qual scope f cd A outer s₀ H₀ E).calm=true) (hN:N.Nodup) (hi:N[i]? =some n) (hk:scope.names.lookup n=some .local)
  (hg:Gl (cxOf (CXE P w) P w K mg base N qual scope f cd A outer s₀ H₀ E) x) (hm:mg x=some (.ref Dc)) (hgy:Gl (cxOf (CXE P w) P w K mg base N qual scope f cd A outer s₀ H₀ E) y) (hmy:mg y=some (.ref C)) (qx:PySem.W.excIn K C bmV "ValueError.__new__"=true)
  (hb:∀ (pn:List (Addr×Obj)) (E1:Value→Shared→Prop) (Eb:XK),Passes (CXE P w) ((cxOf (CXE P w) P w K mg base N qual scope f cd A outer s₀ H₀ E).pinned pn E1) Eb→PSs ((cxOf (CXE P w) P w K mg base N qual scope f cd A outer s₀ H₀ E).pinned pn E1) body (tb Eb))
  (ha:∀ e,PA ((cxOf (CXE P w) P w K mg base N qual scope f cd A outer s₀ H₀ E).hand e) (e₀::rest) ta)
  (he:starEach (e₀::rest) (cxOf (CXE P w) P w K mg base N qual scope f cd A outer s₀ H₀ E).env=(false,eval e₀ (cxOf (CXE P w) P w K mg base N qual scope f cd A outer s₀ H₀ E).env)::starEach rest (cxOf (CXE P w) P w K mg base N qual scope f cd A outer s₀ H₀ E).env:=by rfl)
  (hpl:(backTo cpos (starEach rest (cxOf (CXE P w) P w K mg base N qual scope f cd A outer s₀ H₀ E).env)).any (·.1)=false:=by rfl) (hdb:(x==("__debug__":Str))=false:=by decide) (hdy:(y==("__debug__":Str))=false:=by decide) (hdn:(n==("__debug__":Str))=false:=by decide):
  PS (cxOf (CXE P w) P w K mg base N qual scope f cd A outer s₀ H₀ E) (.Try body [.ExceptHandler (some (.Name x np)) (some n) [.Raise (some (.Call (.Name y np2) (e₀::rest) [] cpos)) (some (.Name n np3)) rpos] hpos] [] [] pos) (fun D σ H=>tb (tFrom K Dc i C E ta) D σ H):=
 ps_tryF0 (X:=cxOf (CXE P w) P w K mg base N qual scope f cd A outer s₀ H₀ E) hcalm hN hi hk rfl rfl rfl hg hm hgy hmy qx hb ha he hpl (fun e e2 pins σ H s h' I hx q=>from_leaves (n:=n) I hx hk q) hdb hdy hdn
end
end L2
namespace L2
open PySem PySem.Spec PyProof.Rows
section
variable {X:Cx}
noncomputable def rRepS:R2:=fun x y H Q=>∃ z n,x=.str z∧y=.int ((n + 1:Nat):Int)∧n≤100∧z.length≤100∧Q (.str ⟨(List.replicate (n + 1) z.cps).foldl (· ++ ·) #[]⟩) H
theorem rep_len (a:Array Nat):∀ (n:Nat) (b:Array Nat),((List.replicate n a).foldl (· ++ ·) b).size=b.size + n * a.size
 | 0,b=>by simp
 | n + 1,b=>by
  rw [List.replicate_succ,List.foldl_cons,rep_len a n,Array.size_append,Nat.succ_mul]
  lia
theorem op_repS:OpR X (binaryOp .Mult) rRepS:=by
 intro pins s σ H x y v u Q I rx ry h
 obtain ⟨z,n,rfl,rfl,hn,hz,q⟩:=h
 obtain ⟨t,rfl⟩:=rx
 obtain ⟨t',rfl⟩:=ry
 have e1:¬((n + 1:Nat):Int) < 1:=by lia
 have hle:z.length * (n + 1)≤100 * 101:=Nat.mul_le_mul hz (by lia)
 refine P.mul_str (by rw [decide_eq_false (by lia),decide_eq_false (by lia)];rfl) (fun _ _=>?_) (fun _ _=>?_) ?_
 ·have:(101:Int)≤(2 ^ 63 - 1) / ((n + 1:Nat):Int):=by
   rw [Int.le_ediv_iff_mul_le (by lia)]
   lia
  lia
 ·rw [Int.toNat_natCast]
  have:¬z.length * (n + 1) > sizeLine:=by
   have:sizeLine=16777216:=rfl
   lia
  unfold Builtin.Str.tooLong
  exact decide_eq_false this
 ·rw [if_neg e1]
  have ev:(⟨(List.replicate (n + 1) z.cps).foldl (· ++ ·) #[]⟩:Str).length≤sizeLine:=by
   show ((List.replicate (n + 1) z.cps).foldl (· ++ ·) #[]).size≤sizeLine
   rw [rep_len]
   have h1:sizeLine=16777216:=rfl
   have h2:z.length=z.cps.size:=rfl
   rw [Nat.mul_comm,←h2]
   simp
   lia
  split
  ·rename_i hc
   have e0:(⟨(List.replicate (n + 1) z.cps).foldl (· ++ ·) #[]⟩:Str)=z:=by
    rcases Bool.or_eq_true _ _ |>.mp hc with h | h
    ·have:n=0:=by have:=eq_of_beq h;lia
     subst this
     simp
    ·have h0:z.length=0:=eq_of_beq h
     have hz0:z.cps=#[]:=Array.size_eq_zero_iff.mp h0
     have:((List.replicate (n + 1) z.cps).foldl (· ++ ·) #[])=#[]:=Array.size_eq_zero_iff.mp (by rw [rep_len];simp [hz0])
     rw [this]
     obtain ⟨c⟩:=z
     simp at hz0
     rw [hz0]
   rw [e0] at q
   exact ⟨.str z,H,I,⟨_,rfl⟩,q⟩
  ·refine ⟨?_,?_⟩
   ·rw [Int.toNat_natCast]
    exact ev
   ·rw [Int.toNat_natCast]
    exact ⟨.str _,H,I.tok _,⟨_,rfl⟩,q⟩
end
theorem slice_to {l:List Nat} {i:Nat} (h:i≤l.length):Txt.slice (mkT l) none (some (i:Int))=mkT (l.take i):=by
 have:=StrLaws.sliceText_to (x:=mkT l) (j:=(i:Int)) ⟨by lia,by show (i:Int)≤(l.toArray.toList.length:Nat);simp;lia⟩
 refine Eq.trans this ?_
 show (⟨((l.toArray.toList.drop 0).take ((i:Int) - 0).toNat).toArray⟩:Str)=_
 rw [List.drop_zero,show ((i:Int) - 0).toNat=i by lia]
 rfl
theorem slice_from {l:List Nat} {i:Nat}:Txt.slice (mkT l) (some (i:Int)) none=mkT (l.drop i):=by
 by_cases h:i≤l.length
 ·have:=StrLaws.sliceText_from (x:=mkT l) (i:=(i:Int)) ⟨by lia,by show (i:Int)≤(l.toArray.toList.length:Nat);simp;lia⟩
  refine Eq.trans this ?_
  show (⟨((l.toArray.toList.drop (i:Int).toNat).take ((l.toArray.toList.length:Int) - (i:Int)).toNat).toArray⟩:Str)=_
  rw [Int.toNat_natCast,show ((l.toArray.toList.length:Int) - (i:Int)).toNat=(l.drop i).length by simp]
  show (⟨((l.drop i).take (l.drop i).length).toArray⟩:Str)=_
  rw [List.take_length]
  rfl
 ·have e:Builtin.Str.strSliceIndices (some (i:Int)) none 1 (mkT l).length=Builtin.Str.strSliceIndices (some (l.length:Int)) none 1 (mkT l).length:=by
   rw [mkT_len]
   unfold Builtin.Str.strSliceIndices
   have a1:¬((i:Int) < 0):=by lia
   have a2:¬((l.length:Int) < 0):=by lia
   have b1:max 0 (min (i:Int) (l.length:Int))=l.length:=by lia
   have b2:max 0 (min (l.length:Int) (l.length:Int))=l.length:=by lia
   simp only [a1,a2,if_false,show (1:Int) > 0 from by decide,if_true,b1,b2]
  have e2:Txt.slice (mkT l) (some (i:Int)) none=Txt.slice (mkT l) (some (l.length:Int)) none:=by
   unfold Txt.slice
   rw [e]
  rw [e2,List.drop_eq_nil_of_le (by lia)]
  have:=StrLaws.sliceText_from (x:=mkT l) (i:=(l.length:Int)) ⟨by lia,by show (l.length:Int)≤(l.toArray.toList.length:Nat);simp⟩
  refine Eq.trans this ?_
  show (⟨((l.toArray.toList.drop (l.length:Int).toNat).take ((l.toArray.toList.length:Int) - (l.length:Int)).toNat).toArray⟩:Str)=_
  simp [mkT]
theorem in_lmb:∀ c,c < 128→(!(Builtin.Str.occurrences (Str.ofString "lmb") (mkT [c]) 0 (Str.ofString "lmb").length 1).isEmpty)=(decide (c=108)||decide (c=109)||decide (c=98)):=by
 have:∀ c:Fin 128,(!(Builtin.Str.occurrences (Str.ofString "lmb") (mkT [c.val]) 0 (Str.ofString "lmb").length 1).isEmpty)=(decide (c.val=108)||decide (c.val=109)||decide (c.val=98)):=by decide +kernel
 exact fun c h=>this ⟨c,h⟩
end L2
namespace L2
open PySem PySem.Spec PyProof.Rows
noncomputable def chS (x:Str) (i:Nat):Str:=⟨#[x.cps.getD i 0]⟩
noncomputable def ItS (x:Str):It:=⟨fun i _=>i < x.cps.size,fun i H y H'=>H'=H∧y=.str (chS x i),fun i _=>x.cps.size≤i⟩
theorem turn_str {P:Program} {w:World} {K:PySem.W.Frag} {tg:Expr} (x:Str) (t:Tok) (it:Addr):Turn P w K tg (ItS x) [it] it (fun i h=>h.IsStrIter it "str_ascii_iterator" x t i) where
 mem:=by simp
 obj:=fun i h st b hb=>by
  have e:b=it:=by simpa using hb
  subst e
  obtain ⟨o,e,c,d⟩:=st
  exact ⟨o,e,fun v z=>by rw [d] at z;cases z⟩
 keep:=fun i h h' st k=>let ⟨o,e,r⟩:=st;⟨o,k it (by simp) o e,r⟩
 item:=by
  intro X hP hw hK hc i pins s σ H E I hf st hg
  subst hP hw hK
  have hg':i < x.cps.size:=hg
  obtain ⟨f0,f1,f2,f3,f4,f5⟩:=hf it (by simp)
  refine wpAny_pyNext_ascii_item st (c:=x.cps.getD i 0) (by simp [hg']) fun h' st' sb=>?_
  have I1:Inv X pins σ H { s with heap:=h',toks:=s.toks + 1 }:=I.turned (t':=s.toks + 1) (fun b o hb e=>(sb.2 b hb).trans e) f0 f1 f3 f4 f5
  obtain ⟨o,e,c,d⟩:=id st'
  exact ⟨_,rfl,go_of (s:={ s with heap:=h',toks:=s.toks + 1 }) e c d (by decide) ⟨.str (chS x i),H,I1,⟨s.toks,rfl⟩,⟨rfl,rfl⟩,st',fun b hb=>(hf b hb).1⟩⟩
 done:=by
  intro X hP hw hK hc i pins s σ H E I hf st hg
  subst hP hw hK
  have hg':x.cps.size≤i:=hg
  obtain ⟨f0,f1,f2,f3,f4,f5⟩:=hf it (by simp)
  exact wpAny_pyNext_ascii_end (I.ok.hd hc) st (by simp [hg']) fun h' eb=>⟨rfl,I.turned (t':=s.toks) (fun b o hb e=>eb b o hb e) f0 f1 f3 f4 f5⟩
 self:=fun _ _ _ _ _ st h=>wpAny_pyIter_striter_ascii st h
section
variable {X:Cx} {tg:Expr}
noncomputable def iStr (tl:TE):TI:=fun σ H R=>tl σ H fun v H1=>∃ x:Str,v=.str x∧x.cps.all (· < 128)=true∧R (ItS x) H1
theorem pi_str {l:Expr} {tl:TE} (hl:PE X l tl):PI X tg l (iStr tl):=by
 intro pins s σ H R I h
 refine thn (hl pins s σ H _ I h) fun v s1 ⟨y,H1,I1,r1,q1⟩=>?_
 obtain ⟨x,e,ha,q⟩:=q1
 subst e
 obtain ⟨t,rfl⟩:=r1
 refine wpAny_pyIter_ascii ha ?_
 refine ⟨s1.heap.objs.size,[s1.heap.objs.size],_,_,H1,rfl,I1.kept (t':=s1.toks) fun b o e=>Heap.get?_push_of_some _ e,turn_str x t _,⟨_,Heap.get?_push_size _ rfl,rfl,rfl⟩,fun b hb=>?_,q⟩
 have e:b=s1.heap.objs.size:=by simpa using hb
 subst e
 exact I1.fpOk (Nat.le_refl _) (I1.hok.fresh (Nat.le_refl _))
end
section
variable {σ:St} {H:Hp}
theorem rd_istr {tl:TE} {R:It→Hp→Prop} (h:tl σ H fun v H1=>∃ x:Str,v=.str x∧x.cps.all (· < 128)=true∧R (ItS x) H1):iStr tl σ H R:=h
theorem lp_str {x:Str} {G:List V→Hp→Prop} {B:(List V→Hp→Prop)→List V→V→Hp→Prop} (hn:x.cps.size≤sizeLine) (Pv:Nat→List V→Hp→Prop) (h0:Pv 0 [] H) (hlen:∀ i ys H,Pv i ys H→ys.length≤i)
  (hs:∀ i ys H,i < x.cps.size→Pv i ys H→B (Pv (i + 1)) ys (.str (chS x i)) H) (hd:∀ ys H,Pv x.cps.size ys H→G ys H):
  ∃ W:Nat→Nat→List V→Hp→Prop,(∃ m,W 0 m [] H)∧∀ i m ys H,W i m ys H→((ItS x).stop i H∧G ys H)∨((ItS x).go i H∧ys.length < sizeLine∧
   ∃ N:List V→Hp→Prop,(∀ ys' H',N ys' H'→∃ m',m' < m∧W (i + 1) m' ys' H')∧∀ y H',(ItS x).yld i H y H'→B N ys y H'):=by
 refine ⟨fun i m ys H=>m=x.cps.size - i∧i≤x.cps.size∧Pv i ys H,⟨x.cps.size,by simp,Nat.zero_le _,h0⟩,?_⟩
 rintro i m ys H ⟨rfl,hi,p⟩
 have hl:=hlen i ys H p
 by_cases hlt:i < x.cps.size
 ·refine .inr ⟨hlt,by lia,Pv (i + 1),fun ys' H' p'=>⟨x.cps.size - (i + 1),by lia,rfl,hlt,p'⟩,fun y H' z=>?_⟩
  obtain ⟨e,z⟩:=z
  subst e z
  exact hs i ys _ hlt p
 ·have e:i=x.cps.size:=by lia
  subst e
  exact .inl ⟨Nat.le_refl _,hd ys H p⟩
end
section
variable {X:Cx}
noncomputable def rSplit:V→List V→Hp→VK→Prop:=fun x xs H Q=>∃ a b:Str,x=.str a∧xs=[.str b]∧(b.length==0)=false∧a.length + 2≤sizeLine∧∀ l,H l=none→Q (.ref l) (upd H l (.lst ((Txt.split a b).map V.str)))
theorem vals_strs:∀ (l:List (Str×Tok)),Vals ((l.map (·.1)).map V.str) (strValues l)
 | []=>.nil
 | p::l=>.cons ⟨p.2,rfl⟩ (vals_strs l)
theorem mt_split:MtR X "str.split" rSplit:=by
 intro pins s σ H x xs v us Q I rx rv h
 obtain ⟨a,b,rfl,rfl,hb,hz,q⟩:=h
 obtain ⟨t,rfl⟩:=rx
 obtain ⟨u,rfl,ru⟩:=rv.one
 obtain ⟨tu,rfl⟩:=ru
 have hl:((Txt.split a b).map V.str).length≤sizeLine:=by
  rw [List.length_map]
  exact Nat.le_trans (split_le a b) hz
 cases h1:(decide (a.length < b.length)||decide (Builtin.Str.strKind a < Builtin.Str.strKind b))
 ·cases hf:(Builtin.Str.occurrences a b 0 a.length (a.length + 1)).isEmpty
  ·have es:Txt.split a b=Builtin.Str.partsBetween a (Builtin.Str.occurrences a b 0 a.length (a.length + 1)) b.length:=(if_neg (ne_true_of_eq_false h1)).trans (if_neg (ne_true_of_eq_false hf))
   rw [es] at q hl
   have hl':=hl
   rw [List.length_map] at hl'
   refine call_meets F.slot_str_split (typeIs_str _ _ _) F.entry_str_split (F.args_str_split_2 _ _) (meets_str_split_sep a b t tu h1 hb hf (by lia) hl') ?_
   show wants _ _ _ { s with toks:=_,heap:=s.heap.push { cls:=.type "list",data:=.seq (strsFrom s.toks (Builtin.Str.partsBetween a (Builtin.Str.occurrences a b 0 a.length (a.length + 1)) b.length)).toArray } }
   rw [strsFrom_eq]
   have hv:=vals_strs (numbered s.toks (Builtin.Str.partsBetween a (Builtin.Str.occurrences a b 0 a.length (a.length + 1)) b.length))
   rw [numbered_texts] at hv
   exact ⟨.ref _,_,I.lnew (t':=_) hv hl,rfl,q _ I.fresh⟩
  ·have es:Txt.split a b=[a]:=(if_neg (ne_true_of_eq_false h1)).trans (if_pos hf)
   rw [es] at q hl
   exact call_meets F.slot_str_split (typeIs_str _ _ _) F.entry_str_split (F.args_str_split_2 _ _) (meets_str_split_not_found a b t tu h1 hb hf) ⟨.ref _,_,I.lnew (t':=s.toks) (its:=[.str a t]) (ys:=[V.str a]) (.cons ⟨t,rfl⟩ .nil) hl,rfl,q _ I.fresh⟩
 ·have es:Txt.split a b=[a]:=if_pos h1
  rw [es] at q hl
  exact call_meets F.slot_str_split (typeIs_str _ _ _) F.entry_str_split (F.args_str_split_2 _ _) (meets_str_split_cannot_occur a b t tu h1) ⟨.ref _,_,I.lnew (t':=s.toks) (its:=[.str a t]) (ys:=[V.str a]) (.cons ⟨t,rfl⟩ .nil) hl,rfl,q _ I.fresh⟩
theorem rd_split {H:Hp} {Q:VK} {a b:Str} (hb:(b.length==0)=false) (hz:a.length + 2≤sizeLine) (h:∀ l,H l=none→Q (.ref l) (upd H l (.lst ((Txt.split a b).map V.str)))):rSplit (.str a) [.str b] H Q:=⟨a,b,rfl,rfl,hb,hz,h⟩
end
end L2
namespace L2
open PySem PySem.Spec PyProof.Rows
noncomputable def gdAt:List (Str×Str)→Str→V
 | [],_=>.non
 | p::r,k=>if p.1=k then .str p.2 else gdAt r k
noncomputable def GD (K:PySem.W.Frag) (P:Params) (mg:Str→Option Value) (x:Str) (l:List (Str×Str)):Prop:=
 ∃ (c:Addr) (es:List DictEntry) (n:Nat),mg x=some (.ref c)∧(c==sysModules)=false∧K.lookup c=some ⟨.type "dict",none,.dict es.toArray n,#[]⟩∧PySem.W.KeysLit P es∧
  Paired (fun (p:Str×Str) (e:DictEntry)=>(∃ t,e.key=.str p.1 t)∧∃ t,e.val=.str p.2 t) l es
theorem gd_find {k:Str}:∀ {l:List (Str×Str)} {es:List DictEntry},Paired (fun (p:Str×Str) (e:DictEntry)=>(∃ t,e.key=.str p.1 t)∧∃ t,e.val=.str p.2 t) l es→
  RelV (gdAt l k) ((findBy Value.isStrOf es.toArray k).getD .none)
 | _,_,.nil=>rfl
 | p::l,e::es,.cons ⟨⟨t,h1⟩,⟨u,h2⟩⟩ r=>by
  have ih:=gd_find (k:=k) r
  unfold findBy at ih ⊢
  rw [List.find?_toArray] at ih ⊢
  by_cases hp:p.1=k
  ·have z:Value.isStrOf k e.key=true:=by rw [h1,hp];simp [Value.isStrOf]
   rw [List.find?_cons_of_pos (p:=fun e=>Value.isStrOf k e.key) (l:=es) z]
   simp only [gdAt,if_pos hp]
   exact ⟨u,by simp [h2]⟩
  ·have z:¬Value.isStrOf k e.key=true:=by
    rw [h1];simp only [Value.isStrOf];intro q;exact hp (by simpa using q)
   rw [List.find?_cons_of_neg (p:=fun e=>Value.isStrOf k e.key) (l:=es) z]
   simp only [gdAt,if_neg hp]
   exact ih
section
variable {X:Cx}
noncomputable def tGd (l:List (Str×Str)) (te:TE):TE:=fun σ H Q=>te σ H fun v H1=>∃ k:Str,v=.str k∧Q (gdAt l k) H1
theorem pe_gd {x:Str} {l:List (Str×Str)} {e:Expr} {te:TE} {p apos cpos:Pos} (hg:Gl X x) (hm:GD X.K X.w.params X.mg x l) (he:PE X e te)
  (hbase:attributeBase (.Name x p) "get" X.env (eval (.Name x p) X.env)=eval (.Name x p) X.env:=by rfl)
  (hline:(apos.endLine==cpos.line)=true:=by rfl) (hs:backTo cpos (starEach [e] X.env)=[(false,eval e X.env)]:=by rfl) (hd:(x==("__debug__":Str))=false:=by decide):
  PE X (.Call (.Attribute (.Name x p) "get" apos) [e] [] cpos) (tGd l te):=by
 intro pins s σ H Q I h
 obtain ⟨c,es,n,h1,h2,h3,h4,h5⟩:=hm
 refine wpAny_Call_method_late (trees:=[(false,eval e X.env)]) hbase (by rw [hs];rfl) hline hs (ld_glob I hg h1 ?_ hd)
 have M:=PySem.W.mapOf_K (prog:=X.prog) (w:=X.w) I.kIn h3 h4
 refine ⟨"dict","dict.get",F.plainAttrs_dict,F.slot_dict_get,F.type_dict_get,M.typeIs,M.noDict,wpAny_dict_get1 (knd:=PySem.strKind X.prog X.w) h2 ?_⟩
 refine thn (he pins s σ H _ I h) fun v s1 ⟨y,H1,I1,r1,k,e1,q1⟩=>?_
 subst e1
 obtain ⟨t,rfl⟩:=r1
 exact ⟨k,_,strKind_is X.prog X.w k t,PySem.W.mapOf_K (prog:=X.prog) (w:=X.w) I1.kIn h3 h4,⟨gdAt l k,H1,I1.tok _,gd_find h5,q1⟩⟩
end
theorem rd_gd {l:List (Str×Str)} {te:TE} {σ:St} {H:Hp} {Q:VK} (h:te σ H fun v H1=>∃ k:Str,v=.str k∧Q (gdAt l k) H1):tGd l te σ H Q:=h
end L2
namespace L2
open PySem PySem.Spec PyProof.Rows
section
variable {σ:St} {H:Hp} {Q:VK} {K:PySem.W.Frag}
theorem rd_fld {ta:TE} {f:Str} (h:ta σ H fun x H1=>∃ a C dx fs v,x=.ref a∧H1 a=some (.ins C dx fs)∧Cls K C∧NoAttr K C f∧fs.lookup f=some v∧Q v H1):tFld K ta f σ H Q:=h
theorem rd_meth {C:Addr} {m:Str} {sp:Sp} {dvs:List V} {E:XK} {ta:TE} {t:TA} (h:ta σ H fun x H1=>∃ a dx fs,x=.ref a∧H1 a=some (.ins C dx fs)∧fs.lookup m=none∧t σ H1 fun vs H2=>sp (x::(vs++dvs)) H2 Q E):tMeth C m sp dvs E ta t σ H Q:=h
theorem rd_sfld {ta tv:TE} {f:Str} {D:Ends} (h:tv σ H fun y H1=>ta σ H1 fun x H2=>∃ a C dx fs,x=.ref a∧H2 a=some (.ins C dx fs)∧Cls K C∧NoAttr K C f∧fs.length < 1000∧D.nx σ (upd H2 a (.ins C dx (putF f y fs)))):sFld K ta tv f D σ H:=h
end
theorem lk1 (f:Str) (v:V):([(f,v)]:List (Str×V)).lookup f=some v:=by simp [List.lookup]
theorem lk0 {f g:Str} (v:V) (h:g≠f):([(f,v)]:List (Str×V)).lookup g=none:=by
 have:(g==f)=false:=by simpa using h
 simp [List.lookup,this]
theorem put1 (f:Str) (v u:V):putF f u [(f,v)]=[(f,u)]:=by
 show (if f=f then _ else _)=_
 rw [if_pos rfl]
section
variable {X:Cx}
theorem rd_bm0 {σ:St} {H:Hp} {Q:VK} {K:PySem.W.Frag} {T:String} {r:V→List V→Hp→VK→Prop} {to:TE} (h:to σ H fun x H1=>tyV K T x H1∧r x [] H1 Q):tBM0 K T r to σ H Q:=h
end
section
variable {X:Cx}
noncomputable def rInS (K:PySem.W.Frag):R2:=fun x y H Q=>∃ (a:Addr) (xs:List V) (ds:List PyData) (d:PyData),y=.ref a∧SqT K H a xs∧IsAll H xs ds∧Is H x d∧okD d∧okDs ds∧Q (.bl (inD d ds)) H
theorem op_inS (hu:X.A.units + 64 < cLine):OpR X (compareOp .In) (rInS X.K):=by
 intro pins s σ H x y v u Q I rx ry h
 obtain ⟨a,xs,ds,d,rfl,hq,hxs,hx,od,oe,q⟩:=h
 obtain ⟨as,ra⟩:=hx.reads I rx
 cases (show u=Value.ref a from ry)
 obtain ⟨its,rv,⟨o,h1,h2,n,h3⟩,_⟩:=I.tuple hq
 obtain ⟨bs,rb⟩:=IsAll.reads I hxs rv
 exact SeqAt.in_tuple_reads (.tuple h1 h2 h3 (by simpa using rb)) ra oe.1 od.1 (by have:=od.2;lia) ⟨.bl _,H,I,rfl,q⟩
theorem k_inS (K:PySem.W.Frag) (hu:X.A.units + 64 < cLine) (h:X.K=K:=by rfl):OpR X (compareOp .In) (rInS K):=h▸op_inS hu
end
end L2
namespace L2
open PySem PySem.Spec PyProof.Rows
section
variable {X:Cx} {pins p1 p2:List (Addr×Obj)} {σ:St} {H:Hp} {s:Shared}
end
end L2
namespace L2
open PySem PySem.Spec PyProof.Rows
structure BestW (l:Addr) (xs:List V) (lt:R2) (te:V→Hp→VK→Prop) (W:Nat→Nat→V→Hp→Prop) (Q:VK):Prop where
 lst:∀ j b k H,W j b k H→H l=some (.lst xs)
 turn:∀ j b k H x,W j b k H→xs[j]? =some x→te x H fun k' H'=>lt k' k H' fun z H''=>∃ c,z=.bl c∧if c=true then W (j + 1) j k' H'' else W (j + 1) b k H''
 fin:∀ b k H x,W xs.length b k H→xs[b]? =some x→Q x H
section
variable {X:Cx} {pins p1 p2:List (Addr×Obj)} {σ:St} {H:Hp} {s:Shared}
end
section
variable {X:Cx}
section
variable {σ:St} {H:Hp} {Q:VK} {K:PySem.W.Frag}
end
end
end L2
namespace L2
open PySem PySem.Spec PyProof.Rows
section
variable {X:Cx} {pins:List (Addr×Obj)} {σ:St}
end
section
variable {X:Cx}
end
end L2
namespace My
open PySem L2
noncomputable def top (i:Nat):Stmt:=PySem.Challenge.pw_noticed_k38_keepers_texts_refused.main.body.getD i (.Pass ⟨0,0,0,0⟩)
noncomputable abbrev s_is_whole:Stmt:=top 20
noncomputable abbrev s_is_thing:Stmt:=top 21
noncomputable abbrev s_is_pair:Stmt:=top 22
noncomputable abbrev s_is_rising:Stmt:=top 23
noncomputable abbrev s_is_order:Stmt:=top 24
noncomputable abbrev s_is_telling:Stmt:=top 26
noncomputable abbrev s_need_order:Stmt:=top 27
noncomputable abbrev s_need_telling:Stmt:=top 29
noncomputable abbrev s_bars_as_two:Stmt:=top 31
noncomputable abbrev s_bars_as_three:Stmt:=top 32
noncomputable abbrev s_first_two:Stmt:=top 33
noncomputable abbrev s_first_three:Stmt:=top 34
noncomputable abbrev s_bar:Stmt:=top 35
noncomputable abbrev s_need_unbarred:Stmt:=top 36
noncomputable abbrev s_with_newest:Stmt:=top 46
noncomputable abbrev s_Keeper_init:Stmt:=inClass (top 47) 0
noncomputable abbrev s_Keeper_order:Stmt:=inClass (top 47) 1
noncomputable abbrev s_Keeper_come:Stmt:=inClass (top 47) 2
noncomputable abbrev s_need_text:Stmt:=top 50
noncomputable abbrev s_letter_for:Stmt:=top 51
noncomputable abbrev s_letters_for:Stmt:=top 52
noncomputable abbrev s_keeper_text:Stmt:=top 53
noncomputable abbrev s_telling_in:Stmt:=top 54
noncomputable abbrev s_let_come:Stmt:=top 55
noncomputable abbrev s_keeper_of:Stmt:=top 56
noncomputable abbrev s__law_cell_at:Stmt:=top 58
noncomputable abbrev s__law_mixed:Stmt:=top 59
noncomputable abbrev s__law_draw:Stmt:=top 60
noncomputable abbrev s__law_pick:Stmt:=top 61
noncomputable abbrev s__law_which:Stmt:=top 65
noncomputable abbrev s__law_said:Stmt:=top 66
noncomputable abbrev s__law_barred:Stmt:=top 67
noncomputable abbrev s__law_ask:Stmt:=top 68
noncomputable abbrev s__law_good:Stmt:=top 69
noncomputable abbrev s_law:Stmt:=top 70
theorem sc_is_whole:FnScope ["value","low","high"] ["value","low","high"] (defScope s_is_whole):=⟨rfl,rfl,rfl,by decide +kernel,rfl,by decide +kernel,by decide +kernel⟩
theorem sc_is_thing:FnScope ["value","many"] ["value","many"] (defScope s_is_thing):=⟨rfl,rfl,rfl,by decide +kernel,rfl,by decide +kernel,by decide +kernel⟩
theorem sc_is_pair:FnScope ["value","many"] ["value","many"] (defScope s_is_pair):=⟨rfl,rfl,rfl,by decide +kernel,rfl,by decide +kernel,by decide +kernel⟩
theorem sc_is_rising:FnScope ["pairs"] ["pairs"] (defScope s_is_rising):=⟨rfl,rfl,rfl,by decide +kernel,rfl,by decide +kernel,by decide +kernel⟩
theorem sc_is_order:FnScope ["value","many","pairs"] ["value"] (defScope s_is_order):=⟨rfl,rfl,rfl,by decide +kernel,rfl,by decide +kernel,by decide +kernel⟩
theorem sc_is_telling:FnScope ["value","many"] ["value","many"] (defScope s_is_telling):=⟨rfl,rfl,rfl,by decide +kernel,rfl,by decide +kernel,by decide +kernel⟩
theorem sc_need_order:FnScope ["value"] ["value"] (defScope s_need_order):=⟨rfl,rfl,rfl,by decide +kernel,rfl,by decide +kernel,by decide +kernel⟩
theorem sc_need_telling:FnScope ["value","many"] ["value","many"] (defScope s_need_telling):=⟨rfl,rfl,rfl,by decide +kernel,rfl,by decide +kernel,by decide +kernel⟩
theorem sc_bars_as_two:FnScope ["pairs","a","b","c","d"] ["pairs","a","b","c","d"] (defScope s_bars_as_two):=⟨rfl,rfl,rfl,by decide +kernel,rfl,by decide +kernel,by decide +kernel⟩
theorem sc_bars_as_three:FnScope ["pairs","a","b","c","d"] ["pairs","a","b","c","d"] (defScope s_bars_as_three):=⟨rfl,rfl,rfl,by decide +kernel,rfl,by decide +kernel,by decide +kernel⟩
theorem sc_first_two:FnScope ["pairs","a","b","c","d"] ["pairs"] (defScope s_first_two):=⟨rfl,rfl,rfl,by decide +kernel,rfl,by decide +kernel,by decide +kernel⟩
theorem sc_first_three:FnScope ["many","pairs","a","b","c","d"] ["many","pairs"] (defScope s_first_three):=⟨rfl,rfl,rfl,by decide +kernel,rfl,by decide +kernel,by decide +kernel⟩
theorem sc_bar:FnScope ["order","found"] ["order"] (defScope s_bar):=⟨rfl,rfl,rfl,by decide +kernel,rfl,by decide +kernel,by decide +kernel⟩
theorem sc_need_unbarred:FnScope ["order"] ["order"] (defScope s_need_unbarred):=⟨rfl,rfl,rfl,by decide +kernel,rfl,by decide +kernel,by decide +kernel⟩
theorem sc_with_newest:FnScope ["order","telling","newest","pairs","thing","word"] ["order","telling"] (defScope s_with_newest):=⟨rfl,rfl,rfl,by decide +kernel,rfl,by decide +kernel,by decide +kernel⟩
theorem sc_Keeper_init:FnScope ["self"] ["self"] (defScope s_Keeper_init):=⟨rfl,rfl,rfl,by decide +kernel,rfl,by decide +kernel,by decide +kernel⟩
theorem sc_Keeper_order:FnScope ["self"] ["self"] (defScope s_Keeper_order):=⟨rfl,rfl,rfl,by decide +kernel,rfl,by decide +kernel,by decide +kernel⟩
theorem sc_Keeper_come:FnScope ["self","telling","newest","grown"] ["self","telling"] (defScope s_Keeper_come):=⟨rfl,rfl,rfl,by decide +kernel,rfl,by decide +kernel,by decide +kernel⟩
theorem sc_need_text:FnScope ["value"] ["value"] (defScope s_need_text):=⟨rfl,rfl,rfl,by decide +kernel,rfl,by decide +kernel,by decide +kernel⟩
theorem sc_letter_for:FnScope ["pairs","newest","thing"] ["pairs","newest","thing"] (defScope s_letter_for):=⟨rfl,rfl,rfl,by decide +kernel,rfl,by decide +kernel,by decide +kernel⟩
theorem sc_letters_for:FnScope ["order","newest"] ["order","newest"] (defScope s_letters_for):=⟨rfl,rfl,rfl,by decide +kernel,rfl,by decide +kernel,by decide +kernel⟩
theorem sc_keeper_text:FnScope ["keeper","order"] ["keeper"] (defScope s_keeper_text):=⟨rfl,rfl,rfl,by decide +kernel,rfl,by decide +kernel,by decide +kernel⟩
theorem sc_telling_in:FnScope ["letters"] ["letters"] (defScope s_telling_in):=⟨rfl,rfl,rfl,by decide +kernel,rfl,by decide +kernel,by decide +kernel⟩
theorem sc_let_come:FnScope ["keeper","letters","refusal"] ["keeper","letters"] (defScope s_let_come):=⟨rfl,rfl,rfl,by decide +kernel,rfl,by decide +kernel,by decide +kernel⟩
theorem sc_keeper_of:FnScope ["text","keeper","letters"] ["text"] (defScope s_keeper_of):=⟨rfl,rfl,rfl,by decide +kernel,rfl,by decide +kernel,by decide +kernel⟩
theorem sc__law_cell_at:FnScope ["_law_script","_law_k"] ["_law_script","_law_k"] (defScope s__law_cell_at):=⟨rfl,rfl,rfl,by decide +kernel,rfl,by decide +kernel,by decide +kernel⟩
theorem sc__law_mixed:FnScope ["_law_script","_law_k","_law_many","_law_drawn"] ["_law_script","_law_k","_law_many"] (defScope s__law_mixed):=⟨rfl,rfl,rfl,by decide +kernel,rfl,by decide +kernel,by decide +kernel⟩
theorem sc__law_draw:FnScope ["_law_script","_law_town","_law_many"] ["_law_script","_law_town","_law_many"] (defScope s__law_draw):=⟨rfl,rfl,rfl,by decide +kernel,rfl,by decide +kernel,by decide +kernel⟩
theorem sc__law_pick:FnScope ["_law_script","_law_town","_law_some"] ["_law_script","_law_town","_law_some"] (defScope s__law_pick):=⟨rfl,rfl,rfl,by decide +kernel,rfl,by decide +kernel,by decide +kernel⟩
theorem sc__law_which:FnScope ["_law_e","_law_own"] ["_law_e"] (defScope s__law_which):=⟨rfl,rfl,rfl,by decide +kernel,rfl,by decide +kernel,by decide +kernel⟩
theorem sc__law_said:FnScope ["_law_script","_law_town","_law_most","_law_spoil","_law_step","_law_values","_law_made","_law_at","_law_words","_law_other","_law_away"] ["_law_script","_law_town","_law_most"] (defScope s__law_said):=⟨rfl,rfl,rfl,by decide +kernel,rfl,by decide +kernel,by decide +kernel⟩
theorem sc__law_barred:FnScope ["_law_order","_law_many","_law_pairs","_law_a","_law_b","_law_c","_law_d","_law_rest"] ["_law_order"] (defScope s__law_barred):=⟨rfl,rfl,rfl,by decide +kernel,rfl,by decide +kernel,by decide +kernel⟩
theorem sc__law_ask:FnScope ["_law_text","_law_e"] ["_law_text"] (defScope s__law_ask):=⟨rfl,rfl,rfl,by decide +kernel,rfl,by decide +kernel,by decide +kernel⟩
theorem sc__law_good:FnScope ["_law_text","_law_words","_law_pairs","_law_at","_law_word"] ["_law_text"] (defScope s__law_good):=⟨rfl,rfl,rfl,by decide +kernel,rfl,by decide +kernel,by decide +kernel⟩
theorem sc_law:FnScope ["_law_script","_law_town","_law_times","_law_said_here","_law_text","_law_k","_law_at","_law_put","_law_long","_law_odd_here"] ["_law_script"] (defScope s_law):=⟨rfl,rfl,rfl,by decide +kernel,rfl,by decide +kernel,by decide +kernel⟩
set_option genSizeOf false in
set_option genInjectivity false in
structure Ad where
 a_is_whole:Addr
 d_is_whole:FuncData
 a_is_thing:Addr
 d_is_thing:FuncData
 a_is_pair:Addr
 d_is_pair:FuncData
 a_is_rising:Addr
 d_is_rising:FuncData
 a_is_order:Addr
 d_is_order:FuncData
 a_is_telling:Addr
 d_is_telling:FuncData
 a_need_order:Addr
 d_need_order:FuncData
 a_need_telling:Addr
 d_need_telling:FuncData
 a_bars_as_two:Addr
 d_bars_as_two:FuncData
 a_bars_as_three:Addr
 d_bars_as_three:FuncData
 a_first_two:Addr
 d_first_two:FuncData
 a_first_three:Addr
 d_first_three:FuncData
 a_bar:Addr
 d_bar:FuncData
 a_need_unbarred:Addr
 d_need_unbarred:FuncData
 a_with_newest:Addr
 d_with_newest:FuncData
 a_Keeper_init:Addr
 d_Keeper_init:FuncData
 a_Keeper_order:Addr
 d_Keeper_order:FuncData
 a_Keeper_come:Addr
 d_Keeper_come:FuncData
 a_need_text:Addr
 d_need_text:FuncData
 a_letter_for:Addr
 d_letter_for:FuncData
 a_letters_for:Addr
 d_letters_for:FuncData
 a_keeper_text:Addr
 d_keeper_text:FuncData
 a_telling_in:Addr
 d_telling_in:FuncData
 a_let_come:Addr
 d_let_come:FuncData
 a_keeper_of:Addr
 d_keeper_of:FuncData
 a__law_cell_at:Addr
 d__law_cell_at:FuncData
 a__law_mixed:Addr
 d__law_mixed:FuncData
 a__law_draw:Addr
 d__law_draw:FuncData
 a__law_pick:Addr
 d__law_pick:FuncData
 a__law_which:Addr
 d__law_which:FuncData
 a__law_said:Addr
 d__law_said:FuncData
 a__law_barred:Addr
 d__law_barred:FuncData
 a__law_ask:Addr
 d__law_ask:FuncData
 a__law_good:Addr
 d__law_good:FuncData
 a_law:Addr
 d_law:FuncData
 c_Barred:Addr
 c_Full:Addr
 c_NoCount:Addr
 c_NoNames:Addr
 c_NoNumbers:Addr
 c_NoOrder:Addr
 c_NoRow:Addr
 c_NoSeveral:Addr
 c_NoStep:Addr
 c_NoTelling:Addr
 c_NoText:Addr
 c_NoThing:Addr
 c_Nothing:Addr
 c_OrderError:Addr
 c_TELLING_WORDS:Addr
 c_Keeper:Addr
structure Txt (K:PySem.W.Frag) (mg:Str→Option Value) (t:Ad):Prop where
 m_is_whole:mg "is_whole"=some (.ref t.a_is_whole)
 F_is_whole:Fun K "is_whole" "is_whole" s_is_whole t.a_is_whole t.d_is_whole
 b_is_whole:Binds K t.d_is_whole ["value","low","high"] []
 m_is_thing:mg "is_thing"=some (.ref t.a_is_thing)
 F_is_thing:Fun K "is_thing" "is_thing" s_is_thing t.a_is_thing t.d_is_thing
 b_is_thing:Binds K t.d_is_thing ["value","many"] []
 m_is_pair:mg "is_pair"=some (.ref t.a_is_pair)
 F_is_pair:Fun K "is_pair" "is_pair" s_is_pair t.a_is_pair t.d_is_pair
 b_is_pair:Binds K t.d_is_pair ["value","many"] []
 m_is_rising:mg "is_rising"=some (.ref t.a_is_rising)
 F_is_rising:Fun K "is_rising" "is_rising" s_is_rising t.a_is_rising t.d_is_rising
 b_is_rising:Binds K t.d_is_rising ["pairs"] []
 m_is_order:mg "is_order"=some (.ref t.a_is_order)
 F_is_order:Fun K "is_order" "is_order" s_is_order t.a_is_order t.d_is_order
 b_is_order:Binds K t.d_is_order ["value"] []
 m_is_telling:mg "is_telling"=some (.ref t.a_is_telling)
 F_is_telling:Fun K "is_telling" "is_telling" s_is_telling t.a_is_telling t.d_is_telling
 b_is_telling:Binds K t.d_is_telling ["value","many"] []
 m_need_order:mg "need_order"=some (.ref t.a_need_order)
 F_need_order:Fun K "need_order" "need_order" s_need_order t.a_need_order t.d_need_order
 b_need_order:Binds K t.d_need_order ["value"] []
 m_need_telling:mg "need_telling"=some (.ref t.a_need_telling)
 F_need_telling:Fun K "need_telling" "need_telling" s_need_telling t.a_need_telling t.d_need_telling
 b_need_telling:Binds K t.d_need_telling ["value","many"] []
 m_bars_as_two:mg "bars_as_two"=some (.ref t.a_bars_as_two)
 F_bars_as_two:Fun K "bars_as_two" "bars_as_two" s_bars_as_two t.a_bars_as_two t.d_bars_as_two
 b_bars_as_two:Binds K t.d_bars_as_two ["pairs","a","b","c","d"] []
 m_bars_as_three:mg "bars_as_three"=some (.ref t.a_bars_as_three)
 F_bars_as_three:Fun K "bars_as_three" "bars_as_three" s_bars_as_three t.a_bars_as_three t.d_bars_as_three
 b_bars_as_three:Binds K t.d_bars_as_three ["pairs","a","b","c","d"] []
 m_first_two:mg "first_two"=some (.ref t.a_first_two)
 F_first_two:Fun K "first_two" "first_two" s_first_two t.a_first_two t.d_first_two
 b_first_two:Binds K t.d_first_two ["pairs"] []
 m_first_three:mg "first_three"=some (.ref t.a_first_three)
 F_first_three:Fun K "first_three" "first_three" s_first_three t.a_first_three t.d_first_three
 b_first_three:Binds K t.d_first_three ["many","pairs"] []
 m_bar:mg "bar"=some (.ref t.a_bar)
 F_bar:Fun K "bar" "bar" s_bar t.a_bar t.d_bar
 b_bar:Binds K t.d_bar ["order"] []
 m_need_unbarred:mg "need_unbarred"=some (.ref t.a_need_unbarred)
 F_need_unbarred:Fun K "need_unbarred" "need_unbarred" s_need_unbarred t.a_need_unbarred t.d_need_unbarred
 b_need_unbarred:Binds K t.d_need_unbarred ["order"] []
 m_with_newest:mg "with_newest"=some (.ref t.a_with_newest)
 F_with_newest:Fun K "with_newest" "with_newest" s_with_newest t.a_with_newest t.d_with_newest
 b_with_newest:Binds K t.d_with_newest ["order","telling"] []
 F_Keeper_init:Fun K "__init__" "Keeper.__init__" s_Keeper_init t.a_Keeper_init t.d_Keeper_init
 b_Keeper_init:Binds K t.d_Keeper_init ["self"] []
 K_Keeper:Mk K t.c_Keeper t.a_Keeper_init
 F_Keeper_order:Fun K "order" "Keeper.order" s_Keeper_order t.a_Keeper_order t.d_Keeper_order
 b_Keeper_order:Binds K t.d_Keeper_order ["self"] []
 M_Keeper_order:Meth K t.c_Keeper "order" t.a_Keeper_order
 F_Keeper_come:Fun K "come" "Keeper.come" s_Keeper_come t.a_Keeper_come t.d_Keeper_come
 b_Keeper_come:Binds K t.d_Keeper_come ["self","telling"] []
 M_Keeper_come:Meth K t.c_Keeper "come" t.a_Keeper_come
 m_need_text:mg "need_text"=some (.ref t.a_need_text)
 F_need_text:Fun K "need_text" "need_text" s_need_text t.a_need_text t.d_need_text
 b_need_text:Binds K t.d_need_text ["value"] []
 m_letter_for:mg "letter_for"=some (.ref t.a_letter_for)
 F_letter_for:Fun K "letter_for" "letter_for" s_letter_for t.a_letter_for t.d_letter_for
 b_letter_for:Binds K t.d_letter_for ["pairs","newest","thing"] []
 m_letters_for:mg "letters_for"=some (.ref t.a_letters_for)
 F_letters_for:Fun K "letters_for" "letters_for" s_letters_for t.a_letters_for t.d_letters_for
 b_letters_for:Binds K t.d_letters_for ["order","newest"] []
 m_keeper_text:mg "keeper_text"=some (.ref t.a_keeper_text)
 F_keeper_text:Fun K "keeper_text" "keeper_text" s_keeper_text t.a_keeper_text t.d_keeper_text
 b_keeper_text:Binds K t.d_keeper_text ["keeper"] []
 m_telling_in:mg "telling_in"=some (.ref t.a_telling_in)
 F_telling_in:Fun K "telling_in" "telling_in" s_telling_in t.a_telling_in t.d_telling_in
 b_telling_in:Binds K t.d_telling_in ["letters"] []
 m_let_come:mg "let_come"=some (.ref t.a_let_come)
 F_let_come:Fun K "let_come" "let_come" s_let_come t.a_let_come t.d_let_come
 b_let_come:Binds K t.d_let_come ["keeper","letters"] []
 m_keeper_of:mg "keeper_of"=some (.ref t.a_keeper_of)
 F_keeper_of:Fun K "keeper_of" "keeper_of" s_keeper_of t.a_keeper_of t.d_keeper_of
 b_keeper_of:Binds K t.d_keeper_of ["text"] []
 m__law_cell_at:mg "_law_cell_at"=some (.ref t.a__law_cell_at)
 F__law_cell_at:Fun K "_law_cell_at" "_law_cell_at" s__law_cell_at t.a__law_cell_at t.d__law_cell_at
 b__law_cell_at:Binds K t.d__law_cell_at ["_law_script","_law_k"] []
 m__law_mixed:mg "_law_mixed"=some (.ref t.a__law_mixed)
 F__law_mixed:Fun K "_law_mixed" "_law_mixed" s__law_mixed t.a__law_mixed t.d__law_mixed
 b__law_mixed:Binds K t.d__law_mixed ["_law_script","_law_k","_law_many"] []
 m__law_draw:mg "_law_draw"=some (.ref t.a__law_draw)
 F__law_draw:Fun K "_law_draw" "_law_draw" s__law_draw t.a__law_draw t.d__law_draw
 b__law_draw:Binds K t.d__law_draw ["_law_script","_law_town","_law_many"] []
 m__law_pick:mg "_law_pick"=some (.ref t.a__law_pick)
 F__law_pick:Fun K "_law_pick" "_law_pick" s__law_pick t.a__law_pick t.d__law_pick
 b__law_pick:Binds K t.d__law_pick ["_law_script","_law_town","_law_some"] []
 m__law_which:mg "_law_which"=some (.ref t.a__law_which)
 F__law_which:Fun K "_law_which" "_law_which" s__law_which t.a__law_which t.d__law_which
 b__law_which:Binds K t.d__law_which ["_law_e"] []
 m__law_said:mg "_law_said"=some (.ref t.a__law_said)
 F__law_said:Fun K "_law_said" "_law_said" s__law_said t.a__law_said t.d__law_said
 b__law_said:Binds K t.d__law_said ["_law_script","_law_town","_law_most"] []
 m__law_barred:mg "_law_barred"=some (.ref t.a__law_barred)
 F__law_barred:Fun K "_law_barred" "_law_barred" s__law_barred t.a__law_barred t.d__law_barred
 b__law_barred:Binds K t.d__law_barred ["_law_order"] []
 m__law_ask:mg "_law_ask"=some (.ref t.a__law_ask)
 F__law_ask:Fun K "_law_ask" "_law_ask" s__law_ask t.a__law_ask t.d__law_ask
 b__law_ask:Binds K t.d__law_ask ["_law_text"] []
 m__law_good:mg "_law_good"=some (.ref t.a__law_good)
 F__law_good:Fun K "_law_good" "_law_good" s__law_good t.a__law_good t.d__law_good
 b__law_good:Binds K t.d__law_good ["_law_text"] []
 m_law:mg "law"=some (.ref t.a_law)
 F_law:Fun K "law" "law" s_law t.a_law t.d_law
 b_law:Binds K t.d_law ["_law_script"] []
 g_Keeper:mg "Keeper"=some (.ref t.c_Keeper)
 cl_Keeper:Cls K t.c_Keeper
 na_Keeper_kept:NoAttr K t.c_Keeper "kept"
 n_ValueError:mg "ValueError"=none
 n_all:mg "all"=none
 n_bool:mg "bool"=none
 n_enumerate:mg "enumerate"=none
 n_int:mg "int"=none
 n_isinstance:mg "isinstance"=none
 n_len:mg "len"=none
 n_list:mg "list"=none
 n_range:mg "range"=none
 n_sorted:mg "sorted"=none
 n_str:mg "str"=none
 n_tuple:mg "tuple"=none
 g_Barred:mg "Barred"=some (.ref t.c_Barred)
 Z_Barred:ExcC K t.c_Barred
 v_Barred:PySem.W.kitOne K (.ref t.c_Barred) (.type "ValueError")=some true
 x_Barred:PySem.W.exmOne K (.ref t.c_Barred) (.ref t.c_OrderError)=some true
 q_Barred_Full:PySem.W.kitOne K (.ref t.c_Barred) (.ref t.c_Full)=some false
 q_Barred_NoCount:PySem.W.kitOne K (.ref t.c_Barred) (.ref t.c_NoCount)=some false
 q_Barred_NoNames:PySem.W.kitOne K (.ref t.c_Barred) (.ref t.c_NoNames)=some false
 q_Barred_NoNumbers:PySem.W.kitOne K (.ref t.c_Barred) (.ref t.c_NoNumbers)=some false
 q_Barred_NoOrder:PySem.W.kitOne K (.ref t.c_Barred) (.ref t.c_NoOrder)=some false
 q_Barred_NoRow:PySem.W.kitOne K (.ref t.c_Barred) (.ref t.c_NoRow)=some false
 q_Barred_NoSeveral:PySem.W.kitOne K (.ref t.c_Barred) (.ref t.c_NoSeveral)=some false
 q_Barred_NoStep:PySem.W.kitOne K (.ref t.c_Barred) (.ref t.c_NoStep)=some false
 q_Barred_NoTelling:PySem.W.kitOne K (.ref t.c_Barred) (.ref t.c_NoTelling)=some false
 q_Barred_NoText:PySem.W.kitOne K (.ref t.c_Barred) (.ref t.c_NoText)=some false
 q_Barred_NoThing:PySem.W.kitOne K (.ref t.c_Barred) (.ref t.c_NoThing)=some false
 q_Barred_Nothing:PySem.W.kitOne K (.ref t.c_Barred) (.ref t.c_Nothing)=some false
 g_Full:mg "Full"=some (.ref t.c_Full)
 Z_Full:ExcC K t.c_Full
 v_Full:PySem.W.kitOne K (.ref t.c_Full) (.type "ValueError")=some true
 x_Full:PySem.W.exmOne K (.ref t.c_Full) (.ref t.c_OrderError)=some true
 q_Full_Barred:PySem.W.kitOne K (.ref t.c_Full) (.ref t.c_Barred)=some false
 q_Full_NoCount:PySem.W.kitOne K (.ref t.c_Full) (.ref t.c_NoCount)=some false
 q_Full_NoNames:PySem.W.kitOne K (.ref t.c_Full) (.ref t.c_NoNames)=some false
 q_Full_NoNumbers:PySem.W.kitOne K (.ref t.c_Full) (.ref t.c_NoNumbers)=some false
 q_Full_NoOrder:PySem.W.kitOne K (.ref t.c_Full) (.ref t.c_NoOrder)=some false
 q_Full_NoRow:PySem.W.kitOne K (.ref t.c_Full) (.ref t.c_NoRow)=some false
 q_Full_NoSeveral:PySem.W.kitOne K (.ref t.c_Full) (.ref t.c_NoSeveral)=some false
 q_Full_NoStep:PySem.W.kitOne K (.ref t.c_Full) (.ref t.c_NoStep)=some false
 q_Full_NoTelling:PySem.W.kitOne K (.ref t.c_Full) (.ref t.c_NoTelling)=some false
 q_Full_NoText:PySem.W.kitOne K (.ref t.c_Full) (.ref t.c_NoText)=some false
 q_Full_NoThing:PySem.W.kitOne K (.ref t.c_Full) (.ref t.c_NoThing)=some false
 q_Full_Nothing:PySem.W.kitOne K (.ref t.c_Full) (.ref t.c_Nothing)=some false
 g_NoCount:mg "NoCount"=some (.ref t.c_NoCount)
 g_NoNames:mg "NoNames"=some (.ref t.c_NoNames)
 g_NoNumbers:mg "NoNumbers"=some (.ref t.c_NoNumbers)
 g_NoOrder:mg "NoOrder"=some (.ref t.c_NoOrder)
 g_NoRow:mg "NoRow"=some (.ref t.c_NoRow)
 g_NoSeveral:mg "NoSeveral"=some (.ref t.c_NoSeveral)
 g_NoStep:mg "NoStep"=some (.ref t.c_NoStep)
 g_NoTelling:mg "NoTelling"=some (.ref t.c_NoTelling)
 Z_NoTelling:ExcC K t.c_NoTelling
 v_NoTelling:PySem.W.kitOne K (.ref t.c_NoTelling) (.type "ValueError")=some true
 x_NoTelling:PySem.W.exmOne K (.ref t.c_NoTelling) (.ref t.c_OrderError)=some true
 q_NoTelling_Barred:PySem.W.kitOne K (.ref t.c_NoTelling) (.ref t.c_Barred)=some false
 q_NoTelling_Full:PySem.W.kitOne K (.ref t.c_NoTelling) (.ref t.c_Full)=some false
 q_NoTelling_NoCount:PySem.W.kitOne K (.ref t.c_NoTelling) (.ref t.c_NoCount)=some false
 q_NoTelling_NoNames:PySem.W.kitOne K (.ref t.c_NoTelling) (.ref t.c_NoNames)=some false
 q_NoTelling_NoNumbers:PySem.W.kitOne K (.ref t.c_NoTelling) (.ref t.c_NoNumbers)=some false
 q_NoTelling_NoOrder:PySem.W.kitOne K (.ref t.c_NoTelling) (.ref t.c_NoOrder)=some false
 q_NoTelling_NoRow:PySem.W.kitOne K (.ref t.c_NoTelling) (.ref t.c_NoRow)=some false
 q_NoTelling_NoSeveral:PySem.W.kitOne K (.ref t.c_NoTelling) (.ref t.c_NoSeveral)=some false
 q_NoTelling_NoStep:PySem.W.kitOne K (.ref t.c_NoTelling) (.ref t.c_NoStep)=some false
 q_NoTelling_NoText:PySem.W.kitOne K (.ref t.c_NoTelling) (.ref t.c_NoText)=some false
 q_NoTelling_NoThing:PySem.W.kitOne K (.ref t.c_NoTelling) (.ref t.c_NoThing)=some false
 q_NoTelling_Nothing:PySem.W.kitOne K (.ref t.c_NoTelling) (.ref t.c_Nothing)=some false
 g_NoText:mg "NoText"=some (.ref t.c_NoText)
 Z_NoText:ExcC K t.c_NoText
 v_NoText:PySem.W.kitOne K (.ref t.c_NoText) (.type "ValueError")=some true
 x_NoText:PySem.W.exmOne K (.ref t.c_NoText) (.ref t.c_OrderError)=some true
 q_NoText_Barred:PySem.W.kitOne K (.ref t.c_NoText) (.ref t.c_Barred)=some false
 q_NoText_Full:PySem.W.kitOne K (.ref t.c_NoText) (.ref t.c_Full)=some false
 q_NoText_NoCount:PySem.W.kitOne K (.ref t.c_NoText) (.ref t.c_NoCount)=some false
 q_NoText_NoNames:PySem.W.kitOne K (.ref t.c_NoText) (.ref t.c_NoNames)=some false
 q_NoText_NoNumbers:PySem.W.kitOne K (.ref t.c_NoText) (.ref t.c_NoNumbers)=some false
 q_NoText_NoOrder:PySem.W.kitOne K (.ref t.c_NoText) (.ref t.c_NoOrder)=some false
 q_NoText_NoRow:PySem.W.kitOne K (.ref t.c_NoText) (.ref t.c_NoRow)=some false
 q_NoText_NoSeveral:PySem.W.kitOne K (.ref t.c_NoText) (.ref t.c_NoSeveral)=some false
 q_NoText_NoStep:PySem.W.kitOne K (.ref t.c_NoText) (.ref t.c_NoStep)=some false
 q_NoText_NoTelling:PySem.W.kitOne K (.ref t.c_NoText) (.ref t.c_NoTelling)=some false
 q_NoText_NoThing:PySem.W.kitOne K (.ref t.c_NoText) (.ref t.c_NoThing)=some false
 q_NoText_Nothing:PySem.W.kitOne K (.ref t.c_NoText) (.ref t.c_Nothing)=some false
 g_NoThing:mg "NoThing"=some (.ref t.c_NoThing)
 g_Nothing:mg "Nothing"=some (.ref t.c_Nothing)
 g_OrderError:mg "OrderError"=some (.ref t.c_OrderError)
 c_MOST_THINGS:∃ tk,mg "MOST_THINGS"=some (.int 8 tk)
 g_TELLING_WORDS:mg "TELLING_WORDS"=some (.ref t.c_TELLING_WORDS)
 s_TELLING_WORDS:∀ H:Hp,SqT K H t.c_TELLING_WORDS [.str "less",.str "more",.str "beside"]
structure XF (K:PySem.W.Frag) (mg:Str→Option Value) (c_Barred c_Full c_NoCount c_NoNames c_NoNumbers c_NoOrder c_NoRow c_NoSeveral c_NoStep c_NoTelling c_NoText c_NoThing c_Nothing c_OrderError:Addr):Prop where
 g_Barred:mg "Barred"=some (.ref c_Barred)
 Z_Barred:ExcC K c_Barred
 v_Barred:PySem.W.kitOne K (.ref c_Barred) (.type "ValueError")=some true
 x_Barred:PySem.W.exmOne K (.ref c_Barred) (.ref c_OrderError)=some true
 q_Barred_Full:PySem.W.kitOne K (.ref c_Barred) (.ref c_Full)=some false
 q_Barred_NoCount:PySem.W.kitOne K (.ref c_Barred) (.ref c_NoCount)=some false
 q_Barred_NoNames:PySem.W.kitOne K (.ref c_Barred) (.ref c_NoNames)=some false
 q_Barred_NoNumbers:PySem.W.kitOne K (.ref c_Barred) (.ref c_NoNumbers)=some false
 q_Barred_NoOrder:PySem.W.kitOne K (.ref c_Barred) (.ref c_NoOrder)=some false
 q_Barred_NoRow:PySem.W.kitOne K (.ref c_Barred) (.ref c_NoRow)=some false
 q_Barred_NoSeveral:PySem.W.kitOne K (.ref c_Barred) (.ref c_NoSeveral)=some false
 q_Barred_NoStep:PySem.W.kitOne K (.ref c_Barred) (.ref c_NoStep)=some false
 q_Barred_NoTelling:PySem.W.kitOne K (.ref c_Barred) (.ref c_NoTelling)=some false
 q_Barred_NoText:PySem.W.kitOne K (.ref c_Barred) (.ref c_NoText)=some false
 q_Barred_NoThing:PySem.W.kitOne K (.ref c_Barred) (.ref c_NoThing)=some false
 q_Barred_Nothing:PySem.W.kitOne K (.ref c_Barred) (.ref c_Nothing)=some false
 g_Full:mg "Full"=some (.ref c_Full)
 Z_Full:ExcC K c_Full
 v_Full:PySem.W.kitOne K (.ref c_Full) (.type "ValueError")=some true
 x_Full:PySem.W.exmOne K (.ref c_Full) (.ref c_OrderError)=some true
 q_Full_Barred:PySem.W.kitOne K (.ref c_Full) (.ref c_Barred)=some false
 q_Full_NoCount:PySem.W.kitOne K (.ref c_Full) (.ref c_NoCount)=some false
 q_Full_NoNames:PySem.W.kitOne K (.ref c_Full) (.ref c_NoNames)=some false
 q_Full_NoNumbers:PySem.W.kitOne K (.ref c_Full) (.ref c_NoNumbers)=some false
 q_Full_NoOrder:PySem.W.kitOne K (.ref c_Full) (.ref c_NoOrder)=some false
 q_Full_NoRow:PySem.W.kitOne K (.ref c_Full) (.ref c_NoRow)=some false
 q_Full_NoSeveral:PySem.W.kitOne K (.ref c_Full) (.ref c_NoSeveral)=some false
 q_Full_NoStep:PySem.W.kitOne K (.ref c_Full) (.ref c_NoStep)=some false
 q_Full_NoTelling:PySem.W.kitOne K (.ref c_Full) (.ref c_NoTelling)=some false
 q_Full_NoText:PySem.W.kitOne K (.ref c_Full) (.ref c_NoText)=some false
 q_Full_NoThing:PySem.W.kitOne K (.ref c_Full) (.ref c_NoThing)=some false
 q_Full_Nothing:PySem.W.kitOne K (.ref c_Full) (.ref c_Nothing)=some false
 g_NoCount:mg "NoCount"=some (.ref c_NoCount)
 g_NoNames:mg "NoNames"=some (.ref c_NoNames)
 g_NoNumbers:mg "NoNumbers"=some (.ref c_NoNumbers)
 g_NoOrder:mg "NoOrder"=some (.ref c_NoOrder)
 g_NoRow:mg "NoRow"=some (.ref c_NoRow)
 g_NoSeveral:mg "NoSeveral"=some (.ref c_NoSeveral)
 g_NoStep:mg "NoStep"=some (.ref c_NoStep)
 g_NoTelling:mg "NoTelling"=some (.ref c_NoTelling)
 Z_NoTelling:ExcC K c_NoTelling
 v_NoTelling:PySem.W.kitOne K (.ref c_NoTelling) (.type "ValueError")=some true
 x_NoTelling:PySem.W.exmOne K (.ref c_NoTelling) (.ref c_OrderError)=some true
 q_NoTelling_Barred:PySem.W.kitOne K (.ref c_NoTelling) (.ref c_Barred)=some false
 q_NoTelling_Full:PySem.W.kitOne K (.ref c_NoTelling) (.ref c_Full)=some false
 q_NoTelling_NoCount:PySem.W.kitOne K (.ref c_NoTelling) (.ref c_NoCount)=some false
 q_NoTelling_NoNames:PySem.W.kitOne K (.ref c_NoTelling) (.ref c_NoNames)=some false
 q_NoTelling_NoNumbers:PySem.W.kitOne K (.ref c_NoTelling) (.ref c_NoNumbers)=some false
 q_NoTelling_NoOrder:PySem.W.kitOne K (.ref c_NoTelling) (.ref c_NoOrder)=some false
 q_NoTelling_NoRow:PySem.W.kitOne K (.ref c_NoTelling) (.ref c_NoRow)=some false
 q_NoTelling_NoSeveral:PySem.W.kitOne K (.ref c_NoTelling) (.ref c_NoSeveral)=some false
 q_NoTelling_NoStep:PySem.W.kitOne K (.ref c_NoTelling) (.ref c_NoStep)=some false
 q_NoTelling_NoText:PySem.W.kitOne K (.ref c_NoTelling) (.ref c_NoText)=some false
 q_NoTelling_NoThing:PySem.W.kitOne K (.ref c_NoTelling) (.ref c_NoThing)=some false
 q_NoTelling_Nothing:PySem.W.kitOne K (.ref c_NoTelling) (.ref c_Nothing)=some false
 g_NoText:mg "NoText"=some (.ref c_NoText)
 Z_NoText:ExcC K c_NoText
 v_NoText:PySem.W.kitOne K (.ref c_NoText) (.type "ValueError")=some true
 x_NoText:PySem.W.exmOne K (.ref c_NoText) (.ref c_OrderError)=some true
 q_NoText_Barred:PySem.W.kitOne K (.ref c_NoText) (.ref c_Barred)=some false
 q_NoText_Full:PySem.W.kitOne K (.ref c_NoText) (.ref c_Full)=some false
 q_NoText_NoCount:PySem.W.kitOne K (.ref c_NoText) (.ref c_NoCount)=some false
 q_NoText_NoNames:PySem.W.kitOne K (.ref c_NoText) (.ref c_NoNames)=some false
 q_NoText_NoNumbers:PySem.W.kitOne K (.ref c_NoText) (.ref c_NoNumbers)=some false
 q_NoText_NoOrder:PySem.W.kitOne K (.ref c_NoText) (.ref c_NoOrder)=some false
 q_NoText_NoRow:PySem.W.kitOne K (.ref c_NoText) (.ref c_NoRow)=some false
 q_NoText_NoSeveral:PySem.W.kitOne K (.ref c_NoText) (.ref c_NoSeveral)=some false
 q_NoText_NoStep:PySem.W.kitOne K (.ref c_NoText) (.ref c_NoStep)=some false
 q_NoText_NoTelling:PySem.W.kitOne K (.ref c_NoText) (.ref c_NoTelling)=some false
 q_NoText_NoThing:PySem.W.kitOne K (.ref c_NoText) (.ref c_NoThing)=some false
 q_NoText_Nothing:PySem.W.kitOne K (.ref c_NoText) (.ref c_Nothing)=some false
 g_NoThing:mg "NoThing"=some (.ref c_NoThing)
 g_Nothing:mg "Nothing"=some (.ref c_Nothing)
 g_OrderError:mg "OrderError"=some (.ref c_OrderError)
end My
local macro_rules | `(tactic| walk_at "rd")=>`(tactic| (repeat (first | with_reducible refine L2.rd_seq ?_ | with_reducible refine L2.rd_next ?_ | with_reducible refine L2.rd_ifS ?_ | with_reducible refine L2.rd_ret ?_ | with_reducible refine L2.rd_drop ?_ | with_reducible refine L2.rd_asg ?_ | with_reducible refine L2.rd_gname ?_ | ((with_reducible refine' L2.rd_var ?qe1 ?_);(case qe1=>exact rfl)) | with_reducible refine L2.rd_C ?_ | with_reducible refine L2.rd_for ?_ | with_reducible refine L2.rd_lc ?_ | with_reducible refine L2.rd_rng1 ?_ | with_reducible refine L2.rd_itup ?_ | with_reducible refine L2.rd_ilst ?_ | with_reducible refine L2.rd_yes ?_ | with_reducible refine L2.rd_ifE ?_ | with_reducible refine L2.rd_raise ?_ | with_reducible refine L2.rd_while ?_ | with_reducible refine L2.rd_gsub ?_ | with_reducible refine L2.rd_bm ?_ | with_reducible refine L2.rd_gcons ?_ | with_reducible refine L2.rd_gnil ?_ | with_reducible refine L2.rd_test ?_ | with_reducible refine L2.rd_B ?_ | with_reducible refine L2.rd_bl ?_ | with_reducible refine L2.rd_op ?_ | with_reducible refine L2.rd_un ?_ | with_reducible refine L2.rd_I0 ?_ | with_reducible refine L2.rd_and ?_ | with_reducible refine L2.rd_or ?_ | with_reducible refine L2.rd_not ?_ | with_reducible refine L2.rd_andV ?_ | with_reducible refine L2.rd_orV ?_ | with_reducible refine L2.rd_notV ?_ | with_reducible refine L2.rd_blE ?_ | with_reducible refine L2.rd_nil ?_ | with_reducible refine L2.rd_cons ?_ | with_reducible refine L2.rd_tup ?_ | with_reducible refine L2.rd_lst ?_ | with_reducible refine L2.rd_call ?_ | with_reducible refine L2.rd_cb ?_ | with_reducible refine L2.rd_chain ?_ | with_reducible refine L2.rd_fld ?_ | with_reducible refine L2.rd_meth ?_ | with_reducible refine L2.rd_sfld ?_ | with_reducible refine L2.rd_bm0 ?_ | with_reducible refine L2.rd_eqI ?_ | with_reducible refine L2.rd_neI ?_ | with_reducible refine L2.rd_eqB ?_ | with_reducible refine L2.rd_neB ?_ | with_reducible refine L2.rd_isN ?_ | with_reducible refine L2.rd_notN ?_ | with_reducible refine L2.rd_max2 ?_ | with_reducible refine L2.rd_int1 ?_ | with_reducible refine L2.iteT ?_ | with_reducible refine L2.iteF ?_ | with_reducible refine L2.if_nn ?_ | with_reducible refine L2.if_rn ?_ | with_reducible refine L2.if_in ?_ | with_reducible refine L2.if_nnN ?_ | with_reducible refine L2.if_rnN ?_ | with_reducible refine L2.if_inN ?_ | with_reducible refine L2.ifNT ?_ | with_reducible refine L2.ifNF ?_ | ((with_reducible refine' L2.rd_isBool ?qe1 ?_);(case qe1=>assumption)) | ((with_reducible refine' L2.rd_isInt ?qe1 ?_);(case qe1=>assumption)) | ((with_reducible refine' L2.rd_isTup ?qe1 ?_);(case qe1=>assumption)) | ((with_reducible refine' L2.rd_isLst ?qe1 ?_);(case qe1=>assumption)) | ((with_reducible refine' L2.rd_isStr ?qe1 ?_);(case qe1=>assumption)) | ((with_reducible refine' L2.rd_all ?qe1 ?_);(case qe1=>assumption)) | ((with_reducible refine' L2.rd_any ?qe1 ?_);(case qe1=>assumption)) | ((with_reducible refine' L2.rd_lenT ?qe1 ?_);(case qe1=>assumption)) | ((with_reducible refine' L2.rd_lenL ?qe1 ?_);(case qe1=>assumption)) | ((with_reducible refine' L2.rd_tupL ?qe1 ?_);(case qe1=>assumption)) | ((with_reducible refine' L2.rd_ixT ?qe1 ?qf1 ?_);(case qe1=>assumption);(case qf1=>exact rfl)) | ((with_reducible refine' L2.rd_ixL ?qe1 ?qf1 ?_);(case qe1=>assumption);(case qf1=>exact rfl)) | ((with_reducible refine L2.ifT ?_ ?_);with_reducible rfl) | ((with_reducible refine L2.ifF ?_ ?_);with_reducible rfl) | (dsimp only))))
namespace My
open PySem L2
section
variable {P:Program} {w:World} {K:PySem.W.Frag} {mg:Str→Option Value} {base:Heap} {t:Ad}
noncomputable def wholeB (d:PyData) (lo hi:Int):Bool:=match d with | .int i=>decide (lo≤i)&&decide (i≤hi) | _=>false
set_option genSizeOf false in
set_option genInjectivity false in
inductive sp_is_whole (vs:List V) (H:Hp) (Q:VK) (zz3:XK):Prop where
 | mk (x lo hi d:_) (zh0:vs=[x,.int lo,.int hi]) (zh1:Is H x d) (zh2:Q (.bl (wholeB d lo hi)) H):sp_is_whole vs H Q zz3
theorem ok_is_whole (T:Txt K mg t):FnOk P w K mg base CX0 1 t.a_is_whole t.d_is_whole ["value","low","high"] sp_is_whole:=by
 refine T.F_is_whole.ok sc_is_whole (fun vs H Q E h=>?_) (fun cdv A outer s H vs Q E hr h=>?_)
 ·obtain ⟨x,lo,hi,d,rfl,_⟩:=h
  rfl
 ·obtain ⟨x,lo,hi,d,rfl,hx,q⟩:=h
  refine ⟨_,(pss_cons (ps_if (PW.pt (pw_or (pt_val (pe_callB c_isinst (by rfl) T.n_isinstance bt_isinstance (pa_cons (pv 0) (pa_cons (pe_bltn (v:=.ty "bool") rfl T.n_bool bt_bool rfl) pa_nil)))) (pw_or1 (pt_not (pt_val (pe_callB c_isinst (by rfl) T.n_isinstance bt_isinstance (pa_cons (pv 0) (pa_cons (pe_bltn (v:=.ty "int") rfl T.n_int bt_int rfl) pa_nil)))))))) (pss_one (ps_ret pe_bl)) pss_nil)
   (pss_one (ps_ret (pe_chain op_le op_le (pv 1) (pv 0) (pv 2))))),?_⟩
  walk_at "rd"
  have hx2:=hx
  cases hx with
  | int i=>
   walk_at "rd"
   refine ifB (fun h=>?_) (fun h=>?_) <;> walk_at "rd" <;> simpa [wholeB,h] using q
  | _=>walk_at "rd" <;> exact q
set_option genSizeOf false in
set_option genInjectivity false in
inductive sp_is_thing (vs:List V) (H:Hp) (Q:VK) (zz3:XK):Prop where
 | mk (x m d:_) (zh0:vs=[x,.int m]) (zh1:Is H x d) (zh2:Q (.bl (wholeB d 0 (m - 1))) H):sp_is_thing vs H Q zz3
theorem ok_is_thing (T:Txt K mg t):FnOk P w K mg base CX0 2 t.a_is_thing t.d_is_thing ["value","many"] sp_is_thing:=by
 refine T.F_is_thing.ok sc_is_thing (fun vs H Q E h=>?_) (fun cdv A outer s H vs Q E hr h=>?_)
 ·obtain ⟨x,m,d,rfl,_⟩:=h
  rfl
 ·obtain ⟨x,m,d,rfl,hx,q⟩:=h
  refine ⟨_,(pss_one (ps_ret (pe_call (ok_is_whole T) (hr.mono (by decide)) rfl T.m_is_whole T.F_is_whole.kp T.b_is_whole .nil pass0 (pa_cons (pv 0) (pa_cons pe_int (pa_cons (pe_op op_sub (pv 1) pe_int) pa_nil)))))),?_⟩
  walk_at "rd"
  exact ⟨_,_,_,_,rfl,hx,q⟩
noncomputable def prD (p:Int×Int):PyData:=.tuple [.int p.1,.int p.2]
noncomputable def pairB (d:PyData) (m:Int):Bool:=match d with | .tuple [a,b]=>wholeB a 0 (m - 1)&&wholeB b 0 (m - 1)&& !PyData.eqv a b | _=>false
set_option genSizeOf false in
set_option genInjectivity false in
inductive sp_is_pair (vs:List V) (H:Hp) (Q:VK) (zz3:XK):Prop where
 | mk (x m d:_) (zh0:vs=[x,.int m]) (zh1:Is H x d) (zh2:Q (.bl (pairB d m)) H):sp_is_pair vs H Q zz3
theorem pair_other {d:PyData} {m:Int} (h:∀ a b,d≠.tuple [a,b]):pairB d m=false:=by
 unfold pairB
 split
 ·rename_i a b
  exact absurd rfl (h a b)
 ·rfl
theorem isTup_no {d:PyData} (h:∀ ds,d≠.tuple ds):isTupD d=false:=by
 cases d <;> first | rfl | exact absurd rfl (h _)
theorem wholeB_int {d:PyData} {lo hi:Int} (h:wholeB d lo hi=true):∃ i:Int,d=.int i∧lo≤i∧i≤hi:=by
 unfold wholeB at h
 split at h
 ·rename_i i
  simp at h
  exact ⟨i,rfl,h.1,h.2⟩
 ·cases h
theorem ok_is_pair (T:Txt K mg t):FnOk P w K mg base CX0 3 t.a_is_pair t.d_is_pair ["value","many"] sp_is_pair:=by
 refine T.F_is_pair.ok sc_is_pair (fun vs H Q E h=>?_) (fun cdv A outer s H vs Q E hr h=>?_)
 ·obtain ⟨x,m,d,rfl,_⟩:=h
  rfl
 ·obtain ⟨x,m,d,rfl,hx,q⟩:=h
  refine ⟨_,(pss_cons (ps_if (PW.pt (pw_or (pt_not (pt_val (pe_callB c_isinst (by rfl) T.n_isinstance bt_isinstance (pa_cons (pv 0) (pa_cons (pe_bltn (v:=.ty "tuple") rfl T.n_tuple bt_tuple rfl) pa_nil))))) (pw_or1 (pt_cmpR (op_neD hr.units) (pe_callB (k_len K) (by rfl) T.n_len bt_len (pa_cons (pv 0) pa_nil)) pe_int (nomark _))))) (pss_one (ps_ret pe_bl)) pss_nil)
   (pss_cons (ps_if (PW.pt (pw_or (pt_not (pt_val (pe_call (ok_is_thing T) (hr.mono (by decide)) rfl T.m_is_thing T.F_is_thing.kp T.b_is_thing .nil pass0 (pa_cons (pe_ix (k_ix K) (pv 0) pe_int (fun _ _=>rfl)) (pa_cons (pv 1) pa_nil))))) (pw_or1 (pt_not (pt_val (pe_call (ok_is_thing T) (hr.mono (by decide)) rfl T.m_is_thing T.F_is_thing.kp T.b_is_thing .nil pass0 (pa_cons (pe_ix (k_ix K) (pv 0) pe_int (fun _ _=>rfl)) (pa_cons (pv 1) pa_nil)))))))) (pss_one (ps_ret pe_bl)) pss_nil)
   (pss_one (ps_ret (pe_cmpR (op_neD hr.units) (pe_ix (k_ix K) (pv 0) pe_int (fun _ _=>rfl)) (pe_ix (k_ix K) (pv 0) pe_int (fun _ _=>rfl)) (nomark _)))))),?_⟩
  walk_at "rd"
  by_cases hd:∃ ds,d=.tuple ds
  ·obtain ⟨ds,rfl⟩:=hd
   cases hx with
   | @tup a xs _ e hxs=>
   walk_at "rd"
   have hl:=hxs.length
   refine ifB (fun h=>?_) (fun h=>?_)
   ·walk_at "rd"
    rw [pair_other] at q
    ·exact q
    ·rintro a b ⟨⟩
     simp at hl
     simp [hl] at h
   ·walk_at "rd"
    match xs,ds,hxs,hl with
    | [x1,x2],[d1,d2],.cons i1 (.cons i2 .nil),_=>
     walk_at "rd"
     refine ⟨_,_,_,rfl,i1,?_⟩
     walk_at "rd"
     have qe:pairB (.tuple [d1,d2]) m=(wholeB d1 0 (m - 1)&&wholeB d2 0 (m - 1)&& !PyData.eqv d1 d2):=rfl
     rw [qe] at q
     refine ifB (fun h1=>?_) (fun h1=>?_)
     ·walk_at "rd"
      have h1':wholeB d1 0 (m - 1)=false:=by simpa using h1
      simpa [h1'] using q
     ·walk_at "rd"
      refine ⟨_,_,_,rfl,i2,?_⟩
      walk_at "rd"
      have h1':wholeB d1 0 (m - 1)=true:=by simpa using h1
      refine ifB (fun h2=>?_) (fun h2=>?_)
      ·walk_at "rd"
       have h2':wholeB d2 0 (m - 1)=false:=by simpa using h2
       simpa [h2'] using q
      ·walk_at "rd"
       have h2':wholeB d2 0 (m - 1)=true:=by simpa using h2
       obtain ⟨i,rfl,_⟩:=wholeB_int h1'
       obtain ⟨j,rfl,_⟩:=wholeB_int h2'
       refine rd_eqD i1 i2 ⟨rfl,Nat.zero_le _⟩ ⟨rfl,Nat.zero_le _⟩ ?_
       simpa [h1',h2'] using q
    | [],_,_,_=>simp at h
    | [_],_,_,_=>simp at h
    | _::_::_::_,_,_,_=>simp at h;lia
  ·have hd':∀ ds,d≠.tuple ds:=fun ds e=>hd ⟨ds,e⟩
   rw [isTup_no hd']
   walk_at "rd"
   rw [pair_other fun a b=>hd' _] at q
   exact q
noncomputable def risingB:List (Int×Int)→Bool
 | a::b::r=>HT.lexLt [a.1,a.2] [b.1,b.2]&&risingB (b::r)
 | _=>true
theorem rising_range:∀ ps:List (Int×Int),risingB ps=((List.range (ps.length - 1)).map fun i=>HT.lexLt [(ps.getD i (0,0)).1,(ps.getD i (0,0)).2] [(ps.getD (i + 1) (0,0)).1,(ps.getD (i + 1) (0,0)).2]).all id
 | []=>rfl
 | [a]=>rfl
 | a::b::r=>by
  rw [risingB,rising_range (b::r)]
  have e:(a::b::r).length - 1=((b::r).length - 1) + 1:=by simp
  rw [e,List.range_succ_eq_map,List.map_cons,List.all_cons,List.map_map]
  rfl
theorem _root_.L2.atI_of {α:Type} {xs:List α} {i:Nat} {k:Int} {v:α} (hk:k=(i:Int)) (h:xs[i]? =some v):atI xs k=some v:=by
 subst hk
 exact atI_nat h
theorem two_ints {H:Hp} {xs:List V} {a b:Int} (h:IsAll H xs [.int a,.int b]):xs=[.int a,.int b]:=by
 cases h with
 | cons h1 t=>
  cases t with
  | cons h2 t2=>
   cases h1
   cases h2
   cases t2
   rfl
theorem two_io {H:Hp} {xs:List V} {a:Int} {ds:List PyData} (h:IsAll H xs [.int a,.tuple ds]):∃ b ys,xs=[.int a,.ref b]∧H b=some (.tup ys)∧IsAll H ys ds:=by
 cases h with
 | cons h1 t=>
  cases t with
  | cons h2 t2=>
   cases h1
   cases t2
   cases h2 with
   | tup eb hb=>exact ⟨_,_,rfl,eb,hb⟩
theorem pr_at {H:Hp} {xs:List V} {ps:List (Int×Int)} {i:Nat} (h:IsAll H xs (ps.map prD)) (hi:i < ps.length):
  ∃ r,xs[i]? =some (.ref r)∧H r=some (.tup [.int (ps.getD i (0,0)).1,.int (ps.getD i (0,0)).2]):=by
 obtain ⟨v,e,iv⟩:=h.get (i:=i) (d:=prD (ps.getD i (0,0))) (by rw [List.getElem?_map];simp [hi])
 unfold prD at iv
 cases iv with
 | @tup a xs _ ea hxs=>
  obtain rfl:=two_ints hxs
  exact ⟨a,e,ea⟩
theorem small_ln {n:Nat} (h:n≤1000):n≤sizeLine:=Nat.le_of_lt (small1000 h)
set_option genSizeOf false in
set_option genInjectivity false in
inductive sp_is_rising (vs:List V) (H:Hp) (Q:VK) (zz3:XK):Prop where
 | mk (x ps:_) (zh0:vs=[x]) (zh1:Is H x (.tuple (ps.map prD))) (zh2:ps.length≤1000) (zh3:∀ H',Same H H'→Q (.bl (risingB ps)) H'):sp_is_rising vs H Q zz3
theorem ok_is_rising (T:Txt K mg t):FnOk P w K mg base CX0 1 t.a_is_rising t.d_is_rising ["pairs"] sp_is_rising:=by
 refine T.F_is_rising.ok sc_is_rising (fun vs H Q E h=>?_) (fun cdv A outer s H vs Q E hr h=>?_)
 ·obtain ⟨x,ps,rfl,_⟩:=h
  rfl
 ·obtain ⟨x,ps,rfl,hx,hsz,q⟩:=h
  refine ⟨_,(pss_one (ps_ret (pe_callB (k_all K) (by rfl) T.n_all bt_all (pa_cons (pe_lc rfl ⟨True.intro,True.intro,(.inl rfl),True.intro⟩ (M:=["place","pairs"]) (.own (.free 0 rfl rfl .nil)) (gk_name rfl) rfl (by decide +kernel) (pi_range1 rfl T.n_range (pa_cons (pe_op op_sub (pe_callB (k_len K) (by rfl) T.n_len bt_len (pa_cons (pv 0) pa_nil)) pe_int) pa_nil)) (fun C fp s1 H1=>⟨pg_name (i:=0) (show (["place","pairs"]:List Str).Nodup by decide +kernel) rfl (Or.inl rfl),pif_nil,(pe_cmpR (k_ltT K hr.units0) (pe_ix (k_ix K) (pv 1) (pv 0) (fun _ _=>rfl)) (pe_ix (k_ix K) (pv 1) (pe_op op_add (pv 0) pe_int) (fun _ _=>rfl)) (nomark _))⟩)) pa_nil)))),?_⟩
  cases hx with
  | @tup a xs _ e hxs=>
  have hl:xs.length=ps.length:=by rw [hxs.length,List.length_map]
  walk_at "rd"
  refine ⟨_,rfl,by lia,by lia,?_⟩
  have en:((xs.length:Int) - 1).toNat=ps.length - 1:=by lia
  rw [en]
  refine lp_range (small_ln (by lia)) (fun i ys H'=>H'=H∧ys=((List.range i).map fun i=>HT.lexLt [(ps.getD i (0,0)).1,(ps.getD i (0,0)).2] [(ps.getD (i + 1) (0,0)).1,(ps.getD (i + 1) (0,0)).2]).map V.bl) ⟨rfl,rfl⟩ (by rintro i ys H' ⟨_,rfl⟩;simp) ?_ ?_
  ·rintro i ys H' hi ⟨rfl,rfl⟩
   obtain ⟨r1,e1,h1⟩:=pr_at hxs (i:=i) (by lia)
   obtain ⟨r2,e2,h2⟩:=pr_at hxs (i:=i + 1) (by lia)
   walk_at "rd"
   refine rd_ixT e (atI_of (i:=i) (by lia) e1) ?_
   walk_at "rd"
   refine rd_ixT e (atI_of (i:=i + 1) (by lia) e2) ?_
   refine rd_ltT h1 h2 ⟨rfl,?_⟩
   rw [List.range_succ,List.map_append,List.map_append]
   rfl
  ·rintro ys H' ⟨rfl,rfl⟩ p hp
   walk_at "rd"
   refine rd_all upd_same ?_
   rw [←rising_range]
   exact q _ (Same.upd hp)
noncomputable def decP (d:PyData):Int×Int:=match d with | .tuple [.int a,.int b]=>(a,b) | _=>(0,0)
noncomputable def orderB (d:PyData):Bool:=match d with | .tuple [.int n,.tuple ds]=>decide (1≤n)&&decide (n≤8)&&ds.all (fun d=>pairB d n)&&risingB (ds.map decP) | _=>false
theorem pairB_dec {d:PyData} {m:Int} (h:pairB d m=true):d=prD (decP d):=by
 unfold pairB at h
 split at h
 ·rename_i a b
  rw [Bool.and_eq_true,Bool.and_eq_true] at h
  obtain ⟨i,rfl,_⟩:=wholeB_int h.1.1
  obtain ⟨j,rfl,_⟩:=wholeB_int h.1.2
  rfl
 ·cases h
theorem pairs_dec {m:Int}:∀ {ds:List PyData},ds.all (fun d=>pairB d m)=true→ds=(ds.map decP).map prD
 | [],_=>rfl
 | d::ds,h=>by
  rw [List.all_cons,Bool.and_eq_true] at h
  rw [List.map_cons,List.map_cons,←pairs_dec h.2,←pairB_dec h.1]
theorem order_other {d:PyData} (h:∀ n ds,d≠.tuple [.int n,.tuple ds]):orderB d=false:=by
 unfold orderB
 split
 ·rename_i n ds
  exact absurd rfl (h n ds)
 ·rfl
noncomputable def okOrd (d:PyData):Prop:=∀ m ds,d=.tuple [m,.tuple ds]→ds.length≤1000
set_option genSizeOf false in
set_option genInjectivity false in
inductive sp_is_order (vs:List V) (H:Hp) (Q:VK) (zz3:XK):Prop where
 | mk (x d:_) (zh0:vs=[x]) (zh1:Is H x d) (zh2:okOrd d) (zh3:∀ H',Same H H'→Q (.bl (orderB d)) H'):sp_is_order vs H Q zz3
theorem ok_is_order (T:Txt K mg t):FnOk P w K mg base CX0 4 t.a_is_order t.d_is_order ["value"] sp_is_order:=by
 refine T.F_is_order.ok sc_is_order (fun vs H Q E h=>?_) (fun cdv A outer s H vs Q E hr h=>?_)
 ·obtain ⟨x,d,rfl,_⟩:=h
  rfl
 ·obtain ⟨x,d,rfl,hx,hok,q⟩:=h
  refine ⟨_,(pss_cons (ps_if (PW.pt (pw_or (pt_not (pt_val (pe_callB c_isinst (by rfl) T.n_isinstance bt_isinstance (pa_cons (pv 0) (pa_cons (pe_bltn (v:=.ty "tuple") rfl T.n_tuple bt_tuple rfl) pa_nil))))) (pw_or1 (pt_cmpR (op_neD hr.units) (pe_callB (k_len K) (by rfl) T.n_len bt_len (pa_cons (pv 0) pa_nil)) pe_int (nomark _))))) (pss_one (ps_ret pe_bl)) pss_nil)
   (pss_cons (ps_set (i:=1) sc_is_order.nd rfl (Or.inr rfl) (pe_ix (k_ix K) (pv 0) pe_int (fun _ _=>rfl)))
   (pss_cons (ps_set (i:=2) sc_is_order.nd rfl (Or.inl rfl) (pe_ix (k_ix K) (pv 0) pe_int (fun _ _=>rfl)))
   (pss_cons (ps_if (PW.pt (pw_or (pt_not (pt_val (pe_call (ok_is_whole T) (hr.mono (by decide)) rfl T.m_is_whole T.F_is_whole.kp T.b_is_whole .nil pass0 (pa_cons (pv 1) (pa_cons pe_int (pa_cons (pe_gint rfl T.c_MOST_THINGS) pa_nil)))))) (pw_or1 (pt_not (pt_val (pe_callB c_isinst (by rfl) T.n_isinstance bt_isinstance (pa_cons (pv 2) (pa_cons (pe_bltn (v:=.ty "tuple") rfl T.n_tuple bt_tuple rfl) pa_nil)))))))) (pss_one (ps_ret pe_bl)) pss_nil)
   (pss_one (ps_ret (pe_and (pe_callB (k_all K) (by rfl) T.n_all bt_all (pa_cons (pe_lc rfl ⟨True.intro,True.intro,True.intro,(.inl rfl),True.intro⟩ (M:=["pair","many"]) (.own (.free 1 rfl rfl .nil)) (gk_name rfl) rfl (by decide +kernel) (k_ptup K (pv 2)) (fun C fp s1 H1=>⟨pg_name (i:=0) (show (["pair","many"]:List Str).Nodup by decide +kernel) rfl (Or.inl rfl),pif_nil,(pe_call (ok_is_pair T) (hr.mono (by decide)) rfl T.m_is_pair T.F_is_pair.kp T.b_is_pair .nil pass0 (pa_cons (pv 0) (pa_cons (pv 1) pa_nil)))⟩)) pa_nil)) (pe_one (pe_call (ok_is_rising T) (hr.mono (by decide)) rfl T.m_is_rising T.F_is_rising.kp T.b_is_rising .nil pass0 (pa_cons (pv 2) pa_nil)))))))))),?_⟩
  walk_at "rd"
  by_cases hd:∃ ds,d=.tuple ds
  ·obtain ⟨ds,rfl⟩:=hd
   cases hx with
   | @tup a xs _ e hxs=>
   walk_at "rd"
   have hl:=hxs.length
   refine ifB (fun h=>?_) (fun h=>?_)
   ·walk_at "rd"
    have q':=q H (Same.refl H)
    rw [order_other] at q'
    ·exact q'
    ·rintro n ds ⟨⟩
     simp at hl
     simp [hl] at h
   ·walk_at "rd"
    match xs,ds,hxs,hl with
    | [x1,x2],[d1,d2],.cons i1 (.cons i2 .nil),_=>
     walk_at "rd"
     refine ⟨_,_,_,_,rfl,i1,?_⟩
     walk_at "rd"
     refine ifB (fun h1=>?_) (fun h1=>?_)
     ·walk_at "rd"
      have h1':wholeB d1 1 8=false:=by simpa using h1
      have q':=q H (Same.refl H)
      by_cases h0:∃ n ds,d1=.int n∧d2=.tuple ds
      ·obtain ⟨n,ds,rfl,rfl⟩:=h0
       have:orderB (.tuple [.int n,.tuple ds])=(decide (1≤n)&&decide (n≤8)&&ds.all (fun d=>pairB d n)&&risingB (ds.map decP)):=rfl
       rw [this,show (decide (1≤n)&&decide (n≤8))=false from h1'] at q'
       exact q'
      ·rw [order_other (by rintro n ds ⟨⟩;exact h0 ⟨_,_,rfl,rfl⟩)] at q'
       exact q'
     ·have h1':wholeB d1 1 8=true:=by simpa using h1
      obtain ⟨n,rfl,hn1,hn8⟩:=wholeB_int h1'
      walk_at "rd"
      by_cases hd2:∃ ds,d2=.tuple ds
      ·obtain ⟨ds,rfl⟩:=hd2
       have hlen:=hok _ _ rfl
       cases i1 with
       | int _=>
       cases i2 with
       | @tup b ys _ eb hys=>
       have hlb:=hys.length
       walk_at "rd"
       refine ⟨b,rfl,⟨ys,SqT.of eb⟩,?_⟩
       refine lp_tup (K:=K) (xs:=ys) (small_ln (by lia)) (fun i zs H'=>H'=H∧zs=((ds.take i).map fun d=>pairB d n).map V.bl) ⟨rfl,rfl⟩ (by rintro i ys H' ⟨_,rfl⟩;simp;lia) (fun i zs H' _ h=>by rw [h.1];exact SqT.of eb) ?_ ?_
       ·rintro i x zs H' hx ⟨rfl,rfl⟩
        obtain ⟨d,ed,id⟩:=hys.get' hx
        walk_at "rd"
        refine ⟨_,_,_,rfl,id,rfl,?_⟩
        rw [List.take_add_one,ed,List.map_append,List.map_append]
        rfl
       ·rintro zs H' ⟨rfl,rfl⟩ p hp
        walk_at "rd"
        refine rd_all upd_same ?_
        rw [hlb,List.take_length,List.all_map]
        walk_at "rd"
        have qe:orderB (.tuple [.int n,.tuple ds])=(decide (1≤n)&&decide (n≤8)&&ds.all (fun d=>pairB d n)&&risingB (ds.map decP)):=rfl
        rw [qe,decide_eq_true hn1,decide_eq_true hn8] at q
        refine ifB (fun h3=>?_) (fun h3=>?_)
        ·walk_at "rd"
         have h3':ds.all (fun d=>pairB d n)=true:=h3
         have ed:=pairs_dec h3'
         have hy2:Is (upd H' p (.lst (((ds.take ys.length).map fun d=>pairB d n).map V.bl))) (.ref b) (.tuple ((ds.map decP).map prD)):=by
          rw [←ed]
          exact Is.same (Same.upd hp) (.tup eb hys)
         rw [hlb,List.take_length] at hy2
         refine ⟨_,_,rfl,hy2,by rw [List.length_map];exact hlen,fun H2 s2=>?_⟩
         have q':=q H2 ((Same.upd hp).trans s2)
         simpa [h3'] using q'
        ·walk_at "rd"
         have h3':ds.all (fun d=>pairB d n)=false:=h3
         have q':=q _ (Same.upd (o:=.lst ((ds.map fun d=>pairB d n).map V.bl)) hp)
         simpa [h3'] using q'
      ·have hd2':∀ ds,d2≠.tuple ds:=fun ds e=>hd2 ⟨ds,e⟩
       rw [isTup_no hd2']
       walk_at "rd"
       have q':=q H (Same.refl H)
       rw [order_other (by rintro n ds ⟨⟩;exact hd2' _ rfl)] at q'
       exact q'
    | [],_,_,_=>simp at h
    | [_],_,_,_=>simp at h
    | _::_::_::_,_,_,_=>simp at h;lia
  ·have hd':∀ ds,d≠.tuple ds:=fun ds e=>hd ⟨ds,e⟩
   rw [isTup_no hd']
   walk_at "rd"
   have q':=q H (Same.refl H)
   rw [order_other fun n ds=>hd' _] at q'
   exact q'
end
end My
namespace My
open PySem L2
section
variable {P:Program} {w:World} {K:PySem.W.Frag} {mg:Str→Option Value} {base:Heap} {t:Ad}
set_option genSizeOf false in
set_option genInjectivity false in
inductive sp_need_order (vs:List V) (H:Hp) (Q:VK) (zz3:XK):Prop where
 | mk (x d:_) (zh0:vs=[x]) (zh1:Is H x d) (zh2:okOrd d) (zh3:orderB d=true) (zh4:∀ H',Same H H'→Q .non H'):sp_need_order vs H Q zz3
theorem ok_need_order (T:Txt K mg t):FnOk P w K mg base CX0 5 t.a_need_order t.d_need_order ["value"] sp_need_order:=by
 refine T.F_need_order.ok sc_need_order (fun vs H Q E h=>?_) (fun cdv A outer s H vs Q E hr h=>?_)
 ·obtain ⟨x,d,rfl,_⟩:=h
  rfl
 ·obtain ⟨x,d,rfl,hx,hok,ho,q⟩:=h
  refine ⟨_,(pss_one (ps_if (pt_not (pt_val (pe_call (ok_is_order T) (hr.mono (by decide)) rfl T.m_is_order T.F_is_order.kp T.b_is_order .nil pass0 (pa_cons (pv 0) pa_nil)))) (pss_one ps_never) pss_nil)),?_⟩
  walk_at "rd"
  refine ⟨_,_,rfl,hx,hok,fun H' s'=>?_⟩
  rw [ho]
  walk_at "rd"
  exact q H' s'
end
end My
namespace My
open PySem L2
section
variable {P:Program} {w:World} {K:PySem.W.Frag} {mg:Str→Option Value} {base:Heap} {t:Ad}
theorem eqv_pr (p q:Int×Int):PyData.eqv (prD p) (prD q)=decide (p=q):=by
 obtain ⟨a,b⟩:=p
 obtain ⟨c,d⟩:=q
 simp only [prD,PyData.eqv,PyData.eqvAll,Bool.and_true]
 by_cases h:a=c
 ·by_cases h2:b=d
  ·subst h h2;simp
  ·simp [h,h2]
 ·simp [h]
theorem inD_pr (p:Int×Int):∀ ps:List (Int×Int),inD (prD p) (ps.map prD)=decide (p∈ps)
 | []=>by simp [inD]
 | q::ps=>by
  have ih:=inD_pr p ps
  unfold inD at ih ⊢
  rw [List.map_cons,List.any_cons,ih,eqv_pr]
  by_cases h:q=p
  ·subst h;simp
  ·have h':¬p=q:=fun e=>h e.symm
   simp [h,h']
theorem ok_pr (p:Int×Int):okD (prD p):=⟨rfl,show 1≤40 by decide⟩
theorem ok_prs:∀ ps:List (Int×Int),okDs (ps.map prD)
 | []=>⟨rfl,Nat.zero_le _⟩
 | p::ps=>by
  obtain ⟨a,b⟩:=ok_prs ps
  refine ⟨?_,?_⟩
  ·rw [List.map_cons,PyData.canLayAll0,a];rfl
  ·rw [List.map_cons,PyData.depthAll]
   exact Nat.max_le.mpr ⟨(ok_pr p).2,b⟩
noncomputable def has (ps:List (Int×Int)) (i j:Int):Bool:=decide ((i,j)∈ps)
theorem rd_inP {H:Hp} {Q:VK} {p:Addr} {y:V} {i j:Int} {ps:List (Int×Int)} (e:H p=some (.tup [.int i,.int j])) (hy:Is H y (.tuple (ps.map prD))) (h:Q (.bl (has ps i j)) H):rInD false (.ref p) y H Q:=by
 refine rd_inD (d:=prD (i,j)) (.tup e (.cons (.int i) (.cons (.int j) .nil))) hy (ok_pr _) (ok_prs _) ?_
 rw [inD_pr]
 exact h
theorem rd_ninP {H:Hp} {Q:VK} {p:Addr} {y:V} {i j:Int} {ps:List (Int×Int)} (e:H p=some (.tup [.int i,.int j])) (hy:Is H y (.tuple (ps.map prD))) (h:Q (.bl (!has ps i j)) H):rInD true (.ref p) y H Q:=by
 refine rd_inD (d:=prD (i,j)) (.tup e (.cons (.int i) (.cons (.int j) .nil))) hy (ok_pr _) (ok_prs _) ?_
 rw [inD_pr]
 exact h
noncomputable def bar2B (ps:List (Int×Int)) (a b c d:Int):Bool:=has ps a b&&has ps c d&&(!has ps a d&& !has ps c b)
noncomputable def bar3B (ps:List (Int×Int)) (a b c d:Int):Bool:=has ps a b&&has ps b c&&(!has ps a d&& !has ps d c)
theorem two_ln {i j:Int}:[V.int i,V.int j].length≤sizeLine:=by
 show 2≤sizeLine
 decide
noncomputable def ordD (n:Nat) (ps:List (Int×Int)):PyData:=.tuple [.int n,.tuple (ps.map prD)]
structure Ord (n:Nat) (ps:List (Int×Int)):Prop where
 lo:1≤n
 hi:n≤8
 ix:∀ p∈ps,0≤p.1∧p.1 < n∧0≤p.2∧p.2 < n∧p.1≠p.2
 up:risingB ps=true
 sz:ps.length≤1000
theorem decP_pr (p:Int×Int):decP (prD p)=p:=rfl
theorem Ord.okd {n:Nat} {ps:List (Int×Int)} (h:Ord n ps):okOrd (ordD n ps):=by
 rintro m ds e
 unfold ordD at e
 injection e with e
 injection e with _ e
 injection e with e _
 injection e with e
 rw [←e,List.length_map]
 exact h.sz
theorem Ord.yes {n:Nat} {ps:List (Int×Int)} (h:Ord n ps):orderB (ordD n ps)=true:=by
 have e:orderB (ordD n ps)=(decide (1≤(n:Int))&&decide ((n:Int)≤8)&&(ps.map prD).all (fun d=>pairB d n)&&risingB ((ps.map prD).map decP)):=rfl
 have e2:(ps.map prD).map decP=ps:=by
  rw [List.map_map]
  exact (List.map_congr_left fun p _=>decP_pr p).trans (List.map_id ps)
 have e3:(ps.map prD).all (fun d=>pairB d n)=true:=by
  rw [List.all_map,List.all_eq_true]
  intro p hp
  obtain ⟨a,b,c,d,f⟩:=h.ix p hp
  show (wholeB (.int p.1) 0 (n - 1)&&wholeB (.int p.2) 0 (n - 1)&& !PyData.eqv (.int p.1) (.int p.2))=true
  have g1:wholeB (.int p.1) 0 (n - 1)=true:=by
   show (decide (0≤p.1)&&decide (p.1≤(n:Int) - 1))=true
   simp;lia
  have g2:wholeB (.int p.2) 0 (n - 1)=true:=by
   show (decide (0≤p.2)&&decide (p.2≤(n:Int) - 1))=true
   simp;lia
  have g3:PyData.eqv (.int p.1) (.int p.2)=false:=by
   show (p.1==p.2)=false
   simpa using f
  rw [g1,g2,g3];rfl
 rw [e,e2,e3,h.up,decide_eq_true (by have:=h.lo;lia),decide_eq_true (by have:=h.hi;lia)]
 rfl
theorem is_ord {H:Hp} {x:V} {n:Nat} {ps:List (Int×Int)} (h:Is H x (ordD n ps)):∃ a b xs,x=.ref a∧H a=some (.tup [.int n,.ref b])∧H b=some (.tup xs)∧IsAll H xs (ps.map prD):=by
 unfold ordD at h
 cases h with
 | @tup a xs _ e hxs=>
  obtain ⟨b,ys,rfl,eb,hb⟩:=two_io hxs
  exact ⟨a,_,_,rfl,e,eb,hb⟩
end
end My
namespace My
open PySem L2
section
variable {P:Program} {w:World} {K:PySem.W.Frag} {mg:Str→Option Value} {base:Heap} {t:Ad}
set_option genSizeOf false in
set_option genInjectivity false in
inductive sp_bar (f:List (Int×Int)→Int→Int→Int→Int→Bool) (vs:List V) (H:Hp) (Q:VK) (zz3:XK):Prop where
 | mk (x ps a b c d:_) (zh0:vs=[x,.int a,.int b,.int c,.int d]) (zh1:Is H x (.tuple (ps.map prD))) (zh2:∀ H',Same H H'→Q (.bl (f ps a b c d)) H'):sp_bar f vs H Q zz3
theorem ok_bars_as_two (T:Txt K mg t):FnOk P w K mg base CX0 1 t.a_bars_as_two t.d_bars_as_two ["pairs","a","b","c","d"] (sp_bar bar2B):=by
 refine T.F_bars_as_two.ok sc_bars_as_two (fun vs H Q E h=>?_) (fun cdv A outer s H vs Q E hr h=>?_)
 ·obtain ⟨x,ps,a,b,c,d,rfl,_⟩:=h
  rfl
 ·obtain ⟨x,ps,a,b,c,d,rfl,hx,q⟩:=h
  refine ⟨_,(pss_cons (ps_if (PW.pt (pw_or (pt_cmpR (op_notInD hr.units) (pe_tup (pa_cons (pv 1) (pa_cons (pv 2) pa_nil))) (pv 0) (by rfl)) (pw_or1 (pt_cmpR (op_notInD hr.units) (pe_tup (pa_cons (pv 3) (pa_cons (pv 4) pa_nil))) (pv 0) (by rfl))))) (pss_one (ps_ret pe_bl)) pss_nil)
   (pss_one (ps_ret (pe_and (pe_cmpR (op_notInD hr.units) (pe_tup (pa_cons (pv 1) (pa_cons (pv 4) pa_nil))) (pv 0) (by rfl)) (pe_one (pe_cmpR (op_notInD hr.units) (pe_tup (pa_cons (pv 3) (pa_cons (pv 2) pa_nil))) (pv 0) (by rfl))))))),?_⟩
  unfold bar2B at q
  walk_at "rd"
  refine ⟨two_ln,fun p1 hp1=>?_⟩
  have s1:=Same.upd (o:=.tup [.int a,.int b]) hp1
  walk_at "rd"
  refine rd_ninP upd_same (hx.same s1) ?_
  walk_at "rd"
  refine ifB (fun h1=>?_) (fun h1=>?_)
  ·walk_at "rd"
   have h1':has ps a b=false:=by simpa using h1
   have q':=q _ s1
   rw [h1'] at q'
   exact q'
  ·have h1':has ps a b=true:=by simpa using h1
   rw [h1'] at q
   walk_at "rd"
   refine ⟨two_ln,fun p2 hp2=>?_⟩
   walk_at "rd"
   refine rd_ninP upd_same (hx.same (s1.trans (Same.upd hp2))) ?_
   walk_at "rd"
   refine ifB (fun h2=>?_) (fun h2=>?_)
   ·walk_at "rd"
    rw [Bool.not_eq_true'] at h2
    rw [h2] at q
    exact q _ (s1.trans (Same.upd hp2))
   ·rw [Bool.not_eq_false'] at h2
    rw [h2] at q
    walk_at "rd"
    refine ⟨two_ln,fun p3 hp3=>?_⟩
    walk_at "rd"
    refine rd_ninP upd_same (hx.same ((s1.trans (Same.upd hp2)).trans (Same.upd hp3))) ?_
    walk_at "rd"
    refine ifB (fun h3=>?_) (fun h3=>?_)
    ·rw [h3] at q
     walk_at "rd"
     refine ⟨two_ln,fun p4 hp4=>?_⟩
     walk_at "rd"
     refine rd_ninP upd_same (hx.same (((s1.trans (Same.upd hp2)).trans (Same.upd hp3)).trans (Same.upd hp4))) ?_
     exact q _ (((s1.trans (Same.upd hp2)).trans (Same.upd hp3)).trans (Same.upd hp4))
    ·rw [h3] at q
     exact q _ ((s1.trans (Same.upd hp2)).trans (Same.upd hp3))
theorem ok_bars_as_three (T:Txt K mg t):FnOk P w K mg base CX0 1 t.a_bars_as_three t.d_bars_as_three ["pairs","a","b","c","d"] (sp_bar bar3B):=by
 refine T.F_bars_as_three.ok sc_bars_as_three (fun vs H Q E h=>?_) (fun cdv A outer s H vs Q E hr h=>?_)
 ·obtain ⟨x,ps,a,b,c,d,rfl,_⟩:=h
  rfl
 ·obtain ⟨x,ps,a,b,c,d,rfl,hx,q⟩:=h
  refine ⟨_,(pss_cons (ps_if (PW.pt (pw_or (pt_cmpR (op_notInD hr.units) (pe_tup (pa_cons (pv 1) (pa_cons (pv 2) pa_nil))) (pv 0) (by rfl)) (pw_or1 (pt_cmpR (op_notInD hr.units) (pe_tup (pa_cons (pv 2) (pa_cons (pv 3) pa_nil))) (pv 0) (by rfl))))) (pss_one (ps_ret pe_bl)) pss_nil)
   (pss_one (ps_ret (pe_and (pe_cmpR (op_notInD hr.units) (pe_tup (pa_cons (pv 1) (pa_cons (pv 4) pa_nil))) (pv 0) (by rfl)) (pe_one (pe_cmpR (op_notInD hr.units) (pe_tup (pa_cons (pv 4) (pa_cons (pv 3) pa_nil))) (pv 0) (by rfl))))))),?_⟩
  unfold bar3B at q
  walk_at "rd"
  refine ⟨two_ln,fun p1 hp1=>?_⟩
  have s1:=Same.upd (o:=.tup [.int a,.int b]) hp1
  walk_at "rd"
  refine rd_ninP upd_same (hx.same s1) ?_
  walk_at "rd"
  refine ifB (fun h1=>?_) (fun h1=>?_)
  ·walk_at "rd"
   have h1':has ps a b=false:=by simpa using h1
   have q':=q _ s1
   rw [h1'] at q'
   exact q'
  ·have h1':has ps a b=true:=by simpa using h1
   rw [h1'] at q
   walk_at "rd"
   refine ⟨two_ln,fun p2 hp2=>?_⟩
   walk_at "rd"
   refine rd_ninP upd_same (hx.same (s1.trans (Same.upd hp2))) ?_
   walk_at "rd"
   refine ifB (fun h2=>?_) (fun h2=>?_)
   ·walk_at "rd"
    rw [Bool.not_eq_true'] at h2
    rw [h2] at q
    exact q _ (s1.trans (Same.upd hp2))
   ·rw [Bool.not_eq_false'] at h2
    rw [h2] at q
    walk_at "rd"
    refine ⟨two_ln,fun p3 hp3=>?_⟩
    walk_at "rd"
    refine rd_ninP upd_same (hx.same ((s1.trans (Same.upd hp2)).trans (Same.upd hp3))) ?_
    walk_at "rd"
    refine ifB (fun h3=>?_) (fun h3=>?_)
    ·rw [h3] at q
     walk_at "rd"
     refine ⟨two_ln,fun p4 hp4=>?_⟩
     walk_at "rd"
     refine rd_ninP upd_same (hx.same (((s1.trans (Same.upd hp2)).trans (Same.upd hp3)).trans (Same.upd hp4))) ?_
     exact q _ (((s1.trans (Same.upd hp2)).trans (Same.upd hp3)).trans (Same.upd hp4))
    ·rw [h3] at q
     exact q _ ((s1.trans (Same.upd hp2)).trans (Same.upd hp3))
end
end My
namespace My
open PySem L2
section
variable {P:Program} {w:World} {K:PySem.W.Frag} {mg:Str→Option Value} {base:Heap} {t:Ad}
theorem fs_next {α β:Type} {F:α→Option β} {l:List α} {i:Nat} {x:α} (h:(l.take i).findSome? F=none) (e:l[i]? =some x) (g:F x=none):(l.take (i + 1)).findSome? F=none:=by
 rw [List.take_add_one,e,List.findSome?_append,h]
 simp [g]
theorem fs_at {α β:Type} {F:α→Option β} {l:List α} {i:Nat} {x:α} {r:β} (h:(l.take i).findSome? F=none) (e:l[i]? =some x) (g:F x=some r):l.findSome? F=some r:=by
 have hl:i < l.length:=(List.getElem?_eq_some_iff.mp e).1
 have e':l[i]=x:=(List.getElem?_eq_some_iff.mp e).2
 have:l=l.take i++x::l.drop (i + 1):=by
  rw [←e',←List.drop_eq_getElem_cons hl,List.take_append_drop]
 rw [this,List.findSome?_append,h]
 simp [g]
theorem fs_end {α β:Type} {F:α→Option β} {l:List α} (h:(l.take l.length).findSome? F=none):l.findSome? F=none:=by
 rwa [List.take_length] at h
theorem rg_at {n i:Nat} (h:i < n):(List.range n)[i]? =some i:=List.getElem?_range h
theorem rg_end {β:Type} {F:Nat→Option β} {n:Nat} (h:((List.range n).take n).findSome? F=none):(List.range n).findSome? F=none:=by
 rwa [List.take_of_length_le (by simp)] at h
noncomputable def tagD (s:Str):Option (List Int)→PyData
 | none=>.none
 | some l=>.tuple (.str s::l.map .int)
noncomputable def f2i (ps:List (Int×Int)) (p q:Int×Int):Option (List Int):=if bar2B ps p.1 p.2 q.1 q.2=true then some [p.1,p.2,q.1,q.2] else none
noncomputable def f2 (ps:List (Int×Int)):Option (List Int):=ps.findSome? fun p=>ps.findSome? (f2i ps p)
set_option genSizeOf false in
set_option genInjectivity false in
inductive sp_first_two (vs:List V) (H:Hp) (Q:VK) (zz3:XK):Prop where
 | mk (x ps:_) (zh0:vs=[x]) (zh1:Is H x (.tuple (ps.map prD))) (zh2:∀ v H',Same H H'→Is H' v (tagD "two" (f2 ps))→Q v H'):sp_first_two vs H Q zz3
theorem ok_first_two (T:Txt K mg t):FnOk P w K mg base CX0 2 t.a_first_two t.d_first_two ["pairs"] sp_first_two:=by
 refine T.F_first_two.ok sc_first_two (fun vs H Q E h=>?_) (fun cdv A outer s H vs Q E hr h=>?_)
 ·obtain ⟨x,ps,rfl,_⟩:=h
  rfl
 ·obtain ⟨x,ps,rfl,hx,q⟩:=h
  refine ⟨_,(pss_cons (ps_for PassesOwn.never rfl (k_ptup K (pv 0)) (k_gtup K rfl (pgs_cons (pg_name (i:=1) sc_first_two.nd rfl (Or.inl rfl)) (pgs_cons (pg_name (i:=2) sc_first_two.nd rfl (Or.inl rfl)) pgs_nil))) (pss_one (ps_for PassesOwn.never rfl (k_ptup K (pv 0)) (k_gtup K rfl (pgs_cons (pg_name (i:=3) sc_first_two.nd rfl (Or.inl rfl)) (pgs_cons (pg_name (i:=4) sc_first_two.nd rfl (Or.inl rfl)) pgs_nil))) (pss_one (ps_if (pt_val (pe_call (ok_bars_as_two T) (hr.mono (by decide)) rfl T.m_bars_as_two T.F_bars_as_two.kp T.b_bars_as_two .nil pass0 (pa_cons (pv 0) (pa_cons (pv 1) (pa_cons (pv 2) (pa_cons (pv 3) (pa_cons (pv 4) pa_nil))))))) (pss_one (ps_ret (pe_tup (pa_cons pe_str (pa_cons (pv 1) (pa_cons (pv 2) (pa_cons (pv 3) (pa_cons (pv 4) pa_nil)))))))) pss_nil)))))
   (pss_one (ps_ret pe_non))),?_⟩
  cases hx with
  | @tup a xs _ e hxs=>
  have hl:xs.length=ps.length:=by rw [hxs.length,List.length_map]
  walk_at "rd"
  refine ⟨a,rfl,⟨xs,SqT.of e⟩,?_⟩
  refine fp_tup (K:=K) (xs:=xs) (fun i σ H'=>(∃ va vb vc vd,σ=[some (.ref a),va,vb,vc,vd])∧Same H H'∧(ps.take i).findSome? (fun p=>ps.findSome? (f2i ps p))=none) ⟨⟨_,_,_,_,rfl⟩,Same.refl H,rfl⟩ (fun i σ H' _ h=>SqT.of (h.2.1 _ _ e)) ?_ ?_
  ·rintro i x σ H1 hx ⟨⟨va,vb,vc,vd,rfl⟩,s1,n1⟩
   obtain ⟨p,ep,ip⟩:=(hxs.same s1).get' hx
   rw [List.getElem?_map] at ep
   cases hpi:ps[i]? with
   | none=>rw [hpi] at ep;cases ep
   | some p0=>
   rw [hpi] at ep
   cases ep
   unfold prD at ip
   cases ip with
   | @tup r ys _ er hys=>
   obtain rfl:=two_ints hys
   refine rd_gtup er rfl ?_
   walk_at "rd"
   refine ⟨a,rfl,⟨xs,SqT.of (s1 _ _ e)⟩,?_⟩
   refine fp_tup (K:=K) (xs:=xs) (fun j σ H'=>(∃ vc vd,σ=[some (.ref a),some (.int p0.1),some (.int p0.2),vc,vd])∧Same H H'∧(ps.take j).findSome? (f2i ps p0)=none) ⟨⟨_,_,rfl⟩,s1,rfl⟩ (fun i σ H' _ h=>SqT.of (h.2.1 _ _ e)) ?_ ?_
   ·rintro j y σ H2 hy ⟨⟨vc,vd,rfl⟩,s2,n2⟩
    obtain ⟨q2,eq2,iq2⟩:=(hxs.same s2).get' hy
    rw [List.getElem?_map] at eq2
    cases hqj:ps[j]? with
    | none=>rw [hqj] at eq2;cases eq2
    | some q0=>
    rw [hqj] at eq2
    cases eq2
    unfold prD at iq2
    cases iq2 with
    | @tup r2 ys2 _ er2 hys2=>
    obtain rfl:=two_ints hys2
    refine rd_gtup er2 rfl ?_
    walk_at "rd"
    refine ⟨_,ps,_,_,_,_,rfl,Is.same s2 (.tup e hxs),fun H3 s3=>?_⟩
    cases hf:bar2B ps p0.1 p0.2 q0.1 q0.2 with
    | true=>
     walk_at "rd"
     refine ⟨by show 5≤sizeLine;decide,fun r3 hr3=>?_⟩
     have ef:f2 ps=some [p0.1,p0.2,q0.1,q0.2]:=fs_at n1 hpi (fs_at n2 hqj (if_pos hf))
     refine q _ _ ((s2.trans s3).trans (Same.upd hr3)) ?_
     rw [ef]
     exact .tup upd_same (.cons (.str _) (.cons (.int _) (.cons (.int _) (.cons (.int _) (.cons (.int _) .nil)))))
    | false=>
     walk_at "rd"
     exact ⟨⟨_,_,rfl⟩,s2.trans s3,fs_next n2 hqj (if_neg (by rw [hf];exact Bool.false_ne_true))⟩
   ·rintro σ H2 ⟨⟨vc,vd,rfl⟩,s2,n2⟩
    rw [hl] at n2
    exact ⟨⟨_,_,_,_,rfl⟩,s2,fs_next n1 hpi (fs_end n2)⟩
  ·rintro σ H1 ⟨⟨va,vb,vc,vd,rfl⟩,s1,n1⟩
   rw [hl] at n1
   walk_at "rd"
   refine q _ H1 s1 ?_
   rw [show f2 ps=none from fs_end n1]
   exact .non
noncomputable def f3i (n:Nat) (ps:List (Int×Int)) (p:Int×Int) (c:Nat):Option (List Int):=(List.range n).findSome? fun (d:Nat)=>if bar3B ps p.1 p.2 c d=true then some [p.1,p.2,(c:Int),(d:Int)] else none
noncomputable def f3 (n:Nat) (ps:List (Int×Int)):Option (List Int):=ps.findSome? fun p=>(List.range n).findSome? (f3i n ps p)
set_option genSizeOf false in
set_option genInjectivity false in
inductive sp_first_three (vs:List V) (H:Hp) (Q:VK) (zz3:XK):Prop where
 | mk (x ps n:_) (zh0:vs=[.int (n:Nat),x]) (zh1:n≤8) (zh2:Is H x (.tuple (ps.map prD))) (zh3:∀ v H',Same H H'→Is H' v (tagD "three" (f3 n ps))→Q v H'):sp_first_three vs H Q zz3
theorem ok_first_three (T:Txt K mg t):FnOk P w K mg base CX0 2 t.a_first_three t.d_first_three ["many","pairs"] sp_first_three:=by
 refine T.F_first_three.ok sc_first_three (fun vs H Q E h=>?_) (fun cdv A outer s H vs Q E hr h=>?_)
 ·obtain ⟨x,ps,n,rfl,_⟩:=h
  rfl
 ·obtain ⟨x,ps,n,rfl,hn,hx,q⟩:=h
  refine ⟨_,(pss_cons (ps_for PassesOwn.never rfl (k_ptup K (pv 1)) (k_gtup K rfl (pgs_cons (pg_name (i:=2) sc_first_three.nd rfl (Or.inl rfl)) (pgs_cons (pg_name (i:=3) sc_first_three.nd rfl (Or.inl rfl)) pgs_nil))) (pss_one (ps_for PassesOwn.never rfl (pi_range1 rfl T.n_range (pa_cons (pv 0) pa_nil)) (pg_name (i:=4) sc_first_three.nd rfl (Or.inl rfl)) (pss_one (ps_for PassesOwn.never rfl (pi_range1 rfl T.n_range (pa_cons (pv 0) pa_nil)) (pg_name (i:=5) sc_first_three.nd rfl (Or.inl rfl)) (pss_one (ps_if (pt_val (pe_call (ok_bars_as_three T) (hr.mono (by decide)) rfl T.m_bars_as_three T.F_bars_as_three.kp T.b_bars_as_three .nil pass0 (pa_cons (pv 1) (pa_cons (pv 2) (pa_cons (pv 3) (pa_cons (pv 4) (pa_cons (pv 5) pa_nil))))))) (pss_one (ps_ret (pe_tup (pa_cons pe_str (pa_cons (pv 2) (pa_cons (pv 3) (pa_cons (pv 4) (pa_cons (pv 5) pa_nil)))))))) pss_nil)))))))
   (pss_one (ps_ret pe_non))),?_⟩
  cases hx with
  | @tup a xs _ e hxs=>
  have hl:xs.length=ps.length:=by rw [hxs.length,List.length_map]
  walk_at "rd"
  refine ⟨a,rfl,⟨xs,SqT.of e⟩,?_⟩
  refine fp_tup (K:=K) (xs:=xs) (fun i σ H'=>(∃ va vb vc vd,σ=[some (.int n),some (.ref a),va,vb,vc,vd])∧Same H H'∧(ps.take i).findSome? (fun p=>(List.range n).findSome? (f3i n ps p))=none) ⟨⟨_,_,_,_,rfl⟩,Same.refl H,rfl⟩ (fun i σ H' _ h=>SqT.of (h.2.1 _ _ e)) ?_ ?_
  ·rintro i x σ H1 hx ⟨⟨va,vb,vc,vd,rfl⟩,s1,n1⟩
   obtain ⟨p,ep,ip⟩:=(hxs.same s1).get' hx
   rw [List.getElem?_map] at ep
   cases hpi:ps[i]? with
   | none=>rw [hpi] at ep;cases ep
   | some p0=>
   rw [hpi] at ep
   cases ep
   unfold prD at ip
   cases ip with
   | @tup r ys _ er hys=>
   obtain rfl:=two_ints hys
   refine rd_gtup er rfl ?_
   walk_at "rd"
   refine ⟨_,rfl,by lia,by lia,?_⟩
   rw [Int.toNat_natCast]
   refine fp_range (fun c σ H'=>(∃ vc vd,σ=[some (.int n),some (.ref a),some (.int p0.1),some (.int p0.2),vc,vd])∧Same H H'∧((List.range n).take c).findSome? (f3i n ps p0)=none) ⟨⟨_,_,rfl⟩,s1,rfl⟩ ?_ ?_
   ·rintro c σ H2 hc ⟨⟨vc,vd,rfl⟩,s2,n2⟩
    walk_at "rd"
    refine ⟨_,rfl,by lia,by lia,?_⟩
    rw [Int.toNat_natCast]
    refine fp_range (fun d σ H'=>(∃ vd,σ=[some (.int n),some (.ref a),some (.int p0.1),some (.int p0.2),some (.int (0 + c)),vd])∧Same H H'∧((List.range n).take d).findSome? (fun (d:Nat)=>if bar3B ps p0.1 p0.2 c d=true then some [p0.1,p0.2,(c:Int),(d:Int)] else none)=none) ⟨⟨_,rfl⟩,s2,rfl⟩ ?_ ?_
    ·rintro d σ H3 hd ⟨⟨vd,rfl⟩,s3,n3⟩
     walk_at "rd"
     refine ⟨_,ps,_,_,_,_,rfl,Is.same s3 (.tup e hxs),fun H4 s4=>?_⟩
     rw [Int.zero_add,Int.zero_add]
     cases hf:bar3B ps p0.1 p0.2 c d with
     | true=>
      walk_at "rd"
      refine ⟨by show 5≤sizeLine;decide,fun r3 hr3=>?_⟩
      have ef:f3 n ps=some [p0.1,p0.2,(c:Int),(d:Int)]:=fs_at n1 hpi (fs_at n2 (rg_at hc) (fs_at n3 (rg_at hd) (if_pos hf)))
      refine q _ _ ((s3.trans s4).trans (Same.upd hr3)) ?_
      rw [ef]
      exact .tup upd_same (.cons (.str _) (.cons (.int _) (.cons (.int _) (.cons (.int _) (.cons (.int _) .nil)))))
     | false=>
      walk_at "rd"
      exact ⟨⟨_,rfl⟩,s3.trans s4,fs_next n3 (rg_at hd) (if_neg (by rw [hf];exact Bool.false_ne_true))⟩
    ·rintro σ H3 ⟨⟨vd,rfl⟩,s3,n3⟩
     exact ⟨⟨_,_,rfl⟩,s3,fs_next n2 (rg_at hc) (rg_end n3)⟩
   ·rintro σ H2 ⟨⟨vc,vd,rfl⟩,s2,n2⟩
    exact ⟨⟨_,_,_,_,rfl⟩,s2,fs_next n1 hpi (rg_end n2)⟩
  ·rintro σ H1 ⟨⟨va,vb,vc,vd,rfl⟩,s1,n1⟩
   rw [hl] at n1
   walk_at "rd"
   refine q _ H1 s1 ?_
   rw [show f3 n ps=none from fs_end n1]
   exact .non
noncomputable def barD (n:Nat) (ps:List (Int×Int)):PyData:=match f2 ps with
 | some l=>tagD "two" (some l)
 | none=>tagD "three" (f3 n ps)
set_option genSizeOf false in
set_option genInjectivity false in
inductive sp_bar_full (vs:List V) (H:Hp) (Q:VK) (zz3:XK):Prop where
 | mk (x n ps:_) (zh0:vs=[x]) (zh1:Is H x (ordD n ps)) (zh2:Ord n ps) (zh3:∀ v H',Same H H'→Is H' v (barD n ps)→Q v H'):sp_bar_full vs H Q zz3
theorem ok_bar (T:Txt K mg t):FnOk P w K mg base CX0 6 t.a_bar t.d_bar ["order"] sp_bar_full:=by
 refine T.F_bar.ok sc_bar (fun vs H Q E h=>?_) (fun cdv A outer s H vs Q E hr h=>?_)
 ·obtain ⟨x,n,ps,rfl,_⟩:=h
  rfl
 ·obtain ⟨x,n,ps,rfl,hx,ho,q⟩:=h
  refine ⟨_,(pss_cons (ps_expr (pe_call (ok_need_order T) (hr.mono (by decide)) rfl T.m_need_order T.F_need_order.kp T.b_need_order .nil pass0 (pa_cons (pv 0) pa_nil)))
   (pss_cons (ps_set (i:=1) sc_bar.nd rfl (Or.inl rfl) (pe_call (ok_first_two T) (hr.mono (by decide)) rfl T.m_first_two T.F_first_two.kp T.b_first_two .nil pass0 (pa_cons (pe_ix (k_ix K) (pv 0) pe_int (fun _ _=>rfl)) pa_nil)))
   (pss_cons (ps_if (pt_cmpR o_isN (pv 1) pe_non (nomark _)) (pss_one (ps_set (i:=1) sc_bar.nd rfl (Or.inl rfl) (pe_call (ok_first_three T) (hr.mono (by decide)) rfl T.m_first_three T.F_first_three.kp T.b_first_three .nil pass0 (pa_cons (pe_ix (k_ix K) (pv 0) pe_int (fun _ _=>rfl)) (pa_cons (pe_ix (k_ix K) (pv 0) pe_int (fun _ _=>rfl)) pa_nil))))) pss_nil)
   (pss_one (ps_ret (pv 1)))))),?_⟩
  walk_at "rd"
  refine ⟨_,_,rfl,hx,ho.okd,ho.yes,fun H1 s1=>?_⟩
  obtain ⟨a,b,xs,rfl,ea,eb,hxs⟩:=is_ord (hx.same s1)
  walk_at "rd"
  refine ⟨_,ps,rfl,.tup eb hxs,fun v H2 s2 iv=>?_⟩
  have ea2:=s2 _ _ ea
  have eb2:=s2 _ _ eb
  unfold barD at q
  cases e2:f2 ps with
  | some l=>
   rw [e2] at iv q
   unfold tagD at iv
   cases iv with
   | @tup r ys _ er hys=>
   walk_at "rd"
   exact q _ H2 (s1.trans s2) (.tup er hys)
  | none=>
   rw [e2] at iv q
   unfold tagD at iv
   cases iv with
   | non=>
   walk_at "rd"
   refine ⟨_,ps,n,rfl,ho.hi,.tup eb2 (hxs.same s2),fun v H3 s3 iv=>?_⟩
   walk_at "rd"
   exact q v H3 ((s1.trans s2).trans s3) iv
noncomputable def bar2L (ps:List (Int×Int)):Bool:=ps.any fun p=>ps.any fun q=>bar2B ps p.1 p.2 q.1 q.2
noncomputable def bar3L (n:Nat) (ps:List (Int×Int)):Bool:=ps.any fun p=>(List.range n).any fun c=>(List.range n).any fun d=>bar3B ps p.1 p.2 c d
noncomputable def barB (n:Nat) (ps:List (Int×Int)):Bool:=bar2L ps||bar3L n ps
theorem f2_none {ps:List (Int×Int)}:f2 ps=none↔bar2L ps=false:=by
 unfold f2 bar2L f2i
 rw [List.findSome?_eq_none_iff,List.any_eq_false]
 refine forall_congr' fun p=>forall_congr' fun hp=>?_
 rw [List.findSome?_eq_none_iff,Bool.not_eq_true,List.any_eq_false]
 refine forall_congr' fun q=>forall_congr' fun hq=>?_
 cases bar2B ps p.1 p.2 q.1 q.2 <;> simp
theorem f3_none {n:Nat} {ps:List (Int×Int)}:f3 n ps=none↔bar3L n ps=false:=by
 unfold f3 bar3L f3i
 rw [List.findSome?_eq_none_iff,List.any_eq_false]
 refine forall_congr' fun p=>forall_congr' fun hp=>?_
 rw [List.findSome?_eq_none_iff,Bool.not_eq_true,List.any_eq_false]
 refine forall_congr' fun c=>forall_congr' fun hc=>?_
 rw [List.findSome?_eq_none_iff,Bool.not_eq_true,List.any_eq_false]
 refine forall_congr' fun d=>forall_congr' fun hd=>?_
 cases bar3B ps p.1 p.2 c d <;> simp
theorem barD_no {n:Nat} {ps:List (Int×Int)} (h:barB n ps=false):barD n ps=.none:=by
 unfold barB at h
 rw [Bool.or_eq_false_iff] at h
 unfold barD
 rw [f2_none.mpr h.1,f3_none.mpr h.2]
 rfl
theorem barD_yes {n:Nat} {ps:List (Int×Int)} (h:barB n ps=true):∃ ds,barD n ps=.tuple ds:=by
 unfold barB at h
 unfold barD
 cases e2:f2 ps with
 | some l=>exact ⟨_,rfl⟩
 | none=>
  rw [f2_none.mp e2,Bool.false_or] at h
  cases e3:f3 n ps with
  | some l=>exact ⟨_,rfl⟩
  | none=>rw [f3_none.mp e3] at h;cases h
end
end My
namespace My
open PySem L2
section
variable {P:Program} {w:World} {K:PySem.W.Frag} {mg:Str→Option Value} {base:Heap} {t:Ad}
set_option genSizeOf false in
set_option genInjectivity false in
inductive sp_unbarred (vs:List V) (H:Hp) (Q:VK) (zz3:XK):Prop where
 | mk (x n ps:_) (zh0:vs=[x]) (zh1:Is H x (ordD n ps)) (zh2:Ord n ps) (zh3:barB n ps=false) (zh4:∀ H',Same H H'→Q .non H'):sp_unbarred vs H Q zz3
theorem ok_need_unbarred (T:Txt K mg t):FnOk P w K mg base CX0 7 t.a_need_unbarred t.d_need_unbarred ["order"] sp_unbarred:=by
 refine T.F_need_unbarred.ok sc_need_unbarred (fun vs H Q E h=>?_) (fun cdv A outer s H vs Q E hr h=>?_)
 ·obtain ⟨x,n,ps,rfl,_⟩:=h
  rfl
 ·obtain ⟨x,n,ps,rfl,hx,ho,hb,q⟩:=h
  refine ⟨_,(pss_one (ps_if (pt_cmpR o_notN (pe_call (ok_bar T) (hr.mono (by decide)) rfl T.m_bar T.F_bar.kp T.b_bar .nil pass0 (pa_cons (pv 0) pa_nil)) pe_non (nomark _)) (pss_one ps_never) pss_nil)),?_⟩
  walk_at "rd"
  refine ⟨x,n,ps,rfl,hx,ho,fun v H' s' iv=>?_⟩
  rw [barD_no hb] at iv
  cases iv with
  | non=>
  walk_at "rd"
  exact q H' s'
end
end My
namespace My
open PySem L2
section
variable {P:Program} {w:World} {K:PySem.W.Frag} {mg:Str→Option Value} {base:Heap} {t:Ad}
theorem noLs_pr:∀ ds:List (Int×Int),noLs (ds.map prD)=true
 | []=>rfl
 | d::ds=>by
  rw [List.map_cons,noLs,noLs_pr ds]
  rfl
noncomputable abbrev ltP (p q:Int×Int):Prop:=HT.lexLt [p.1,p.2] [q.1,q.2]=true
theorem ltP_of {p q:Int×Int} (h:p.1 < q.1∨(p.1=q.1∧p.2 < q.2)):ltP p q:=by
 show HT.lexLt [p.1,p.2] [q.1,q.2]=true
 rw [HT.lexLt_cons]
 rcases h with h | ⟨h1,h2⟩
 ·rw [if_neg (by lia)]
  exact decide_eq_true h
 ·rw [if_pos h1,HT.lexLt_cons,if_neg (by lia)]
  exact decide_eq_true h2
theorem rising_of:∀ {ps:List (Int×Int)},ps.Pairwise ltP→risingB ps=true
 | [],_=>rfl
 | [_],_=>rfl
 | a::b::r,h=>by
  rw [risingB,rising_of (List.pairwise_cons.mp h).2,(List.pairwise_cons.mp h).1 b List.mem_cons_self]
  rfl
end
end My
namespace My
open PySem L2
section
variable {P:Program} {w:World} {K:PySem.W.Frag} {mg:Str→Option Value} {base:Heap} {t:Ad}
theorem filter_one {α:Type} (f:α→Bool) (x:α):[x].filter f=if f x=true then [x] else []:=by
 cases h:f x <;> simp [h]
theorem lt_asym (p q:Int×Int):ltP p q→¬ltP q p:=fun h1 h2=>by
 have h2':HT.lexLt [q.1,q.2] [p.1,p.2]=true:=h2
 rw [lex_asym h1] at h2'
 cases h2'
theorem pw_of:∀ {ps:List (Int×Int)},risingB ps=true→ps.Pairwise ltP
 | [],_=>.nil
 | [_],_=>List.pairwise_singleton _ _
 | a::b::r,h=>by
  rw [risingB,Bool.and_eq_true] at h
  have ih:=pw_of h.2
  refine List.pairwise_cons.mpr ⟨fun x hx=>?_,ih⟩
  rcases List.mem_cons.mp hx with rfl | hx
  ·exact h.1
  ·exact lex_tr h.1 ((List.pairwise_cons.mp ih).1 x hx)
theorem pw_ext:∀ {l1 l2:List (Int×Int)},l1.Pairwise ltP→l2.Pairwise ltP→(∀ x,x∈l1↔x∈l2)→l1=l2
 | [],[],_,_,_=>rfl
 | [],b::t,_,_,h=>by cases (h b).mpr List.mem_cons_self
 | a::t,[],_,_,h=>by cases (h a).mp List.mem_cons_self
 | a::t1,b::t2,p1,p2,h=>by
  have q1:=List.pairwise_cons.mp p1
  have q2:=List.pairwise_cons.mp p2
  have e:a=b:=by
   apply Classical.byContradiction
   intro hne
   have ha:a∈t2:=by
    rcases List.mem_cons.mp ((h a).mp List.mem_cons_self) with g | g
    ·exact absurd g hne
    ·exact g
   have hb:b∈t1:=by
    rcases List.mem_cons.mp ((h b).mpr List.mem_cons_self) with g | g
    ·exact absurd g.symm hne
    ·exact g
   exact lt_asym a b (q1.1 b hb) (q2.1 a ha)
  subst e
  have irr:∀ x,ltP a x→x≠a:=fun x hx z=>by subst z;exact lt_asym _ _ hx hx
  rw [pw_ext q1.2 q2.2 fun x=>⟨fun hx=>?_,fun hx=>?_⟩]
  ·rcases List.mem_cons.mp ((h x).mp (List.mem_cons_of_mem _ hx)) with g | g
   ·exact absurd g (irr x (q1.1 x hx))
   ·exact g
  ·rcases List.mem_cons.mp ((h x).mpr (List.mem_cons_of_mem _ hx)) with g | g
   ·exact absurd g (irr x (q2.1 x hx))
   ·exact g
theorem has_iff {ps:List (Int×Int)} {i j:Int}:has ps i j=true↔(i,j)∈ps:=by
 unfold has
 exact decide_eq_true_iff
theorem nd_of {ps:List (Int×Int)} (h:ps.Pairwise ltP):ps.Nodup:=by
 refine List.Pairwise.imp (fun {a b} hab z=>?_) h
 subst z
 exact lt_asym _ _ hab hab
theorem nat_len:∀ (m:Nat) (l:List Nat),l.Nodup→(∀ x∈l,x < m)→l.length≤m
 | 0,[],_,_=>Nat.le_refl _
 | 0,x::_,_,h=>absurd (h x List.mem_cons_self) (Nat.not_lt_zero _)
 | m + 1,l,nd,h=>by
  by_cases hm:m∈l
  ·have:=nat_len m (l.erase m) (nd.erase m) fun x hx=>by
    have:=(List.Nodup.mem_erase_iff nd).mp hx
    have:=h x this.2
    lia
   rw [List.length_erase_of_mem hm] at this
   lia
  ·have:=nat_len m l nd fun x hx=>by
    have h1:=h x hx
    have:x≠m:=fun z=>hm (z▸hx)
    lia
   lia
noncomputable def inBox (p:Int×Int):Prop:=0≤p.1∧p.1 < 8∧0≤p.2∧p.2 < 8∧p.1≠p.2
theorem small_prs {ps:List (Int×Int)} (nd:ps.Nodup) (h:∀ p∈ps,inBox p):ps.length < 64:=by
 have e:=nat_len 63 (ps.map fun p=>(8 * p.1 + p.2).toNat) (by
  unfold List.Nodup
  rw [List.pairwise_map]
  refine List.Pairwise.imp_of_mem (fun {a b} ha hb hab z=>hab ?_) nd
  obtain ⟨a1,a2,a3,a4,_⟩:=h a ha
  obtain ⟨b1,b2,b3,b4,_⟩:=h b hb
  have:8 * a.1 + a.2=8 * b.1 + b.2:=by lia
  exact Prod.ext (by lia) (by lia)) (fun x hx=>by
  obtain ⟨p,hp,rfl⟩:=List.mem_map.mp hx
  obtain ⟨a1,a2,a3,a4,_⟩:=h p hp
  show (8 * p.1 + p.2).toNat < 63
  lia)
 rw [List.length_map] at e
 lia
noncomputable def inN (n:Nat) (p:Int×Int):Prop:=0≤p.1∧p.1 < n∧0≤p.2∧p.2 < n∧p.1≠p.2
theorem inN.box {n:Nat} (h8:n≤8) {p:Int×Int} (h:inN n p):inBox p:=by
 obtain ⟨a,b,c,d,e⟩:=h
 exact ⟨a,by lia,c,by lia,e⟩
theorem ord_of {n:Nat} {ps:List (Int×Int)} (lo:1≤n) (hi:n≤8) (ix:∀ p∈ps,inN n p) (up:ps.Pairwise ltP):Ord n ps:=
 ⟨lo,hi,ix,rising_of up,Nat.le_of_lt (Nat.lt_of_lt_of_le (small_prs (nd_of up) fun p hp=>(ix p hp).box hi) (by decide))⟩
theorem Ord.box {n:Nat} {ps:List (Int×Int)} (h:Ord n ps) {p:Int×Int} (hp:p∈ps):inBox p:=inN.box h.hi (h.ix p hp)
theorem Ord.small {n:Nat} {ps:List (Int×Int)} (h:Ord n ps):ps.length < 64:=small_prs (nd_of (pw_of h.up)) fun _ hp=>h.box hp
theorem Ord.in {n:Nat} {ps:List (Int×Int)} (h:Ord n ps) {i j:Int} (g:has ps i j=true):inN n (i,j):=h.ix _ (has_iff.mp g)
theorem rd_sortP {H:Hp} {Q:VK} {p:Addr} {vs:List V} {ps:List (Int×Int)} (e:H p=some (.lst vs)∨H p=some (.tup vs)) (hv:IsAll H vs (ps.map prD)) (nd:ps.Nodup) (hb:∀ p∈ps,inBox p)
  (h:∀ (l:Addr) (vs':List V) (ps':List (Int×Int)),H l=none→IsAll H vs' (ps'.map prD)→ps'.Perm ps→ps'.Pairwise ltP→Q (.ref l) (upd H l (.lst vs'))):rSorted K [.ref p] H Q:=by
 have tn:∀ ps:List (Int×Int),(ps.map fun p=>[p.1,p.2]).map (tupOf [])=ps.map prD:=fun ps=>by rw [List.map_map];rfl
 refine ⟨p,vs,[],ps.map fun p=>[p.1,p.2],2,rfl,e.elim (fun e=>.inl (SqL.of e)) (fun e=>.inr (SqT.of e)),by rw [tn];exact hv,?_,by decide,?_,by rw [List.length_map];exact small_prs nd hb,fun l vs' nss' hl ha hp hw=>?_⟩
 ·intro ns hm
  obtain ⟨q,_,rfl⟩:=List.mem_map.mp hm
  rfl
 ·unfold List.Nodup
  rw [List.pairwise_map]
  refine List.Pairwise.imp (fun {a b} hab z=>hab ?_) nd
  injection z with z1 z2
  injection z2 with z2 _
  exact Prod.ext z1 z2
 ·have key:∀ l:List (List Int),(∀ ns∈l,∃ a b,ns=[a,b])→l=(l.map fun ns=>(ns.getD 0 0,ns.getD 1 0)).map fun p=>[p.1,p.2]:=fun l hl=>by
   induction l with
   | nil=>rfl
   | cons x l ih=>
    obtain ⟨a,b,rfl⟩:=hl x List.mem_cons_self
    rw [List.map_cons,List.map_cons,←ih fun ns hns=>hl ns (List.mem_cons_of_mem _ hns)]
    rfl
  have e':=key nss' fun ns hns=>by
   obtain ⟨q,_,rfl⟩:=List.mem_map.mp (hp.mem_iff.mp hns)
   exact ⟨_,_,rfl⟩
  generalize nss'.map (fun ns=>(ns.getD 0 0,ns.getD 1 0))=ps' at e'
  subst e'
  rw [tn] at ha
  have hw':=List.pairwise_map.mp hw
  refine h l vs' ps' hl ha ?_ hw'
  have h2:=hp.map fun ns:List Int=>(ns.getD 0 0,ns.getD 1 0)
  rw [List.map_map,List.map_map] at h2
  have e1:∀ l:List (Int×Int),l.map ((fun ns:List Int=>(ns.getD 0 0,ns.getD 1 0)) ∘ fun p=>[p.1,p.2])=l:=fun l=>by
   refine (List.map_congr_left fun p _=>?_).trans (List.map_id l)
   rfl
  rw [e1,e1] at h2
  exact h2
theorem eqvAll_ints:∀ as bs:List Int,PyData.eqvAll (as.map .int) (bs.map .int)=decide (as=bs)
 | [],[]=>rfl
 | [],_::_=>rfl
 | _::_,[]=>rfl
 | a::as,b::bs=>by
  rw [List.map_cons,List.map_cons,PyData.eqvAll,eqvAll_ints as bs,PyData.eqv]
  by_cases h:a=b
  ·by_cases h2:as=bs
   ·subst h h2;simp
   ·simp [h,h2]
  ·simp [h]
theorem ok_ints (as:List Int):okD (.list (as.map .int)):=by
 have h1:PyData.canLayAll0 (as.map PyData.int)=true:=by
  induction as with
  | nil=>rfl
  | cons a as ih=>rw [List.map_cons,PyData.canLayAll0,ih];rfl
 have h2:PyData.depthAll (as.map PyData.int)≤0:=by
  clear h1
  induction as with
  | nil=>exact Nat.le_refl _
  | cons a as ih=>rw [List.map_cons,PyData.depthAll];exact Nat.max_le.mpr ⟨Nat.le_refl _,ih⟩
 refine ⟨?_,?_⟩
 ·rw [PyData.canLay0];exact h1
 ·rw [PyData.depth];lia
noncomputable def gI (f:Nat→Nat→Bool) (i j:Nat):List (Int×Int):=if f i j=true then [((i:Int),(j:Int))] else []
noncomputable def gRow (f:Nat→Nat→Bool) (i m:Nat):List (Int×Int):=(List.range m).flatMap (gI f i)
noncomputable def gAll (f:Nat→Nat→Bool) (n m:Nat):List (Int×Int):=(List.range m).flatMap fun i=>gRow f i n
theorem gRow_succ (f:Nat→Nat→Bool) (i m:Nat):gRow f i (m + 1)=gRow f i m++gI f i m:=by
 unfold gRow
 rw [List.range_succ,List.flatMap_append]
 simp
theorem gAll_succ (f:Nat→Nat→Bool) (n m:Nat):gAll f n (m + 1)=gAll f n m++gRow f m n:=by
 unfold gAll
 rw [List.range_succ,List.flatMap_append]
 simp
theorem mem_gI {f:Nat→Nat→Bool} {i j:Nat} {p:Int×Int}:p∈gI f i j↔p=((i:Int),(j:Int))∧f i j=true:=by
 unfold gI
 split
 ·rename_i h
  rw [List.mem_singleton]
  exact ⟨fun e=>⟨e,h⟩,fun e=>e.1⟩
 ·rename_i h
  exact ⟨fun e=>(nomatch e),fun e=>absurd e.2 h⟩
theorem mem_gRow {f:Nat→Nat→Bool} {i m:Nat} {p:Int×Int}:p∈gRow f i m↔∃ j,j < m∧p=((i:Int),(j:Int))∧f i j=true:=by
 unfold gRow
 rw [List.mem_flatMap]
 constructor
 ·rintro ⟨j,hj,h⟩
  exact ⟨j,List.mem_range.mp hj,mem_gI.mp h⟩
 ·rintro ⟨j,hj,h⟩
  exact ⟨j,List.mem_range.mpr hj,mem_gI.mpr h⟩
theorem mem_gAll {f:Nat→Nat→Bool} {n m:Nat} {p:Int×Int}:p∈gAll f n m↔∃ i j,i < m∧j < n∧p=((i:Int),(j:Int))∧f i j=true:=by
 unfold gAll
 rw [List.mem_flatMap]
 constructor
 ·rintro ⟨i,hi,h⟩
  obtain ⟨j,hj,e,g⟩:=mem_gRow.mp h
  exact ⟨i,j,List.mem_range.mp hi,hj,e,g⟩
 ·rintro ⟨i,j,hi,hj,e,g⟩
  exact ⟨i,List.mem_range.mpr hi,mem_gRow.mpr ⟨j,hj,e,g⟩⟩
theorem gRow_up (f:Nat→Nat→Bool) (i:Nat):∀ m,(gRow f i m).Pairwise ltP
 | 0=>.nil
 | m + 1=>by
  rw [gRow_succ,List.pairwise_append]
  refine ⟨gRow_up f i m,?_,fun p hp q hq=>?_⟩
  ·unfold gI
   split
   ·exact List.pairwise_singleton _ _
   ·exact .nil
  ·obtain ⟨j,hj,rfl,_⟩:=mem_gRow.mp hp
   obtain ⟨rfl,_⟩:=mem_gI.mp hq
   exact ltP_of (.inr ⟨rfl,by show (j:Int) < m;lia⟩)
theorem gAll_up (f:Nat→Nat→Bool) (n:Nat):∀ m,(gAll f n m).Pairwise ltP
 | 0=>.nil
 | m + 1=>by
  rw [gAll_succ,List.pairwise_append]
  refine ⟨gAll_up f n m,gRow_up f m _,fun p hp q hq=>?_⟩
  obtain ⟨i,j,hi,hj,rfl,_⟩:=mem_gAll.mp hp
  obtain ⟨j',_,rfl,_⟩:=mem_gRow.mp hq
  exact ltP_of (.inl (by show (i:Int) < m;lia))
theorem g_ord {n:Nat} {ps:List (Int×Int)} (ho:Ord n ps) {f:Nat→Nat→Bool} (h:∀ i j:Nat,i < n→j < n→f i j=has ps i j):gAll f n n=ps:=by
 refine pw_ext (gAll_up f n n) (pw_of ho.up) fun p=>?_
 rw [mem_gAll]
 constructor
 ·rintro ⟨i,j,hi,hj,rfl,g⟩
  rw [h i j hi hj] at g
  exact has_iff.mp g
 ·intro hp
  obtain ⟨a,b,c,d,_⟩:=ho.ix p hp
  have e1:((p.1.toNat:Nat):Int)=p.1:=Int.toNat_of_nonneg a
  have e2:((p.2.toNat:Nat):Int)=p.2:=Int.toNat_of_nonneg c
  refine ⟨p.1.toNat,p.2.toNat,by lia,by lia,by rw [e1,e2],?_⟩
  rw [h _ _ (by lia) (by lia),e1,e2]
  exact has_iff.mpr hp
end
end My
namespace My
open PySem L2
section
variable {P:Program} {w:World} {K:PySem.W.Frag} {mg:Str→Option Value} {base:Heap} {t:Ad}
noncomputable def Brd (n:Nat) (ps:List (Int×Int)):Prop:=(∃ a b c d,bar2B ps a b c d=true)∨∃ a b c d:Int,0≤d∧d < n∧bar3B ps a b c d=true
theorem brd_iff {n:Nat} {ps:List (Int×Int)} (ho:Ord n ps):barB n ps=true↔Brd n ps:=by
 unfold barB Brd
 rw [Bool.or_eq_true]
 refine or_congr ?_ ?_
 ·unfold bar2L
  rw [List.any_eq_true]
  constructor
  ·rintro ⟨p,_,h⟩
   obtain ⟨q,_,h⟩:=List.any_eq_true.mp h
   exact ⟨_,_,_,_,h⟩
  ·rintro ⟨a,b,c,d,h⟩
   have h':=h
   unfold bar2B at h'
   rw [Bool.and_eq_true,Bool.and_eq_true] at h'
   exact ⟨(a,b),has_iff.mp h'.1.1,List.any_eq_true.mpr ⟨(c,d),has_iff.mp h'.1.2,h⟩⟩
 ·unfold bar3L
  rw [List.any_eq_true]
  constructor
  ·rintro ⟨p,_,h⟩
   obtain ⟨c,_,h⟩:=List.any_eq_true.mp h
   obtain ⟨d,hd,h⟩:=List.any_eq_true.mp h
   have:=List.mem_range.mp hd
   exact ⟨_,_,_,_,by lia,by lia,h⟩
  ·rintro ⟨a,b,c,d,h0,h1,h⟩
   have h':=h
   unfold bar3B at h'
   rw [Bool.and_eq_true,Bool.and_eq_true] at h'
   obtain ⟨_,_,c0,c1,_⟩:=ho.in h'.1.2
   have c0:0≤c:=c0
   have c1:c < n:=c1
   refine ⟨(a,b),has_iff.mp h'.1.1,List.any_eq_true.mpr ⟨c.toNat,List.mem_range.mpr (by lia),List.any_eq_true.mpr ⟨d.toNat,List.mem_range.mpr (by lia),?_⟩⟩⟩
   rw [Int.toNat_of_nonneg c0,Int.toNat_of_nonneg h0]
   exact h
theorem bar_is {H:Hp} {v:V} {n:Nat} {ps:List (Int×Int)} (h:Is H v (barD n ps)):decide (v=V.non)= !barB n ps:=by
 cases e:barB n ps with
 | false=>
  rw [barD_no e] at h
  cases h
  rfl
 | true=>
  obtain ⟨ds,e'⟩:=barD_yes e
  rw [e'] at h
  cases h
  rfl
end
end My
namespace My
open PySem L2
section
variable {P:Program} {w:World} {K:PySem.W.Frag} {mg:Str→Option Value} {base:Heap} {t:Ad}
set_option genSizeOf false in
set_option genInjectivity false in
inductive sp_cell (K:PySem.W.Frag) (vs:List V) (H:Hp) (Q:VK) (zz3:XK):Prop where
 | mk (a ns k:_) (zh0:vs=[.ref a,.int k]) (zh1:Scr K H a ns) (zh2:0≤k) (zh3:∀ c H',Same H H'→Q (.int c) H'):sp_cell K vs H Q zz3
theorem int_at {ns:List Int} {k:Int} (h0:0≤k) (h1:k < ns.length):atI (ns.map V.int) k=some (.int (ns.getD k.toNat 0)):=by
 refine atI_of (i:=k.toNat) (by lia) ?_
 rw [List.getElem?_map]
 have:k.toNat < ns.length:=by lia
 simp [this]
theorem ok__law_cell_at (T:Txt K mg t):FnOk P w K mg base CX0 1 t.a__law_cell_at t.d__law_cell_at ["_law_script","_law_k"] (sp_cell K):=by
 refine T.F__law_cell_at.ok sc__law_cell_at (fun vs H Q E h=>?_) (fun cdv A outer s H vs Q E hr h=>?_)
 ·obtain ⟨a,ns,k,rfl,_⟩:=h
  rfl
 ·obtain ⟨a,ns,k,rfl,hs,hk,q⟩:=h
  refine ⟨_,(pss_cons (ps_if (pt_cmpR (op_lt) (pv 1) (pe_callB (k_len K) (by rfl) T.n_len bt_len (pa_cons (pv 0) pa_nil)) (nomark _)) (pss_one (ps_ret (pe_ix (k_ix K) (pv 0) (pv 1) (fun _ _=>rfl)))) pss_nil)
   (pss_cons (ps_if (pt_cmpR (k_eqNil K hr.units0) (pv 0) (pe_lst pa_nil) (nomark _)) (pss_one (ps_ret pe_int)) pss_nil)
   (pss_one (ps_ret (pe_op op_add (pe_op op_mul (pe_ix (k_ix K) (pv 0) (pe_op op_mod (pv 1) (pe_callB (k_len K) (by rfl) T.n_len bt_len (pa_cons (pv 0) pa_nil))) (fun _ _=>rfl)) pe_int) (pv 1)))))),?_⟩
  walk_at "rd"
  refine rd_lenS hs.sq ?_
  walk_at "rd"
  refine ifB (fun h1=>?_) (fun h1=>?_)
  ·have h1':=of_decide_eq_true h1
   rw [List.length_map] at h1'
   walk_at "rd"
   refine rd_ixS hs.sq (int_at hk h1') ?_
   exact q _ H (Same.refl H)
  ·walk_at "rd"
   refine ⟨Nat.zero_le _,fun p hp=>?_⟩
   have s1:=Same.upd (o:=.lst []) hp
   walk_at "rd"
   refine ⟨a,p,ns,rfl,rfl,(hs.same s1).sq,SqL.of upd_same,?_⟩
   walk_at "rd"
   refine ifB (fun h2=>?_) (fun h2=>?_)
   ·walk_at "rd"
    exact q _ _ s1
   ·have h2':=of_decide_eq_false h2
    have hl:0 < ns.length:=List.length_pos_iff.mpr h2'
    walk_at "rd"
    refine rd_lenS (hs.same s1).sq ?_
    rw [List.length_map]
    refine rd_I (by lia) ?_
    refine rd_ixS (hs.same s1).sq (int_at (Int.emod_nonneg _ (by lia)) (Int.emod_lt_of_pos _ (by lia))) ?_
    walk_at "rd"
    refine rd_I (.inr ⟨by decide,by decide⟩) ?_
    walk_at "rd"
    exact q _ _ s1
set_option genSizeOf false in
set_option genInjectivity false in
inductive sp_mixed (K:PySem.W.Frag) (vs:List V) (H:Hp) (Q:VK) (zz3:XK):Prop where
 | mk (a ns k m:_) (zh0:vs=[.ref a,.int k,.int m]) (zh1:Scr K H a ns) (zh2:0≤k) (zh3:0 < m) (zh4:∀ r H',Same H H'→0≤r→r < m→Q (.int r) H'):sp_mixed K vs H Q zz3
theorem ok__law_mixed (T:Txt K mg t):FnOk P w K mg base CX0 2 t.a__law_mixed t.d__law_mixed ["_law_script","_law_k","_law_many"] (sp_mixed K):=by
 refine T.F__law_mixed.ok sc__law_mixed (fun vs H Q E h=>?_) (fun cdv A outer s H vs Q E hr h=>?_)
 ·obtain ⟨a,ns,k,m,rfl,_⟩:=h
  rfl
 ·obtain ⟨a,ns,k,m,rfl,hs,hk,hm,q⟩:=h
  refine ⟨_,(pss_cons (ps_set (i:=3) sc__law_mixed.nd rfl (Or.inl rfl) (pe_op op_mod (pe_op op_add (pe_op op_add (pe_op op_mul (pe_call (ok__law_cell_at T) (hr.mono (by decide)) rfl T.m__law_cell_at T.F__law_cell_at.kp T.b__law_cell_at .nil pass0 (pa_cons (pv 0) (pa_cons (pv 1) pa_nil))) pe_int) (pe_op op_mul pe_int (pv 1))) pe_int) pe_int))
   (pss_one (ps_ret (pe_op op_mod (pe_op op_mod (pe_op op_mod (pe_op op_pow (pv 3) pe_int) pe_int) pe_int) (pv 2))))),?_⟩
  walk_at "rd"
  refine ⟨a,ns,k,rfl,hs,hk,fun c H1 s1=>?_⟩
  walk_at "rd"
  refine rd_I (.inr ⟨by decide,by decide⟩) ?_
  walk_at "rd"
  refine rd_I (.inl ⟨by decide,by decide⟩) ?_
  walk_at "rd"
  refine rd_I (by decide) ?_
  walk_at "rd"
  have d0:=Int.emod_nonneg (c * 1103515245 + 7919 * k + 12345) (show (2147483647:Int)≠0 by decide)
  have d1:=Int.emod_lt_of_pos (c * 1103515245 + 7919 * k + 12345) (show (0:Int) < 2147483647 by decide)
  refine rd_I ⟨by decide,by decide,by lia⟩ ?_
  walk_at "rd"
  refine rd_I (by decide) ?_
  walk_at "rd"
  refine rd_I (by decide) ?_
  walk_at "rd"
  refine rd_I hm ?_
  exact q _ H1 s1 (Int.emod_nonneg _ (by lia)) (Int.emod_lt_of_pos _ hm)
set_option genSizeOf false in
set_option genInjectivity false in
inductive sp_draw (K:PySem.W.Frag) (vs:List V) (H:Hp) (Q:VK) (zz3:XK):Prop where
 | mk (a ns tw ts m:_) (zh0:vs=[.ref a,.ref tw,.int m]) (zh1:Scr K H a ns) (zh2:H tw=some (.lst ts)) (zh3:ts.length≤500) (zh4:0 < m) (zh5:∀ r H' ts',SameT tw H H'→H' tw=some (.lst ts')→ts'.length=ts.length + 1→0≤r→r < m→Q (.int r) H'):sp_draw K vs H Q zz3
theorem ok__law_draw (T:Txt K mg t):FnOk P w K mg base CX0 3 t.a__law_draw t.d__law_draw ["_law_script","_law_town","_law_many"] (sp_draw K):=by
 refine T.F__law_draw.ok sc__law_draw (fun vs H Q E h=>?_) (fun cdv A outer s H vs Q E hr h=>?_)
 ·obtain ⟨a,ns,tw,ts,m,rfl,_⟩:=h
  rfl
 ·obtain ⟨a,ns,tw,ts,m,rfl,hs,ht,hl,hm,q⟩:=h
  refine ⟨_,(pss_cons (ps_expr (k_bm K PySem.F.plainAttrs_list PySem.F.slot_list_append PySem.F.type_list_append mt_append (pv 1) (pa_cons pe_int pa_nil)))
   (pss_one (ps_ret (pe_call (ok__law_mixed T) (hr.mono (by decide)) rfl T.m__law_mixed T.F__law_mixed.kp T.b__law_mixed .nil pass0 (pa_cons (pv 0) (pa_cons (pe_callB (k_len K) (by rfl) T.n_len bt_len (pa_cons (pv 1) pa_nil)) (pa_cons (pv 2) pa_nil))))))),?_⟩
  walk_at "rd"
  refine ⟨tyV_lst ht,?_⟩
  walk_at "rd"
  refine rd_append ht (small1000 (by lia)) ?_
  have s1:SameT tw H (upd H tw (.lst (ts++[V.int 0]))):=fun b u e g=>by rw [upd_ne g];exact e
  have ht1:upd H tw (.lst (ts++[V.int 0])) tw=some (.lst (ts++[V.int 0])):=upd_same
  walk_at "rd"
  refine ⟨a,ns,_,m,rfl,hs.t ht s1,by lia,hm,fun r H2 s2 h0 h1=>?_⟩
  exact q r H2 _ (s1.trans s2.t) (s2 _ _ ht1) (by simp) h0 h1
set_option genSizeOf false in
set_option genInjectivity false in
inductive sp_pick (K:PySem.W.Frag) (vs:List V) (H:Hp) (Q:VK) (zz3:XK):Prop where
 | mk (a ns tw ts l xs:_) (zh0:vs=[.ref a,.ref tw,.ref l]) (zh1:Scr K H a ns) (zh2:H tw=some (.lst ts)) (zh3:ts.length≤500) (zh4:H l=some (.lst xs)) (zh5:l≠tw) (zh6:0 < xs.length) (zh7:∀ v H' ts',SameT tw H H'→H' tw=some (.lst ts')→ts'.length=ts.length + 1→v∈xs→Q v H'):sp_pick K vs H Q zz3
theorem ok__law_pick (T:Txt K mg t):FnOk P w K mg base CX0 4 t.a__law_pick t.d__law_pick ["_law_script","_law_town","_law_some"] (sp_pick K):=by
 refine T.F__law_pick.ok sc__law_pick (fun vs H Q E h=>?_) (fun cdv A outer s H vs Q E hr h=>?_)
 ·obtain ⟨a,ns,tw,ts,l,xs,rfl,_⟩:=h
  rfl
 ·obtain ⟨a,ns,tw,ts,l,xs,rfl,hs,ht,hl,el,nl,hx,q⟩:=h
  refine ⟨_,(pss_one (ps_ret (pe_ix (k_ix K) (pv 2) (pe_call (ok__law_draw T) (hr.mono (by decide)) rfl T.m__law_draw T.F__law_draw.kp T.b__law_draw .nil pass0 (pa_cons (pv 0) (pa_cons (pv 1) (pa_cons (pe_callB (k_len K) (by rfl) T.n_len bt_len (pa_cons (pv 2) pa_nil)) pa_nil)))) (fun _ _=>rfl)))),?_⟩
  walk_at "rd"
  refine ⟨a,ns,tw,ts,_,rfl,hs,ht,hl,by lia,fun r H1 ts' s1 ht1 hl1 h0 h1=>?_⟩
  have hr':r.toNat < xs.length:=by lia
  refine rd_ixL (s1 _ _ el nl) (atI_of (i:=r.toNat) (by lia) (List.getElem?_eq_getElem hr')) ?_
  exact q _ H1 ts' s1 ht1 hl1 (List.getElem_mem hr')
end
end My
namespace My
open PySem L2
section
variable {P:Program} {w:World} {K:PySem.W.Frag} {mg:Str→Option Value} {base:Heap} {t:Ad}
noncomputable def refD (j:Nat):PyData:=.tuple [.str "refused",.int j]
structure Which (K:PySem.W.Frag) (t:Ad) (C:Addr) (j:Nat):Prop where
 lt:j < 13
 Z:ExcC K C
 v:PySem.W.kitOne K (.ref C) (.type "ValueError")=some true
 x:PySem.W.exmOne K (.ref C) (.ref t.c_OrderError)=some true
 k0:PySem.W.kitOne K (.ref C) (.ref t.c_NoOrder)=some (j==0)
 k1:PySem.W.kitOne K (.ref C) (.ref t.c_NoNumbers)=some (j==1)
 k2:PySem.W.kitOne K (.ref C) (.ref t.c_NoStep)=some (j==2)
 k3:PySem.W.kitOne K (.ref C) (.ref t.c_NoThing)=some (j==3)
 k4:PySem.W.kitOne K (.ref C) (.ref t.c_NoCount)=some (j==4)
 k5:PySem.W.kitOne K (.ref C) (.ref t.c_NoTelling)=some (j==5)
 k6:PySem.W.kitOne K (.ref C) (.ref t.c_Barred)=some (j==6)
 k7:PySem.W.kitOne K (.ref C) (.ref t.c_Full)=some (j==7)
 k8:PySem.W.kitOne K (.ref C) (.ref t.c_Nothing)=some (j==8)
 k9:PySem.W.kitOne K (.ref C) (.ref t.c_NoNames)=some (j==9)
 k10:PySem.W.kitOne K (.ref C) (.ref t.c_NoRow)=some (j==10)
 k11:PySem.W.kitOne K (.ref C) (.ref t.c_NoSeveral)=some (j==11)
 k12:PySem.W.kitOne K (.ref C) (.ref t.c_NoText)=some (j==12)
noncomputable def wL (j:Nat):List Bool:=[j==0,j==1,j==2,j==3,j==4,j==5,j==6,j==7,j==8,j==9,j==10,j==11,j==12]
theorem wL_count {j:Nat} (h:j < 13):(wL j).countP (· ==true)=1:=by
 have:∀ j:Fin 13,(wL j.val).countP (· ==true)=1:=by decide
 exact this ⟨j,h⟩
theorem wL_at {j:Nat} (h:j < 13):(wL j)[j]? =some true:=by
 have:∀ j:Fin 13,(wL j.val)[j.val]? =some true:=by decide
 exact this ⟨j,h⟩
theorem wL_no {j:Nat} (h:j < 13):∀ m,m < j→(wL j)[m]? ≠some true:=by
 have:∀ j m:Fin 13,m.val < j.val→(wL j.val)[m.val]? ≠some true:=by decide
 exact fun m hm=>this ⟨j,h⟩ ⟨m,by lia⟩ hm
set_option genSizeOf false in
set_option genInjectivity false in
inductive sp_which (K:PySem.W.Frag) (t:Ad) (vs:List V) (H:Hp) (Q:VK) (zz3:XK):Prop where
 | mk (e C j:_) (zh0:vs=[.ref e]) (zh1:H e=some (excO e C)) (zh2:Which K t C j) (zh3:∀ v H',Same H H'→Is H' v (refD j)→Q v H'):sp_which K t vs H Q zz3
theorem okH__law_which (T:Txt K mg t):FnOkH P w K mg base 1 t.a__law_which t.d__law_which ["_law_e"] (sp_which K t):=by
 refine T.F__law_which.okH sc__law_which (fun vs H Q E h=>?_) (fun cdv A outer s H vs Q hr h=>?_)
 ·obtain ⟨e,C,j,rfl,_⟩:=h
  rfl
 ·obtain ⟨e,C,j,rfl,he,W,q⟩:=h
  refine ⟨_,(pss_cons (ps_set (i:=1) sc__law_which.nd rfl (Or.inl rfl) (pe_lst (pa_cons (pe_callB (k_isX K) (by rfl) T.n_isinstance bt_isinstance (pa_cons (pv 0) (pa_cons (pe_glob (v:=.ref t.c_NoOrder) rfl T.g_NoOrder rfl) pa_nil))) (pa_cons (pe_callB (k_isX K) (by rfl) T.n_isinstance bt_isinstance (pa_cons (pv 0) (pa_cons (pe_glob (v:=.ref t.c_NoNumbers) rfl T.g_NoNumbers rfl) pa_nil))) (pa_cons (pe_callB (k_isX K) (by rfl) T.n_isinstance bt_isinstance (pa_cons (pv 0) (pa_cons (pe_glob (v:=.ref t.c_NoStep) rfl T.g_NoStep rfl) pa_nil))) (pa_cons (pe_callB (k_isX K) (by rfl) T.n_isinstance bt_isinstance (pa_cons (pv 0) (pa_cons (pe_glob (v:=.ref t.c_NoThing) rfl T.g_NoThing rfl) pa_nil))) pa_nil))))))
   (pss_cons (ps_expr (k_bm K PySem.F.plainAttrs_list PySem.F.slot_list_extend PySem.F.type_list_extend mt_extend (pv 1) (pa_cons (pe_lst (pa_cons (pe_callB (k_isX K) (by rfl) T.n_isinstance bt_isinstance (pa_cons (pv 0) (pa_cons (pe_glob (v:=.ref t.c_NoCount) rfl T.g_NoCount rfl) pa_nil))) (pa_cons (pe_callB (k_isX K) (by rfl) T.n_isinstance bt_isinstance (pa_cons (pv 0) (pa_cons (pe_glob (v:=.ref t.c_NoTelling) rfl T.g_NoTelling rfl) pa_nil))) (pa_cons (pe_callB (k_isX K) (by rfl) T.n_isinstance bt_isinstance (pa_cons (pv 0) (pa_cons (pe_glob (v:=.ref t.c_Barred) rfl T.g_Barred rfl) pa_nil))) (pa_cons (pe_callB (k_isX K) (by rfl) T.n_isinstance bt_isinstance (pa_cons (pv 0) (pa_cons (pe_glob (v:=.ref t.c_Full) rfl T.g_Full rfl) pa_nil))) pa_nil))))) pa_nil)))
   (pss_cons (ps_expr (k_bm K PySem.F.plainAttrs_list PySem.F.slot_list_extend PySem.F.type_list_extend mt_extend (pv 1) (pa_cons (pe_lst (pa_cons (pe_callB (k_isX K) (by rfl) T.n_isinstance bt_isinstance (pa_cons (pv 0) (pa_cons (pe_glob (v:=.ref t.c_Nothing) rfl T.g_Nothing rfl) pa_nil))) (pa_cons (pe_callB (k_isX K) (by rfl) T.n_isinstance bt_isinstance (pa_cons (pv 0) (pa_cons (pe_glob (v:=.ref t.c_NoNames) rfl T.g_NoNames rfl) pa_nil))) (pa_cons (pe_callB (k_isX K) (by rfl) T.n_isinstance bt_isinstance (pa_cons (pv 0) (pa_cons (pe_glob (v:=.ref t.c_NoRow) rfl T.g_NoRow rfl) pa_nil))) (pa_cons (pe_callB (k_isX K) (by rfl) T.n_isinstance bt_isinstance (pa_cons (pv 0) (pa_cons (pe_glob (v:=.ref t.c_NoSeveral) rfl T.g_NoSeveral rfl) pa_nil))) pa_nil))))) pa_nil)))
   (pss_cons (ps_expr (k_bm K PySem.F.plainAttrs_list PySem.F.slot_list_append PySem.F.type_list_append mt_append (pv 1) (pa_cons (pe_callB (k_isX K) (by rfl) T.n_isinstance bt_isinstance (pa_cons (pv 0) (pa_cons (pe_glob (v:=.ref t.c_NoText) rfl T.g_NoText rfl) pa_nil))) pa_nil)))
   (pss_cons (ps_if (PW.pt (pw_or (pt_cmpR (op_neD hr.units) (k_bm K PySem.F.plainAttrs_list PySem.F.slot_list_count PySem.F.type_list_count mt_countB (pv 1) (pa_cons pe_bl pa_nil)) pe_int (nomark _)) (pw_or1 (pt_not (pt_val (pe_callB (k_isX K) (by rfl) T.n_isinstance bt_isinstance (pa_cons (pv 0) (pa_cons (pe_bltn (v:=.ty "ValueError") rfl T.n_ValueError bt_ValueError rfl) pa_nil)))))))) (pss_one (ps_ret (pe_tup (pa_cons pe_str (pa_cons (pe_un un_neg pe_int) pa_nil))))) pss_nil)
   (pss_one (ps_ret (pe_tup (pa_cons pe_str (pa_cons (k_bm K PySem.F.plainAttrs_list PySem.F.slot_list_index PySem.F.type_list_index mt_indexB (pv 1) (pa_cons pe_bl pa_nil)) pa_nil)))))))))),?_⟩
  walk_at "rd"
  refine rd_isXo he W.Z W.k0 ?_
  walk_at "rd"
  refine rd_isXo he W.Z W.k1 ?_
  walk_at "rd"
  refine rd_isXo he W.Z W.k2 ?_
  walk_at "rd"
  refine rd_isXo he W.Z W.k3 ?_
  walk_at "rd"
  refine ⟨by show 4≤sizeLine;decide,fun l hl=>?_⟩
  have nle:e≠l:=ne_of_none he hl
  have s1:=Same.upd (o:=.lst [V.bl (j==0),V.bl (j==1),V.bl (j==2),V.bl (j==3)]) hl
  have el1:upd H l (.lst [V.bl (j==0),V.bl (j==1),V.bl (j==2),V.bl (j==3)]) l=some (.lst [V.bl (j==0),V.bl (j==1),V.bl (j==2),V.bl (j==3)]):=upd_same
  have he1:=s1 _ _ he
  generalize upd H l (.lst [V.bl (j==0),V.bl (j==1),V.bl (j==2),V.bl (j==3)])=H1 at s1 el1 he1
  walk_at "rd"
  refine ⟨tyV_lst el1,?_⟩
  walk_at "rd"
  refine rd_isXo he1 W.Z W.k4 ?_
  walk_at "rd"
  refine rd_isXo he1 W.Z W.k5 ?_
  walk_at "rd"
  refine rd_isXo he1 W.Z W.k6 ?_
  walk_at "rd"
  refine rd_isXo he1 W.Z W.k7 ?_
  walk_at "rd"
  refine ⟨by show 4≤sizeLine;decide,fun m hm=>?_⟩
  have s2:=Same.upd (o:=.lst [V.bl (j==4),V.bl (j==5),V.bl (j==6),V.bl (j==7)]) hm
  walk_at "rd"
  refine rd_extend (s2 _ _ el1) upd_same (by show 8≤sizeLine;decide) ?_
  have s3:∀ b u,H b=some u→upd (upd H1 m (.lst [V.bl (j==4),V.bl (j==5),V.bl (j==6),V.bl (j==7)])) l (.lst ([V.bl (j==0),V.bl (j==1),V.bl (j==2),V.bl (j==3)]++[V.bl (j==4),V.bl (j==5),V.bl (j==6),V.bl (j==7)])) b=some u:=fun b u eb=>by
   rw [upd_ne (ne_of_none eb hl)]
   exact s2 _ _ (s1 _ _ eb)
  have el2:upd (upd H1 m (.lst [V.bl (j==4),V.bl (j==5),V.bl (j==6),V.bl (j==7)])) l (.lst ([V.bl (j==0),V.bl (j==1),V.bl (j==2),V.bl (j==3)]++[V.bl (j==4),V.bl (j==5),V.bl (j==6),V.bl (j==7)])) l=some (.lst ([V.bl (j==0),V.bl (j==1),V.bl (j==2),V.bl (j==3)]++[V.bl (j==4),V.bl (j==5),V.bl (j==6),V.bl (j==7)])):=upd_same
  generalize upd (upd H1 m (.lst [V.bl (j==4),V.bl (j==5),V.bl (j==6),V.bl (j==7)])) l (.lst ([V.bl (j==0),V.bl (j==1),V.bl (j==2),V.bl (j==3)]++[V.bl (j==4),V.bl (j==5),V.bl (j==6),V.bl (j==7)]))=H2 at s3 el2
  have he2:=s3 _ _ he
  walk_at "rd"
  refine ⟨tyV_lst el2,?_⟩
  walk_at "rd"
  refine rd_isXo he2 W.Z W.k8 ?_
  walk_at "rd"
  refine rd_isXo he2 W.Z W.k9 ?_
  walk_at "rd"
  refine rd_isXo he2 W.Z W.k10 ?_
  walk_at "rd"
  refine rd_isXo he2 W.Z W.k11 ?_
  walk_at "rd"
  refine ⟨by show 4≤sizeLine;decide,fun m2 hm2=>?_⟩
  have s4:=Same.upd (o:=.lst [V.bl (j==8),V.bl (j==9),V.bl (j==10),V.bl (j==11)]) hm2
  walk_at "rd"
  refine rd_extend (s4 _ _ el2) upd_same (by show 12≤sizeLine;decide) ?_
  have s5:∀ b u,H b=some u→upd (upd H2 m2 (.lst [V.bl (j==8),V.bl (j==9),V.bl (j==10),V.bl (j==11)])) l (.lst (([V.bl (j==0),V.bl (j==1),V.bl (j==2),V.bl (j==3)]++[V.bl (j==4),V.bl (j==5),V.bl (j==6),V.bl (j==7)])++[V.bl (j==8),V.bl (j==9),V.bl (j==10),V.bl (j==11)])) b=some u:=fun b u eb=>by
   rw [upd_ne (ne_of_none eb hl)]
   exact s4 _ _ (s3 _ _ eb)
  have el3:upd (upd H2 m2 (.lst [V.bl (j==8),V.bl (j==9),V.bl (j==10),V.bl (j==11)])) l (.lst (([V.bl (j==0),V.bl (j==1),V.bl (j==2),V.bl (j==3)]++[V.bl (j==4),V.bl (j==5),V.bl (j==6),V.bl (j==7)])++[V.bl (j==8),V.bl (j==9),V.bl (j==10),V.bl (j==11)])) l=some (.lst (([V.bl (j==0),V.bl (j==1),V.bl (j==2),V.bl (j==3)]++[V.bl (j==4),V.bl (j==5),V.bl (j==6),V.bl (j==7)])++[V.bl (j==8),V.bl (j==9),V.bl (j==10),V.bl (j==11)])):=upd_same
  generalize upd (upd H2 m2 (.lst [V.bl (j==8),V.bl (j==9),V.bl (j==10),V.bl (j==11)])) l (.lst (([V.bl (j==0),V.bl (j==1),V.bl (j==2),V.bl (j==3)]++[V.bl (j==4),V.bl (j==5),V.bl (j==6),V.bl (j==7)])++[V.bl (j==8),V.bl (j==9),V.bl (j==10),V.bl (j==11)]))=H3 at s5 el3
  have he3:=s5 _ _ he
  walk_at "rd"
  refine ⟨tyV_lst el3,?_⟩
  walk_at "rd"
  refine rd_isXo he3 W.Z W.k12 ?_
  walk_at "rd"
  refine rd_append el3 (by show 12 < sizeLine;decide) ?_
  have s6:Same H (upd H3 l (.lst ((([V.bl (j==0),V.bl (j==1),V.bl (j==2),V.bl (j==3)]++[V.bl (j==4),V.bl (j==5),V.bl (j==6),V.bl (j==7)])++[V.bl (j==8),V.bl (j==9),V.bl (j==10),V.bl (j==11)])++[V.bl (j==12)]))):=fun b u eb=>by
   rw [upd_ne (ne_of_none eb hl)]
   exact s5 _ _ eb
  have el4:upd H3 l (.lst ((([V.bl (j==0),V.bl (j==1),V.bl (j==2),V.bl (j==3)]++[V.bl (j==4),V.bl (j==5),V.bl (j==6),V.bl (j==7)])++[V.bl (j==8),V.bl (j==9),V.bl (j==10),V.bl (j==11)])++[V.bl (j==12)])) l=some (.lst ((wL j).map V.bl)):=upd_same
  generalize upd H3 l (.lst ((([V.bl (j==0),V.bl (j==1),V.bl (j==2),V.bl (j==3)]++[V.bl (j==4),V.bl (j==5),V.bl (j==6),V.bl (j==7)])++[V.bl (j==8),V.bl (j==9),V.bl (j==10),V.bl (j==11)])++[V.bl (j==12)]))=H4 at s6 el4
  have he4:=s6 _ _ he
  walk_at "rd"
  refine ⟨tyV_lst el4,?_⟩
  walk_at "rd"
  refine rd_countB el4 ?_
  rw [wL_count W.lt]
  walk_at "rd"
  refine ifF rfl ?_
  walk_at "rd"
  refine rd_isXt he4 W.Z W.v ?_
  walk_at "rd"
  refine ⟨tyV_lst el4,?_⟩
  walk_at "rd"
  refine rd_indexB el4 (wL_at W.lt) (wL_no W.lt) ?_
  refine ⟨by show 2≤sizeLine;decide,fun p hp=>?_⟩
  exact q _ _ (s6.trans (Same.upd hp)) (.tup upd_same (.cons (.str _) (.cons (.int _) .nil)))
end
end My
namespace My
open PySem L2
theorem int_get {S:List Int} {i:Nat} {x:V} (h:(S.map V.int)[i]? =some x):∃ t,S[i]? =some t∧x=.int t:=by
 rw [List.getElem?_map] at h
 cases e:S[i]? with
 | none=>rw [e] at h;cases h
 | some t=>rw [e] at h;cases h;exact ⟨t,rfl,rfl⟩
end My
namespace My
open PySem L2
noncomputable def bad3 (n:Nat) (ps:List (Int×Int)) (a d:Int):List Int:=((L2.upTo n).filter fun x=> !has ps a x).filter fun x=> !has ps x d
noncomputable def badP (n:Nat) (ps:List (Int×Int)) (p q:Int×Int):Bool:=(!has ps p.1 q.2&& !has ps q.1 p.2)||(decide (p.2=q.1)&& !decide (bad3 n ps p.1 q.2=[]))
theorem upTo_mem {n:Nat} {x:Int}:x∈L2.upTo n↔0≤x∧x < (n:Int):=by
 unfold L2.upTo
 rw [List.mem_map]
 constructor
 ·rintro ⟨k,hk,rfl⟩
  have:=List.mem_range.mp hk
  lia
 ·rintro ⟨h1,h2⟩
  exact ⟨x.toNat,List.mem_range.mpr (by lia),by lia⟩
theorem bad_bar {n:Nat} {ps:List (Int×Int)} (ho:Ord n ps):(ps.any fun p=>ps.any fun q=>badP n ps p q)=barB n ps:=by
 rw [Bool.eq_iff_iff]
 unfold barB bar2L bar3L
 rw [Bool.or_eq_true]
 constructor
 ·intro h
  obtain ⟨p,hp,h⟩:=List.any_eq_true.mp h
  obtain ⟨q,hq,h⟩:=List.any_eq_true.mp h
  have hp1:has ps p.1 p.2=true:=has_iff.mpr hp
  have hq1:has ps q.1 q.2=true:=has_iff.mpr hq
  unfold badP at h
  rcases Bool.or_eq_true _ _ |>.mp h with h | h
  ·refine .inl (List.any_eq_true.mpr ⟨p,hp,List.any_eq_true.mpr ⟨q,hq,?_⟩⟩)
   unfold bar2B
   rw [hp1,hq1,h]
   rfl
  ·obtain ⟨h1,h2⟩:=Bool.and_eq_true _ _ |>.mp h
   have e1:p.2=q.1:=of_decide_eq_true h1
   have h2':bad3 n ps p.1 q.2≠[]:=by simpa using h2
   obtain ⟨x,hx⟩:=List.exists_mem_of_ne_nil _ h2'
   unfold bad3 at hx
   rw [List.mem_filter,List.mem_filter,upTo_mem] at hx
   obtain ⟨⟨⟨x0,x1⟩,h3⟩,h4⟩:=hx
   obtain ⟨_,_,i3,i4,_⟩:=ho.ix q hq
   refine .inr (List.any_eq_true.mpr ⟨p,hp,List.any_eq_true.mpr ⟨q.2.toNat,List.mem_range.mpr (by lia),List.any_eq_true.mpr ⟨x.toNat,List.mem_range.mpr (by lia),?_⟩⟩⟩)
   unfold bar3B
   rw [Int.toNat_of_nonneg i3,Int.toNat_of_nonneg x0,hp1,e1,hq1,h3,h4]
   rfl
 ·rintro (h | h)
  ·obtain ⟨p,hp,h⟩:=List.any_eq_true.mp h
   obtain ⟨q,hq,h⟩:=List.any_eq_true.mp h
   refine List.any_eq_true.mpr ⟨p,hp,List.any_eq_true.mpr ⟨q,hq,?_⟩⟩
   unfold bar2B at h
   unfold badP
   rw [(Bool.and_eq_true _ _ |>.mp h).2]
   rfl
  ·obtain ⟨p,hp,h⟩:=List.any_eq_true.mp h
   obtain ⟨c,hc,h⟩:=List.any_eq_true.mp h
   obtain ⟨d,hd,h⟩:=List.any_eq_true.mp h
   have hc:=List.mem_range.mp hc
   have hd:=List.mem_range.mp hd
   unfold bar3B at h
   obtain ⟨h12,h34⟩:=Bool.and_eq_true _ _ |>.mp h
   obtain ⟨h1,h2⟩:=Bool.and_eq_true _ _ |>.mp h12
   obtain ⟨h3,h4⟩:=Bool.and_eq_true _ _ |>.mp h34
   refine List.any_eq_true.mpr ⟨p,hp,List.any_eq_true.mpr ⟨(p.2,(c:Int)),has_iff.mp h2,?_⟩⟩
   unfold badP
   have:bad3 n ps p.1 (c:Int)≠[]:=by
    refine List.ne_nil_of_mem (a:=(d:Int)) ?_
    unfold bad3
    rw [List.mem_filter,List.mem_filter,upTo_mem]
    exact ⟨⟨⟨by lia,by lia⟩,h3⟩,h4⟩
   simp [this]
theorem any_next {α:Type} {f:α→Bool} {l:List α} {i:Nat} {a:α} (h:(l.take i).any f=false) (e:l[i]? =some a) (g:f a=false):(l.take (i + 1)).any f=false:=by
 rw [List.take_add_one,e,List.any_append,h]
 simp [g]
theorem any_found {α:Type} {f:α→Bool} {l:List α} {i:Nat} {a:α} (e:l[i]? =some a) (g:f a=true):l.any f=true:=List.any_eq_true.mpr ⟨a,List.mem_of_getElem? e,g⟩
theorem seq_rest {ta tb:TS} {D:Ends} {σ:St} {H:Hp} (C:St→Hp→Prop) (rest:∀ σ' H',C σ' H'→tb D σ' H') (h:∀ D':Ends,D'.rt=D.rt→(∀ σ' H',C σ' H'→D'.nx σ' H')→ta D' σ H):tSeq ta tb D σ H:=h { D with nx:=tb D } rfl rest
section
variable {P:Program} {w:World} {K:PySem.W.Frag} {mg:Str→Option Value} {base:Heap} {t:Ad}
set_option genSizeOf false in
set_option genInjectivity false in
inductive sp_lw_barred (vs:List V) (H:Hp) (Q:VK) (zz3:XK):Prop where
 | mk (x n ps:_) (zh0:vs=[x]) (zh1:Is H x (ordD n ps)) (zh2:Ord n ps) (zh3:∀ H',Same H H'→Q (.bl (barB n ps)) H'):sp_lw_barred vs H Q zz3
theorem ok__law_barred (T:Txt K mg t):FnOk P w K mg base CX0 1 t.a__law_barred t.d__law_barred ["_law_order"] sp_lw_barred:=by
 refine T.F__law_barred.ok sc__law_barred (fun vs H Q E h=>?_) (fun cdv A outer s H vs Q E hr h=>?_)
 ·obtain ⟨x,n,ps,rfl,_⟩:=h
  rfl
 ·obtain ⟨x,n,ps,rfl,hx,ho,q⟩:=h
  refine ⟨_,(pss_cons (ps_asg (pv 0) (k_gtup K rfl (pgs_cons (pg_name (i:=1) sc__law_barred.nd rfl (Or.inl rfl)) (pgs_cons (pg_name (i:=2) sc__law_barred.nd rfl (Or.inr rfl)) pgs_nil))))
   (pss_cons (ps_for PassesOwn.never rfl (k_ptup K (pv 2)) (k_gtup K rfl (pgs_cons (pg_name (i:=3) sc__law_barred.nd rfl (Or.inr rfl)) (pgs_cons (pg_name (i:=4) sc__law_barred.nd rfl (Or.inl rfl)) pgs_nil))) (pss_one (ps_for PassesOwn.never rfl (k_ptup K (pv 2)) (k_gtup K rfl (pgs_cons (pg_name (i:=5) sc__law_barred.nd rfl (Or.inl rfl)) (pgs_cons (pg_name (i:=6) sc__law_barred.nd rfl (Or.inr rfl)) pgs_nil))) (pss_cons (ps_if (PW.pt (pw_and (pt_cmpR (op_notInD hr.units) (pe_tup (pa_cons (pv 3) (pa_cons (pv 6) pa_nil))) (pv 2) (by rfl)) (pw_and1 (pt_cmpR (op_notInD hr.units) (pe_tup (pa_cons (pv 5) (pa_cons (pv 4) pa_nil))) (pv 2) (by rfl))))) (pss_one (ps_ret pe_bl)) pss_nil)
   (pss_cons (ps_set_lc (i:=7) sc__law_barred.nd rfl rfl rfl rfl ⟨True.intro,True.intro,(.inl rfl),(.inl rfl),True.intro⟩ (M:=["_law_x","_law_a","_law_pairs"]) (.own (.free 3 rfl rfl (.free 2 rfl rfl .nil))) (gk_name rfl) rfl (by decide +kernel) (pi_range1 rfl T.n_range (pa_cons (pv 1) pa_nil)) (fun C fp s1 H1=>⟨pg_name (i:=0) (show (["_law_x","_law_a","_law_pairs"]:List Str).Nodup by decide +kernel) rfl (Or.inl rfl),pif_one (pt_cmpR (op_notInD hr.units) (pe_tup (pa_cons (pv 1) (pa_cons (pv 0) pa_nil))) (pv 2) (by rfl)),(pv 0)⟩))
   (pss_one (ps_if (PW.pt (pw_and (pt_cmpR (op_eqD hr.units) (pv 4) (pv 5) (nomark _)) (pw_and1 (pt_cmpR (op_neD hr.units) (pe_lc rfl ⟨True.intro,True.intro,(.inl rfl),(.inl rfl),True.intro⟩ (M:=["_law_x","_law_d","_law_pairs"]) (.own (.free 6 rfl rfl (.free 2 rfl rfl .nil))) (gk_name rfl) rfl (by decide +kernel) (k_plst K (pv 7)) (fun C fp s1 H1=>⟨pg_name (i:=0) (show (["_law_x","_law_d","_law_pairs"]:List Str).Nodup by decide +kernel) rfl (Or.inl rfl),pif_one (pt_cmpR (op_notInD hr.units) (pe_tup (pa_cons (pv 0) (pa_cons (pv 1) pa_nil))) (pv 2) (by rfl)),(pv 0)⟩)) (pe_lst pa_nil) (nomark _))))) (pss_one (ps_ret pe_bl)) pss_nil)))))))
   (pss_one (ps_ret pe_bl)))),?_⟩
  obtain ⟨oa,ob,xs,rfl,ea,e,hxs⟩:=is_ord hx
  have hl:xs.length=ps.length:=by rw [hxs.length,List.length_map]
  have n8:=ho.hi
  rw [←bad_bar ho] at q
  walk_at "rd"
  refine rd_gtup ea rfl ?_
  walk_at "rd"
  refine ⟨ob,rfl,⟨xs,SqT.of e⟩,?_⟩
  refine fp_tup (K:=K) (xs:=xs) (fun i σ H'=>(∃ va vb vc vd ve,σ=[some (.ref oa),some (.int (n:Int)),some (.ref ob),va,vb,vc,vd,ve])∧Same H H'∧(ps.take i).any (fun p=>ps.any fun q=>badP n ps p q)=false) ⟨⟨_,_,_,_,_,rfl⟩,Same.refl H,rfl⟩ (fun i σ H' _ h=>SqT.of (h.2.1 _ _ e)) ?_ ?_
  ·rintro i x σ H1 hx ⟨⟨va,vb,vc,vd,ve,rfl⟩,s1,n1⟩
   obtain ⟨p,ep,ip⟩:=(hxs.same s1).get' hx
   rw [List.getElem?_map] at ep
   cases hpi:ps[i]? with
   | none=>rw [hpi] at ep;cases ep
   | some p0=>
   rw [hpi] at ep
   cases ep
   unfold prD at ip
   cases ip with
   | @tup r ys _ er hys=>
   obtain rfl:=two_ints hys
   walk_at "rd"
   refine rd_gtup er rfl ?_
   walk_at "rd"
   refine ⟨ob,rfl,⟨xs,SqT.of (s1 _ _ e)⟩,?_⟩
   refine fp_tup (K:=K) (xs:=xs) (fun j σ H'=>(∃ vc vd ve,σ=[some (.ref oa),some (.int (n:Int)),some (.ref ob),some (.int p0.1),some (.int p0.2),vc,vd,ve])∧Same H H'∧(ps.take j).any (fun q=>badP n ps p0 q)=false) ⟨⟨_,_,_,rfl⟩,s1,rfl⟩ (fun i σ H' _ h=>SqT.of (h.2.1 _ _ e)) ?_ ?_
   ·rintro j y σ H2 hy ⟨⟨vc,vd,ve,rfl⟩,s2,n2⟩
    obtain ⟨q2,eq2,iq2⟩:=(hxs.same s2).get' hy
    rw [List.getElem?_map] at eq2
    cases hqj:ps[j]? with
    | none=>rw [hqj] at eq2;cases eq2
    | some q0=>
    rw [hqj] at eq2
    cases eq2
    unfold prD at iq2
    cases iq2 with
    | @tup r2 ys2 _ er2 hys2=>
    obtain rfl:=two_ints hys2
    have found:badP n ps p0 q0=true→(ps.any fun p=>ps.any fun q=>badP n ps p q)=true:=fun g=>any_found hpi (any_found hqj g)
    have hPs:∀ {H':Hp},Same H H'→Is H' (.ref ob) (.tuple (ps.map prD)):=fun {H'} s'=>.tup (s' _ _ e) (hxs.same s')
    walk_at "rd"
    refine rd_gtup er2 rfl ?_
    (repeat (first | with_reducible refine rd_gcons ?_ | with_reducible refine rd_gname ?_ | with_reducible refine rd_gnil ?_ | dsimp only))
    refine seq_rest (fun σ' H'=>σ'=[some (.ref oa),some (.int (n:Int)),some (.ref ob),some (.int p0.1),some (.int p0.2),some (.int q0.1),some (.int q0.2),ve]∧Same H H'∧(!has ps p0.1 q0.2&& !has ps q0.1 p0.2)=false) ?_ (fun D' hrt rest=>?_)
    ·rintro σ' H3 ⟨rfl,s3,hf⟩
     walk_at "rd"
     refine ⟨_,rfl,by lia,by lia,?_⟩
     rw [Int.toNat_natCast]
     refine lp_range (small_ln (by lia)) (fun i ys H'=>Same H H'∧ys=(((L2.upTo n).take i).filter fun x=> !has ps p0.1 x).map V.int) ⟨s3,rfl⟩ (by
      rintro i ys H' ⟨_,rfl⟩
      rw [List.length_map]
      refine Nat.le_trans (List.length_filter_le _ _) ?_
      rw [List.length_take]
      lia) ?_ ?_
     ·rintro k ys H4 hk ⟨s4,rfl⟩
      have hu:(L2.upTo n)[k]? =some (k:Int):=by
       unfold L2.upTo
       rw [List.getElem?_map,List.getElem?_range hk]
       rfl
      rw [List.take_add_one,hu,show (some (k:Int)).toList=[(k:Int)] from rfl,List.filter_append,filter_one,List.map_append]
      walk_at "rd"
      refine ⟨two_ln,fun r3 hr3=>?_⟩
      rw [Int.zero_add] at *
      have s5:=s4.trans (Same.upd (o:=.tup [V.int p0.1,V.int (k:Int)]) hr3)
      walk_at "rd"
      refine rd_ninP upd_same (hPs s5) ?_
      walk_at "rd"
      refine ifB (fun g=>?_) (fun g=>?_)
      ·have g':(!has ps p0.1 (k:Int))=true:=g
       walk_at "rd"
       rw [if_pos g']
       exact ⟨s5,rfl⟩
      ·have g':(!has ps p0.1 (k:Int))=false:=g
       rw [if_neg (by rw [g'];exact Bool.false_ne_true),List.map_nil,List.append_nil]
       exact ⟨s5,rfl⟩
     ·rintro ys H4 ⟨s4,rfl⟩ lr hlr
      rw [show ((L2.upTo n).take n)=L2.upTo n from List.take_of_length_le (by rw [L2.upTo_len];exact Nat.le_refl _)]
      generalize eR:((L2.upTo n).filter fun x=> !has ps p0.1 x)=R
      have lR:R.length≤8:=by
       rw [←eR]
       refine Nat.le_trans (List.length_filter_le _ _) ?_
       rw [L2.upTo_len]
       exact n8
      have s5:=s4.trans (Same.upd (o:=.lst (R.map V.int)) hlr)
      have elr:upd H4 lr (.lst (R.map V.int)) lr=some (.lst (R.map V.int)):=upd_same
      generalize upd H4 lr (.lst (R.map V.int))=H5 at s5 elr
      walk_at "rd"
      refine ifB (fun g1=>?_) (fun g1=>?_)
      ·have g1':p0.2=q0.1:=by simpa using g1
       walk_at "rd"
       refine ⟨lr,rfl,⟨_,SqL.of elr⟩,?_⟩
       refine lp_list (K:=K) (xs:=R.map V.int) (small_ln (by rw [List.length_map];lia)) (fun i ys H'=>Same H5 H'∧ys=((R.take i).filter fun x=> !has ps x q0.2).map V.int) ⟨Same.refl _,rfl⟩ (by
        rintro i ys H' ⟨_,rfl⟩
        rw [List.length_map]
        refine Nat.le_trans (List.length_filter_le _ _) ?_
        rw [List.length_take]
        lia) (fun i ys H' _ h=>SqL.of (h.1 _ _ elr)) ?_ ?_
       ·rintro k x0 ys H6 hx0 ⟨s6,rfl⟩
        obtain ⟨u,hu,rfl⟩:=int_get hx0
        rw [List.take_add_one,hu,show (some u).toList=[u] from rfl,List.filter_append,filter_one,List.map_append]
        walk_at "rd"
        refine ⟨two_ln,fun r3 hr3=>?_⟩
        have s7:=s6.trans (Same.upd (o:=.tup [V.int u,V.int q0.2]) hr3)
        walk_at "rd"
        refine rd_ninP upd_same (hPs (s5.trans s7)) ?_
        walk_at "rd"
        refine ifB (fun g=>?_) (fun g=>?_)
        ·have g':(!has ps u q0.2)=true:=g
         walk_at "rd"
         rw [if_pos g']
         exact ⟨s7,rfl⟩
        ·have g':(!has ps u q0.2)=false:=g
         rw [if_neg (by rw [g'];exact Bool.false_ne_true),List.map_nil,List.append_nil]
         exact ⟨s7,rfl⟩
       ·rintro ys H6 ⟨s6,rfl⟩ lb hlb
        rw [List.length_map,List.take_length]
        have eB:(R.filter fun x=> !has ps x q0.2)=bad3 n ps p0.1 q0.2:=by rw [←eR];rfl
        rw [eB]
        have s7:=(s5.trans s6).trans (Same.upd (o:=.lst ((bad3 n ps p0.1 q0.2).map V.int)) hlb)
        have elb:upd H6 lb (.lst ((bad3 n ps p0.1 q0.2).map V.int)) lb=some (.lst ((bad3 n ps p0.1 q0.2).map V.int)):=upd_same
        generalize upd H6 lb (.lst ((bad3 n ps p0.1 q0.2).map V.int))=H7 at s7 elb
        walk_at "rd"
        refine ⟨Nat.zero_le _,fun le hle=>?_⟩
        have s8:=s7.trans (Same.upd (o:=.lst []) hle)
        have nle:lb≠le:=ne_of_none elb hle
        refine rd_eqD (.lst (Rd.of (show upd H7 le (.lst []) lb=_ by rw [upd_ne nle];exact elb)) (IsAll.ints _)) (.lst (Rd.of (show upd H7 le (.lst []) le=some (.lst (([]:List Int).map V.int)) from upd_same)) (IsAll.ints [])) (ok_ints _) (ok_ints []) ?_
        rw [PyData.eqv,eqvAll_ints]
        walk_at "rd"
        refine ifB (fun g2=>?_) (fun g2=>?_)
        ·have g2':(!decide (bad3 n ps p0.1 q0.2=[]))=true:=g2
         walk_at "rd"
         have:=q _ s8
         rw [found (by unfold badP;rw [hf,decide_eq_true g1',g2'];rfl)] at this
         exact this
        ·have g2':(!decide (bad3 n ps p0.1 q0.2=[]))=false:=g2
         walk_at "rd"
         exact ⟨⟨_,_,_,rfl⟩,s8,any_next n2 hqj (by unfold badP;rw [hf,g2',Bool.and_false];rfl)⟩
      ·have g1':¬p0.2=q0.1:=by simpa using g1
       walk_at "rd"
       exact ⟨⟨_,_,_,rfl⟩,s5,any_next n2 hqj (by unfold badP;rw [hf,decide_eq_false g1'];rfl)⟩
    ·walk_at "rd"
     refine ⟨two_ln,fun r3 hr3=>?_⟩
     have s3:=s2.trans (Same.upd (o:=.tup [V.int p0.1,V.int q0.2]) hr3)
     walk_at "rd"
     refine rd_ninP upd_same (hPs s3) ?_
     walk_at "rd"
     refine ifB (fun g1=>?_) (fun g1=>?_)
     ·walk_at "rd"
      refine ⟨two_ln,fun r4 hr4=>?_⟩
      have s4:=s3.trans (Same.upd (o:=.tup [V.int q0.1,V.int p0.2]) hr4)
      walk_at "rd"
      refine rd_ninP upd_same (hPs s4) ?_
      walk_at "rd"
      refine ifB (fun g2=>?_) (fun g2=>?_)
      ·walk_at "rd"
       rw [hrt]
       have:=q _ s4
       rw [found (by unfold badP;rw [show (!has ps p0.1 q0.2)=true from g1,show (!has ps q0.1 p0.2)=true from g2];rfl)] at this
       exact this
      ·walk_at "rd"
       exact rest _ _ ⟨rfl,s4,by rw [show (!has ps q0.1 p0.2)=false from g2,Bool.and_false]⟩
     ·walk_at "rd"
      exact rest _ _ ⟨rfl,s3,by rw [show (!has ps p0.1 q0.2)=false from g1,Bool.false_and]⟩
   ·rintro σ H2 ⟨⟨vc,vd,ve,rfl⟩,s2,n2⟩
    rw [hl,List.take_length] at n2
    exact ⟨⟨_,_,_,_,_,rfl⟩,s2,any_next n1 hpi n2⟩
  ·rintro σ H1 ⟨⟨va,vb,vc,vd,ve,rfl⟩,s1,n1⟩
   rw [hl,List.take_length] at n1
   rw [n1] at q
   walk_at "rd"
   exact q H1 s1
end
end My
namespace My
open PySem L2
noncomputable def nwI (n k:Nat) (w:Str):List (Int×Int):=(if w="less" then [((n:Int),(k:Int))] else [])++(if w="more" then [((k:Int),(n:Int))] else [])
noncomputable def nwT (n:Nat) (ws:List Str) (i:Nat):List (Int×Int):=(List.range i).flatMap fun k=>nwI n k (ws.getD k "")
theorem nwT_succ (n:Nat) (ws:List Str) (i:Nat):nwT n ws (i + 1)=nwT n ws i++nwI n i (ws.getD i ""):=by
 unfold nwT
 rw [List.range_succ,List.flatMap_append]
 simp
theorem lm:("less":Str)≠"more":=by decide
theorem mem_nwI {n k:Nat} {w:Str} {p:Int×Int}:p∈nwI n k w↔(w="less"∧p=((n:Int),(k:Int)))∨(w="more"∧p=((k:Int),(n:Int))):=by
 unfold nwI
 rw [List.mem_append]
 by_cases h1:w="less"
 ·by_cases h2:w="more"
  ·simp [h1,h2]
  ·rw [if_pos h1,if_neg h2];simp [h1,lm]
 ·by_cases h2:w="more"
  ·rw [if_neg h1,if_pos h2];simp [h2,Ne.symm lm]
  ·rw [if_neg h1,if_neg h2];simp [h1,h2]
theorem nwI_b (n k:Nat):nwI n k "beside"=[]:=by
 unfold nwI
 rw [if_neg (by decide),if_neg (by decide)]
 rfl
theorem mem_nwT {n:Nat} {ws:List Str} {i:Nat} {p:Int×Int}:p∈nwT n ws i↔∃ k,k < i∧p∈nwI n k (ws.getD k ""):=by
 unfold nwT
 rw [List.mem_flatMap]
 constructor
 ·rintro ⟨k,hk,h⟩;exact ⟨k,List.mem_range.mp hk,h⟩
 ·rintro ⟨k,hk,h⟩;exact ⟨k,List.mem_range.mpr hk,h⟩
theorem nwI_nd (n k:Nat) (w:Str):(nwI n k w).Nodup:=by
 unfold nwI
 by_cases h1:w="less"
 ·rw [if_pos h1,if_neg (by rw [h1];exact lm)];simp
 ·rw [if_neg h1]
  split <;> simp
theorem nwT_nd (n:Nat) (ws:List Str):∀ i,i≤n→(nwT n ws i).Nodup
 | 0,_=>by simp [nwT]
 | i + 1,h=>by
  rw [nwT_succ]
  unfold List.Nodup
  rw [List.pairwise_append]
  refine ⟨nwT_nd n ws i (by lia),nwI_nd _ _ _,fun a ha b hb z=>?_⟩
  subst z
  obtain ⟨k,hk,h1⟩:=mem_nwT.mp ha
  rcases mem_nwI.mp h1 with ⟨_,rfl⟩ | ⟨_,rfl⟩ <;> rcases mem_nwI.mp hb with ⟨_,e⟩ | ⟨_,e⟩ <;> simp at e <;> lia
theorem nwT_in {n:Nat} {ws:List Str} {i:Nat} (hi:i≤n) {p:Int×Int} (h:p∈nwT n ws i):inN (n + 1) p∧(p.1=n∨p.2=n):=by
 obtain ⟨k,hk,h1⟩:=mem_nwT.mp h
 unfold inN
 rcases mem_nwI.mp h1 with ⟨_,rfl⟩ | ⟨_,rfl⟩
 ·exact ⟨⟨by simp,by simp;lia,by simp,by simp;lia,by simp;lia⟩,.inl rfl⟩
 ·exact ⟨⟨by simp,by simp;lia,by simp,by simp;lia,by simp;lia⟩,.inr rfl⟩
noncomputable def newO (n:Nat) (ps:List (Int×Int)) (ws:List Str):List (Int×Int):=gAll (fun i j=>has ps i j||has (nwT n ws n) i j) (n + 1) (n + 1)
theorem newO_of {n:Nat} {ps qs:List (Int×Int)} {ws:List Str} (ho:Ord (n + 1) qs) (h:∀ p,p∈qs↔p∈ps∨p∈nwT n ws n):newO n ps ws=qs:=by
 refine g_ord ho fun i j _ _=>?_
 rw [Bool.eq_iff_iff,Bool.or_eq_true,has_iff,has_iff,has_iff,h]
theorem app_nd {n:Nat} {ps:List (Int×Int)} {ws:List Str} (ho:Ord n ps) {i:Nat} (hi:i≤n):(ps++nwT n ws i).Nodup:=by
 unfold List.Nodup
 rw [List.pairwise_append]
 refine ⟨nd_of (pw_of ho.up),nwT_nd n ws i hi,fun a ha b hb z=>?_⟩
 subst z
 obtain ⟨h1,h2,h3,h4,h5⟩:=ho.ix a ha
 rcases (nwT_in hi hb).2 with e | e <;> lia
theorem app_in {n:Nat} {ps:List (Int×Int)} {ws:List Str} (ho:Ord n ps) {i:Nat} (hi:i≤n):∀ p∈ps++nwT n ws i,inN (n + 1) p:=fun p hp=>by
 rcases List.mem_append.mp hp with h | h
 ·obtain ⟨h1,h2,h3,h4,h5⟩:=ho.ix p h
  exact ⟨h1,by lia,h3,by lia,h5⟩
 ·exact (nwT_in hi h).1
noncomputable def tupS (ws:List Str):PyData:=.tuple (ws.map .str)
noncomputable def Wd (w:Str):Prop:=w="less"∨w="more"∨w="beside"
theorem eqv_str (a b:Str):PyData.eqv (.str a) (.str b)=decide (a=b):=by
 rw [PyData.eqv]
 by_cases h:a=b
 ·subst h;simp
 ·simp [h]
theorem ok_wd {w:Str} (h:Wd w):okD (.str w):=by
 refine ⟨?_,show 0≤40 by decide⟩
 rcases h with rfl | rfl | rfl <;> (rw [PyData.canLay0];decide +kernel)
theorem isAll_str {H:Hp}:∀ {xs:List V} {ws:List Str},IsAll H xs (ws.map .str)→xs=ws.map V.str
 | _,[],h=>by cases h;rfl
 | _,w::ws,h=>by
  cases h with
  | cons h1 h2=>
   cases h1
   rw [isAll_str h2]
   rfl
theorem growN {H:Hp} {l p:Addr} {zs:List V} {ds:List PyData} {r:Int×Int} (hz:H l=some (.lst zs)) (hp:H p=none) (iz:IsAll H zs ds) (hn:noLs ds=true:=by first | exact noLs_pr _ | assumption):IsAll (upd (upd H p (.tup [V.int r.1,V.int r.2])) l (.lst (zs++[V.ref p]))) (zs++[V.ref p]) (ds++[r].map prD):=by
 have s:=Same.upd (o:=.tup [V.int r.1,V.int r.2]) hp
 have hlp:l≠p:=ne_of_none hz hp
 refine ((iz.same s).tmono (fun c us e=>?_) hn).append (.cons (.tup ?_ (.cons (.int _) (.cons (.int _) .nil))) .nil)
 ·rw [upd_ne (ne_of e (s _ _ hz) (by intro z;cases z))]
  exact e
 ·rw [upd_ne (Ne.symm hlp),upd_same]
section
variable {P:Program} {w:World} {K:PySem.W.Frag} {mg:Str→Option Value} {base:Heap} {t:Ad}
set_option genSizeOf false in
set_option genInjectivity false in
inductive sp_newest (vs:List V) (H:Hp) (Q:VK) (zz3:XK):Prop where
 | mk (x y n ps ws:_) (zh0:vs=[x,y]) (zh1:Is H x (ordD n ps)) (zh2:Ord n ps) (zh3:n≤7) (zh4:Is H y (tupS ws)) (zh5:ws.length=n) (zh6:(∀ v∈ws,Wd v)) (zh7:∀ z H',Same H H'→Is H' z (ordD (n + 1) (newO n ps ws))→Ord (n + 1) (newO n ps ws)→Q z H'):sp_newest vs H Q zz3
theorem ok_with_newest (T:Txt K mg t):FnOk P w K mg base CX0 1 t.a_with_newest t.d_with_newest ["order","telling"] sp_newest:=by
 refine T.F_with_newest.ok sc_with_newest (fun vs H Q E h=>?_) (fun cdv A outer s H vs Q E hr h=>?_)
 ·obtain ⟨x,y,n,ps,ws,rfl,_⟩:=h
  rfl
 ·obtain ⟨x,y,n,ps,ws,rfl,hx,ho,n7,hy,hlw,hw,q⟩:=h
  refine ⟨_,(pss_cons (ps_set (i:=2) sc_with_newest.nd rfl (Or.inl rfl) (pe_ix (k_ix K) (pv 0) pe_int (fun _ _=>rfl)))
   (pss_cons (ps_set (i:=3) sc_with_newest.nd rfl (Or.inl rfl) (pe_callTy (k_list K) (by rfl) T.n_list bt_list (pa_cons (pe_ix (k_ix K) (pv 0) pe_int (fun _ _=>rfl)) pa_nil)))
   (pss_cons (ps_for PassesOwn.never rfl (k_penum K rfl T.n_enumerate (pa_cons (pv 1) pa_nil)) (k_gtup K rfl (pgs_cons (pg_name (i:=4) sc_with_newest.nd rfl (Or.inl rfl)) (pgs_cons (pg_name (i:=5) sc_with_newest.nd rfl (Or.inl rfl)) pgs_nil))) (pss_cons (ps_if (pt_cmpR (op_eqD hr.units) (pv 5) pe_str (nomark _)) (pss_one (ps_expr (k_bm K PySem.F.plainAttrs_list PySem.F.slot_list_append PySem.F.type_list_append mt_append (pv 3) (pa_cons (pe_tup (pa_cons (pv 2) (pa_cons (pv 4) pa_nil))) pa_nil)))) pss_nil)
   (pss_one (ps_if (pt_cmpR (op_eqD hr.units) (pv 5) pe_str (nomark _)) (pss_one (ps_expr (k_bm K PySem.F.plainAttrs_list PySem.F.slot_list_append PySem.F.type_list_append mt_append (pv 3) (pa_cons (pe_tup (pa_cons (pv 4) (pa_cons (pv 2) pa_nil))) pa_nil)))) pss_nil))))
   (pss_one (ps_ret (pe_tup (pa_cons (pe_op op_add (pv 2) pe_int) (pa_cons (pe_callTy (k_tuple K) (by rfl) T.n_tuple bt_tuple (pa_cons (pe_callB (k_sorted K) (by rfl) T.n_sorted bt_sorted (pa_cons (pv 3) pa_nil)) pa_nil)) pa_nil)))))))),?_⟩
  obtain ⟨oa,ob,xs,rfl,ea,eb,hxs⟩:=is_ord hx
  unfold tupS at hy
  cases hy with
  | @tup ya ys _ ey hys=>
  have eys:=isAll_str hys
  subst eys
  have sml:=ho.small
  have lx:xs.length=ps.length:=by rw [hxs.length,List.length_map]
  walk_at "rd"
  refine rd_lstT eb fun l hl=>?_
  have s1:=Same.upd (o:=.lst xs) hl
  have hys1:=hys.same s1
  walk_at "rd"
  refine rd_enum ?_
  walk_at "rd"
  refine ⟨ya,rfl,⟨_,SqT.of (s1 _ _ ey)⟩,?_⟩
  refine fp_enum (K:=K) (xs:=ws.map V.str) (fun i σ H'=>(∃ va vb,σ=[some (.ref oa),some (.ref ya),some (.int n),some (.ref l),va,vb])∧Same H H'∧∃ zs,H' l=some (.lst zs)∧IsAll H' zs ((ps++nwT n ws i).map prD)) ⟨⟨_,_,rfl⟩,s1,xs,upd_same,by simpa [nwT] using hxs.same s1⟩ (fun i σ H' _ h=>SqT.of (h.2.1 _ _ ey)) ?_ ?_
  ·rintro i x σ H2 T1 hx ⟨⟨va,vb,rfl⟩,s2,zs,hz,iz⟩ hT1
   rw [List.getElem?_map] at hx
   cases hwi:ws[i]? with
   | none=>rw [hwi] at hx;cases hx
   | some wd=>
   rw [hwi] at hx
   cases hx
   have hiw:i < ws.length:=(List.getElem?_eq_some_iff.mp hwi).1
   have egd:ws.getD i ""=wd:=by rw [List.getD_eq_getElem?_getD,hwi];rfl
   have hwd:Wd wd:=hw _ (List.mem_of_getElem? hwi)
   have s3:=s2.trans (Same.upd (o:=.tup [V.int i,V.str wd]) hT1)
   have hz3:=(Same.upd (o:=.tup [V.int i,V.str wd]) hT1) _ _ hz
   have iz3:=iz.same (Same.upd (o:=.tup [V.int i,V.str wd]) hT1)
   have lz:zs.length≤100:=by
    rw [iz.length,List.length_map]
    have:=small_prs (app_nd (ws:=ws) ho (show i≤n by lia)) fun p hp=>(app_in ho (show i≤n by lia) p hp).box (by lia)
    lia
   refine rd_gtup upd_same rfl ?_
   generalize upd H2 T1 (.tup [V.int i,V.str wd])=H3 at s3 hz3 iz3
   rw [nwT_succ,egd,←List.append_assoc,List.map_append]
   rcases hwd with rfl | rfl | rfl
   ·walk_at "rd"
    refine rd_eqD (d:=.str "less") (e:=.str "less") (.str _) (.str _) (ok_wd (.inl rfl)) (ok_wd (.inl rfl)) ?_
    rw [eqv_str]
    walk_at "rd"
    refine ifT (by decide) ?_
    walk_at "rd"
    refine ⟨tyV_lst hz3,?_⟩
    walk_at "rd"
    refine ⟨two_ln,fun p hp=>?_⟩
    have hlp:l≠p:=ne_of_none hz3 hp
    walk_at "rd"
    refine rd_append (xs:=zs) (by rw [upd_ne hlp];exact hz3) (small1000 (by lia)) ?_
    walk_at "rd"
    refine rd_eqD (d:=.str "less") (e:=.str "more") (.str _) (.str _) (ok_wd (.inl rfl)) (ok_wd (.inr (.inl rfl))) ?_
    rw [eqv_str]
    walk_at "rd"
    refine ifF (by decide) ?_
    walk_at "rd"
    refine ⟨⟨_,_,rfl⟩,fun e u h=>?_,_,upd_same,?_⟩
    ·have e3:=s3 e u h
     rw [upd_ne (ne_of_none h hl),upd_ne (ne_of_none e3 hp)]
     exact e3
    ·exact growN (r:=((n:Int),(i:Int))) hz3 hp iz3
   ·walk_at "rd"
    refine rd_eqD (d:=.str "more") (e:=.str "less") (.str _) (.str _) (ok_wd (.inr (.inl rfl))) (ok_wd (.inl rfl)) ?_
    rw [eqv_str]
    walk_at "rd"
    refine ifF (by decide) ?_
    walk_at "rd"
    refine rd_eqD (d:=.str "more") (e:=.str "more") (.str _) (.str _) (ok_wd (.inr (.inl rfl))) (ok_wd (.inr (.inl rfl))) ?_
    rw [eqv_str]
    walk_at "rd"
    refine ifT (by decide) ?_
    walk_at "rd"
    refine ⟨tyV_lst hz3,?_⟩
    walk_at "rd"
    refine ⟨two_ln,fun p hp=>?_⟩
    have hlp:l≠p:=ne_of_none hz3 hp
    walk_at "rd"
    refine rd_append (xs:=zs) (by rw [upd_ne hlp];exact hz3) (small1000 (by lia)) ?_
    walk_at "rd"
    refine ⟨⟨_,_,rfl⟩,fun e u h=>?_,_,upd_same,?_⟩
    ·have e3:=s3 e u h
     rw [upd_ne (ne_of_none h hl),upd_ne (ne_of_none e3 hp)]
     exact e3
    ·exact growN (r:=((i:Int),(n:Int))) hz3 hp iz3
   ·walk_at "rd"
    refine rd_eqD (d:=.str "beside") (e:=.str "less") (.str _) (.str _) (ok_wd (.inr (.inr rfl))) (ok_wd (.inl rfl)) ?_
    rw [eqv_str]
    walk_at "rd"
    refine ifF (by decide) ?_
    walk_at "rd"
    refine rd_eqD (d:=.str "beside") (e:=.str "more") (.str _) (.str _) (ok_wd (.inr (.inr rfl))) (ok_wd (.inr (.inl rfl))) ?_
    rw [eqv_str]
    walk_at "rd"
    refine ifF (by decide) ?_
    walk_at "rd"
    refine ⟨⟨_,_,rfl⟩,s3,zs,hz3,?_⟩
    rw [nwI_b,List.map_nil,List.append_nil]
    exact iz3
  ·rintro σ H2 ⟨⟨va,vb,rfl⟩,s2,zs,hz,iz⟩
   rw [List.length_map,hlw] at iz
   walk_at "rd"
   refine rd_sortP (.inl hz) iz (app_nd ho (Nat.le_refl _)) (fun p hp=>(app_in ho (Nat.le_refl _) p hp).box (by lia)) fun l2 vs' qs hl' ha hperm hpw=>?_
   have s4:=Same.upd (o:=.lst vs') hl'
   have ev:upd H2 l2 (.lst vs') l2=some (.lst vs'):=upd_same
   walk_at "rd"
   intro tp htp
   have s5:=Same.upd (o:=.tup vs') htp
   walk_at "rd"
   refine ⟨by show 2≤sizeLine;decide,fun o ho'=>?_⟩
   have nto:tp≠o:=ne_of_none upd_same ho'
   have s6:=Same.upd (o:=.tup [V.int ((n:Int) + 1),V.ref tp]) ho'
   have oq:Ord (n + 1) qs:=ord_of (by lia) (by lia) (fun p hp=>app_in ho (Nat.le_refl _) p (hperm.mem_iff.mp hp)) hpw
   have eq1:newO n ps ws=qs:=newO_of oq fun p=>(hperm.mem_iff).trans List.mem_append
   refine q _ _ (((s2.trans s4).trans s5).trans s6) ?_ (by rw [eq1];exact oq)
   rw [eq1]
   refine .tup upd_same (.cons ?_ (.cons (.tup (by rw [upd_ne nto,upd_same]) (((ha.same s4).same s5).same s6)) .nil))
   exact .int _
end
end My
namespace My
open PySem L2
theorem isAll_of_str {H:Hp}:∀ ws:List Str,IsAll H (ws.map V.str) (ws.map .str)
 | []=>.nil
 | w::ws=>.cons (.str w) (isAll_of_str ws)
end My
namespace My
open PySem L2
section
variable {P:Program} {w:World} {K:PySem.W.Frag} {mg:Str→Option Value} {base:Heap} {t:Ad}
theorem SameT.of {w:Addr} {H:Hp} {l:Addr} {o:HO} (h:H l=none):SameT w H (upd H l o):=(Same.upd h).t
end
end My
namespace My
open PySem L2
theorem noL_ord (n:Nat) (ps:List (Int×Int)):noL (ordD n ps)=true:=by unfold ordD;rw [noL,noLs,noLs,noLs,noL,noL,noLs_pr];rfl
theorem ord_keep {H H':Hp} (k:∀ c us,H c=some (.tup us)→H' c=some (.tup us)) {x:V} {n:Nat} {ps:List (Int×Int)} (h:Is H x (ordD n ps)):Is H' x (ordD n ps):=h.tmono k (noL_ord n ps)
end My
namespace My
open PySem L2
noncomputable def wdB (d:PyData):Bool:=match d with | .str x=>decide (x="less")||decide (x="more")||decide (x="beside") | _=>false
noncomputable def telB (d:PyData) (n:Nat):Bool:=match d with | .tuple ds=>decide (ds.length=n)&&ds.all wdB | _=>false
theorem wdB_wd {w:Str}:wdB (.str w)=true↔Wd w:=by
 unfold wdB Wd
 simp [or_assoc]
theorem inD_words (x:Str):inD (.str x) [.str "less",.str "more",.str "beside"]=wdB (.str x):=by
 unfold inD wdB
 rw [List.any_cons,List.any_cons,List.any_cons,List.any_nil,eqv_str,eqv_str,eqv_str,Bool.or_false]
 have c:∀ a b:Str,decide (a=b)=decide (b=a):=fun a b=>by
  by_cases h:a=b
  ·rw [decide_eq_true h,decide_eq_true h.symm]
  ·rw [decide_eq_false h,decide_eq_false (fun z=>h z.symm)]
 rw [c "less" x,c "more" x,c "beside" x]
 show _=(decide (x="less")||decide (x="more")||decide (x="beside"))
 rw [Bool.or_assoc]
section
variable {P:Program} {w:World} {K:PySem.W.Frag} {mg:Str→Option Value} {base:Heap} {t:Ad}
noncomputable def okT (d:PyData):Prop:=∀ ds,d=.tuple ds→ds.length≤1000∧∀ e∈ds,okD e
set_option genSizeOf false in
set_option genInjectivity false in
inductive sp_is_telling (vs:List V) (H:Hp) (Q:VK) (zz3:XK):Prop where
 | mk (x:V) (n:Nat) (d:PyData) (zh0:vs=[x,.int n]) (zh1:Is H x d) (zh2:okT d) (zh3:∀ H',Same H H'→Q (.bl (telB d n)) H'):sp_is_telling vs H Q zz3
theorem ok_is_telling (T:Txt K mg t):FnOk P w K mg base CX0 1 t.a_is_telling t.d_is_telling ["value","many"] sp_is_telling:=by
 refine T.F_is_telling.ok sc_is_telling (fun vs H Q E h=>?_) (fun cdv A outer s H vs Q E hr h=>?_)
 ·obtain ⟨x,n,d,rfl,_⟩:=h
  rfl
 ·obtain ⟨x,n,d,rfl,hx,hok,q⟩:=h
  refine ⟨_,(pss_cons (ps_if (PW.pt (pw_or (pt_not (pt_val (pe_callB c_isinst (by rfl) T.n_isinstance bt_isinstance (pa_cons (pv 0) (pa_cons (pe_bltn (v:=.ty "tuple") rfl T.n_tuple bt_tuple rfl) pa_nil))))) (pw_or1 (pt_cmpR (op_neD hr.units) (pe_callB (k_len K) (by rfl) T.n_len bt_len (pa_cons (pv 0) pa_nil)) (pv 1) (nomark _))))) (pss_one (ps_ret pe_bl)) pss_nil)
   (pss_one (ps_ret (pe_callB (k_all K) (by rfl) T.n_all bt_all (pa_cons (pe_lc rfl ⟨True.intro,True.intro,True.intro,True.intro,True.intro,True.intro⟩ (M:=["word"]) (.own .nil) (gk_name rfl) rfl (by decide +kernel) (k_ptup K (pv 0)) (fun C fp s1 H1=>⟨pg_name (i:=0) (show (["word"]:List Str).Nodup by decide +kernel) rfl (Or.inl rfl),pif_nil,(pe_and (pe_callB c_isinst (by rfl) T.n_isinstance bt_isinstance (pa_cons (pv 0) (pa_cons (pe_bltn (v:=.ty "str") rfl T.n_str bt_str rfl) pa_nil))) (pe_one (pe_cmpR (k_inS K hr.units) (pv 0) (pe_glob (v:=.ref t.c_TELLING_WORDS) rfl T.g_TELLING_WORDS rfl) (by rfl))))⟩)) pa_nil))))),?_⟩
  walk_at "rd"
  by_cases hd:∃ ds,d=.tuple ds
  ·obtain ⟨ds,rfl⟩:=hd
   obtain ⟨hlen,hds⟩:=hok _ rfl
   cases hx with
   | @tup r xs _ e hxs=>
   have hl:=hxs.length
   have qe:telB (.tuple ds) n=(decide (ds.length=n)&&ds.all wdB):=rfl
   rw [qe] at q
   walk_at "rd"
   refine ifB (fun h1=>?_) (fun h1=>?_)
   ·have h1':decide (ds.length=n)=false:=by
     have:¬((xs.length:Nat):Int)=(n:Int):=by simpa using h1
     exact decide_eq_false (by lia)
    walk_at "rd"
    have q':=q H (Same.refl H)
    rw [h1',Bool.false_and] at q'
    exact q'
   ·have h1':decide (ds.length=n)=true:=by
     have:((xs.length:Nat):Int)=(n:Int):=by simpa using h1
     exact decide_eq_true (by lia)
    rw [h1',Bool.true_and] at q
    walk_at "rd"
    refine ⟨r,rfl,⟨xs,SqT.of e⟩,?_⟩
    refine lp_tup (K:=K) (xs:=xs) (small_ln (by lia)) (fun i zs H'=>H'=H∧zs=((ds.take i).map wdB).map V.bl) ⟨rfl,rfl⟩ (by rintro i ys H' ⟨_,rfl⟩;simp;lia) (fun i zs H' _ h=>by rw [h.1];exact SqT.of e) ?_ ?_
    ·rintro i x zs H' hx ⟨rfl,rfl⟩
     obtain ⟨d,ed,id⟩:=hxs.get' hx
     have od:=hds d (List.mem_of_getElem? ed)
     rw [List.take_add_one,ed,show (some d).toList=[d] from rfl,List.map_append,List.map_append]
     walk_at "rd"
     by_cases hs:∃ y,d=.str y
     ·obtain ⟨y,rfl⟩:=hs
      refine ⟨_,rfl,?_⟩
      refine ⟨t.c_TELLING_WORDS,_,[.str "less",.str "more",.str "beside"],.str y,rfl,T.s_TELLING_WORDS _,.cons (.str _) (.cons (.str _) (.cons (.str _) .nil)),id,od,⟨by decide +kernel,by decide +kernel⟩,?_⟩
      rw [inD_words]
      exact ⟨rfl,rfl⟩
     ·have e1:isStrD d=false:=by
       cases d with
       | str y=>exact absurd ⟨y,rfl⟩ hs
       | _=>rfl
      have e2:wdB d=false:=by
       cases d with
       | str y=>exact absurd ⟨y,rfl⟩ hs
       | _=>rfl
      rw [e1]
      refine ifF rfl ?_
      refine ⟨rfl,?_⟩
      show _=_++[V.bl (wdB d)]
      rw [e2]
    ·rintro zs H' ⟨rfl,rfl⟩ p hp
     walk_at "rd"
     refine rd_all upd_same ?_
     rw [hl,List.take_length,List.all_map]
     exact q _ (Same.upd (o:=.lst ((ds.map wdB).map V.bl)) hp)
  ·have hd':∀ ds,d≠.tuple ds:=fun ds e=>hd ⟨ds,e⟩
   rw [isTup_no hd']
   walk_at "rd"
   have q':=q H (Same.refl H)
   have e:telB d n=false:=by
    unfold telB
    split
    ·exact absurd rfl (hd' _)
    ·rfl
   rw [e] at q'
   exact q'
set_option genSizeOf false in
set_option genInjectivity false in
inductive sp_need_telling (vs:List V) (H:Hp) (Q:VK) (zz3:XK):Prop where
 | mk (x:V) (n:Nat) (d:PyData) (zh0:vs=[x,.int n]) (zh1:Is H x d) (zh2:okT d) (zh3:telB d n=true) (zh4:∀ H',Same H H'→Q .non H'):sp_need_telling vs H Q zz3
theorem ok_need_telling (T:Txt K mg t):FnOk P w K mg base CX0 2 t.a_need_telling t.d_need_telling ["value","many"] sp_need_telling:=by
 refine T.F_need_telling.ok sc_need_telling (fun vs H Q E h=>?_) (fun cdv A outer s H vs Q E hr h=>?_)
 ·obtain ⟨x,n,d,rfl,_⟩:=h
  rfl
 ·obtain ⟨x,n,d,rfl,hx,hok,ht,q⟩:=h
  refine ⟨_,(pss_one (ps_if (pt_not (pt_val (pe_call (ok_is_telling T) (hr.mono (by decide)) rfl T.m_is_telling T.F_is_telling.kp T.b_is_telling .nil pass0 (pa_cons (pv 0) (pa_cons (pv 1) pa_nil))))) (pss_one ps_never) pss_nil)),?_⟩
  walk_at "rd"
  refine ⟨x,n,d,rfl,hx,hok,fun H1 s1=>?_⟩
  rw [ht]
  walk_at "rd"
  exact q H1 s1
noncomputable def spr_telling (t:Ad):Sp:=fun vs H Q E=>∃ (x:V) (n:Nat) (d:PyData),vs=[x,.int n]∧Is H x d∧okT d∧telB d n=false∧∀ H',Same H H'→E (.ref t.c_NoTelling) none H'
theorem okr_need_telling (T:Txt K mg t):FnOk P w K mg base (CXE P w) 2 t.a_need_telling t.d_need_telling ["value","many"] (spr_telling t):=by
 refine T.F_need_telling.okX sc_need_telling (fun vs H Q E h=>?_) (fun cdv A outer s H vs Q E hr h=>?_)
 ·obtain ⟨x,n,d,rfl,_⟩:=h
  rfl
 ·obtain ⟨x,n,d,rfl,hx,hok,ht,q⟩:=h
  refine ⟨_,(pss_one (ps_if (pt_not (pt_val (pe_call (ok_is_telling T) (hr.mono (by decide)) rfl T.m_is_telling T.F_is_telling.kp T.b_is_telling .nil pass0 (pa_cons (pv 0) (pa_cons (pv 1) pa_nil))))) (pss_one (ps_raise T.g_NoTelling T.Z_NoTelling.exc rfl (pa_cons pe_str pa_nil))) pss_nil)),?_⟩
  walk_at "rd"
  refine ⟨x,n,d,rfl,hx,hok,fun H1 s1=>?_⟩
  rw [ht]
  walk_at "rd"
  exact ⟨by show 1≤sizeLine;decide,q H1 s1⟩
noncomputable def spx_need_telling (t:Ad):Sp:=fun vs H Q E=>sp_need_telling vs H Q E∨spr_telling t vs H Q E
theorem okx_need_telling (T:Txt K mg t):FnOk P w K mg base (CXE P w) 2 t.a_need_telling t.d_need_telling ["value","many"] (spx_need_telling t):=(ok_need_telling T).lift.or (okr_need_telling T)
noncomputable def spr_unb (t:Ad):Sp:=fun vs H Q E=>∃ x n ps,vs=[x]∧Is H x (ordD n ps)∧Ord n ps∧barB n ps=true∧∀ H',Same H H'→E (.ref t.c_Barred) none H'
theorem okr_need_unbarred (T:Txt K mg t):FnOk P w K mg base (CXE P w) 7 t.a_need_unbarred t.d_need_unbarred ["order"] (spr_unb t):=by
 refine T.F_need_unbarred.okX sc_need_unbarred (fun vs H Q E h=>?_) (fun cdv A outer s H vs Q E hr h=>?_)
 ·obtain ⟨x,n,ps,rfl,_⟩:=h
  rfl
 ·obtain ⟨x,n,ps,rfl,hx,ho,hb,q⟩:=h
  refine ⟨_,(pss_one (ps_if (pt_cmpR o_notN (pe_call (ok_bar T) (hr.mono (by decide)) rfl T.m_bar T.F_bar.kp T.b_bar .nil pass0 (pa_cons (pv 0) pa_nil)) pe_non (nomark _)) (pss_one (ps_raise T.g_Barred T.Z_Barred.exc rfl (pa_cons pe_str pa_nil))) pss_nil)),?_⟩
  walk_at "rd"
  refine ⟨_,n,ps,rfl,hx,ho,fun v H1 s1 iv=>?_⟩
  walk_at "rd"
  rw [bar_is iv,hb]
  refine ifT rfl ?_
  walk_at "rd"
  exact ⟨by show 1≤sizeLine;decide,q H1 s1⟩
noncomputable def spx_need_unbarred (t:Ad):Sp:=fun vs H Q E=>sp_unbarred vs H Q E∨spr_unb t vs H Q E
theorem okx_need_unbarred (T:Txt K mg t):FnOk P w K mg base (CXE P w) 7 t.a_need_unbarred t.d_need_unbarred ["order"] (spx_need_unbarred t):=(ok_need_unbarred T).lift.or (okr_need_unbarred T)
noncomputable def KAt (t:Ad) (H:Hp) (p:Addr) (x:V):Prop:=∃ dx,H p=some (.ins t.c_Keeper dx [("kept",x)])
set_option genSizeOf false in
set_option genInjectivity false in
inductive sp_K_init (t:Ad) (vs:List V) (H:Hp) (Q:VK) (zz3:XK):Prop where
 | mk (p dx:Addr) (zh0:vs=[.ref p]) (zh1:H p=some (.ins t.c_Keeper dx [])) (zh2:∀ (x:V) H',SameT p H H'→KAt t H' p x→Is H' x (ordD 1 [])→Q .non H'):sp_K_init t vs H Q zz3
theorem ok_Keeper_init (T:Txt K mg t):FnOk P w K mg base CX0 1 t.a_Keeper_init t.d_Keeper_init ["self"] (sp_K_init t):=by
 refine T.F_Keeper_init.ok sc_Keeper_init (fun vs H Q E h=>?_) (fun cdv A outer s H vs Q E hr h=>?_)
 ·obtain ⟨p,dx,rfl,_⟩:=h
  rfl
 ·obtain ⟨p,dx,rfl,hp,q⟩:=h
  refine ⟨_,(pss_one (ps_fld (pv 0) (pe_tup (pa_cons pe_int (pa_cons (pe_tup pa_nil) pa_nil))) rfl)),?_⟩
  walk_at "rd"
  refine ⟨Nat.zero_le _,fun q1 hq1=>?_⟩
  have f1:=Same.upd (o:=.tup []) hq1
  have e1:upd H q1 (.tup []) q1=some (.tup []):=upd_same
  generalize upd H q1 (.tup [])=H1 at f1 e1
  walk_at "rd"
  refine ⟨by show 2≤sizeLine;decide,fun q2 hq2=>?_⟩
  have f2:=Same.upd (o:=.tup [V.int 1,V.ref q1]) hq2
  have e2:upd H1 q2 (.tup [V.int 1,V.ref q1]) q2=some (.tup [V.int 1,V.ref q1]):=upd_same
  have e12:=f2 _ _ e1
  have f12:=f1.trans f2
  generalize upd H1 q2 (.tup [V.int 1,V.ref q1])=H2 at f12 e2 e12
  have hp2:=f12 _ _ hp
  have n1:q1≠p:=ne_of e12 hp2 (by intro z;cases z)
  have n2:q2≠p:=ne_of e2 hp2 (by intro z;cases z)
  walk_at "rd"
  refine ⟨p,t.c_Keeper,dx,[],rfl,hp2,T.cl_Keeper,T.na_Keeper_kept,by decide,?_⟩
  walk_at "rd"
  refine q (.ref q2) _ (fun c u e g=>by rw [upd_ne g];exact f12 _ _ e) ⟨dx,upd_same⟩ ?_
  refine .tup (by rw [upd_ne n2];exact e2) (.cons (.int _) (.cons (.tup (xs:=[]) (by rw [upd_ne n1];exact e12) .nil) .nil))
set_option genSizeOf false in
set_option genInjectivity false in
inductive sp_K_order (t:Ad) (vs:List V) (H:Hp) (Q:VK) (zz3:XK):Prop where
 | mk (p:Addr) (x:V) (zh0:vs=[.ref p]) (zh1:KAt t H p x) (zh2:Q x H):sp_K_order t vs H Q zz3
theorem ok_Keeper_order (T:Txt K mg t):FnOk P w K mg base CX0 1 t.a_Keeper_order t.d_Keeper_order ["self"] (sp_K_order t):=by
 refine T.F_Keeper_order.ok sc_Keeper_order (fun vs H Q E h=>?_) (fun cdv A outer s H vs Q E hr h=>?_)
 ·obtain ⟨p,x,rfl,_⟩:=h
  rfl
 ·obtain ⟨p,x,rfl,⟨dx,hp⟩,q⟩:=h
  refine ⟨_,(pss_one (ps_ret (pe_fld (pv 0) rfl))),?_⟩
  walk_at "rd"
  exact ⟨p,_,dx,_,x,rfl,hp,T.cl_Keeper,T.na_Keeper_kept,lk1 _ _,q⟩
end
end My
namespace My
open PySem L2
theorem telB_S {ws:List Str} {n:Nat} (hl:ws.length=n) (hw:∀ v∈ws,Wd v):telB (tupS ws) n=true:=by
 show (decide ((ws.map PyData.str).length=n)&&(ws.map PyData.str).all wdB)=true
 rw [List.length_map,decide_eq_true hl,Bool.true_and,List.all_map]
 exact List.all_eq_true.mpr fun v hv=>wdB_wd.mpr (hw v hv)
theorem okT_S {ws:List Str} (hl:ws.length≤1000) (hw:∀ v∈ws,Wd v):okT (tupS ws):=by
 rintro ds ⟨⟩
 refine ⟨by rw [List.length_map];exact hl,fun e he=>?_⟩
 obtain ⟨v,hv,rfl⟩:=List.mem_map.mp he
 exact ok_wd (hw v hv)
theorem KAt.keep {t:Ad} {H:Hp} {p:Addr} {x:V} (h:KAt t H p x) {c:Addr} {us:List V} (e:H c=some (.tup us)):c≠p:=by
 obtain ⟨dx,hp⟩:=h
 exact ne_of e hp (by intro z;cases z)
theorem KAt.same {t:Ad} {H H':Hp} {p:Addr} {x:V} (h:KAt t H p x) (s:Same H H'):KAt t H' p x:=let ⟨dx,e⟩:=h;⟨dx,s _ _ e⟩
structure Tl (n:Nat) (ws:List Str):Prop where
 len:ws.length=n
 wd:∀ v∈ws,Wd v
section
variable {P:Program} {w:World} {K:PySem.W.Frag} {mg:Str→Option Value} {base:Heap} {t:Ad}
set_option genSizeOf false in
set_option genInjectivity false in
inductive sp_K_come (t:Ad) (vs:List V) (H:Hp) (Q:VK) (zz3:XK):Prop where
 | mk (p:Addr) (x:V) (n:Nat) (ps:List (Int×Int)) (y:V) (ws:List Str) (zh0:vs=[.ref p,y]) (zh1:KAt t H p x) (zh2:Is H x (ordD n ps)) (zh3:Ord n ps) (zh4:n≤7) (zh5:Is H y (tupS ws)) (zh6:Tl n ws) (zh7:barB (n + 1) (newO n ps ws)=false) (zh8:∀ (x':V) H',SameT p H H'→KAt t H' p x'→Is H' x' (ordD (n + 1) (newO n ps ws))→Ord (n + 1) (newO n ps ws)→Q (.int n) H'):sp_K_come t vs H Q zz3
theorem ok_Keeper_come (T:Txt K mg t):FnOk P w K mg base CX0 8 t.a_Keeper_come t.d_Keeper_come ["self","telling"] (sp_K_come t):=by
 refine T.F_Keeper_come.ok sc_Keeper_come (fun vs H Q E h=>?_) (fun cdv A outer s H vs Q E hr h=>?_)
 ·obtain ⟨p,x,n,ps,y,ws,rfl,_⟩:=h
  rfl
 ·obtain ⟨p,x,n,ps,y,ws,rfl,⟨dx,hp⟩,hx,ho,n7,hy,tl,hb,q⟩:=h
  refine ⟨_,(pss_cons (ps_set (i:=2) sc_Keeper_come.nd rfl (Or.inl rfl) (pe_ix (k_ix K) (pe_fld (pv 0) rfl) pe_int (fun _ _=>rfl)))
   (pss_cons (ps_expr (pe_call (ok_need_telling T) (hr.mono (by decide)) rfl T.m_need_telling T.F_need_telling.kp T.b_need_telling .nil pass0 (pa_cons (pv 1) (pa_cons (pv 2) pa_nil))))
   (pss_cons (ps_if (pt_cmpR (op_eqD hr.units) (pv 2) (pe_gint rfl T.c_MOST_THINGS) (nomark _)) (pss_one ps_never) pss_nil)
   (pss_cons (ps_set (i:=3) sc_Keeper_come.nd rfl (Or.inl rfl) (pe_call (ok_with_newest T) (hr.mono (by decide)) rfl T.m_with_newest T.F_with_newest.kp T.b_with_newest .nil pass0 (pa_cons (pe_fld (pv 0) rfl) (pa_cons (pv 1) pa_nil))))
   (pss_cons (ps_expr (pe_call (ok_need_unbarred T) (hr.mono (by decide)) rfl T.m_need_unbarred T.F_need_unbarred.kp T.b_need_unbarred .nil pass0 (pa_cons (pv 3) pa_nil)))
   (pss_cons (ps_fld (pv 0) (pv 3) rfl)
   (pss_one (ps_ret (pv 2))))))))),?_⟩
  obtain ⟨oa,ob,xs,rfl,ea,eb,hxs⟩:=is_ord hx
  walk_at "rd"
  refine ⟨p,_,dx,_,_,rfl,hp,T.cl_Keeper,T.na_Keeper_kept,lk1 _ _,?_⟩
  walk_at "rd"
  refine ⟨y,n,tupS ws,rfl,hy,okT_S (by rw [tl.len];lia) tl.wd,telB_S tl.len tl.wd,fun H1 s1=>?_⟩
  walk_at "rd"
  refine ifF (by simp;lia) ?_
  have hp1:=s1 _ _ hp
  walk_at "rd"
  refine ⟨p,_,dx,_,_,rfl,hp1,T.cl_Keeper,T.na_Keeper_kept,lk1 _ _,?_⟩
  walk_at "rd"
  refine ⟨_,y,n,ps,ws,rfl,hx.same s1,ho,n7,hy.same s1,tl.len,tl.wd,fun z H2 s2 iz oz=>?_⟩
  walk_at "rd"
  refine ⟨z,n + 1,_,rfl,iz,oz,hb,fun H3 s3=>?_⟩
  have hp3:=s3 _ _ (s2 _ _ hp1)
  have iz3:=iz.same s3
  walk_at "rd"
  refine ⟨p,_,dx,_,rfl,hp3,T.cl_Keeper,T.na_Keeper_kept,by show 1 < 1000;decide,?_⟩
  walk_at "rd"
  have kt:∀ c us,H3 c=some (.tup us)→upd H3 p (.ins t.c_Keeper dx (putF "kept" z [("kept",V.ref oa)])) c=some (.tup us):=fun c us e=>by rw [upd_ne (ne_of e hp3 (by intro z;cases z))];exact e
  exact q z _ (fun c u e g=>by rw [upd_ne g];exact s3 _ _ (s2 _ _ (s1 _ _ e))) ⟨dx,by rw [upd_same,put1]⟩ (ord_keep kt iz3) oz
inductive Rf (t:Ad) (n:Nat) (ps:List (Int×Int)) (d:PyData) (H:Hp) (E:XK):Prop where
 | tel (a:telB d n=false) (q:∀ H',Same H H'→E (.ref t.c_NoTelling) none H')
 | full (a:telB d n=true) (b:n=8) (q:∀ H',Same H H'→E (.ref t.c_Full) none H')
 | bar (ws:List Str) (a:d=tupS ws) (b:Tl n ws) (c:n≤7) (e:barB (n + 1) (newO n ps ws)=true) (q:∀ H',Same H H'→E (.ref t.c_Barred) none H')
noncomputable def spr_K_come (t:Ad):Sp:=fun vs H Q E=>∃ (p:Addr) (x:V) (n:Nat) (ps:List (Int×Int)) (y:V) (d:PyData),vs=[.ref p,y]∧KAt t H p x∧Is H x (ordD n ps)∧Ord n ps∧Is H y d∧okT d∧Rf t n ps d H E
theorem okr_Keeper_come (T:Txt K mg t):FnOk P w K mg base (CXE P w) 8 t.a_Keeper_come t.d_Keeper_come ["self","telling"] (spr_K_come t):=by
 refine T.F_Keeper_come.okX sc_Keeper_come (fun vs H Q E h=>?_) (fun cdv A outer s H vs Q E hr h=>?_)
 ·obtain ⟨p,x,n,ps,y,d,rfl,_⟩:=h
  rfl
 ·obtain ⟨p,x,n,ps,y,d,rfl,⟨dx,hp⟩,hx,ho,hy,ok,rf⟩:=h
  refine ⟨_,(pss_cons (ps_set (i:=2) sc_Keeper_come.nd rfl (Or.inl rfl) (pe_ix (k_ix K) (pe_fld (pv 0) rfl) pe_int (fun _ _=>rfl)))
   (pss_cons (ps_expr (pe_call (okx_need_telling T) (hr.mono (by decide)) rfl T.m_need_telling T.F_need_telling.kp T.b_need_telling .nil passE (pa_cons (pv 1) (pa_cons (pv 2) pa_nil))))
   (pss_cons (ps_if (pt_cmpR (op_eqD hr.units) (pv 2) (pe_gint rfl T.c_MOST_THINGS) (nomark _)) (pss_one (ps_raise T.g_Full T.Z_Full.exc rfl (pa_cons pe_str pa_nil))) pss_nil)
   (pss_cons (ps_set (i:=3) sc_Keeper_come.nd rfl (Or.inl rfl) (pe_call (ok_with_newest T) (hr.mono (by decide)) rfl T.m_with_newest T.F_with_newest.kp T.b_with_newest .nil pass0 (pa_cons (pe_fld (pv 0) rfl) (pa_cons (pv 1) pa_nil))))
   (pss_cons (ps_expr (pe_call (okx_need_unbarred T) (hr.mono (by decide)) rfl T.m_need_unbarred T.F_need_unbarred.kp T.b_need_unbarred .nil passE (pa_cons (pv 3) pa_nil)))
   (pss_cons (ps_fld (pv 0) (pv 3) rfl)
   (pss_one (ps_ret (pv 2))))))))),?_⟩
  obtain ⟨oa,ob,xs,rfl,ea,eb,hxs⟩:=is_ord hx
  walk_at "rd"
  refine ⟨p,_,dx,_,_,rfl,hp,T.cl_Keeper,T.na_Keeper_kept,lk1 _ _,?_⟩
  walk_at "rd"
  cases rf with
  | tel a q=>exact .inr ⟨y,n,d,rfl,hy,ok,a,q⟩
  | full a b q=>
   refine .inl ⟨y,n,d,rfl,hy,ok,a,fun H1 s1=>?_⟩
   walk_at "rd"
   refine ifT (by simp;lia) ?_
   walk_at "rd"
   exact ⟨by show 1≤sizeLine;decide,q H1 s1⟩
  | bar ws a tl n7 hb q=>
   subst a
   refine .inl ⟨y,n,_,rfl,hy,ok,telB_S tl.len tl.wd,fun H1 s1=>?_⟩
   walk_at "rd"
   refine ifF (by simp;lia) ?_
   have hp1:=s1 _ _ hp
   walk_at "rd"
   refine ⟨p,_,dx,_,_,rfl,hp1,T.cl_Keeper,T.na_Keeper_kept,lk1 _ _,?_⟩
   walk_at "rd"
   refine ⟨_,y,n,ps,ws,rfl,hx.same s1,ho,n7,hy.same s1,tl.len,tl.wd,fun z H2 s2 iz oz=>?_⟩
   walk_at "rd"
   exact .inr ⟨z,n + 1,_,rfl,iz,oz,hb,fun H3 s3=>q H3 ((s1.trans s2).trans s3)⟩
noncomputable def spx_K_come (t:Ad):Sp:=fun vs H Q E=>sp_K_come t vs H Q E∨spr_K_come t vs H Q E
theorem okx_Keeper_come (T:Txt K mg t):FnOk P w K mg base (CXE P w) 8 t.a_Keeper_come t.d_Keeper_come ["self","telling"] (spx_K_come t):=(ok_Keeper_come T).lift.or (okr_Keeper_come T)
end
end My
namespace My
open PySem L2
theorem has_in {n:Nat} {ps:List (Int×Int)} (ho:Ord n ps) {a b:Int} (h:has ps a b=true):(0≤a∧a < n)∧0≤b∧b < n:=by
 have:=ho.ix _ (of_decide_eq_true h)
 exact ⟨⟨this.1,this.2.1⟩,this.2.2.1,this.2.2.2.1⟩
theorem has_newO {n:Nat} {ps:List (Int×Int)} {ws:List Str} {i j:Nat} (hi:i < n) (hj:j < n):has (newO n ps ws) i j=has ps i j:=by
 have e:has (newO n ps ws) i j=(has ps i j||has (nwT n ws n) i j):=by
  rw [Bool.eq_iff_iff,has_iff]
  unfold newO
  rw [mem_gAll]
  constructor
  ·rintro ⟨i',j',_,_,e,g⟩
   injection e with e1 e2
   have e1':i=i':=Int.ofNat.inj e1
   have e2':j=j':=Int.ofNat.inj e2
   rw [e1',e2']
   exact g
  ·intro g
   exact ⟨i,j,by lia,by lia,rfl,g⟩
 rw [e]
 cases h:has (nwT n ws n) i j with
 | false=>rw [Bool.or_false]
 | true=>
  have:=(nwT_in (Nat.le_refl _) (has_iff.mp h)).2
  dsimp only at this
  lia
theorem ord1:Ord 1 []:=⟨by decide,by decide,fun p hp=>(by cases hp),rfl,by decide⟩
noncomputable def TK (H H':Hp):Prop:=∀ c us,H c=some (.tup us)→H' c=some (.tup us)
theorem TK.trans {H H1 H2:Hp} (a:TK H H1) (b:TK H1 H2):TK H H2:=fun c us e=>b _ _ (a _ _ e)
theorem TK.same {H H':Hp} (s:Same H H'):TK H H':=fun c us e=>s _ _ e
theorem TK.t {H H':Hp} {tw:Addr} {ts:List V} (hw:H tw=some (.lst ts)) (s:SameT tw H H'):TK H H':=fun c us e=>s _ _ e (ne_of e hw (by intro z;cases z))
theorem newO_ord {n:Nat} {ps:List (Int×Int)} {ws:List Str} (ho:Ord n ps) (h7:n≤7):Ord (n + 1) (newO n ps ws):=by
 refine ord_of (by lia) (by lia) (fun p hp=>?_) (gAll_up _ _ _)
 obtain ⟨i,j,hi,hj,rfl,hf⟩:=mem_gAll.mp hp
 have hp2:((i:Int),(j:Int))∈ps++nwT n ws n:=by
  rw [Bool.or_eq_true,has_iff,has_iff] at hf
  exact List.mem_append.mpr hf
 exact app_in ho (Nat.le_refl _) _ hp2
theorem bar_old {n:Nat} {ps:List (Int×Int)} {ws:List Str} (ho:Ord n ps) (h7:n≤7) (hb:barB (n + 1) (newO n ps ws)=false):barB n ps=false:=by
 cases g:barB n ps with
 | false=>rfl
 | true=>
  have hs:∀ a b:Int,0≤a∧a < n→0≤b∧b < n→has (newO n ps ws) a b=has ps a b:=fun a b ha hb=>by
   obtain ⟨i,rfl⟩:=Int.eq_ofNat_of_zero_le ha.1
   obtain ⟨j,rfl⟩:=Int.eq_ofNat_of_zero_le hb.1
   exact has_newO (by lia) (by lia)
  have hB:Brd (n + 1) (newO n ps ws):=by
   rcases (brd_iff ho).mp g with ⟨a,b,c,d,h⟩ | ⟨a,b,c,d,d0,d1,h⟩
   ·left
    refine ⟨a,b,c,d,?_⟩
    unfold bar2B at h ⊢
    simp only [Bool.and_eq_true,Bool.not_eq_true'] at h ⊢
    obtain ⟨⟨h1,h2⟩,h3,h4⟩:=h
    obtain ⟨a1,b1⟩:=has_in ho h1
    obtain ⟨c1,d1⟩:=has_in ho h2
    rw [hs a b a1 b1,hs c d c1 d1,hs a d a1 d1,hs c b c1 b1]
    exact ⟨⟨h1,h2⟩,h3,h4⟩
   ·right
    refine ⟨a,b,c,d,d0,by lia,?_⟩
    unfold bar3B at h ⊢
    simp only [Bool.and_eq_true,Bool.not_eq_true'] at h ⊢
    obtain ⟨⟨h1,h2⟩,h3,h4⟩:=h
    obtain ⟨a1,b1⟩:=has_in ho h1
    obtain ⟨b2,c1⟩:=has_in ho h2
    rw [hs a b a1 b1,hs b c b2 c1,hs a d a1 ⟨d0,d1⟩,hs d c ⟨d0,d1⟩ c1]
    exact ⟨⟨h1,h2⟩,h3,h4⟩
  rw [(brd_iff (newO_ord ho h7)).mpr hB] at hb
  cases hb
end My
namespace My
open PySem L2
noncomputable def ltC (ps:List (Int×Int)) (m i:Int):Nat:=if has ps m i=true then 108 else if has ps i m=true then 109 else 98
noncomputable def ltsC (ps:List (Int×Int)) (m:Nat):List Nat:=(List.range m).map fun i=>ltC ps m (i:Nat)
noncomputable def kpC (ps:List (Int×Int)) (n:Nat):List (List Nat):=(List.range (n - 1)).map fun k=>ltsC ps (k + 1)
theorem s_l:Str.ofString "l"=mkT [108]:=by rfl
theorem s_m:Str.ofString "m"=mkT [109]:=by rfl
theorem s_b:Str.ofString "b"=mkT [98]:=by rfl
theorem s_0:Str.ofString ""=Str.empty:=by rfl
theorem s_32:Str.ofString " "=mkT [32]:=by rfl
section
variable {P:Program} {w:World} {K:PySem.W.Frag} {mg:Str→Option Value} {base:Heap} {t:Ad}
set_option genSizeOf false in
set_option genInjectivity false in
inductive sp_letter_for (vs:List V) (H:Hp) (Q:VK) (zz3:XK):Prop where
 | mk (x ps m i:_) (zh0:vs=[x,.int m,.int i]) (zh1:Is H x (.tuple (ps.map prD))) (zh2:∀ H',Same H H'→Q (.str (mkT [ltC ps m i])) H'):sp_letter_for vs H Q zz3
theorem ok_letter_for (T:Txt K mg t):FnOk P w K mg base CX0 1 t.a_letter_for t.d_letter_for ["pairs","newest","thing"] sp_letter_for:=by
 refine T.F_letter_for.ok sc_letter_for (fun vs H Q E h=>?_) (fun cdv A outer s H vs Q E hr h=>?_)
 ·obtain ⟨x,ps,m,i,rfl,_⟩:=h
  rfl
 ·obtain ⟨x,ps,m,i,rfl,hx,q⟩:=h
  refine ⟨_,(pss_cons (ps_if (pt_cmpR (op_inD hr.units) (pe_tup (pa_cons (pv 1) (pa_cons (pv 2) pa_nil))) (pv 0) (by rfl)) (pss_one (ps_ret pe_str)) pss_nil)
   (pss_cons (ps_if (pt_cmpR (op_inD hr.units) (pe_tup (pa_cons (pv 2) (pa_cons (pv 1) pa_nil))) (pv 0) (by rfl)) (pss_one (ps_ret pe_str)) pss_nil)
   (pss_one (ps_ret pe_str)))),?_⟩
  unfold ltC at q
  walk_at "rd"
  refine ⟨two_ln,fun p1 hp1=>?_⟩
  have s1:=Same.upd (o:=.tup [.int m,.int i]) hp1
  walk_at "rd"
  refine rd_inP upd_same (hx.same s1) ?_
  walk_at "rd"
  refine ifB (fun h1=>?_) (fun h1=>?_)
  ·walk_at "rd"
   have q':=q _ s1
   rw [if_pos h1] at q'
   exact q'
  ·rw [h1] at q
   walk_at "rd"
   refine ⟨two_ln,fun p2 hp2=>?_⟩
   walk_at "rd"
   refine rd_inP upd_same (hx.same (s1.trans (Same.upd hp2))) ?_
   walk_at "rd"
   refine ifB (fun h2=>?_) (fun h2=>?_)
   ·rw [h2] at q
    walk_at "rd"
    exact q _ (s1.trans (Same.upd hp2))
   ·rw [h2] at q
    walk_at "rd"
    exact q _ (s1.trans (Same.upd hp2))
theorem flat_one {α β:Type} (f:α→β) (l:List α):(l.map fun a=>[f a]).flatten=l.map f:=by
 induction l with
 | nil=>rfl
 | cons a l ih=>simp [ih]
set_option genSizeOf false in
set_option genInjectivity false in
inductive sp_letters_for (vs:List V) (H:Hp) (Q:VK) (zz3:XK):Prop where
 | mk (x n ps m:_) (zh0:vs=[x,.int (m:Nat)]) (zh1:Is H x (ordD n ps)) (zh2:m≤8) (zh3:∀ H',Same H H'→Q (.str (mkT (ltsC ps m))) H'):sp_letters_for vs H Q zz3
theorem ok_letters_for (T:Txt K mg t):FnOk P w K mg base CX0 2 t.a_letters_for t.d_letters_for ["order","newest"] sp_letters_for:=by
 refine T.F_letters_for.ok sc_letters_for (fun vs H Q E h=>?_) (fun cdv A outer s H vs Q E hr h=>?_)
 ·obtain ⟨x,n,ps,m,rfl,_⟩:=h
  rfl
 ·obtain ⟨x,n,ps,m,rfl,hx,m8,q⟩:=h
  refine ⟨_,(pss_one (ps_ret (k_bm K PySem.F.plainAttrs_str PySem.F.slot_str_join PySem.F.type_str_join (k_join K) pe_str (pa_cons (pe_lc rfl ⟨True.intro,True.intro,True.intro,(.inl rfl),(.inl rfl),True.intro⟩ (M:=["thing","newest","order"]) (.own (.free 1 rfl rfl (.free 0 rfl rfl .nil))) (gk_name rfl) rfl (by decide +kernel) (pi_range1 rfl T.n_range (pa_cons (pv 1) pa_nil)) (fun C fp s1 H1=>⟨pg_name (i:=0) (show (["thing","newest","order"]:List Str).Nodup by decide +kernel) rfl (Or.inl rfl),pif_nil,(pe_call (ok_letter_for T) (hr.mono (by decide)) rfl T.m_letter_for T.F_letter_for.kp T.b_letter_for .nil pass0 (pa_cons (pe_ix (k_ix K) (pv 2) pe_int (fun _ _=>rfl)) (pa_cons (pv 1) (pa_cons (pv 0) pa_nil))))⟩)) pa_nil)))),?_⟩
  obtain ⟨oa,ob,xs,rfl,ea,eb,hxs⟩:=is_ord hx
  walk_at "rd"
  refine ⟨tyV_str,?_⟩
  walk_at "rd"
  refine ⟨_,rfl,by lia,by lia,?_⟩
  rw [Int.toNat_natCast]
  refine lp_range (small_ln (by lia)) (fun i zs H'=>Same H H'∧zs=((List.range i).map fun j=>mkT [ltC ps m (j:Nat)]).map V.str) ⟨Same.refl H,rfl⟩ (by rintro i ys H' ⟨_,rfl⟩;simp) ?_ ?_
  ·rintro i zs H1 hi ⟨s1,rfl⟩
   have ea1:=s1 _ _ ea
   walk_at "rd"
   refine ⟨_,ps,m,_,rfl,.tup (s1 _ _ eb) (hxs.same s1),fun H2 s2=>⟨s1.trans s2,?_⟩⟩
   rw [Int.zero_add,List.range_succ,List.map_append,List.map_append]
   rfl
  ·rintro zs H1 ⟨s1,rfl⟩ p hp
   have s2:=Same.upd (o:=.lst (((List.range m).map fun j=>mkT [ltC ps m (j:Nat)]).map V.str)) hp
   walk_at "rd"
   have e1:(List.range m).map (fun j=>mkT [ltC ps m (j:Nat)])=((List.range m).map fun j=>[ltC ps m (j:Nat)]).map mkT:=by rw [List.map_map];rfl
   refine rd_join (ss:=(List.range m).map fun j=>mkT [ltC ps m (j:Nat)]) upd_same ?_ ?_
   ·rw [s_0,e1]
    refine join_ok _ (by simp;lia) fun l hl=>?_
    obtain ⟨j,_,rfl⟩:=List.mem_map.mp hl
    show 1≤100
    decide
   ·have ej:Txt.join Str.empty ((List.range m).map fun j=>mkT [ltC ps m (j:Nat)])=mkT (ltsC ps m):=by rw [e1,join_nil,flat_one];rfl
    rw [s_0,ej]
    exact q _ (s1.trans s2)
set_option genSizeOf false in
set_option genInjectivity false in
inductive sp_keeper_text (t:Ad) (vs:List V) (H:Hp) (Q:VK) (zz3:XK):Prop where
 | mk (p:Addr) (x:V) (n:Nat) (ps:List (Int×Int)) (zh0:vs=[.ref p]) (zh1:KAt t H p x) (zh2:Is H x (ordD n ps)) (zh3:1≤n) (zh4:n≤8) (zh5:∀ H',Same H H'→Q (.str (mkT (jnC 32 (kpC ps n)))) H'):sp_keeper_text t vs H Q zz3
theorem ok_keeper_text (T:Txt K mg t):FnOk P w K mg base CX0 3 t.a_keeper_text t.d_keeper_text ["keeper"] (sp_keeper_text t):=by
 refine T.F_keeper_text.ok sc_keeper_text (fun vs H Q E h=>?_) (fun cdv A outer s H vs Q E hr h=>?_)
 ·obtain ⟨p,x,n,ps,rfl,_⟩:=h
  rfl
 ·obtain ⟨p,x,n,ps,rfl,ka,hx,n1,n8,q⟩:=h
  refine ⟨_,(pss_cons (ps_set (i:=1) sc_keeper_text.nd rfl (Or.inr rfl) (pe_meth0 (pv 0) T.cl_Keeper T.M_Keeper_order (ok_Keeper_order T) (hr.mono (by decide)) T.b_Keeper_order .nil pass0))
   (pss_one (ps_ret (k_bm K PySem.F.plainAttrs_str PySem.F.slot_str_join PySem.F.type_str_join (k_join K) pe_str (pa_cons (pe_lc rfl ⟨True.intro,True.intro,True.intro,(.inl rfl),True.intro⟩ (M:=["newest","order"]) (.own (.free 1 rfl rfl .nil)) (gk_name rfl) rfl (by decide +kernel) (pi_range2 rfl T.n_range (pa_cons pe_int (pa_cons (pe_ix (k_ix K) (pv 1) pe_int (fun _ _=>rfl)) pa_nil))) (fun C fp s1 H1=>⟨pg_name (i:=0) (show (["newest","order"]:List Str).Nodup by decide +kernel) rfl (Or.inl rfl),pif_nil,(pe_call (ok_letters_for T) (hr.mono (by decide)) rfl T.m_letters_for T.F_letters_for.kp T.b_letters_for .nil pass0 (pa_cons (pv 1) (pa_cons (pv 0) pa_nil)))⟩)) pa_nil))))),?_⟩
  obtain ⟨dx,hp⟩:=id ka
  have nk:("order":Str)≠"kept":=by decide +kernel
  walk_at "rd"
  refine ⟨p,dx,_,rfl,hp,lk0 _ nk,?_⟩
  walk_at "rd"
  refine ⟨_,_,rfl,ka,?_⟩
  obtain ⟨oa,ob,xs,rfl,ea,eb,hxs⟩:=is_ord hx
  walk_at "rd"
  refine ⟨tyV_str,?_⟩
  walk_at "rd"
  refine rd_rng2 ?_
  walk_at "rd"
  refine ⟨1,n,rfl,⟨by decide,by decide,by lia,by lia⟩,?_⟩
  rw [show ((n:Int) - 1).toNat=n - 1 by lia]
  refine lp_range (small_ln (by lia)) (fun i zs H'=>Same H H'∧zs=((List.range i).map fun k=>mkT (ltsC ps (k + 1))).map V.str) ⟨Same.refl H,rfl⟩ (by rintro i ys H' ⟨_,rfl⟩;simp) ?_ ?_
  ·rintro i zs H1 hi ⟨s1,rfl⟩
   walk_at "rd"
   refine ⟨.ref oa,n,ps,i + 1,by rw [show ((i + 1:Nat):Int)=(1:Int) + (i:Nat) by lia];rfl,hx.same s1,by lia,fun H2 s2=>⟨s1.trans s2,?_⟩⟩
   rw [List.range_succ,List.map_append,List.map_append]
   rfl
  ·rintro zs H1 ⟨s1,rfl⟩ p hp
   have s2:=Same.upd (o:=.lst (((List.range (n - 1)).map fun k=>mkT (ltsC ps (k + 1))).map V.str)) hp
   walk_at "rd"
   have e1:(List.range (n - 1)).map (fun k=>mkT (ltsC ps (k + 1)))=(kpC ps n).map mkT:=by unfold kpC;rw [List.map_map];rfl
   refine rd_join (ss:=(List.range (n - 1)).map fun k=>mkT (ltsC ps (k + 1))) upd_same ?_ ?_
   ·rw [s_32,e1]
    refine join_okC _ _ (by simp [kpC];lia) fun l hl=>?_
    obtain ⟨j,hj,rfl⟩:=List.mem_map.mp hl
    have:=List.mem_range.mp hj
    simp [ltsC]
    lia
   ·have ej:Txt.join (mkT [32]) ((List.range (n - 1)).map fun k=>mkT (ltsC ps (k + 1)))=mkT (jnC 32 (kpC ps n)):=by rw [e1,join_sp]
    rw [s_32,ej]
    exact q _ (s1.trans s2)
end
end My
namespace My
open PySem L2
noncomputable abbrev wbl:List (Str×Str):=[("l","less"),("m","more"),("b","beside")]
noncomputable def Lc (c:Nat):Prop:=c=108∨c=109∨c=98
instance (c:Nat):Decidable (Lc c):=by unfold Lc;infer_instance
noncomputable def wC (c:Nat):Str:=if c=108 then "less" else if c=109 then "more" else "beside"
theorem wC_wd (c:Nat):Wd (wC c):=by
 unfold wC Wd
 split
 ·exact .inl rfl
 ·split
  ·exact .inr (.inl rfl)
  ·exact .inr (.inr rfl)
theorem chS_mkT {cs:List Nat} {i c:Nat} (h:cs[i]? =some c):chS (mkT cs) i=mkT [c]:=by
 unfold chS mkT
 simp [h]
theorem asc_mkT {cs:List Nat} (h:∀ c∈cs,c < 128):(mkT cs).cps.all (· < 128)=true:=by
 unfold mkT
 simp only [List.all_toArray,List.all_eq_true,decide_eq_true_eq]
 exact h
noncomputable def gdV (c:Nat):V:=if Lc c then .str (wC c) else .non
noncomputable def gdD (c:Nat):PyData:=if Lc c then .str (wC c) else .none
theorem gd_V (c:Nat):gdAt wbl (mkT [c])=gdV c:=by
 unfold gdV
 by_cases h1:c=108
 ·subst h1;decide +kernel
 by_cases h2:c=109
 ·subst h2;decide +kernel
 by_cases h3:c=98
 ·subst h3;decide +kernel
 rw [if_neg (fun z=>by rcases z with z | z | z <;> contradiction)]
 have n1:¬(Str.ofString "l"=mkT [c]):=fun z=>h1 (by have:=mkT_inj (s_l.symm.trans z);injection this with e _;exact e.symm)
 have n2:¬(Str.ofString "m"=mkT [c]):=fun z=>h2 (by have:=mkT_inj (s_m.symm.trans z);injection this with e _;exact e.symm)
 have n3:¬(Str.ofString "b"=mkT [c]):=fun z=>h3 (by have:=mkT_inj (s_b.symm.trans z);injection this with e _;exact e.symm)
 rw [gdAt,if_neg n1,gdAt,if_neg n2,gdAt,if_neg n3,gdAt]
noncomputable def tlD (cs:List Nat):PyData:=.tuple (cs.map gdD)
theorem is_gd {H:Hp} (c:Nat):Is H (gdV c) (gdD c):=by
 unfold gdV gdD
 split
 ·exact .str _
 ·exact .non
theorem is_gds {H:Hp}:∀ cs:List Nat,IsAll H (cs.map gdV) (cs.map gdD)
 | []=>.nil
 | c::cs=>.cons (is_gd c) (is_gds cs)
theorem tl_all {cs:List Nat} (h:∀ c∈cs,Lc c):tlD cs=tupS (cs.map wC):=by
 unfold tlD tupS
 rw [List.map_map]
 congr 1
 exact List.map_congr_left fun c hc=>if_pos (h c hc)
theorem ok_tl {cs:List Nat} (h:cs.length≤1000):okT (tlD cs):=by
 rintro ds ⟨⟩
 refine ⟨by rw [List.length_map];exact h,fun e he=>?_⟩
 obtain ⟨c,_,rfl⟩:=List.mem_map.mp he
 unfold gdD
 split
 ·exact ok_wd (wC_wd c)
 ·exact ⟨rfl,by decide⟩
theorem tel_tl {cs:List Nat} {n:Nat}:telB (tlD cs) n=true↔cs.length=n∧∀ c∈cs,Lc c:=by
 show (decide ((cs.map gdD).length=n)&&(cs.map gdD).all wdB)=true↔_
 rw [Bool.and_eq_true,decide_eq_true_iff,List.length_map,List.all_map,List.all_eq_true]
 refine and_congr_right fun _=>forall_congr' fun c=>forall_congr' fun _=>?_
 show wdB (gdD c)=true↔_
 unfold gdD
 split
 ·rename_i h
  exact ⟨fun _=>h,fun _=>wdB_wd.mpr (wC_wd c)⟩
 ·rename_i h
  exact ⟨fun z=>(by cases z),fun z=>absurd z h⟩
theorem tl_of {cs:List Nat} {n:Nat} (h:cs.length=n):Tl n (cs.map wC):=⟨by rw [List.length_map];exact h,fun v hv=>by
 obtain ⟨c,_,rfl⟩:=List.mem_map.mp hv
 exact wC_wd c⟩
section
variable {P:Program} {w:World} {K:PySem.W.Frag} {mg:Str→Option Value} {base:Heap} {t:Ad}
set_option genSizeOf false in
set_option genInjectivity false in
inductive sp_need_text (vs:List V) (H:Hp) (Q:VK) (zz3:XK):Prop where
 | mk (z:_) (zh0:vs=[.str z]) (zh1:Q .non H):sp_need_text vs H Q zz3
theorem ok_need_text (T:Txt K mg t):FnOk P w K mg base CX0 1 t.a_need_text t.d_need_text ["value"] sp_need_text:=by
 refine T.F_need_text.ok sc_need_text (fun vs H Q E h=>?_) (fun cdv A outer s H vs Q E hr h=>?_)
 ·obtain ⟨z,rfl,_⟩:=h
  rfl
 ·obtain ⟨z,rfl,q⟩:=h
  refine ⟨_,(pss_one (ps_if (pt_not (pt_val (pe_callB c_isinst (by rfl) T.n_isinstance bt_isinstance (pa_cons (pv 0) (pa_cons (pe_bltn (v:=.ty "str") rfl T.n_str bt_str rfl) pa_nil))))) (pss_one ps_never) pss_nil)),?_⟩
  have is:Is H (.str z) (.str z):=.str _
  walk_at "rd"
  exact q
noncomputable def spr_need_text (t:Ad):Sp:=fun vs H Q E=>∃ x d,vs=[x]∧Is H x d∧isStrD d=false∧E (.ref t.c_NoText) none H
theorem okr_need_text (T:Txt K mg t):FnOk P w K mg base (CXE P w) 1 t.a_need_text t.d_need_text ["value"] (spr_need_text t):=by
 refine T.F_need_text.okX sc_need_text (fun vs H Q E h=>?_) (fun cdv A outer s H vs Q E hr h=>?_)
 ·obtain ⟨x,d,rfl,_⟩:=h
  rfl
 ·obtain ⟨x,d,rfl,hx,hd,q⟩:=h
  refine ⟨_,(pss_one (ps_if (pt_not (pt_val (pe_callB c_isinst (by rfl) T.n_isinstance bt_isinstance (pa_cons (pv 0) (pa_cons (pe_bltn (v:=.ty "str") rfl T.n_str bt_str rfl) pa_nil))))) (pss_one (ps_raise T.g_NoText T.Z_NoText.exc rfl (pa_cons pe_str pa_nil))) pss_nil)),?_⟩
  walk_at "rd"
  rw [hd]
  walk_at "rd"
  exact ⟨by show 1≤sizeLine;decide,q⟩
noncomputable def spx_need_text (t:Ad):Sp:=fun vs H Q E=>sp_need_text vs H Q E∨spr_need_text t vs H Q E
theorem okx_need_text (T:Txt K mg t):FnOk P w K mg base (CXE P w) 1 t.a_need_text t.d_need_text ["value"] (spx_need_text t):=(ok_need_text T).lift.or (okr_need_text T)
set_option genSizeOf false in
set_option genInjectivity false in
inductive sp_telling_in (vs:List V) (H:Hp) (Q:VK) (zz3:XK):Prop where
 | mk (cs:_) (zh0:vs=[.str (mkT cs)]) (zh1:(∀ c∈cs,c < 128)) (zh2:cs.length≤200) (zh3:∀ y H',Same H H'→Is H' y (tlD cs)→Q y H'):sp_telling_in vs H Q zz3
theorem ok_telling_in (T:Txt K mg t) (B:GD K w.params mg "WORDS_BY_LETTER" wbl):FnOk P w K mg base CX0 1 t.a_telling_in t.d_telling_in ["letters"] sp_telling_in:=by
 refine T.F_telling_in.ok sc_telling_in (fun vs H Q E h=>?_) (fun cdv A outer s H vs Q E hr h=>?_)
 ·obtain ⟨cs,rfl,_⟩:=h
  rfl
 ·obtain ⟨cs,rfl,hc,hl,q⟩:=h
  refine ⟨_,(pss_one (ps_ret (pe_callTy (k_tuple K) (by rfl) T.n_tuple bt_tuple (pa_cons (pe_lc rfl ⟨True.intro,True.intro,True.intro,True.intro⟩ (M:=["letter"]) (.own .nil) (gk_name rfl) rfl (by decide +kernel) (pi_str (pv 0)) (fun C fp s1 H1=>⟨pg_name (i:=0) (show (["letter"]:List Str).Nodup by decide +kernel) rfl (Or.inl rfl),pif_nil,(pe_gd rfl B (pv 0))⟩)) pa_nil)))),?_⟩
  walk_at "rd"
  refine rd_istr ?_
  walk_at "rd"
  refine ⟨_,rfl,asc_mkT hc,?_⟩
  have sz:(mkT cs).cps.size=cs.length:=by simp [mkT]
  refine lp_str (small_ln (by rw [sz];lia)) (fun i ys H'=>H'=H∧ys=(cs.take i).map gdV) ⟨rfl,rfl⟩ (by rintro i ys H' ⟨_,rfl⟩;simp;lia) ?_ ?_
  ·rintro i ys H' hi ⟨rfl,rfl⟩
   rw [sz] at hi
   have e:=List.getElem?_eq_getElem hi
   rw [chS_mkT e]
   walk_at "rd"
   refine rd_gd ?_
   walk_at "rd"
   refine ⟨_,rfl,rfl,?_⟩
   rw [gd_V,List.take_add_one,e,List.map_append]
   rfl
  ·rintro ys H' ⟨rfl,rfl⟩ p hp
   rw [sz,List.take_length]
   have s1:=Same.upd (o:=.lst (cs.map gdV)) hp
   have e1:upd H' p (.lst (cs.map gdV)) p=some (.lst (cs.map gdV)):=upd_same
   generalize upd H' p (.lst (cs.map gdV))=H1 at s1 e1
   walk_at "rd"
   refine fun r hr=>q (.ref r) _ (s1.trans (Same.upd hr)) ?_
   exact .tup upd_same (is_gds _)
inductive Lm (t:Ad) (n:Nat) (ps:List (Int×Int)) (cs:List Nat) (p:Addr) (H:Hp) (Q:VK) (E:XK):Prop where
 | come (a:cs.length=n) (b:∀ c∈cs,Lc c) (c:n≤7) (e:barB (n + 1) (newO n ps (cs.map wC))=false) (q:∀ (x':V) H',SameT p H H'→KAt t H' p x'→Is H' x' (ordD (n + 1) (newO n ps (cs.map wC)))→Ord (n + 1) (newO n ps (cs.map wC))→Q .non H')
 | no (a:¬(cs.length=n∧(∀ c∈cs,Lc c)∧n≤7∧barB (n + 1) (newO n ps (cs.map wC))=false)) (q:∀ c H',Same H H'→E (.ref t.c_NoText) c H')
noncomputable def spx_let_come (t:Ad):Sp:=fun vs H Q E=>∃ (p:Addr) (x:V) (n:Nat) (ps:List (Int×Int)) (cs:List Nat),vs=[.ref p,.str (mkT cs)]∧KAt t H p x∧Is H x (ordD n ps)∧Ord n ps∧(∀ c∈cs,c < 128)∧cs.length≤200∧Lm t n ps cs p H Q E
theorem okx_let_come (T:Txt K mg t) (B:GD K w.params mg "WORDS_BY_LETTER" wbl):FnOk P w K mg base (CXE P w) 9 t.a_let_come t.d_let_come ["keeper","letters"] (spx_let_come t):=by
 refine T.F_let_come.okX sc_let_come (fun vs H Q E h=>?_) (fun cdv A outer s H vs Q E hr h=>?_)
 ·obtain ⟨p,x,n,ps,cs,rfl,_⟩:=h
  rfl
 ·obtain ⟨p,x,n,ps,cs,rfl,ka,hx,ho,hc,hl,lm⟩:=h
  refine ⟨_,(pss_one (ps_tryF (i:=2) rfl sc_let_come.nd rfl rfl rfl T.g_OrderError rfl T.g_NoText T.Z_NoText.exc (fun pn E1 Eb hp=>(pss_one (ps_expr (pe_meth (pv 0) T.cl_Keeper T.M_Keeper_come (okx_Keeper_come T) (hr.mono (by decide)) T.b_Keeper_come .nil hp (pa_cons (pe_call (ok_telling_in T B) (hr.mono (by decide)) rfl T.m_telling_in T.F_telling_in.kp T.b_telling_in .nil pass0 (pa_cons (pv 1) pa_nil)) pa_nil))))) (fun ex=>(pa_cons pe_str pa_nil)))),?_⟩
  obtain ⟨dx,hp⟩:=id ka
  have nc:("come":Str)≠"kept":=by decide +kernel
  walk_at "rd"
  refine ⟨p,dx,_,rfl,hp,lk0 _ nc,?_⟩
  walk_at "rd"
  refine ⟨cs,rfl,hc,hl,fun y H1 s1 iy=>?_⟩
  walk_at "rd"
  have ok:=ok_tl (cs:=cs) (by lia)
  cases lm with
  | come a b c e q=>
   rw [tl_all b] at iy
   refine .inl ⟨p,x,n,ps,y,_,rfl,ka.same s1,hx.same s1,ho,c,iy,tl_of a,e,fun x' H2 s2 k2 i2 o2=>?_⟩
   walk_at "rd"
   exact q x' H2 (fun c u e g=>s2 _ _ (s1 _ _ e) g) k2 i2 o2
  | no a q=>
   refine .inr ⟨p,x,n,ps,y,_,rfl,ka.same s1,hx.same s1,ho,iy,ok,?_⟩
   by_cases ht:telB (tlD cs) n=true
   ·obtain ⟨a1,a2⟩:=tel_tl.mp ht
    by_cases h7:n≤7
    ·have hb:barB (n + 1) (newO n ps (cs.map wC))=true:=by
      cases g:barB (n + 1) (newO n ps (cs.map wC)) with
      | true=>rfl
      | false=>exact absurd ⟨a1,a2,h7,g⟩ a
     refine .bar (cs.map wC) (tl_all a2) (tl_of a1) h7 hb fun H2 s2=>⟨_,rfl,rfl,T.x_Barred,T.Z_Barred.exc,fun ex σ he hi=>?_⟩
     walk_at "rd"
     exact ⟨by show 1≤sizeLine;decide,upd_same,q _ _ ((s1.trans s2).trans (Same.upd he))⟩
    ·refine .full ht (by have:=ho.hi;lia) fun H2 s2=>⟨_,rfl,rfl,T.x_Full,T.Z_Full.exc,fun ex σ he hi=>?_⟩
     walk_at "rd"
     exact ⟨by show 1≤sizeLine;decide,upd_same,q _ _ ((s1.trans s2).trans (Same.upd he))⟩
   ·refine .tel (Bool.eq_false_iff.mpr ht) fun H2 s2=>⟨_,rfl,rfl,T.x_NoTelling,T.Z_NoTelling.exc,fun ex σ he hi=>?_⟩
    walk_at "rd"
    exact ⟨by show 1≤sizeLine;decide,upd_same,q _ _ ((s1.trans s2).trans (Same.upd he))⟩
end
end My
namespace My
open PySem L2
noncomputable def fo (ls:List (List Nat)):Nat→List (Int×Int)
 | 0=>[]
 | k + 1=>newO (k + 1) (fo ls k) ((ls.getD k []).map wC)
structure Gd (ls:List (List Nat)):Prop where
 le:ls.length≤7
 len:∀ k,k < ls.length→(ls.getD k []).length=k + 1
 lc:∀ k,k < ls.length→∀ c∈ls.getD k [],Lc c
 bar:∀ k,k≤ls.length→barB (k + 1) (fo ls k)=false
 ord:∀ k,k≤ls.length→Ord (k + 1) (fo ls k)
theorem gd_get {ls:List (List Nat)} {k:Nat} {l:List Nat} (h:ls[k]? =some l):ls.getD k []=l:=by
 rw [List.getD_eq_getElem?_getD,h]
 rfl
theorem Gd.mem {ls:List (List Nat)} (g:Gd ls) {l:List Nat} (h:l∈ls):l≠[]∧l.length≤7∧∀ c∈l,Lc c:=by
 obtain ⟨k,hk⟩:=List.getElem?_of_mem h
 have hlt:=(List.getElem?_eq_some_iff.mp hk).1
 have e:=gd_get hk
 have h1:=g.len k hlt
 have h2:=g.lc k hlt
 have h3:=g.le
 rw [e] at h1 h2
 exact ⟨fun z=>(by rw [z] at h1;cases h1),by lia,h2⟩
theorem Gd.low {ls:List (List Nat)} (g:Gd ls):∀ c∈jnC 32 ls,c < 200:=fun c hc=>by
 rcases mem_jnC hc with rfl | ⟨l,hl,h⟩
 ·decide
 ·rcases (g.mem hl).2.2 c h with rfl | rfl | rfl <;> decide
theorem Gd.size {ls:List (List Nat)} (g:Gd ls):(jnC 32 ls).length≤56:=by
 have h1:=jnC_len 32 (k:=7) (ls:=ls) fun l hl=>(g.mem hl).2.1
 have h2:=g.le
 lia
theorem eqv_T (a b:List Nat):PyData.eqv (.str (mkT a)) (.str (mkT b))=decide (a=b):=by
 rw [eqv_str]
 by_cases h:a=b
 ·subst h
  simp
 ·rw [decide_eq_false h,decide_eq_false fun z=>h (mkT_inj z)]
theorem s_E:Str.ofString ""=mkT []:=by rfl
end My
namespace My
open PySem L2
theorem has_new {n:Nat} {ps:List (Int×Int)} {ws:List Str} {i j:Nat} (hi:i < n + 1) (hj:j < n + 1):has (newO n ps ws) i j=(has ps i j||has (nwT n ws n) i j):=by
 rw [Bool.eq_iff_iff,has_iff]
 unfold newO
 rw [mem_gAll]
 constructor
 ·rintro ⟨i',j',_,_,e,g⟩
  injection e with e1 e2
  have e1':i=i':=Int.ofNat.inj e1
  have e2':j=j':=Int.ofNat.inj e2
  rw [e1',e2']
  exact g
 ·intro g
  exact ⟨i,j,by lia,by lia,rfl,g⟩
theorem has_out {n:Nat} {ps:List (Int×Int)} (ho:Ord n ps) (a:Int):has ps (n:Int) a=false∧has ps a (n:Int)=false:=by
 constructor
 ·cases h:has ps (n:Int) a with
  | false=>rfl
  | true=>have:=(has_in ho h).1;lia
 ·cases h:has ps a (n:Int) with
  | false=>rfl
  | true=>have:=(has_in ho h).2;lia
theorem nw_less {n j:Nat} {ws:List Str} (hj:j < n):has (nwT n ws n) n j=decide (ws.getD j ""="less"):=by
 rw [Bool.eq_iff_iff,has_iff,mem_nwT,decide_eq_true_iff]
 constructor
 ·rintro ⟨k,hk,h⟩
  rcases mem_nwI.mp h with ⟨h1,h2⟩ | ⟨h1,h2⟩
  ·injection h2 with _ e
   have:j=k:=Int.ofNat.inj e
   rw [this]
   exact h1
  ·injection h2 with e _
   have:n=k:=Int.ofNat.inj e
   lia
 ·intro h
  exact ⟨j,hj,mem_nwI.mpr (.inl ⟨h,rfl⟩)⟩
theorem nw_more {n j:Nat} {ws:List Str} (hj:j < n):has (nwT n ws n) j n=decide (ws.getD j ""="more"):=by
 rw [Bool.eq_iff_iff,has_iff,mem_nwT,decide_eq_true_iff]
 constructor
 ·rintro ⟨k,hk,h⟩
  rcases mem_nwI.mp h with ⟨h1,h2⟩ | ⟨h1,h2⟩
  ·injection h2 with e _
   have:j=n:=Int.ofNat.inj e
   lia
  ·injection h2 with e _
   have:j=k:=Int.ofNat.inj e
   rw [this]
   exact h1
 ·intro h
  exact ⟨j,hj,mem_nwI.mpr (.inr ⟨h,rfl⟩)⟩
noncomputable def lC (w:Str):Nat:=if w="less" then 108 else if w="more" then 109 else 98
theorem lC_wC {c:Nat} (h:Lc c):lC (wC c)=c:=by
 rcases h with rfl | rfl | rfl
 ·decide +kernel
 ·decide +kernel
 ·decide +kernel
theorem lC_lc (v:Str):Lc (lC v):=by
 unfold lC Lc
 split
 ·exact .inl rfl
 ·split
  ·exact .inr (.inl rfl)
  ·exact .inr (.inr rfl)
theorem ltC_new {n j:Nat} {ps:List (Int×Int)} {ws:List Str} (ho:Ord n ps) (hj:j < n):ltC (newO n ps ws) n j=lC (ws.getD j ""):=by
 unfold ltC lC
 rw [has_new (Nat.lt_succ_self n) (by lia),has_new (by lia) (Nat.lt_succ_self n),(has_out ho _).1,(has_out ho _).2,Bool.false_or,Bool.false_or,nw_less hj,nw_more hj]
 simp only [decide_eq_true_eq]
theorem lts_new {n:Nat} {ps:List (Int×Int)} {cs:List Nat} (ho:Ord n ps) (hl:cs.length=n) (hc:∀ c∈cs,Lc c):ltsC (newO n ps (cs.map wC)) n=cs:=by
 unfold ltsC
 refine List.ext_getElem? fun j=>?_
 rw [List.getElem?_map]
 by_cases hj:j < n
 ·have e:cs[j]? =some cs[j]:=List.getElem?_eq_getElem (by lia)
  rw [List.getElem?_range hj,Option.map_some,ltC_new ho hj,e]
  have e2:(cs.map wC).getD j ""=wC cs[j]:=by rw [List.getD_eq_getElem?_getD,List.getElem?_map,e];rfl
  rw [e2,lC_wC (hc _ (List.getElem_mem _))]
 ·rw [List.getElem?_eq_none (by rw [List.length_range];lia),List.getElem?_eq_none (by lia)]
  rfl
theorem lts_old {n m:Nat} {ps:List (Int×Int)} {ws:List Str} (hm:m < n):ltsC (newO n ps ws) m=ltsC ps m:=by
 unfold ltsC
 refine List.map_congr_left fun j hj=>?_
 have:=List.mem_range.mp hj
 unfold ltC
 rw [has_newO hm (by lia),has_newO (by lia) hm]
theorem lts_fo {ls:List (List Nat)} (g:Gd ls):∀ k,k≤ls.length→∀ m,m < k→ltsC (fo ls k) (m + 1)=ls.getD m []
 | 0,_,m,h=>absurd h (Nat.not_lt_zero m)
 | k + 1,hk,m,h=>by
  by_cases e:m=k
  ·subst e
   exact lts_new (g.ord m (by lia)) (g.len m hk) (g.lc m hk)
  ·have:=lts_fo g k (by lia) m (by lia)
   rw [←this]
   exact lts_old (by lia)
theorem kp_fo {ls:List (List Nat)} (g:Gd ls):kpC (fo ls ls.length) (ls.length + 1)=ls:=by
 unfold kpC
 rw [Nat.add_sub_cancel]
 refine List.ext_getElem? fun j=>?_
 rw [List.getElem?_map]
 by_cases hj:j < ls.length
 ·rw [List.getElem?_range hj,Option.map_some,lts_fo g _ (Nat.le_refl _) j hj,List.getD_eq_getElem?_getD,List.getElem?_eq_getElem hj]
  rfl
 ·rw [List.getElem?_eq_none (by rw [List.length_range];lia),List.getElem?_eq_none (by lia)]
  rfl
end My
namespace My
open PySem L2
theorem mem_jn {k:Nat}:∀ {ls:List (List Nat)} {l:List Nat} {c:Nat},l∈ls→c∈l→c∈jnC k ls
 | [a],l,c,h,g=>by
  rw [List.mem_singleton.mp h] at g
  exact g
 | a::b::r,l,c,h,g=>by
  show c∈a++k::jnC k (b::r)
  rcases List.mem_cons.mp h with rfl | h
  ·exact List.mem_append_left _ g
  ·exact List.mem_append_right _ (.tail _ (mem_jn h g))
theorem len_jn {k:Nat}:∀ {ls:List (List Nat)},ls.length≤(jnC k ls).length + 1∧∀ l∈ls,l.length≤(jnC k ls).length
 | []=>⟨Nat.zero_le _,fun l h=>by cases h⟩
 | [a]=>⟨by show 1≤a.length + 1;lia,fun l h=>by rw [List.mem_singleton.mp h];exact Nat.le_refl _⟩
 | a::b::r=>by
  obtain ⟨h1,h2⟩:=len_jn (k:=k) (ls:=b::r)
  have e:(jnC k (a::b::r)).length=a.length + ((jnC k (b::r)).length + 1):=by
   show (a++k::jnC k (b::r)).length=_
   rw [List.length_append,List.length_cons]
  refine ⟨by rw [e,List.length_cons];lia,fun l h=>?_⟩
  rw [e]
  rcases List.mem_cons.mp h with rfl | h
  ·lia
  ·have:=h2 l h
   lia
theorem parts_ex (k:Nat):∀ cs:List Nat,∃ ls,ls≠[]∧cs=jnC k ls∧∀ l∈ls,k∉l
 | []=>⟨[[]],by simp,rfl,fun l h=>by rw [List.mem_singleton.mp h];simp⟩
 | c::cs=>by
  obtain ⟨ls,h0,h1,h2⟩:=parts_ex k cs
  cases ls with
  | nil=>exact absurd rfl h0
  | cons a r=>
   by_cases hc:c=k
   ·refine ⟨[]::a::r,by simp,?_,fun l h=>?_⟩
    ·show c::cs=[]++k::jnC k (a::r)
     rw [hc,h1]
     rfl
    ·rcases List.mem_cons.mp h with rfl | h
     ·simp
     ·exact h2 l h
   ·refine ⟨(c::a)::r,by simp,?_,fun l h=>?_⟩
    ·rw [h1]
     cases r with
     | nil=>rfl
     | cons b r=>rfl
    ·rcases List.mem_cons.mp h with rfl | h
     ·intro z
      rcases List.mem_cons.mp z with z | z
      ·exact hc z.symm
      ·exact h2 a (.head _) z
     ·exact h2 l (.tail _ h)
structure Txs (cs:List Nat) (ls:List (List Nat)):Prop where
 eq:cs=jnC 32 ls
 no:∀ l∈ls,32∉l
 nil:cs=[]↔ls=[]
 low:∀ c∈cs,c < 128
 len:cs.length≤100
theorem txs_ex {cs:List Nat} (h1:∀ c∈cs,c < 128) (h2:cs.length≤100):∃ ls,Txs cs ls:=by
 by_cases h:cs=[]
 ·subst h
  exact ⟨[],rfl,fun l h=>(by cases h),⟨fun _=>rfl,fun _=>rfl⟩,h1,h2⟩
 ·obtain ⟨ls,a,b,c⟩:=parts_ex 32 cs
  exact ⟨ls,b,c,⟨fun z=>absurd z h,fun z=>absurd z a⟩,h1,h2⟩
theorem Txs.mem {cs:List Nat} {ls:List (List Nat)} (h:Txs cs ls) {l:List Nat} (hl:l∈ls):(∀ c∈l,c < 128)∧l.length≤100:=by
 refine ⟨fun c hc=>h.low c (by rw [h.eq];exact mem_jn hl hc),?_⟩
 have:=(len_jn (k:=32) (ls:=ls)).2 l hl
 have h2:=h.len
 rw [h.eq] at h2
 lia
theorem Txs.many {cs:List Nat} {ls:List (List Nat)} (h:Txs cs ls):ls.length≤101:=by
 have:=(len_jn (k:=32) (ls:=ls)).1
 have h2:=h.len
 rw [h.eq] at h2
 lia
structure Gp (ls:List (List Nat)) (i:Nat):Prop where
 le:i≤7
 len:∀ k,k < i→(ls.getD k []).length=k + 1
 lc:∀ k,k < i→∀ c∈ls.getD k [],Lc c
 bar:∀ k,k≤i→barB (k + 1) (fo ls k)=false
 ord:∀ k,k≤i→Ord (k + 1) (fo ls k)
theorem Gp.all {ls:List (List Nat)} (g:Gp ls ls.length):Gd ls:=⟨g.le,g.len,g.lc,g.bar,g.ord⟩
theorem gp0 (ls:List (List Nat)):Gp ls 0:=⟨by decide,fun k h=>absurd h (Nat.not_lt_zero k),fun k h=>absurd h (Nat.not_lt_zero k),fun k h=>by
 have:k=0:=Nat.le_zero.mp h
 subst this
 show barB 1 []=false
 decide,fun k h=>by
 have:k=0:=Nat.le_zero.mp h
 subst this
 exact ord1⟩
theorem Gp.next {ls:List (List Nat)} {i:Nat} (g:Gp ls i) (h6:i + 1≤7) (hl:(ls.getD i []).length=i + 1) (hc:∀ c∈ls.getD i [],Lc c) (hb:barB (i + 2) (fo ls (i + 1))=false) (ho:Ord (i + 2) (fo ls (i + 1))):Gp ls (i + 1):=by
 refine ⟨h6,fun k hk=>?_,fun k hk=>?_,fun k hk=>?_,fun k hk=>?_⟩
 ·by_cases e:k=i
  ·rw [e];exact hl
  ·exact g.len k (by lia)
 ·by_cases e:k=i
  ·rw [e];exact hc
  ·exact g.lc k (by lia)
 ·by_cases e:k=i + 1
  ·rw [e];exact hb
  ·exact g.bar k (by lia)
 ·by_cases e:k=i + 1
  ·rw [e];exact ho
  ·exact g.ord k (by lia)
section
variable {P:Program} {w:World} {K:PySem.W.Frag} {mg:Str→Option Value} {base:Heap} {t:Ad}
inductive Ko (t:Ad) (vs:List V) (H:Hp) (Q:VK) (E:XK):Prop where
 | txt (cs:List Nat) (ls:List (List Nat)) (a:vs=[.str (mkT cs)]) (b:Txs cs ls) (q:Gd ls→∀ (p:Addr) (x:V) H',Same H H'→KAt t H' p x→Is H' x (ordD (ls.length + 1) (fo ls ls.length))→Q (.ref p) H') (e:¬Gd ls→∀ c H',Same H H'→E (.ref t.c_NoText) c H')
 | oth (x:V) (d:PyData) (a:vs=[x]) (b:Is H x d) (c:isStrD d=false) (e:∀ c H',Same H H'→E (.ref t.c_NoText) c H')
theorem okx_keeper_of (T:Txt K mg t) (B:GD K w.params mg "WORDS_BY_LETTER" wbl):FnOk P w K mg base (CXE P w) 10 t.a_keeper_of t.d_keeper_of ["text"] (Ko t):=by
 refine T.F_keeper_of.okX sc_keeper_of (fun vs H Q E h=>?_) (fun cdv A outer s H vs Q E hr h=>?_)
 ·cases h with
  | txt cs ls a=>rw [a];rfl
  | oth x d a=>rw [a];rfl
 ·refine ⟨_,(pss_cons (ps_expr (pe_call (okx_need_text T) (hr.mono (by decide)) rfl T.m_need_text T.F_need_text.kp T.b_need_text .nil passE (pa_cons (pv 0) pa_nil)))
   (pss_cons (ps_set (i:=1) sc_keeper_of.nd rfl (Or.inl rfl) (pe_make0 T.K_Keeper (ok_Keeper_init T) (hr.mono (by decide)) rfl T.g_Keeper T.b_Keeper_init .nil pass0))
   (pss_cons (ps_if (pt_cmpR (op_eqD hr.units) (pv 0) pe_str (nomark _)) (pss_one (ps_ret (pv 1))) pss_nil)
   (pss_cons (ps_for PassesOwn.leaving rfl (k_plst K (k_bm K PySem.F.plainAttrs_str PySem.F.slot_str_split PySem.F.type_str_split mt_split (pv 0) (pa_cons pe_str pa_nil))) (pg_name (i:=2) sc_keeper_of.nd rfl (Or.inl rfl)) (pss_one (ps_expr (pe_call (okx_let_come T B) (hr.mono (by decide)) rfl T.m_let_come T.F_let_come.kp T.b_let_come .nil passE (pa_cons (pv 1) (pa_cons (pv 2) pa_nil))))))
   (pss_one (ps_ret (pv 1))))))),?_⟩
  cases h with
  | oth x d a b c e=>
   subst a
   walk_at "rd"
   exact .inr ⟨x,d,rfl,b,c,e _ _ (Same.refl H)⟩
  | txt cs ls a b q e=>
   subst a
   walk_at "rd"
   refine .inl ⟨_,rfl,?_⟩
   walk_at "rd"
   intro p dx np ndx ndp
   have s0:Same H (upd (upd H dx (.own p)) p (.ins t.c_Keeper dx [])):=fun c u e=>by rw [upd_ne (ne_of_none e np),upd_ne (ne_of_none e ndx)];exact e
   refine ⟨p,dx,rfl,upd_same,fun x H1 s1 ka ix=>⟨rfl,?_⟩⟩
   have s01:Same H H1:=fun c u e=>s1 _ _ (s0 _ _ e) (ne_of_none e np)
   clear s0 s1 ndx ndp
   walk_at "rd"
   refine rd_eqD (.str _) (.str _) (ok_txt fun c hc=>Nat.lt_of_lt_of_le (b.low c hc) (by decide)) (by rw [s_E];exact ok_txt fun c hc=>by cases hc) ?_
   rw [s_E,eqv_T]
   walk_at "rd"
   refine ifB (fun h1=>?_) (fun h1=>?_)
   ·have h0:ls=[]:=b.nil.mp (of_decide_eq_true h1)
    subst h0
    walk_at "rd"
    exact q (gp0 []).all p x H1 s01 ka ix
   ·have h0:ls≠[]:=fun z=>(of_decide_eq_false h1) (b.nil.mpr z)
    walk_at "rd"
    refine ⟨tyV_str,?_⟩
    walk_at "rd"
    refine rd_split (by rw [s_32];rfl) (small_ln (by rw [mkT_len];have:=b.len;lia)) fun l hl=>?_
    have esp:Txt.split (mkT cs) (mkT [32])=ls.map mkT:=by rw [b.eq,split_sp h0 b.no]
    rw [s_32,esp]
    have s2:=Same.upd (o:=.lst ((ls.map mkT).map V.str)) hl
    have el:upd H1 l (.lst ((ls.map mkT).map V.str)) l=some (.lst ((ls.map mkT).map V.str)):=upd_same
    have ka2:=ka.same s2
    have ix2:=ix.same s2
    have s02:=s01.trans s2
    generalize upd H1 l (.lst ((ls.map mkT).map V.str))=H2 at s2 el ka2 ix2 s02
    clear s2 hl ka ix s01
    have nlp:l≠p:=by
     obtain ⟨dz,ez⟩:=ka2
     exact ne_of el ez (by intro z;cases z)
    walk_at "rd"
    refine ⟨l,rfl,⟨_,SqL.of el⟩,?_⟩
    refine fp_list (K:=K) (xs:=(ls.map mkT).map V.str) (fun i σ H'=>(∃ v2,σ=[some (.str (mkT cs)),some (.ref p),v2])∧SameT p H2 H'∧Gp ls i∧∃ x,KAt t H' p x∧Is H' x (ordD (i + 1) (fo ls i))) ⟨⟨_,rfl⟩,SameT.refl _ _,gp0 ls,x,ka2,ix2⟩ (fun i σ H' _ h=>SqL.of (h.2.1 _ _ el nlp)) ?_ ?_
    ·rintro i v σ H3 hv ⟨⟨v2,rfl⟩,s3,gp,x3,k3,i3⟩
     rw [List.getElem?_map,List.getElem?_map] at hv
     cases hi:ls[i]? with
     | none=>rw [hi] at hv;cases hv
     | some ks=>
     rw [hi] at hv
     cases hv
     have hlt:=(List.getElem?_eq_some_iff.mp hi).1
     have eg:=gd_get hi
     have ef:fo ls (i + 1)=newO (i + 1) (fo ls i) (ks.map wC):=by rw [←eg];rfl
     obtain ⟨m1,m2⟩:=b.mem (List.mem_of_getElem? hi)
     walk_at "rd"
     refine ⟨p,x3,i + 1,_,ks,rfl,k3,i3,gp.ord i (Nat.le_refl _),m1,by lia,?_⟩
     by_cases hg:ks.length=i + 1∧(∀ c∈ks,Lc c)∧i + 1≤7∧barB (i + 1 + 1) (newO (i + 1) (fo ls i) (ks.map wC))=false
     ·obtain ⟨g1,g2,g3,g4⟩:=hg
      refine .come g1 g2 g3 g4 fun x4 H4 s4 k4 i4 o4=>?_
      walk_at "rd"
      rw [←ef] at g4 o4 i4
      exact ⟨⟨_,rfl⟩,s3.trans s4,gp.next g3 (by rw [eg];exact g1) (by rw [eg];exact g2) g4 o4,x4,k4,i4⟩
     ·refine .no hg fun c H4 s4=>e (fun gd=>hg ?_) c H4 fun c u e=>s4 _ _ (s3 _ _ (s02 _ _ e) (ne_of_none e np))
      have h1:=gd.len i hlt
      have h2:=gd.lc i hlt
      have h3:=gd.bar (i + 1) hlt
      have h4:=gd.le
      rw [eg] at h1 h2
      rw [ef] at h3
      exact ⟨h1,h2,by lia,h3⟩
    ·rintro σ H3 ⟨⟨v2,rfl⟩,s3,gp,x3,k3,i3⟩
     rw [List.length_map,List.length_map] at i3 gp
     walk_at "rd"
     exact q gp.all p x3 H3 (fun c u e=>s3 _ _ (s02 _ _ e) (ne_of_none e np)) k3 i3
theorem which_text (T:Txt K mg t):Which K t t.c_NoText 12:=⟨by decide,T.Z_NoText,T.v_NoText,T.x_NoText,T.q_NoText_NoOrder,T.q_NoText_NoNumbers,T.q_NoText_NoStep,T.q_NoText_NoThing,T.q_NoText_NoCount,T.q_NoText_NoTelling,T.q_NoText_Barred,T.q_NoText_Full,T.q_NoText_Nothing,T.q_NoText_NoNames,T.q_NoText_NoRow,T.q_NoText_NoSeveral,kit_yes⟩
inductive Ka (vs:List V) (H:Hp) (Q:VK):Prop where
 | txt (cs:List Nat) (ls:List (List Nat)) (a:vs=[.str (mkT cs)]) (b:Txs cs ls) (q:Gd ls→∀ H',Same H H'→Q (.str (mkT cs)) H') (e:¬Gd ls→∀ v H',Same H H'→Is H' v (refD 12)→Q v H')
 | oth (x:V) (d:PyData) (a:vs=[x]) (b:Is H x d) (c:isStrD d=false) (e:∀ v H',Same H H'→Is H' v (refD 12)→Q v H')
theorem ok__law_ask (T:Txt K mg t) (B:GD K w.params mg "WORDS_BY_LETTER" wbl):FnOk P w K mg base CX0 11 t.a__law_ask t.d__law_ask ["_law_text"] (fun vs H Q _=>Ka vs H Q):=by
 refine T.F__law_ask.ok sc__law_ask (fun vs H Q E h=>?_) (fun cdv A outer s H vs Q E hr h=>?_)
 ·cases h with
  | txt cs ls a=>rw [a];rfl
  | oth x d a=>rw [a];rfl
 ·refine ⟨_,(pss_one (ps_try (i:=1) rfl sc__law_ask.nd rfl rfl rfl rfl rfl rfl T.g_OrderError (fun pn E1 Eb hp=>(pss_one (ps_ret (pe_call (ok_keeper_text T) (hr.mono (by decide)) rfl T.m_keeper_text T.F_keeper_text.kp T.b_keeper_text .nil pass0 (pa_cons (pe_call (okx_keeper_of T B) (hr.mono (by decide)) rfl T.m_keeper_of T.F_keeper_of.kp T.b_keeper_of .nil hp (pa_cons (pv 0) pa_nil)) pa_nil))))) (fun ex=>(pss_one (ps_ret (pe_callH (okH__law_which T) ((hr.mono (by decide)).mark _) rfl T.m__law_which T.F__law_which.kp T.b__law_which (pa_cons (pv 1) pa_nil))))))),?_⟩
  have W:=which_text T
  cases h with
  | oth x d a b c e=>
   subst a
   walk_at "rd"
   refine .oth x d rfl b c fun cz H1 s1=>⟨_,rfl,W.x,fun ex σ hex hi=>?_⟩
   walk_at "rd"
   refine rd_var (List.getElem?_set_self hi) ?_
   walk_at "rd"
   exact ⟨ex,_,_,rfl,upd_same,W,fun v H2 s2 iv=>e v H2 ((s1.trans (Same.upd hex)).trans s2) iv⟩
  | txt cs ls a b q e=>
   subst a
   walk_at "rd"
   refine .txt cs ls rfl b (fun gd p x H1 s1 ka ix=>?_) (fun ng cz H1 s1=>⟨_,rfl,W.x,fun ex σ hex hi=>?_⟩)
   ·have g7:=gd.le
    walk_at "rd"
    refine ⟨p,x,_,_,rfl,ka,ix,by lia,by lia,fun H2 s2=>?_⟩
    rw [kp_fo gd,←b.eq]
    exact q gd H2 (s1.trans s2)
   ·walk_at "rd"
    refine rd_var (List.getElem?_set_self hi) ?_
    walk_at "rd"
    exact ⟨ex,_,_,rfl,upd_same,W,fun v H2 s2 iv=>e ng v H2 ((s1.trans (Same.upd hex)).trans s2) iv⟩
end
end My
namespace My
open PySem L2
noncomputable def rwI (f:Nat→Int×Int) (ks:List Nat) (c j:Nat):List (Int×Int):=if ks.getD j 0=c then [f j] else []
noncomputable def rwL (f:Nat→Int×Int) (ks:List Nat) (c m:Nat):List (Int×Int):=(List.range m).flatMap (rwI f ks c)
theorem rwL_succ (f:Nat→Int×Int) (ks:List Nat) (c m:Nat):rwL f ks c (m + 1)=rwL f ks c m++rwI f ks c m:=by
 unfold rwL
 rw [List.range_succ,List.flatMap_append]
 simp
theorem rwI_len (f:Nat→Int×Int) (ks:List Nat) (c j:Nat):(rwI f ks c j).length≤1:=by
 unfold rwI
 split
 ·exact Nat.le_refl _
 ·exact Nat.zero_le _
theorem rwL_len (f:Nat→Int×Int) (ks:List Nat) (c:Nat):∀ m,(rwL f ks c m).length≤m
 | 0=>Nat.le_refl _
 | m + 1=>by
  rw [rwL_succ,List.length_append]
  have:=rwL_len f ks c m
  have:=rwI_len f ks c m
  lia
theorem mem_rwL {f:Nat→Int×Int} {ks:List Nat} {c m:Nat} {p:Int×Int}:p∈rwL f ks c m↔∃ j,j < m∧ks.getD j 0=c∧p=f j:=by
 unfold rwL
 rw [List.mem_flatMap]
 constructor
 ·rintro ⟨j,hj,h⟩
  unfold rwI at h
  split at h
  ·rename_i g
   exact ⟨j,List.mem_range.mp hj,g,List.mem_singleton.mp h⟩
  ·cases h
 ·rintro ⟨j,hj,g,rfl⟩
  refine ⟨j,List.mem_range.mpr hj,?_⟩
  unfold rwI
  rw [if_pos g]
  exact .head _
theorem rwL_nd {f:Nat→Int×Int} (hf:∀ i j,f i=f j→i=j) (ks:List Nat) (c:Nat):∀ m,(rwL f ks c m).Nodup
 | 0=>List.nodup_nil
 | m + 1=>by
  rw [rwL_succ]
  refine List.nodup_append.mpr ⟨rwL_nd hf ks c m,?_,fun a ha b hb z=>?_⟩
  ·unfold rwI
   split <;> simp
  ·subst z
   obtain ⟨j,hj,_,rfl⟩:=mem_rwL.mp ha
   unfold rwI at hb
   split at hb
   ·have:=hf _ _ (List.mem_singleton.mp hb)
    lia
   ·cases hb
noncomputable def fL (k:Nat):Nat→Int×Int:=fun j=>(((k + 1:Nat):Int),(j:Int))
noncomputable def fM (k:Nat):Nat→Int×Int:=fun j=>((j:Int),((k + 1:Nat):Int))
theorem fL_inj {k:Nat} (i j:Nat) (h:fL k i=fL k j):i=j:=by
 injection h with _ h
 exact Int.ofNat.inj h
theorem fM_inj {k:Nat} (i j:Nat) (h:fM k i=fM k j):i=j:=by
 injection h with h _
 exact Int.ofNat.inj h
noncomputable def pL (ls:List (List Nat)):Nat→List (Int×Int)
 | 0=>[]
 | k + 1=>(pL ls k++rwL (fL k) (ls.getD k []) 108 (k + 1))++rwL (fM k) (ls.getD k []) 109 (k + 1)
theorem pL_len (ls:List (List Nat)):∀ i,i≤101→(pL ls i).length≤i * 204
 | 0,_=>Nat.le_refl _
 | k + 1,h=>by
  show ((pL ls k++rwL (fL k) (ls.getD k []) 108 (k + 1))++rwL (fM k) (ls.getD k []) 109 (k + 1)).length≤_
  rw [List.length_append,List.length_append]
  have h1:=pL_len ls k (by lia)
  have h2:=rwL_len (fL k) (ls.getD k []) 108 (k + 1)
  have h3:=rwL_len (fM k) (ls.getD k []) 109 (k + 1)
  lia
theorem pL_in (ls:List (List Nat)):∀ n,∀ p∈pL ls n,inN (n + 1) p
 | 0,p,h=>by cases h
 | k + 1,p,h=>by
  rcases List.mem_append.mp h with h | h
  ·rcases List.mem_append.mp h with h | h
   ·obtain ⟨a,b,c,d,e⟩:=pL_in ls k p h
    exact ⟨a,by lia,c,by lia,e⟩
   ·obtain ⟨j,hj,_,rfl⟩:=mem_rwL.mp h
    refine ⟨?_,?_,?_,?_,?_⟩ <;> dsimp only [fL] <;> lia
  ·obtain ⟨j,hj,_,rfl⟩:=mem_rwL.mp h
   refine ⟨?_,?_,?_,?_,?_⟩ <;> dsimp only [fM] <;> lia
theorem pL_nd (ls:List (List Nat)):∀ n,(pL ls n).Nodup
 | 0=>List.nodup_nil
 | k + 1=>by
  show ((pL ls k++rwL (fL k) (ls.getD k []) 108 (k + 1))++rwL (fM k) (ls.getD k []) 109 (k + 1)).Nodup
  refine List.nodup_append.mpr ⟨List.nodup_append.mpr ⟨pL_nd ls k,rwL_nd fL_inj _ _ _,fun a ha b hb z=>?_⟩,rwL_nd fM_inj _ _ _,fun a ha b hb z=>?_⟩
  ·subst z
   obtain ⟨_,h1,_,h2,_⟩:=pL_in ls k a ha
   obtain ⟨j,hj,_,rfl⟩:=mem_rwL.mp hb
   unfold fL at h1
   simp at h1
  ·subst z
   obtain ⟨j,hj,_,rfl⟩:=mem_rwL.mp hb
   rcases List.mem_append.mp ha with ha | ha
   ·obtain ⟨_,h1,_,h2,_⟩:=pL_in ls k _ ha
    unfold fM at h2
    simp at h2
   ·obtain ⟨j',hj',_,e⟩:=mem_rwL.mp ha
    unfold fL fM at e
    injection e with e1 e2
    have:j=k + 1:=Int.ofNat.inj e1
    lia
structure LG (ls:List (List Nat)) (i:Nat):Prop where
 len:∀ k,k < i→(ls.getD k []).length=k + 1
 lc:∀ k,k < i→∀ c∈ls.getD k [],Lc c
theorem wC_l {c:Nat}:wC c="less"↔c=108:=by
 unfold wC
 constructor
 ·intro h
  split at h
  ·assumption
  ·split at h
   ·exact absurd h (by decide +kernel)
   ·exact absurd h (by decide +kernel)
 ·intro h
  rw [if_pos h]
theorem wC_m {c:Nat}:wC c="more"↔c=109:=by
 unfold wC
 constructor
 ·intro h
  split at h
  ·exact absurd h (by decide +kernel)
  ·split at h
   ·assumption
   ·exact absurd h (by decide +kernel)
 ·intro h
  subst h
  rfl
theorem lg_ord {ls:List (List Nat)}:∀ n,n≤7→Ord (n + 1) (fo ls n)
 | 0,_=>ord1
 | k + 1,h=>newO_ord (lg_ord k (by lia)) h
theorem mem_pL {ls:List (List Nat)}:∀ n,n≤7→LG ls n→∀ p,p∈pL ls n↔p∈fo ls n
 | 0,_,_,p=>Iff.rfl
 | k + 1,h7,g,p=>by
  have ih:=mem_pL k (by lia) ⟨fun j hj=>g.len j (by lia),fun j hj=>g.lc j (by lia)⟩ p
  have hl:=g.len k (by lia)
  have ho:=lg_ord (ls:=ls) (k + 1) h7
  have hw:∀ j,j < k + 1→((ls.getD k []).map wC).getD j ""=wC ((ls.getD k []).getD j 0):=fun j hj=>by
   generalize ls.getD k []=ks at hl
   rw [List.getD_eq_getElem?_getD,List.getD_eq_getElem?_getD,List.getElem?_map,List.getElem?_eq_getElem (by lia)]
   rfl
  have e1:p∈fo ls (k + 1)↔p∈fo ls k∨p∈nwT (k + 1) ((ls.getD k []).map wC) (k + 1):=by
   show p∈newO (k + 1) (fo ls k) ((ls.getD k []).map wC)↔_
   constructor
   ·intro hp
    unfold newO at hp
    obtain ⟨i,j,_,_,rfl,hf⟩:=mem_gAll.mp hp
    rw [Bool.or_eq_true,has_iff,has_iff] at hf
    exact hf
   ·intro hp
    obtain ⟨q1,q2,q3,q4,_⟩:inN (k + 1 + 1) p:=by
     rcases hp with hp | hp
     ·obtain ⟨a,b,c,d,e⟩:=(lg_ord (ls:=ls) k (by lia)).ix p hp
      exact ⟨a,by lia,c,by lia,e⟩
     ·exact (nwT_in (Nat.le_refl _) hp).1
    obtain ⟨i,hi⟩:=Int.eq_ofNat_of_zero_le q1
    obtain ⟨j,hj⟩:=Int.eq_ofNat_of_zero_le q3
    have ep:p=((i:Int),(j:Int)):=Prod.ext hi hj
    unfold newO
    refine mem_gAll.mpr ⟨i,j,by lia,by lia,ep,?_⟩
    rw [Bool.or_eq_true,has_iff,has_iff,←ep]
    exact hp
  rw [e1,←ih]
  show p∈(pL ls k++rwL (fL k) (ls.getD k []) 108 (k + 1))++rwL (fM k) (ls.getD k []) 109 (k + 1)↔_
  rw [List.mem_append,List.mem_append,or_assoc]
  refine or_congr_right ?_
  rw [mem_rwL,mem_rwL,mem_nwT]
  constructor
  ·rintro (⟨j,hj,g1,rfl⟩ | ⟨j,hj,g1,rfl⟩)
   ·exact ⟨j,hj,mem_nwI.mpr (.inl ⟨by rw [hw j hj];exact wC_l.mpr g1,rfl⟩)⟩
   ·exact ⟨j,hj,mem_nwI.mpr (.inr ⟨by rw [hw j hj];exact wC_m.mpr g1,rfl⟩)⟩
  ·rintro ⟨j,hj,h⟩
   rcases mem_nwI.mp h with ⟨h1,rfl⟩ | ⟨h1,rfl⟩
   ·rw [hw j hj] at h1
    exact .inl ⟨j,hj,wC_l.mp h1,rfl⟩
   ·rw [hw j hj] at h1
    exact .inr ⟨j,hj,wC_m.mp h1,rfl⟩
theorem pL_sorted {ls:List (List Nat)} {n:Nat} (h7:n≤7) (g:LG ls n) {ps:List (Int×Int)} (hp:ps.Perm (pL ls n)) (hw:ps.Pairwise ltP):ps=fo ls n:=
 pw_ext hw (pw_of (lg_ord n h7).up) fun x=>(hp.mem_iff).trans (mem_pL n h7 g x)
theorem fo_bar {ls:List (List Nat)}:∀ n,n≤7→barB (n + 1) (fo ls n)=false→∀ k,k≤n→barB (k + 1) (fo ls k)=false
 | 0,_,h,k,hk=>by
  have:k=0:=Nat.le_zero.mp hk
  subst this
  exact h
 | n + 1,h7,h,k,hk=>by
  by_cases e:k=n + 1
  ·subst e
   exact h
  ·exact fo_bar n (by lia) (bar_old (lg_ord n (by lia)) h7 h) k (by lia)
theorem gd_iff {ls:List (List Nat)} (g:LG ls ls.length):Gd ls↔ls.length≤7∧barB (ls.length + 1) (fo ls ls.length)=false:=
 ⟨fun h=>⟨h.le,h.bar _ (Nat.le_refl _)⟩,fun ⟨h7,hb⟩=>⟨h7,g.len,g.lc,fo_bar _ h7 hb,fun k hk=>lg_ord k (by lia)⟩⟩
theorem lay_chs:∀ {cs:List Nat},(∀ c∈cs,c < 128)→PyData.canLayAll0 (cs.map fun c=>.str (mkT [c]))=true∧PyData.depthAll (cs.map fun c=>.str (mkT [c]))=0
 | [],_=>⟨rfl,rfl⟩
 | v::ws,h=>by
  obtain ⟨c,e⟩:=lay_chs (cs:=ws) fun x hx=>h x (.tail _ hx)
  have o:okD (.str (mkT [v])):=ok_txt fun c hc=>by rw [List.mem_singleton.mp hc];have:=h v (.head _);lia
  rw [List.map_cons,PyData.canLayAll0,PyData.depthAll,o.1,c,e]
  exact ⟨rfl,rfl⟩
theorem ok_chs {cs:List Nat} (h:∀ c∈cs,c < 128):okD (.list (cs.map fun c=>.str (mkT [c]))):=by
 obtain ⟨a,b⟩:=lay_chs h
 refine ⟨by rw [PyData.canLay0];exact a,?_⟩
 rw [PyData.depth,b]
 decide
theorem eqv_nilC (es:List PyData):PyData.eqv (.list es) (.list [])=es.isEmpty:=by
 cases es <;> simp [PyData.eqv,PyData.eqvAll]
theorem ok_nilC:okD (.list []):=⟨rfl,by decide⟩
theorem is_chs {H:Hp}:∀ cs:List Nat,IsAll H (cs.map fun c=>V.str (mkT [c])) (cs.map fun c=>.str (mkT [c]))
 | []=>.nil
 | c::cs=>.cons (.str _) (is_chs cs)
theorem ln21 {n:Nat} (h:n≤30000):n≤sizeLine:=Nat.le_trans h (by decide)
theorem ext_keep {H:Hp} {bb pl:Addr} {ys zs:List V} {A B:List (Int×Int)} (hb:H bb=none) (hz:H pl=some (.lst zs)) (iz:IsAll H zs (A.map prD)) (iy:IsAll H ys (B.map prD)):
  upd (upd H bb (.lst ys)) pl (.lst (zs++ys)) pl=some (.lst (zs++ys))∧IsAll (upd (upd H bb (.lst ys)) pl (.lst (zs++ys))) (zs++ys) ((A++B).map prD)∧SameT pl H (upd (upd H bb (.lst ys)) pl (.lst (zs++ys))):=by
 have f:=Same.upd (o:=.lst ys) hb
 have km:∀ (c:Addr) (xs:List V),upd H bb (.lst ys) c=some (.tup xs)→upd (upd H bb (.lst ys)) pl (.lst (zs++ys)) c=some (.tup xs):=fun c xs e=>by
  rw [upd_ne (ne_of e (f _ _ hz) (by intro z;cases z))]
  exact e
 refine ⟨upd_same,?_,fun c u e g=>by rw [upd_ne g];exact f _ _ e⟩
 rw [List.map_append]
 exact ((iz.same f).tmono km (noLs_pr _)).append ((iy.same f).tmono km (noLs_pr _))
section
variable {P:Program} {w:World} {K:PySem.W.Frag} {mg:Str→Option Value} {base:Heap} {t:Ad}
set_option genSizeOf false in
set_option genInjectivity false in
inductive sp_good (vs:List V) (H:Hp) (Q:VK) (zz3:XK):Prop where
 | mk (cs ls:_) (zh0:vs=[.str (mkT cs)]) (zh1:Txs cs ls) (zh2:∀ b H',Same H H'→(b=true↔Gd ls)→Q (.bl b) H'):sp_good vs H Q zz3
theorem ok__law_good (T:Txt K mg t):FnOk P w K mg base CX0 3 t.a__law_good t.d__law_good ["_law_text"] sp_good:=by
 refine T.F__law_good.ok sc__law_good (fun vs H Q E h=>?_) (fun cdv A outer s H vs Q E hr h=>?_)
 ·obtain ⟨cs,ls,rfl,_⟩:=h
  rfl
 ·obtain ⟨cs,ls,rfl,b,q⟩:=h
  refine ⟨_,(pss_cons (ps_set (i:=1) sc__law_good.nd rfl (Or.inl rfl) (pe_ifExp (pt_cmpR (op_neD hr.units) (pv 0) pe_str (nomark _)) (k_bm K PySem.F.plainAttrs_str PySem.F.slot_str_split PySem.F.type_str_split mt_split (pv 0) (pa_cons pe_str pa_nil)) (pe_lst pa_nil)))
   (pss_cons (ps_set (i:=2) sc__law_good.nd rfl (Or.inl rfl) (pe_lst pa_nil))
   (pss_cons (ps_for PassesOwn.never rfl (pi_range1 rfl T.n_range (pa_cons (pe_callB (k_len K) (by rfl) T.n_len bt_len (pa_cons (pv 1) pa_nil)) pa_nil)) (pg_name (i:=3) sc__law_good.nd rfl (Or.inr rfl)) (pss_cons (ps_set (i:=4) sc__law_good.nd rfl (Or.inr rfl) (pe_ix (k_ix K) (pv 1) (pv 3) (fun _ _=>rfl)))
   (pss_cons (ps_if (PW.pt (pw_or (pt_cmpR (op_neD hr.units) (pe_callB call_len_str (by rfl) T.n_len bt_len (pa_cons (pv 4) pa_nil)) (pe_op op_add (pv 3) pe_int) (nomark _)) (pw_or1 (pt_cmpR (op_neD hr.units) (pe_lc rfl ⟨True.intro,True.intro,True.intro⟩ (M:=["_law_letter"]) (.own .nil) (gk_name rfl) rfl (by decide +kernel) (pi_str (pv 4)) (fun C fp s1 H1=>⟨pg_name (i:=0) (show (["_law_letter"]:List Str).Nodup by decide +kernel) rfl (Or.inl rfl),pif_one (pt_cmpR (op_notIn_str) (pv 0) pe_str (by rfl)),(pv 0)⟩)) (pe_lst pa_nil) (nomark _))))) (pss_one (ps_ret pe_bl)) pss_nil)
   (pss_cons (ps_expr (k_bm K PySem.F.plainAttrs_list PySem.F.slot_list_extend PySem.F.type_list_extend mt_extend (pv 2) (pa_cons (pe_lc rfl ⟨True.intro,True.intro,(.inl rfl),(.inl rfl),True.intro⟩ (M:=["_law_other","_law_at","_law_word"]) (.own (.free 3 rfl rfl (.free 4 rfl rfl .nil))) (gk_name rfl) rfl (by decide +kernel) (pi_range1 rfl T.n_range (pa_cons (pe_op op_add (pv 3) pe_int) pa_nil)) (fun C fp s1 H1=>⟨pg_name (i:=0) (show (["_law_other","_law_at","_law_word"]:List Str).Nodup by decide +kernel) rfl (Or.inl rfl),pif_one (pt_cmpR (op_eqD hr.units) (pe_ix ix_str (pv 2) (pv 0) (fun _ _=>rfl)) pe_str (nomark _)),(pe_tup (pa_cons (pe_op op_add (pv 1) pe_int) (pa_cons (pv 0) pa_nil)))⟩)) pa_nil)))
   (pss_one (ps_expr (k_bm K PySem.F.plainAttrs_list PySem.F.slot_list_extend PySem.F.type_list_extend mt_extend (pv 2) (pa_cons (pe_lc rfl ⟨True.intro,True.intro,(.inl rfl),(.inl rfl),True.intro⟩ (M:=["_law_other","_law_at","_law_word"]) (.own (.free 3 rfl rfl (.free 4 rfl rfl .nil))) (gk_name rfl) rfl (by decide +kernel) (pi_range1 rfl T.n_range (pa_cons (pe_op op_add (pv 3) pe_int) pa_nil)) (fun C fp s1 H1=>⟨pg_name (i:=0) (show (["_law_other","_law_at","_law_word"]:List Str).Nodup by decide +kernel) rfl (Or.inl rfl),pif_one (pt_cmpR (op_eqD hr.units) (pe_ix ix_str (pv 2) (pv 0) (fun _ _=>rfl)) pe_str (nomark _)),(pe_tup (pa_cons (pv 0) (pa_cons (pe_op op_add (pv 1) pe_int) pa_nil)))⟩)) pa_nil))))))))
   (pss_one (ps_ret (pe_and (pe_cmpR (op_lt) (pe_callB (k_len K) (by rfl) T.n_len bt_len (pa_cons (pv 1) pa_nil)) pe_int (nomark _)) (pe_one (pe_not (pe_call (ok__law_barred T) (hr.mono (by decide)) rfl T.m__law_barred T.F__law_barred.kp T.b__law_barred .nil pass0 (pa_cons (pe_tup (pa_cons (pe_op op_add (pe_callB (k_len K) (by rfl) T.n_len bt_len (pa_cons (pv 1) pa_nil)) pe_int) (pa_cons (pe_callTy (k_tuple K) (by rfl) T.n_tuple bt_tuple (pa_cons (pe_callB (k_sorted K) (by rfl) T.n_sorted bt_sorted (pa_cons (pv 2) pa_nil)) pa_nil)) pa_nil))) pa_nil)))))))))),?_⟩
  refine seq_rest (fun σ' H'=>∃ lw,σ'=[some (.str (mkT cs)),some (.ref lw),none,none,none]∧Same H H'∧H' lw=some (.lst ((ls.map mkT).map V.str))) ?_ (fun D' hrt hnx=>?_)
  ·rintro σ' H1 ⟨lw,rfl,s1,ew⟩
   have many:=b.many
   walk_at "rd"
   refine ⟨Nat.zero_le _,fun pl hpl=>?_⟩
   have f2:=Same.upd (o:=.lst []) hpl
   have ep:upd H1 pl (.lst []) pl=some (.lst []):=upd_same
   have ew2:=f2 _ _ ew
   have s2:=s1.trans f2
   have nwp:lw≠pl:=ne_of_none ew hpl
   have npH:H pl=none:=by
    cases e:H pl with
    | none=>rfl
    | some u=>rw [s1 _ _ e] at hpl;cases hpl
   generalize upd H1 pl (.lst [])=H2 at f2 ep ew2 s2
   walk_at "rd"
   refine ⟨_,rfl,by lia,by rw [List.length_map,List.length_map];lia,?_⟩
   rw [Int.toNat_natCast,List.length_map,List.length_map]
   refine fp_range (fun i σ H'=>(∃ v3 v4,σ=[some (.str (mkT cs)),some (.ref lw),some (.ref pl),v3,v4])∧SameT pl H2 H'∧LG ls i∧∃ zs,H' pl=some (.lst zs)∧IsAll H' zs ((pL ls i).map prD)) ⟨⟨_,_,rfl⟩,SameT.refl _ _,⟨fun k h=>absurd h (Nat.not_lt_zero k),fun k h=>absurd h (Nat.not_lt_zero k)⟩,[],ep,.nil⟩ ?_ ?_
   ·rintro i σ H3 hi ⟨⟨v3,v4,rfl⟩,s3,lg,zs,hz,iz⟩
    have ew3:=s3 _ _ ew2 nwp
    obtain ⟨ks,hks⟩:∃ ks,ls[i]? =some ks:=⟨_,List.getElem?_eq_getElem hi⟩
    have eg:=gd_get hks
    obtain ⟨m1,m2⟩:=b.mem (List.mem_of_getElem? hks)
    have sH:Same H H3:=fun c u e=>s3 _ _ (s2 _ _ e) (ne_of_none e npH)
    walk_at "rd"
    refine rd_ixL ew3 (atI_of (i:=i) (by lia) (by rw [List.getElem?_map,List.getElem?_map,hks];rfl)) ?_
    walk_at "rd"
    refine ⟨_,rfl,small_ln (by rw [mkT_len];lia),?_⟩
    walk_at "rd"
    rw [mkT_len]
    refine ifB (fun h1=>?_) (fun h1=>?_)
    ·walk_at "rd"
     refine q false H3 sH ⟨fun z=>(by cases z),fun gd=>?_⟩
     have:=gd.len i hi
     rw [eg] at this
     have h1':¬((ks.length:Int)=0 + (i:Int) + 1):=by simpa using h1
     lia
    ·have hlen:ks.length=i + 1:=by
      have h1':((ks.length:Int)=0 + (i:Int) + 1):=by simpa using h1
      lia
     walk_at "rd"
     refine rd_istr ?_
     walk_at "rd"
     refine ⟨_,rfl,asc_mkT m1,?_⟩
     have sz:(mkT ks).cps.size=ks.length:=by simp [mkT]
     refine lp_str (small_ln (by rw [sz];lia)) (fun j ys H'=>H'=H3∧ys=((ks.take j).filter fun c=> !decide (Lc c)).map fun c=>V.str (mkT [c])) ⟨rfl,rfl⟩ (by
      rintro j ys H' ⟨_,rfl⟩
      rw [List.length_map]
      exact Nat.le_trans (List.length_filter_le _ _) (by rw [List.length_take];lia)) ?_ ?_
     ·rintro j ys H' hj ⟨rfl,rfl⟩
      rw [sz] at hj
      have e:=List.getElem?_eq_getElem hj
      have low:=m1 _ (List.getElem_mem hj)
      rw [chS_mkT e,List.take_add_one,e,List.filter_append,List.map_append]
      generalize ks[j]=c at e low
      have ed:(decide (c=108)||decide (c=109)||decide (c=98))=decide (Lc c):=by
       rw [Bool.eq_iff_iff,decide_eq_true_iff]
       unfold Lc
       simp [or_assoc]
      walk_at "rd"
      refine ⟨_,_,rfl,rfl,?_⟩
      rw [in_lmb c low,ed]
      walk_at "rd"
      refine ifB (fun g=>?_) (fun g=>?_)
      ·walk_at "rd"
       refine ⟨rfl,?_⟩
       show _=_++([c].filter fun c=> !decide (Lc c)).map _
       rw [filter_one,if_pos g]
       rfl
      ·walk_at "rd"
       refine ⟨rfl,?_⟩
       show _=_++([c].filter fun c=> !decide (Lc c)).map _
       rw [filter_one,if_neg (by rw [g];exact Bool.false_ne_true),List.map_nil,List.append_nil]
     ·rintro ys H' ⟨rfl,rfl⟩ r hr
      rw [sz,List.take_length]
      have hlow:∀ c∈ks.filter fun c=> !decide (Lc c),c < 128:=fun c hc=>m1 c (List.mem_filter.mp hc).1
      have f4:=Same.upd (o:=.lst ((ks.filter fun c=> !decide (Lc c)).map fun c=>V.str (mkT [c]))) hr
      have er:upd H' r (.lst ((ks.filter fun c=> !decide (Lc c)).map fun c=>V.str (mkT [c]))) r=some (.lst ((ks.filter fun c=> !decide (Lc c)).map fun c=>V.str (mkT [c]))):=upd_same
      have hz4:=f4 _ _ hz
      have iz4:=iz.same f4
      generalize upd H' r (.lst ((ks.filter fun c=> !decide (Lc c)).map fun c=>V.str (mkT [c])))=H4 at f4 er hz4 iz4
      walk_at "rd"
      refine ⟨Nat.zero_le _,fun q1 hq1=>?_⟩
      have f5:=Same.upd (o:=.lst []) hq1
      have eq1:upd H4 q1 (.lst []) q1=some (.lst []):=upd_same
      have er5:=f5 _ _ er
      have hz5:=f5 _ _ hz4
      have iz5:=iz4.same f5
      have s35:=f4.trans f5
      generalize upd H4 q1 (.lst [])=H5 at f5 eq1 er5 hz5 iz5 s35
      clear hz4 iz4 er f4 f5 hr hq1
      refine rd_eqD (neg:=true) (.lst (Rd.of er5) (is_chs _)) (.lst (Rd.of eq1) .nil) (ok_chs hlow) ok_nilC ?_
      rw [eqv_nilC]
      walk_at "rd"
      refine ifB (fun h2=>?_) (fun h2=>?_)
      ·walk_at "rd"
       refine q false H5 (sH.trans s35) ⟨fun z=>(by cases z),fun gd=>?_⟩
       have h3:=gd.lc i hi
       rw [eg] at h3
       have:(ks.filter fun c=> !decide (Lc c))=[]:=List.filter_eq_nil_iff.mpr fun c hc=>by simp [h3 c hc]
       rw [this] at h2
       cases h2
      ·have hlc:∀ c∈ks,Lc c:=fun c hc=>by
        have:(ks.filter fun c=> !decide (Lc c))=[]:=by
         have h2':((ks.filter fun c=> !decide (Lc c)).map fun c=>PyData.str (mkT [c])).isEmpty=true:=by simpa using h2
         simpa using h2'
        have:=List.filter_eq_nil_iff.mp this c hc
        simpa using this
       have hzs:zs.length≤20604:=by
        have a1:=iz.length
        rw [List.length_map] at a1
        have a2:=pL_len ls i (by lia)
        lia
       have sX:SameT pl H2 H5:=s3.trans s35.t
       have lg':LG ls (i + 1):=⟨fun k hk=>by
        by_cases e:k=i
        ·rw [e,eg];exact hlen
        ·exact lg.len k (by lia),fun k hk=>by
        by_cases e:k=i
        ·rw [e,eg];exact hlc
        ·exact lg.lc k (by lia)⟩
       have nL:okD (.str (Str.ofString "l")):=by rw [s_l];exact ok_txt fun c hc=>by rw [List.mem_singleton.mp hc];decide
       have nM:okD (.str (Str.ofString "m")):=by rw [s_m];exact ok_txt fun c hc=>by rw [List.mem_singleton.mp hc];decide
       clear iz hz s3 sH er5 eq1 s35 h2 hlow
       have hz:=hz5
       have iz:=iz5
       clear hz5 iz5
       obtain ⟨fj,hfj,efj⟩:∃ fj:Nat→Int×Int,(∀ (H:Hp) (p:Addr) (j:Nat),H p=some (.tup [V.int (0 + (i:Nat) + 1),V.int (0 + (j:Nat))])→Is H (.ref p) (prD (fj j)))∧fj=fL i:=⟨fL i,fun H p j e=>by
        refine .tup e (.cons ?_ (.cons ?_ .nil))
        ·rw [show (0:Int) + (i:Nat) + 1=((i + 1:Nat):Int) by lia]
         exact .int _
        ·rw [Int.zero_add]
         exact .int _,rfl⟩
       obtain ⟨cj,ecj,okc,ecv⟩:∃ cj,Str.ofString "l"=mkT [cj]∧okD (.str (Str.ofString "l"))∧cj=108:=⟨108,s_l,nL,rfl⟩
       walk_at "rd"
       refine ⟨tyV_lst hz,?_⟩
       walk_at "rd"
       refine ⟨_,rfl,by lia,by lia,?_⟩
       rw [show ((0:Int) + (i:Nat) + 1).toNat=i + 1 by lia]
       refine lp_range (small_ln (by lia)) (fun j ys H'=>Same H5 H'∧IsAll H' ys ((rwL fj ks cj j).map prD)) ⟨Same.refl _,.nil⟩ (by
        rintro j ys H' ⟨_,h⟩
        rw [h.length,List.length_map]
        exact rwL_len _ _ _ _) ?_ ?_
       ·rintro j ys H6 hj ⟨s8,iy⟩
        have hjk:ks[j]? =some (ks.getD j 0):=by
         rw [List.getD_eq_getElem?_getD,List.getElem?_eq_getElem (by lia)]
         rfl
        have low:ks.getD j 0 < 128:=m1 _ (List.mem_of_getElem? hjk)
        rw [rwL_succ,List.map_append]
        walk_at "rd"
        refine ⟨mkT ks,_,ks.getD j 0,rfl,rfl,small_ln (by rw [mkT_len];lia),atI_of (i:=j) (by lia) hjk,?_⟩
        walk_at "rd"
        refine rd_eqD (neg:=false) (.str (mkT [ks.getD j 0])) (.str _) (ok_txt fun c hc=>by rw [List.mem_singleton.mp hc];lia) okc ?_
        rw [ecj,eqv_T]
        walk_at "rd"
        refine ifB (fun g=>?_) (fun g=>?_)
        ·have g':ks.getD j 0=cj:=by
          have:=of_decide_eq_true g
          injection this
         walk_at "rd"
         refine ⟨two_ln,fun p hp=>?_⟩
         have e1:rwI fj ks cj j=[fj j]:=by unfold rwI;rw [if_pos g']
         rw [e1]
         refine ⟨s8.trans (Same.upd hp),(iy.same (Same.upd hp)).append (.cons ?_ .nil)⟩
         exact hfj _ _ _ upd_same
        ·have g':¬ks.getD j 0=cj:=fun z=>(of_decide_eq_false g) (by rw [z])
         have e1:rwI fj ks cj j=[]:=by unfold rwI;rw [if_neg g']
         rw [e1,List.map_nil,List.append_nil]
         walk_at "rd"
         exact ⟨s8,iy⟩
       rintro ys H6 ⟨s8,iy⟩ bb hbb
       have ly:ys.length≤i + 1:=by
        have a1:=iy.length
        rw [List.length_map] at a1
        have a2:=rwL_len fj ks cj (i + 1)
        lia
       have hz6:=s8 _ _ hz
       have iz6:=iz.same s8
       walk_at "rd"
       refine rd_extend (Same.upd (o:=.lst ys) hbb _ _ hz6) upd_same (ln21 (by lia)) ?_
       obtain ⟨k1,k2,k3⟩:=ext_keep hbb hz6 iz6 iy
       generalize upd (upd H6 bb (.lst ys)) pl (.lst (zs++ys))=H7 at k1 k2 k3
       have sX7:=(sX.trans s8.t).trans k3
       rw [efj,ecv] at k2
       have hzs7:(zs++ys).length≤20604 + (i + 1):=by rw [List.length_append];lia
       clear hz iz hz6 iz6 iy s8 k3 sX hbb hfj efj ecj okc ecv ly hzs fj cj
       generalize zs++ys=zs at k1 k2 hzs7
       have hz:=k1
       have iz:=k2
       have sX:=sX7
       clear k1 k2 sX7
       generalize H7=H5 at hz iz sX
       obtain ⟨fj,hfj,efj⟩:∃ fj:Nat→Int×Int,(∀ (H:Hp) (p:Addr) (j:Nat),H p=some (.tup [V.int (0 + (j:Nat)),V.int (0 + (i:Nat) + 1)])→Is H (.ref p) (prD (fj j)))∧fj=fM i:=⟨fM i,fun H p j e=>by
        refine .tup e (.cons ?_ (.cons ?_ .nil))
        ·rw [Int.zero_add]
         exact .int _
        ·rw [show (0:Int) + (i:Nat) + 1=((i + 1:Nat):Int) by lia]
         exact .int _,rfl⟩
       obtain ⟨cj,ecj,okc,ecv⟩:∃ cj,Str.ofString "m"=mkT [cj]∧okD (.str (Str.ofString "m"))∧cj=109:=⟨109,s_m,nM,rfl⟩
       walk_at "rd"
       refine ⟨tyV_lst hz,?_⟩
       walk_at "rd"
       refine ⟨_,rfl,by lia,by lia,?_⟩
       rw [show ((0:Int) + (i:Nat) + 1).toNat=i + 1 by lia]
       refine lp_range (small_ln (by lia)) (fun j ys H'=>Same H5 H'∧IsAll H' ys ((rwL fj ks cj j).map prD)) ⟨Same.refl _,.nil⟩ (by
        rintro j ys H' ⟨_,h⟩
        rw [h.length,List.length_map]
        exact rwL_len _ _ _ _) ?_ ?_
       ·rintro j ys H6 hj ⟨s8,iy⟩
        have hjk:ks[j]? =some (ks.getD j 0):=by
         rw [List.getD_eq_getElem?_getD,List.getElem?_eq_getElem (by lia)]
         rfl
        have low:ks.getD j 0 < 128:=m1 _ (List.mem_of_getElem? hjk)
        rw [rwL_succ,List.map_append]
        walk_at "rd"
        refine ⟨mkT ks,_,ks.getD j 0,rfl,rfl,small_ln (by rw [mkT_len];lia),atI_of (i:=j) (by lia) hjk,?_⟩
        walk_at "rd"
        refine rd_eqD (neg:=false) (.str (mkT [ks.getD j 0])) (.str _) (ok_txt fun c hc=>by rw [List.mem_singleton.mp hc];lia) okc ?_
        rw [ecj,eqv_T]
        walk_at "rd"
        refine ifB (fun g=>?_) (fun g=>?_)
        ·have g':ks.getD j 0=cj:=by
          have:=of_decide_eq_true g
          injection this
         walk_at "rd"
         refine ⟨two_ln,fun p hp=>?_⟩
         have e1:rwI fj ks cj j=[fj j]:=by unfold rwI;rw [if_pos g']
         rw [e1]
         refine ⟨s8.trans (Same.upd hp),(iy.same (Same.upd hp)).append (.cons ?_ .nil)⟩
         exact hfj _ _ _ upd_same
        ·have g':¬ks.getD j 0=cj:=fun z=>(of_decide_eq_false g) (by rw [z])
         have e1:rwI fj ks cj j=[]:=by unfold rwI;rw [if_neg g']
         rw [e1,List.map_nil,List.append_nil]
         walk_at "rd"
         exact ⟨s8,iy⟩
       rintro ys H6 ⟨s8,iy⟩ bb hbb
       have ly:ys.length≤i + 1:=by
        have a1:=iy.length
        rw [List.length_map] at a1
        have a2:=rwL_len fj ks cj (i + 1)
        lia
       have hz6:=s8 _ _ hz
       have iz6:=iz.same s8
       walk_at "rd"
       refine rd_extend (Same.upd (o:=.lst ys) hbb _ _ hz6) upd_same (ln21 (by lia)) ?_
       obtain ⟨k1,k2,k3⟩:=ext_keep hbb hz6 iz6 iy
       walk_at "rd"
       rw [efj,ecv] at k2
       refine ⟨⟨_,_,rfl⟩,(sX.trans s8.t).trans k3,lg',_,k1,?_⟩
       rw [←eg] at k2
       exact k2
   ·rintro σ H3 ⟨⟨v3,v4,rfl⟩,s3,lg,zs,hz,iz⟩
    have ew3:=s3 _ _ ew2 nwp
    have sH:Same H H3:=fun c u e=>s3 _ _ (s2 _ _ e) (ne_of_none e npH)
    walk_at "rd"
    rw [List.length_map,List.length_map]
    refine ifB (fun h1=>?_) (fun h1=>?_)
    ·have h7:ls.length≤7:=by
      have:=of_decide_eq_true h1
      lia
     walk_at "rd"
     rw [List.length_map,List.length_map]
     refine rd_sortP (.inl hz) iz (pL_nd _ _) (fun p hp=>(pL_in _ _ p hp).box (by lia)) fun l vs' ps' hl hv hp hw=>?_
     have ef:=pL_sorted h7 lg hp hw
     subst ef
     have f4:=Same.upd (o:=.lst vs') hl
     have el:upd H3 l (.lst vs') l=some (.lst vs'):=upd_same
     have hv4:=hv.same f4
     have s4:=sH.trans f4
     generalize upd H3 l (.lst vs')=H4 at f4 el hv4 s4
     walk_at "rd"
     intro r hr
     have f5:=Same.upd (o:=.tup vs') hr
     have er:upd H4 r (.tup vs') r=some (.tup vs'):=upd_same
     have hv5:=hv4.same f5
     have s5:=s4.trans f5
     generalize upd H4 r (.tup vs')=H5 at f5 er hv5 s5
     walk_at "rd"
     refine ⟨by show 2≤sizeLine;decide,fun o ho=>?_⟩
     have f6:=Same.upd (o:=.tup [V.int ((ls.length:Nat) + 1),V.ref r]) ho
     walk_at "rd"
     refine ⟨_,ls.length + 1,fo ls ls.length,rfl,?_,lg_ord _ h7,fun H6 s6=>⟨_,rfl,q _ H6 ((s5.trans f6).trans s6) ?_⟩⟩
     ·refine .tup upd_same (.cons ?_ (.cons (.tup (f6 _ _ er) (hv5.same f6)) .nil))
      rw [show ((ls.length:Nat):Int) + 1=((ls.length + 1:Nat):Int) by lia]
      exact .int _
     ·rw [gd_iff lg]
      constructor
      ·intro z
       exact ⟨h7,by simpa using z⟩
      ·rintro ⟨_,z⟩
       rw [z]
       rfl
    ·walk_at "rd"
     refine q false H3 sH ⟨fun z=>(by cases z),fun gd=>?_⟩
     have h1':=of_decide_eq_false h1
     have:=gd.le
     lia
  ·walk_at "rd"
   refine rd_eqD (.str _) (.str _) (ok_txt fun c hc=>Nat.lt_of_lt_of_le (b.low c hc) (by decide)) (by rw [s_E];exact ok_txt fun c hc=>by cases hc) ?_
   rw [s_E,eqv_T]
   walk_at "rd"
   refine ifB (fun h1=>?_) (fun h1=>?_)
   ·have h0:ls≠[]:=fun z=>by
     have:¬cs=[]:=by simpa using h1
     exact this (b.nil.mpr z)
    walk_at "rd"
    refine ⟨tyV_str,?_⟩
    walk_at "rd"
    refine rd_split (by rw [s_32];rfl) (small_ln (by rw [mkT_len];have:=b.len;lia)) fun l hl=>?_
    have esp:Txt.split (mkT cs) (mkT [32])=ls.map mkT:=by rw [b.eq,split_sp h0 b.no]
    rw [s_32,esp]
    walk_at "rd"
    exact hnx _ _ ⟨l,rfl,Same.upd hl,upd_same⟩
   ·have h0:ls=[]:=b.nil.mp (by simpa using h1)
    subst h0
    walk_at "rd"
    refine ⟨Nat.zero_le _,fun l hl=>?_⟩
    walk_at "rd"
    exact hnx _ _ ⟨l,rfl,Same.upd hl,upd_same⟩
end
end My
namespace My
open PySem L2
noncomputable def Tl1 (H:Hp) (ws:List Str) (z:V):Prop:=(∃ a,z=.ref a∧H a=some (.tup (ws.map V.str)))∧(1≤ws.length∧ws.length≤7)∧∀ v∈ws,Wd v
noncomputable def Tls (H:Hp) (zs:List V):Prop:=∀ z∈zs,∃ ws,Tl1 H ws z
theorem Tl1.keep {H H':Hp} {z:V} {ws:List Str} (h:Tl1 H ws z) (k:TK H H'):Tl1 H' ws z:=let ⟨⟨a,e,g⟩,r⟩:=h;⟨⟨a,e,k _ _ g⟩,r⟩
theorem Tls.keep {H H':Hp} {zs:List V} (h:Tls H zs) (k:TK H H'):Tls H' zs:=fun z hz=>let ⟨ws,e⟩:=h z hz;⟨ws,e.keep k⟩
theorem Tl1.is {H:Hp} {z:V} {ws:List Str} (h:Tl1 H ws z):Is H z (tupS ws):=by
 obtain ⟨⟨a,rfl,e⟩,_⟩:=h
 exact .tup e (isAll_of_str _)
theorem Tls.is {H:Hp}:∀ {zs:List V},Tls H zs→∃ wss:List (List Str),IsAll H zs (wss.map tupS)∧∀ ws∈wss,∀ v∈ws,Wd v
 | [],_=>⟨[],.nil,fun ws h=>by cases h⟩
 | z::zs,h=>by
  obtain ⟨ws,e⟩:=h z (.head _)
  obtain ⟨wss,i,g⟩:=Tls.is (zs:=zs) fun y hy=>h y (.tail _ hy)
  refine ⟨ws::wss,.cons e.is i,fun us hu=>?_⟩
  rcases List.mem_cons.mp hu with rfl | hu
  ·exact e.2.2
  ·exact g us hu
theorem lay_wds:∀ {ws:List Str},(∀ v∈ws,Wd v)→PyData.canLayAll0 (ws.map .str)=true∧PyData.depthAll (ws.map .str)=0
 | [],_=>⟨rfl,rfl⟩
 | v::ws,h=>by
  obtain ⟨c,e⟩:=lay_wds (ws:=ws) fun x hx=>h x (.tail _ hx)
  rw [List.map_cons,PyData.canLayAll0,PyData.depthAll,(ok_wd (h v (.head _))).1,c,e]
  exact ⟨rfl,rfl⟩
theorem lay_tls:∀ {wss:List (List Str)},(∀ ws∈wss,∀ v∈ws,Wd v)→PyData.canLayAll0 (wss.map tupS)=true∧PyData.depthAll (wss.map tupS)≤1
 | [],_=>⟨rfl,Nat.zero_le _⟩
 | ws::wss,h=>by
  obtain ⟨c,e⟩:=lay_tls (wss:=wss) fun x hx=>h x (.tail _ hx)
  obtain ⟨a,b⟩:=lay_wds (h ws (.head _))
  rw [List.map_cons,PyData.canLayAll0,PyData.depthAll,c]
  unfold tupS
  rw [PyData.canLay0,PyData.depth,a,b]
  exact ⟨rfl,Nat.max_le.mpr ⟨by decide,e⟩⟩
theorem ok_tls {wss:List (List Str)} (h:∀ ws∈wss,∀ v∈ws,Wd v):okD (.list (wss.map tupS)):=by
 obtain ⟨a,b⟩:=lay_tls h
 refine ⟨by rw [PyData.canLay0];exact a,?_⟩
 rw [PyData.depth]
 lia
theorem eqv_nilL (es:List PyData):PyData.eqv (.list es) (.list [])=es.isEmpty:=by
 cases es <;> simp [PyData.eqv,PyData.eqvAll]
theorem ok_nilL:okD (.list []):=⟨rfl,by decide⟩
theorem rd_neNil {H:Hp} {Q:VK} {l q:Addr} {zs:List V} (e:H l=some (.lst zs)) (h:Tls H zs) (eq:H q=some (.lst [])) (r:Q (.bl (!zs.isEmpty)) H):rEqD true (.ref l) (.ref q) H Q:=by
 obtain ⟨wss,i,g⟩:=h.is
 refine rd_eqD (.lst (Rd.of e) i) (.lst (Rd.of eq) .nil) (ok_tls g) ok_nilL ?_
 rw [eqv_nilL]
 have:(wss.map tupS).isEmpty=zs.isEmpty:=by
  have hl:=i.length
  cases zs <;> cases hw:wss.map tupS <;> simp_all
 rw [this]
 exact r
theorem cut_upto (xs:List V) {m:Nat} (h:m≤xs.length):cutV xs none (some (m:Int))=xs.take m:=by
 unfold cutV
 rw [HT.sIx_nat,HT.sIx_none,List.drop_zero]
 rw [show min m xs.length - 0=m by lia]
section
variable {P:Program} {w:World} {K:PySem.W.Frag} {mg:Str→Option Value} {base:Heap} {t:Ad}
set_option genSizeOf false in
set_option genInjectivity false in
inductive sp_said (K:PySem.W.Frag) (vs:List V) (H:Hp) (Q:VK) (zz3:XK):Prop where
 | mk (a:Addr) (ns:List Int) (tw:Addr) (ts:List V) (zh0:vs=[.ref a,.ref tw,.int 8]) (zh1:Scr K H a ns) (zh2:H tw=some (.lst ts)) (zh3:ts.length≤10) (zh4:∀ (l:Addr) (zs:List V) (ts':List V) (H':Hp),SameT tw H H'→H l=none→l≠tw→H' l=some (.lst zs)→zs.length≤7→Tls H' zs→H' tw=some (.lst ts')→ts'.length≤100→Q (.ref l) H'):sp_said K vs H Q zz3
theorem ok__law_said (T:Txt K mg t):FnOk P w K mg base CX0 5 t.a__law_said t.d__law_said ["_law_script","_law_town","_law_most"] (sp_said K):=by
 refine T.F__law_said.ok sc__law_said (fun vs H Q E h=>?_) (fun cdv A outer s H vs Q E hr h=>?_)
 ·obtain ⟨a,ns,tw,ts,rfl,_⟩:=h
  rfl
 ·obtain ⟨a,ns,tw,ts,rfl,hs,ht,hl,q⟩:=h
  refine ⟨_,(pss_cons (ps_set (i:=3) sc__law_said.nd rfl (Or.inl rfl) (pe_call (ok__law_draw T) (hr.mono (by decide)) rfl T.m__law_draw T.F__law_draw.kp T.b__law_draw .nil pass0 (pa_cons (pv 0) (pa_cons (pv 1) (pa_cons pe_int pa_nil)))))
   (pss_cons (ps_set (i:=4) sc__law_said.nd rfl (Or.inl rfl) (pe_op op_add pe_int (pe_call (ok__law_draw T) (hr.mono (by decide)) rfl T.m__law_draw T.F__law_draw.kp T.b__law_draw .nil pass0 (pa_cons (pv 0) (pa_cons (pv 1) (pa_cons pe_int pa_nil))))))
   (pss_cons (ps_set_lc (i:=5) sc__law_said.nd rfl rfl rfl rfl ⟨True.intro,True.intro,True.intro,(.inl rfl),(.inl rfl),True.intro⟩ (M:=["_law_k","_law_script","_law_town"]) (.own (.free 0 rfl rfl (.free 1 rfl rfl .nil))) (gk_name rfl) rfl (by decide +kernel) (pi_range1 rfl T.n_range (pa_cons (pe_op op_add pe_int (pe_call (ok__law_draw T) (hr.mono (by decide)) rfl T.m__law_draw T.F__law_draw.kp T.b__law_draw .nil pass0 (pa_cons (pv 0) (pa_cons (pv 1) (pa_cons (pv 2) pa_nil))))) pa_nil)) (fun C fp s1 H1=>⟨pg_name (i:=0) (show (["_law_k","_law_script","_law_town"]:List Str).Nodup by decide +kernel) rfl (Or.inl rfl),pif_nil,(pe_call (ok__law_draw T) (hr.mono (by decide)) rfl T.m__law_draw T.F__law_draw.kp T.b__law_draw .nil pass0 (pa_cons (pv 1) (pa_cons (pv 2) (pa_cons pe_int pa_nil))))⟩))
   (pss_cons (ps_set (i:=6) sc__law_said.nd rfl (Or.inl rfl) (pe_lst pa_nil))
   (pss_cons (ps_for PassesOwn.never rfl (pi_range2 rfl T.n_range (pa_cons pe_int (pa_cons (pe_callB (k_len K) (by rfl) T.n_len bt_len (pa_cons (pv 5) pa_nil)) pa_nil))) (pg_name (i:=7) sc__law_said.nd rfl (Or.inl rfl)) (pss_cons (ps_set (i:=8) sc__law_said.nd rfl (Or.inl rfl) (pe_lst pa_nil))
   (pss_cons (ps_for PassesOwn.never rfl (k_plst K (pe_slice (k_slL K) (pv 5) po_none (po_some (pv 7)))) (pg_name (i:=9) sc__law_said.nd rfl (Or.inl rfl)) (pss_cons (ps_set (i:=10) sc__law_said.nd rfl (Or.inl rfl) (pe_op op_sub (pe_ix (k_ix K) (pv 5) (pv 7) (fun _ _=>rfl)) (pv 9)))
   (pss_one (ps_expr (k_bm K PySem.F.plainAttrs_list PySem.F.slot_list_append PySem.F.type_list_append mt_append (pv 8) (pa_cons (pe_ifExp (pt_cmpR (op_le) (pv 10) (pe_op op_sub pe_int (pv 4)) (nomark _)) pe_str (pe_ifExp (pt_cmpR (op_ge) (pv 10) (pv 4) (nomark _)) pe_str pe_str)) pa_nil))))))
   (pss_one (ps_expr (k_bm K PySem.F.plainAttrs_list PySem.F.slot_list_append PySem.F.type_list_append mt_append (pv 6) (pa_cons (pe_callTy (k_tuple K) (by rfl) T.n_tuple bt_tuple (pa_cons (pv 8) pa_nil)) pa_nil)))))))
   (pss_cons (ps_if (PW.pt (pw_and (pt_cmpR (op_eqD hr.units) (pv 3) pe_int (nomark _)) (pw_and1 (pt_cmpR (op_neD hr.units) (pv 6) (pe_lst pa_nil) (nomark _))))) (pss_cons (ps_set (i:=7) sc__law_said.nd rfl (Or.inl rfl) (pe_call (ok__law_draw T) (hr.mono (by decide)) rfl T.m__law_draw T.F__law_draw.kp T.b__law_draw .nil pass0 (pa_cons (pv 0) (pa_cons (pv 1) (pa_cons (pe_callB (k_len K) (by rfl) T.n_len bt_len (pa_cons (pv 6) pa_nil)) pa_nil)))))
   (pss_cons (ps_set (i:=8) sc__law_said.nd rfl (Or.inl rfl) (pe_callTy (k_list K) (by rfl) T.n_list bt_list (pa_cons (pe_ix (k_ix K) (pv 6) (pv 7) (fun _ _=>rfl)) pa_nil)))
   (pss_cons (ps_asg (pe_call (ok__law_pick T) (hr.mono (by decide)) rfl T.m__law_pick T.F__law_pick.kp T.b__law_pick .nil pass0 (pa_cons (pv 0) (pa_cons (pv 1) (pa_cons (pe_lst (pa_cons pe_str (pa_cons pe_str (pa_cons pe_str pa_nil)))) pa_nil)))) (pg_sub (pv 8) (pe_call (ok__law_draw T) (hr.mono (by decide)) rfl T.m__law_draw T.F__law_draw.kp T.b__law_draw .nil pass0 (pa_cons (pv 0) (pa_cons (pv 1) (pa_cons (pe_callB (k_len K) (by rfl) T.n_len bt_len (pa_cons (pv 8) pa_nil)) pa_nil)))) set_list (fun _=>rfl)))
   (pss_one (ps_asg (pe_callTy (k_tuple K) (by rfl) T.n_tuple bt_tuple (pa_cons (pv 8) pa_nil)) (pg_sub (pv 6) (pv 7) set_list (fun _=>rfl))))))) pss_nil)
   (pss_one (ps_ret (pv 6))))))))),?_⟩
  walk_at "rd"
  refine ⟨a,ns,tw,ts,_,rfl,hs,ht,by lia,by decide,fun sp H1 ts1 s1 ht1 l1 a0 a1=>?_⟩
  have hs1:=hs.t ht s1
  walk_at "rd"
  refine ⟨a,ns,tw,ts1,_,rfl,hs1,ht1,by lia,by decide,fun st H2 ts2 s2 ht2 l2 b0 b1=>?_⟩
  have hs2:=hs1.t ht1 s2
  walk_at "rd"
  refine ⟨a,ns,tw,ts2,_,rfl,hs2,ht2,by lia,by decide,fun mn H3 ts3 s3 ht3 l3 c0 c1=>?_⟩
  have hs3:=hs2.t ht2 s3
  have sT:=(s1.trans s2).trans s3
  obtain ⟨m,rfl⟩:=Int.eq_ofNat_of_zero_le c0
  walk_at "rd"
  refine ⟨_,rfl,by lia,by lia,?_⟩
  rw [show ((1:Int) + (m:Nat)).toNat=m + 1 by lia]
  refine lp_range (small_ln (by lia)) (fun i us H'=>SameT tw H3 H'∧(∃ ts,H' tw=some (.lst ts)∧ts.length≤13 + i)∧∃ vals:List Int,us=vals.map V.int∧vals.length=i) ⟨SameT.refl _ _,⟨_,ht3,by lia⟩,[],rfl,rfl⟩ (by
   rintro i us H' ⟨_,_,vals,rfl,h⟩
   rw [List.length_map,h]
   exact Nat.le_refl _) ?_ ?_
  ·rintro i us H4 hi ⟨s4,⟨ts4,ht4,hl4⟩,vals,rfl,lv⟩
   walk_at "rd"
   refine ⟨a,ns,tw,ts4,_,rfl,hs3.t ht3 s4,ht4,by lia,by decide,fun r H5 ts5 s5 ht5 hl5 r0 r1=>?_⟩
   exact ⟨s4.trans s5,⟨ts5,ht5,by lia⟩,vals++[r],by rw [List.map_append];rfl,by rw [List.length_append,lv];rfl⟩
  rintro us H4 ⟨s4,⟨ts4,ht4,hl4⟩,vals,rfl,lv⟩ lvs hlvs
  have f5:=Same.upd (o:=.lst (vals.map V.int)) hlvs
  have ev:upd H4 lvs (.lst (vals.map V.int)) lvs=some (.lst (vals.map V.int)):=upd_same
  have hs5:=(hs3.t ht3 s4).same f5
  have ht5:=f5 _ _ ht4
  have sT5:=(sT.trans s4).trans f5.t
  have nvt:lvs≠tw:=Ne.symm (ne_of_none ht4 hlvs)
  generalize upd H4 lvs (.lst (vals.map V.int))=H5 at f5 ev hs5 ht5 sT5
  clear s1 s2 s3 s4 sT hs1 hs2 hs3 ht1 ht2 ht3 ht4 hlvs f5
  walk_at "rd"
  refine ⟨Nat.zero_le _,fun lm hlm=>?_⟩
  have f6:=Same.upd (o:=.lst []) hlm
  have em:upd H5 lm (.lst []) lm=some (.lst []):=upd_same
  have nmv:lm≠lvs:=Ne.symm (ne_of_none ev hlm)
  have nmt:lm≠tw:=Ne.symm (ne_of_none ht5 hlm)
  have nH:H lm=none:=by
   cases e:H lm with
   | none=>rfl
   | some u=>rw [sT5 _ _ e nmt] at hlm;cases hlm
  have hs6:=hs5.same f6
  have ht6:=f6 _ _ ht5
  have ev6:=f6 _ _ ev
  have sT6:=sT5.trans f6.t
  generalize upd H5 lm (.lst [])=H6 at f6 em hs6 ht6 ev6 sT6
  clear f6 hlm hs5 ht5 sT5 ev
  walk_at "rd"
  refine rd_rng2 ?_
  walk_at "rd"
  rw [List.length_map,lv]
  refine ⟨1,((m + 1:Nat):Int),rfl,⟨by decide,by decide,by lia,by lia⟩,?_⟩
  rw [show (((m + 1:Nat):Int) - 1).toNat=m by lia]
  refine fp_range (fun i σ H'=>(∃ v7 v8 v9 v10,σ=[some (.ref a),some (.ref tw),some (.int 8),some (.int sp),some (.int (1 + st)),some (.ref lvs),some (.ref lm),v7,v8,v9,v10])∧SameT lm H6 H'∧∃ zs,H' lm=some (.lst zs)∧zs.length=i∧Tls H' zs) ⟨⟨_,_,_,_,rfl⟩,SameT.refl _ _,[],em,rfl,fun z hz=>by cases hz⟩ ?_ ?_
  ·rintro i σ H7 hi ⟨⟨v7,v8,v9,v10,rfl⟩,s7,zs,em7,lz,tl7⟩
   have ev7:=s7 _ _ ev6 (Ne.symm nmv)
   walk_at "rd"
   refine ⟨Nat.zero_le _,fun lw hlw=>?_⟩
   have f8:=Same.upd (o:=.lst []) hlw
   have ew:upd H7 lw (.lst []) lw=some (.lst []):=upd_same
   have nwm:lw≠lm:=Ne.symm (ne_of_none em7 hlw)
   have nwv:lw≠lvs:=Ne.symm (ne_of_none ev7 hlw)
   have ev8:=f8 _ _ ev7
   have em8:=f8 _ _ em7
   generalize upd H7 lw (.lst [])=H8 at f8 ew ev8 em8
   walk_at "rd"
   refine rd_sl ?_
   walk_at "rd"
   refine rd_noP ?_
   refine rd_part ?_
   walk_at "rd"
   refine ⟨_,rfl,?_⟩
   refine ⟨lvs,_,rfl,SqL.of ev8,fun lc hlc=>?_⟩
   have ecut:cutV (vals.map V.int) none (some ((1:Int) + (i:Nat)))=(vals.take (i + 1)).map V.int:=by
    rw [show ((1:Int) + (i:Nat))=((i + 1:Nat):Int) by lia,cut_upto _ (by rw [List.length_map];lia),List.map_take]
   rw [ecut]
   have f9:=Same.upd (o:=.lst ((vals.take (i + 1)).map V.int)) hlc
   have ec:upd H8 lc (.lst ((vals.take (i + 1)).map V.int)) lc=some (.lst ((vals.take (i + 1)).map V.int)):=upd_same
   have ncw:lc≠lw:=Ne.symm (ne_of_none ew hlc)
   have ev9:=f9 _ _ ev8
   have em9:=f9 _ _ em8
   have ew9:=f9 _ _ ew
   generalize upd H8 lc (.lst ((vals.take (i + 1)).map V.int))=H9 at f9 ec ev9 em9 ew9
   refine ⟨lc,rfl,⟨_,SqL.of ec⟩,?_⟩
   refine fp_list (K:=K) (xs:=(vals.take (i + 1)).map V.int) (fun j σ H'=>(∃ v9 v10,σ=[some (.ref a),some (.ref tw),some (.int 8),some (.int sp),some (.int (1 + st)),some (.ref lvs),some (.ref lm),some (.int (1 + (i:Nat))),some (.ref lw),v9,v10])∧SameT lw H9 H'∧∃ ws:List Str,ws.length=j∧(∀ v∈ws,Wd v)∧H' lw=some (.lst (ws.map V.str))) ⟨⟨_,_,rfl⟩,SameT.refl _ _,[],rfl,fun v hv=>(by cases hv),ew9⟩ (fun j σ H' _ h=>SqL.of (h.2.1 _ _ ec ncw)) ?_ ?_
   ·rintro j v σ H10 hv ⟨⟨v9,v10,rfl⟩,s8,ws,lw',hw,e8⟩
    have hj:=(List.getElem?_eq_some_iff.mp hv).1
    rw [List.length_map,List.length_take] at hj
    rw [List.getElem?_map] at hv
    cases hv0:(vals.take (i + 1))[j]? with
    | none=>rw [hv0] at hv;cases hv
    | some o=>
    rw [hv0] at hv
    cases hv
    have ev10:=s8 _ _ ev9 (Ne.symm nwv)
    walk_at "rd"
    refine rd_ixL ev10 (atI_of (i:=i + 1) (by lia) (by rw [List.getElem?_map,List.getElem?_eq_getElem (by lia)];rfl)) ?_
    walk_at "rd"
    refine ⟨tyV_lst e8,?_⟩
    walk_at "rd"
    refine ifB (fun g=>?_) (fun g=>?_)
    ·obtain ⟨wd,ewd,hwd⟩:∃ wd:Str,wd="less"∧Wd wd:=⟨_,rfl,.inl rfl⟩
     rw [←ewd]
     walk_at "rd"
     refine rd_append e8 (small_ln (by rw [List.length_map];lia)) ?_
     walk_at "rd"
     refine ⟨⟨_,_,rfl⟩,s8.trans (fun c u e g=>by rw [upd_ne g];exact e),ws++[wd],by rw [List.length_append,lw'];rfl,fun v hv=>?_,?_⟩
     ·rcases List.mem_append.mp hv with h | h
      ·exact hw v h
      ·rw [List.mem_singleton.mp h]
       exact hwd
     ·rw [upd_same,List.map_append]
      rfl
    ·walk_at "rd"
     refine ifB (fun g=>?_) (fun g=>?_)
     ·obtain ⟨wd,ewd,hwd⟩:∃ wd:Str,wd="more"∧Wd wd:=⟨_,rfl,.inr (.inl rfl)⟩
      rw [←ewd]
      walk_at "rd"
      refine rd_append e8 (small_ln (by rw [List.length_map];lia)) ?_
      walk_at "rd"
      refine ⟨⟨_,_,rfl⟩,s8.trans (fun c u e g=>by rw [upd_ne g];exact e),ws++[wd],by rw [List.length_append,lw'];rfl,fun v hv=>?_,?_⟩
      ·rcases List.mem_append.mp hv with h | h
       ·exact hw v h
       ·rw [List.mem_singleton.mp h]
        exact hwd
      ·rw [upd_same,List.map_append]
       rfl
     ·obtain ⟨wd,ewd,hwd⟩:∃ wd:Str,wd="beside"∧Wd wd:=⟨_,rfl,.inr (.inr rfl)⟩
      rw [←ewd]
      walk_at "rd"
      refine rd_append e8 (small_ln (by rw [List.length_map];lia)) ?_
      walk_at "rd"
      refine ⟨⟨_,_,rfl⟩,s8.trans (fun c u e g=>by rw [upd_ne g];exact e),ws++[wd],by rw [List.length_append,lw'];rfl,fun v hv=>?_,?_⟩
      ·rcases List.mem_append.mp hv with h | h
       ·exact hw v h
       ·rw [List.mem_singleton.mp h]
        exact hwd
      ·rw [upd_same,List.map_append]
       rfl
   ·rintro σ H10 ⟨⟨v9,v10,rfl⟩,s8,ws,lw',hw,e8⟩
    rw [List.length_map,List.length_take] at lw'
    have em10:=s8 _ _ em9 (Ne.symm nwm)
    walk_at "rd"
    refine ⟨tyV_lst em10,?_⟩
    walk_at "rd"
    intro r hr
    have f11:=Same.upd (o:=.tup (ws.map V.str)) hr
    have er:upd H10 r (.tup (ws.map V.str)) r=some (.tup (ws.map V.str)):=upd_same
    have em11:=f11 _ _ em10
    generalize upd H10 r (.tup (ws.map V.str))=H11 at f11 er em11
    walk_at "rd"
    refine rd_append em11 (small_ln (by lia)) ?_
    walk_at "rd"
    have k1:TK H7 H11:=fun c us e=>f11 _ _ (s8 _ _ (f9 _ _ (f8 _ _ e)) (ne_of_none e hlw))
    have k2:TK H11 (upd H11 lm (.lst (zs++[V.ref r]))):=fun c us e=>by rw [upd_ne (ne_of e em11 (by intro z;cases z))];exact e
    refine ⟨⟨_,_,_,_,rfl⟩,fun c u e g=>?_,zs++[V.ref r],upd_same,by rw [List.length_append,lz];rfl,fun z hz=>?_⟩
    ·rw [upd_ne g]
     have e7:=s7 _ _ e g
     exact f11 _ _ (s8 _ _ (f9 _ _ (f8 _ _ e7)) (ne_of_none e7 hlw))
    ·rcases List.mem_append.mp hz with h | h
     ·exact (tl7.keep (k1.trans k2)) z h
     ·rw [List.mem_singleton.mp h]
      exact ⟨ws,⟨r,rfl,k2 _ _ er⟩,⟨by lia,by lia⟩,hw⟩
  ·rintro σ H7 ⟨⟨v7,v8,v9,v10,rfl⟩,s7,zs,em7,lz,tl7⟩
   have ht7:=s7 _ _ ht6 (Ne.symm nmt)
   have hs7:=hs6.t em s7
   have sTm:∀ H',(∀ c u,H7 c=some u→c≠tw→c≠lm→H' c=some u)→SameT tw H H':=fun H' h c u e g=>h _ _ (s7 _ _ (sT6 _ _ e g) (ne_of_none e nH)) g (ne_of_none e nH)
   have lz7:zs.length≤7:=by lia
   have lt7:ts4.length≤22:=by lia
   clear s7 sT6 em ev6 hs6 ht6
   walk_at "rd"
   refine ifB (fun g=>?_) (fun g=>?_)
   ·walk_at "rd"
    refine ⟨Nat.zero_le _,fun q1 hq1=>?_⟩
    have f8:=Same.upd (o:=.lst []) hq1
    have eq1:upd H7 q1 (.lst []) q1=some (.lst []):=upd_same
    have em8:=f8 _ _ em7
    have ht8:=f8 _ _ ht7
    have hs8:=hs7.same f8
    have tl8:=tl7.keep (TK.same f8)
    generalize upd H7 q1 (.lst [])=H8 at f8 eq1 em8 ht8 hs8 tl8
    walk_at "rd"
    refine rd_neNil em8 tl8 eq1 ?_
    walk_at "rd"
    refine ifB (fun g2=>?_) (fun g2=>?_)
    ·have z0:0 < zs.length:=by
      cases zs with
      | nil=>cases g2
      | cons z zs=>simp
     walk_at "rd"
     refine ⟨a,ns,tw,ts4,_,rfl,hs8,ht8,by lia,by lia,fun r H9 ts9 s9 ht9 l9 r0 r1=>?_⟩
     obtain ⟨k,rfl⟩:=Int.eq_ofNat_of_zero_le r0
     have hk:k < zs.length:=by lia
     have em9:=s9 _ _ em8 nmt
     have hs9:=hs8.t ht8 s9
     have tl9:=tl8.keep (TK.t ht8 s9)
     obtain ⟨ws,⟨c,ec,ecw⟩,⟨w1,w7⟩,hw⟩:=tl9 zs[k] (List.getElem_mem hk)
     walk_at "rd"
     refine rd_ixL em9 (atI_of (i:=k) rfl (List.getElem?_eq_getElem hk)) ?_
     rw [ec]
     walk_at "rd"
     refine rd_lstT ecw fun l2 hl2=>?_
     have f10:=Same.upd (o:=.lst (ws.map V.str)) hl2
     have e2:upd H9 l2 (.lst (ws.map V.str)) l2=some (.lst (ws.map V.str)):=upd_same
     have em10:=f10 _ _ em9
     have ht10:=f10 _ _ ht9
     have hs10:=hs9.same f10
     have tl10:=tl9.keep (TK.same f10)
     have n2m:l2≠lm:=Ne.symm (ne_of_none em9 hl2)
     have n2t:l2≠tw:=Ne.symm (ne_of_none ht9 hl2)
     have sTa:∀ c u,H7 c=some u→c≠tw→c≠lm→upd H9 l2 (.lst (ws.map V.str)) c=some u∧c≠l2:=fun c u e h1 h2=>⟨f10 _ _ (s9 _ _ (f8 _ _ e) h1),ne_of_none (s9 _ _ (f8 _ _ e) h1) hl2⟩
     generalize upd H9 l2 (.lst (ws.map V.str))=H10 at f10 e2 em10 ht10 hs10 tl10 sTa
     walk_at "rd"
     refine ⟨by show 3≤sizeLine;decide,fun q2 hq2=>?_⟩
     have f11:=Same.upd (o:=.lst [V.str "less",V.str "more",V.str "beside"]) hq2
     have eq2:upd H10 q2 (.lst [V.str "less",V.str "more",V.str "beside"]) q2=some (.lst [V.str "less",V.str "more",V.str "beside"]):=upd_same
     have ht11:=f11 _ _ ht10
     have em11:=f11 _ _ em10
     have e211:=f11 _ _ e2
     have nq:q2≠tw:=Ne.symm (ne_of_none ht10 hq2)
     generalize upd H10 q2 (.lst [V.str "less",V.str "more",V.str "beside"])=H11 at f11 eq2 ht11 em11 e211
     walk_at "rd"
     refine ⟨a,ns,tw,ts9,q2,_,rfl,hs10.same f11,ht11,by lia,eq2,nq,by decide,fun v H12 ts12 s12 ht12 l12 hv=>?_⟩
     obtain ⟨wd,rfl,hwd⟩:∃ wd:Str,v=V.str wd∧Wd wd:=by
      simp only [List.mem_cons,List.not_mem_nil,or_false] at hv
      rcases hv with rfl | rfl | rfl
      ·exact ⟨_,rfl,.inl rfl⟩
      ·exact ⟨_,rfl,.inr (.inl rfl)⟩
      ·exact ⟨_,rfl,.inr (.inr rfl)⟩
     have e212:=s12 _ _ e211 n2t
     have em12:=s12 _ _ em11 nmt
     have hs12:=(hs10.same f11).t ht11 s12
     walk_at "rd"
     refine ⟨a,ns,tw,ts12,_,rfl,hs12,ht12,by lia,by rw [List.length_map];lia,fun r2 H13 ts13 s13 ht13 l13 q0 q1'=>?_⟩
     obtain ⟨k2,rfl⟩:=Int.eq_ofNat_of_zero_le q0
     have e213:=s13 _ _ e212 n2t
     have em13:=s13 _ _ em12 nmt
     rw [List.length_map] at q1'
     walk_at "rd"
     refine rd_setL e213 rfl (by rw [List.length_map];lia) ?_
     rw [←List.map_set]
     have e14:upd H13 l2 (.lst ((ws.set k2 wd).map V.str)) l2=some (.lst ((ws.set k2 wd).map V.str)):=upd_same
     have s14:SameT l2 H13 (upd H13 l2 (.lst ((ws.set k2 wd).map V.str))):=fun c u e g=>by rw [upd_ne g];exact e
     have em14:=s14 _ _ em13 (Ne.symm n2m)
     have ht14:=s14 _ _ ht13 (Ne.symm n2t)
     have tl14:=tl10.keep ((((TK.same f11).trans (TK.t ht11 s12)).trans (TK.t ht12 s13)).trans (TK.t e213 s14))
     have sTb:∀ c u,H7 c=some u→c≠tw→c≠lm→upd H13 l2 (.lst ((ws.set k2 wd).map V.str)) c=some u:=fun c u e h1 h2=>s14 _ _ (s13 _ _ (s12 _ _ (f11 _ _ (sTa c u e h1 h2).1) h1) h1) (sTa c u e h1 h2).2
     generalize upd H13 l2 (.lst ((ws.set k2 wd).map V.str))=H14 at e14 s14 em14 ht14 tl14 sTb
     walk_at "rd"
     intro r3 hr3
     have f15:=Same.upd (o:=.tup ((ws.set k2 wd).map V.str)) hr3
     have er3:upd H14 r3 (.tup ((ws.set k2 wd).map V.str)) r3=some (.tup ((ws.set k2 wd).map V.str)):=upd_same
     have em15:=f15 _ _ em14
     have ht15:=f15 _ _ ht14
     have tl15:=tl14.keep (TK.same f15)
     generalize upd H14 r3 (.tup ((ws.set k2 wd).map V.str))=H15 at f15 er3 em15 ht15 tl15
     walk_at "rd"
     refine rd_setL em15 rfl hk ?_
     walk_at "rd"
     have kk:TK H15 (upd H15 lm (.lst (zs.set k (V.ref r3)))):=fun c us e=>by rw [upd_ne (ne_of e em15 (by intro z;cases z))];exact e
     refine q lm (zs.set k (V.ref r3)) ts13 _ (sTm _ fun c u e h1 h2=>by rw [upd_ne h2];exact f15 _ _ (sTb c u e h1 h2)) nH nmt upd_same (by rw [List.length_set];exact lz7) (fun z hz=>?_) (by rw [upd_ne (Ne.symm nmt)];exact ht15) (by lia)
     rcases List.mem_or_eq_of_mem_set hz with h | rfl
     ·exact (tl15.keep kk) z h
     ·refine ⟨ws.set k2 wd,⟨r3,rfl,kk _ _ er3⟩,⟨by rw [List.length_set];exact w1,by rw [List.length_set];exact w7⟩,fun v hv=>?_⟩
      rcases List.mem_or_eq_of_mem_set hv with h | rfl
      ·exact hw v h
      ·exact hwd
    ·walk_at "rd"
     exact q lm zs ts4 H8 (sTm _ fun c u e h1 h2=>f8 _ _ e) nH nmt em8 lz7 tl8 ht8 (by lia)
   ·walk_at "rd"
    exact q lm zs ts4 H7 (sTm _ fun c u e h1 h2=>e) nH nmt em7 lz7 tl7 ht7 (by lia)
end
end My
namespace My
open PySem L2
theorem eqv_ref (i j:Nat):PyData.eqv (refD i) (refD j)=decide (i=j):=by
 unfold refD
 rw [PyData.eqv,PyData.eqvAll,PyData.eqvAll,PyData.eqvAll,PyData.eqv,PyData.eqv]
 by_cases h:i=j
 ·subst h;simp
 ·have:¬(i:Int)=(j:Int):=by lia
  simp [h,this]
theorem ok_ref (i:Nat):okD (refD i):=⟨by
 have h:PyData.strOk (Str.ofString "refused")=true:=by decide +kernel
 simp [refD,PyData.canLay0,PyData.canLayAll0,h],Nat.le_trans (show (refD i).depth≤10 from by show 1≤10;decide) (by decide)⟩
theorem wd_at0 {v:Str} (h:Wd v):atI v.cps.toList 0=some (lC v)∧v.length≤10:=by
 rcases h with rfl | rfl | rfl
 ·decide +kernel
 ·decide +kernel
 ·decide +kernel
theorem rep_b:∀ n,n < 8→(⟨(List.replicate (n + 1) (Str.ofString "b").cps).foldl (· ++ ·) #[]⟩:Str)=mkT (List.replicate (n + 1) 98):=by
 have:∀ n:Fin 8,(⟨(List.replicate (n.val + 1) (Str.ofString "b").cps).foldl (· ++ ·) #[]⟩:Str)=mkT (List.replicate (n.val + 1) 98):=by decide +kernel
 exact fun n h=>this ⟨n,h⟩
noncomputable def longL:List (List Nat):=(List.range 8).map fun k=>List.replicate (k + 1) 98
theorem long_txs:Txs (jnC 32 longL) longL:=⟨rfl,by decide,by decide,by decide,by decide⟩
noncomputable def Bad (H:Hp) (x:V):Prop:=(∃ cs ls,x=.str (mkT cs)∧Txs cs ls∧¬Gd ls)∨∃ d,Is H x d∧isStrD d=false
theorem bad_sp {H:Hp}:Bad H (.str (Str.ofString " ")):=.inl ⟨[32],[[],[]],rfl,⟨rfl,by decide,by decide,by decide,by decide⟩,fun g=>by have:=g.len 0 (by decide);cases this⟩
theorem bad_b {H:Hp}:Bad H (.str (Str.ofString "b ")):=.inl ⟨[98,32],[[98],[]],rfl,⟨rfl,by decide,by decide,by decide,by decide⟩,fun g=>by have:=g.len 1 (by decide);cases this⟩
theorem bad_bb {H:Hp}:Bad H (.str (Str.ofString "bb")):=.inl ⟨[98,98],[[98,98]],rfl,⟨rfl,by decide,by decide,by decide,by decide⟩,fun g=>by have:=g.len 0 (by decide);cases this⟩
theorem bad_lm {H:Hp}:Bad H (.str (Str.ofString "lm")):=.inl ⟨[108,109],[[108,109]],rfl,⟨rfl,by decide,by decide,by decide,by decide⟩,fun g=>by have:=g.len 0 (by decide);cases this⟩
theorem bad_B {H:Hp}:Bad H (.str (Str.ofString "B")):=.inl ⟨[66],[[66]],rfl,⟨rfl,by decide,by decide,by decide,by decide⟩,fun g=>by rcases g.lc 0 (by decide) 66 (.head _) with h | h | h <;> cases h⟩
theorem bad_long {H:Hp}:Bad H (.str (mkT (jnC 32 longL))):=.inl ⟨_,longL,rfl,long_txs,fun g=>by have:=g.le;revert this;decide⟩
theorem Bad.ka {H:Hp} {x:V} (h:Bad H x) {Q:VK} (e:∀ v H',Same H H'→Is H' v (refD 12)→Q v H'):Ka [x] H Q:=by
 rcases h with ⟨cs,ls,rfl,tx,ng⟩ | ⟨d,i,hd⟩
 ·exact .txt cs ls rfl tx (fun g=>absurd g ng) fun _=>e
 ·exact .oth x d rfl i hd e
noncomputable def Put (x:V):Prop:=∃ cs,x=.str (mkT cs)∧cs.length≤2∧∀ c∈cs,c < 128
section
variable {P:Program} {w:World} {K:PySem.W.Frag} {mg:Str→Option Value} {base:Heap} {t:Ad}
set_option genSizeOf false in
set_option genInjectivity false in
inductive spLaw (K:PySem.W.Frag) (vs:List V) (H:Hp) (Q:VK) (zz3:XK):Prop where
 | mk (a ns:_) (zh0:vs=[.ref a]) (zh1:Scr K H a ns) (zh2:∀ H',Q (.bl true) H'):spLaw K vs H Q zz3
theorem ok_law (T:Txt K mg t) (B:GD K w.params mg "WORDS_BY_LETTER" wbl):FnOk P w K mg base CX0 12 t.a_law t.d_law ["_law_script"] (spLaw K):=by
 refine T.F_law.ok sc_law (fun vs H Q E h=>?_) (fun cdv A outer s H vs Q E hr h=>?_)
 ·obtain ⟨a,ns,rfl,_⟩:=h
  rfl
 ·obtain ⟨a,ns,rfl,hs,q⟩:=h
  refine ⟨_,(pss_cons (ps_set (i:=1) sc_law.nd rfl (Or.inl rfl) (pe_lst pa_nil))
   (pss_cons (ps_set (i:=2) sc_law.nd rfl (Or.inl rfl) (pe_call (ok__law_draw T) (hr.mono (by decide)) rfl T.m__law_draw T.F__law_draw.kp T.b__law_draw .nil pass0 (pa_cons (pv 0) (pa_cons (pv 1) (pa_cons pe_int pa_nil)))))
   (pss_cons (ps_set (i:=3) sc_law.nd rfl (Or.inl rfl) (pe_call (ok__law_said T) (hr.mono (by decide)) rfl T.m__law_said T.F__law_said.kp T.b__law_said .nil pass0 (pa_cons (pv 0) (pa_cons (pv 1) (pa_cons pe_int pa_nil)))))
   (pss_cons (ps_set (i:=4) sc_law.nd rfl (Or.inl rfl) (k_bm K PySem.F.plainAttrs_str PySem.F.slot_str_join PySem.F.type_str_join (k_join K) pe_str (pa_cons (pe_lc rfl ⟨True.intro,True.intro,True.intro⟩ (M:=["_law_telling"]) (.own .nil) (gk_name rfl) rfl (by decide +kernel) (k_plst K (pv 3)) (fun C fp s1 H1=>⟨pg_name (i:=0) (show (["_law_telling"]:List Str).Nodup by decide +kernel) rfl (Or.inl rfl),pif_nil,(k_bm K PySem.F.plainAttrs_str PySem.F.slot_str_join PySem.F.type_str_join (k_join K) pe_str (pa_cons (pe_lc rfl ⟨True.intro,True.intro,True.intro⟩ (M:=["_law_word"]) (.own .nil) (gk_name rfl) rfl (by decide +kernel) (k_ptup K (pv 0)) (fun C fp s1 H1=>⟨pg_name (i:=0) (show (["_law_word"]:List Str).Nodup by decide +kernel) rfl (Or.inl rfl),pif_nil,(pe_ix ix_str (pv 0) pe_int (fun _ _=>rfl))⟩)) pa_nil))⟩)) pa_nil)))
   (pss_cons (ps_for PassesOwn.never rfl (pi_range1 rfl T.n_range (pa_cons (pv 2) pa_nil)) (pg_name (i:=5) sc_law.nd rfl (Or.inl rfl)) (pss_cons (ps_set (i:=6) sc_law.nd rfl (Or.inl rfl) (pe_call (ok__law_draw T) (hr.mono (by decide)) rfl T.m__law_draw T.F__law_draw.kp T.b__law_draw .nil pass0 (pa_cons (pv 0) (pa_cons (pv 1) (pa_cons (pe_op op_add (pe_callB call_len_str (by rfl) T.n_len bt_len (pa_cons (pv 4) pa_nil)) pe_int) pa_nil)))))
   (pss_cons (ps_set (i:=7) sc_law.nd rfl (Or.inl rfl) (pe_call (ok__law_pick T) (hr.mono (by decide)) rfl T.m__law_pick T.F__law_pick.kp T.b__law_pick .nil pass0 (pa_cons (pv 0) (pa_cons (pv 1) (pa_cons (pe_lst (pa_cons pe_str (pa_cons pe_str (pa_cons pe_str (pa_cons pe_str (pa_cons pe_str (pa_cons pe_str (pa_cons pe_str pa_nil)))))))) pa_nil)))))
   (pss_one (ps_set (i:=4) sc_law.nd rfl (Or.inl rfl) (pe_op op_add_str (pe_op op_add_str (pe_slice sl_str (pv 4) po_none (po_some (pv 6))) (pv 7)) (pe_slice sl_str (pv 4) (po_some (pe_op op_add (pv 6) (pe_call (ok__law_draw T) (hr.mono (by decide)) rfl T.m__law_draw T.F__law_draw.kp T.b__law_draw .nil pass0 (pa_cons (pv 0) (pa_cons (pv 1) (pa_cons pe_int pa_nil)))))) po_none)))))))
   (pss_cons (ps_set (i:=8) sc_law.nd rfl (Or.inl rfl) (k_bm K PySem.F.plainAttrs_str PySem.F.slot_str_join PySem.F.type_str_join (k_join K) pe_str (pa_cons (pe_lc rfl ⟨True.intro,True.intro,True.intro⟩ (M:=["_law_k"]) (.own .nil) (gk_name rfl) rfl (by decide +kernel) (pi_range2 rfl T.n_range (pa_cons pe_int (pa_cons pe_int pa_nil))) (fun C fp s1 H1=>⟨pg_name (i:=0) (show (["_law_k"]:List Str).Nodup by decide +kernel) rfl (Or.inl rfl),pif_nil,(pe_op op_repS pe_str (pv 0))⟩)) pa_nil)))
   (pss_cons (ps_set (i:=9) sc_law.nd rfl (Or.inl rfl) (pe_call (ok__law_pick T) (hr.mono (by decide)) rfl T.m__law_pick T.F__law_pick.kp T.b__law_pick .nil pass0 (pa_cons (pv 0) (pa_cons (pv 1) (pa_cons (pe_lst (pa_cons pe_non (pa_cons pe_int (pa_cons (pe_tup (pa_cons pe_str pa_nil)) (pa_cons pe_str (pa_cons pe_str (pa_cons pe_str (pa_cons pe_str (pa_cons pe_str (pa_cons (pv 8) pa_nil)))))))))) pa_nil)))))
   (pss_one (ps_ret (pe_and (pe_cmpR (op_eqD hr.units) (pe_call (ok__law_ask T B) (hr.mono (by decide)) rfl T.m__law_ask T.F__law_ask.kp T.b__law_ask .nil pass0 (pa_cons (pv 9) pa_nil)) (pe_tup (pa_cons pe_str (pa_cons pe_int pa_nil))) (nomark _)) (pe_one (pe_cmpR (op_eqD hr.units) (pe_call (ok__law_ask T B) (hr.mono (by decide)) rfl T.m__law_ask T.F__law_ask.kp T.b__law_ask .nil pass0 (pa_cons (pv 4) pa_nil)) (pe_ifExp (pt_val (pe_call (ok__law_good T) (hr.mono (by decide)) rfl T.m__law_good T.F__law_good.kp T.b__law_good .nil pass0 (pa_cons (pv 4) pa_nil))) (pv 4) (pe_tup (pa_cons pe_str (pa_cons pe_int pa_nil)))) (nomark _))))))))))))),?_⟩
  walk_at "rd"
  refine ⟨Nat.zero_le _,fun tw htw=>?_⟩
  have hs0:=hs.same (Same.upd (o:=.lst []) htw)
  have ht0:upd H tw (.lst []) tw=some (.lst []):=upd_same
  generalize upd H tw (.lst [])=H0 at hs0 ht0
  clear htw hs
  walk_at "rd"
  refine ⟨a,ns,tw,_,_,rfl,hs0,ht0,by decide,by decide,fun wy H1 ts1 s1 ht1 l1 a0 a1=>?_⟩
  have hs1:=hs0.t ht0 s1
  clear hs0 ht0 s1
  walk_at "rd"
  refine ⟨a,ns,tw,ts1,rfl,hs1,ht1,by simp at l1;lia,fun l3 zs ts2 H2 s2 _ _ e3 lz tl ht2 l2=>?_⟩
  have hs2:=hs1.t ht1 s2
  clear hs1 ht1 s2
  walk_at "rd"
  refine ⟨tyV_str,?_⟩
  walk_at "rd"
  refine ⟨l3,rfl,⟨_,SqL.of e3⟩,?_⟩
  refine lp_list (K:=K) (xs:=zs) (small_ln (by lia)) (fun i ys H'=>Same H2 H'∧∃ lss:List (List Nat),ys=(lss.map mkT).map V.str∧lss.length=i∧∀ l∈lss,l.length≤7∧∀ c∈l,Lc c) ⟨Same.refl _,[],rfl,rfl,fun l h=>by cases h⟩ (by
   rintro i ys H' ⟨_,lss,rfl,h,_⟩
   simp
   lia) (fun i ys H' _ h=>SqL.of (h.1 _ _ e3)) ?_ ?_
  ·rintro i u ys H7 hu ⟨s7,lss,rfl,li,hl⟩
   obtain ⟨ws,tlu⟩:=tl u (List.mem_of_getElem? hu)
   obtain ⟨⟨c,rfl,ecu⟩,⟨_,w7⟩,hw⟩:=tlu.keep (TK.same s7)
   walk_at "rd"
   refine ⟨tyV_str,?_⟩
   walk_at "rd"
   refine ⟨c,rfl,⟨_,SqT.of ecu⟩,?_⟩
   refine lp_tup (K:=K) (xs:=ws.map V.str) (small_ln (by rw [List.length_map];lia)) (fun j zs H'=>H'=H7∧zs=((ws.take j).map fun v=>mkT [lC v]).map V.str) ⟨rfl,rfl⟩ (by rintro j zs H' ⟨_,rfl⟩;simp;lia) (fun j zs H' _ h=>by rw [h.1];exact SqT.of ecu) ?_ ?_
   ·rintro j v zs H8 hv ⟨rfl,rfl⟩
    rw [List.getElem?_map] at hv
    cases hc0:ws[j]? with
    | none=>rw [hc0] at hv;cases hv
    | some c0=>
    rw [hc0] at hv
    cases hv
    obtain ⟨e0,e1⟩:=wd_at0 (hw c0 (List.mem_of_getElem? hc0))
    walk_at "rd"
    refine ⟨c0,0,lC c0,rfl,rfl,small_ln (by lia),e0,rfl,?_⟩
    rw [List.take_add_one,hc0,List.map_append,List.map_append]
    rfl
   ·rintro zs H8 ⟨rfl,rfl⟩ r hr
    rw [List.length_map,List.take_length]
    have e1:ws.map (fun v=>mkT [lC v])=(ws.map fun v=>[lC v]).map mkT:=by rw [List.map_map];rfl
    have f8:=Same.upd (o:=.lst ((ws.map fun v=>mkT [lC v]).map V.str)) hr
    walk_at "rd"
    refine rd_join (ss:=ws.map fun v=>mkT [lC v]) upd_same ?_ ?_
    ·rw [s_0,e1]
     refine join_ok _ (by simp;lia) fun l hl=>?_
     obtain ⟨j,_,rfl⟩:=List.mem_map.mp hl
     show 1≤100
     decide
    ·have ej:Txt.join Str.empty (ws.map fun v=>mkT [lC v])=mkT (ws.map lC):=by
      rw [e1,join_nil,flat_one (f:=lC)]
     rw [s_0,ej]
     refine ⟨s7.trans f8,lss++[ws.map lC],by rw [List.map_append,List.map_append];rfl,by rw [List.length_append,li];rfl,fun l h=>?_⟩
     rcases List.mem_append.mp h with h | h
     ·exact hl l h
     ·rw [List.mem_singleton.mp h]
      refine ⟨by rw [List.length_map];exact w7,fun c hc=>?_⟩
      obtain ⟨v,_,rfl⟩:=List.mem_map.mp hc
      exact lC_lc v
  ·rintro ys H7 ⟨s7,lss,rfl,li,hl⟩ r hr
   have f8:=Same.upd (o:=.lst ((lss.map mkT).map V.str)) hr
   have er:upd H7 r (.lst ((lss.map mkT).map V.str)) r=some (.lst ((lss.map mkT).map V.str)):=upd_same
   have hs8:=(hs2.same s7).same f8
   have ht8:=f8 _ _ (s7 _ _ ht2)
   generalize upd H7 r (.lst ((lss.map mkT).map V.str))=H8 at f8 er hs8 ht8
   walk_at "rd"
   refine rd_join (ss:=lss.map mkT) er ?_ ?_
   ·rw [s_32]
    exact join_okC _ _ (by lia) fun l h=>by have:=(hl l h).1;lia
   rw [s_32,join_sp]
   obtain ⟨cs,hcs,hlen,hlow⟩:∃ cs,cs=jnC 32 lss∧cs.length≤56∧∀ c∈cs,c < 128:=by
    refine ⟨_,rfl,?_,fun c hc=>?_⟩
    ·have h1:=jnC_len 32 (k:=7) (ls:=lss) fun l h=>(hl l h).1
     have h2:lss.length * 8≤7 * 8:=Nat.mul_le_mul_right 8 (by lia)
     lia
    ·rcases mem_jnC hc with rfl | ⟨l,h1,h2⟩
     ·decide
     ·rcases (hl l h1).2 c h2 with rfl | rfl | rfl <;> decide
   rw [←hcs]
   clear hcs er f8 hr hl li s7 hs2 ht2 tl e3 lz
   walk_at "rd"
   refine ⟨_,rfl,by lia,by lia,?_⟩
   obtain ⟨tm,rfl⟩:=Int.eq_ofNat_of_zero_le a0
   rw [Int.toNat_natCast]
   refine fp_range (fun i σ H'=>(∃ ks v5 v6 v7,σ=[some (.ref a),some (.ref tw),some (.int tm),some (.ref l3),some (.str (mkT ks)),v5,v6,v7,none,none]∧ks.length≤56 + 2 * i∧∀ c∈ks,c < 128)∧Scr K H' a ns∧∃ ts,H' tw=some (.lst ts)∧ts.length≤100 + 3 * i) ⟨⟨cs,_,_,_,rfl,by lia,hlow⟩,hs8,_,ht8,by lia⟩ ?_ ?_
   ·rintro i σ H9 hi ⟨⟨ks,v5,v6,v7,rfl,hk,hlo⟩,hs9,ts9,ht9,l9⟩
    have hi3:i < 2:=by lia
    walk_at "rd"
    refine ⟨_,rfl,small_ln (by rw [mkT_len];lia),?_⟩
    rw [mkT_len]
    walk_at "rd"
    refine ⟨a,ns,tw,ts9,_,rfl,hs9,ht9,by lia,by lia,fun at_ H10 ts10 s10 ht10 l10 r0 r1=>?_⟩
    have hs10:=hs9.t ht9 s10
    obtain ⟨aN,rfl⟩:=Int.eq_ofNat_of_zero_le r0
    clear hs9 ht9 s10
    walk_at "rd"
    refine ⟨by show 7≤sizeLine;decide,fun lq hlq=>?_⟩
    have hput:∀ v∈[V.str (Str.ofString ""),V.str (Str.ofString "l"),V.str (Str.ofString "m"),V.str (Str.ofString "b"),V.str (mkT [32]),V.str (Str.ofString "x"),V.str (Str.ofString "  ")],Put v:=by
     intro v hv
     simp only [List.mem_cons,List.not_mem_nil,or_false] at hv
     rcases hv with rfl | rfl | rfl | rfl | rfl | rfl | rfl
     ·exact ⟨[],rfl,by decide,by decide⟩
     ·exact ⟨[108],rfl,by decide,by decide⟩
     ·exact ⟨[109],rfl,by decide,by decide⟩
     ·exact ⟨[98],rfl,by decide,by decide⟩
     ·exact ⟨[32],rfl,by decide,by decide⟩
     ·exact ⟨[120],rfl,by decide,by decide⟩
     ·exact ⟨[32,32],rfl,by decide,by decide⟩
    have hx0:0 < ([V.str (Str.ofString ""),V.str (Str.ofString "l"),V.str (Str.ofString "m"),V.str (Str.ofString "b"),V.str (mkT [32]),V.str (Str.ofString "x"),V.str (Str.ofString "  ")]:List V).length:=by show 0 < 7;decide
    generalize [V.str (Str.ofString ""),V.str (Str.ofString "l"),V.str (Str.ofString "m"),V.str (Str.ofString "b"),V.str (mkT [32]),V.str (Str.ofString "x"),V.str (Str.ofString "  ")]=xq at hput hx0
    have f11:=Same.upd (o:=.lst xq) hlq
    have eq:upd H10 lq (.lst xq) lq=some (.lst xq):=upd_same
    have hs11:=hs10.same f11
    have ht11:=f11 _ _ ht10
    have nqt:lq≠tw:=Ne.symm (ne_of_none ht10 hlq)
    generalize upd H10 lq (.lst xq)=H11 at f11 eq hs11 ht11
    clear f11 hs10 ht10 hlq
    walk_at "rd"
    refine ⟨a,ns,tw,ts10,lq,xq,rfl,hs11,ht11,by lia,eq,nqt,hx0,fun v H12 ts12 s12 ht12 l12 hv=>?_⟩
    obtain ⟨pc,rfl,lpc,hpc⟩:=hput v hv
    have hs12:=hs11.t ht11 s12
    clear hs11 ht11 s12 hput hv eq hx0
    walk_at "rd"
    refine rd_sl ?_
    walk_at "rd"
    refine rd_noP ?_
    refine rd_part ?_
    walk_at "rd"
    refine ⟨_,rfl,?_⟩
    refine rd_slS (small_ln (by rw [mkT_len];lia)) ?_
    rw [slice_to (by lia)]
    walk_at "rd"
    refine ⟨_,_,rfl,rfl,small_ln (by rw [mkT_len,mkT_len,List.length_take];lia),?_⟩
    rw [mkT_app]
    walk_at "rd"
    refine rd_sl ?_
    walk_at "rd"
    refine rd_part ?_
    walk_at "rd"
    refine ⟨a,ns,tw,ts12,_,rfl,hs12,ht12,by lia,by decide,fun d H13 ts13 s13 ht13 l13 d0 d1=>?_⟩
    have hs13:=hs12.t ht12 s13
    obtain ⟨dN,rfl⟩:=Int.eq_ofNat_of_zero_le d0
    walk_at "rd"
    refine ⟨((aN + dN:Nat):Int),by rw [show ((aN + dN:Nat):Int)=(aN:Int) + (dN:Int) by lia],?_⟩
    refine rd_noP ?_
    refine rd_slS (small_ln (by rw [mkT_len];lia)) ?_
    rw [slice_from]
    refine ⟨_,_,rfl,rfl,small_ln (by rw [mkT_len,mkT_len,List.length_append,List.length_take,List.length_drop];lia),?_⟩
    rw [mkT_app]
    walk_at "rd"
    refine ⟨⟨_,_,_,_,rfl,?_,fun c hc=>?_⟩,hs13,ts13,ht13,by lia⟩
    ·rw [List.length_append,List.length_append,List.length_take,List.length_drop]
     lia
    ·rcases List.mem_append.mp hc with h | h
     ·rcases List.mem_append.mp h with h | h
      ·exact hlo c (List.mem_of_mem_take h)
      ·exact hpc c h
     ·exact hlo c (List.mem_of_mem_drop h)
   ·rintro σ H9 ⟨⟨ks,v5,v6,v7,rfl,hk,hlo⟩,hs9,ts9,ht9,l9⟩
    walk_at "rd"
    refine ⟨tyV_str,?_⟩
    walk_at "rd"
    refine rd_rng2 ?_
    walk_at "rd"
    refine ⟨1,9,rfl,⟨by decide,by decide,by decide,by decide⟩,?_⟩
    rw [show ((9:Int) - 1).toNat=8 by decide]
    refine lp_range (small_ln (by decide)) (fun i ys H'=>H'=H9∧ys=(((List.range i).map fun k=>List.replicate (k + 1) 98).map mkT).map V.str) ⟨rfl,rfl⟩ (by rintro i ys H' ⟨_,rfl⟩;simp) ?_ ?_
    ·rintro i ys H' hi ⟨rfl,rfl⟩
     walk_at "rd"
     refine ⟨_,i,rfl,by rw [show ((i + 1:Nat):Int)=1 + (i:Int) by lia],by lia,by decide +kernel,rfl,?_⟩
     rw [rep_b i hi,List.range_succ,List.map_append,List.map_append,List.map_append]
     rfl
    ·rintro ys H' ⟨rfl,rfl⟩ r hr
     have f10:=Same.upd (o:=.lst ((longL.map mkT).map V.str)) hr
     have er:upd H' r (.lst ((longL.map mkT).map V.str)) r=some (.lst ((longL.map mkT).map V.str)):=upd_same
     have hs10:=hs9.same f10
     have ht10:=f10 _ _ ht9
     rw [show ((List.range 8).map fun k=>List.replicate (k + 1) 98)=longL from rfl]
     generalize upd H' r (.lst ((longL.map mkT).map V.str))=H10 at f10 er hs10 ht10
     walk_at "rd"
     refine rd_join (ss:=longL.map mkT) er ?_ ?_
     ·exact join_okC _ _ (by decide) (by decide)
     rw [join_sp]
     clear er f10 hs9 ht9 hr
     walk_at "rd"
     refine ⟨by show 1≤sizeLine;decide,fun lb hlb=>?_⟩
     have f11:=Same.upd (o:=.tup [V.str (Str.ofString "b")]) hlb
     have eb:upd H10 lb (.tup [V.str (Str.ofString "b")]) lb=some (.tup [V.str (Str.ofString "b")]):=upd_same
     have hs11:=hs10.same f11
     have ht11:=f11 _ _ ht10
     generalize upd H10 lb (.tup [V.str (Str.ofString "b")])=H11 at f11 eb hs11 ht11
     clear f11 hs10 ht10 hlb
     walk_at "rd"
     refine ⟨by show 9≤sizeLine;decide,fun lq hlq=>?_⟩
     have hbad:∀ H',H' lb=some (.tup [V.str (Str.ofString "b")])→∀ v∈[V.non,V.int 5,V.ref lb,V.str (mkT [32]),V.str (Str.ofString "b "),V.str (Str.ofString "bb"),V.str (Str.ofString "lm"),V.str (Str.ofString "B"),V.str (mkT (jnC 32 longL))],Bad H' v:=by
      intro H' e v hv
      simp only [List.mem_cons,List.not_mem_nil,or_false] at hv
      rcases hv with rfl | rfl | rfl | rfl | rfl | rfl | rfl | rfl | rfl
      ·exact .inr ⟨_,.non,rfl⟩
      ·exact .inr ⟨_,.int 5,rfl⟩
      ·exact .inr ⟨_,.tup e (.cons (.str _) .nil),rfl⟩
      ·exact bad_sp
      ·exact bad_b
      ·exact bad_bb
      ·exact bad_lm
      ·exact bad_B
      ·exact bad_long
     have hx0:0 < ([V.non,V.int 5,V.ref lb,V.str (mkT [32]),V.str (Str.ofString "b "),V.str (Str.ofString "bb"),V.str (Str.ofString "lm"),V.str (Str.ofString "B"),V.str (mkT (jnC 32 longL))]:List V).length:=by show 0 < 9;decide
     generalize [V.non,V.int 5,V.ref lb,V.str (mkT [32]),V.str (Str.ofString "b "),V.str (Str.ofString "bb"),V.str (Str.ofString "lm"),V.str (Str.ofString "B"),V.str (mkT (jnC 32 longL))]=xq at hbad hx0
     have f12:=Same.upd (o:=.lst xq) hlq
     have eq:upd H11 lq (.lst xq) lq=some (.lst xq):=upd_same
     have hs12:=hs11.same f12
     have ht12:=f12 _ _ ht11
     have eb12:=f12 _ _ eb
     have nqt:lq≠tw:=Ne.symm (ne_of_none ht11 hlq)
     generalize upd H11 lq (.lst xq)=H12 at f12 eq hs12 ht12 eb12
     clear f12 hs11 ht11 hlq eb
     walk_at "rd"
     refine ⟨a,ns,tw,ts9,lq,xq,rfl,hs12,ht12,by lia,eq,nqt,hx0,fun v H13 ts13 s13 ht13 l13 hv=>?_⟩
     have hbd:=hbad H13 (s13 _ _ eb12 (ne_of eb12 ht12 (by intro z;cases z))) v hv
     obtain ⟨ls,tx⟩:=txs_ex hlo (by lia)
     clear hbad hv eq s13 eb12 ht12 hs12 hx0
     walk_at "rd"
     refine hbd.ka fun v1 H14 s14 iv=>?_
     walk_at "rd"
     refine ⟨by show 2≤sizeLine;decide,fun lr hlr=>?_⟩
     have f15:=Same.upd (o:=.tup [V.str (Str.ofString "refused"),V.int 12]) hlr
     walk_at "rd"
     refine rd_eqD (d:=refD 12) (e:=refD 12) (iv.same f15) (.tup upd_same (.cons (.str _) (.cons (.int _) .nil))) (ok_ref 12) (ok_ref 12) ?_
     rw [eqv_ref,decide_eq_true rfl]
     generalize upd H14 lr (.tup [V.str (Str.ofString "refused"),V.int 12])=H15
     walk_at "rd"
     refine ifT rfl ?_
     walk_at "rd"
     refine .txt ks ls rfl tx (fun gd H16 s16=>?_) (fun ng v2 H16 s16 iv2=>?_)
     ·walk_at "rd"
      refine ⟨ks,ls,rfl,tx,fun b H17 s17 hb=>?_⟩
      have hb1:b=true:=hb.mpr gd
      subst hb1
      walk_at "rd"
      refine rd_eqD (.str _) (.str _) (ok_txt fun c hc=>Nat.lt_of_lt_of_le (hlo c hc) (by decide)) (ok_txt fun c hc=>Nat.lt_of_lt_of_le (hlo c hc) (by decide)) ?_
      rw [eqv_T,decide_eq_true rfl]
      exact q _
     ·walk_at "rd"
      refine ⟨ks,ls,rfl,tx,fun b H17 s17 hb=>?_⟩
      have hb1:b=false:=by
       cases b with
       | false=>rfl
       | true=>exact absurd (hb.mp rfl) ng
      subst hb1
      walk_at "rd"
      refine ⟨by show 2≤sizeLine;decide,fun l2 hl2=>?_⟩
      have f18:=Same.upd (o:=.tup [V.str (Str.ofString "refused"),V.int 12]) hl2
      walk_at "rd"
      refine rd_eqD (d:=refD 12) (e:=refD 12) ((iv2.same s17).same f18) (.tup upd_same (.cons (.str _) (.cons (.int _) .nil))) (ok_ref 12) (ok_ref 12) ?_
      rw [eqv_ref,decide_eq_true rfl]
      exact q _
end
end My
namespace My
open PySem L2
theorem of0 {P:List Value→Prop} (h:P []) (us:List Value) (e:us.length=0):P us:=by
 cases us with
 | nil=>exact h
 | cons a us=>cases e
theorem of1 {P:List Value→Prop} (h:∀ a,P [a]) (us:List Value) (e:us.length=1):P us:=by
 cases us with
 | nil=>cases e
 | cons a us=>exact of0 (P:=fun us=>P (a::us)) (h a) us (Nat.succ.inj e)
theorem of2 {P:List Value→Prop} (h:∀ a b,P [a,b]) (us:List Value) (e:us.length=2):P us:=by
 cases us with
 | nil=>cases e
 | cons a us=>exact of1 (P:=fun us=>P (a::us)) (h a) us (Nat.succ.inj e)
theorem of3 {P:List Value→Prop} (h:∀ a b c,P [a,b,c]) (us:List Value) (e:us.length=3):P us:=by
 cases us with
 | nil=>cases e
 | cons a us=>exact of2 (P:=fun us=>P (a::us)) (h a) us (Nat.succ.inj e)
theorem of4 {P:List Value→Prop} (h:∀ a b c d,P [a,b,c,d]) (us:List Value) (e:us.length=4):P us:=by
 cases us with
 | nil=>cases e
 | cons a us=>exact of3 (P:=fun us=>P (a::us)) (h a) us (Nat.succ.inj e)
theorem of5 {P:List Value→Prop} (h:∀ a b c d f,P [a,b,c,d,f]) (us:List Value) (e:us.length=5):P us:=by
 cases us with
 | nil=>cases e
 | cons a us=>exact of4 (P:=fun us=>P (a::us)) (h a) us (Nat.succ.inj e)
theorem mkF {K:PySem.W.Frag} {h:Heap} {mg:Str→Option Value} (X:K.In h) (G:h.Ns mainGlobals mg) {f:Str} {st:Stmt} {ps:List Str} {a:Addr} {od an:Option Addr} {sl:Array (Option Value)} {oc kV dc pm cd ct:Value}
  (hb:∀ (kV doc pm:Value) (an:Option Addr) (cdv ct:Value) (us:List Value),us.length=ps.length→bindArgs (PySem.W.fnOf f f (defArgs st) (defBody st) (defScope st) .none kV doc pm an cdv ct) ⟨us,[]⟩=pure (ps.zip us))
  (e:PySem.W.nsIn K mainGlobals f=some (some (.ref a))) (l:K.lookup a=some ⟨oc,od,.func (PySem.W.fnOf f f (defArgs st) (defBody st) (defScope st) .none kV dc pm an cd ct),sl⟩) (c:PySem.W.codeIn K cd f=true) (k:PySem.W.keepIn K (.ref a)=true):
  ∃ a d,mg f=some (.ref a)∧Fun K f f st a d∧Binds K d ps []:=by
 have F:=fun_mk (st:=st) l c k
 exact ⟨a,_,PySem.W.mg_of X G e,F,F.binds hb⟩
theorem mkE {K:PySem.W.Frag} {C:Addr} {f g:Str} {st:Stmt} {ps:List Str} {a:Addr} {od an:Option Addr} {sl:Array (Option Value)} {oc kV dc pm cd ct:Value}
  (hb:∀ (kV doc pm:Value) (an:Option Addr) (cdv ct:Value) (us:List Value),us.length=ps.length→bindArgs (PySem.W.fnOf f g (defArgs st) (defBody st) (defScope st) .none kV doc pm an cdv ct) ⟨us,[]⟩=pure (ps.zip us))
  (e:PySem.W.findIn K (.ref C) f=some (some (.ref a))) (i:PySem.W.isFn K (.ref a)=true) (l:K.lookup a=some ⟨oc,od,.func (PySem.W.fnOf f g (defArgs st) (defBody st) (defScope st) .none kV dc pm an cd ct),sl⟩) (c:PySem.W.codeIn K cd g=true) (k:PySem.W.keepIn K (.ref a)=true):
  ∃ a d,Fun K f g st a d∧Binds K d ps []∧Meth K C f a:=by
 have F:=fun_mk (st:=st) l c k
 exact ⟨a,_,F,F.binds hb,e,i,k⟩
theorem mkI {K:PySem.W.Frag} {C:Addr} {g:Str} {st:Stmt} {ps:List Str} {a:Addr} {od an:Option Addr} {sl:Array (Option Value)} {oc kV dc pm cd ct:Value}
  (hb:∀ (kV doc pm:Value) (an:Option Addr) (cdv ct:Value) (us:List Value),us.length=ps.length→bindArgs (PySem.W.fnOf "__init__" g (defArgs st) (defBody st) (defScope st) .none kV doc pm an cdv ct) ⟨us,[]⟩=pure (ps.zip us))
  (e:PySem.W.findIn K (.ref C) "__init__"=some (some (.ref a))) (i:PySem.W.isFn K (.ref a)=true) (l:K.lookup a=some ⟨oc,od,.func (PySem.W.fnOf "__init__" g (defArgs st) (defBody st) (defScope st) .none kV dc pm an cd ct),sl⟩) (c:PySem.W.codeIn K cd g=true) (k:PySem.W.keepIn K (.ref a)=true)
  (mk:PySem.W.makesIn K C=true) (kc:PySem.W.keepIn K (.ref C)=true):
  ∃ a d,Fun K "__init__" g st a d∧Binds K d ps []∧Mk K C a:=by
 have F:=fun_mk (st:=st) l c k
 exact ⟨a,_,F,F.binds hb,mk,e,i,kc⟩
theorem mkN {K:PySem.W.Frag} {h:Heap} {mg:Str→Option Value} (X:K.In h) (G:h.Ns mainGlobals mg) {f:Str} (e:PySem.W.nsIn K mainGlobals f=some none):mg f=none:=PySem.W.mg_none_of X G e
theorem mkM {K:PySem.W.Frag} {h:Heap} {mg:Str→Option Value} (X:K.In h) (G:h.Ns mainGlobals mg) {f:Str} {C:Addr} (e:PySem.W.nsIn K mainGlobals f=some (some (.ref C))):mg f=some (.ref C):=PySem.W.mg_of X G e
theorem mkC {K:PySem.W.Frag} {h:Heap} {mg:Str→Option Value} (X:K.In h) (G:h.Ns mainGlobals mg) {f:Str} {n:Int} {tk:Tok} (e:PySem.W.nsIn K mainGlobals f=some (some (.int n tk))):∃ tk,mg f=some (.int n tk):=⟨tk,PySem.W.mg_of X G e⟩
theorem mkS {K:PySem.W.Frag} {h:Heap} {mg:Str→Option Value} (X:K.In h) (G:h.Ns mainGlobals mg) {f z:Str} {tk:Tok} (e:PySem.W.nsIn K mainGlobals f=some (some (.str z tk))):∃ tk,mg f=some (.str z tk):=⟨tk,PySem.W.mg_of X G e⟩
theorem mkT {K:PySem.W.Frag} {h:Heap} {mg:Str→Option Value} (X:K.In h) (G:h.Ns mainGlobals mg) {f:Str} {c:Addr} {od:Option Addr} {n:Nat} {its:Array Value} {sl:Array (Option Value)} {xs:List V} (e:PySem.W.nsIn K mainGlobals f=some (some (.ref c))) (l:K.lookup c=some ⟨.type "tuple",od,.seq its n,sl⟩) (z:its.size≤sizeLine) (v:Vals xs its.toList):
  ∃ c,mg f=some (.ref c)∧∀ H:Hp,SqT K H c xs:=⟨c,PySem.W.mg_of X G e,fun H=>.inr ⟨_,its,n,l,rfl,rfl,z,v⟩⟩
theorem mkG {K:PySem.W.Frag} {Pr:Params} {h:Heap} {mg:Str→Option Value} (X:K.In h) (G:h.Ns mainGlobals mg) {f:Str} {c:Addr} {es:List DictEntry} {n:Nat} {kl:List (Str×Str)} (e:PySem.W.nsIn K mainGlobals f=some (some (.ref c))) (l:K.lookup c=some ⟨.type "dict",none,.dict es.toArray n,#[]⟩) (m:(c==sysModules)=false) (k:PySem.W.KeysLit Pr es)
  (v:Paired (fun (p:Str×Str) (e:DictEntry)=>(∃ t,e.key=.str p.1 t)∧∃ t,e.val=.str p.2 t) kl es):GD K Pr mg f kl:=⟨c,es,n,PySem.W.mg_of X G e,m,l,k,v⟩
theorem law_binds {K:PySem.W.Frag} {a:Addr} {fd:FuncData} (F:Fun K "law" "law" s_law a fd) (s:Shared) (v:Value):BindsTo s fd ⟨[v],[]⟩ [("_law_script",v)]:=by
 obtain ⟨oc,od,kV,doc,pm,an,cdv,ct,osl,rfl,lk,hcd⟩:=F.ex
 exact .of_eq rfl
theorem walk {l:PySem.W.OpenLaw} {q:Program} {loose:List Str} {XP:(Str→Option Value)→Heap→Prop} {YP:World→Heap→Prop} {d:DefRec} {K:Params→PySem.W.Frag} (hn:l.most=some 63) (hdf:d.params.defaults=[])
  (hY:∀ (w:World) (h:Heap),YP w h→(K w.params).In h)
  (F:∀ (w:World) (mg:Str→Option Value) (fa:Addr) (h:Heap),(K w.params).In h→h.Ns mainGlobals mg→mg d.name=some (.ref fa)→
   ∃ fd:FuncData,(∀ (s:Shared) (u:Value),BindsTo s fd ⟨[u],[]⟩ [("_law_script",u)])∧∀ base:Heap,(K w.params).In base→base.Ns mainGlobals mg→FnOk l.prog w (K w.params) mg base CX0 12 fa fd ["_law_script"] (spLaw (K w.params))):
  PySem.W.WalkO q loose XP YP l.row.toRowW d [] (fun f vs=>PySem.call f vs):=
 L2.walk_of (n:=63) (k:=12) (x:="_law_script") (CX:=fun _=>CX0) (sp:=fun w=>spLaw (K w.params)) hn (by decide) hdf ⟨rfl,by decide,by decide⟩ hY F (fun _ _ a ns _ hO hS=>⟨a,ns,rfl,Scr.of hO hS,fun _=>rfl⟩) fun _ _ _ _ _ z=>z
noncomputable abbrev TSP (K:PySem.W.Frag) (mg:Str→Option Value):Prop:=(∃ a d,mg "is_whole"=some (PySem.Value.ref a)∧L2.Fun K "is_whole" "is_whole" My.s_is_whole a d∧L2.Binds K d ["value","low","high"] [])∧(∃ a d,mg "is_thing"=some (PySem.Value.ref a)∧L2.Fun K "is_thing" "is_thing" My.s_is_thing a d∧L2.Binds K d ["value","many"] [])∧(∃ a d,mg "is_pair"=some (PySem.Value.ref a)∧L2.Fun K "is_pair" "is_pair" My.s_is_pair a d∧L2.Binds K d ["value","many"] [])∧(∃ a d,mg "is_rising"=some (PySem.Value.ref a)∧L2.Fun K "is_rising" "is_rising" My.s_is_rising a d∧L2.Binds K d ["pairs"] [])∧(∃ a d,mg "is_order"=some (PySem.Value.ref a)∧L2.Fun K "is_order" "is_order" My.s_is_order a d∧L2.Binds K d ["value"] [])∧(∃ a d,mg "is_telling"=some (PySem.Value.ref a)∧L2.Fun K "is_telling" "is_telling" My.s_is_telling a d∧L2.Binds K d ["value","many"] [])∧(∃ a d,mg "need_order"=some (PySem.Value.ref a)∧L2.Fun K "need_order" "need_order" My.s_need_order a d∧L2.Binds K d ["value"] [])∧(∃ a d,mg "need_telling"=some (PySem.Value.ref a)∧L2.Fun K "need_telling" "need_telling" My.s_need_telling a d∧L2.Binds K d ["value","many"] [])∧(∃ a d,mg "bars_as_two"=some (PySem.Value.ref a)∧L2.Fun K "bars_as_two" "bars_as_two" My.s_bars_as_two a d∧L2.Binds K d ["pairs","a","b","c","d"] [])∧(∃ a d,mg "bars_as_three"=some (PySem.Value.ref a)∧L2.Fun K "bars_as_three" "bars_as_three" My.s_bars_as_three a d∧L2.Binds K d ["pairs","a","b","c","d"] [])∧(∃ a d,mg "first_two"=some (PySem.Value.ref a)∧L2.Fun K "first_two" "first_two" My.s_first_two a d∧L2.Binds K d ["pairs"] [])∧(∃ a d,mg "first_three"=some (PySem.Value.ref a)∧L2.Fun K "first_three" "first_three" My.s_first_three a d∧L2.Binds K d ["many","pairs"] [])∧(∃ a d,mg "bar"=some (PySem.Value.ref a)∧L2.Fun K "bar" "bar" My.s_bar a d∧L2.Binds K d ["order"] [])∧(∃ a d,mg "need_unbarred"=some (PySem.Value.ref a)∧L2.Fun K "need_unbarred" "need_unbarred" My.s_need_unbarred a d∧L2.Binds K d ["order"] [])∧(∃ a d,mg "with_newest"=some (PySem.Value.ref a)∧L2.Fun K "with_newest" "with_newest" My.s_with_newest a d∧L2.Binds K d ["order","telling"] [])∧(∃ a d,mg "need_text"=some (PySem.Value.ref a)∧L2.Fun K "need_text" "need_text" My.s_need_text a d∧L2.Binds K d ["value"] [])∧(∃ a d,mg "letter_for"=some (PySem.Value.ref a)∧L2.Fun K "letter_for" "letter_for" My.s_letter_for a d∧L2.Binds K d ["pairs","newest","thing"] [])∧(∃ a d,mg "letters_for"=some (PySem.Value.ref a)∧L2.Fun K "letters_for" "letters_for" My.s_letters_for a d∧L2.Binds K d ["order","newest"] [])∧(∃ a d,mg "keeper_text"=some (PySem.Value.ref a)∧L2.Fun K "keeper_text" "keeper_text" My.s_keeper_text a d∧L2.Binds K d ["keeper"] [])∧(∃ a d,mg "telling_in"=some (PySem.Value.ref a)∧L2.Fun K "telling_in" "telling_in" My.s_telling_in a d∧L2.Binds K d ["letters"] [])∧(∃ a d,mg "let_come"=some (PySem.Value.ref a)∧L2.Fun K "let_come" "let_come" My.s_let_come a d∧L2.Binds K d ["keeper","letters"] [])∧(∃ a d,mg "keeper_of"=some (PySem.Value.ref a)∧L2.Fun K "keeper_of" "keeper_of" My.s_keeper_of a d∧L2.Binds K d ["text"] [])∧(∃ a d,mg "_law_cell_at"=some (PySem.Value.ref a)∧L2.Fun K "_law_cell_at" "_law_cell_at" My.s__law_cell_at a d∧L2.Binds K d ["_law_script","_law_k"] [])∧(∃ a d,mg "_law_mixed"=some (PySem.Value.ref a)∧L2.Fun K "_law_mixed" "_law_mixed" My.s__law_mixed a d∧L2.Binds K d ["_law_script","_law_k","_law_many"] [])∧(∃ a d,mg "_law_draw"=some (PySem.Value.ref a)∧L2.Fun K "_law_draw" "_law_draw" My.s__law_draw a d∧L2.Binds K d ["_law_script","_law_town","_law_many"] [])∧(∃ a d,mg "_law_pick"=some (PySem.Value.ref a)∧L2.Fun K "_law_pick" "_law_pick" My.s__law_pick a d∧L2.Binds K d ["_law_script","_law_town","_law_some"] [])∧(∃ a d,mg "_law_which"=some (PySem.Value.ref a)∧L2.Fun K "_law_which" "_law_which" My.s__law_which a d∧L2.Binds K d ["_law_e"] [])∧(∃ a d,mg "_law_said"=some (PySem.Value.ref a)∧L2.Fun K "_law_said" "_law_said" My.s__law_said a d∧L2.Binds K d ["_law_script","_law_town","_law_most"] [])∧(∃ a d,mg "_law_barred"=some (PySem.Value.ref a)∧L2.Fun K "_law_barred" "_law_barred" My.s__law_barred a d∧L2.Binds K d ["_law_order"] [])∧(∃ a d,mg "_law_ask"=some (PySem.Value.ref a)∧L2.Fun K "_law_ask" "_law_ask" My.s__law_ask a d∧L2.Binds K d ["_law_text"] [])∧(∃ a d,mg "_law_good"=some (PySem.Value.ref a)∧L2.Fun K "_law_good" "_law_good" My.s__law_good a d∧L2.Binds K d ["_law_text"] [])∧(∃ a d,mg "law"=some (PySem.Value.ref a)∧L2.Fun K "law" "law" My.s_law a d∧L2.Binds K d ["_law_script"] [])∧(∃ c,mg "Keeper"=some (PySem.Value.ref c)∧L2.Cls K c∧L2.NoAttr K c "kept"∧(∃ a d,L2.Fun K "__init__" "Keeper.__init__" My.s_Keeper_init a d∧L2.Binds K d ["self"] []∧L2.Mk K c a)∧(∃ a d,L2.Fun K "order" "Keeper.order" My.s_Keeper_order a d∧L2.Binds K d ["self"] []∧L2.Meth K c "order" a)∧(∃ a d,L2.Fun K "come" "Keeper.come" My.s_Keeper_come a d∧L2.Binds K d ["self","telling"] []∧L2.Meth K c "come" a))∧(mg "ValueError"=none)∧(mg "all"=none)∧(mg "bool"=none)∧(mg "enumerate"=none)∧(mg "int"=none)∧(mg "isinstance"=none)∧(mg "len"=none)∧(mg "list"=none)∧(mg "range"=none)∧(mg "sorted"=none)∧(mg "str"=none)∧(mg "tuple"=none)∧(∃ c_Barred c_Full c_NoCount c_NoNames c_NoNumbers c_NoOrder c_NoRow c_NoSeveral c_NoStep c_NoTelling c_NoText c_NoThing c_Nothing c_OrderError:PySem.Addr,My.XF K mg c_Barred c_Full c_NoCount c_NoNames c_NoNumbers c_NoOrder c_NoRow c_NoSeveral c_NoStep c_NoTelling c_NoText c_NoThing c_Nothing c_OrderError)∧(∃ tk,mg "MOST_THINGS"=some (PySem.Value.int 8 tk))∧(∃ c:PySem.Addr,mg "TELLING_WORDS"=some (PySem.Value.ref c)∧∀ H:L2.Hp,L2.SqT K H c [L2.V.str "less",L2.V.str "more",L2.V.str "beside"])
theorem txt_of {K:PySem.W.Frag} {mg:Str→Option Value} (TS:TSP K mg):∃ t:Ad,Txt K mg t:=by
 obtain ⟨⟨a0,d0,m0,F0,b0⟩,⟨a1,d1,m1,F1,b1⟩,⟨a2,d2,m2,F2,b2⟩,⟨a3,d3,m3,F3,b3⟩,⟨a4,d4,m4,F4,b4⟩,⟨a5,d5,m5,F5,b5⟩,⟨a6,d6,m6,F6,b6⟩,⟨a7,d7,m7,F7,b7⟩,⟨a8,d8,m8,F8,b8⟩,⟨a9,d9,m9,F9,b9⟩,⟨a10,d10,m10,F10,b10⟩,⟨a11,d11,m11,F11,b11⟩,⟨a12,d12,m12,F12,b12⟩,⟨a13,d13,m13,F13,b13⟩,⟨a14,d14,m14,F14,b14⟩,⟨a15,d15,m15,F15,b15⟩,⟨a16,d16,m16,F16,b16⟩,⟨a17,d17,m17,F17,b17⟩,⟨a18,d18,m18,F18,b18⟩,⟨a19,d19,m19,F19,b19⟩,⟨a20,d20,m20,F20,b20⟩,⟨a21,d21,m21,F21,b21⟩,⟨a22,d22,m22,F22,b22⟩,⟨a23,d23,m23,F23,b23⟩,⟨a24,d24,m24,F24,b24⟩,⟨a25,d25,m25,F25,b25⟩,⟨a26,d26,m26,F26,b26⟩,⟨a27,d27,m27,F27,b27⟩,⟨a28,d28,m28,F28,b28⟩,⟨a29,d29,m29,F29,b29⟩,⟨a30,d30,m30,F30,b30⟩,⟨a31,d31,m31,F31,b31⟩,⟨kC_Keeper,kG_Keeper,kL_Keeper,kN_Keeper_kept,⟨ka_Keeper_init,kd_Keeper_init,kF_Keeper_init,kb_Keeper_init,kM_Keeper_init⟩,⟨ka_Keeper_order,kd_Keeper_order,kF_Keeper_order,kb_Keeper_order,kM_Keeper_order⟩,⟨ka_Keeper_come,kd_Keeper_come,kF_Keeper_come,kb_Keeper_come,kM_Keeper_come⟩⟩,N0,N1,N2,N3,N4,N5,N6,N7,N8,N9,N10,N11,⟨c_Barred,c_Full,c_NoCount,c_NoNames,c_NoNumbers,c_NoOrder,c_NoRow,c_NoSeveral,c_NoStep,c_NoTelling,c_NoText,c_NoThing,c_Nothing,c_OrderError,X⟩,C0,⟨w0,W0,V0⟩⟩:=TS
 exact ⟨⟨a0,d0,a1,d1,a2,d2,a3,d3,a4,d4,a5,d5,a6,d6,a7,d7,a8,d8,a9,d9,a10,d10,a11,d11,a12,d12,a13,d13,a14,d14,ka_Keeper_init,kd_Keeper_init,ka_Keeper_order,kd_Keeper_order,ka_Keeper_come,kd_Keeper_come,a15,d15,a16,d16,a17,d17,a18,d18,a19,d19,a20,d20,a21,d21,a22,d22,a23,d23,a24,d24,a25,d25,a26,d26,a27,d27,a28,d28,a29,d29,a30,d30,a31,d31,c_Barred,c_Full,c_NoCount,c_NoNames,c_NoNumbers,c_NoOrder,c_NoRow,c_NoSeveral,c_NoStep,c_NoTelling,c_NoText,c_NoThing,c_Nothing,c_OrderError,w0,kC_Keeper⟩,⟨m0,F0,b0,m1,F1,b1,m2,F2,b2,m3,F3,b3,m4,F4,b4,m5,F5,b5,m6,F6,b6,m7,F7,b7,m8,F8,b8,m9,F9,b9,m10,F10,b10,m11,F11,b11,m12,F12,b12,m13,F13,b13,m14,F14,b14,kF_Keeper_init,kb_Keeper_init,kM_Keeper_init,kF_Keeper_order,kb_Keeper_order,kM_Keeper_order,kF_Keeper_come,kb_Keeper_come,kM_Keeper_come,m15,F15,b15,m16,F16,b16,m17,F17,b17,m18,F18,b18,m19,F19,b19,m20,F20,b20,m21,F21,b21,m22,F22,b22,m23,F23,b23,m24,F24,b24,m25,F25,b25,m26,F26,b26,m27,F27,b27,m28,F28,b28,m29,F29,b29,m30,F30,b30,m31,F31,b31,kG_Keeper,kL_Keeper,kN_Keeper_kept,N0,N1,N2,N3,N4,N5,N6,N7,N8,N9,N10,N11,X.g_Barred,X.Z_Barred,X.v_Barred,X.x_Barred,X.q_Barred_Full,X.q_Barred_NoCount,X.q_Barred_NoNames,X.q_Barred_NoNumbers,X.q_Barred_NoOrder,X.q_Barred_NoRow,X.q_Barred_NoSeveral,X.q_Barred_NoStep,X.q_Barred_NoTelling,X.q_Barred_NoText,X.q_Barred_NoThing,X.q_Barred_Nothing,X.g_Full,X.Z_Full,X.v_Full,X.x_Full,X.q_Full_Barred,X.q_Full_NoCount,X.q_Full_NoNames,X.q_Full_NoNumbers,X.q_Full_NoOrder,X.q_Full_NoRow,X.q_Full_NoSeveral,X.q_Full_NoStep,X.q_Full_NoTelling,X.q_Full_NoText,X.q_Full_NoThing,X.q_Full_Nothing,X.g_NoCount,X.g_NoNames,X.g_NoNumbers,X.g_NoOrder,X.g_NoRow,X.g_NoSeveral,X.g_NoStep,X.g_NoTelling,X.Z_NoTelling,X.v_NoTelling,X.x_NoTelling,X.q_NoTelling_Barred,X.q_NoTelling_Full,X.q_NoTelling_NoCount,X.q_NoTelling_NoNames,X.q_NoTelling_NoNumbers,X.q_NoTelling_NoOrder,X.q_NoTelling_NoRow,X.q_NoTelling_NoSeveral,X.q_NoTelling_NoStep,X.q_NoTelling_NoText,X.q_NoTelling_NoThing,X.q_NoTelling_Nothing,X.g_NoText,X.Z_NoText,X.v_NoText,X.x_NoText,X.q_NoText_Barred,X.q_NoText_Full,X.q_NoText_NoCount,X.q_NoText_NoNames,X.q_NoText_NoNumbers,X.q_NoText_NoOrder,X.q_NoText_NoRow,X.q_NoText_NoSeveral,X.q_NoText_NoStep,X.q_NoText_NoTelling,X.q_NoText_NoThing,X.q_NoText_Nothing,X.g_NoThing,X.g_Nothing,X.g_OrderError,C0,W0,V0⟩⟩
end My
open PySem PySem.W PyProof.Rows
def PySem.W.Fast.tw17977418407652067890:Nat:=0
def PySem.W.Fast.tw14236114225132583925:Nat:=0
def PySem.W.Fast.tw6226015913682392990:Nat:=0
def PySem.W.Fast.tw7667878821112733906:Nat:=0
def PySem.W.Fast.tw9963853204424732135:Nat:=0
def PySem.W.Fast.tw16377118744689060880:Nat:=0
def PySem.W.Fast.tw13188625500799870466:Nat:=0
def PySem.W.Fast.tw3065203626177253423:Nat:=0
def PySem.W.Fast.tw8147048433684259513:Nat:=0
def PySem.W.Fast.tw5734333520012148337:Nat:=0
def PySem.W.Fast.tw7031214785451815229:Nat:=0
def PySem.W.Fast.tw15531684312254959158:Nat:=0
def PySem.W.Fast.tw14535629557253562532:Nat:=0
def PySem.W.Fast.tw15983753942623354421:Nat:=0
def PySem.W.Fast.tw11571543578654154841:Nat:=0
def PySem.W.Fast.tw18075504994665649561:Nat:=0
def PySem.W.Fast.tw11429120902799014721:Nat:=0
def PySem.W.Fast.tw15977611333899712468:Nat:=0
def PySem.W.Fast.tw11507923264226459620:Nat:=0
def PySem.W.Fast.tw4202739471248508347:Nat:=0
def PySem.W.Fast.tw7532508719940183951:Nat:=0
def PySem.W.Fast.tw3172182145928960516:Nat:=0
def PySem.W.Fast.tw14088115667562825972:Nat:=0
def PySem.W.Fast.tw8788787406764527495:Nat:=0
def PySem.W.Fast.tw6299188664066384022:Nat:=0
def PySem.W.Fast.tw2632307364595699488:Nat:=0
def PySem.W.Fast.tw399679699932971657:Nat:=0
def PySem.W.Fast.tw7618948059538825274:Nat:=0
def PySem.W.Fast.tw12525546699271509200:Nat:=0
def PySem.W.Fast.tw13761635324984696799:Nat:=0
def PySem.W.Fast.tw7435688514107189117:Nat:=0
def PySem.W.Fast.tw7910319888036445058:Nat:=0
def PySem.W.Fast.tw12925422928932343557:Nat:=0
def PySem.W.Fast.tw2718843733160025213:Nat:=0
def PySem.W.Fast.tw12095861172844816236:Nat:=0
def PySem.W.Fast.tw5763292897235997244:Nat:=0
def PySem.W.Fast.tw7430332205342994284:Nat:=0
def PySem.W.Fast.tw4476618524910477500:Nat:=0
def PySem.W.Fast.tw4974805743867157827:Nat:=0
def PySem.W.Fast.tw527857075962041923:Nat:=0
def PySem.W.Fast.tw5673413977470552063:Nat:=0
def PySem.W.Fast.tw15223999017219377388:Nat:=0
def PySem.W.Fast.tw10654920890175158049:Nat:=0
def PySem.W.Fast.tw5453708353339156473:Nat:=0
def PySem.W.Fast.tw7517443375485436095:Nat:=0
def PySem.W.Fast.tw13378071618882724143:Nat:=0
def PySem.W.Fast.tw15404641410758358447:Nat:=0
def PySem.W.Fast.tw15910169150797350071:Nat:=0
def PySem.W.Fast.tw9705350217771001715:Nat:=0
def PySem.W.Fast.tw1196027491719243786:Nat:=0
def PySem.W.Fast.tw8601386896058302031:Nat:=0
def PySem.W.Fast.tw17093612886557130343:Nat:=0
def PySem.W.Fast.tw5228332489725625691:Nat:=0
def PySem.W.Fast.tw15292052917241200757:Nat:=0
def PySem.W.Fast.tw16563001497255227699:Nat:=0
def PySem.W.Fast.tw661043272931992941:Nat:=0
def PySem.W.Fast.tw17154698928985945028:Nat:=0
def PySem.W.Fast.tw10102016984927257754:Nat:=0
def PySem.W.Fast.tw6206750052774679781:Nat:=0
def PySem.W.Fast.tw8211897745329826158:Nat:=0
def PySem.W.Fast.tw2434666144537980977:Nat:=0
def PySem.W.Fast.tw9510856427606359668:Nat:=0
def PySem.W.Fast.tw17815931500103792700:Nat:=0
def PySem.W.Fast.tw7532773605509670240:Nat:=0
def PySem.W.Fast.tw5086014725984026265:Nat:=0
def PySem.W.Fast.tw1054466507732169213:Nat:=0
def PySem.W.Fast.tw952705743550785963:Nat:=0
def PySem.W.Fast.tw11090536998162512094:Nat:=0
def PySem.W.Fast.tw5709394297151410514:Nat:=0
def PySem.W.Fast.tw14974012480411642688:Nat:=0
def PySem.W.Fast.tw2808798605895554606:Nat:=0
def PySem.W.Fast.tw288128156433105954:Nat:=0
def PySem.W.Fast.tw12047651402498574123:Nat:=0
def PySem.W.Fast.tw18195189053095806992:Nat:=0
def PySem.W.Fast.tw2088227959070260696:Nat:=0
def PySem.W.Fast.tw8672115851932713847:Nat:=0
def PySem.W.Fast.tw5334949173545449179:Nat:=0
def PySem.W.Fast.tw12976606294057353652:Nat:=0
def PySem.W.Fast.tw1009903968082921914:Nat:=0
def PySem.W.Fast.tw15213951367207733236:Nat:=0
def PySem.W.Fast.tw15864667559395097599:Nat:=0
def PySem.W.Fast.tw15707004339182508985:Nat:=0
def PySem.W.Fast.tw3483217349117155465:Nat:=0
def PySem.W.Fast.tw1248675708048203178:Nat:=0
def PySem.W.Fast.tw12902807736388879733:Nat:=0
set_option maxRecDepth 100000 in
set_option maxHeartbeats 0 in
theorem PySem.Challenge.cw_noticed_k38_keepers_texts_refused_holds : PySem.Challenge.rw_noticed_k38_keepers_texts_refused.Holds := by
 w_on;o_law;k_head;(case hw=>w_witness2)
 k_fill
 refine My.walk (l:=PySem.Challenge.rw_noticed_k38_keepers_texts_refused) rfl rfl (fun w h Y=>PySem.W.kIn_of Y) ?F
 case F=>
  intro w mg fa h KX G hmg
  have TS:My.TSP (L2.KOf KX) mg:=by
   refine' ⟨?t0,?t1,?t2,?t3,?t4,?t5,?t6,?t7,?t8,?t9,?t10,?t11,?t12,?t13,?t14,?t15,?t16,?t17,?t18,?t19,?t20,?t21,?t22,?t23,?t24,?t25,?t26,?t27,?t28,?t29,?t30,?t31,?t32,?t33,?t34,?t35,?t36,?t37,?t38,?t39,?t40,?t41,?t42,?t43,?t44,?t45,?t46,?t47⟩
   case t0=>
    dsimp only [L2.KOf]
    refine' My.mkF KX G ?hb ?e ?l ?c ?k
    (case hb=>exact fun _ _ _ _ _ _=>My.of3 (fun _ _ _=>rfl))
    (case e=>k_is);(case l=>k_is);(case c=>k_is);(case k=>k_is)
   case t1=>
    dsimp only [L2.KOf]
    refine' My.mkF KX G ?hb ?e ?l ?c ?k
    (case hb=>exact fun _ _ _ _ _ _=>My.of2 (fun _ _=>rfl))
    (case e=>k_is);(case l=>k_is);(case c=>k_is);(case k=>k_is)
   case t2=>
    dsimp only [L2.KOf]
    refine' My.mkF KX G ?hb ?e ?l ?c ?k
    (case hb=>exact fun _ _ _ _ _ _=>My.of2 (fun _ _=>rfl))
    (case e=>k_is);(case l=>k_is);(case c=>k_is);(case k=>k_is)
   case t3=>
    dsimp only [L2.KOf]
    refine' My.mkF KX G ?hb ?e ?l ?c ?k
    (case hb=>exact fun _ _ _ _ _ _=>My.of1 (fun _=>rfl))
    (case e=>k_is);(case l=>k_is);(case c=>k_is);(case k=>k_is)
   case t4=>
    dsimp only [L2.KOf]
    refine' My.mkF KX G ?hb ?e ?l ?c ?k
    (case hb=>exact fun _ _ _ _ _ _=>My.of1 (fun _=>rfl))
    (case e=>k_is);(case l=>k_is);(case c=>k_is);(case k=>k_is)
   case t5=>
    dsimp only [L2.KOf]
    refine' My.mkF KX G ?hb ?e ?l ?c ?k
    (case hb=>exact fun _ _ _ _ _ _=>My.of2 (fun _ _=>rfl))
    (case e=>k_is);(case l=>k_is);(case c=>k_is);(case k=>k_is)
   case t6=>
    dsimp only [L2.KOf]
    refine' My.mkF KX G ?hb ?e ?l ?c ?k
    (case hb=>exact fun _ _ _ _ _ _=>My.of1 (fun _=>rfl))
    (case e=>k_is);(case l=>k_is);(case c=>k_is);(case k=>k_is)
   case t7=>
    dsimp only [L2.KOf]
    refine' My.mkF KX G ?hb ?e ?l ?c ?k
    (case hb=>exact fun _ _ _ _ _ _=>My.of2 (fun _ _=>rfl))
    (case e=>k_is);(case l=>k_is);(case c=>k_is);(case k=>k_is)
   case t8=>
    dsimp only [L2.KOf]
    refine' My.mkF KX G ?hb ?e ?l ?c ?k
    (case hb=>exact fun _ _ _ _ _ _=>My.of5 (fun _ _ _ _ _=>rfl))
    (case e=>k_is);(case l=>k_is);(case c=>k_is);(case k=>k_is)
   case t9=>
    dsimp only [L2.KOf]
    refine' My.mkF KX G ?hb ?e ?l ?c ?k
    (case hb=>exact fun _ _ _ _ _ _=>My.of5 (fun _ _ _ _ _=>rfl))
    (case e=>k_is);(case l=>k_is);(case c=>k_is);(case k=>k_is)
   case t10=>
    dsimp only [L2.KOf]
    refine' My.mkF KX G ?hb ?e ?l ?c ?k
    (case hb=>exact fun _ _ _ _ _ _=>My.of1 (fun _=>rfl))
    (case e=>k_is);(case l=>k_is);(case c=>k_is);(case k=>k_is)
   case t11=>
    dsimp only [L2.KOf]
    refine' My.mkF KX G ?hb ?e ?l ?c ?k
    (case hb=>exact fun _ _ _ _ _ _=>My.of2 (fun _ _=>rfl))
    (case e=>k_is);(case l=>k_is);(case c=>k_is);(case k=>k_is)
   case t12=>
    dsimp only [L2.KOf]
    refine' My.mkF KX G ?hb ?e ?l ?c ?k
    (case hb=>exact fun _ _ _ _ _ _=>My.of1 (fun _=>rfl))
    (case e=>k_is);(case l=>k_is);(case c=>k_is);(case k=>k_is)
   case t13=>
    dsimp only [L2.KOf]
    refine' My.mkF KX G ?hb ?e ?l ?c ?k
    (case hb=>exact fun _ _ _ _ _ _=>My.of1 (fun _=>rfl))
    (case e=>k_is);(case l=>k_is);(case c=>k_is);(case k=>k_is)
   case t14=>
    dsimp only [L2.KOf]
    refine' My.mkF KX G ?hb ?e ?l ?c ?k
    (case hb=>exact fun _ _ _ _ _ _=>My.of2 (fun _ _=>rfl))
    (case e=>k_is);(case l=>k_is);(case c=>k_is);(case k=>k_is)
   case t15=>
    dsimp only [L2.KOf]
    refine' My.mkF KX G ?hb ?e ?l ?c ?k
    (case hb=>exact fun _ _ _ _ _ _=>My.of1 (fun _=>rfl))
    (case e=>k_is);(case l=>k_is);(case c=>k_is);(case k=>k_is)
   case t16=>
    dsimp only [L2.KOf]
    refine' My.mkF KX G ?hb ?e ?l ?c ?k
    (case hb=>exact fun _ _ _ _ _ _=>My.of3 (fun _ _ _=>rfl))
    (case e=>k_is);(case l=>k_is);(case c=>k_is);(case k=>k_is)
   case t17=>
    dsimp only [L2.KOf]
    refine' My.mkF KX G ?hb ?e ?l ?c ?k
    (case hb=>exact fun _ _ _ _ _ _=>My.of2 (fun _ _=>rfl))
    (case e=>k_is);(case l=>k_is);(case c=>k_is);(case k=>k_is)
   case t18=>
    dsimp only [L2.KOf]
    refine' My.mkF KX G ?hb ?e ?l ?c ?k
    (case hb=>exact fun _ _ _ _ _ _=>My.of1 (fun _=>rfl))
    (case e=>k_is);(case l=>k_is);(case c=>k_is);(case k=>k_is)
   case t19=>
    dsimp only [L2.KOf]
    refine' My.mkF KX G ?hb ?e ?l ?c ?k
    (case hb=>exact fun _ _ _ _ _ _=>My.of1 (fun _=>rfl))
    (case e=>k_is);(case l=>k_is);(case c=>k_is);(case k=>k_is)
   case t20=>
    dsimp only [L2.KOf]
    refine' My.mkF KX G ?hb ?e ?l ?c ?k
    (case hb=>exact fun _ _ _ _ _ _=>My.of2 (fun _ _=>rfl))
    (case e=>k_is);(case l=>k_is);(case c=>k_is);(case k=>k_is)
   case t21=>
    dsimp only [L2.KOf]
    refine' My.mkF KX G ?hb ?e ?l ?c ?k
    (case hb=>exact fun _ _ _ _ _ _=>My.of1 (fun _=>rfl))
    (case e=>k_is);(case l=>k_is);(case c=>k_is);(case k=>k_is)
   case t22=>
    dsimp only [L2.KOf]
    refine' My.mkF KX G ?hb ?e ?l ?c ?k
    (case hb=>exact fun _ _ _ _ _ _=>My.of2 (fun _ _=>rfl))
    (case e=>k_is);(case l=>k_is);(case c=>k_is);(case k=>k_is)
   case t23=>
    dsimp only [L2.KOf]
    refine' My.mkF KX G ?hb ?e ?l ?c ?k
    (case hb=>exact fun _ _ _ _ _ _=>My.of3 (fun _ _ _=>rfl))
    (case e=>k_is);(case l=>k_is);(case c=>k_is);(case k=>k_is)
   case t24=>
    dsimp only [L2.KOf]
    refine' My.mkF KX G ?hb ?e ?l ?c ?k
    (case hb=>exact fun _ _ _ _ _ _=>My.of3 (fun _ _ _=>rfl))
    (case e=>k_is);(case l=>k_is);(case c=>k_is);(case k=>k_is)
   case t25=>
    dsimp only [L2.KOf]
    refine' My.mkF KX G ?hb ?e ?l ?c ?k
    (case hb=>exact fun _ _ _ _ _ _=>My.of3 (fun _ _ _=>rfl))
    (case e=>k_is);(case l=>k_is);(case c=>k_is);(case k=>k_is)
   case t26=>
    dsimp only [L2.KOf]
    refine' My.mkF KX G ?hb ?e ?l ?c ?k
    (case hb=>exact fun _ _ _ _ _ _=>My.of1 (fun _=>rfl))
    (case e=>k_is);(case l=>k_is);(case c=>k_is);(case k=>k_is)
   case t27=>
    dsimp only [L2.KOf]
    refine' My.mkF KX G ?hb ?e ?l ?c ?k
    (case hb=>exact fun _ _ _ _ _ _=>My.of3 (fun _ _ _=>rfl))
    (case e=>k_is);(case l=>k_is);(case c=>k_is);(case k=>k_is)
   case t28=>
    dsimp only [L2.KOf]
    refine' My.mkF KX G ?hb ?e ?l ?c ?k
    (case hb=>exact fun _ _ _ _ _ _=>My.of1 (fun _=>rfl))
    (case e=>k_is);(case l=>k_is);(case c=>k_is);(case k=>k_is)
   case t29=>
    dsimp only [L2.KOf]
    refine' My.mkF KX G ?hb ?e ?l ?c ?k
    (case hb=>exact fun _ _ _ _ _ _=>My.of1 (fun _=>rfl))
    (case e=>k_is);(case l=>k_is);(case c=>k_is);(case k=>k_is)
   case t30=>
    dsimp only [L2.KOf]
    refine' My.mkF KX G ?hb ?e ?l ?c ?k
    (case hb=>exact fun _ _ _ _ _ _=>My.of1 (fun _=>rfl))
    (case e=>k_is);(case l=>k_is);(case c=>k_is);(case k=>k_is)
   case t31=>
    dsimp only [L2.KOf]
    refine' My.mkF KX G ?hb ?e ?l ?c ?k
    (case hb=>exact fun _ _ _ _ _ _=>My.of1 (fun _=>rfl))
    (case e=>k_is);(case l=>k_is);(case c=>k_is);(case k=>k_is)
   case t32=>
    dsimp only [L2.KOf]
    refine' ⟨_,My.mkM KX G ?kg,⟨?pg,?hd,?po,?sa⟩,?na0,?me0,?me1,?me2⟩
    (case kg=>k_is);(case pg=>k_is);(case hd=>k_is);(case po=>k_is);(case sa=>k_is)
    (case na0=>unfold L2.NoAttr;k_is)
    case me0=>
     refine' My.mkI ?hb ?e ?i ?l ?c ?k ?mk ?kc
     (case hb=>exact fun _ _ _ _ _ _=>My.of1 (fun _=>rfl))
     (case e=>k_is);(case i=>k_is);(case l=>k_is);(case c=>k_is);(case k=>k_is);(case mk=>k_is);(case kc=>k_is)
    case me1=>
     refine' My.mkE ?hb ?e ?i ?l ?c ?k
     (case hb=>exact fun _ _ _ _ _ _=>My.of1 (fun _=>rfl))
     (case e=>k_is);(case i=>k_is);(case l=>k_is);(case c=>k_is);(case k=>k_is)
    case me2=>
     refine' My.mkE ?hb ?e ?i ?l ?c ?k
     (case hb=>exact fun _ _ _ _ _ _=>My.of2 (fun _ _=>rfl))
     (case e=>k_is);(case i=>k_is);(case l=>k_is);(case c=>k_is);(case k=>k_is)
   case t33=>
    refine' My.mkN KX G ?e
    (case e=>k_is)
   case t34=>
    refine' My.mkN KX G ?e
    (case e=>k_is)
   case t35=>
    refine' My.mkN KX G ?e
    (case e=>k_is)
   case t36=>
    refine' My.mkN KX G ?e
    (case e=>k_is)
   case t37=>
    refine' My.mkN KX G ?e
    (case e=>k_is)
   case t38=>
    refine' My.mkN KX G ?e
    (case e=>k_is)
   case t39=>
    refine' My.mkN KX G ?e
    (case e=>k_is)
   case t40=>
    refine' My.mkN KX G ?e
    (case e=>k_is)
   case t41=>
    refine' My.mkN KX G ?e
    (case e=>k_is)
   case t42=>
    refine' My.mkN KX G ?e
    (case e=>k_is)
   case t43=>
    refine' My.mkN KX G ?e
    (case e=>k_is)
   case t44=>
    refine' My.mkN KX G ?e
    (case e=>k_is)
   case t45=>
    dsimp only [L2.KOf]
    refine' ⟨_,_,_,_,_,_,_,_,_,_,_,_,_,_,My.XF.mk (My.mkM KX G ?kg0) ?kf1 ?kf2 ?kf3 ?kf4 ?kf5 ?kf6 ?kf7 ?kf8 ?kf9 ?kf10 ?kf11 ?kf12 ?kf13 ?kf14 ?kf15 (My.mkM KX G ?kg16) ?kf17 ?kf18 ?kf19 ?kf20 ?kf21 ?kf22 ?kf23 ?kf24 ?kf25 ?kf26 ?kf27 ?kf28 ?kf29 ?kf30 ?kf31 (My.mkM KX G ?kg32) (My.mkM KX G ?kg33) (My.mkM KX G ?kg34) (My.mkM KX G ?kg35) (My.mkM KX G ?kg36) (My.mkM KX G ?kg37) (My.mkM KX G ?kg38) (My.mkM KX G ?kg39) ?kf40 ?kf41 ?kf42 ?kf43 ?kf44 ?kf45 ?kf46 ?kf47 ?kf48 ?kf49 ?kf50 ?kf51 ?kf52 ?kf53 ?kf54 (My.mkM KX G ?kg55) ?kf56 ?kf57 ?kf58 ?kf59 ?kf60 ?kf61 ?kf62 ?kf63 ?kf64 ?kf65 ?kf66 ?kf67 ?kf68 ?kf69 ?kf70 (My.mkM KX G ?kg71) (My.mkM KX G ?kg72) (My.mkM KX G ?kg73)⟩
    (case kg0=>k_is)
    (case kg16=>k_is)
    (case kg32=>k_is)
    (case kg33=>k_is)
    (case kg34=>k_is)
    (case kg35=>k_is)
    (case kg36=>k_is)
    (case kg37=>k_is)
    (case kg38=>k_is)
    (case kg39=>k_is)
    (case kg55=>k_is)
    (case kg71=>k_is)
    (case kg72=>k_is)
    (case kg73=>k_is)
    (case kf1=>exact ⟨by k_exc,by k_is,by k_is,by k_is,by k_is,by k_is,⟨_,by k_is⟩⟩)
    (case kf2=>exact L2.kit_val (by k_is))
    (case kf3=>exact L2.exm_of (by k_is) (by k_is) (by k_is) (by k_is))
    (case kf4=>exact L2.kit_no (by decide) (by k_is) (by k_is) (by k_is))
    (case kf5=>exact L2.kit_no (by decide) (by k_is) (by k_is) (by k_is))
    (case kf6=>exact L2.kit_no (by decide) (by k_is) (by k_is) (by k_is))
    (case kf7=>exact L2.kit_no (by decide) (by k_is) (by k_is) (by k_is))
    (case kf8=>exact L2.kit_no (by decide) (by k_is) (by k_is) (by k_is))
    (case kf9=>exact L2.kit_no (by decide) (by k_is) (by k_is) (by k_is))
    (case kf10=>exact L2.kit_no (by decide) (by k_is) (by k_is) (by k_is))
    (case kf11=>exact L2.kit_no (by decide) (by k_is) (by k_is) (by k_is))
    (case kf12=>exact L2.kit_no (by decide) (by k_is) (by k_is) (by k_is))
    (case kf13=>exact L2.kit_no (by decide) (by k_is) (by k_is) (by k_is))
    (case kf14=>exact L2.kit_no (by decide) (by k_is) (by k_is) (by k_is))
    (case kf15=>exact L2.kit_no (by decide) (by k_is) (by k_is) (by k_is))
    (case kf17=>exact ⟨by k_exc,by k_is,by k_is,by k_is,by k_is,by k_is,⟨_,by k_is⟩⟩)
    (case kf18=>exact L2.kit_val (by k_is))
    (case kf19=>exact L2.exm_of (by k_is) (by k_is) (by k_is) (by k_is))
    (case kf20=>exact L2.kit_no (by decide) (by k_is) (by k_is) (by k_is))
    (case kf21=>exact L2.kit_no (by decide) (by k_is) (by k_is) (by k_is))
    (case kf22=>exact L2.kit_no (by decide) (by k_is) (by k_is) (by k_is))
    (case kf23=>exact L2.kit_no (by decide) (by k_is) (by k_is) (by k_is))
    (case kf24=>exact L2.kit_no (by decide) (by k_is) (by k_is) (by k_is))
    (case kf25=>exact L2.kit_no (by decide) (by k_is) (by k_is) (by k_is))
    (case kf26=>exact L2.kit_no (by decide) (by k_is) (by k_is) (by k_is))
    (case kf27=>exact L2.kit_no (by decide) (by k_is) (by k_is) (by k_is))
    (case kf28=>exact L2.kit_no (by decide) (by k_is) (by k_is) (by k_is))
    (case kf29=>exact L2.kit_no (by decide) (by k_is) (by k_is) (by k_is))
    (case kf30=>exact L2.kit_no (by decide) (by k_is) (by k_is) (by k_is))
    (case kf31=>exact L2.kit_no (by decide) (by k_is) (by k_is) (by k_is))
    (case kf40=>exact ⟨by k_exc,by k_is,by k_is,by k_is,by k_is,by k_is,⟨_,by k_is⟩⟩)
    (case kf41=>exact L2.kit_val (by k_is))
    (case kf42=>exact L2.exm_of (by k_is) (by k_is) (by k_is) (by k_is))
    (case kf43=>exact L2.kit_no (by decide) (by k_is) (by k_is) (by k_is))
    (case kf44=>exact L2.kit_no (by decide) (by k_is) (by k_is) (by k_is))
    (case kf45=>exact L2.kit_no (by decide) (by k_is) (by k_is) (by k_is))
    (case kf46=>exact L2.kit_no (by decide) (by k_is) (by k_is) (by k_is))
    (case kf47=>exact L2.kit_no (by decide) (by k_is) (by k_is) (by k_is))
    (case kf48=>exact L2.kit_no (by decide) (by k_is) (by k_is) (by k_is))
    (case kf49=>exact L2.kit_no (by decide) (by k_is) (by k_is) (by k_is))
    (case kf50=>exact L2.kit_no (by decide) (by k_is) (by k_is) (by k_is))
    (case kf51=>exact L2.kit_no (by decide) (by k_is) (by k_is) (by k_is))
    (case kf52=>exact L2.kit_no (by decide) (by k_is) (by k_is) (by k_is))
    (case kf53=>exact L2.kit_no (by decide) (by k_is) (by k_is) (by k_is))
    (case kf54=>exact L2.kit_no (by decide) (by k_is) (by k_is) (by k_is))
    (case kf56=>exact ⟨by k_exc,by k_is,by k_is,by k_is,by k_is,by k_is,⟨_,by k_is⟩⟩)
    (case kf57=>exact L2.kit_val (by k_is))
    (case kf58=>exact L2.exm_of (by k_is) (by k_is) (by k_is) (by k_is))
    (case kf59=>exact L2.kit_no (by decide) (by k_is) (by k_is) (by k_is))
    (case kf60=>exact L2.kit_no (by decide) (by k_is) (by k_is) (by k_is))
    (case kf61=>exact L2.kit_no (by decide) (by k_is) (by k_is) (by k_is))
    (case kf62=>exact L2.kit_no (by decide) (by k_is) (by k_is) (by k_is))
    (case kf63=>exact L2.kit_no (by decide) (by k_is) (by k_is) (by k_is))
    (case kf64=>exact L2.kit_no (by decide) (by k_is) (by k_is) (by k_is))
    (case kf65=>exact L2.kit_no (by decide) (by k_is) (by k_is) (by k_is))
    (case kf66=>exact L2.kit_no (by decide) (by k_is) (by k_is) (by k_is))
    (case kf67=>exact L2.kit_no (by decide) (by k_is) (by k_is) (by k_is))
    (case kf68=>exact L2.kit_no (by decide) (by k_is) (by k_is) (by k_is))
    (case kf69=>exact L2.kit_no (by decide) (by k_is) (by k_is) (by k_is))
    (case kf70=>exact L2.kit_no (by decide) (by k_is) (by k_is) (by k_is))
   case t46=>
    refine' My.mkC KX G ?e
    (case e=>k_is)
   case t47=>
    dsimp only [L2.KOf]
    refine' My.mkT KX G ?e ?l ?z ?v
    (case e=>k_is);(case l=>k_is)
    (case z=>decide)
    (case v=>exact (.cons ⟨_,rfl⟩ (.cons ⟨_,rfl⟩ (.cons ⟨_,rfl⟩ .nil))))
  obtain ⟨t,T⟩:=My.txt_of TS
  have Bx:L2.GD (L2.KOf KX) w.params mg "WORDS_BY_LETTER" My.wbl:=by
   dsimp only [L2.KOf]
   refine' My.mkG KX G ?e ?l ?m ?k ?v
   (case e=>k_is);(case l=>k_is)
   (case m=>decide)
   (case k=>exact ⟨⟨_,_,rfl,rfl⟩,⟨_,_,rfl,rfl⟩,⟨_,_,rfl,rfl⟩,True.intro⟩)
   (case v=>exact .cons ⟨⟨_,rfl⟩,⟨_,rfl⟩⟩ (.cons ⟨⟨_,rfl⟩,⟨_,rfl⟩⟩ (.cons ⟨⟨_,rfl⟩,⟨_,rfl⟩⟩ .nil)))
  have e:=hmg.symm.trans T.m_law
  cases e
  exact ⟨_,My.law_binds T.F_law,fun base _ _=>My.ok_law T Bx⟩
#print axioms PySem.Challenge.cw_noticed_k38_keepers_texts_refused_holds
